import PyProof.Rows.All
import Wide.All
import OpenK.AllK
import Wide.FinOn
import Lean
import PyProof.EqAt
import PyProof.EqKinds
import PyProof.TupleCall
import KE.KDictList
import KE.KMinBuiltin
import KE.KSortTup
import PyProof.AttrMissHeap
import PyProof.NeKinds
import PyProof.Rows.CallKwBuiltin
import PyProof.StrWalks
import PyProof.TupleIter
import PyProof.TupleOfSeq
import PySem.Challenge.RW_joinback_k27_deeds_and_standing
set_option Elab.async false
set_option linter.all false
set_option compiler.extract_closed false
set_option maxRecDepth 100000
set_option hygiene false
set_option hygiene false
local macro_rules
 |`(tactic|show 1)=>`(tactic|(repeat(any_goals(first|assumption|wp_step))))
 |`(tactic|show 2)=>`(tactic|(have D:(s.heap.push (jd led)).get? s.heap.objs.size=some (jd led):=YS _ rfl;have hT:adG {s with heap:=s.heap.push (jd led)} (.ref s.heap.objs.size) "set":=⟨_,D,rfl⟩))
 |`(tactic|show 3)=>`(tactic|(obtain⟨x,rfl,rx⟩:=r.inv1;rw[Rep]at rx))
 |`(tactic|show 4)=>`(tactic|(intro pins s σ H x y v u Q I rx N h;obtain⟨i,j,rfl,rfl,q⟩:=h;obtain⟨t,rfl⟩:=rx;obtain⟨t',rfl⟩:=N))
 |`(tactic|show 5)=>`(tactic|(intro pins s σ H Q I h))
 |`(tactic|show 6)=>`(tactic|(intro pins s σ H xs us Q I r h))
local macro_rules
 |`(1.10)=>`((λ_=>O.mono (by decide)))
 |`(1.11)=>`((by omega))
 |`(1.12)=>`((model X.prog X.w))
 |`(1.13)=>`((bL X N' scope C Y H fp))
 |`(1.14)=>`((model prog w))
 |`(1.15)=>`((.DictComp kx vx [⟨target,iter,ifs,0⟩] scope pos))
 |`(1.16)=>`((aq false 0))
 |`(1.17)=>`((ixb (λ_=>aR O)))
 |`(1.18)=>`((x==("__debug__":Str)))
 |`(1.19)=>`((aq false 1))
 |`(1.20)=>`((aj false 1))
 |`(1.21)=>`((λQ U=>?_))
 |`(1.22)=>`((cb_eq _ (λ_=>rfl) O.units))
 |`(1.23)=>`((aj false 0))
 |`(1.24)=>`((eQ [0] (λ_=>I) 1.10 (cU 0 (cT (bM (aa aJ ao))))))
set_option hygiene true
local macro_rules
 |`(tactic|simp![$x,*]$[$l:location]?)=>`(tactic|simp only[$x,*]$[$l:location]?)
set_option hygiene true
open Lean.Parser.Command Lean.Parser.Term in
local macro_rules
 |`(command|def $i:declId $s:optDeclSig := $v)=>`(command|noncomputable def $i $s := $v)
 |`(command|def $i:declId $s:optDeclSig $[$a:matchAlt]*)=>`(command|noncomputable def $i $s:optDeclSig $[$a:matchAlt]*)
section
def YZ:=@if_pos
def Zi:=@if_neg
def Zn:=@decide_eq_false
def Zy:=@if_true
def aao:=@decide_eq_true
def aaz:=@if_false
def aaF:=@beq_eq_false_iff_ne
def abC:=@decide_eq_true_eq
open PySem renaming wpAny_bind->gD,Shared->zb,wpAny_pure->YD,sizeLine->YM,starEach->YQ,mainGlobals->Zd,Program->Zr,FuncData->ZC,compareOp->ZL,Around->ZW,wpAny_newObj_type->aae,wpAny_holding->aaj,backTo->aak,assignEach->aam,wpAny_mono->aap,codeAny_builtin->aar,binaryOp->aay,foldedSetIterable->aaD,attributeBase->aaO,holding->aaP,codeAny_call_builtin->aaQ,wpAny_callSpecial?_slot->aaR,bootBuiltins->aaW,mem_of_lookup->abf,IsPair->abg,codeAny->abh,keywordEach->abi,codeAny_mono->abm,wpAny_Call_Name_kw->abn,wpAny_setField_rec->abq,wpAny_passesOwn->abr,swapsWithSole->abv,plainId_quiet->abx,boot_len->aby,wpAny_truthy_bool->abz,wpAny_pyIter_list->abA,sysModules->abD,swapsWith->abH,wpAny_seqItems->abI,wpAny_standAt->abS
open PySem renaming swappedStores->abT,rawInt->abU,IsPart->ab4,wpAny_typeOf->ab5,bindName->ab9,backToKw->aca,call_meets->acb,wpAny_isInstance->acd,sizeLine_eq->acg,sliceBounds->ach,letOwnedTupleGo->acj,assign->acn,getMethod->acp,tupleKind_room_in1->acs,wpAny_comprehension_free->acu,scanBound->acy,standAt->acz,wpAny_rule->acA,wpAny_bindName->acB,PlainAttrs->acC,wpAny_pyIter_enum->acK,wpAny_pyNext_list_item->acN,wpAny_field->acQ,assignInOrder->acT,behindInMarks->acU,NameKind->acY,wpAny_pyIter_zip->ac3,wpAny_pyNext_list_end->ac5,wpAny_execs_nil->ade,wpAny_updateSeq_pair->adg,getItem->adl,Keyword->adm,wpAny_of_eq->adt,wpAny_letOwnedTupleGo_enum->adD,wpAny_onRaise->adH,wpAny_letOwnedTupleGo_zip->adQ,valueAt->adV,callerA->adW,Paired->adX,pyNext->adY
open PySem renaming pyIter->adZ,Operator->ad0,Result->ad1,noFill_tuple_add->ad3,wpAny_call_entry->ad4,callWith->aea,wpAny_pyNext_tuple_item->aec,tupleKind->aeg,exec_Assign_arm->aeh,Fin->aen,wpAny_pyNext_tuple_end->aeq,wpAny_throw->aev,unsupported->aew,isTrue->aeA,setItem->aeB,BindsTo->aeC,typeOf->aeE,newList->aeF,builtinLookup_eq_fast->aeH,wpAny_notOrdered_dict->aeI,wpAny_setAddHashed_of->aeK,wpAny_runValue->aeL,weight_type_call_type->aeM,wpAny_load->aeS,wpAny_call->aeT,wpAny_newFunctionEnv->aeY,attributeErrorLeaves->aeZ,seq_tuple_add->ae3,wpAny_attempt->ae5,wpAny_dictSet_pairs->ae_,Within->afi,PassesOwn->afk,concat_meets->afq,seqIndex_neg->afr,call_meetsIn->aft,list_append->afG,seqIndex_of->afN,wpAny_letGo->afO,call->af7,holding->agj
open PySem.Heap renaming get?_push_of_some->za,lt_size->YG,get?_push_size->YS,size_push->ZQ,get?_update_other->aaY,SameBut->ab2,get?_update_self->ac6,get?_update_ne->afc,size_update->afW
open List renaming mem_append_right->zc,mem_append->YC,mem_cons->YJ,map_cons->YL,getElem?_eq_getElem->YT,map_map->YW,nodup_append->YX,mem_map->Y_,mem_append_left->Za,length_map->Zc,mem_cons_of_mem->Zf,nodup_cons->Zg,length_cons->Zh,getElem?_append_left->Zo,map_append->Zq,mem_of_getElem?->Zv,cons_append->Zx,nodup_nil->Zz,map_congr_left->ZD,findIdx?_eq_some_iff_getElem->ZG,mem_cons_self->ZJ,mem_singleton->ZM,length_nil->ZP,range->ZR,replicate->ZX,map_nil->aaa,getElem?_append_right->aad,sublist_append_right->aat,Sublist->aav,getD_eq_getElem?_getD->aaC,filterMap_cons->aaG,findIdx?_eq_none_iff->aaH,mem_iff_getElem?->aaJ,filter_cons->aaL,Perm->aaM,length->aaX,eraseIdx_append_of_length_le->aaZ,drop_length->aa1,mem_range->aa2,length_append->aa3
open List renaming findIdx?_cons->aa4,getElem?_eq_none_iff->aa5,find?_cons->aa9,forall_mem_cons->abb,getElem_cons_drop->abj,set_cons_succ->abo,getElem?_inj->abB,drop_eq_getElem_cons->abE,length_take->abK,getElem_mem->abN,not_mem_nil->abO,getElem?_cons_succ->abQ,pairwise_cons->abX,lookup->abZ,take_of_length_le->ab0,append_assoc->ab1,perm_append_comm->ab7,all_cons->ace,Pairwise->acf,of_mem_zip->ack,mem_filterMap->aco,length_filterMap_le->acw,sublist_append_left->acx,drop_zero->acD,reverse_cons->acJ,getElem?_set->acL,getElem?_set_self->acM,drop_eq_nil_of_le->acS,any_cons->acV,map_take->acX,length_drop->acZ,nil_sublist->ac0,any_eq_true->ac1,countP_cons->ac2,take_append_drop->ac7,getElem?_eq_none->ac8,set_append_right->ac9,eq_nil_or_concat->ac_,concat_eq_append->ada,eraseIdxIfInBounds_toArray->adb
open List renaming set_cons_zero->ady,set_comm->adB,pairwise_map->adN,lookup_cons->ad5,set_eq_of_length_le->ad7,take_length->ad8,all_eq_true->ad9,zip->ad_,append_inj'->aeb,getElem?_replicate->aed,eraseIdx_cons_succ->aee,getElem?_cons_zero->aef,forIn_cons->aem,range_succ_eq_map->aeu,map_id->aez,eraseIdx_sublist->aeJ,filterMap_append->aeP,length_dropLast->aeW,getElem?_of_mem->ae1,getElem?_range->afb,getElem_of_mem->afd,length_zipWith->afe,toArray->afx,find?_eq_none->afz,singleton_inj->afA,take_sublist->afF,ext_getElem?->afI,getElem_inj->afP,mem_reverse->afY,map_fst_zip->afZ,map_snd_zip->af0,zipIdx_cons->af3,mem_filter->af6,zipIdx_nil->af9,forIn_nil->agf
open Option renaming bind_some->YF,map_some->aaI,isSome_map->adM,isSome_iff_exists->ad2,map_eq_some_iff->aet,getD_none->afU,getD_some->af1
open PySem.W renaming Frag->YH,findIn->Zm,isFn->aaq,kia_one->aaw,emptyDict->aaE,instObj->aa7,keepIn->ab3,plainGet->ab_,fnOf->acq,hasDictIn->acF,kitx_list->acG,kitx_dict->acH,plainGet_of->adh,lookIn->adi,kitOne->adk,kitAny->adn,callWith_K->adu,methodObj->adI,plainOver->adK,takerIn->aei,makesIn->aej,OpenLaw->ael,cellsFrom_some->aer,codeIn->aeD,methodCall_KW->aeO,kitx_float->afl,kitx_tuple->afm,kitx_none->afD,kitx_bool->afE,handedIn->afQ,kitx_int->afR,kitx_str->afS,kitx_own->afT,kas_kind->af2,kdl_dict->af4,WalkO->agi
open Nat renaming le_refl->YK,ne_of_lt->Zb,lt_of_lt_of_le->Ze,lt_irrefl->aai,le_trans->aau,ne_of_gt->aaA,lt_succ_self->aaK,zero_le->aaN,lt_succ_of_lt->aaT,le_of_lt->abJ,sub_self->abM,zero_add->ab6,le_succ->adq,succ_ne_self->afX,min_eq_right->af5,min_eq_left->aga
open Sum renaming inr->Zj,inl->adU
open PySem.Value renaming ref->Zk,none->ZZ,type->aa6,int->abG,str->ab8,bool->adO,float->aep,isStrOf->agh
open Ne renaming symm->Zt
open PySem.F renaming plainAttrs_list->Zu,slot_list_append->ZS,type_list_append->ZV,called_set->aal,slot_tuple_iterator_next->aaB,slot_list_getattribute->abL,slot_zip_next->abY,args_tuple_add_2->acr,entry_tuple_add->acE,slot_tuple_add->acP,args_tuple_iterator_next_1->ado,entry_tuple_iterator_next->adw,slot_dict_delitem->adP,slot_list_reverse->adS,type_list_reverse->adT,slot_list_pop->aeQ,type_list_pop->aeR,args_list_append_2->aeV,args_dict_update_2->ae0,entry_list_append->ae9,entry_dict_update->afa,slot_list_append->afs,slot_dict_update->afu,entry_type_call->afJ,args_zip_next_1->afL,plain_list_iadd->afM
open Bool renaming and_eq_true->Zw,false_eq_true->ZF,false_ne_true->ZK,eq_iff_iff->abW,and_true->adF,and_eq_true_iff->aeX,and_self->ae7,or_eq_true->af8,and_assoc->agc,and_false->agd
open Option.some renaming inj->Z_,injEq->abd
open PySem.Builtin.Str renaming occurrences->aab,strKind->aci,partsBetween->acv
open True renaming intro->aac
open PySem.Builtin.Slice renaming sliceAdjust->aaf,slicePlaces->aag,sliceApplied->abw
open PySem.Around renaming under_plainId->aah,under->afn,under_plain->afw
open PyProof.Rows renaming slot_tuple_getitem->aan,boot_isinstance->aas,callWith_type1->aaU,assignInOrder_cons->abl,envOfC->acO,AllBare->ac4,setObjOf_fresh->adx,assignInOrder_nil->adJ,boot_list->aeo,subscriptTail_builtinR->aes,mirror_perm->aex,seqObj->aeN,entry_tuple_getitem->ae8,IntsAre->afB
open Or renaming inr->aax,inl->aa_
open PyProof.Rows.F renaming plain_set_update_loop->aaS,entry_set_update_loop->abR
open Array renaming length_toList->aaV,getD_eq_getD_getElem?->abp,getElem?_toList->abt,getElem?_eq_none->aey,getElem_toList->ae2
open False renaming elim->aa0
open PySem.Builtin.Tuple renaming tupleExact->aa8,tupleItemsOf->adC
open PySem.PassesOwn renaming never->aba
open List.Sublist renaming refl->abe
open Int renaming le_refl->abk,toNat_natCast->acI,le_trans->adf,emod_lt_of_pos->afy,emod_nonneg->af_
open ForInStep renaming yield->abu
open PySem.Builtin.SmallTypes renaming nextOf->abF,stopIteration->adE,ownedTupleFields->afC,newRecord->agb
open PySem.Builtin.Dict renaming updateFrom->abP,selfAndRest->ad6
open PySem.Obj renaming mapSeq->abV,data_mapFields->adv,isFreed_of_fields->aeG,cls_mapFields->afH
open PySem.Calls renaming callWith_builtin->acR,Name_function_global->adA,spliced_nil->adL,evalArgs_plain->aeU,spliced_cons->afp
open Function renaming comp->acW
open PySem.Builtin.Frozenset renaming updateFrom->adp
open PySem.Paired renaming length->adz
open PySem.Shared renaming TypeIs->adG
open PySem.Challenge renaming pw_joinback_k27_deeds_and_standing->adR
open PySem.Heap.DictOf renaming new->aek
open PySem.NameKind renaming free->ae4
open Prod.mk renaming injEq->ae6
open PySem.SeqAt.EqAt renaming int_str->afg,str_int->afh,same->agg
open PySem.Flow renaming next->afj
open PySem.Code renaming isFrame->afo,quiet_builtin->afv
open List.Perm renaming mem_iff->afK,refl->age
open PySem.IsL renaming update->afV
open PySem
variable{XP:(Str->Option Value)->Heap->Prop}{a it f C dx sl l:Addr}{A:Around}{g':Array GenState}{p:Array Nat}{items:Array Value}{b led:Bool}{op:CmpOp}{d' d:Drawn}{env:Env}{e c tg value elt target:Expr}{h h' base:Heap}{g:Int->Int->Int}{pins:List (Addr×Obj)}{ks:List (List Str)}{ch M fp L I:List Addr}{outer:List Env}{es ifs elts:List Expr}{vs:List Int}{js:List Nat}{N ns ps N' xs ys fl pre:List Str}{us its:List Value}{t' i j n tk x1:Nat}{ob oc pr:Nat->Bool}{tn:Nat->Heap->Prop}{ρ:Nat->Int}{o:Obj}{pos pos' px py tpos apos p2 cpos pos2:Pos}{prog:Program}{scope:Scope}{s:Shared}{x y name U:Str}{mA mg:Str->Option Value}{q:Str->Option acY}{T:String}{κ α β ι:Type}{u v O:Value}{RR:Value->Addr->ad1->zb->Prop}{E:Value->Shared->Prop}{Q:Value->zb->Prop}{w:World}{YP:World->Heap->Prop}{fd:ZC}{P:Zr}{R:ad1->zb->Prop}{s' Y:zb}{pl:ι->Sem Bool}
namespace L2
open PySem PySem.Spec PyProof.Rows
abbrev Key:=Sum Int Str
def uJ:Key->Value->Bool
 |.inl k,v=>Value.isInt k v
 |.inr x,v=>agh x v
def Yi(w:World):Key->Int
 |.inl k=>hashInt k
 |.inr x=>hashStr w x
theorem di:∀{k:Key}{v:Value},uJ k v=true->(∃i t,k=adU i/\v=abG i t)∨(∃x t,k=Zj x/\v=ab8 x t)
 |.inl i,v,h=>by
  obtain⟨t,e⟩:=Value.isInt_shape (k:=i) (v:=v) h;exact .inl ⟨i,t,rfl,e⟩
 |.inr x,v,h=>by
  obtain⟨t,e⟩:=Value.isStrOf_shape (x:=x) (v:=v) h;exact .inr ⟨x,t,rfl,e⟩
theorem Hx(i:Int)(t:Tok):uJ (.inl i) (.int i t)=true:=by simp[uJ,Value.isInt]
theorem Jo(x:Str)(t:Tok):uJ (.inr x) (.str x t)=true:=by simp[uJ,agh]
theorem Ur(a b:Int):decide ((adU a:Key)=adU b)=(a==b):=by
 by_cases e:a=b
 .subst e;simp
 .have h:¬(adU a:Key)=adU b:=λq=>e (Sum.inl.inj q)
  rw[Zn h];exact(aaF.mpr e).symm
theorem Vz(a b:Str):decide ((Zj a:Key)=Zj b)=decide (a=b):=by
 by_cases e:a=b
 .subst e;simp
 .have h:¬(Zj a:Key)=Zj b:=λq=>e (Sum.inr.inj q)
  rw[Zn h,Zn e]
theorem Ua(a:Int)(b:Str):decide ((adU a:Key)=Zj b)=false:=Zn (λq=>nomatch q)
theorem VL(a:Str)(b:Int):decide ((Zj a:Key)=adU b)=false:=Zn (λq=>nomatch q)
noncomputable def bf(prog:Zr)(w:World):PySem.KeyKind prog w Key where
 is:=uJ
 hash:=Yi w
 inj:=λv a b Y U=>by
  rcases di Y with⟨i,t,rfl,rfl⟩|⟨x,t,rfl,rfl⟩
  .rcases di U with⟨j,u,rfl,e⟩|⟨y,u,rfl,e⟩
   .injection e with e1 _;rw[e1]
   .exact nomatch e
  .rcases di U with⟨j,u,rfl,e⟩|⟨y,u,rfl,e⟩
   .exact nomatch e
   .injection e with e1 _;rw[e1]
 byValue:=λk v h=>by
  rcases di h with⟨i,t,rfl,rfl⟩|⟨x,t,rfl,rfl⟩<;>rfl
 pyHash:=λB h=>by
  rcases di B with⟨i,t,rfl,rfl⟩|⟨x,t,rfl,rfl⟩
  .exact wpAny_pyHash_int h
  .exact wpAny_pyHash_str h
 eqBool:=λJ B h=>by
  rcases di J with⟨i,t,rfl,rfl⟩|⟨x,t,rfl,rfl⟩
  .rcases di B with⟨j,u,rfl,rfl⟩|⟨y,u,rfl,rfl⟩
   .rw[Ur]at h;exact wpAny_eqBool_int h
   .rw[Ua]at h;exact afg i t y u _ _ _ _ h
  .rcases di B with⟨j,u,rfl,rfl⟩|⟨y,u,rfl,rfl⟩
   .rw[VL]at h;exact afh x t j u _ _ _ _ h
   .rw[Vz]at h;exact wpAny_eqBool_str h
 «strs»:=λk x t v h=>by
  rcases di h with⟨i,u,rfl,e⟩|⟨y,u,rfl,e⟩
  .exact nomatch e
  .injection e with e1 _
   subst e1;cases v<;>rfl
theorem Bp(prog:Zr)(w:World)(i:Int)(t:Tok):(bf prog w).is (.inl i) (.int i t)=true:=Hx i t
theorem Dg(prog:Zr)(w:World)(x:Str)(t:Tok):(bf prog w).is (.inr x) (.str x t)=true:=Jo x t
inductive V where
 |non|bl (b:Bool)|int (i:Int)|str (x:Str)|byt (b:Array UInt8)|flt (b:UInt64)|ref (a:Addr)|ty (n:String)
 deriving DecidableEq
def RelV:V->Value->Prop
 |.non,u=>u=ZZ
 |.bl b,u=>u=adO b
 |.int i,u=>∃t,u=abG i t
 |.str x,u=>∃t,u=ab8 x t
 |.byt b,u=>∃t,u=Value.bytes b t
 |.flt b,u=>∃t,u=aep b t
 |.ref a,u=>u=Zk a
 |.ty n,u=>u=aa6 n
noncomputable abbrev Vals:List V->List Value->Prop:=adX RelV
variable{xs:List V}
theorem Vals.length(r:Vals xs us):xs.length=us.length:=adz r
theorem Vals.get:∀{xs:List V}{us:List Value}{i:Nat}{x:V},Vals xs us->xs[i]? =some x->∃u,us[i]? =some u/\RelV x u
 |_,_,_,_,.nil,e=>by simp at e
 |_,_,0,_,.cons r _,e=>by simp at e;subst e;exact⟨_,rfl,r⟩
 |_,_,i+1,x,.cons _ t,e=>by
  obtain⟨u,h1,h2⟩:=Vals.get (i:=i) (x:=x) t (by simpa using e);exact⟨u,by simpa using h1,h2⟩
theorem Vals.set{x:V}(r:RelV x u):∀{xs:List V}{us:List Value}(i:Nat),Vals xs us->Vals (xs.set i x) (us.set i u)
 |_,_,_,.nil=>.nil
 |_,_,0,.cons _ t=>.cons r t
 |_,_,i+1,.cons q t=>.cons q (Vals.set r i t)
theorem Vals.append:∀{xs ys:List V}{us ws:List Value},Vals xs us->Vals ys ws->Vals (xs++ys) (us++ws)
 |_,_,_,_,.nil,s=>s
 |_,_,_,_,.cons r t,s=>.cons r (Vals.append t s)
theorem Vals.take:∀{xs:List V}{us:List Value}(n:Nat),Vals xs us->Vals (xs.take n) (us.take n)
 |_,_,0,_=>.nil
 |_,_,_+1,.nil=>.nil
 |_,_,n+1,.cons r t=>.cons r (Vals.take n t)
theorem Vals.drop:∀{xs:List V}{us:List Value}(n:Nat),Vals xs us->Vals (xs.drop n) (us.drop n)
 |_,_,0,r=>r
 |_,_,_+1,.nil=>.nil
 |_,_,n+1,.cons _ t=>Vals.drop n t
def qd:Option V->Option Value->Prop
 |some v,some u=>RelV v u
 |none,none=>True
 |_,_=>False
def KV:List (κ×V)->List (κ×Value)->Prop:=adX λ(p:κ×V)(q:κ×Value)=>p.1=q.1/\RelV p.2 q.2
def kV:Key->V
 |.inl i=>.int i
 |.inr x=>.str x
inductive HO where
 |lst (xs:List V)
 |tup (xs:List V)
 |dK (kvs:List (Key×V))|dT (kvs:List (List Key×V))
 |set (S:Int->Bool) (n:Nat)
 |ins (C dx:Addr) (fs:List (Str×V))
 |own (x:Addr)
 |xd (fs:List (Str×V))
 |met (f x:Addr)
 |rng (lo hi:Int)
 |frz (o:Obj) (u:HO)
 |tbl (ps:Array Value)
 |ext (φ:Heap->Prop)
abbrev Hp:=Addr->Option HO
def upd(H:Hp)(a:Addr)(o:HO):Hp:=λb=>if b=a then some o else H b
variable{H:Hp}{o:HO}
theorem aY:upd H a o a=some o:=by unfold upd;rw[YZ rfl]
variable{b:Addr}
theorem aM(h:b≠a):upd H a o b=H b:=by unfold upd;rw[Zi h]
theorem Gb{u:HO}:upd (upd H a o) a u=upd H a u:=by
 funext b;unfold upd;split<;>rfl
theorem GX{u:HO}(h:H a=some o)(h':H b=some u)(d:o≠u):a≠b:=by
 intro e;subst e;rw[h]at h';exact d (Z_ h')
theorem aV(h:H a=some o)(h':H b=none):a≠b:=by
 intro e;subst e;rw[h]at h';cases h'
def qU(h:Heap)(a:Addr)(items:Array Value):Prop:=∃o,h.get? a=some o/\o.cls= .type "tuple"/\∃n,o.data= .seq items n/\o.dict=none
theorem qU.new(h:Heap)(items:Array Value):qU (h.push {cls:=.type "tuple",data:=.seq items}) h.objs.size items:=⟨_,YS _ rfl,rfl,_,rfl,rfl⟩
theorem qU.t(x:qU h a items):IsTup h a items:=let⟨o,e,c,n,d,_⟩:=x;⟨o,e,c,n,d⟩
section
variable(P:Program)(w:World)
def cJ(H:Hp)(h:Heap)(a:Addr):HO->Prop
 |.lst xs=>xs.length<=YM/\∃(its:List Value)(n:Nat),Vals xs its/\h.get? a=some {cls:=.type "list",data:=.seq its.toArray n}
 |.tup xs=>xs.length<=YM/\∃its:List Value,Vals xs its/\qU h a its.toArray
 |.dK kvs=>kvs.length<=YM/\(a==abD)=false/\∃vs,KV kvs vs/\h.DictOf (bf P w) a vs
 |.dT kvs=>kvs.length<=YM/\(a==abD)=false/\∃xs:List (List Key×Addr×Value),
  adX (λ(p:List Key×V)(q:List Key×Addr×Value)=>p.1=q.1/\H q.2.1=some (.tup (p.1.map kV))/\RelV p.2 q.2.2) kvs xs/\
  ∃o es ep,h.get? a=some o/\o.ExactDict/\o.data= .dict es ep/\es.toList=xs.map (entryOfKey (aeg (bf P w)))/\(xs.map (·.1)).Nodup
 |.set S n=>h.SetOf (intKind P w) a S n
 |.ins C dx fs=>H dx=some (.own a)/\fs.length<=1000/\dx≠a/\h.get? a=some (aa7 C dx)/\
  ∃mA,h.Ns1 dx mA/\(∀f,qd (fs.lookup f) (mA f))/\afi mA (fs.map (·.1))
 |.own _=>∃o,h.get? a=some o
 |.xd fs=>∃mA,h.Ns1 a mA/\∀f,qd (fs.lookup f) (mA f)
 |.rng lo hi=>∃t u v,h.get? a=some {cls:=.type "range",data:=.fields #[.int lo t,.int hi u,.int 1 v]}
 |.frz o u=>h.get? a=some o/\cJ H h a u
 |.tbl ps=>h.get? a=some {cls:=.none,data:=.fields ps}
 |.met f x=>h.get? a=some (adI (.ref f) (.ref x))
 |.ext B=>B h/\(∃o,h.get? a=some o)/\∀h1 h2:Heap,B h1->(∀o,h1.get? a=some o->h2.get? a=some o)->B h2
def HOk(H:Hp)(h:Heap):Prop:=∀a o,H a=some o->cJ P w H h a o
end
variable{P:Program}
theorem cJ.lt(x:cJ P w H h a o):a<h.objs.size:=by
 cases o with
 |lst xs=>obtain⟨_,_,_,_,e⟩:=x;exact YG e
 |tup xs=>obtain⟨_,_,_,p⟩:=x;exact p.t.lt
 |dK kvs=>obtain⟨_,_,_,_,o,_,_,e,_⟩:=x;exact YG e
 |dT kvs=>obtain⟨_,_,_,_,o,_,_,e,_⟩:=x;exact YG e
 |set S n=>obtain⟨o,_,_,_,e,_⟩:=x;exact YG e
 |ins C dx fs=>obtain⟨_,_,_,e,_⟩:=x;exact YG e
 |own y=>obtain⟨_,e⟩:=x;exact YG e
 |xd fs=>obtain⟨_,⟨_,_,_,e,_⟩,_⟩:=x;exact YG e
 |rng lo hi=>obtain⟨_,_,_,e⟩:=x;exact YG e
 |frz ob u=>obtain⟨e,_⟩:=x;exact YG e
 |tbl ps=>exact YG (show h.get? a=some _ from x)
 |met f y=>exact YG (show h.get? a=some _ from x)
 |ext B=>obtain⟨_,⟨_,e⟩,_⟩:=x;exact YG e
theorem Paired.mapP{F G:α->β->Prop}:∀{q:List α}{B:List β},adX F q B->(∀a b,F a b->G a b)->adX G q B
 |_,_,.nil,_=>.nil
 |_,_,.cons r t,f=>.cons (f _ _ r) (Paired.mapP t f)
variable{H':Hp}
theorem cJ.stay(x:cJ P w H h a o)(k:∀b u,(b=a∨H b=some (.own a))->h.get? b=some u->h'.get? b=some u)
  (J:∀b,H b=some (.own a)->H' b=some (.own a)) (U:∀b xs,H b=some (.tup xs)->H' b=some (.tup xs)):cJ P w H' h' a o:=by
 induction o with
 |lst xs=>obtain⟨z,its,n,r,e⟩:=x;exact⟨z,its,n,r,k _ _ (.inl rfl) e⟩
 |tup xs=>obtain⟨z,its,r,ob,e,c⟩:=x;exact⟨z,its,r,ob,k _ _ (.inl rfl) e,c⟩
 |dK kvs=>obtain⟨z,y,vs,r,ob,es,ep,e,c⟩:=x;exact⟨z,y,vs,r,ob,es,ep,k _ _ (.inl rfl) e,c⟩
 |dT kvs=>
  obtain⟨z,y,xs,r,ob,es,ep,e,c⟩:=x;exact⟨z,y,xs,Paired.mapP r λp q z=>⟨z.1,U _ _ z.2.1,z.2.2⟩,ob,es,ep,k _ _ (.inl rfl) e,c⟩
 |set S n=>obtain⟨ob,es,ep,t,e,c⟩:=x;exact⟨ob,es,ep,t,k _ _ (.inl rfl) e,c⟩
 |ins C dx fs=>
  obtain⟨d,z,D,e,mA,⟨F,es,ep,e2,c⟩,r⟩:=x;exact⟨J _ d,z,D,k _ _ (.inl rfl) e,mA,⟨F,es,ep,k _ _ (.inr d) e2,c⟩,r⟩
 |own y=>obtain⟨ob,e⟩:=x;exact⟨ob,k _ _ (.inl rfl) e⟩
 |xd fs=>obtain⟨mA,⟨F,es,ep,e,c⟩,r⟩:=x;exact⟨mA,⟨F,es,ep,k _ _ (.inl rfl) e,c⟩,r⟩
 |rng lo hi=>obtain⟨t,u,v,e⟩:=x;exact⟨t,u,v,k _ _ (.inl rfl) e⟩
 |frz ob u O=>obtain⟨e,q⟩:=x;exact⟨k _ _ (.inl rfl) e,O q⟩
 |tbl ps=>
  have e:h.get? a=some {cls:=.none,data:=.fields ps}:=x;show h'.get? a=some {cls:=.none,data:=.fields ps};exact k a _ (.inl rfl) e
 |met f y=>
  have e:h.get? a=some (adI (.ref f) (.ref y)):=x;show h'.get? a=some (adI (.ref f) (.ref y));exact k a _ (.inl rfl) e
 |ext B=>obtain⟨p,⟨o,e⟩,st⟩:=x;exact⟨st _ _ p λo q=>k _ _ (.inl rfl) q,⟨o,k _ _ (.inl rfl) e⟩,st⟩
theorem HOk.lt(x:HOk P w H h)(e:H a=some o):a<h.objs.size:=(x a o e).lt
theorem HOk.fresh(x:HOk P w H h)(e:h.objs.size<=a):H a=none:=by
 cases q:H a with
 |none=>rfl
 |some u=>exact absurd (Ze (x.lt q) e) (aai _)
theorem HOk.kept(x:HOk P w H h)(k:∀b u,h.get? b=some u->h'.get? b=some u):HOk P w H h':=λa o e=>
 (x a o e).stay (λb u _ q=>k b u q) (λ_ q=>q) λ_ _ q=>q
theorem HOk.laid(x:HOk P w H h)(k:∀b u,h.get? b=some u->h'.get? b=some u)(N:h.objs.size<=a)(new:cJ P w (upd H a o) h' a o):HOk P w (upd H a o) h':=λb u e=>by
 have hn:=x.fresh N;by_cases U:b=a
 .subst U;rw[aY]at e;cases e;exact new
 .rw[aM U]at e
  exact(x b u e).stay (λc v _ q=>k c v q) (λc q=>by rw[aM (aV q hn)];exact q) λc xs q=>by rw[aM (aV q hn)];exact q
def Rd(H:Hp)(a:Addr)(u:HO):Prop:=H a=some u∨∃o,H a=some (.frz o u)
theorem Rd.ok{P:Zr}{u:HO}(r:Rd H a u)(x:HOk P w H h):cJ P w H h a u:=by
 rcases r with r|⟨o,r⟩
 .exact x a u r
 .obtain⟨_,q⟩:=x a _ r
  exact q
def Mut:Option HO->Prop
 |some (.lst _)=>True
 |some (.dK _)=>True
 |some (.dT _)=>True
 |some (.set _ _)=>True
 |some (.ins _ _ _)=>True
 |some (.ext _)=>True
 |_=>False
variable{x e:Addr}{o':HO}
theorem HOk.write(ok:HOk P w H h)(mu:Mut (H x))(V:e=x∨H e=some (.own x))(k:∀b u,b≠e->h.get? b=some u->h'.get? b=some u)(J:∃u,h'.get? e=some u)
  (new:cJ P w (upd H x o') h' x o'):HOk P w (upd H x o') h':=λb u q=>by
 have F:∀c y,H c=some (.own y)->c≠x:=λc y r z=>by subst z;rw[r]at mu;exact mu
 have I:∀c xs,H c=some (.tup xs)->c≠x:=λc xs r z=>by subst z;rw[r]at mu;exact mu
 by_cases U:b=x
 .subst U;rw[aY]at q;cases q;exact new
 .rw[aM U]at q
  by_cases D:b=e
  .have q':H b=some (.own x):=by
    rcases V with z|z
    .exact absurd (D.trans z) U
    .rw[D];exact z
   rw[q]at q';cases q';obtain⟨v,B⟩:=J;exact⟨v,by rw[D];exact B⟩
  .refine(ok b u q).stay (λc v Z r=>k c v ?_ r) (λc r=>by rw[aM (F c b r)];exact r) λc xs r=>by rw[aM (I c xs r)];exact r
   rcases Z with rfl|Z
   .exact D
   .rintro rfl
    rcases V with z|z
    .exact F c b Z z
    .rw[Z]at z;cases z;exact U rfl
structure Un(fs ex:List Addr)(H H':Hp)(h h':Heap):Prop where
 keep:∀b o,h.get? b=some o->H b=none->b∉fs->b∉ex->h'.get? b=some o
 slot:∀b o,h.get? b=some o->H b=none->b∈fs->b∉ex->∃sl,h'.get? b=some {o with slots:=sl}
 free:∀b o,h.get? b=some o->H b=none->b∉ex->H' b=none
 there:∀b o,h.get? b=some o->b∉ex->∃o',h'.get? b=some o'
 tups:∀b xs,H b=some (.tup xs)->H' b=some (.tup xs)
 frzs:∀b o u,H b=some (.frz o u)->H' b=some (.frz o u)
 tbls:∀b ps,H b=some (.tbl ps)->∃more,H' b=some (.tbl (ps++more))
section
variable{fs fs' ex ex':List Addr}{H H1 H2:Hp}{h h1 h2 h':Heap}{a x e:Addr}{o:HO}
theorem Un.any(u:Un fs ex H H1 h h1){b:Addr}{ob:Obj}(q:h.get? b=some ob)(n:H b=none)(F:b∉ex):∃sl,h1.get? b=some {ob with slots:=sl}:=by
 by_cases U:b∈fs
 .exact u.slot b ob q n U F
 .exact⟨ob.slots,u.keep b ob q n U F⟩
theorem Un.kept(k:∀b u,h.get? b=some u->h'.get? b=some u):Un fs ex H H h h':=
 ⟨λb ob q _ _ _=>k b ob q,λb ob q _ _ _=>⟨ob.slots,k b ob q⟩,λ_ _ _ n _=>n,λb ob q _=>⟨ob,k b ob q⟩,λ_ _ q=>q,λ_ _ _ q=>q,λ_ ps q=>⟨#[],by rw[q];simp⟩⟩
theorem Un.refl:Un fs ex H H h h:=Un.kept λ_ _ q=>q
theorem Un.laid(k:∀b u,h.get? b=some u->h'.get? b=some u)(N:h.objs.size<=a)(hn:H a=none):Un fs ex H (upd H a o) h h' where
 keep:=λb u q _ _ _=>k b u q
 slot:=λb u q _ _ _=>⟨u.slots,k b u q⟩
 free:=λb u q n _=>by rw[aM (Zb (Ze (YG q) N))];exact n
 there:=λb u q _=>⟨u,k b u q⟩
 tups:=λb xs q=>by rw[aM (aV q hn)];exact q
 frzs:=λb u xs q=>by rw[aM (aV q hn)];exact q
 tbls:=λb ps q=>⟨#[],by rw[aM (aV q hn),q];simp⟩
theorem Un.write(mu:Mut (H x))(V:e=x∨H e=some (.own x))(k:∀b u,b≠e->h.get? b=some u->h'.get? b=some u)(J:∃u,h'.get? e=some u):Un fs ex H (upd H x o) h h':=by
 have F:∀b,H b=none->b≠x:=λb n z=>by subst z;rw[n]at mu;exact mu
 have U:∀b,H b=none->b≠e:=λb n z=>by
  subst z;rcases V with r|r
  .exact F b n r
  .rw[n]at r;cases r
 have N:∀b u,H b=some u->¬Mut (some u)->b≠x:=λb u q B z=>by subst z;rw[q]at mu;exact B mu
 refine⟨λb u q n _ _=>k b u (U b n) q,λb u q n _ _=>⟨u.slots,k b u (U b n) q⟩,λb u q n _=>by rw[aM (F b n)];exact n,λb u q _=>?_,
  λb xs q=>by rw[aM (N b _ q λz=>z)];exact q,λb u xs q=>by rw[aM (N b _ q λz=>z)];exact q,λb ps q=>⟨#[],by rw[aM (N b _ q λz=>z),q];simp⟩⟩
 by_cases D:b=e
 .subst D;exact J
 .exact⟨u,k b u D q⟩
end
def trk(h:Heap)(H:Hp):List Addr:=(ZR h.objs.size).filter λa=>(H a).isSome
def A_(h:Heap)(H:Hp):Heap:=PySem.W.hideAll h (trk h H)
theorem Jm(h:Heap)(H:Hp):(A_ h H).objs.size=h.objs.size:=PySem.W.hideAll_size _ _
variable{o:Obj}
theorem Ms(e:h.get? b=some o)(n:H b=none):(A_ h H).get? b=some o:=
 PySem.W.hideAll_get _ e λN=>by
  have q:(H b).isSome=true:=(af6.mp N).2;rw[n]at q;simp at q
theorem Qi(e:(A_ h H).get? b=some o):h.get? b=some o/\H b=none:=by
 have D:h.get? b=some o:=PySem.W.of_hideAll (trk h H) e;refine⟨D,?_⟩;cases q:H b with
 |none=>rfl
 |some x=>
  have N:b∈trk h H:=af6.mpr ⟨aa2.mpr (YG D),by simp[q]⟩;have z:(A_ h H).get? b=none:=PySem.W.hideAll_none (trk h H) N;rw[z]at e;cases e
def QF(g h:Heap)(L:Addr):List (Addr×Obj):=(ZR h.objs.size).filterMap λa=>if a=L∨(g.get? a).isSome=true then none else(h.get? a).map λo=>(a,o)
def rest(g h:Heap)(L d:Addr):List (Addr×Obj):=(QF g h L).filter λp=>decide (p.1≠d)
structure Mod(K:PySem.W.Frag)(mg:Str->Option Value)(base:Heap):Prop where
 kin:K.In base
 glob:base.Ns Zd mg
 blt:∃mb,base.Ns builtinsNs mb/\∀x:Str,x≠"__name__"->mb x=aaW x
 nolimit:base.NoLimit
structure Cx where
 prog:Zr
 w:World
 K:YH
 mg:Str->Option Value
 base:Heap
 A:ZW
 N:List Str
 s₀:zb
 H₀:Hp
 env:Env
 outer:List Env
 stack:List Env
 ex:List Addr
 fn:Str->Bool
 calm:Bool
 pn:List (Addr×Obj)
 xe:Value->zb->Prop
def frs(l:List Env):List Addr:=l.filterMap (·.frame)
noncomputable abbrev Cx.fs(X:Cx):List Addr:=frs X.outer
def Vis(B:Scope)(x:Str):Prop:=B.names.lookup x=some .local∨B.names.lookup x=some .cell∨B.names.lookup x=some .free
def Loc(B:Scope)(x:Str):Prop:=B.names.lookup x=some .local∨B.names.lookup x=some .cell
def Look(env:Env)(h:Heap)(m:Str->Option Value)(x:Str)(u:Value):Prop:=
 (env.kindOf x=some .local/\m x=some u)∨((env.kindOf x=some .cell∨env.kindOf x=some .free)/\∃c,env.cells.lookup x=some c/\h.IsCell c (some u))
structure Cx.Ok(X:Cx):Prop where
 mod:Mod X.K X.mg X.base
 kind:X.env.scope.kind= .function
 glob:X.env.globals=Zd
 blt:X.env.builtins=builtinsNs
 above:X.s₀.heap.objs.size<=X.env.locals
 inj:∀x y c,X.env.cells.lookup x=some c->X.env.cells.lookup y=some c->x=y
 has:∀x,(X.env.kindOf x=some .cell∨X.env.kindOf x=some .free)->∃c,X.env.cells.lookup x=some c
 cab:∀x c,X.fn x=true->X.env.cells.lookup x=some c->X.s₀.heap.objs.size<=c
 hd:X.calm=true->X.A.handled=none
 frames:X.A.frames=some X.stack
 stk:X.stack=X.outer∨(X.stack=X.env::X.outer/\X.env.frame=some X.env.locals)
 exf:∀b∈X.ex,b≠X.env.locals/\∀x c,X.env.cells.lookup x=some c->c≠b
 bs:∀b o,X.base.get? b=some o->X.s₀.heap.get? b=some o/\X.H₀ b=none
 bsz:X.base.objs.size<=X.s₀.heap.objs.size
 noex:∀b o,X.base.get? b=some o->b∉X.ex
 exfs:∀b∈X.ex,b∉X.fs
 funs:X.s₀.heap.FunFrames X.base X.outer
 frf:∀b∈X.fs,X.H₀ b=none
structure Inv(X:Cx)(pins:List (Addr×Obj))(σ:List (Option V))(H:Hp)(s:Shared):Prop where
 ok:X.Ok
 os:s.os=X.s₀.os
 bare:ac4 s.gens
 base:Un X.fs X.ex X.H₀ H X.s₀.heap s.heap
 loc:∃m,s.heap.Ns X.env.locals m/\∀(i:Nat)(x:Str)(v:V),X.N[i]? =some x->σ[i]? =some (some v)->Vis X.env.scope x->∃u,RelV v u/\Look X.env s.heap m x u
 cell:∀x c,X.env.cells.lookup x=some c->∃v,s.heap.IsCell c v
 free:H X.env.locals=none
 freeC:∀x c,X.env.cells.lookup x=some c->H c=none
 pin:∀p∈X.pn++pins,s.heap.get? p.1=some p.2/\H p.1=none/\p.1≠X.env.locals/\p.1∉X.fs/\∀v,p.2.data≠.cell v
 hok:HOk X.prog X.w H s.heap
 len:σ.length=X.N.length
variable{X:Cx}
theorem Cx.Ok.nofr(ok:X.Ok)(e:X.base.get? b=some o):b∉X.fs:=λU=>by
 have:=(ok.funs.mem U).1;rw[e]at this;cases this
variable{σ:List (Option V)}
theorem Inv.bs(I:Inv X pins σ H s):∀b o,X.base.get? b=some o->s.heap.get? b=some o/\H b=none:=λb o e=>
 ⟨I.base.keep b o (I.ok.bs b o e).1 (I.ok.bs b o e).2 (I.ok.nofr e) (I.ok.noex b o e),I.base.free b o (I.ok.bs b o e).1 (I.ok.bs b o e).2 (I.ok.noex b o e)⟩
theorem Inv.bk(I:Inv X pins σ H s):∀b o,X.base.get? b=some o->s.heap.get? b=some o:=λb o e=>(I.bs b o e).1
theorem Inv.mod(I:Inv X pins σ H s):Mod X.K X.mg X.base:=I.ok.mod
theorem Inv.kIn(I:Inv X pins σ H s):X.K.In s.heap:=I.ok.mod.kin.keeps I.bk
theorem Inv.lt(I:Inv X pins σ H s):X.env.locals<s.heap.objs.size:=let⟨_,hn,_⟩:=I.loc;hn.lt
theorem Inv.sz(I:Inv X pins σ H s):X.s₀.heap.objs.size<=s.heap.objs.size:=aau I.ok.above (abJ I.lt)
theorem Inv.nofs(I:Inv X pins σ H s)(h:s.heap.objs.size<=a):a∉X.fs:=λU=>by
 obtain⟨_,o,J,_⟩:=I.ok.funs.mem U;exact absurd (Ze (YG J) (aau I.sz h)) (aai _)
theorem Inv.cne(I:Inv X pins σ H s):∀x c,X.env.cells.lookup x=some c->c≠X.env.locals:=λx c e z=>by
 obtain⟨v,o,J,hd⟩:=I.cell x c e;obtain⟨m,⟨o',es,ep,V,D,_⟩,_⟩:=I.loc;rw[z,V]at J;cases J;rw[D]at hd;cases hd
theorem Inv.funs(I:Inv X pins σ H s):s.heap.FunFrames X.base X.outer:=by
 have all:∀(l:List Env),(∀b∈frs l,b∈X.fs)->X.s₀.heap.FunFrames X.base l->s.heap.FunFrames X.base l:=by
  intro l
  induction l with
  |nil=>intro _ _;trivial
  |cons env r F=>
   intro B Y;obtain⟨N,⟨L,o,q,hn,J,hd⟩,O⟩:=Y;have D:L∈X.fs:=B L (by unfold frs;rw[aaG,q];exact ZJ);obtain⟨sl,e⟩:=I.base.slot L o J (I.ok.frf L D) D λz=>I.ok.exfs L z D;exact⟨N,⟨L,_,q,hn,e,hd⟩,F (λb U=>B b (by unfold frs;rw[aaG,q];exact Zf _ U)) O⟩
 exact all X.outer (λ_ U=>U) I.ok.funs
theorem Inv.stack(I:Inv X pins σ H s):s.heap.FunFrames X.base X.stack:=by
 rcases I.ok.stk with e|⟨e,O⟩
 .rw[e];exact I.funs
 .rw[e]
  obtain⟨m,hn,_⟩:=I.loc;refine .cons (by rw[I.ok.kind];decide) O hn ?_ I.funs;exact Heap.get?_none_of_le (aau I.ok.bsz I.ok.above)
theorem Inv.stkSub(I:Inv X pins σ H s):∀b∈frs X.stack,b∈X.env.locals::X.fs:=λb U=>by
 rcases I.ok.stk with e|⟨e,O⟩
 .rw[e]at U;exact Zf _ U
 .rw[e]at U
  unfold frs at U;rw[aaG,O]at U;exact U
theorem Inv.stkFree(I:Inv X pins σ H s):∀b∈frs X.stack,H b=none:=λb U=>by
 rcases YJ.mp (I.stkSub b U)with e|U
 .rw[e];exact I.free
 .obtain⟨_,o,ho,_⟩:=I.ok.funs.mem U
  exact I.base.free b o ho (I.ok.frf b U) λz=>I.ok.exfs b z U
theorem Inv.step(I:Inv X pins σ H s)
  (B:∀b∈ch,(b∈X.ex∨X.s₀.heap.objs.size<=b)/\b≠X.env.locals/\(∀x c,X.env.cells.lookup x=some c->c≠b)/\∀p∈X.pn++pins,p.1≠b)
  (keep:∀b o,b≠X.env.locals->b∉X.fs->b∉ch->s.heap.get? b=some o->H b=none->h'.get? b=some o)
  (slot:∀b o,b≠X.env.locals->b∈X.fs->b∉ch->s.heap.get? b=some o->H b=none->∃sl,h'.get? b=some {o with slots:=sl}) (free:∀b o,b∉ch->s.heap.get? b=some o->H b=none->H' b=none)
  (there:∀b o,b∉ch->s.heap.get? b=some o->∃o',h'.get? b=some o')
  (tups:∀b xs,H b=some (.tup xs)->H' b=some (.tup xs)) (frzs:∀b o u,H b=some (.frz o u)->H' b=some (.frz o u)) (tbls:∀b ps,H b=some (.tbl ps)->∃more,H' b=some (.tbl (ps++more)))
  (ns:∀m,s.heap.Ns X.env.locals m->h'.Ns X.env.locals m) (hok:HOk X.prog X.w H' h') (hg:ac4 g') :
  Inv X pins σ H' {s with heap:=h',gens:=g',drawn:=d',toks:=t'}:=by
 have a0:∀b o,X.s₀.heap.get? b=some o->b≠X.env.locals:=λb o e=>Zb (Ze (YG e) I.ok.above);have Y:∀b o,X.s₀.heap.get? b=some o->b∉X.ex->b∉ch:=λb o e F U=>by
  rcases(B b U).1 with z|z
  .exact F z
  .exact absurd (Ze (YG e) z) (aai _)
 have D:∀x c,X.env.cells.lookup x=some c->∀v,s.heap.IsCell c v->h'.IsCell c v:=λx c e v ⟨o,J,hd⟩=>by
  have V:c∉ch:=λz=>(B c z).2.2.1 x c e rfl;by_cases Z:c∈X.fs
  .obtain⟨sl,q⟩:=slot c o (I.cne x c e) Z V J (I.freeC x c e)
   exact⟨_,q,hd⟩
  .exact⟨o,keep c o (I.cne x c e) Z V J (I.freeC x c e),hd⟩
 refine⟨I.ok,I.os,hg,⟨λb o e n U F=>?_,λb o e n U F=>?_,λb o e n F=>?_,λb o e F=>?_,λb xs e=>tups b xs (I.base.tups b xs e),λb o xs e=>frzs b o xs (I.base.frzs b o xs e),λb ps e=>?_⟩,?_,λx c e=>?_,?_,λx c e=>?_,λp N=>?_,hok,I.len⟩
 .exact keep b o (a0 b o e) U (Y b o e F) (I.base.keep b o e n U F) (I.base.free b o e n F)
 .obtain⟨sl,e1⟩:=I.base.slot b o e n U F
  obtain⟨a1,e2⟩:=slot b _ (a0 b o e) U (Y b o e F) e1 (I.base.free b o e n F);exact⟨a1,e2⟩
 .obtain⟨o',e1⟩:=I.base.there b o e F
  exact free b o' (Y b o e F) e1 (I.base.free b o e n F)
 .obtain⟨o',e1⟩:=I.base.there b o e F
  exact there b o' (Y b o e F) e1
 .obtain⟨m1,e1⟩:=I.base.tbls b ps e
  obtain⟨O,e2⟩:=tbls b _ e1;exact⟨m1++O,by rw[e2,Array.append_assoc]⟩
 .obtain⟨m,hn,hl⟩:=I.loc
  refine⟨m,ns m hn,λi x v e1 e2 e3=>?_⟩;obtain⟨u,r,l⟩:=hl i x v e1 e2 e3;refine⟨u,r,?_⟩;rcases l with l|⟨k,c,e,z⟩
  .exact .inl l
  .exact .inr ⟨k,c,e,D x c e _ z⟩
 .obtain⟨v,z⟩:=I.cell x c e
  exact⟨v,D x c e v z⟩
 .obtain⟨m,⟨o,_,_,J,_⟩,_⟩:=I.loc
  exact free _ o (λz=>(B _ z).2.1 rfl) J I.free
 .obtain⟨v,o,J,hd⟩:=I.cell x c e
  exact free c o (λz=>(B c z).2.2.1 x c e rfl) J (I.freeC x c e)
 .obtain⟨e,n,ne,nf,d⟩:=I.pin p N
  have V:p.1∉ch:=λz=>(B p.1 z).2.2.2 p N rfl;exact⟨keep p.1 p.2 ne nf V e n,free p.1 p.2 V e n,ne,nf,d⟩
theorem Inv.un(I:Inv X pins σ H s)(u:Un X.fs [] H H' s.heap h')(hok:HOk X.prog X.w H' h'):Inv X pins σ H' {s with heap:=h',toks:=t'}:=by
 obtain⟨m,⟨o,es,ep,J,r⟩,_⟩:=id I.loc;obtain⟨sl,O⟩:=u.any J I.free (by simp);exact I.step (g':=s.gens) (d':=s.drawn) (ch:=[]) (λ_ z=>nomatch z) (λb o _ U _ e n=>u.keep b o e n U (by simp)) (λb o _ U _ e n=>u.slot b o e n U (by simp)) (λb o _ e n=>u.free b o e n (by simp)) (λb o _ e=>u.there b o e (by simp)) u.tups u.frzs u.tbls (λq N=>by
  obtain⟨o',D,Y,V,F⟩:=N;rw[J]at V;cases V;exact⟨_,D,Y,O,F⟩) hok I.bare
theorem Inv.call(I:Inv X pins σ H s)(u:Un (frs X.stack) ch H H' s.heap h')(hok:HOk X.prog X.w H' h')(q:ac4 g')
  (B:∀b∈ch,(b∈X.ex∨X.s₀.heap.objs.size<=b)/\b≠X.env.locals/\(∀x c,X.env.cells.lookup x=some c->c≠b)/\∀p∈X.pn++pins,p.1≠b) :
  Inv X pins σ H' {s with heap:=h',gens:=g',drawn:=d',toks:=t'}:=by
 obtain⟨m,⟨o,es,ep,J,r⟩,_⟩:=id I.loc;obtain⟨sl,O⟩:=u.any J I.free λz=>(B _ z).2.1 rfl;exact I.step (ch:=ch) B (λb o O U Z e n=>u.keep b o e n (λz=>(YJ.mp (I.stkSub b z)).elim O U) Z) (λb o _ _ Z e n=>u.any e n Z) (λb o Z e n=>u.free b o e n Z) (λb o Z e=>u.there b o e Z) u.tups u.frzs u.tbls (λm' N=>by
  obtain⟨o',D,Y,V,F⟩:=N;rw[J]at V;cases V;exact⟨_,D,Y,O,F⟩) hok q
theorem Inv.turned(I:Inv X pins σ H s)(k:∀b o,b≠it->s.heap.get? b=some o->h'.get? b=some o)(hn:H it=none)(O:it≠X.env.locals)
  (h1:it∈X.ex∨X.s₀.heap.objs.size<=it) (h2:∀x c,X.env.cells.lookup x=some c->c≠it) (B:∀p∈X.pn++pins,p.1≠it):Inv X pins σ H {s with heap:=h',toks:=t'}:=by
 have D:∀b u,H b=some u->b≠it:=λb u e z=>by rw[z,hn]at e;cases e
 refine I.step (g':=s.gens) (d':=s.drawn) (ch:=[it]) (λb U=>?_) (λb o _ _ Z e _=>k b o (λz=>Z (by simp[z])) e) (λb o _ _ Z e _=>⟨o.slots,k b o (λz=>Z (by simp[z])) e⟩) (λ_ _ _ _ n=>n)
  (λb o Z e=>⟨o,k b o (λz=>Z (by simp[z])) e⟩) (λ_ _ e=>e) (λ_ _ _ e=>e) (λb ps e=>⟨#[],by rw[e];simp⟩) (λm N=>?_) (λb u e=>?_) I.bare
 .have e:b=it:=by simpa using U
  subst e;exact⟨h1,O,h2,B⟩
 .obtain⟨o,es,ep,ho,r⟩:=N
  exact⟨o,es,ep,k _ o (Zt O) ho,r⟩
 .refine(I.hok b u e).stay (λc v Z q=>k c v ?_ q) (λ_ q=>q) λ_ _ q=>q
  rcases Z with z|z
  .rw[z];exact D b u e
  .exact D c _ z
theorem Inv.tok(I:Inv X pins σ H s)(t:Nat):Inv X pins σ H {s with toks:=t}:=I.un (h':=s.heap) (t':=t) Un.refl I.hok
theorem Inv.kept(I:Inv X pins σ H s)(k:∀b u,s.heap.get? b=some u->h'.get? b=some u):Inv X pins σ H {s with heap:=h',toks:=t'}:=I.un (Un.kept k) (I.hok.kept k)
theorem Inv.laid{o:HO}(I:Inv X pins σ H s)(k:∀b u,s.heap.get? b=some u->h'.get? b=some u)(N:s.heap.objs.size<=a)(new:cJ X.prog X.w (upd H a o) h' a o) :
 Inv X pins σ (upd H a o) {s with heap:=h',toks:=t'}:=I.un (Un.laid k N (I.hok.fresh N)) (I.hok.laid k N new)
theorem Inv.write{o:HO}(I:Inv X pins σ H s)(mu:Mut (H x))(V:e=x∨H e=some (.own x))(k:∀b u,b≠e->s.heap.get? b=some u->h'.get? b=some u)(J:∃u,h'.get? e=some u)
 (new:cJ X.prog X.w (upd H x o) h' x o):Inv X pins σ (upd H x o) {s with heap:=h',toks:=t'}:=I.un (Un.write mu V k J) (I.hok.write mu V k J new)
theorem Inv.weak{B:List (Option V)}(I:Inv X pins σ H s)(Y:B.length=σ.length)(w:∀(i:Nat) v,B[i]? =some (some v)->σ[i]? =some (some v)):Inv X pins B H s:=
 ⟨I.ok,I.os,I.bare,I.base,let⟨m,hn,hl'⟩:=I.loc;⟨m,hn,λi x v e1 e2 J=>hl' i x v e1 (w i v e2) J⟩,I.cell,I.free,I.freeC,I.pin,I.hok,Y.trans I.len⟩
theorem Inv.pins_of{q:List (Addr×Obj)}(I:Inv X pins σ H s)(h:∀p∈q,s.heap.get? p.1=some p.2/\H p.1=none/\p.1≠X.env.locals/\p.1∉X.fs/\∀v,p.2.data≠.cell v):Inv X q σ H s:=
 ⟨I.ok,I.os,I.bare,I.base,I.loc,I.cell,I.free,I.freeC,λp N=>(YC.mp N).elim (λz=>I.pin p (Za _ z)) (h p),I.hok,I.len⟩
variable{x:Str}
theorem Bo(V:N.Nodup)(a:N[i]? =some x)(b:N[j]? =some x):i=j:=by
 obtain⟨h1,e1⟩:=List.getElem?_eq_some_iff.mp a;obtain⟨h2,e2⟩:=List.getElem?_eq_some_iff.mp b;exact(afP V).mp (e1.trans e2.symm)
variable{M:Model}{A:ZW}{E:Value->zb->Prop}{v:V}{Q:Unit->zb->Prop}
theorem Jh(I:Inv X pins σ H s)(hN:X.N.Nodup)(hi:X.N[i]? =some x)(F:Loc X.env.scope x)(r:RelV v u)
  (h:∀s',Inv X pins (σ.set i (some v)) H s'->(∃a,ab2 a s.heap s'.heap/\(a=X.env.locals∨X.env.cells.lookup x=some a))->Q () s') (O:X.fn x=true∨X.env.scope.names.lookup x=some .local:=by first|exact .inl rfl|exact .inr rfl|assumption):wpAny M A (storeName X.env x u) Q E s:=by
 obtain⟨m,hn,hl⟩:=id I.loc;have a4:(X.env.scope.kind== .class||(X.env.scope.kind== .module&&X.env.locals !=X.env.globals))=false:=by rw[I.ok.kind];rfl
 have a1:i<σ.length:=by rw[I.len];exact(List.getElem?_eq_some_iff.mp hi).1
 have cne:=I.cne;have a0:∀{a:Addr}{h':Heap},(∃o,s.heap.get? a=some o/\H a=none)->ab2 a s.heap h'->HOk X.prog X.w H h':=λ{a h'} Y B b ob e=>by
  obtain⟨_,_,D⟩:=Y;refine(I.hok b ob e).stay (λc w' Z q=>(B.2 c ?_).trans q) (λ_ q=>q) λ_ _ q=>q;rintro rfl;rcases Z with rfl|Z
  .rw[D]at e;cases e
  .rw[D]at Z;cases Z
 rcases F with hk|hk
 .refine wpAny_storeName_local hk hn (λh' a6 B=>?_) a4
  obtain⟨oL,_,_,a7,_⟩:=id hn;refine h _ ⟨I.ok,I.os,I.bare,⟨λb o e n U F=>?_,λb o e n U F=>?_,I.base.free,λb o e F=>?_,I.base.tups,I.base.frzs,I.base.tbls⟩,⟨_,a6,λj y v' e1 e2 J=>?_⟩,λy c e=>?_,I.free,I.freeC,λp hp=>?_,a0 ⟨oL,a7,I.free⟩ B,by simpa using I.len⟩ ⟨_,B,.inl rfl⟩
  .exact(B.2 b (Zb (Ze (YG e) I.ok.above))).trans (I.base.keep b o e n U F)
  .obtain⟨sl,e1⟩:=I.base.slot b o e n U F
   exact⟨sl,(B.2 b (Zb (Ze (YG e) I.ok.above))).trans e1⟩
  .obtain⟨o',e1⟩:=I.base.there b o e F
   exact⟨o',(B.2 b (Zb (Ze (YG e) I.ok.above))).trans e1⟩
  .by_cases hj:j=i
   .subst hj
    rw[hi]at e1;cases e1;rw[acM a1]at e2;cases e2;exact⟨u,r,.inl ⟨hk,by simp⟩⟩
   .rw[List.getElem?_set_ne (Zt hj)]at e2
    obtain⟨u',r',q⟩:=hl j y v' e1 e2 J;refine⟨u',r',?_⟩;rcases q with⟨k,e⟩|⟨k,c,e,z⟩
    .refine .inl ⟨k,?_⟩
     have:y≠x:=λe=>hj (Bo hN e1 (e▸hi));simp[this,e]
    .exact .inr ⟨k,c,e,z.sameBut B (cne y c e)⟩
  .obtain⟨w',z⟩:=I.cell y c e
   exact⟨w',z.sameBut B (cne y c e)⟩
  .obtain⟨e,n,ne,nf,d⟩:=I.pin p hp
   exact⟨(B.2 p.1 ne).trans e,n,ne,nf,d⟩
 .have hfn:X.fn x=true:=by
   rcases O with z|z
   .exact z
   .rw[z]at hk;cases hk
  obtain⟨c,Z⟩:=I.ok.has x (.inl hk);obtain⟨w',z⟩:=I.cell x c Z;refine wpAny_storeName_cell I.ok.kind hk Z z (λh' a2 B=>?_);obtain⟨oc,a3,a5⟩:=id z;refine h {s with heap:=h'} ⟨I.ok,I.os,I.bare,⟨λb o e n U F=>?_,λb o e n U F=>?_,I.base.free,λb o e F=>?_,I.base.tups,I.base.frzs,I.base.tbls⟩,⟨m,hn.sameBut B (Zt (cne x c Z)),λj y v' e1 e2 J=>?_⟩,λy c' e=>?_,I.free,I.freeC,λp hp=>?_,a0 ⟨oc,a3,I.freeC x c Z⟩ B,by simpa using I.len⟩ ⟨c,B,.inr Z⟩
  .exact(B.2 b (Zb (Ze (YG e) (I.ok.cab x c hfn Z)))).trans (I.base.keep b o e n U F)
  .obtain⟨sl,e1⟩:=I.base.slot b o e n U F
   exact⟨sl,(B.2 b (Zb (Ze (YG e) (I.ok.cab x c hfn Z)))).trans e1⟩
  .obtain⟨o',e1⟩:=I.base.there b o e F
   exact⟨o',(B.2 b (Zb (Ze (YG e) (I.ok.cab x c hfn Z)))).trans e1⟩
  .by_cases hj:j=i
   .subst hj
    rw[hi]at e1;cases e1;rw[acM a1]at e2;cases e2;exact⟨u,r,.inr ⟨.inl hk,c,Z,a2⟩⟩
   .rw[List.getElem?_set_ne (Zt hj)]at e2
    obtain⟨u',r',q⟩:=hl j y v' e1 e2 J;refine⟨u',r',?_⟩;rcases q with q|⟨k,c',e,z'⟩
    .exact .inl q
    .refine .inr ⟨k,c',e,z'.sameBut B ?_⟩
     rintro rfl;exact hj (Bo hN e1 (I.ok.inj _ _ _ e Z▸hi))
  .by_cases hcc:c'=c
   .subst hcc;exact⟨_,a2⟩
   .obtain⟨w2,z2⟩:=I.cell y c' e
    exact⟨w2,z2.sameBut B hcc⟩
  .obtain⟨e,n,ne,nf,d⟩:=I.pin p hp
   refine⟨(B.2 p.1 ?_).trans e,n,ne,nf,d⟩;intro q;rw[q,a3]at e;have q':oc=p.2:=Z_ e;exact d w' (by rw[←q'];exact a5)
theorem jL(I:Inv X pins σ H s)(q:X.N.Nodup)(hi:X.N[i]? =some x)(F:Loc X.env.scope x)(r:RelV v u)
  (h:∀s',Inv X pins (σ.set i (some v)) H s'->Q () s') (O:X.fn x=true∨X.env.scope.names.lookup x=some .local:=by first|exact .inl rfl|exact .inr rfl|assumption):wpAny M A (storeName X.env x u) Q E s:=
 Jh I q hi F r (λs' Y _=>h s' Y) O
theorem Inv.call'(I:Inv X pins σ H s)(J:s'.os=s.os)(u:Un (frs X.stack) ch H H' s.heap s'.heap)(hok:HOk X.prog X.w H' s'.heap)(q:ac4 s'.gens)
  (B:∀b∈ch,(b∈X.ex∨X.s₀.heap.objs.size<=b)/\b≠X.env.locals/\(∀x c,X.env.cells.lookup x=some c->c≠b)/\∀p∈X.pn++pins,p.1≠b):Inv X pins σ H' s':=by
 obtain⟨h',g',d',t',o'⟩:=s';have e:o'=s.os:=J;subst e;exact I.call (g':=g') (t':=t') (d':=d') u hok q B
abbrev XK:=Value->Option Addr->Hp->Prop
abbrev St:=List (Option V)
abbrev VK:=V->Hp->Prop
abbrev TE:=St->Hp->VK->Prop
abbrev TT:=St->Hp->(Bool->Hp->Prop)->Prop
abbrev TA:=St->Hp->(List V->Hp->Prop)->Prop
structure Ends where
 nx:St->Hp->Prop
 rt:VK
 bk:St->Hp->Prop:=λ_ _=>False
 ct:St->Hp->Prop:=λ_ _=>False
abbrev TS:=Ends->St->Hp->Prop
def EP(X:Cx)(pins:List (Addr×Obj))(σ:St)(Q:VK)(u:Value)(s':zb):Prop:=∃v H',Inv X pins σ H' s'/\RelV v u/\Q v H'
def TP(X:Cx)(pins:List (Addr×Obj))(σ:St)(Q:Bool->Hp->Prop)(b:Bool)(s':zb):Prop:=∃H',Inv X pins σ H' s'/\Q b H'
def AP(X:Cx)(pins:List (Addr×Obj))(σ:St)(Q:List V->Hp->Prop)(us:List Value)(s':zb):Prop:=∃vs H',Inv X pins σ H' s'/\Vals vs us/\Q vs H'
def SP(X:Cx)(pins:List (Addr×Obj))(D:Ends)(f:Flow)(s':zb):Prop:=
 match f with
 |.next=>∃B H',Inv X pins B H' s'/\D.nx B H'
 |.brk=>∃B H',Inv X pins B H' s'/\D.bk B H'
 |.cont=>∃B H',Inv X pins B H' s'/\D.ct B H'
 |.ret u=>∃v B H',Inv X pins B H' s'/\RelV v u/\D.rt v H'
def PE(X:Cx)(e:Expr)(t:TE):Prop:=
 ∀(pins:List (Addr×Obj))(s:zb)(σ:St)(H:Hp)(Q:VK),Inv X pins σ H s->t σ H Q->wpAny 1.12 X.A (eval e X.env) (EP X pins σ Q) X.xe s
def PT(X:Cx)(e:Expr)(t:TT):Prop:=
 ∀(pins:List (Addr×Obj))(s:zb)(σ:St)(H:Hp)(Q:Bool->Hp->Prop),Inv X pins σ H s->t σ H Q->wpAny 1.12 X.A (aeA e X.env (eval e X.env)) (TP X pins σ Q) X.xe s
def PW(X:Cx)(e:Expr)(t:TT):Prop:=
 ∀(q:Sem Value)(pins:List (Addr×Obj))(s:zb)(σ:St)(H:Hp)(Q:Bool->Hp->Prop),Inv X pins σ H s->t σ H Q->wpAny 1.12 X.A (aeA e X.env q) (TP X pins σ Q) X.xe s
variable{e:Expr}
theorem PW.pt{t:TT}(h:PW X e t):PT X e t:=h _
def PA(X:Cx)(es:List Expr)(t:TA):Prop:=
 ∀(pos:Pos)(pins:List (Addr×Obj))(s:zb)(σ:St)(H:Hp)(Q:List V->Hp->Prop),Inv X pins σ H s->t σ H Q->wpAny 1.12 X.A (spliced (aak pos (YQ es X.env))) (AP X pins σ Q) X.xe s
def PS(X:Cx)(st:Stmt)(t:TS):Prop:=
 ∀(pins:List (Addr×Obj))(s:zb)(σ:St)(H:Hp)(D:Ends),Inv X pins σ H s->t D σ H->wpAny 1.12 X.A (exec st X.env) (SP X pins D) X.xe s
def PSs(X:Cx)(st:List Stmt)(t:TS):Prop:=
 ∀(pins:List (Addr×Obj))(s:zb)(σ:St)(H:Hp)(D:Ends),Inv X pins σ H s->t D σ H->wpAny 1.12 X.A (execs st X.env) (SP X pins D) X.xe s
theorem thn{t:Sem α}{Q q:α->zb->Prop}{s:zb}(h:wpAny M A t Q E s)(U:∀a s,Q a s->q a s):wpAny M A t q E s:=aap h U λ_ _ x=>x
section
variable{X:Cx}
def Jf(i:Nat):TE:=λσ H Q=>∃v,σ[i]? =some (some v)/\Q v H
def tC(v:V):TE:=λ_ H Q=>Q v H
theorem Ui{i:Nat}{x:Str}{pos:Pos}(O:X.N[i]? =some x)(B:Vis X.env.scope x)(hd:1.18=false:=by decide)(F:(x==("__classdict__":Str))=false:=by decide):PE X (.Name x pos) (Jf i):=by
 show 5;obtain⟨v,e,h⟩:=h;obtain⟨m,hn,Y⟩:=I.loc;obtain⟨u,r,l⟩:=Y i x v O e B;have V:EP X pins σ Q u s:=⟨v,H,I,r,h⟩;rcases l with⟨D,J⟩|⟨D,c,Z,q⟩
 .exact wpAny_Name (wpAny_loadName_local I.ok.kind D hn J V) hd
 .rcases D with D|D
  .exact wpAny_Name (wpAny_loadName_cell I.ok.kind D Z q V) hd
  .exact wpAny_Name (wpAny_loadName_free I.ok.kind D Z q V F) hd
theorem VN{i j pos}:PE X (.Constant (.int i) j pos) (tC (.int i)):=λ_ _ _ H _ I h=>wpAny_Constant_int ⟨.int i,H,I.tok _,⟨_,rfl⟩,h⟩
theorem W6{b j pos}:PE X (.Constant (.bool b) j pos) (tC (.bl b)):=λ_ _ _ H _ I h=>Constant_bool ⟨.bl b,H,I,rfl,h⟩
theorem Vf{j pos}:PE X (.Constant .none j pos) (tC .non):=λ_ _ _ H _ I h=>Constant_none ⟨.non,H,I,rfl,h⟩
theorem Vb{x j pos}:PE X (.Constant (.str x) j pos) (tC (.str x)):=λ_ _ _ H _ I h=>Calls.Constant_str ⟨.str x,H,I.tok _,⟨_,rfl⟩,h⟩
def Gl(X:Cx)(x:Str):Prop:=X.env.kindOf x=some .globalImplicit
theorem zU{E:Value->zb->Prop}{pins:List (Addr×Obj)}{s:zb}{σ:St}{H:Hp}{x:Str}{u:Value}{pos:Pos}{Q:Value->zb->Prop}(I:Inv X pins σ H s)(q:Gl X x)(N:X.mg x=some u)(h:Q u s)
  (hd:1.18=false:=by decide):wpAny 1.12 X.A (eval (.Name x pos) X.env) Q E s:=
 adA I.ok.kind q (Calls.loadGlobal_global (by rw[I.ok.glob];exact I.mod.glob.keeps I.bk) N h) hd
theorem pC{E:Value->zb->Prop}{pins:List (Addr×Obj)}{s:zb}{σ:St}{H:Hp}{x:Str}{u:Value}{pos:Pos}{Q:Value->zb->Prop}(I:Inv X pins σ H s)(q:Gl X x)(N:X.mg x=none)(B:aaW x=some u)(h:Q u s)
  (hn:x≠"__name__":=by decide) (hd:1.18=false:=by decide):wpAny 1.12 X.A (eval (.Name x pos) X.env) Q E s:=by
 obtain⟨D,h1,h2⟩:=I.mod.blt;exact adA I.ok.kind q (Calls.loadGlobal_builtin (by rw[I.ok.glob];exact I.mod.glob.keeps I.bk) N (by rw[I.ok.blt];exact h1.keeps I.bk) ((h2 x hn).trans B) h) hd
theorem Hk{x:Str}{v:V}{u:Value}{pos:Pos}(q:Gl X x)(N:X.mg x=some u)(r:RelV v u)(hd:1.18=false:=by decide):PE X (.Name x pos) (tC v):=
 λ_ _ _ H _ I h=>zU I q N ⟨v,H,I,r,h⟩ hd
theorem Rc{x:Str}{v:V}{u:Value}{pos:Pos}(q:Gl X x)(N:X.mg x=none)(B:aaW x=some u)(r:RelV v u)(hn:x≠"__name__":=by decide)(hd:1.18=false:=by decide):PE X (.Name x pos) (tC v):=
 λ_ _ _ H _ I h=>pC I q N B ⟨v,H,I,r,h⟩ hn hd
variable{a b:Expr}{ta tb:TE}{pos:Pos}
variable{tA tB':TT}{rest:List Expr}
def Ww(t u:TT):TT:=λσ H Q=>t σ H λc H1=>if c=true then u σ H1 Q else Q false H1
def tOr(t u:TT):TT:=λσ H Q=>t σ H λc H1=>if c=true then Q true H1 else u σ H1 Q
def W9(t:TT):TT:=λσ H Q=>t σ H λc H1=>Q (!c) H1
theorem Oz(Y:PT X a tA):PW X (.BoolOp .And [a] pos) tA:=by
 intro q pins s σ H Q I h;refine isTrue_and (thn (Y pins s σ H Q I h) λc O e=>?_);cases c with
 |true=>exact isTrue_and_nil e
 |false=>exact e
theorem VJ(Y:PT X a tA):PW X (.BoolOp .Or [a] pos) tA:=by
 intro q pins s σ H Q I h;refine isTrue_or (thn (Y pins s σ H Q I h) λc O e=>?_);cases c with
 |false=>exact isTrue_or_nil e
 |true=>exact e
theorem T5(Y:PT X a tA)(U:PW X (.BoolOp .And (b::rest) pos) tB'):PW X (.BoolOp .And (a::b::rest) pos) (Ww tA tB'):=by
 intro q pins s σ H Q I h;refine isTrue_and (thn (Y pins s σ H _ I h) λc O ⟨H1,F,q1⟩=>?_);cases c with
 |true=>exact U q pins O σ H1 Q F q1
 |false=>exact⟨H1,F,q1⟩
theorem Wt(Y:PT X a tA)(U:PW X (.BoolOp .Or (b::rest) pos) tB'):PW X (.BoolOp .Or (a::b::rest) pos) (tOr tA tB'):=by
 intro q pins s σ H Q I h;refine isTrue_or (thn (Y pins s σ H _ I h) λc O ⟨H1,F,q1⟩=>?_);cases c with
 |true=>exact⟨H1,F,q1⟩
 |false=>exact U q pins O σ H1 Q F q1
theorem TJ(Y:PT X a tA):PT X (.UnaryOp .Not a pos) (W9 tA):=by
 show 5;exact isTrue_not (Y pins s σ H (λc H1=>Q (!c) H1) I h)
def R7(ta tb:TE):TE:=λσ H Q=>ta σ H λx H1=>∃c,x= .bl c/\if c=true then tb σ H1 Q else Q (.bl false) H1
def Tc(ta:TE):TE:=λσ H Q=>ta σ H λx H1=>∃c,x= .bl c/\Q (.bl (!c)) H1
theorem Vh{op}{t:TE}(h:PE X a t):PE X (.BoolOp op [a] pos) t:=λpins s σ H Q I B=>BoolOp_one (h pins s σ H Q I B)
theorem Vc(Y:PE X a ta)(U:PE X (.BoolOp .And (b::rest) pos) tb):PE X (.BoolOp .And (a::b::rest) pos) (R7 ta tb):=by
 show 5;refine BoolOp_and (thn (Y pins s σ H _ I h) λv O ⟨x,H1,F,q,q1⟩=>?_);obtain⟨c,rfl,q1⟩:=q1;cases q;refine abz ?_;cases c with
 |true=>exact U pins O σ H1 Q F q1
 |false=>exact⟨.bl false,H1,F,rfl,q1⟩
theorem Vt(Y:PE X a ta):PE X (.UnaryOp .Not a pos) (Tc ta):=by
 show 5;refine UnaryOp_ (thn (Y pins s σ H _ I h) λv O ⟨x,H1,F,U,q1⟩=>?_);obtain⟨c,rfl,q1⟩:=q1;cases U;exact not_of (abz ⟨.bl (!c),H1,F,rfl,q1⟩)
def tIf(t:TT)(ta tb:TE):TE:=λσ H Q=>t σ H λc H1=>if c=true then ta σ H1 Q else tb σ H1 Q
theorem BX{c:Expr}(Z:PT X c tA)(Y:PE X a ta)(U:PE X b tb):PE X (.IfExp c a b pos) (tIf tA ta tb):=by
 show 5;refine wpAny_IfExp (thn (Z pins s σ H _ I h) λd O ⟨H1,F,q1⟩=>?_);cases d with
 |true=>exact Y pins O σ H1 Q F q1
 |false=>exact U pins O σ H1 Q F q1
end
def SqL(K:YH)(H:Hp)(a:Addr)(xs:List V):Prop:=
 Rd H a (.lst xs)∨
  ∃(o:Obj)(its:Array Value)(n:Nat),K.lookup a=some o/\o.cls= .type "list"/\o.dict=none/\o.data= .seq its n/\its.size<=YM/\Vals xs its.toList
def SqT(K:YH)(H:Hp)(a:Addr)(xs:List V):Prop:=
 Rd H a (.tup xs)∨
  ∃(o:Obj)(its:Array Value)(n:Nat),K.lookup a=some o/\o.cls= .type "tuple"/\o.data= .seq its n/\its.size<=YM/\Vals xs its.toList
def X7:Value->Option V
 |.none=>some .non
 |.bool b=>some (.bl b)
 |.int i _=>some (.int i)
 |.str x _=>some (.str x)
 |.bytes b _=>some (.byt b)
 |.float b _=>some (.flt b)
 |.ref a=>some (.ref a)
 |.type n=>some (.ty n)
 |_=>none
theorem RelV.abs{x:V}(r:RelV x u):X7 u=some x:=by
 cases x with
 |non=>cases r;rfl
 |bl _=>cases r;rfl
 |int _=>obtain⟨t,rfl⟩:=r;rfl
 |str _=>obtain⟨t,rfl⟩:=r;rfl
 |byt _=>obtain⟨t,rfl⟩:=r;rfl
 |flt _=>obtain⟨t,rfl⟩:=r;rfl
 |ref _=>cases r;rfl
 |ty _=>cases r;rfl
theorem RelV.inj{x y:V}(r:RelV x u)(q:RelV y u):x=y:=Z_ (r.abs.symm.trans q.abs)
theorem Vals.inj:∀{xs ys:List V}{us:List Value},Vals xs us->Vals ys us->xs=ys
 |_,_,_,.nil,.nil=>rfl
 |_,_,_,.cons r t,.cons r' t'=>by rw[r.inj r',Vals.inj t t']
theorem SqL.of{K:YH}(h:H a=some (.lst xs)):SqL K H a xs:=.inl (.inl h)
theorem SqT.of{K:YH}(h:H a=some (.tup xs)):SqT K H a xs:=.inl (.inl h)
variable{σ:St}
theorem Inv.list(I:Inv X pins σ H s)(h:SqL X.K H a xs):∃its:List Value,Vals xs its/\PlainL s.heap a its.toArray/\xs.length<=YM:=by
 rcases h with h|⟨o,its,n,q,Z,hd,B,J,r⟩
 .obtain⟨z,its,n,r,e⟩:=h.ok I.hok
  exact⟨its,r,⟨_,n,e,rfl,rfl,rfl⟩,z⟩
 .refine⟨its.toList,r,⟨o,n,I.kIn a o q,Z,hd,by simpa using B⟩,?_⟩
  have e:=r.length;simp![aaV]at e;omega
theorem Inv.tuple(I:Inv X pins σ H s)(h:SqT X.K H a xs):∃its:List Value,Vals xs its/\IsTup s.heap a its.toArray/\xs.length<=YM:=by
 rcases h with h|⟨o,its,n,q,Z,B,J,r⟩
 .obtain⟨z,its,r,p⟩:=h.ok I.hok
  exact⟨its,r,p.t,z⟩
 .refine⟨its.toList,r,⟨o,I.kIn a o q,Z,n,by simpa using B⟩,?_⟩
  have e:=r.length;simp![aaV]at e;omega
variable{ys:List V}
theorem Inv.list_inj(I:Inv X pins σ H s)(h:SqL X.K H a xs)(h':SqL X.K H a ys):xs=ys:=by
 obtain⟨its,r,⟨o,n,e,_,_,d⟩,_⟩:=I.list h;obtain⟨its',F,⟨o',B,D,_,_,d'⟩,_⟩:=I.list h';rw[e]at D;cases D;rw[d]at d';injection d' with d1 _;have:its=its':=by simpa using congrArg Array.toList d1
 subst this;exact r.inj F
theorem Inv.tuple_inj(I:Inv X pins σ H s)(h:SqT X.K H a xs)(h':SqT X.K H a ys):xs=ys:=by
 obtain⟨its,r,⟨o,e,_,n,d⟩,_⟩:=I.tuple h;obtain⟨its',F,⟨o',D,_,B,d'⟩,_⟩:=I.tuple h';rw[e]at D;cases D;rw[d]at d';injection d' with d1 _;have:its=its':=by simpa using congrArg Array.toList d1
 subst this;exact r.inj F
abbrev Cx.wish(X:Cx)(E:Value->zb->Prop):Cx:={X with xe:=E}
abbrev Cx.nox(X:Cx):Cx:=X.wish λ_ _=>False
theorem Cx.Ok.wish(ok:X.Ok)(E:Value->zb->Prop):(X.wish E).Ok:=
 ⟨ok.mod,ok.kind,ok.glob,ok.blt,ok.above,ok.inj,ok.has,ok.cab,ok.hd,ok.frames,ok.stk,ok.exf,ok.bs,ok.bsz,ok.noex,ok.exfs,ok.funs,ok.frf⟩
theorem Cx.Ok.unwish(ok:(X.wish E).Ok):X.Ok:=
 ⟨ok.mod,ok.kind,ok.glob,ok.blt,ok.above,ok.inj,ok.has,ok.cab,ok.hd,ok.frames,ok.stk,ok.exf,ok.bs,ok.bsz,ok.noex,ok.exfs,ok.funs,ok.frf⟩
theorem Inv.wish(I:Inv X pins σ H s)(E:Value->zb->Prop):Inv (X.wish E) pins σ H s:=⟨I.ok.wish E,I.os,I.bare,I.base,I.loc,I.cell,I.free,I.freeC,I.pin,I.hok,I.len⟩
variable{E:Value->Shared->Prop}
theorem Inv.unwish(I:Inv (X.wish E) pins σ H s):Inv X pins σ H s:=⟨I.ok.unwish,I.os,I.bare,I.base,I.loc,I.cell,I.free,I.freeC,I.pin,I.hok,I.len⟩
theorem SP.unwish{D:Ends}{f:Flow}(h:SP (X.wish E) pins D f s'):SP X pins D f s':=by
 cases f with
 |next=>obtain⟨B,H',I,q⟩:=h;exact⟨B,H',I.unwish,q⟩
 |brk=>obtain⟨B,H',I,q⟩:=h;exact⟨B,H',I.unwish,q⟩
 |cont=>obtain⟨B,H',I,q⟩:=h;exact⟨B,H',I.unwish,q⟩
 |ret u=>obtain⟨v,B,H',I,r,q⟩:=h;exact⟨v,B,H',I.unwish,r,q⟩
theorem PSs.nox{st:List Stmt}{t:TS}(h:PSs X.nox st t):PSs X st t:=λpins s σ H D I B=>
 aap (h pins s σ H D (I.wish _) B) (λ_ _ q=>q.unwish) λ_ _ z=>aa0 z
section
variable{X:Cx}{st:Stmt}{rest:List Stmt}{t u:TS}{e:Expr}{te:TE}{pos:Pos}
def Ss:TS:=λD σ H=>D.nx σ H
def WT(t u:TS):TS:=λD σ H=>t {D with nx:=u D} σ H
theorem Qz:PSs X [] Ss:=λ_ _ σ H _ I h=>ade ⟨σ,H,I,h⟩
theorem LK(h1:PS X st t)(h2:PSs X rest u):PSs X (st::rest) (WT t u):=by
 intro pins s σ H D I h;refine wpAny_execs_cons (thn (h1 pins s σ H {D with nx:=u D} I h) λf O q=>?_);cases f with
 |next=>
  obtain⟨B,H',Y,q⟩:=q;exact h2 pins O B H' D Y q
 |ret v=>exact q
 |brk=>exact q
 |cont=>exact q
theorem Qc(h1:PS X st t):PSs X [st] t:=by
 intro pins s σ H D I h;refine wpAny_execs_cons (thn (h1 pins s σ H D I h) λf O q=>?_);cases f with
 |next=>exact ade q
 |ret v=>exact q
 |brk=>exact q
 |cont=>exact q
theorem Inv.quiet{pins:List (Addr×Obj)}{σ:St}{H:Hp}{s:zb}(I:Inv X pins σ H s):interactive X.env=false:=by simp[interactive,I.ok.kind]
def JT(te:TE):TS:=λD σ H=>te σ H λ_ H1=>D.nx σ H1
theorem Ai(V:PE X e te)(B:abH e none pos.line X.env=pure false:=by rfl):PS X (.Expr e pos) (JT te):=by
 intro pins s σ H D I h;exact wpAny_Expr_any (thn (V pins s σ H _ I h) λv O ⟨x,H1,F,U,q1⟩=>⟨σ,H1,F,q1⟩) I.quiet B
def UL(te:TE):TS:=λD σ H=>te σ H D.rt
theorem Eu(V:PE X e te):PS X (.Return (some e) pos) (UL te):=by
 intro pins s σ H D I h;exact wpAny_Return_some (thn (V pins s σ H _ I h) λv O ⟨x,H1,F,U,q1⟩=>⟨x,σ,H1,F,U,q1⟩)
def WL(c:TT)(t u:TS):TS:=λD σ H=>c σ H λb H1=>if b=true then t D σ H1 else u D σ H1
theorem S6{c:Expr}{a b:List Stmt}{tc:TT}(Z:PT X c tc)(Y:PSs X a t)(U:PSs X b u):PS X (.If c a b pos) (WL tc t u):=by
 intro pins s σ H D I h;refine wpAny_If (thn (Z pins s σ H _ I h) λd O ⟨H1,F,q1⟩=>?_);cases d with
 |true=>exact Y pins O σ H1 D F q1
 |false=>exact U pins O σ H1 D F q1
def Uy:TS:=λ_ _ _=>False
theorem Lw:PS X st Uy:=λ_ _ _ _ _ _ h=>h.elim
end
abbrev TG:=V->St->Hp->(St->Hp->Prop)->Prop
abbrev TGs:=List V->St->Hp->(St->Hp->Prop)->Prop
def PG(X:Cx)(target:Expr)(t:TG):Prop:=
 ∀(pins:List (Addr×Obj))(s:zb)(σ:St)(H:Hp)(v:V)(u:Value)(Q:St->Hp->Prop),Inv X pins σ H s->RelV v u->t v σ H Q->
  wpAny 1.12 X.A (acn target X.env u) (λ_ s'=>∃B H',Inv X pins B H' s'/\Q B H') X.xe s
def PGs(X:Cx)(q:List Expr)(t:TGs):Prop:=
 ∀(pins:List (Addr×Obj))(s:zb)(σ:St)(H:Hp)(vs:List V)(us:List Value)(Q:St->Hp->Prop),Inv X pins σ H s->Vals vs us->t vs σ H Q->
  wpAny 1.12 X.A (acT ((aam q X.env).map (·.2)) us) (λ_ s'=>∃B H',Inv X pins B H' s'/\Q B H') X.xe s
abbrev HW:=V->V->V->Hp->(Hp->Prop)->Prop
def Qf(X:Cx)(t:HW):Prop:=
 ∀(pins:List (Addr×Obj))(s:zb)(σ:St)(H:Hp)(o i v:V)(D U u:Value)(Q:Hp->Prop),Inv X pins σ H s->RelV o D->RelV i U->RelV v u->t o i v H Q->
  wpAny 1.12 X.A (aeB D U u) (λ_ s'=>∃H',Inv X pins σ H' s'/\Q H') X.xe s
def yD(i:Nat):TG:=λv σ H Q=>Q (σ.set i (some v)) H
theorem zW(V:X.N.Nodup)(hi:X.N[i]? =some x)(F:Loc X.env.scope x)(O:X.fn x=true∨X.env.scope.names.lookup x=some .local:=by first|exact .inl rfl|exact .inr rfl|assumption):PG X (.Name x pos) (yD i):=by
 intro pins s σ H v u Q I r h;exact wpAny_assign_Name (jL I V hi F r (λs' Y=>⟨_,H,Y,h⟩) O)
def Ox:TGs:=λvs σ H Q=>vs=[]/\Q σ H
def Kh(t:TG)(u:TGs):TGs:=λvs σ H Q=>∃v r,vs=v::r/\t v σ H λB H'=>u r B H' Q
theorem Ho:PGs X [] Ox:=by
 intro pins s σ H vs us Q I r h;obtain⟨e,h⟩:=h;subst e;cases r;exact adJ ⟨σ,H,I,h⟩
theorem Ba{t:TG}{u:TGs}(h1:PG X e t)(h2:PGs X es u)
  (B:(aam (e::es) X.env).map (·.2)=acn e X.env::(aam es X.env).map (·.2):=by rfl):PGs X (e::es) (Kh t u):=by
 intro pins s σ H vs us Q I r h;obtain⟨v,q,e1,h⟩:=h;subst e1;cases r with
 |cons r D=>
  rw[B];refine abl (thn (h1 pins s σ H _ _ _ I r h) λ_ O ⟨J,H1,F,q1⟩=>?_);exact h2 pins O J H1 _ _ Q F D q1
def Uu(K:YH)(n:Nat)(t:TGs):TG:=λv σ H Q=>∃a xs,v= .ref a/\SqT K H a xs/\xs.length=n/\t xs σ H Q
variable{k:Nat}
theorem J4{t:TGs}(Z:X.calm=true)(h:PGs X es t)
  (hn:(aam es X.env).length=n:=by rfl) (V:(aam es X.env).findIdx? (·.1)=none:=by rfl):PG X (.Tuple es k pos) (Uu X.K n t):=by
 intro pins s σ H v u Q I r B;obtain⟨a,xs,e1,D,Y,B⟩:=B;subst e1;cases r;obtain⟨its,N,U,J⟩:=I.tuple D;refine assign_Tuple_tuple (I.ok.hd Z) U (by simp[hn,←Y,N.length]) V λh' F=>?_;have q:Inv X pins σ H {s with heap:=h'}:=I.kept (t':=s.toks) λb o e=>F b o (Zb (YG e)) e;exact h pins _ σ H xs _ Q q (by simpa using N) B
def jn(to q:TE)(t:HW):TG:=λv σ H Q=>to σ H λo H1=>q σ H1 λi H2=>t o i v H2 λY=>Q σ Y
theorem V1{o i:Expr}{to ti:TE}{t:HW}(J:PE X o to)(hi:PE X i ti)(B:Qf X t)
  (Y:∀v,acn (.Subscript o i pos) X.env v=(do
   let D ←aaP [v] (eval o X.env)
   let iv ←aaP [v,D] (eval i X.env)
   acz pos
   aaP [v,D,iv] (aeB D iv v)
   release [v,D,iv] []):=by intro _;rfl):PG X (.Subscript o i pos) (jn to ti t):=by
 intro pins s σ H v u Q I r h;rw[Y];refine gD (aaj (thn (J pins s σ H _ I h) λD O ⟨x,H1,F,U,q1⟩=>?_));refine gD (aaj (thn (hi pins O σ H1 _ F q1) λiv Z ⟨y,H2,I2,r2,q2⟩=>?_));refine gD (abS (gD (aaj (thn (B pins Z σ H2 x y v D iv u _ I2 U r2 r q2) λ_ N ⟨H3,V,q⟩=>?_))));exact wpAny_release ⟨σ,H3,V,q⟩
def Pa(te:TE)(g:TG):TS:=λD σ H=>te σ H λx H1=>g x σ H1 D.nx
variable{te:TE}
theorem KC{g:TG}(V:PE X e te)(J:PG X tg g)(B:abv [tg] e pos.line X.env=pure false:=by rfl)(N:abT [tg] e X.env=pure none:=by rfl)
  (h1:(aam [tg] X.env).map (·.2)=[acn tg X.env]:=by rfl):PS X (.Assign [tg] e pos) (Pa te g):=by
 intro pins s σ H D I h;refine wpAny_Assign_stores (thn (V pins s σ H _ I h) λv O ⟨x,H1,F,U,q1⟩=>?_) B N;rw[h1];exact thn (J pins O σ H1 x v _ F U q1) λ_ Z q=>q
theorem Mw(hN:X.N.Nodup)(hi:X.N[i]? =some x)(F:Loc X.env.scope x)(V:PE X e te)(B:abH e (some (.Name x pos')) pos.line X.env=pure false:=by rfl)(q:X.fn x=true∨X.env.scope.names.lookup x=some .local:=by first|exact .inl rfl|exact .inr rfl|assumption) :
  PS X (.Assign [.Name x pos'] e pos) (Pa te (yD i)):=by
 intro pins s σ H D I h;refine wpAny_Assign_Name (thn (V pins s σ H _ I h) λv O ⟨y,H1,Y,U,q1⟩=>?_) B;exact jL Y hN hi F U (λZ J=>⟨_,H1,J,q1⟩) q
def Wr(i j:Nat)(ta:TA):TS:=λD σ H=>ta σ H λvs H1=>∃v w,vs=[v,w]/\D.nx ((σ.set i (some v)).set j (some w)) H1
variable{a:Expr}{ta:TA}
theorem T7{b:Expr}{pt:Pos}{kt k2 pt2}(Z:X.calm=true)(hN:X.N.Nodup)(hi:X.N[i]? =some x)(hj:X.N[j]? =some y)(a2:i≠j)
  (F:X.env.scope.names.lookup x=some .local) (V:X.env.scope.names.lookup y=some .local) (Y:PA X [a,b] ta)
  (hw:abT [.Tuple [.Name x px,.Name y py] kt pt] (.Tuple [a,b] k2 pt2) X.env=pure (some [x,y]))
  (B:abv [.Tuple [.Name x px,.Name y py] kt pt] (.Tuple [a,b] k2 pt2) pos.line X.env=pure false:=by rfl) :
  PS X (.Assign [.Tuple [.Name x px,.Name y py] kt pt] (.Tuple [a,b] k2 pt2) pos) (Wr i j ta):=by
 intro pins s σ H D I h;rw[aeh];refine gD (abS ?_);rw[B];refine gD (YD ?_);rw[Zi (by decide)];refine gD (Tuple_ (thn (Y _ pins s σ H _ I h) λus O ⟨vs,H1,I1,U,q1⟩=>?_));obtain⟨v,w,e1,q1⟩:=q1;subst e1;obtain⟨u1,u2,rfl,rv,a1⟩:∃u1 u2,us=[u1,u2]/\RelV v u1/\RelV w u2:=by
  cases U with
  |cons p q=>
   cases q with
   |cons p' q'=>
    cases q';exact⟨_,_,rfl,p,p'⟩
 refine aae ?_ (by show 2<=YM;decide);have J:Inv X pins σ H1 {O with heap:=O.heap.push {cls:=.type "tuple",data:=.seq [u1,u2].toArray}}:=I1.kept (t':=O.toks) λb o e=>za _ e;rw[hw];refine gD (YD ?_);show wpAny 1.12 X.A (do rule "assign.swapped-stores";let items ←unpackItems (.ref O.heap.objs.size) 2 none;acT [λv=>ab9 X.env y v,λv=>ab9 X.env x v] items.reverse;pure afj) _ _ _;refine gD (acA (gD (unpackItems_tuple (items:=#[u1,u2]) (I.ok.hd Z) (IsTup.new O.heap _) λh' a0=>?_)));have I3:=J.kept (h':=h') (t':=O.toks) λb o e=>a0 b o (Zb (YG e)) e;show wpAny _ _ (acT [λv=>ab9 X.env y v,λv=>ab9 X.env x v] [u2,u1] >>=λ_=>pure afj) _ _ _;refine gD (abl (acB (jL I3 hN hj (.inl V) a1 (λs2 I4=>?_) (.inr V))));refine abl (acB (jL I4 hN hi (.inl F) rv (λs3 I5=>adJ (YD ?_)) (.inr F)));rw[adB _ _ (Zt a2)]at I5;exact⟨_,H1,I5,q1⟩
def Le(c:TT)(tb:TS):TS:=λD σ H=>∃W:Nat->St->Hp->Prop,(∃m,W m σ H)/\∀m σ H,W m σ H->
 c σ H λb H1=>if b=true then ∃N:St->Hp->Prop,(∀B H',N B H'->∃I,I<m/\W I B H')/\tb {D with nx:=N,ct:=N,bk:=D.nx} σ H1 else D.nx σ H1
variable{tb:TS}
theorem MT{V:List Stmt}{tc:TT}(hp:afk 1.12 X.A X.env X.xe)(Z:PT X c tc)(U:PSs X V tb):PS X (.While c V [] pos) (Le tc tb):=by
 intro pins s σ H D I h;obtain⟨W,⟨m0,w0⟩,a2⟩:=h;refine wpAny_While (codeAny_whileLoop (λn s'=>∃B H',Inv X pins B H' s'/\W n B H') ?_ m0 ⟨σ,H,I,w0⟩);rintro n O ⟨a1,H1,F,w1⟩;refine abr hp (thn (Z pins O a1 H1 _ F (a2 n a1 H1 w1)) λb s2 ⟨H2,J,q2⟩=>?_);cases b with
 |true=>
  obtain⟨N,hN,q2⟩:=q2;rw[YZ rfl];refine abr hp (thn (U pins s2 a1 H2 _ J q2) λf s3 q=>?_);cases f with
  |next=>
   obtain⟨a0,Y,I3,n3⟩:=q;obtain⟨m',hm,w3⟩:=hN a0 Y n3;exact⟨m',hm,a0,Y,I3,w3⟩
  |cont=>
   obtain⟨a0,Y,I3,n3⟩:=q;obtain⟨m',hm,w3⟩:=hN a0 Y n3;exact⟨m',hm,a0,Y,I3,w3⟩
  |brk=>exact q
  |ret v=>exact q
 |false=>
  rw[Zi ZK];exact ade ⟨a1,H2,J,q2⟩
structure It where
 go:Nat->Hp->Prop
 yld:Nat->Hp->V->Hp->Prop
 stop:Nat->Hp->Prop
def lD(X:Cx)(pins:List (Addr×Obj))(H:Hp)(b:Addr):Prop:=
 H b=none/\b≠X.env.locals/\b∉X.fs/\(b∈X.ex∨X.s₀.heap.objs.size<=b)/\(∀x c,X.env.cells.lookup x=some c->c≠b)/\∀p∈X.pn++pins,p.1≠b
variable{s:zb}
theorem Inv.fpOk(I:Inv X pins σ H s)(U:s.heap.objs.size<=b)(hn:H' b=none):lD X pins H' b:=by
 refine⟨hn,aaA (Ze I.lt U),I.nofs U,.inr (aau I.sz U),λx c e z=>?_,λp N z=>?_⟩
 .obtain⟨v,q⟩:=I.cell x c e
  exact absurd (Ze q.lt (by rw[z];exact U)) (aai _)
 .exact absurd (Ze (YG (I.pin p N).1) (by rw[z];exact U)) (aai _)
structure Turn(P:Program)(w:World)(K:PySem.W.Frag)(tg:Expr)(J:It)(fp:List Addr)(it:Addr)(tn:Nat->Heap->Prop):Prop where
 mem:it∈fp
 obj:∀i h,tn i h->∀b∈fp,∃o,h.get? b=some o/\∀v,o.data≠.cell v
 keep:∀i h h',tn i h->(∀b∈fp,∀o,h.get? b=some o->h'.get? b=some o)->tn i h'
 item:∀(X:Cx),X.prog=P->X.w=w->X.K=K->X.calm=true->∀(i:Nat)(pins:List (Addr×Obj))(s:zb)(σ:St)(H:Hp)(E:Value->zb->Prop),Inv X pins σ H s->(∀b∈fp,lD X pins H b)->tn i s.heap->J.go i H->
  wpAny (model P w) X.A (adY (.ref it)) (λr s1=>∃u,r=some u/\
   wpAny (model P w) X.A (acj tg (.ref it) u) (λ_ s2=>∃x H',Inv X pins σ H' s2/\RelV x u/\J.yld i H x H'/\tn (i+1) s2.heap/\∀b∈fp,H' b=none) E s1) E s
 done:∀(X:Cx),X.prog=P->X.w=w->X.K=K->X.calm=true->∀(i:Nat)(pins:List (Addr×Obj))(s:zb)(σ:St)(H:Hp)(E:Value->zb->Prop),Inv X pins σ H s->(∀b∈fp,lD X pins H b)->tn i s.heap->J.stop i H->
  wpAny (model P w) X.A (adY (.ref it)) (λr s1=>r=none/\Inv X pins σ H s1) E s
 self:∀(A:ZW)(i:Nat)(s:zb)(Q:Value->zb->Prop)(E:Value->zb->Prop),tn i s.heap->Q (.ref it) s->wpAny (model P w) A (adZ (.ref it)) Q E s
abbrev TI:=St->Hp->(It->Hp->Prop)->Prop
def PIE(X:Cx)(pins:List (Addr×Obj))(σ:St)(tg:Expr)(R:It->Hp->Prop)(B:Value)(Z:zb):Prop:=
 ∃(it:Addr)(fp:List Addr)(q:Nat->Heap->Prop)(J:It)(H':Hp),B= .ref it/\Inv X pins σ H' Z/\Turn X.prog X.w X.K tg J fp it q/\q 0 Z.heap/\(∀b∈fp,lD X pins H' b)/\R J H'
def PI(X:Cx)(tg iter:Expr)(wi:TI):Prop:=
 ∀(pins:List (Addr×Obj))(s:zb)(σ:St)(H:Hp)(R:It->Hp->Prop),Inv X pins σ H s->wi σ H R->
  wpAny 1.12 X.A (eval iter X.env) (λv O=>wpAny 1.12 X.A (adZ v) (PIE X pins σ tg R) X.xe O) X.xe s
theorem Gi   {E:Value->zb->Prop}      {n:String} {vs:Array Value}  (J:s.heap.get? it=some o) (Z:o.cls = .type n) (hd:o.data = .fields vs)
    (hn:["enumerate", "zip", "dict_itemiterator", "dict_reverseitemiterator", "odict_iterator", "itertools.zip_longest", "itertools.pairwise"].contains n=false) (U:Q () s):wpAny M A (acj tg (.ref it) u) Q E s:=by
  unfold acj
  cases tg <;> first
    | exact YD U
    | (cases u <;> first
        | exact YD U
        | (refine gD (aeS J ?_)
           rw [Z,hd]
           show wpAny M A (if (["enumerate", "zip", "dict_itemiterator", "dict_reverseitemiterator", "odict_iterator", "itertools.zip_longest", "itertools.pairwise"].contains n && vs[0]? == some (abU _))=true then _ else _) Q E s
           rw [Zi (by intro h; rw [hn,Bool.false_and] at h; cases h)]
           exact YD U))
def Itl(K:YH)(a:Addr):It:=
 ⟨λi H=>∃xs x,SqL K H a xs/\xs[i]? =some x,λi H x H'=>H'=H/\∀xs,SqL K H a xs->xs[i]? =some x,λi H=>∃xs,SqL K H a xs/\xs.length<=i⟩
def Itt(K:YH)(a:Addr):It:=
 ⟨λi H=>∃xs x,SqT K H a xs/\xs[i]? =some x,λi H x H'=>H'=H/\∀xs,SqT K H a xs->xs[i]? =some x,λi H=>∃xs,SqT K H a xs/\xs.length<=i⟩
def Itr(lo:Int)(n:Nat):It:=⟨λi _=>i<n,λi H x H'=>H'=H/\x= .int (lo+i),λi _=>n<=i⟩
variable{P:Zr}
theorem Ir{K:YH}(a it:Addr):Turn P w K tg (Itl K a) [it] it (λi h=>h.IsListIter it a i)where
 mem:=by simp
 obj:=λi h st b U=>by
  have e:b=it:=by simpa using U
  subst e;obtain⟨o,e,c,d⟩:=st;exact⟨o,e,λv z=>by rw[d]at z;cases z⟩
 keep:=λi h h' st k=>st.at λo e=>k it (by simp) o e
 item:=by
  intro X hP B hK Z i pins s σ H E I O st q;subst hP B hK;obtain⟨xs,x,D,F⟩:=q;obtain⟨its,N,p,hz⟩:=I.list D;obtain⟨u,J,ru⟩:=N.get F;obtain⟨f0,f1,f2,f3,f4,f5⟩:=O it (by simp);refine acN st p.isList (x:=u) (by simpa using J) λh' a0 sb=>?_;have I1:Inv X pins σ H {s with heap:=h'}:=I.turned (t':=s.toks) (λb o U e=>(sb.2 b U).trans e) f0 f1 f3 f4 f5;obtain⟨o,e,c,d⟩:=id a0;exact⟨u,rfl,Gi (s:={s with heap:=h'}) e c d (by decide) ⟨x,H,I1,ru,⟨rfl,λys V=>by rw[I.list_inj V D];exact F⟩,a0,λb U=>(O b U).1⟩⟩
 done:=by
  intro X hP B hK Z i pins s σ H E I O st q;subst hP B hK;obtain⟨xs,D,F⟩:=q;obtain⟨its,N,p,hz⟩:=I.list D;obtain⟨f0,f1,f2,f3,f4,f5⟩:=O it (by simp);have Y:=N.length;exact ac5 (I.ok.hd Z) st p.isList (by simp;omega) λh' eb=>⟨rfl,I.turned (t':=s.toks) (λb o U e=>eb b o U e) f0 f1 f3 f4 f5⟩
 self:=λ_ _ _ _ _ st h=>wpAny_pyIter_listiter st h
theorem Dy{K:YH}(a it:Addr):Turn P w K tg (Itt K a) [it] it (λi h=>h.IsTupleIter it a i)where
 mem:=by simp
 obj:=λi h st b U=>by
  have e:b=it:=by simpa using U
  subst e;obtain⟨o,e,c,d⟩:=st;exact⟨o,e,λv z=>by rw[d]at z;cases z⟩
 keep:=λi h h' st k=>st.at λo e=>k it (by simp) o e
 item:=by
  intro X hP B hK Z i pins s σ H E I O st q;subst hP B hK;obtain⟨xs,x,D,F⟩:=q;obtain⟨its,N,p,hz⟩:=I.tuple D;obtain⟨u,J,ru⟩:=N.get F;obtain⟨f0,f1,f2,f3,f4,f5⟩:=O it (by simp);refine aec st (show s.heap.IsTuple a its.toArray from p) (x:=u) (by simpa using J) λh' a0 sb=>?_;have I1:Inv X pins σ H {s with heap:=h'}:=I.turned (t':=s.toks) (λb o U e=>(sb.2 b U).trans e) f0 f1 f3 f4 f5;obtain⟨o,e,c,d⟩:=id a0;exact⟨u,rfl,Gi (s:={s with heap:=h'}) e c d (by decide) ⟨x,H,I1,ru,⟨rfl,λys V=>by rw[I.tuple_inj V D];exact F⟩,a0,λb U=>(O b U).1⟩⟩
 done:=by
  intro X hP B hK Z i pins s σ H E I O st q;subst hP B hK;obtain⟨xs,D,F⟩:=q;obtain⟨its,N,p,hz⟩:=I.tuple D;obtain⟨f0,f1,f2,f3,f4,f5⟩:=O it (by simp);have Y:=N.length;exact aeq (I.ok.hd Z) st (show s.heap.IsTuple a its.toArray from p) (by simp;omega) λh' eb=>⟨rfl,I.turned (t':=s.toks) (λb o U e=>eb b o U e) f0 f1 f3 f4 f5⟩
 self:=λ_ _ _ _ _ st h=>wpAny_pyIter_tupleiter st h
theorem Fj{K:YH}(it:Addr)(lo:Int)(n:Nat):Turn P w K tg (Itr lo n) [it] it (λi h=>IsRangeIter h it (lo+(i:Nat)*1) ((n:Int)-(i:Nat)) 1)where
 mem:=by simp
 obj:=λi h st b U=>by
  have e:b=it:=by simpa using U
  subst e;exact⟨_,st,λv z=>by
   have z':Data.fields _=Data.cell v:=z;cases z'⟩
 keep:=λi h h' st k=>k it (by simp) _ st
 item:=by
  intro X D hw hK Z i pins s σ H E I O st q;subst D hw hK;obtain⟨f0,N,f2,J,V,f5⟩:=O it (by simp);have W:=Walks.range (prog:=X.prog) (w:=X.w) (I.ok.hd Z) it lo 1 n;refine W.item i s _ _ q st λv h' tk B Y kk=>?_;obtain⟨t,rfl⟩:=B;have F:Inv X pins σ H {s with heap:=h',toks:=tk}:=I.turned (λb o U e=>kk b o (by simpa using U) e) f0 N J V f5;refine⟨_,rfl,Gi (s:={s with heap:=h',toks:=tk}) (n:="range_iterator") Y rfl rfl (by decide) ⟨.int (lo+i),H,F,⟨t,?_⟩,⟨rfl,rfl⟩,Y,λb U=>(O b U).1⟩⟩;rw[Int.mul_one]
 done:=by
  intro X D hw hK Z i pins s σ H E I O st q;subst D hw hK;obtain⟨f0,N,f2,J,V,f5⟩:=O it (by simp);exact wpAny_pyNext_range_end (I.ok.hd Z) st (by have:n<=i:=q;omega) λh' eb=>⟨rfl,I.turned (t':=s.toks) (λb o U e=>eb b o U e) f0 N J V f5⟩
 self:=λ_ _ _ _ _ st h=>wpAny_pyIter_rangeiter st h
theorem Nh{R:It->Hp->Prop}{E:Value->zb->Prop}{lo hi:Int}{t u v:Tok}(I:Inv X pins σ H s)(h1: -(2 ^ 62)<=lo)(h2:lo<2 ^ 62)(B: -(2 ^ 62)<=hi)(Z:hi<2 ^ 62)
  (q:R (Itr lo (hi-lo).toNat) H):wpAny 1.12 X.A (adZ (.ref s.heap.objs.size)) (PIE X pins σ tg R) E {s with heap:=s.heap.push {cls:=.type "range",data:=.fields #[.int lo t,.int hi u,.int 1 v]},toks:=tk}:=by
 refine wpAny_pyIter_range (IsRange.new ..) (small_one h1 h2 B Z) ?_;have F:Inv X pins σ H {s with heap:=s.heap.push {cls:=.type "range",data:=.fields #[.int lo t,.int hi u,.int 1 v]},toks:=tk}:=I.kept λb o e=>za _ e;refine⟨(s.heap.push {cls:=.type "range",data:=.fields #[.int lo t,.int hi u,.int 1 v]}).objs.size,[(s.heap.push {cls:=.type "range",data:=.fields #[.int lo t,.int hi u,.int 1 v]}).objs.size],_,_,H,rfl,
  F.kept (t':=tk) λb o e=>za _ e,Fj _ lo (hi-lo).toNat,?_,λb U=>?_,q⟩
 .have e1:lo+((0:Nat):Int)*1=lo:=by simp
  have e2:(((hi-lo).toNat:Nat):Int)-((0:Nat):Int)=Builtin.Range.rangeSize lo hi 1:=by rw[rangeSize_one];split<;>omega
  show IsRangeIter _ _ (lo+((0:Nat):Int)*1) ((((hi-lo).toNat:Nat):Int)-((0:Nat):Int)) 1;rw[e1,e2];exact YS _ rfl
 .have e:b=(s.heap.push {cls:=.type "range",data:=.fields #[.int lo t,.int hi u,.int 1 v]}).objs.size:=by simpa using U
  subst e;exact F.fpOk (YK _) (F.hok.fresh (YK _))
def Th(ta:TA):TI:=λσ H R=>ta σ H λvs H1=>∃j:Int,vs=[.int j]/\-(2 ^ 62)<=j/\j<2 ^ 62/\R (Itr 0 j.toNat) H1
theorem Ji{p:Pos}(J:Gl X "range")(N:X.mg "range"=none)(Y:PA X [a] ta)(B:YQ [a] X.env=[(false,eval a X.env)]:=by rfl):PI X tg (.Call (.Name "range" p) [a] [] pos) (Th ta):=by
 intro pins s σ H R I h;refine Call_ (pC I J N boot_range (aaU (thn (Y pos pins s σ H _ I h) λus O ⟨vs,H1,F,U,q1⟩=>?_) B rfl));obtain⟨j,e,q1,q2,q⟩:=q1;subst e;cases U with
 |cons r D=>
  cases D;obtain⟨t,rfl⟩:=r;exact call_range_1 (Nh F 1.11 1.11 q1 q2 (by simpa using q))
def Xp(wi:TI)(g:TG)(tb:TS):TS:=λD σ H=>wi σ H λJ H1=>∃W:Nat->Nat->St->Hp->Prop,(∃m,W 0 m σ H1)/\∀i m σ H,W i m σ H->
 (J.stop i H/\D.nx σ H)∨(J.go i H/\∃N:St->Hp->Prop,(∀B H',N B H'->∃I,I<m/\W (i+1) I B H')/\∀x H',J.yld i H x H'->g x σ H' λσ2 H2=>tb {D with nx:=N,ct:=N,bk:=D.nx} σ2 H2)
def lZ(fp:List Addr)(h:Heap):List (Addr×Obj):=fp.filterMap λb=>(h.get? b).map λo=>(b,o)
theorem d8(U:b∈fp)(e:h.get? b=some o):(b,o)∈lZ fp h:=aco.mpr ⟨b,U,by rw[e];rfl⟩
theorem sS{p:Addr×Obj}(N:p∈lZ fp h):p.1∈fp/\h.get? p.1=some p.2:=by
 obtain⟨b,U,e⟩:=aco.mp N;cases q:h.get? b with
 |none=>rw[q]at e;cases e
 |some o=>
  rw[q]at e;have D:(b,o)=p:=Z_ e;subst D;exact⟨U,q⟩
theorem Inv.pinned(I:Inv X pins σ H s)(O:∀b∈fp,lD X pins H b)(J:∀b∈fp,∃o,s.heap.get? b=some o/\∀v,o.data≠.cell v):Inv X (pins++lZ fp s.heap) σ H s:=
 I.pins_of λp N=>(YC.mp N).elim (λz=>I.pin p (zc _ z)) λz=>by
  obtain⟨U,e⟩:=sS z;obtain⟨F,q,B,_⟩:=O p.1 U;obtain⟨o,D,d⟩:=J p.1 U;rw[e]at D;cases D;exact⟨e,F,q,B,d⟩
theorem Inv.unpinned{pl:List (Addr×Obj)}(I:Inv X (pins++pl) σ H s):Inv X pins σ H s:=I.pins_of λp N=>I.pin p (zc _ (Za _ N))
theorem Vj{iter:Expr}{V:List Stmt}{wi:TI}{g:TG}(hp:afk 1.12 X.A X.env X.xe)(Z:X.calm=true)(hi:PI X tg iter wi)(q:PG X tg g)(U:PSs X V tb)
  (B:∀x,aaD iter X.env x=pure x:=by intro _;rfl):PS X (.For tg iter V [] pos) (Xp wi g tb):=by
 intro pins s σ H D I h;refine wpAny_For (thn (hi pins s σ H _ I h) λv s1 h1=>thn h1 λb2 s2 h2=>?_) B;obtain⟨it,fp,tn,J,H2,e,I2,T,a8,f2,W,⟨m0,w0⟩,a6⟩:=h2;subst e;have F:∀{H':Hp},(∀b∈fp,H' b=none)->∀b∈fp,lD X pins H' b:=λhn b U=>⟨hn b U,(f2 b U).2⟩;refine codeAny_forLoop_any (λn s'=>∃i a3 H',Inv X pins a3 H' s'/\tn i s'.heap/\(∀b∈fp,H' b=none)/\W i n a3 H') ?_ m0 ⟨0,σ,H2,I2,a8,λb U=>(f2 b U).1,w0⟩;rintro n s3 ⟨i,a1,Y,I3,a7,a5,w3⟩;rcases a6 i n a1 Y w3 with⟨stop,qn⟩|⟨go,N,hN,step⟩
 .refine abr hp (thn (T.done X rfl rfl rfl Z i pins s3 a1 Y X.xe I3 (F a5) a7 stop) λr s4 ⟨O,I4⟩=>?_)
  subst O;exact ade ⟨a1,Y,I4,qn⟩
 .refine abr hp (thn (T.item X rfl rfl rfl Z i pins s3 a1 Y X.xe I3 (F a5) a7 go) λr s4 ⟨u,O,h4⟩=>?_)
  subst O;refine abr hp (thn h4 λ_ s5 ⟨x,H5,I5,r5,y5,a4,b0⟩=>?_);have a9:=I5.pinned (F b0) (T.obj _ _ a4);refine abr hp (thn (q _ s5 a1 H5 x u _ a9 r5 (step x H5 y5)) λ_ s6 ⟨b1,H6,I6,q6⟩=>?_);refine abr hp (thn (U _ s6 b1 H6 _ I6 q6) λf s7 q7=>?_);have a2:∀{a0:St}{H7:Hp},Inv X (pins++lZ fp s5.heap) a0 H7 s7->N a0 H7->∃m,m<n/\∃i a3 H',Inv X pins a3 H' s7/\tn i s7.heap/\(∀b∈fp,H' b=none)/\W i m a3 H':=λ{a0 H7} I7 n7=>by
   obtain⟨m',hm,w7⟩:=hN a0 H7 n7;refine⟨m',hm,i+1,a0,H7,I7.unpinned,T.keep _ _ _ a4 λb U o e=>(I7.pin (b,o) (zc _ (zc _ (d8 U e)))).1,λb U=>?_,w7⟩;obtain⟨o,e,d⟩:=T.obj _ _ a4 b U;exact(I7.pin (b,o) (zc _ (zc _ (d8 U e)))).2.1
  cases f with
  |next=>obtain⟨a0,H7,I7,n7⟩:=q7;exact a2 I7 n7
  |cont=>obtain⟨a0,H7,I7,n7⟩:=q7;exact a2 I7 n7
  |brk=>obtain⟨a0,H7,I7,q7⟩:=q7;exact⟨a0,H7,I7.unpinned,q7⟩
  |ret v=>obtain⟨x7,a0,H7,I7,r7,q7⟩:=q7;exact⟨x7,a0,H7,I7.unpinned,r7,q7⟩
abbrev R2:=V->V->Hp->VK->Prop
def OpR(X:Cx)(f:Value->Value->Sem Value)(r:R2):Prop:=
 ∀(pins:List (Addr×Obj))(s:zb)(σ:St)(H:Hp)(x y:V)(v u:Value)(Q:VK),Inv X pins σ H s->RelV x v->RelV y u->r x y H Q->
  wpAny 1.12 X.A (f v u) (EP X pins σ Q) X.xe s
def UnR(X:Cx)(f:Value->Sem Value)(r:V->Hp->VK->Prop):Prop:=
 ∀(pins:List (Addr×Obj))(s:zb)(σ:St)(H:Hp)(x:V)(v:Value)(Q:VK),Inv X pins σ H s->RelV x v->r x H Q->
  wpAny 1.12 X.A (f v) (EP X pins σ Q) X.xe s
def fK(X:Cx)(f:Value)(r:List V->Hp->VK->Prop):Prop:=
 ∀(pins:List (Addr×Obj))(s:zb)(σ:St)(H:Hp)(xs:List V)(us:List Value)(Q:VK),Inv X pins σ H s->Vals xs us->r xs H Q->
  wpAny 1.12 X.A (call f us) (EP X pins σ Q) X.xe s
def X_(X:Cx)(r:V->Hp->(Bool->Hp->Prop)->Prop):Prop:=
 ∀(pins:List (Addr×Obj))(s:zb)(σ:St)(H:Hp)(x:V)(v:Value)(Q:Bool->Hp->Prop),Inv X pins σ H s->RelV x v->r x H Q->
  wpAny 1.12 X.A (truthy v) (TP X pins σ Q) X.xe s
def tOp(r:R2)(ta tb:TE):TE:=λσ H Q=>ta σ H λx H1=>tb σ H1 λy H2=>r x y H2 Q
def tUn(r:V->Hp->VK->Prop)(ta:TE):TE:=λσ H Q=>ta σ H λx H1=>r x H1 Q
def rI(C:Int->Int->Prop)(g:Int->Int->V):R2:=λx y H Q=>∃i j,x= .int i/\y= .int j/\C i j/\Q (g i j) H
def rI0(g:Int->Int->V):R2:=λx y H Q=>∃i j,x= .int i/\y= .int j/\Q (g i j) H
def rU(g:Int->V):V->Hp->VK->Prop:=λx H Q=>∃i,x= .int i/\Q (g i) H
variable{b:Expr}{f:Value->Value->Sem Value}{ta tb:TE}
theorem Uj(Y:PE X a ta)(U:PE X b tb){R:V->V->Hp->Prop}(I:Inv X pins σ H s)
  (h:ta σ H λx H1=>tb σ H1 λy H2=>R x y H2) {Q:Value->zb->Prop} 
  (N:∀v u Z x y H2,Inv X pins σ H2 Z->RelV x v->RelV y u->R x y H2->wpAny 1.12 X.A (f v u) Q X.xe Z) :
  wpAny 1.12 X.A (eval a X.env) (λv q=>wpAny 1.12 X.A (eval b X.env) (λu D=>wpAny 1.12 X.A (f v u) Q X.xe D) X.xe q) X.xe s:=by
 refine thn (Y pins s σ H _ I h) λv O ⟨x,H1,F,r1,q1⟩=>?_;refine thn (U pins O σ H1 _ F q1) λu Z ⟨y,H2,J,B,q2⟩=>?_;exact N v u Z x y H2 J r1 B q2
variable{r:R2}
theorem Tg{op:ad0}(J:OpR X (aay op) r)(Y:PE X a ta)(U:PE X b tb):PE X (.BinOp a op b pos) (tOp r ta tb):=by
 show 5;exact wpAny_BinOp (Uj Y U I h λv u Z x y H2 B rx N q=>J pins Z σ H2 x y v u Q B rx N q)
theorem W8{op:UnaryOp}{r:V->Hp->VK->Prop}(J:UnR X (unaryOp op) r)(Y:PE X a ta):PE X (.UnaryOp op a pos) (tUn r ta):=by
 show 5;exact UnaryOp_ (thn (Y pins s σ H _ I h) λv O ⟨x,H1,F,U,q1⟩=>J pins O σ H1 x v Q F U q1)
theorem opI{C:Int->Int->Prop}
  (B:∀(i j:Int)(t u:Tok)(s:zb)(Q:Value->zb->Prop)(E:Value->zb->Prop),C i j->Q (.int (g i j) s.toks) {s with toks:=s.toks+1}->wpAny 1.12 X.A (f (.int i t) (.int j u)) Q E s) :
  OpR X f (rI C λi j=>.int (g i j)):=by
 intro pins s σ H x y v u Q I rx N h;obtain⟨i,j,rfl,rfl,Z,q⟩:=h;obtain⟨t,rfl⟩:=rx;obtain⟨t',rfl⟩:=N;exact B i j t t' s _ _ Z ⟨.int (g i j),H,I.tok _,⟨_,rfl⟩,q⟩
theorem XN
  (B:∀(i j:Int)(t u:Tok)(s:zb)(Q:Value->zb->Prop)(E:Value->zb->Prop),Q (.int (g i j) s.toks) {s with toks:=s.toks+1}->wpAny 1.12 X.A (f (.int i t) (.int j u)) Q E s) :
  OpR X f (rI0 λi j=>.int (g i j)):=by
 show 4;exact B i j t t' s _ _ ⟨.int (g i j),H,I.tok _,⟨_,rfl⟩,q⟩
theorem Rt{g:Int->Int->Bool}
  (B:∀(i j:Int)(t u:Tok)(s:zb)(Q:Value->zb->Prop)(E:Value->zb->Prop),Q (.bool (g i j)) s->wpAny 1.12 X.A (f (.int i t) (.int j u)) Q E s) :
  OpR X f (rI0 λi j=>.bl (g i j)):=by
 show 4;exact B i j t t' s _ _ ⟨.bl (g i j),H,I,rfl,q⟩
def Yp(i j:Int):Prop:=0<=j/\j<=1000000/\i.natAbs<2 ^ 64
def Vd(i j:Int):Prop:=(-(2 ^ 64)<i/\i<2 ^ 64)∨(-(2 ^ 64)<j/\j<2 ^ 64)
theorem Vd.ok{i j:Int}(h:Vd i j):IntMulOk i j:=by
 rcases h with⟨h1,h2⟩|⟨h1,h2⟩
 .exact .of_left (intBits_le_64 h1 h2)
 .exact .of_right (intBits_le_64 h1 h2)
theorem V0:OpR X (aay .Add) (rI0 λi j=>.int (i+j)):=XN λ_ _ _ _ _ _ _ q=>add_int q
theorem TF:OpR X (aay .Sub) (rI0 λi j=>.int (i-j)):=XN λ_ _ _ _ _ _ _ q=>sub_int q
theorem Vk:OpR X (aay .Mult) (rI Vd λi j=>.int (i*j)):=opI λ_ _ _ _ _ _ _ Z q=>mul_int q Z.ok
theorem Vn:OpR X (aay .Mod) (rI (λ_ j=>0<j) λi j=>.int (i % j)):=opI λi j _ _ _ _ _ Z q=>by
 have h1:(0:Int)<j:=Z;exact mod_int' 1.11 (by rw[Int.fmod_eq_emod_of_nonneg i 1.11];exact q)
theorem Uk:OpR X (aay .Pow) (rI Yp λi j=>.int (i ^ j.toNat)):=opI λ_ _ _ _ _ _ _ Z q=>pow_int_small Z.1 Z.2.1 Z.2.2 q
theorem unI{f:Value->Sem Value}{g:Int->Int}
  (B:∀(i:Int)(t:Tok)(s:zb)(Q:Value->zb->Prop)(E:Value->zb->Prop),Q (.int (g i) s.toks) {s with toks:=s.toks+1}->wpAny 1.12 X.A (f (.int i t)) Q E s) :
  UnR X f (rU λi=>.int (g i)):=by
 intro pins s σ H x v Q I rx h;obtain⟨i,rfl,q⟩:=h;obtain⟨t,rfl⟩:=rx;exact B i t s _ _ ⟨.int (g i),H,I.tok _,⟨_,rfl⟩,q⟩
theorem Ue:UnR X (unaryOp .USub) (rU λi=>.int (-i)):=unI λ_ _ _ _ _ q=>neg_int q
theorem Aa{Q:VK}{k V:Bool}(I:Inv X pins σ H s)(q:Q (.bl k) H)(e:k=V):EP X pins σ Q (.bool V) s:=by
 subst e;exact⟨.bl k,H,I,rfl,q⟩
theorem WQ:OpR X (ZL .Lt) (rI0 λi j=>.bl (decide (i<j))):=Rt λ_ _ _ _ _ _ _ q=>lt_int q
theorem Wc:OpR X (ZL .LtE) (rI0 λi j=>.bl (decide (i<=j))):=Rt λ_ _ _ _ _ _ _ q=>le_int q
theorem XD:OpR X (ZL .Gt) (rI0 λi j=>.bl (decide (j<i))):=Rt λ_ _ _ _ _ _ _ q=>gt_int q
theorem WK:OpR X (ZL .GtE) (rI0 λi j=>.bl (decide (j<=i))):=Rt λ_ _ _ _ _ _ _ q=>ge_int q
theorem Im:OpR X (ZL .Lt) (λx y H Q=>∃i j,x= .str i/\y= .str j/\Q (.bl (decide (i.cps.toList<j.cps.toList))) H):=by
 show 4;exact lt_str (Aa I q rfl)
theorem JK:OpR X (ZL .In) (λx y H Q=>∃i j,x= .str i/\y= .str j/\Q (.bl (!(aab j i 0 j.length 1).isEmpty)) H):=by
 show 4;exact in_str (Aa I q rfl)
theorem Ut:OpR X (ZL .Is) (λx y H Q=>y= .non/\Q (.bl (decide (x= .non))) H):=by
 intro pins s σ H x y v u Q I rx N h;obtain⟨rfl,q⟩:=h;cases N;refine is_none_gen (Aa I q ?_);cases x<;>first
  |(cases rx;rfl)
  |(obtain⟨t,rfl⟩:=rx;rfl)
theorem PL:OpR X (ZL .IsNot) (λx y H Q=>y= .non/\Q (.bl (!decide (x= .non))) H):=by
 intro pins s σ H x y v u Q I rx N h;obtain⟨rfl,q⟩:=h;cases N;refine isnot_none_gen (Aa I q ?_);cases x<;>first
  |(cases rx;rfl)
  |(obtain⟨t,rfl⟩:=rx;rfl)
theorem RG(J:OpR X (ZL op) r)(Y:PE X a ta)(U:PE X b tb)(B:acU op b=false):PE X (.Compare a [op] [b] pos) (tOp r ta tb):=by
 show 5;exact wpAny_Compare1 (Uj Y U I h λv u Z x y H2 D rx N q=>J pins Z σ H2 x y v u Q D rx N q) B
def KN(t:TE):TT:=λσ H Q=>t σ H λx H'=>∃k,x= .bl k/\Q k H'
theorem Hf(J:OpR X (ZL op) r)(Y:PE X a ta)(U:PE X b tb)(N:acU op b=false):PT X (.Compare a [op] [b] pos) (KN (tOp r ta tb)):=by
 intro pins s σ H Q I h;refine wpAny_isTrue_Compare1 (thn (Y pins s σ H _ I h) λv O ⟨x,H1,F,r1,q1⟩=>thn (U pins O σ H1 _ F q1) λu Z ⟨y,H2,D,B,q2⟩=>
  thn (J pins Z σ H2 x y v u _ D r1 B q2) λc s3 ⟨z,H3,V,r3,k,e,q⟩=>?_) N
 subst e;cases r3;exact abz ⟨H3,V,q⟩
def Qx(K:YH)(x:V)(H:Hp)(k:Bool):Prop:=
 match x with
 |.non=>k=false
 |.bl b=>k=b
 |.int i=>k=(i !=0)
 |.str y=>y.length<=YM/\k=((y.length:Int)!=0)
 |.byt y=>y.size<=YM/\k=((y.size:Int)!=0)
 |.ref p=>(∃xs,SqL K H p xs/\k= !xs.isEmpty)∨(∃xs,SqT K H p xs/\k= !xs.isEmpty)∨∃kvs,H p=some (.dK kvs)/\k= !kvs.isEmpty
 |_=>False
theorem DG{kvs:List (κ×V)}{vs:List (κ×Value)}(r:KV kvs vs):(!vs.isEmpty)= !kvs.isEmpty:=by
 cases r<;>rfl
theorem wj(r:Vals xs its):(!its.toArray.isEmpty)= !xs.isEmpty:=by
 cases r<;>simp
theorem qK:(YM:Nat)<2 ^ 63:=by rw[acg];decide
theorem Uc:X_ X (λx H Q=>∃k,Qx X.K x H k/\Q k H):=by
 intro pins s σ H x v Q I rx h;obtain⟨k,e,q⟩:=h;have Y:=qK;have B:YM=16777216:=acg;cases x with
 |non=>
  cases rx;have D:k=false:=e;subst D;exact truthy_none ⟨H,I,q⟩
 |bl b=>
  cases rx;have D:k=b:=e;subst D;exact abz ⟨H,I,q⟩
 |int i=>
  obtain⟨t,rfl⟩:=rx;have D:k=(i !=0):=e;subst D;exact PySem.P.truthy_int ⟨H,I,q⟩
 |str y=>
  obtain⟨t,rfl⟩:=rx;obtain⟨V,D⟩:y.length<=YM/\k=((y.length:Int)!=0):=e;subst D;exact PySem.P.truthy_str 1.11 ⟨H,I.tok _,q⟩
 |byt y=>
  obtain⟨t,rfl⟩:=rx;obtain⟨V,D⟩:y.size<=YM/\k=((y.size:Int)!=0):=e;subst D;exact PySem.W.truthy_bytes 1.11 ⟨H,I.tok _,q⟩
 |ref p=>
  cases rx;have D:(∃xs,SqL X.K H p xs/\k= !xs.isEmpty)∨(∃xs,SqT X.K H p xs/\k= !xs.isEmpty)∨∃kvs,H p=some (.dK kvs)/\k= !kvs.isEmpty:=e;rcases D with⟨xs,F,D⟩|⟨xs,F,D⟩|⟨kvs,F,D⟩
  .subst D
   obtain⟨its,r,pl,J⟩:=I.list F;have O:=r.length;exact wpAny_truthy_list pl.isList (by simp![List.size_toArray];omega) ⟨H,I.tok _,by rw[wj r];exact q⟩
  .subst D
   obtain⟨its,r,pl,J⟩:=I.tuple F;have O:=r.length;exact truthy_tuple pl (by simp![List.size_toArray];omega) ⟨H,I.tok _,by rw[wj r];exact q⟩
  .subst D
   obtain⟨J,N,vs,r,m⟩:kvs.length<=YM/\(p==abD)=false/\∃vs,KV kvs vs/\s.heap.DictOf (bf X.prog X.w) p vs:=I.hok p _ F;have O:kvs.length=vs.length:=adz r;exact wpAny_truthy_dict N m 1.11 ⟨H,I.tok _,by rw[DG r];exact q⟩
 |_=>exact(show False from e).elim
theorem M8(Y:PE X a ta)(V:∀q,aeA a X.env q=(do let v ←q;acz a.pos;aaP [v] (truthy v))) :
  PT X a (λσ H Q=>ta σ H λx H'=>∃k,Qx X.K x H' k/\Q k H'):=by
 show 5;exact isTrue_plain (thn (Y pins s σ H _ I h) λv O ⟨x,H1,F,U,q1⟩=>Uc pins O σ H1 x v Q F U q1) (V _)
theorem DQ:OpR X (aay .Add) (λx y H Q=>∃i j,x= .str i/\y= .str j/\i.length+j.length<=YM/\Q (.str (i++j)) H):=by
 intro pins s σ H x y v u Q I rx N h;obtain⟨i,j,rfl,rfl,J,q⟩:=h;obtain⟨t,rfl⟩:=rx;obtain⟨t',rfl⟩:=N;exact add_str (λt' tk=>⟨.str (i++j),H,I.tok _,⟨_,rfl⟩,q⟩) J
theorem vals1{x:V}(r:Vals [x] us):∃u,us=[u]/\RelV x u:=by
 cases r with
 |cons U B=>cases B;exact⟨_,rfl,U⟩
theorem vals2{x y:V}(r:Vals [x,y] us):∃u D,us=[u,D]/\RelV x u/\RelV y D:=by
 cases r with
 |cons U B=>
  cases B with
  |cons I F=>cases F;exact⟨_,_,rfl,U,I⟩
theorem Oq:fK X (.builtin "abs") (λxs H Q=>∃i,xs=[.int i]/\Q (.int (if i<0 then -i else i)) H):=by
 show 6;obtain⟨i,rfl,q⟩:=h;obtain⟨u,rfl,t,rfl⟩:=vals1 r;exact call_abs_int λu tk=>⟨.int (if i<0 then -i else i),H,I.tok _,⟨_,rfl⟩,q⟩
theorem Ig(Z:X.calm=true):fK X (.builtin "max") (λxs H Q=>∃i j,xs=[.int i,.int j]/\Q (.int (if j>i then j else i)) H):=by
 show 6;obtain⟨i,j,rfl,q⟩:=h;obtain⟨u,D,rfl,⟨t,rfl⟩,⟨t',rfl⟩⟩:=vals2 r;refine max_two_ints (I.ok.hd Z) λh' tk k=>⟨_,H,I.kept k,?_,q⟩;by_cases F:j>i
 .rw[YZ F,YZ F];exact⟨_,rfl⟩
 .rw[Zi F,Zi F];exact⟨_,rfl⟩
theorem Ih(Z:X.calm=true):fK X (.builtin "min") (λxs H Q=>∃i j,xs=[.int i,.int j]/\Q (.int (if j<i then j else i)) H):=by
 show 6;obtain⟨i,j,rfl,q⟩:=h;obtain⟨u,D,rfl,⟨t,rfl⟩,⟨t',rfl⟩⟩:=vals2 r;refine min_two_ints (I.ok.hd Z) λh' tk k=>⟨_,H,I.kept k,?_,q⟩;by_cases F:j<i
 .rw[YZ F,YZ F];exact⟨_,rfl⟩
 .rw[Zi F,Zi F];exact⟨_,rfl⟩
theorem Io:fK X (.type "int") (λxs H Q=>(∃i,xs=[.int i]/\Q (.int i) H)∨∃k,xs=[.bl k]/\Q (.int (if k then 1 else 0)) H):=by
 show 6;rcases h with⟨i,rfl,q⟩|⟨k,rfl,q⟩
 .obtain⟨u,rfl,t,rfl⟩:=vals1 r
  exact call_int_int ⟨.int i,H,I,⟨_,rfl⟩,q⟩
 .obtain⟨u,rfl,r1⟩:=vals1 r
  cases r1;exact call_int_bool ⟨.int (if k then 1 else 0),H,I.tok _,⟨_,rfl⟩,q⟩
structure Dp(h:Heap)(x dx C:Addr)(mA:Str->Option Value):Prop where
 obj:h.get? x=some (aa7 C dx)
 ns:h.Ns1 dx mA
 ne:dx≠x
theorem Jr(n:h.Ns1 dx mA):∃F,h.get? dx=some F/\∀name,adi name F=some (mA name):=by
 obtain⟨o,es,ep,J,hd,I,_,N⟩:=n;refine⟨o,J,λname=>?_⟩;have e:=N name;unfold nsFind findBy at e;rw[←Array.find?_toList]at e;unfold adi;rw[hd];dsimp only;split
 .rename_i y q
  rw[q]at e;exact congrArg some e
 .rename_i q
  rw[q]at e;have a:es.toList.any (·.refKey)=false:=by
   rw[List.any_eq_false];intro y V;obtain⟨z,t,B⟩:=I y (Array.mem_toList_iff.mp V);simp[DictEntry.refKey,B]
  have D:¬es.toList.any (·.refKey)=true:=by rw[a];exact ZK
  rw[Zi D];exact congrArg some e
theorem Dp.look{x:Addr}(I:Dp h x dx C mA):∃F,PySem.W.InstAt h x (aa7 C dx) C (some F)/\∀name,adi name F=some (mA name):=
 let⟨F,ho,hl⟩:=Jr I.ns
 ⟨F,⟨I.obj,rfl,rfl,ho⟩,hl⟩
section
variable{prog:Program}{w:World}{A:Around}{E:Value->Shared->Prop}{s:Shared}{K:PySem.W.Frag}{x dx C f:Addr}{mA:Str->Option Value}{name:Str}{v:Value}
theorem O7{O:Bool}{Q:Value->zb->Prop}(X:K.In s.heap)(I:Dp s.heap x dx C mA)(q:ab_ K C name=true)(N:acF K C=true)
  (Y:Zm K (.ref C) name=some none) (B:mA name=some v) (D:afQ v=true) (h:Q v {s with toks:=s.toks+1}) :
  wpAny 1.14 A (getAttr (.ref x) name O) Q E s:=by
 obtain⟨F,J,U⟩:=I.look;exact PySem.W.get_value X J (adh q).1 (PySem.W.findObj_own N Y rfl (by rw[U,B])) D h
theorem Ot{pl:Sem Bool}{Q:Value×List Value->zb->Prop}(X:K.In s.heap)(I:Dp s.heap x dx C mA)(q:ab_ K C name=true)
  (O:Zm K (.ref C) name=some (some (.ref f))) (U:aaq K (.ref f)=true) (B:mA name=none) (h:Q (.ref f,[.ref x]) s) :
  wpAny 1.14 A (acp (.ref x) name pl) Q E s:=by
 obtain⟨F,J,Y⟩:=I.look;exact PySem.W.method_fn X J (adh q).1 (adh q).2 O (beq_iff_eq.mp U) (by show(adi name F).map (·.isSome)=some false;rw[Y,B];rfl) h
theorem Qe{ns:List Str}{Q:Unit->zb->Prop}(X:K.In s.heap)(I:Dp s.heap x dx C mA)
  (B:Zm K (.ref C) "__setattr__"=some (some (.builtin "object.__setattr__"))) (N:adK K C=true) (U:aei K C name=some none) (hh:acF K C=true)
  (hw:afi mA ns) (hsz:ns.length<=YM)
  (h:∀h',Dp h' x dx C (λy=>if y=name then some v else mA y)->ab2 dx s.heap h'->Q () {s with heap:=h',toks:=s.toks+2}) :
  wpAny 1.14 A (setAttr (.ref x) name v) Q E s:=by
 obtain⟨od,J,Y⟩:=I.look;refine PySem.W.set_plain X J B (PySem.W.osa_open (s:={s with toks:=s.toks+1}) (r:=none) X J N U λb=>?_);obtain⟨cd,Z,D⟩:=PySem.W.any_some hh;have F:s.heap.get? x=some ⟨.ref C,some dx,.plain,#[]⟩:=I.obj;refine gD (YD (gD (gD (wpAny_loadPart F (gD (PySem.W.Looks.here (s:={s with toks:=s.toks+1}) (PySem.W.looks_clsIn X Z) ?_))))));rw[D];refine YD (a:=some dx) (gD (YD (gD ?_)));refine wpAny_nsSet1 (s:={s with toks:=s.toks+1}) I.ns λh' q V=>?_;obtain⟨oD,a3,a2,a1,a0,O⟩:=q.count (PySem.Within.cons name v hw);refine gD (wpAny_lookBehind a1 (by rw[a0];exact pastItsLine_dict (aau O (by rw[Zh];omega))) ?_);exact YD (h _ ⟨(V.2 _ (Zt I.ne)).trans I.obj,q,I.ne⟩ V)
theorem Ny{R:ad1->zb->Prop}{vs:List Value}{q:List (Str×Value)}(X:K.In s.heap)(N:aej K C=true)
  (hi:Zm K (.ref C) "__init__"=some (some (.ref f))) (O:PySem.W.typeIn K (.ref f)=some (.type "function"))
  (h:abh 1.14 (A.under (.builtin "type.__call__" ⟨.ref C::vs,q⟩)) (.call (.ref f) ⟨.ref (s.heap.objs.size+1)::vs,q⟩) (PySem.W.InitBack (s.heap.objs.size+1) R)
   {s with heap:=(s.heap.push aaE).push (aa7 C s.heap.objs.size)}) :
  abh 1.14 A (.call (.ref C) ⟨vs,q⟩) R s:=by
 obtain⟨B,g,d,t,os⟩:=s;exact PySem.W.make_core (PySem.W.makes_of X N) (PySem.W.looks_findIn X hi) (λself=>PySem.W.bind_fn X self O) (.inl rfl) h
end
def lu(f:Str)(v:V):List (Str×V)->List (Str×V)
 |[]=>[(f,v)]
 |(g,x)::r=>if g=f then(g,v)::r else(g,x)::lu f v r
theorem uD(f g:Str)(v:V):∀fs:List (Str×V),(lu f v fs).lookup g=if g=f then some v else fs.lookup g
 |[]=>by
  show abZ g [(f,v)]=_;by_cases h:g=f
  .have hb:(g==f)=true:=beq_iff_eq.mpr h
   simp![abZ,hb,YZ h]
  .have hb:(g==f)=false:=aaF.mpr h
   simp![abZ,hb,Zi h]
 |(k,x)::r=>by
  have O:=uD f g v r;rw[show lu f v ((k,x)::r)=(if k=f then(k,v)::r else(k,x)::lu f v r)from rfl];by_cases I:k=f
  .rw[YZ I]
   by_cases h:g=k
   .have hb:(g==k)=true:=beq_iff_eq.mpr h
    simp![abZ,hb,YZ (h.trans I)]
   .have hb:(g==k)=false:=aaF.mpr h
    simp![abZ,hb,Zi (λe:g=f=>h (e.trans I.symm))]
  .rw[Zi I]
   by_cases h:g=k
   .have hb:(g==k)=true:=beq_iff_eq.mpr h
    simp![abZ,hb,Zi (λe:g=f=>I (h.symm.trans e))]
   .have hb:(g==k)=false:=aaF.mpr h
    simp![abZ,hb];exact O
theorem uh(f:Str)(v:V):∀fs:List (Str×V),f∈(lu f v fs).map (·.1)/\∀g,g∈fs.map (·.1)->g∈(lu f v fs).map (·.1)
 |[]=>⟨by simp[lu],λg h=>by simp at h⟩
 |(k,x)::r=>by
  obtain⟨i1,i2⟩:=uh f v r;rw[show lu f v ((k,x)::r)=(if k=f then(k,v)::r else(k,x)::lu f v r)from rfl];by_cases I:k=f
  .rw[YZ I]
   subst I;exact⟨by simp,λg h=>by simpa using h⟩
  .rw[Zi I]
   refine⟨?_,λg h=>?_⟩
   .rw[YL]
    exact Zf _ i1
   .rw[YL]at h⊢
    rcases YJ.mp h with e|e
    .exact YJ.mpr (.inl e)
    .exact Zf _ (i2 g e)
theorem uo(f:Str)(v:V):∀fs:List (Str×V),(lu f v fs).length<=fs.length+1
 |[]=>by simp[lu]
 |(k,x)::r=>by
  have O:=uo f v r;rw[show lu f v ((k,x)::r)=(if k=f then(k,v)::r else(k,x)::lu f v r)from rfl];by_cases I:k=f
  .rw[YZ I,Zh,Zh];omega
  .rw[Zi I,Zh,Zh];omega
variable{o:Option Value}
theorem qd.some_of(r:qd (some v) o):∃u,o=some u/\RelV v u:=by
 cases o with
 |none=>exact(show False from r).elim
 |some u=>exact⟨u,rfl,r⟩
theorem qd.none_of(r:qd none o):o=none:=by
 cases o with
 |none=>rfl
 |some u=>exact(show False from r).elim
theorem JG(r:RelV v u):afQ u=true:=by
 cases v with
 |non=>cases (show u=ZZ from r);rfl
 |bl b=>cases (show u=adO b from r);rfl
 |int i=>obtain⟨t,e⟩:=(show ∃t,u=abG i t from r);cases e;rfl
 |str x=>obtain⟨t,e⟩:=(show ∃t,u=ab8 x t from r);cases e;rfl
 |byt b=>obtain⟨t,e⟩:=(show ∃t,u=Value.bytes b t from r);cases e;rfl
 |flt b=>obtain⟨t,e⟩:=(show ∃t,u=aep b t from r);cases e;rfl
 |ref a=>cases (show u=Zk a from r);rfl
 |ty n=>cases (show u=aa6 n from r);rfl
section
variable{P:Program}{w:World}{H H':Hp}{h h':Heap}{a C dx:Addr}{fs fs':List (Str×V)}
theorem rY(hok:HOk P w H h)(e:H a=some (.ins C dx fs)):∃mA,Dp h a dx C mA/\(∀f,qd (fs.lookup f) (mA f))/\afi mA (fs.map (·.1))/\fs.length<=1000/\H dx=some (.own a):=by
 obtain⟨d,z,O,ob,mA,n,r,q⟩:=(show cJ P w H h a (.ins C dx fs)from hok a _ e);exact⟨mA,⟨ob,n,O⟩,r,q,z,d⟩
end
structure Cls(K:PySem.W.Frag)(C:Addr):Prop where
 pg:ab_ K C Str.empty=true
 hd:acF K C=true
 po:adK K C=true
 sa:Zm K (.ref C) "__setattr__"=some (some (.builtin "object.__setattr__"))
theorem Cls.get{K:YH}(c:Cls K C)(f:Str):ab_ K C f=true:=c.pg
def lg(K:YH)(C:Addr)(f:Str):Prop:=Zm K (.ref C) f=some none
variable{f:Str}
theorem lg.taker{K:YH}(n:lg K C f):aei K C f=some none:=by
 unfold aei;rw[show Zm K (.ref C) f=some none from n];rfl
structure Meth(K:PySem.W.Frag)(C:Addr)(m:Str)(f:Addr):Prop where
 at_:Zm K (.ref C) m=some (some (.ref f))
 fn:aaq K (.ref f)=true
 kp:ab3 K (.ref f)=true
section
variable{X:Cx}{pins:List (Addr×Obj)}{σ:St}{H:Hp}{s:Shared}{a C dx:Addr}{fs:List (Str×V)}{f:Str}{v:V}{A:Around}{E:Value->Shared->Prop}
theorem Fg{b:Bool}{Q:Value->zb->Prop}(I:Inv X pins σ H s)(e:H a=some (.ins C dx fs))(c:Cls X.K C)(n:lg X.K C f)(l:fs.lookup f=some v)
  (h:∀u s',Inv X pins σ H s'->RelV v u->Q u s'):wpAny 1.12 A (getAttr (.ref a) f b) Q E s:=by
 obtain⟨mA,O,r,_,_,_⟩:=rY I.hok e;obtain⟨u,J,B⟩:=qd.some_of (v:=v) (o:=mA f) (by rw[←l];exact r f);exact O7 I.kIn O (c.get f) c.hd n J (JG B) (h u _ (I.tok _) B)
theorem xH{m:Str}{g:Addr}{pl:Sem Bool}{Q:Value×List Value->zb->Prop}(I:Inv X pins σ H s)(e:H a=some (.ins C dx fs))(c:Cls X.K C)(k:Meth X.K C m g)(l:fs.lookup m=none)
  (h:Q (.ref g,[.ref a]) s):wpAny 1.12 A (acp (.ref a) m pl) Q E s:=by
 obtain⟨mA,O,r,_,_,_⟩:=rY I.hok e;have hn:mA m=none:=qd.none_of (by rw[←l];exact r m);exact Ot I.kIn O (c.get m) k.at_ k.fn hn h
theorem Dw{y:V}{u:Value}{Q:Unit->zb->Prop}(I:Inv X pins σ H s)(e:H a=some (.ins C dx fs))(c:Cls X.K C)(n:lg X.K C f)(Y:fs.length<1000)(N:RelV y u)
  (h:∀s',Inv X pins σ (upd H a (.ins C dx (lu f y fs))) s'->Q () s'):wpAny 1.12 A (setAttr (.ref a) f u) Q E s:=by
 obtain⟨mA,O,r,wi,_,J⟩:=rY I.hok e;have Z:(fs.map (·.1)).length<=YM:=by rw[Zc,acg];omega
 refine Qe I.kIn O c.sa c.po n.taker c.hd wi Z λh' D B=>h _ ?_;have hd:∃o,h'.get? dx=some o:=let⟨o,_,_,e',_⟩:=D.ns;⟨o,e'⟩;refine I.write (x:=a) (e:=dx) (by rw[e];exact aac) (.inr J) (λb q U z=>(B.2 b U).trans z) hd ?_;refine⟨by rw[aM O.ne];exact J,?_,O.ne,D.obj,_,D.ns,λg=>?_,λg F=>?_⟩
 .have:=uo f y fs;omega
 .show qd ((lu f y fs).lookup g) (if g=f then some u else mA g)
  rw[uD];by_cases q:g=f
  .rw[YZ q,YZ q];exact N
  .rw[Zi q,Zi q];exact r g
 .by_cases q:g=f
  .rw[q];exact(uh f y fs).1
  .refine(uh f y fs).2 g (wi g λz=>F ?_)
   show(if g=f then some u else mA g)=none;rw[Zi q];exact z
theorem Inv.made(I:Inv X pins σ H s):Inv X pins σ (upd (upd H s.heap.objs.size (.own (s.heap.objs.size+1))) (s.heap.objs.size+1) (.ins C s.heap.objs.size []))
  {s with heap:=(s.heap.push aaE).push (aa7 C s.heap.objs.size)}:=by
 have e1:(s.heap.push aaE).get? s.heap.objs.size=some aaE:=YS s.heap rfl;have e2:((s.heap.push aaE).push (aa7 C s.heap.objs.size)).get? (s.heap.objs.size+1)=some (aa7 C s.heap.objs.size):=by
  have:=YS (s.heap.push aaE) (o:=aa7 C s.heap.objs.size) rfl;rwa[ZQ]at this
 have J:(s.heap.push aaE).Ns s.heap.objs.size (λ_=>none):=⟨aaE,#[],_,e1,rfl,(λe V=>absurd V (by simp)),λ_=>rfl⟩;have F:=I.laid (a:=s.heap.objs.size) (o:=.own (s.heap.objs.size+1)) (h':=s.heap.push aaE) (t':=s.toks) (λb u q=>za _ q) (YK _) ⟨_,e1⟩;refine F.laid (a:=s.heap.objs.size+1) (o:=.ins C s.heap.objs.size []) (t':=s.toks) (λb u q=>za _ q) (Nat.le_of_eq (ZQ _ _)) ?_;have O:s.heap.objs.size≠s.heap.objs.size+1:=Zb (aaK _);refine⟨by rw[aM O,aY],aaN _,O,e2,λ_=>none,(Heap.Ns1.of_empty J).at λo q=>za _ q,λ_=>aac,λy B=>absurd rfl B⟩
theorem O6{prog:Zr}{w:World}{env:Env}{e:Expr}{f:Str}{pos:Pos}{s:zb}{Q:Value->zb->Prop}(U:aaO e f env (eval e env)=eval e env)
  (h:wpAny 1.14 A (eval e env) (λo Z=>wpAny 1.14 A (getAttr o f true) Q E Z) E s):wpAny 1.14 A (eval (.Attribute e f pos) env) Q E s:=
 Attribute_any_ h (by rw[arm_eval_Attribute,U])
end
def Wm(K:YH)(ta:TE)(f:Str):TE:=λσ H Q=>ta σ H λx H1=>∃a C dx fs v,x= .ref a/\H1 a=some (.ins C dx fs)/\Cls K C/\lg K C f/\fs.lookup f=some v/\Q v H1
def Yw(K:YH)(ta tv:TE)(f:Str):TS:=λD σ H=>tv σ H λy H1=>ta σ H1 λx H2=>∃a C dx fs,x= .ref a/\H2 a=some (.ins C dx fs)/\Cls K C/\lg K C f/\fs.length<1000/\
 D.nx σ (upd H2 a (.ins C dx (lu f y fs)))
def O2(X:Cx)(op:ad0)(rd:V->V->Hp->VK->Prop):Prop:=
 ∀(pins:List (Addr×Obj))(s:zb)(σ:St)(H:Hp)(x y:V)(u v:Value)(Q:VK),Inv X pins σ H s->RelV x u->RelV y v->rd x y H Q->wpAny 1.12 X.A (inplaceOp op u v) (EP X pins σ Q) X.xe s
theorem Oi(V:PE X e ta)(U:aaO e f X.env (eval e X.env)=eval e X.env):PE X (.Attribute e f pos) (Wm X.K ta f):=by
 show 5;refine O6 U (thn (V pins s σ H _ I h) λu O ⟨x,H1,F,rx,a,C,dx,fs,v,ex,D,c,n,l,q⟩=>?_);subst ex;obtain rfl:u=Zk a:=rx;exact Fg F D c n l λN Z J B=>⟨v,H1,J,B,q⟩
variable{o:Expr}{tv:TE}
theorem Uz(Y:PE X o ta)(hv:PE X value tv)(B:abH value (some (.Attribute o f pos')) pos.line X.env=pure false):PS X (.Assign [.Attribute o f pos'] value pos) (Yw X.K ta tv f):=by
 intro pins s σ H D I h;refine plainObj_wpAny_Assign_Attribute (thn (hv pins s σ H _ I h) λu O ⟨y,H1,F,N,q⟩=>thn (Y pins O σ H1 _ F q) λov Z ⟨x,H2,J,rx,a,C,dx,fs,ex,U,c,n,l,q2⟩=>?_) B;subst ex;obtain rfl:ov=Zk a:=rx;exact Dw J U c n l N λs3 V=>⟨σ,_,V,q2⟩
def Xu:V->V->Hp->VK->Prop:=λx y H Q=>∃i j,x= .int i/\y= .int j/\Q (.int (i+j)) H
def Xb:V->V->Hp->VK->Prop:=λx y H Q=>∃i j,x= .int i/\y= .int j/\Q (.int (i-j)) H
theorem UJ:O2 X .Add Xu:=by
 rintro pins s σ H x y u v Q I rx N ⟨i,j,rfl,rfl,q⟩;obtain⟨t,rfl⟩:=(show ∃t,u=abG i t from rx);obtain⟨t',rfl⟩:=(show ∃t',v=abG j t' from N);exact PyProof.Rows.iadd_int ⟨.int (i+j),H,I.tok _,⟨_,rfl⟩,q⟩
theorem Vo:O2 X .Sub Xb:=by
 rintro pins s σ H x y u v Q I rx N ⟨i,j,rfl,rfl,q⟩;obtain⟨t,rfl⟩:=(show ∃t,u=abG i t from rx);obtain⟨t',rfl⟩:=(show ∃t',v=abG j t' from N);exact PyProof.Rows.isub_int ⟨.int (i-j),H,I.tok _,⟨_,rfl⟩,q⟩
inductive n_(K:PySem.W.Frag)(H:Hp):V->Value->Prop where
 |non:n_ K H .non (.type "NoneType")
 |bl (x:Bool):n_ K H (.bl x) (.type "bool")
 |int (i:Int):n_ K H (.int i) (.type "int")
 |str (x:Str):n_ K H (.str x) (.type "str")
 |flt (x:UInt64):n_ K H (.flt x) (.type "float")
 |lst {a:Addr} {xs:List V} (e:H a=some (.lst xs)):n_ K H (.ref a) (.type "list")
 |frz {a:Addr} {o:Obj} {xs:List V} (e:H a=some (.frz o (.lst xs))):n_ K H (.ref a) (.type "list")
 |tup {a:Addr} {xs:List V} (e:H a=some (.tup xs)):n_ K H (.ref a) (.type "tuple")
 |dK {a:Addr} {kvs:List (Key×V)} (e:H a=some (.dK kvs)):n_ K H (.ref a) (.type "dict")
 |dT {a:Addr} {kvs:List (List Key×V)} (e:H a=some (.dT kvs)):n_ K H (.ref a) (.type "dict")
 |ins {a C dx:Addr} {fs:List (Str×V)} (e:H a=some (.ins C dx fs)) (cl:Cls K C) (ha:Zm K (.ref C) "__class__"=some (some (.builtin "object.__class__")))
  (hn:PySem.W.specialIn K (.builtin "object.__class__") "__get__"=some (some (.builtin "getset_descriptor.__get__"))) (htk:PySem.W.takesIn K (.builtin "object.__class__")=some true)
  (hm:PySem.W.mroIn K C (.type "object")=some true):n_ K H (.ref a) (.ref C)
variable{b:Bool}{s:Shared}{A:Around}{Q:Value->Shared->Prop}{c:Value}
theorem JB{x:V}{t:Value}(I:Inv X pins σ H s)(rx:RelV x u)(ty:n_ X.K H x t)(e:adk X.K t c=some b)(h:∀tk,Q (.bool b) {s with toks:=tk}) :
  wpAny 1.12 A (call (.builtin "isinstance") [u,c]) Q E s:=by
 cases ty with
 |non=>cases (show u=ZZ from rx);exact aaw afD I.kIn aac e (λz=>nomatch z) h
 |bl y=>cases (show u=adO y from rx);exact aaw afE I.kIn aac e (λz=>nomatch z) h
 |int i=>obtain⟨t,q⟩:=(show ∃t,u=abG i t from rx);cases q;exact aaw afR I.kIn aac e (λz=>nomatch z) h
 |str y=>obtain⟨t,q⟩:=(show ∃t,u=ab8 y t from rx);cases q;exact aaw afS I.kIn aac e (λz=>nomatch z) h
 |flt y=>obtain⟨t,q⟩:=(show ∃t,u=aep y t from rx);cases q;exact aaw afl I.kIn aac e (λz=>nomatch z) h
 |@lst a xs D=>
  cases (show u=Zk a from rx);obtain⟨_,_,n,_,h1⟩:=(show cJ X.prog X.w H s.heap a (.lst xs)from I.hok a _ D);exact aaw acG I.kIn ⟨_,h1,rfl⟩ e (λz=>nomatch z) h
 |@frz a ob xs D=>
  cases (show u=Zk a from rx);obtain⟨_,_,_,n,_,h1⟩:=(show cJ X.prog X.w H s.heap a (.frz ob (.lst xs))from I.hok a _ D);exact aaw acG I.kIn ⟨_,h1,rfl⟩ e (λz=>nomatch z) h
 |@tup a xs D=>
  cases (show u=Zk a from rx);obtain⟨_,_,_,p⟩:=(show cJ X.prog X.w H s.heap a (.tup xs)from I.hok a _ D);obtain⟨o,h1,h2,_⟩:=p;exact aaw afm I.kIn ⟨o,h1,h2⟩ e (λz=>nomatch z) h
 |@dK a kvs D=>
  cases (show u=Zk a from rx);obtain⟨_,_,vs,_,p⟩:=(show cJ X.prog X.w H s.heap a (.dK kvs)from I.hok a _ D);obtain⟨o,es,ep,h1,h2,_⟩:=p;exact aaw acH I.kIn ⟨o,h1,h2.1⟩ e (λz=>nomatch z) h
 |@dT a kvs D=>
  cases (show u=Zk a from rx);obtain⟨_,_,xs,_,o,es,ep,h1,h2,_⟩:=(show cJ X.prog X.w H s.heap a (.dT kvs)from I.hok a _ D);exact aaw acH I.kIn ⟨o,h1,h2.1⟩ e (λz=>nomatch z) h
 |@ins a C dx fs D B Y hn U N=>
  cases (show u=Zk a from rx);obtain⟨mA,O,_⟩:=rY I.hok D;obtain⟨F,J,_⟩:=O.look;exact aaw (afT (B.get _) B.hd Y hn U N) I.kIn J e (λz=>nomatch z) h
structure gO(k:Nat)(A:Around):Prop where
 hd:A.handled=none
 dp:A.depth+3*k+5<recursionLimit
 un:A.units+16*k+200<cLine
 gd:A.guards=some []
variable{A:ZW}
theorem gO.mono(r:gO k A)(h:j<=k):gO j A:=⟨r.hd,by have:=r.dp;omega,by have:=r.un;omega,r.gd⟩
theorem gO.deeper(r:gO (k+1) A)(env:Env):gO k (A.deeper env):=
 ⟨r.hd,by have:=r.dp;show A.depth+1+3*k+5<_;omega,by have:=r.un;show A.units+3+16*k+200<_;omega,r.gd⟩
theorem El{q:List (Str×Value)}:(A.under (.builtin "type.__call__" ⟨.ref C::us,q⟩)).depth=A.depth+1:=by
 first|rfl|simp[afn,Code.weight,Code.isCreation,Code.isGuard,Code.isCaller,Code.frames,afo,guardIds]
theorem Es{q:List (Str×Value)}:(A.under (.builtin "type.__call__" ⟨.ref C::us,q⟩)).units=A.units+1:=by
 first|rfl|simp[afn,Code.cUnits,Code.frames,afo]
theorem gO.make(r:gO (k+1) A)(C:Addr)(us:List Value)(q:List (Str×Value)):gO k (A.under (.builtin "type.__call__" ⟨.ref C::us,q⟩)):=
 ⟨r.hd,by have:=r.dp;rw[El];omega,by have:=r.un;rw[Es];omega,(by first|exact r.gd|(show pushGuards _ A.guards=_;rw[r.gd];rfl))⟩
theorem gO.depth(r:gO k A):A.depth<recursionLimit:=by have:=r.dp;omega
theorem gO.units(r:gO k A):A.units+64<cLine:=by have:=r.un;omega
def Ve:TA:=λ_ H Q=>Q [] H
def Ge(ta:TE)(q:TA):TA:=λσ H Q=>ta σ H λx H1=>q σ H1 λxs H2=>Q (x::xs) H2
section
variable{X:Cx}{e:Expr}{es:List Expr}{te:TE}{t:TA}{pos:Pos}
theorem Vu:PA X [] Ve:=λ_ _ _ _ H Q I h=>adL ⟨[],H,I,.nil,h⟩
theorem zp(Y:PE X e te)(O:PA X es t)(B:YQ (e::es) X.env=(false,eval e X.env)::YQ es X.env:=by rfl):PA X (e::es) (Ge te t):=by
 intro pos pins s σ H Q I h;rw[B];show wpAny _ _ (spliced ((false,eval e X.env)::aak pos (YQ es X.env))) _ _ s;refine afp (thn (Y pins s σ H _ I h) λu D ⟨x,H1,F,U,q1⟩=>?_);exact thn (O pos pins D σ H1 _ F q1) λus Z ⟨xs,H2,J,q,q2⟩=>⟨x::xs,H2,J,.cons U q,q2⟩
def Ye(t:TA):TE:=λσ H Q=>t σ H λxs H1=>xs.length<=YM/\∀p,H1 p=none->Q (.ref p) (upd H1 p (.tup xs))
def Yy(t:TA):TE:=λσ H Q=>t σ H λxs H1=>xs.length<=YM/\∀p,H1 p=none->Q (.ref p) (upd H1 p (.lst xs))
theorem JM{x1}(h:PA X es t):PE X (.Tuple es x1 pos) (Ye t):=by
 intro pins s σ H Q I D;refine wpAny_Tuple_spliced (thn (h pos pins s σ H _ I D) λus O ⟨xs,H1,F,r,z,q⟩=>⟨by rw[←r.length];exact z,?_⟩);have B:H1 O.heap.objs.size=none:=F.hok.fresh (YK _);refine⟨.ref O.heap.objs.size,upd H1 O.heap.objs.size (.tup xs),F.laid (t':=O.toks) (λb u e=>za _ e) (YK _) ?_,rfl,q _ B⟩;exact⟨z,us,r,⟨_,YS _ rfl,rfl,_,rfl,rfl⟩⟩
theorem KZ(h:PA X es t):PE X (.List es pos) (Yy t):=by
 intro pins s σ H Q I D;refine wpAny_List_spliced (thn (h pos pins s σ H _ I D) λus O ⟨xs,H1,F,r,z,q⟩=>⟨by rw[←r.length];exact z,?_⟩);have B:H1 O.heap.objs.size=none:=F.hok.fresh (YK _);refine⟨.ref O.heap.objs.size,upd H1 O.heap.objs.size (.lst xs),F.laid (t':=O.toks) (λb u e=>za _ e) (YK _) ?_,rfl,q _ B⟩;exact⟨z,us,0,r,YS _ rfl⟩
end
abbrev Sp:=List V->Hp->VK->XK->Prop
abbrev CXT:=List Env->Hp->zb->XK->Value->zb->Prop
structure Ej(P:Program)(w:World)(K:PySem.W.Frag)(mg:Str->Option Value)(base:Heap)(A:Around)(outer:List Env)(s:Shared)(H:Hp):Prop where
 frames:A.frames=some outer
 mod:Mod K mg base
 bs:∀b o,base.get? b=some o->s.heap.get? b=some o/\H b=none
 bsz:base.objs.size<=s.heap.objs.size
 funs:s.heap.FunFrames base outer
 frf:∀b∈frs outer,H b=none
 hok:HOk P w H s.heap
 bare:ac4 s.gens
def CE(outer:List Env)(P:Zr)(w:World)(H:Hp)(s:zb)(Q:VK)(u:Value)(s':zb):Prop:=
 ∃v H',s'.os=s.os/\ac4 s'.gens/\Un (frs outer) [] H H' s.heap s'.heap/\HOk P w H' s'.heap/\RelV v u/\Q v H'
def CR(CX:CXT)(outer:List Env)(P:Zr)(w:World)(H:Hp)(s:zb)(Q:VK)(E:XK)(r:ad1)(s':zb):Prop:=
 match r with
 |.ok (.ret u)=>CE outer P w H s Q u s'
 |.ok _=>False
 |.error e=>CX outer H s E e s'
structure dJ(P:Program)(w:World)(K:PySem.W.Frag)(mg:Str->Option Value)(base:Heap)(CX:CXT)(k:Nat)(f:Addr)(fd:FuncData)(ps:List Str)(sp:Sp):Prop where
 len:∀vs H Q E,sp vs H Q E->vs.length=ps.length
 run:∀(A:ZW)(outer:List Env)(s:zb)(H:Hp)(args:Args)(us:List Value)(vs:List V)(Q:VK)(E:XK),gO k A->Ej P w K mg base A outer s H->aeC s fd args (ps.zip us)->Vals vs us->sp vs H Q E->
  abh (model P w) A (.call (.ref f) args) (CR CX outer P w H s Q E) s
variable{f:Addr}{CX:CXT}
theorem dJ.imp{K:YH}{sp D:Sp}(F:dJ P w K mg base CX k f fd ps sp)
  (h:∀vs H Q E,D vs H Q E->sp vs H Q E):dJ P w K mg base CX k f fd ps D:=
 ⟨λvs H Q E q=>F.len vs H Q E (h _ _ _ _ q),λA outer s H args us vs Q E O V U I B=>F.run A outer s H args us vs Q E O V U I (h _ _ _ _ B)⟩
theorem Ej.make{K:YH}{s:zb}(e:Ej P w K mg base A outer s H)(C:Addr)(us:List Value)(q:List (Str×Value)) :
 Ej P w K mg base (A.under (.builtin "type.__call__" ⟨.ref C::us,q⟩)) outer s H:=⟨by first|exact e.frames|(simpa[afn,Code.envs,afo,pushEnvs]using e.frames),e.mod,e.bs,e.bsz,e.funs,e.frf,e.hok,e.bare⟩
theorem Inv.env0(I:Inv X pins σ H s):Ej X.prog X.w X.K X.mg X.base X.A X.stack s H:=
 ⟨I.ok.frames,I.ok.mod,I.bs,aau I.ok.bsz I.sz,I.stack,I.stkFree,I.hok,I.bare⟩
variable{s':Shared}
theorem Inv.after{Q:VK}(I:Inv X pins σ H s)(h:CE X.stack X.prog X.w H s Q u s'):EP X pins σ Q u s':=by
 obtain⟨v,H',os,bare,un,hok,r,q⟩:=h;obtain⟨N,g,d,t,F⟩:=s';obtain rfl:F=s.os:=os;exact⟨v,H',I.call (h':=N) (g':=g) (d':=d) (t':=t) (ch:=[]) un hok bare (λb z=>absurd z (by simp)),r,q⟩
def Sh(sp:Sp)(dvs:List V)(E:XK)(t:TA):TE:=λσ H Q=>t σ H λvs H1=>sp (vs++dvs) H1 Q E
def WM(C:Addr)(sp:Sp)(dvs:List V)(E:XK)(t:TA):TE:=λσ H Q=>t σ H λvs H1=>∀x dx,H1 x=none->H1 dx=none->dx≠x->
 sp (.ref x::(vs++dvs)) (upd (upd H1 dx (.own x)) x (.ins C dx [])) (λv H2=>v= .non/\Q (.ref x) H2) E
def Binds(K:YH)(fd:ZC)(ps:List Str)(ds:List Value):Prop:=
 ∀(s:zb)(us:List Value),K.In s.heap->(us++ds).length=ps.length->aeC s fd ⟨us,[]⟩ (ps.zip (us++ds))
theorem Binds.all{K:YH}(h:∀us:List Value,us.length=ps.length->bindArgs fd ⟨us,[]⟩=pure (ps.zip us)):Binds K fd ps []:=λs us _ Y=>by
 rw[List.append_nil]at Y⊢;exact .of_eq (h us Y)
def wG(CX:CXT)(X:Cx)(E:XK):Prop:=∀(pins:List (Addr×Obj))(σ:St)(H:Hp)(s:zb)(e:Value)(s':zb),Inv X pins σ H s->CX X.stack H s E e s'->X.xe e s'
section
variable{X:Cx}{CX:CXT}{k:Nat}{f C:Addr}{fd:FuncData}{ps:List Str}{sp:Sp}{dvs:List V}{ds:List Value}{E:XK}{x m:Str}{p pos apos:Pos}{e o:Expr}{es:List Expr}{ta:TE}{t:TA}
theorem Dz{pins:List (Addr×Obj)}{σ:St}{H:Hp}{s:zb}{Q:VK}{us:List Value}{vs:List V}(F:dJ X.prog X.w X.K X.mg X.base CX k f fd ps sp)(O:gO k X.A)(U:Binds X.K fd ps ds)(hd:Vals dvs ds)(q:wG CX X E)
  (I:Inv X pins σ H s) (r:Vals vs us) (h:sp (vs++dvs) H Q E):wpAny 1.12 X.A (call (.ref f) us) (EP X pins σ Q) X.xe s:=by
 have B:Vals (vs++dvs) (us++ds):=r.append hd;have Y:(us++ds).length=ps.length:=by rw[←B.length];exact F.len _ _ _ _ h
 refine aeT (abm (F.run X.A X.stack s H ⟨us,[]⟩ (us++ds) (vs++dvs) Q E O I.env0 (U s us I.kIn Y) B h) λr s' D=>?_);cases r with
 |error e=>exact q pins σ H s e s' I D
 |ok fl=>
  cases fl with
  |ret u=>exact I.after D
  |next=>exact aa0 D
  |brk=>exact aa0 D
  |cont=>exact aa0 D
theorem Q0(F:dJ X.prog X.w X.K X.mg X.base CX k f fd ps sp)(O:gO k X.A)(hg:Gl X x)(N:X.mg x=some (.ref f))(hk:ab3 X.K (.ref f)=true)(U:Binds X.K fd ps ds)(hd:Vals dvs ds)(D:wG CX X E)
  (Y:PA X (e::es) t) (J:1.18=false:=by decide) (V:YQ (e::es) X.env=(false,eval e X.env)::YQ es X.env:=by rfl) (Z:(aak pos (YQ es X.env)).any (·.1)=false:=by rfl) :
  PE X (.Call (.Name x p) (e::es) [] pos) (Sh sp dvs E t):=by
 show 5;refine abn (zU I hg N ?_ J);refine adu (h₀:=X.base) I.ok.mod.kin hk (thn (Y pos pins s σ H _ I h) λus s1 ⟨vs,H1,B,r,q⟩=>⟨B.kIn,?_⟩) V Z;exact Dz F O U hd D B r q
structure Mk(K:PySem.W.Frag)(C f:Addr):Prop where
 makes:aej K C=true
 init:Zm K (.ref C) "__init__"=some (some (.ref f))
 fn:aaq K (.ref f)=true
 kp:ab3 K (.ref C)=true
theorem Om{pins:List (Addr×Obj)}{σ:St}{H:Hp}{s:zb}{Q:VK}{us:List Value}{vs:List V}(M:Mk X.K C f)(F:dJ X.prog X.w X.K X.mg X.base CX k f fd ps sp)(O:gO (k+1) X.A)(U:Binds X.K fd ps ds)(hd:Vals dvs ds)
  (hx:wG CX X E) (I:Inv X pins σ H s) (r:Vals vs us)
  (h:∀x dx,H x=none->H dx=none->dx≠x->sp (.ref x::(vs++dvs)) (upd (upd H dx (.own x)) x (.ins C dx [])) (λv H2=>v= .non/\Q (.ref x) H2) E) :
  wpAny 1.12 X.A (call (.ref C) us) (EP X pins σ Q) X.xe s:=by
 have D:=h (s.heap.objs.size+1) s.heap.objs.size (I.hok.fresh (adq _)) (I.hok.fresh (YK _)) (Zb (aaK _));have J:=Inv.made (C:=C) I;have B:Vals (V.ref (s.heap.objs.size+1)::(vs++dvs)) (Zk (s.heap.objs.size+1)::(us++ds)):=.cons rfl (r.append hd);have Y:(Zk (s.heap.objs.size+1)::us++ds).length=ps.length:=by
  have e:=B.length;rw[F.len _ _ _ _ D]at e;exact e.symm
 refine aeT (Ny (f:=f) I.kIn M.makes M.init (beq_iff_eq.mp M.fn) (abm (F.run _ X.stack _ _ ⟨Zk (s.heap.objs.size+1)::us,[]⟩ (Zk (s.heap.objs.size+1)::(us++ds)) _ _ E (O.make C us [])
  (J.env0.make C us []) (U _ (Zk (s.heap.objs.size+1)::us) J.kIn Y) B D) λr s' Z=>?_))
 cases r with
 |error e=>exact hx pins σ _ _ e s' J Z
 |ok fl=>
  cases fl with
  |ret u=>
   obtain⟨v,H',I3,N,ev,q⟩:=J.after Z;subst ev;exact⟨N,⟨V.ref (s.heap.objs.size+1),H',I3,rfl,q⟩⟩
  |next=>exact aa0 Z
  |brk=>exact aa0 Z
  |cont=>exact aa0 Z
theorem PB(M:Mk X.K C f)(F:dJ X.prog X.w X.K X.mg X.base CX k f fd ps sp)(O:gO (k+1) X.A)(hg:Gl X x)(N:X.mg x=some (.ref C))(U:Binds X.K fd ps ds)(hd:Vals dvs ds)(D:wG CX X E)
  (Y:PA X (e::es) t) (J:1.18=false:=by decide) (V:YQ (e::es) X.env=(false,eval e X.env)::YQ es X.env:=by rfl) (Z:(aak pos (YQ es X.env)).any (·.1)=false:=by rfl) :
  PE X (.Call (.Name x p) (e::es) [] pos) (WM C sp dvs E t):=by
 show 5;refine abn (zU I hg N ?_ J);refine adu (h₀:=X.base) I.ok.mod.kin M.kp (thn (Y pos pins s σ H _ I h) λus s1 ⟨vs,H1,B,r,q⟩=>⟨B.kIn,?_⟩) V Z;exact Om M F O U hd D B r q
end
structure bF(N P:List Str)(sc:Scope):Prop where
 kind:sc.kind= .function
 co:sc.isCoroutine=false
 gen:sc.isGenerator=false
 nd:N.Nodup
 pre:N.take P.length=P
 par:∀x∈P,sc.names.lookup x=some .local∨sc.names.lookup x=some .cell
 nofree:∀y∈sc.names,y.2≠.free
theorem xZ:∀{binds:List (Str×Value)}{m:Str->Option Value},(∀v,(x,v)∉binds)->bindL q binds m x=m x
 |[],_,_=>rfl
 |(n,v)::r,m,h=>by
  unfold bindL;rw[xZ λw B=>h w (Zf _ B)];split
  .have:x≠n:=by rintro rfl;exact h v ZJ
   simp[this]
  .rfl
theorem yf:∀{binds:List (Str×Value)}{m:Str->Option Value},(∀v,(x,v)∉binds)->bindC q binds m x=m x
 |[],_,_=>rfl
 |(n,v)::r,m,h=>by
  unfold bindC;rw[yf λw B=>h w (Zf _ B)];split
  .rfl
  .have:x≠n:=by rintro rfl;exact h v ZJ
   simp[this]
variable{v:Value}
theorem yl{q:Str->Option acY}{x:Str}{v:Value}:∀{P:List Str}{vs:List Value}{i:Nat}{m:Str->Option Value},P.Nodup->P[i]? =some x->vs[i]? =some v->q x=some .local->
  bindL q (P.zip vs) m x=some v
 |[],_,_,_,_,h,_,_=>by simp at h
 |_::_,[],_,_,_,_,h,_=>by simp at h
 |p::P,w::vs,0,m,nd,h1,h2,hk=>by
  simp at h1 h2;subst h1;subst h2;show bindL q ((p,w)::P.zip vs) m p=_;unfold bindL;rw[xZ λv B=>(Zg.mp nd).1 (ack B).1,YZ hk];simp
 |p::P,w::vs,i+1,m,nd,h1,h2,hk=>by
  show bindL q ((p,w)::P.zip vs) m x=_;unfold bindL;exact yl (i:=i) (Zg.mp nd).2 (by simpa using h1) (by simpa using h2) hk
theorem yo{q:Str->Option acY}{x:Str}{v:Value}:∀{P:List Str}{vs:List Value}{i:Nat}{m:Str->Option Value},P.Nodup->P[i]? =some x->vs[i]? =some v->q x≠some .local->
  bindC q (P.zip vs) m x=some v
 |[],_,_,_,_,h,_,_=>by simp at h
 |_::_,[],_,_,_,_,h,_=>by simp at h
 |p::P,w::vs,0,m,nd,h1,h2,hk=>by
  simp at h1 h2;subst h1;subst h2;show bindC q ((p,w)::P.zip vs) m p=_;unfold bindC;rw[yf λv B=>(Zg.mp nd).1 (ack B).1,Zi hk];simp
 |p::P,w::vs,i+1,m,nd,h1,h2,hk=>by
  show bindC q ((p,w)::P.zip vs) m x=_;unfold bindC;exact yo (i:=i) (Zg.mp nd).2 (by simpa using h1) (by simpa using h2) hk
def start(N:List Str)(vs:List V):St:=vs.map some++ZX (N.length-vs.length) none
noncomputable def CW(CX:CXT)(P:Zr)(w:World)(K:YH)(mg:Str->Option Value)(base:Heap)(N:List Str)(D:Str)(scope:Scope)(f:Addr)(U:Value)(A:ZW)(outer:List Env)(s:zb)(H:Hp)(E:XK):Cx where
 prog:=P
 w:=w
 K:=K
 mg:=mg
 base:=base
 A:=A.deeper (acO D scope s.heap.objs.size f U)
 N:=N
 s₀:=s
 H₀:=H
 env:=acO D scope s.heap.objs.size f U
 outer:=outer
 stack:=acO D scope s.heap.objs.size f U::outer
 ex:=[]
 calm:=true
 fn:=λ_=>true
 pn:=[]
 xe:=λe s'=>wpAny (model P w) (A.deeper (acO D scope s.heap.objs.size f U)) (leaving (acO D scope s.heap.objs.size f U) e) (λ_ q=>CX outer H s E e q) (λB q=>CX outer H s E B q) s'
theorem Bv{B:Scope}(h:B.names.lookup x=some .cell):∃c,(cellsFrom n B.names []).lookup x=some c:=by
 have q:=aer B.names n [] (.inl h);exact ad2.mp q
theorem H9{K:YH}{D:Str}{U:Value}{s O:zb}{E:XK}{vs:List V}
  (S:bF N ps scope) (hd:A.handled=none) (F:Ej P w K mg base A outer s H) (hl:vs.length=ps.length) (r:Vals vs us)
  (x:InCallC s s.heap.objs.size (bindL (acO D scope s.heap.objs.size f U).kindOf (ps.zip us) λ_=>none) (cellsFrom (s.heap.objs.size+1) scope.names []) (bindC (acO D scope s.heap.objs.size f U).kindOf (ps.zip us) λ_=>none) O) :
  Inv (CW CX P w K mg base N D scope f U A outer s H E) [] (start N vs) H O:=by
 have Z:ps.length<=N.length:=by have:=congrArg aaX S.pre;rw[abK]at this;omega
 obtain⟨h1,tk,rfl,I⟩:=x.done;have a0:∀b:Addr,b∉(CW CX P w K mg base N D scope f U A outer s H E).ex:=λb z=>absurd (show b∈([]:List Addr)from z) (by simp);refine⟨⟨F.mod,S.kind,rfl,rfl,YK _,λy z c h1 h2=>?_,λy hy=>?_,λy c _ h=>?_,λ_=>hd,Around.frames_deeper F.frames,.inr ⟨rfl,rfl⟩,λb z=>absurd z (a0 b),F.bs,F.bsz,λb _ _=>a0 b,λb z=>absurd z (a0 b),F.funs,F.frf⟩,
  rfl,F.bare,Un.kept I,⟨_,x.toInCall.ns,λi y v h1 h2 B=>?_⟩,λy c h=>⟨_,x.cell y c h⟩,F.hok.fresh (YK _),λy c h=>?_,λp hp=>absurd (show p∈([]:List (Addr×Obj))from hp) (by simp),F.hok.kept I,?_⟩
 .exact name_of_addr x.apart (abf h1) (abf h2)
 .have hy:scope.names.lookup y=some .cell∨scope.names.lookup y=some .free:=hy
  rcases hy with hy|hy
  .exact Bv hy
  .exact absurd rfl (S.nofree _ (abf hy))
 .exact abJ (x.above y c (abf h))
 .have hi:i<vs.length:=by
   unfold start at h2;by_cases hi:i<vs.length
   .exact hi
   .rw[aad (by simpa using hi)]at h2
    rw[aed]at h2;split at h2<;>cases h2
  have Y:vs[i]? =some v:=by
   unfold start at h2;rw[Zo (by simpa using hi),List.getElem?_map]at h2;cases e:vs[i]? with
   |none=>rw[e]at h2;cases h2
   |some a=>rw[e]at h2;cases h2;rfl
  obtain⟨u,J,rv⟩:=r.get Y;have hp:ps[i]? =some y:=by
   rw[←S.pre,List.getElem?_take_of_lt 1.11];exact h1
  have a1:ps.Nodup:=by rw[←S.pre];exact S.nd.sublist (afF _ _)
  refine⟨u,rv,?_⟩;rcases S.par y (Zv hp)with k|k
  .exact .inl ⟨k,yl a1 hp J k⟩
  .obtain⟨c,e⟩:=Bv (n:=s.heap.objs.size+1) k
   refine .inr ⟨.inl k,c,e,?_⟩;have q:=x.cell y c e;rw[yo a1 hp J (by show scope.names.lookup y≠_;rw[k];decide)]at q;exact q
 .exact F.hok.fresh (abJ (x.above y c (abf h)))
 .unfold start
  show _=N.length;rw[aa3,Zc,List.length_replicate];omega
theorem We{K:YH}{a0:Str}{a1:Arguments}{a2:List Stmt}{dV kV a6 pm Z ct oc:Value}{an od:Option Addr}
  {b0:Array (Option Value)}  {sp:Sp} (lk:K.lookup f=some ⟨oc,od,.func (acq name a0 a1 a2 scope dV kV a6 pm an Z ct),b0⟩) (b1:aeD K Z a0=true) (S:bF N ps scope)
  (len:∀vs H Q E,sp vs H Q E->vs.length=ps.length)
  (a5:∀(A:ZW)(outer:List Env)(s:zb)(H:Hp)(vs:List V)(Q:VK)(E:XK),gO k (A.deeper (acO a0 scope s.heap.objs.size f Z))->sp vs H Q E->
   ∃t,PSs (CW CX P w K mg base N a0 scope f Z A outer s H E) a2 t/\t {nx:=λ_ H'=>Q .non H',rt:=Q} (start N vs) H) :
  dJ P w K mg base CX (k+1) f (acq name a0 a1 a2 scope dV kV a6 pm an Z ct) ps sp:=by
 refine⟨len,λA outer s H args us vs Q E O F U r a7=>?_⟩;have Y:=len _ _ _ _ a7;have KX:K.In s.heap:=F.mod.kin.keeps λb o e=>(F.bs b o e).1;have a9:s.heap.NoLimit:=F.mod.nolimit.keeps λb o e=>(F.bs b o e).1;have a4:∀y∈ps.zip us,scope.names.lookup y.1=some .local∨(scope.names.lookup y.1=some .cell/\((cellsFrom (s.heap.objs.size+1) scope.names []).lookup y.1).isSome=true):=λ⟨n,v⟩ hy=>by
  rcases S.par n (ack hy).1 with q|q
  .exact .inl q
  .exact .inr ⟨q,aer _ _ _ (.inl q)⟩
 refine codeAny_call_function O.depth (KX _ _ lk) rfl S.co S.gen rfl (PySem.W.codeRec_of KX b1) (U _ _ _ _ ?_);refine wpAny_newFunctionEnv_cells S.kind a4 λenv he s1 x=>?_;subst he;refine⟨a9.keeps x.toInCall.keep,codeAny_func ?_⟩;obtain⟨t,ht,D⟩:=a5 A outer s H vs Q E (O.deeper _) a7;have I:Inv (CW CX P w K mg base N a0 scope f Z A outer s H E) [] (start N vs) H s1:=H9 S O.hd F Y r x;refine aap (ht [] s1 (start N vs) H _ I D) (λfl s' B=>?_) λe s' B=>B;have a8:∀{a3:St}{H':Hp}{v:V}{u:Value},Inv (CW CX P w K mg base N a0 scope f Z A outer s H E) [] a3 H' s'->RelV v u->Q v H'->CE outer P w H s Q u s':=
  λ{a3 H' v u} J rv q=>⟨v,H',J.os,J.bare,J.base,J.hok,rv,q⟩
 cases fl with
 |ret u=>
  obtain⟨v,a3,H',J,rv,q⟩:=B;exact a8 J rv q
 |next=>
  obtain⟨a3,H',J,q⟩:=B;exact a8 (v:=V.non) (u:=ZZ) J rfl q
 |brk=>
  obtain⟨_,_,_,q⟩:=B;exact aa0 q
 |cont=>
  obtain⟨_,_,_,q⟩:=B;exact aa0 q
section
variable{X:Cx}{x:Str}{p pos:Pos}{e:Expr}{es:List Expr}{t:TA}{id T:String}{r:List V->Hp->VK->Prop}
def tCB(r:List V->Hp->VK->Prop)(t:TA):TE:=λσ H Q=>t σ H λvs H1=>r vs H1 Q
theorem MK(Z:fK X (.builtin id) r)(q:Gl X x)(N:X.mg x=none)(B:aaW x=some (.builtin id))(Y:PA X (e::es) t)(hn:x≠"__name__":=by decide)(J:1.18=false:=by decide)
  (V:YQ (e::es) X.env=(false,eval e X.env)::YQ es X.env:=by rfl) (D:(aak pos (YQ es X.env)).any (·.1)=false:=by rfl):PE X (.Call (.Name x p) (e::es) [] pos) (tCB r t):=by
 show 5;refine abn (pC I q N B ?_ hn J);exact PyProof.Rows.callWith_builtin1 (thn (Y pos pins s σ H _ I h) λus O ⟨vs,H1,F,U,q1⟩=>Z pins O σ H1 vs us Q F U q1) V D
theorem yR(Z:fK X (.type T) r)(q:Gl X x)(N:X.mg x=none)(B:aaW x=some (.type T))(Y:PA X (e::es) t)(hn:x≠"__name__":=by decide)(J:1.18=false:=by decide)
  (V:YQ (e::es) X.env=(false,eval e X.env)::YQ es X.env:=by rfl) (D:(aak pos (YQ es X.env)).any (·.1)=false:=by rfl):PE X (.Call (.Name x p) (e::es) [] pos) (tCB r t):=by
 show 5;refine abn (pC I q N B ?_ hn J);exact aaU (thn (Y pos pins s σ H _ I h) λus O ⟨vs,H1,F,U,q1⟩=>Z pins O σ H1 vs us Q F U q1) V D
end
end L2
namespace HT
open PySem PyProof.Rows
theorem cat_tup{t b:Addr}{vs ws:List Value}(ht:IsTup s.heap t vs.toArray)(U:IsTup s.heap b ws.toArray)(B:vs≠[])
  (h1:ws=[]->Q (.ref t) s) (h2:ws≠[]->Q (.ref s.heap.objs.size) {s with heap:=s.heap.push {cls:=.type "tuple",data:=.seq (vs++ws).toArray}})
  (hsz:vs.length+ws.length<=YM):wpAny 1.14 A (aay .Add (.ref t) (.ref b)) Q E s:=by
 obtain⟨⟨cls,O,data,sl⟩,J,Z,n,hd⟩:=id ht;obtain⟨⟨a1,D,Y,I⟩,N,q,V,a0⟩:=id U;simp only at Z hd q a0;subst Z hd q a0;have e:vs.toArray++ws.toArray=(vs++ws).toArray:=by simp
 by_cases hw:ws=[]
 .exact afq ⟨_,J,rfl⟩ ⟨_,N,rfl⟩ ad3 ae3 acP acE (acr _ _)
   (tuple_addW1 t b vs.toArray ws.toArray n V O D sl I (by simpa using B) (by simp[hw])) ⟨J,N,h1 hw⟩
 .refine afq ⟨_,J,rfl⟩ ⟨_,N,rfl⟩ ad3 ae3 acP acE (acr _ _)
   (tuple_addW2 t b vs.toArray ws.toArray n V O D sl I (by simpa using B) (by simpa using hw) (by rw[List.size_toArray,List.size_toArray];exact hsz)) ⟨J,N,?_⟩
  rw[e];exact h2 hw
def sIx(n d:Nat):Option Int->Nat
 |none=>d
 |some v=>if v<0 then(v+(n:Int)).toNat else min v.toNat n
theorem sIx_none(n d:Nat):sIx n d none=d:=rfl
theorem sIx_nat(n d k:Nat):sIx n d (some (k:Int))=min k n:=by
 show(if(k:Int)<0 then((k:Int)+(n:Int)).toNat else min (k:Int).toNat n)=min k n;rw[Zi 1.11,acI]
theorem Um(n d:Nat)(hd:d<=n)(o:Option Int):sIx n d o<=n:=by
 cases o with
 |none=>exact hd
 |some v=>
  show(if v<0 then(v+(n:Int)).toNat else min v.toNat n)<=n;by_cases B:v<0
  .rw[YZ B];omega
  .rw[Zi B];exact Nat.min_le_right _ _
theorem Gz(v:Int)(n d:Nat):(if v<0 then max (v+(n:Int)) 0 else min v (n:Int))=((sIx n d (some v):Nat):Int):=by
 show(if v<0 then max (v+(n:Int)) 0 else min v (n:Int))=(((if v<0 then(v+(n:Int)).toNat else min v.toNat n):Nat):Int);by_cases B:v<0
 .simp![YZ B];omega
 .simp![Zi B];omega
theorem adjust_gen(lo hi:Option Int)(n:Nat):aaf lo hi 1 (n:Int)=(((sIx n 0 lo:Nat):Int),((sIx n n hi:Nat):Int)):=by
 have h1:¬((1:Int)<0):=by omega
 unfold aaf;simp![h1,aaz];refine Prod.ext ?_ ?_
 .cases lo with
  |none=>rfl
  |some v=>exact Gz v n 0
 .cases hi with
  |none=>rfl
  |some v=>exact Gz v n n
theorem places_gen(i j:Nat):aag (i:Int) (j:Int) 1=j-i:=by
 unfold aag;have h1:(1:Int)>0:=by omega
 simp![h1,Zy,Int.ediv_one];split<;>omega
theorem slicePart_{o:Option Int}{Q:Option Int->zb->Prop}(p:ab4 v o)(h:Q o s):wpAny 1.14 A (Builtin.Slice.slicePartIndex v) Q E s:=by
 cases p with
 |none=>exact slicePart_none h
 |int i t=>exact slicePart_int h
theorem tM{vl D:Value}{lo hi:Option Int}{Q:Int×Int×Nat->zb->Prop}(B:s.heap.IsSliceOf sl vl D .none)(pl:ab4 vl lo)(N:ab4 D hi)
  (h:Q (((sIx n 0 lo:Nat):Int),1,sIx n n hi-sIx n 0 lo) s):wpAny 1.14 A (abw (.ref sl) (pure (n:Int))) Q E s:=by
 obtain⟨os,J,Y,q⟩:=id B;unfold abw Builtin.Slice.sliceFields;refine gD (gD (acQ J q (x:=vl) rfl (gD (acQ J q (x:=D) rfl (gD (acQ J q (x:=.none) rfl (YD ?_)))))));refine gD (slicePart_none ?_);show wpAny _ _ (if((1:Int)==0)=true then _ else _) _ _ s;rw[Zi (by decide)];refine gD (slicePart_ pl (gD (slicePart_ N (gD (YD ?_)))));show wpAny _ _ (match aaf lo hi 1 (n:Int)with|(lo,hi)=>pure (lo,(1:Int),aag lo hi 1)) _ _ s;rw[adjust_gen lo hi n];show wpAny _ _ (pure (((sIx n 0 lo:Nat):Int),(1:Int),aag ((sIx n 0 lo:Nat):Int) ((sIx n n hi:Nat):Int) 1)) _ _ s;rw[places_gen];exact YD h
theorem LQ(xs:Array Value)(i k:Nat):((ZR k).filterMap λ(m:Nat)=>xs[((i:Int)+(m:Int)*1).toNat]?).toArray=((xs.toList.drop i).take k).toArray:=by
 have e:(λ(m:Nat)=>xs[((i:Int)+(m:Int)*1).toNat]?)=λm=>xs[i+m]?:=by
  funext m;have:((i:Int)+(m:Int)*1).toNat=i+m:=by omega
  rw[this]
 rw[e];have:=pick_run xs i k;rw[List.filterMap_map]at this;have e2:((λx=>xs[x]?)∘λx=>i+x)=λm=>xs[i+m]?:=rfl;rw[e2]at this;rw[this]
theorem getItem_tuple_cut{t:Addr}{vl D:Value}{lo hi:Option Int}(U:IsTup s.heap t items)(B:s.heap.IsSliceOf sl vl D .none)(pl:ab4 vl lo)(N:ab4 D hi)
  (Z:¬(sIx items.size 0 lo=0/\sIx items.size items.size hi=items.size))
  (h:Q (.ref s.heap.objs.size) {s with heap:=s.heap.push {cls:=.type "tuple",data:=.seq ((items.toList.drop (sIx items.size 0 lo)).take (sIx items.size items.size hi-sIx items.size 0 lo)).toArray}})
  (hsz:items.size<=YM):wpAny 1.14 A (adl (.ref t) (.ref sl)) Q E s:=by
 have I:sizeOk (.seq ((items.toList.drop (sIx items.size 0 lo)).take (sIx items.size items.size hi-sIx items.size 0 lo)).toArray):=by
  show((items.toList.drop (sIx items.size 0 lo)).take (sIx items.size items.size hi-sIx items.size 0 lo)).toArray.size<=YM;rw[List.size_toArray,abK,acZ,aaV];omega
 have F:sIx items.size items.size hi<=items.size:=Um _ _ (YK _) hi;obtain⟨os,J,Y,a0⟩:=id B;have V:s.TypeIs (.ref sl) "slice":=⟨os,J,Y⟩;unfold adl
 try with_reducible refine aaj ?_
 first|refine gD (YD ?_)|skip
 refine gD (wpAny_sequenceKey U.typeIs (by decide) ?_);refine gD (aaR (name:=Str.ofString "__getitem__") U.typeIs aan
  (ad4 aan U.typeIs ae8 ?_ (args_tuple_getitem _ _)))
 show wpAny _ _ (adC (.ref t) >>=_) _ _ s;refine gD (tupleItemsOf_ U ?_);refine gD (ab5 V ?_);rw[YZ (by decide)];refine gD (tM B pl N ?_);have O:¬((((sIx items.size 0 lo:Nat):Int)==0&&(1:Int)==1&&(sIx items.size items.size hi-sIx items.size 0 lo)==items.size)=true):=by
  intro q;rw[Zw,Zw]at q;have q1:((sIx items.size 0 lo:Nat):Int)=0:=eq_of_beq q.1.1;have q2:sIx items.size items.size hi-sIx items.size 0 lo=items.size:=eq_of_beq q.2;exact Z ⟨by omega,by omega⟩
 show wpAny _ _ (if(((sIx items.size 0 lo:Nat):Int)==0&&(1:Int)==1&&(sIx items.size items.size hi-sIx items.size 0 lo)==items.size)=true then _ else _) _ _ s;rw[Zi O,LQ]
 first
  |exact gD (m:=aa8 _) (aae (YD ⟨_,rfl,YD h⟩) I)
  |exact gD (m:=aa8 _) (aae (gD (YD (YD ⟨_,rfl,YD h⟩))) I)
  |exact gD (gD (m:=aa8 _) (aae (YD (YD ⟨_,rfl,YD h⟩)) I))
  |exact gD (gD (m:=aa8 _) (aae (YD ⟨_,rfl,YD h⟩) I))
end HT
namespace L2
open PySem PySem.Spec PyProof.Rows
abbrev TO:=St->Hp->(Option Int->Hp->Prop)->Prop
def PO(X:Cx)(e:Option Expr)(t:TO):Prop:=
 ∀(pins:List (Addr×Obj))(s:zb)(σ:St)(H:Hp)(Q:Option Int->Hp->Prop),Inv X pins σ H s->t σ H Q->
  wpAny 1.12 X.A (evalPart e X.env) (λu s'=>∃o H',Inv X pins σ H' s'/\ab4 u o/\Q o H') X.xe s
def PX:TO:=λ_ H Q=>Q none H
def W3(t:TE):TO:=λσ H Q=>t σ H λx H1=>∃i,x= .int i/\Q (some i) H1
section
variable{X:Cx}{e:Expr}{te:TE}{lo hi:Option Expr}{tl th:TO}{pos p2:Pos}
theorem QV:PO X none PX:=by
 show 5;rw[evalPart_none];exact YD ⟨none,H,I,.none,h⟩
theorem QJ(h:PE X e te):PO X (some e) (W3 te):=by
 intro pins s σ H Q I B;rw[evalPart_some];refine thn (h pins s σ H _ I B) λu O ⟨x,H1,F,U,q1⟩=>?_;obtain⟨i,rfl,q⟩:=q1;obtain⟨t,rfl⟩:=U;exact⟨some i,H1,F,.int i t,q⟩
def SlR(X:Cx)(r:V->Option Int->Option Int->Hp->VK->Prop):Prop:=
 ∀(pins:List (Addr×Obj))(s:zb)(σ:St)(H:Hp)(x:V)(v vl D:Value)(lo hi:Option Int)(sl:Addr)(Q:VK),Inv X pins σ H s->RelV x v->s.heap.IsSliceOf sl vl D .none->ab4 vl lo->ab4 D hi->r x lo hi H Q->
  ∃T id,typeLookup (.type T) "__getitem__"=pure (some (.builtin id))/\s.TypeIs v T/\wpAny 1.12 X.A (adl v (.ref sl)) (EP X pins σ Q) X.xe s
theorem SlR.or{r F:V->Option Int->Option Int->Hp->VK->Prop}(h:SlR X r)(h':SlR X F):SlR X (λx lo hi H Q=>r x lo hi H Q∨F x lo hi H Q):=by
 intro pins s σ H x v vl D lo hi sl Q I rx B pl N q;rcases q with q|q
 .exact h pins s σ H x v vl D lo hi sl Q I rx B pl N q
 .exact h' pins s σ H x v vl D lo hi sl Q I rx B pl N q
def tSl(r:V->Option Int->Option Int->Hp->VK->Prop)(te:TE)(tl th:TO):TE:=λσ H Q=>te σ H λx H1=>tl σ H1 λl H2=>th σ H2 λu Y=>r x l u Y Q
theorem L_{r:V->Option Int->Option Int->Hp->VK->Prop}(O:SlR X r)(he:PE X e te)(Y:PO X lo tl)(J:PO X hi th):PE X (.Subscript e (.Slice lo hi none p2) pos) (tSl r te tl th):=by
 show 5;refine Subscript_ (thn (he pins s σ H _ I h) λv s1 ⟨x,H1,F,r1,q1⟩=>?_);refine wpAny_Slice (thn (Y pins s1 σ H1 _ F q1) λvl Z ⟨l,H2,I2,pl,q2⟩=>thn (J pins Z σ H2 _ I2 q2) λD N ⟨u,H3,I3,pu,q3⟩=>?_);rw[evalPart_none];refine YD ?_;have B:Inv X pins σ H3 {N with heap:=N.heap.push {cls:=.type "slice",data:=.fields #[vl,D,.none]}}:=I3.kept (t':=N.toks) λb ob q=>za _ q;obtain⟨T,id,hT,U,hg⟩:=O pins {N with heap:=N.heap.push {cls:=.type "slice",data:=.fields #[vl,D,.none]}} σ H3 x v vl D l u N.heap.objs.size Q B r1 (Heap.IsSliceOf.new ..) pl pu q3;show wpAny 1.12 X.A (subscriptTail e (.Slice lo hi none p2) v (.ref N.heap.objs.size)) (EP X pins σ Q) X.xe {N with heap:=N.heap.push {cls:=.type "slice",data:=.fields #[vl,D,.none]}};exact tail_any (ops:=[.ref N.heap.objs.size,v]) U hT hg (by with_unfolding_all rfl)
def wZ(xs:List V)(lo hi:Option Int):List V:=(xs.drop (HT.sIx xs.length 0 lo)).take (HT.sIx xs.length xs.length hi-HT.sIx xs.length 0 lo)
theorem uH(xs:List V)(lo hi:Option Int):(wZ xs lo hi).length<=xs.length:=by
 unfold wZ;rw[abK,acZ];omega
def Yj(K:YH):V->Option Int->Option Int->Hp->VK->Prop:=λx lo hi H Q=>∃a xs,x= .ref a/\SqT K H a xs/\
 ¬(HT.sIx xs.length 0 lo=0/\HT.sIx xs.length xs.length hi=xs.length)/\∀p,H p=none->Q (.ref p) (upd H p (.tup (wZ xs lo hi)))
theorem Ul:SlR X (Yj X.K):=by
 intro pins s σ H x v vl D lo hi sl Q I rx B pl N h;obtain⟨a,xs,rfl,F,V,q⟩:=h;cases rx;obtain⟨its,r,U,J⟩:=I.tuple F;have O:its.toArray.size=xs.length:=by rw[List.size_toArray];exact r.length.symm
 refine⟨"tuple",_,aan.lookup,U.typeIs,?_⟩;refine HT.getItem_tuple_cut U B pl N (by rw[O];exact V) ?_ (by rw[O];exact J);rw[O];refine⟨.ref s.heap.objs.size,_,I.laid (t':=s.toks) (o:=.tup (wZ xs lo hi)) (λb ob q=>za _ q) (YK _) ?_,rfl,q _ (I.hok.fresh (YK _))⟩;exact⟨aau (uH xs lo hi) J,_,(r.drop (HT.sIx xs.length 0 lo)).take (HT.sIx xs.length xs.length hi-HT.sIx xs.length 0 lo),qU.new _ _⟩
def Xc(K:YH):R2:=λx y H Q=>∃a b xs ys,x= .ref a/\y= .ref b/\SqT K H a xs/\SqT K H b ys/\xs≠[]/\xs.length+ys.length<=YM/\
 (ys=[]->Q (.ref a) H)/\(ys≠[]->∀p,H p=none->Q (.ref p) (upd H p (.tup (xs++ys))))
theorem Vals.nil_iff{xs:List V}{us:List Value}(r:Vals xs us):us=[]↔xs=[]:=by
 cases r with
 |nil=>simp
 |cons _ _=>simp
theorem RL:OpR X (aay .Add) (Xc X.K):=by
 intro pins s σ H x y v u Q I rx N h;obtain⟨a,b,xs,ys,rfl,rfl,Y,U,F,J,q1,q2⟩:=h;cases rx;cases N;obtain⟨its,O,p1,_⟩:=I.tuple Y;obtain⟨D,B,p2,_⟩:=I.tuple U;refine HT.cat_tup p1 p2 (λz=>F (O.nil_iff.mp z)) (λz=>⟨.ref a,H,I,rfl,q1 (B.nil_iff.mp z)⟩) (λz=>?_) (by rw[←O.length,←B.length];exact J);refine⟨.ref s.heap.objs.size,_,I.laid (t':=s.toks) (o:=.tup (xs++ys)) (λb ob q=>za _ q) (YK _) ?_,rfl,q2 (λw=>z (B.nil_iff.mpr w)) _ (I.hok.fresh (YK _))⟩;exact⟨by rw[aa3];exact J,_,O.append B,qU.new _ _⟩
end
def ixN(n:Nat)(i:Int):Option Nat:=if 0<=i then(if i<n then some i.toNat else none)else if -(n:Int)<=i then some (i+n).toNat else none
def atI(xs:List α)(i:Int):Option α:=(ixN xs.length i).bind λj=>xs[j]?
variable{i:Int}
theorem y_(h:ixN n i=some j):seqIndex? i n=some j/\j<n/\-(n:Int)<=i/\i<n:=by
 unfold ixN at h;by_cases V:0<=i
 .rw[YZ V]at h
  by_cases h1:i<n
  .rw[YZ h1]at h
   have e:i.toNat=j:=Z_ h;exact⟨by rw[afN V h1,e],by omega,by omega,h1⟩
  .rw[Zi h1]at h;cases h
 .rw[Zi V]at h
  by_cases h1: -(n:Int)<=i
  .rw[YZ h1]at h
   have e:(i+n).toNat=j:=Z_ h;exact⟨by rw[afr 1.11 h1,e],by omega,h1,by omega⟩
  .rw[Zi h1]at h;cases h
theorem Ag{xs:List α}{v:α}(h:atI xs i=some v):∃j,seqIndex? i xs.length=some j/\xs[j]? =some v/\j<xs.length/\-(xs.length:Int)<=i/\i<xs.length:=by
 unfold atI at h;cases e:ixN xs.length i with
 |none=>rw[e]at h;cases h
 |some j=>
  rw[e]at h;obtain⟨h1,h2,B,Z⟩:=y_ e;exact⟨j,h1,h,h2,B,Z⟩
def vm(b:Expr):Prop:=∀o i,subscripted b false o i=operate [o,i] (adl o i)
def IxR(X:Cx)(r:R2):Prop:=
 ∀(value O:Expr)(pins:List (Addr×Obj))(s:zb)(σ:St)(H:Hp)(x y:V)(v u:Value)(Q:VK),Inv X pins σ H s->RelV x v->RelV y u->r x y H Q->
  subscripted O false v u=operate [v,u] (adl v u)->wpAny 1.12 X.A (subscriptTail value O v u) (EP X pins σ Q) X.xe s
def MtR(X:Cx)(id:String)(r:V->List V->Hp->VK->Prop):Prop:=
 ∀(pins:List (Addr×Obj))(s:zb)(σ:St)(H:Hp)(x:V)(xs:List V)(v:Value)(us:List Value)(Q:VK),Inv X pins σ H s->RelV x v->Vals xs us->r x xs H Q->
  wpAny 1.12 X.A (call (.builtin id) (v::us)) (EP X pins σ Q) X.xe s
section
variable{X:Cx}{a b:Expr}{ta tb:TE}{pos:Pos}
theorem IxR.or{r F:R2}(h:IxR X r)(h':IxR X F):IxR X (λx y H Q=>r x y H Q∨F x y H Q):=by
 intro value O pins s σ H x y v u Q I rx N q B;rcases q with q|q
 .exact h value O pins s σ H x y v u Q I rx N q B
 .exact h' value O pins s σ H x y v u Q I rx N q B
theorem Nx{r:R2}(O:IxR X r)(Y:PE X a ta)(U:PE X b tb)(B:vm b):PE X (.Subscript a b pos) (tOp r ta tb):=by
 show 5;exact Subscript_ (Uj Y U I h λv u Z x y H2 J rx N q=>O a b pins Z σ H2 x y v u Q J rx N q (B _ _))
def W7(K:YH):R2:=λx y H Q=>∃p xs i v,x= .ref p/\y= .int i/\SqL K H p xs/\atI xs i=some v/\Q v H
def XF(K:YH):R2:=λx y H Q=>∃p xs i v,x= .ref p/\y= .int i/\SqT K H p xs/\atI xs i=some v/\Q v H
def Xl:R2:=λx y H Q=>∃z i c,x= .str z/\y= .int i/\z.length<=YM/\atI z.cps.toList i=some c/\Q (.str ⟨#[c]⟩) H
theorem RQ:IxR X (W7 X.K):=by
 intro value O pins s σ H x y v u Q I rx N h B;obtain⟨p,xs,i,z,rfl,rfl,D,V,q⟩:=h;cases rx;obtain⟨t,rfl⟩:=N;obtain⟨its,r,pl,J⟩:=I.list D;obtain⟨j,h1,h2,h3,Z,U⟩:=Ag V;obtain⟨w,F,a1⟩:=r.get h2;have Y:=r.length;have hn:=qK;have a0:EP X pins σ Q w s:=⟨z,H,I,a1,q⟩;by_cases h0:0<=i
 .have hj:i.toNat=j:=by
   rw[afN h0 U]at h1;exact Z_ h1
  exact item_listR pl.isList h0 1.11 (by rw[hj];simpa using F) a0 B
 .have hj:(i+(its.toArray.size:Int)).toNat=j:=by
   rw[afr 1.11 Z]at h1;rw[List.size_toArray,←Y];exact Z_ h1
  exact aes (x:=w) pl.isList.typeIs slot_list_getitem.lookup
   (wpAny_getItem_list_neg (Q:=λr s'=>r=w/\EP X pins σ Q r s') pl.isList 1.11 (by rw[List.size_toArray]<;>omega) 1.11 (by rw[hj];simpa using F) ⟨rfl,a0⟩) B
theorem U3:IxR X (XF X.K):=by
 intro value O pins s σ H x y v u Q I rx N h B;obtain⟨p,xs,i,z,rfl,rfl,D,V,q⟩:=h;cases rx;obtain⟨t,rfl⟩:=N;obtain⟨its,r,pl,J⟩:=I.tuple D;obtain⟨j,h1,h2,h3,Z,U⟩:=Ag V;obtain⟨w,F,a1⟩:=r.get h2;have Y:=r.length;have hn:=qK;have a0:EP X pins σ Q w s:=⟨z,H,I,a1,q⟩;exact aes (x:=w) pl.typeIs slot_tuple_getitem.lookup
  (getItem_tuple (j:=j) (Q:=λr s'=>r=w/\EP X pins σ Q r s') pl 1.11 1.11 (by rw[List.size_toArray,←Y];exact h1) (by simpa using F) ⟨rfl,a0⟩) B
theorem Vr:IxR X Xl:=by
 intro value O pins s σ H x y v u Q I rx N h B;obtain⟨z,i,c,rfl,rfl,J,V,q⟩:=h;obtain⟨t,rfl⟩:=rx;obtain⟨t',rfl⟩:=N;obtain⟨j,h1,h2,D,Z,U⟩:=Ag V;have Y:z.cps.toList.length=z.length:=by simp[Str.length]
 rw[Y]at h1 Z U;have hn:=qK;exact tail_any (typeIs_str s z t) slot_str_getitem.lookup (getItem_str (c:=c) (by
  have e1:decide (i< -(2 ^ 63:Int))=false:=Zn 1.11;have e2:decide (i>=2 ^ 63)=false:=Zn 1.11;rw[e1,e2,Bool.or_false]) (by rw[h1];simpa using h2) ⟨.str ⟨#[c]⟩,H,I.tok _,⟨_,rfl⟩,q⟩) B
def rIx(K:YH):R2:=λx y H Q=>W7 K x y H Q∨XF K x y H Q∨Xl x y H Q
theorem Tu:IxR X (rIx X.K):=RQ.or (U3.or Vr)
theorem DK(its:List Value)(n j:Nat)(u:Value):abV (·.setIfInBounds j u) {cls:=.type "list",data:=.seq its.toArray n}={cls:=.type "list",data:=.seq (its.set j u).toArray n}:=by
 simp[abV]
theorem Inv.lst{pins:List (Addr×Obj)}{σ:St}{H:Hp}{s:zb}{p:Addr}{xs:List V}(I:Inv X pins σ H s)(h:H p=some (.lst xs)) :
  ∃(its:List Value)(n:Nat),Vals xs its/\s.heap.get? p=some {cls:=.type "list",data:=.seq its.toArray n}/\xs.length<=YM:=by
 obtain⟨z,its,n,r,e⟩:=I.hok p _ h;exact⟨its,n,r,e,z⟩
theorem Inv.lstUpd{pins:List (Addr×Obj)}{σ:St}{H:Hp}{s:zb}{p:Addr}{xs ys:List V}{its its':List Value}{n B:Nat}{f:Obj->Obj}(I:Inv X pins σ H s)(h:H p=some (.lst xs))
  (J:s.heap.get? p=some {cls:=.type "list",data:=.seq its.toArray n}) (O:f {cls:=.type "list",data:=.seq its.toArray n}={cls:=.type "list",data:=.seq its'.toArray B}) (r:Vals ys its') (D:ys.length<=YM) (t:Nat) :
  Inv X pins σ (upd H p (.lst ys)) {s with heap:=s.heap.update p f,toks:=t}:=by
 have e:(s.heap.update p f).get? p=some {cls:=.type "list",data:=.seq its'.toArray B}:=by
  rw[ac6 f J (by rw[O]<;>rfl),O]
 refine I.write (x:=p) (e:=p) (by rw[h];trivial) (.inl rfl) (λb u U q=>(aaY _ _ (Zt U)).trans q) ⟨_,e⟩ ?_;exact⟨D,its',B,r,e⟩
def S7:V->V->V->Hp->(Hp->Prop)->Prop:=λo i v H Q=>∃p xs k j,o= .ref p/\i= .int k/\H p=some (.lst xs)/\ixN xs.length k=some j/\Q (upd H p (.lst (xs.set j v)))
theorem set_list:Qf X S7:=by
 intro pins s σ H o i v D U u Q I O ri rv h;obtain⟨p,xs,k,j,rfl,rfl,N,F,q⟩:=h;cases O;obtain⟨t,rfl⟩:=ri;obtain⟨its,n,r,J,hz⟩:=I.lst N;obtain⟨h1,h2,B,Z⟩:=y_ F;have Y:=r.length;have hn:=qK;have I':Inv X pins σ (upd H p (.lst (xs.set j v))) {s with heap:=s.heap.update p (abV (·.setIfInBounds j u))}:=
  I.lstUpd N J (DK its n j u) (r.set rv j) (by rw[List.length_set];exact hz) s.toks
 by_cases V:0<=k
 .have hk:k.toNat=j:=by
   rw[afN V Z]at h1;exact Z_ h1
  exact PySem.W.ki_setAt J V 1.11 (by rw[List.size_toArray,←Y];exact Z) (by rw[hk];exact⟨_,I',q⟩)
 .have hk:(k+(its.toArray.size:Int)).toNat=j:=by
   rw[afr 1.11 B]at h1;rw[List.size_toArray,←Y];exact Z_ h1
  exact PySem.W.ki_setBack J 1.11 (by rw[List.size_toArray,←Y];exact B) 1.11 (by rw[hk];exact⟨_,I',q⟩)
theorem Ar(lo hi:Option Int)(n:Nat):(ach lo hi none n).1=((HT.sIx n 0 lo:Nat):Int)/\(ach lo hi none n).2.1=((HT.sIx n n hi:Nat):Int)/\(ach lo hi none n).2.2=1:=by
 refine⟨?_,?_,rfl⟩
 .cases lo with
  |none=>simp[ach,HT.sIx]
  |some i=>
   simp![ach,HT.sIx,afU,show(1:Int)>0 by decide,Zy];by_cases h:i<0
   .simp![h,Zy]<;>omega
   .simp![h,aaz]<;>omega
 .cases hi with
  |none=>simp[ach,HT.sIx]
  |some i=>
   simp![ach,HT.sIx,afU,show(1:Int)>0 by decide,Zy];by_cases h:i<0
   .simp![h,Zy]<;>omega
   .simp![h,aaz]<;>omega
theorem xM(its:List Value)(lo hi:Option Int):slicePick its.toArray lo hi none=((its.drop (HT.sIx its.length 0 lo)).take (HT.sIx its.length its.length hi-HT.sIx its.length 0 lo)).toArray:=by
 obtain⟨h1,h2,B⟩:=Ar lo hi its.toArray.size;unfold slicePick;rw[h1,h2,B];simp![sliceRange_one,pick_run,List.size_toArray]<;>rfl
def W4(K:YH):V->Option Int->Option Int->Hp->VK->Prop:=λx lo hi H Q=>∃a xs,x= .ref a/\SqL K H a xs/\∀p,H p=none->Q (.ref p) (upd H p (.lst (wZ xs lo hi)))
theorem Qu:SlR X (W4 X.K):=by
 intro pins s σ H x v vl D lo hi sl Q I rx B pl N h;obtain⟨a,xs,rfl,F,q⟩:=h;cases rx;obtain⟨its,r,U,J⟩:=I.list F;have O:=r.length;refine⟨"list",_,slot_list_getitem.lookup,U.isList.typeIs,?_⟩;refine wpAny_getItem_list_slice U.isList B pl N .none (by simp) ?_ (by rw[List.size_toArray]<;>omega);rw[xM,←O];refine⟨.ref s.heap.objs.size,_,I.laid (t':=s.toks) (o:=.lst (wZ xs lo hi)) (λb ob q=>za _ q) (YK _) ?_,rfl,q _ (I.hok.fresh (YK _))⟩;exact⟨aau (uH xs lo hi) J,_,0,(r.drop (HT.sIx xs.length 0 lo)).take (HT.sIx xs.length xs.length hi-HT.sIx xs.length 0 lo),YS _ rfl⟩
def nP:V->Bool
 |.non=>true
 |.bl _=>true
 |.int _=>true
 |.str _=>true
 |_=>false
def eqV:V->V->Bool
 |.non,.non=>true
 |.bl a,.bl b=>a==b
 |.bl a,.int b=>(if a then 1 else 0)==b
 |.int a,.bl b=>a==(if b then 1 else 0)
 |.int a,.int b=>a==b
 |.str a,.str b=>a==b
 |_,_=>false
theorem V3{A:ZW}{s:zb}{y x:V}{u v:Value}(N:RelV y u)(rx:RelV x v)(I:nP y=true)(F:nP x=true):SeqAt.EqAt A s u v (eqV y x):=by
 cases y with
 |non=>
  cases N;cases x with
  |non=>cases rx;exact SeqAt.EqAt.same _
  |bl b=>cases rx;exact SeqAt.EqAt.none_bool b
  |int b=>obtain⟨t,rfl⟩:=rx;exact SeqAt.EqAt.none_int b t
  |str b=>obtain⟨t,rfl⟩:=rx;exact SeqAt.EqAt.none_str b t
  |_=>exact absurd (show false=true from F) ZK
 |bl a=>
  cases N;cases x with
  |non=>cases rx;exact SeqAt.EqAt.bool_none a
  |bl b=>cases rx;exact SeqAt.EqAt.bool_bool a b
  |int b=>obtain⟨t,rfl⟩:=rx;exact SeqAt.EqAt.bool_int a b t
  |str b=>obtain⟨t,rfl⟩:=rx;exact SeqAt.EqAt.bool_str a b t
  |_=>exact absurd (show false=true from F) ZK
 |int a=>
  obtain⟨t',rfl⟩:=N;cases x with
  |non=>cases rx;exact SeqAt.EqAt.int_none a t'
  |bl b=>cases rx;exact SeqAt.EqAt.int_bool a t' b
  |int b=>obtain⟨t,rfl⟩:=rx;exact SeqAt.EqAt.int_int a t' b t
  |str b=>obtain⟨t,rfl⟩:=rx;exact afg a t' b t
  |_=>exact absurd (show false=true from F) ZK
 |str a=>
  obtain⟨t',rfl⟩:=N;cases x with
  |non=>cases rx;exact SeqAt.EqAt.str_none a t'
  |bl b=>cases rx;exact SeqAt.EqAt.str_bool a t' b
  |int b=>obtain⟨t,rfl⟩:=rx;exact afh a t' b t
  |str b=>obtain⟨t,rfl⟩:=rx;exact SeqAt.EqAt.str_str a t' b t
  |_=>exact absurd (show false=true from F) ZK
 |_=>exact absurd (show false=true from I) ZK
def eqU(x:V)(u:Value):Bool:=match u with
 |.none=>eqV .non x
 |.bool b=>eqV (.bl b) x
 |.int i _=>eqV (.int i) x
 |.str z _=>eqV (.str z) x
 |_=>false
theorem M_{x y:V}{u:Value}(r:RelV y u)(f:nP y=true):eqU x u=eqV y x:=by
 cases y with
 |non=>cases r;rfl
 |bl b=>cases r;rfl
 |int i=>obtain⟨t,rfl⟩:=r;rfl
 |str z=>obtain⟨t,rfl⟩:=r;rfl
 |_=>exact absurd (show false=true from f) ZK
theorem rG{x:V}:∀{xs:List V}{us:List Value},Vals xs us->xs.all nP=true->us.any (eqU x)=xs.any λy=>eqV y x
 |_,_,.nil,_=>rfl
 |y::xs,u::us,.cons r t,f=>by
  rw[ace,Zw]at f;rw[acV,acV,M_ r f.1,rG t f.2]
theorem pG{A:ZW}{s:zb}{x:V}{v:Value}(rx:RelV x v)(F:nP x=true):∀{xs:List V}{us:List Value},Vals xs us->xs.all nP=true->∀u∈us,SeqAt.EqAt A s u v (eqU x u)
 |_,_,.nil,_=>λu J=>by cases J
 |y::xs,u::us,.cons r t,f=>λO J=>by
  rw[ace,Zw]at f;rcases YJ.mp J with rfl|J
  .rw[M_ r f.1];exact V3 r rx f.1 F
  .exact pG rx F t f.2 O J
def inV(x:V)(xs:List V):Bool:=xs.any λy=>eqV y x
def rIn(K:YH)(q:Bool):R2:=λx y H Q=>∃p xs,y= .ref p/\(SqL K H p xs∨SqT K H p xs)/\nP x=true/\xs.all nP=true/\Q (.bl (if q then !inV x xs else inV x xs)) H
theorem Jy:OpR X (ZL .In) (rIn X.K false):=by
 intro pins s σ H x y v u Q I rx N h;obtain⟨p,xs,rfl,D,F,fs,q⟩:=h;cases N;rcases D with D|D
 .obtain⟨its,r,pl,hz⟩:=I.list D
  refine SeqAt.in_listAt (eqU x) pl.isList (λw B=>pG rx F r fs w (by simpa using B)) ⟨.bl _,H,I,rfl,?_⟩;rw[show its.toArray.any (eqU x)=its.any (eqU x)by simp,rG r fs];exact q
 .obtain⟨its,r,pl,hz⟩:=I.tuple D
  refine SeqAt.in_tupleAt (eqU x) pl (λw B=>pG rx F r fs w (by simpa using B)) ⟨.bl _,H,I,rfl,?_⟩;rw[show its.toArray.any (eqU x)=its.any (eqU x)by simp,rG r fs];exact q
theorem zx:OpR X (ZL .NotIn) (rIn X.K true):=by
 intro pins s σ H x y v u Q I rx N h;obtain⟨p,xs,rfl,D,F,fs,q⟩:=h;cases N;rcases D with D|D
 .obtain⟨its,r,pl,hz⟩:=I.list D
  refine SeqAt.notIn_listAt (eqU x) pl.isList (λw B=>pG rx F r fs w (by simpa using B)) ⟨.bl _,H,I,rfl,?_⟩;rw[show its.toArray.any (eqU x)=its.any (eqU x)by simp,rG r fs];exact q
 .obtain⟨its,r,pl,hz⟩:=I.tuple D
  refine SeqAt.notIn_tupleAt (eqU x) pl (λw B=>pG rx F r fs w (by simpa using B)) ⟨.bl _,H,I,rfl,?_⟩;rw[show its.toArray.any (eqU x)=its.any (eqU x)by simp,rG r fs];exact q
theorem zX:OpR X (ZL .NotIn) (λx y H Q=>∃i j,x= .str i/\y= .str j/\Q (.bl (!(!(aab j i 0 j.length 1).isEmpty))) H):=by
 show 4;exact notIn_str ⟨.bl _,H,I,rfl,q⟩
theorem zZ:fK X (.builtin "len") (λxs H Q=>∃p ys,xs=[.ref p]/\(SqL X.K H p ys∨SqT X.K H p ys)/\Q (.int ys.length) H):=by
 show 6;obtain⟨p,ys,rfl,D,q⟩:=h;obtain⟨u,rfl,rx⟩:=vals1 r;cases rx;have hn:=qK;rcases D with D|D
 .obtain⟨its,r',pl,hz⟩:=I.list D
  have O:=r'.length;exact Calls.call_len_list pl.isList (by simp![List.size_toArray]<;>omega) ⟨.int ys.length,H,I.tok _,⟨s.toks+1,by rw[List.size_toArray,O]⟩,q⟩
 .obtain⟨its,r',pl,hz⟩:=I.tuple D
  have O:=r'.length;exact len_tuple pl (by simp![List.size_toArray]<;>omega) ⟨.int ys.length,H,I.tok _,⟨s.toks+1,by rw[List.size_toArray,O]⟩,q⟩
theorem Ak:fK X (.builtin "len") (λxs H Q=>∃z,xs=[.str z]/\z.length<=YM/\Q (.int z.length) H):=by
 show 6;obtain⟨z,rfl,J,q⟩:=h;obtain⟨u,rfl,t,rfl⟩:=vals1 r;have hn:=qK;exact len_str 1.11 ⟨.int z.length,H,I.tok _,⟨_,rfl⟩,q⟩
theorem zR:fK X (.type "list") (λxs H Q=>∃p ys,xs=[.ref p]/\(SqL X.K H p ys∨SqT X.K H p ys)/\∀l,H l=none->Q (.ref l) (upd H l (.lst ys))):=by
 show 6;obtain⟨p,ys,rfl,D,q⟩:=h;obtain⟨u,rfl,rx⟩:=vals1 r;cases rx;have V:∀(its:List Value),Vals ys its->ys.length<=YM->∀(h':Heap)(N:Nat),(∀b o',s.heap.get? b=some o'->h'.get? b=some o')->
   h'.get? s.heap.objs.size=some {cls:=.type "list",dict:=none,data:=.seq its.toArray N,slots:=#[]}->EP X pins σ Q (.ref s.heap.objs.size) {s with heap:=h'}:=λits F B h' N kp e=>
  ⟨.ref s.heap.objs.size,_,I.laid (t':=s.toks) kp (YK _) (show cJ X.prog X.w _ h' _ (.lst ys)from⟨B,its,N,F,e⟩),rfl,q _ (I.hok.fresh (YK _))⟩
 rcases D with D|D
 .obtain⟨its,F,pl,B⟩:=I.list D
  have O:=F.length;obtain⟨o,J,Z,n,hd⟩:=pl.isList;exact call_list_seq p (.inl rfl) J Z hd (λh' N kp e=>V its F B h' N kp e) (by simp![List.size_toArray]<;>omega)
 .obtain⟨its,F,pl,B⟩:=I.tuple D
  have O:=F.length;obtain⟨o,J,Z,n,hd⟩:=pl;exact call_list_seq p (.inr rfl) J Z hd (λh' N kp e=>V its F B h' N kp e) (by simp![List.size_toArray]<;>omega)
def tyV(K:YH)(T:String)(x:V)(H:Hp):Prop:=match x with
 |.str _=>T="str"
 |.int _=>T="int"
 |.ref p=>(T="list"/\∃xs,SqL K H p xs)∨(T="tuple"/\∃o,K.lookup p=some o/\o.cls= .type "tuple"/\o.dict=none)∨
  (T="dict"/\((∃kvs,H p=some (.dK kvs))∨∃kvs,H p=some (.dT kvs)))∨(T="set"/\∃S n,H p=some (.set S n))
 |_=>False
theorem Nj{pins:List (Addr×Obj)}{σ:St}{H:Hp}{s:zb}{T:String}{x:V}{v:Value}(I:Inv X pins σ H s)(r:RelV x v)(ty:tyV X.K T x H) :
  s.TypeIs v T/\∀a,v= .ref a->∃ob,s.heap.get? a=some ob/\ob.dict=none:=by
 cases x with
 |str z=>
  obtain⟨t,rfl⟩:=r;cases (show T="str" from ty);exact⟨typeIs_str s z t,λ_ e=>nomatch e⟩
 |int i=>
  obtain⟨t,rfl⟩:=r;cases (show T="int" from ty);exact⟨typeIs_int s i t,λ_ e=>nomatch e⟩
 |ref p=>
  cases r;rcases ty with⟨rfl,xs,D⟩|⟨rfl,o,q,Z,hd⟩|⟨rfl,q⟩|⟨rfl,S,n,q⟩
  .obtain⟨its,_,pl,_⟩:=I.list D
   refine⟨pl.isList.typeIs,λa e=>?_⟩;cases e;obtain⟨o,n,e,c,hd,_⟩:=pl;exact⟨o,e,hd⟩
  .refine⟨⟨o,I.kIn p o q,Z⟩,λa e=>?_⟩
   cases e;exact⟨o,I.kIn _ o q,hd⟩
  .have z:∃o,s.heap.get? p=some o/\o.ExactDict:=by
    rcases q with⟨kvs,q⟩|⟨kvs,q⟩
    .obtain⟨_,_,_,_,o,_,_,e,ex,_⟩:=I.hok p _ q
     exact⟨o,e,ex⟩
    .obtain⟨_,_,_,_,o,_,_,e,ex,_⟩:=I.hok p _ q
     exact⟨o,e,ex⟩
   obtain⟨o,e,ex⟩:=z;refine⟨⟨o,e,ex.1⟩,λa e2=>?_⟩;cases e2;exact⟨o,e,ex.2.1⟩
  .obtain⟨o,_,_,_,e,ex,_⟩:=I.hok p _ q
   refine⟨⟨o,e,ex.1⟩,λa e2=>?_⟩;cases e2;exact⟨o,e,ex.2.1⟩
 |_=>exact aa0 ty
def Yz(K:YH)(T:String)(r:V->List V->Hp->VK->Prop)(to:TE):TE:=λσ H Q=>to σ H λx H1=>tyV K T x H1/\r x [] H1 Q
def tBM(K:YH)(T:String)(r:V->List V->Hp->VK->Prop)(to:TE)(t:TA):TE:=λσ H Q=>to σ H λx H1=>tyV K T x H1/\t σ H1 λxs H2=>r x xs H2 Q
variable{o e:Expr}{es:List Expr}{to:TE}{t:TA}{name:Str}{apos cpos:Pos}{T id:String}{r:V->List V->Hp->VK->Prop}
theorem Lq(Z:acC T)(slot:Slot T name id)(B:aeE (.builtin id)=pure (.type "method_descriptor"))(N:MtR X id r)(J:PE X o to)
  (q:aaO o name X.env (eval o X.env)=eval o X.env:=by rfl) (V:(apos.endLine==cpos.line)=true:=by rfl):PE X (.Call (.Attribute o name apos) [] [] cpos) (Yz X.K T r to):=by
 show 5;refine wpAny_Call_method0_late q V (thn (J pins s σ H _ I h) λv O ⟨x,H1,F,U,ty,q1⟩=>?_);obtain⟨h1,h2⟩:=Nj F U ty;exact⟨T,id,Z,slot,B,h1,h2,acR rfl (PySem.evalArgs_none (N pins O σ H1 x [] v [] Q F U .nil q1))⟩
theorem KQ(pa:acC T)(slot:Slot T name id)(a2:aeE (.builtin id)=pure (.type "method_descriptor"))(N:MtR X id r)(J:PE X o to)(Y:PA X (e::es) t)
  (q:aaO o name X.env (eval o X.env)=eval o X.env:=by rfl)
  (a1:((aak cpos (YQ (e::es) X.env)).all (λx=>!x.1)&&(aca cpos (abi [] X.env)).all (λx=>x.1.isSome)
   &&decide ((e::es).length+([]:List adm).length+(if([]:List adm).isEmpty then 0 else 1)<30))=true:=by rfl)
  (V:(apos.endLine==cpos.line)=true:=by rfl) (B:YQ (e::es) X.env=(false,eval e X.env)::YQ es X.env:=by rfl) (a0:(aak cpos (YQ es X.env)).any (·.1)=false:=by rfl) :
  PE X (.Call (.Attribute o name apos) (e::es) [] cpos) (tBM X.K T r to t):=by
 show 5;refine wpAny_Call_method_late q a1 V rfl (thn (J pins s σ H _ I h) λv O ⟨x,H1,F,U,ty,q1⟩=>?_);obtain⟨h1,h2⟩:=Nj F U ty;refine⟨T,id,pa,slot,a2,h1,h2,?_⟩;have D:=Y cpos pins O σ H1 _ F q1;rw[B]at D⊢;refine acR (by show(false||(aak cpos (YQ es X.env)).any (·.1))=false;rw[a0]<;>rfl) (aeU ?_);exact thn D λus Z ⟨vs,H2,I2,r2,q2⟩=>N pins Z σ H2 x vs v us Q I2 U r2 q2
end
def MtM(X:Cx)(id:String)(r:V->List V->Hp->VK->Prop):Prop:=
 ∀(pins:List (Addr×Obj))(s:zb)(σ:St)(H:Hp)(x:V)(xs:List V)(v:Value)(us:List Value)(Q:VK),Inv X pins σ H s->RelV x v->Vals xs us->r x xs H Q->
  wpAny 1.12 X.A (call (.builtin id) (v::us)) (EP X pins σ Q) X.xe s
theorem Vals.one:∀{x:V}{us:List Value},Vals [x] us->∃u,us=[u]/\RelV x u
 |_,_,.cons r .nil=>⟨_,rfl,r⟩
theorem Vals.zero:∀{us:List Value},Vals [] us->us=[]
 |_,.nil=>rfl
variable{xs:List V}
theorem Vals.dropLast(h:Vals xs us):Vals xs.dropLast us.dropLast:=by
 induction h with
 |nil=>exact .nil
 |cons r t O=>
  cases t with
  |nil=>exact .nil
  |cons q t'=>exact .cons r O
theorem Vals.eraseIdx:∀{xs:List V}{us:List Value}(i:Nat),Vals xs us->Vals (xs.eraseIdx i) (us.eraseIdx i)
 |_,_,_,.nil=>.nil
 |_,_,0,.cons _ t=>t
 |_,_,i+1,.cons r t=>.cons r (Vals.eraseIdx i t)
theorem Vals.reverse(h:Vals xs us):Vals xs.reverse us.reverse:=by
 induction h with
 |nil=>exact .nil
 |cons r t O=>rw[acJ,acJ];exact Vals.append O (.cons r .nil)
theorem qJ(l:List α):l.eraseIdx (l.length-1)=l.dropLast:=by
 induction l with
 |nil=>rfl
 |cons a r O=>
  cases r with
  |nil=>rfl
  |cons b r=>
   have e:(a::b::r).length-1=((b::r).length-1)+1:=by
    have h1:(a::b::r).length=r.length+2:=rfl;have h2:(b::r).length=r.length+1:=rfl;omega
   rw[e,aee,O]
   all_goals rfl
theorem yu:∀(l:List α)(i:Nat),(l.eraseIdx i).length<=l.length
 |[],_=>YK _
 |_::_,0=>adq _
 |_::r,i+1=>Nat.succ_le_succ (yu r i)
variable{X:Cx}{σ:St}{H:Hp}{ys:List V}
theorem Inv.lset{its':List Value}{f:Array Value->Array Value}(I:Inv X pins σ H s)(D:H l=some (.lst xs))
  (e:s.heap.get? l=some {cls:=.type "list",data:=.seq its.toArray n}) (O:f its.toArray=its'.toArray) (B:Vals ys its') (F:ys.length<=YM) :
  Inv X pins σ (upd H l (.lst ys)) {s with heap:=s.heap.update l (abV f),toks:=t'}:=by
 have q:=afV e f;rw[O]at q;refine I.write (x:=l) (e:=l) (by rw[D];exact trivial) (.inl rfl) (λN u U J=>(aaY s.heap (abV f) (Zt U)).trans J) ⟨_,q⟩ ?_;exact⟨F,its',_,B,q⟩
theorem Inv.lnew(I:Inv X pins σ H s)(B:Vals ys its)(J:ys.length<=YM) :
  Inv X pins σ (upd H s.heap.objs.size (.lst ys)) {s with heap:=s.heap.push {cls:=.type "list",data:=.seq its.toArray},toks:=t'}:=
 I.laid (λ_ _ q=>za _ q) (YK _) ⟨J,its,0,B,YS _ rfl⟩
theorem Inv.fresh(I:Inv X pins σ H s):H s.heap.objs.size=none:=I.hok.fresh (YK _)
theorem Inv.lstM(I:Inv X pins σ H s)(O:H l=some (.lst xs)):xs.length<=YM/\∃(its:List Value)(n:Nat),Vals xs its/\xs.length=its.length/\s.heap.get? l=some {cls:=.type "list",data:=.seq its.toArray n}:=by
 obtain⟨z,its,n,r,e⟩:=I.hok l _ O;exact⟨z,its,n,r,r.length,e⟩
def G9:V->List V->Hp->VK->Prop:=λx vs H Q=>∃l xs y,x= .ref l/\vs=[y]/\H l=some (.lst xs)/\xs.length<YM/\Q .non (upd H l (.lst (xs++[y])))
theorem HB:MtM X "list.append" G9:=by
 intro pins s σ H x vs v us Q I rx N h;obtain⟨l,xs,y,rfl,rfl,O,J,q⟩:=h;cases rx;obtain⟨u,rfl,B⟩:=N.one;obtain⟨z,its,n,r,Y,e⟩:=I.lstM O;refine acb afs ⟨_,e,rfl⟩ ae9 (aeV _ _) (afG l its.toArray n u (by rw[List.size_toArray];omega)) ⟨e,?_⟩;refine⟨.non,_,I.lset (its':=its++[u]) O e (by simp) (r.append (.cons B .nil)) ?_,rfl,q⟩;rw[aa3,List.length_singleton];omega
def XJ:V->List V->Hp->VK->Prop:=λx vs H Q=>∃l xs y,x= .ref l/\vs=[]/\H l=some (.lst xs)/\xs[xs.length-1]? =some y/\Q y (upd H l (.lst xs.dropLast))
theorem Vq:MtM X "list.pop" XJ:=by
 intro pins s σ H x vs v us Q I rx N h;obtain⟨l,xs,y,rfl,rfl,O,V,q⟩:=h;cases rx;have D:=N.zero;subst D;obtain⟨z,its,n,r,Y,e⟩:=I.lstM O;obtain⟨u,J,B⟩:=r.get V;have U:its.toArray[its.toArray.size-1]? =some u:=by
  show its.toArray[its.length-1]? =some u;rw[←abt,←Y];exact J
 refine acb F.slot_list_pop ⟨_,e,rfl⟩ F.entry_list_pop (F.args_list_pop_1 _) (MeetsSeq.list_pop_last l its.toArray n u U (by rw[List.size_toArray];omega)) ⟨e,?_⟩;refine⟨y,_,I.lset (its':=its.dropLast) O e ?_ r.dropLast ?_,B,q⟩
 .show its.toArray.eraseIdxIfInBounds (its.toArray.size-1)=its.dropLast.toArray
  rw[List.size_toArray,adb,qJ]
 .rw[aeW]
  omega
def Np:V->List V->Hp->VK->Prop:=λx vs H Q=>∃l xs i k y,x= .ref l/\vs=[.int i]/\H l=some (.lst xs)/\-(2 ^ 63)<=i/\i<2 ^ 63/\seqIndex? i xs.length=some k/\xs[k]? =some y/\Q y (upd H l (.lst (xs.eraseIdx k)))
theorem J2:MtM X "list.pop" Np:=by
 intro pins s σ H x vs v us Q I rx N h;obtain⟨l,xs,i,k,y,rfl,rfl,O,h1,h2,J,V,q⟩:=h;cases rx;obtain⟨u,rfl,D⟩:=N.one;obtain⟨t,rfl⟩:=D;obtain⟨z,its,n,r,Y,e⟩:=I.lstM O;obtain⟨w,B,U⟩:=r.get V;refine acb F.slot_list_pop ⟨_,e,rfl⟩ F.entry_list_pop (F.args_list_pop_2 _ _)
  (MeetsSeq.list_pop_at l its.toArray n i t k w (fitsIndex_both h1 h2) (by rw[List.size_toArray,←Y];exact J) (by rw[←abt];exact B) (by rw[List.size_toArray];omega)) ⟨e,?_⟩
 refine⟨y,_,I.lset (its':=its.eraseIdx k) O e ?_ (r.eraseIdx k) ?_,U,q⟩
 .show its.toArray.eraseIdxIfInBounds k=(its.eraseIdx k).toArray
  rw[adb]
 .have:=yu xs k
  omega
def CN:V->List V->Hp->VK->Prop:=λx vs H Q=>∃l xs,x= .ref l/\vs=[]/\H l=some (.lst xs)/\Q .non (upd H l (.lst xs.reverse))
theorem Eh:MtM X "list.reverse" CN:=by
 intro pins s σ H x vs v us Q I rx N h;obtain⟨l,xs,rfl,rfl,O,q⟩:=h;cases rx;have D:=N.zero;subst D;obtain⟨z,its,n,r,Y,e⟩:=I.lstM O;refine acb F.slot_list_reverse ⟨_,e,rfl⟩ F.entry_list_reverse (F.args_list_reverse_1 _) (AutoSeq1.list_reverse_list_0 l its.toArray n (by rw[List.size_toArray];omega)) ⟨e,?_⟩;refine⟨.non,_,I.lset (its':=its.reverse) O e (by simp) r.reverse ?_,rfl,q⟩;rw[List.length_reverse];omega
def Kg:V->List V->Hp->VK->Prop:=λx vs H Q=>∃l xs,x= .ref l/\vs=[]/\H l=some (.lst xs)/\Q .non (upd H l (.lst []))
theorem Lk:MtM X "list.clear" Kg:=by
 intro pins s σ H x vs v us Q I rx N h;obtain⟨l,xs,rfl,rfl,O,q⟩:=h;cases rx;have D:=N.zero;subst D;obtain⟨z,its,n,r,Y,e⟩:=I.lstM O;refine acb F.slot_list_clear ⟨_,e,rfl⟩ F.entry_list_clear (F.args_list_clear_1 _) (AutoSeq1.list_clear_list_0 l its.toArray n (by rw[List.size_toArray];omega)) ⟨e,?_⟩;exact⟨.non,_,I.lset (its':=[]) (ys:=[]) O e rfl .nil (aaN _),rfl,q⟩
def XX:R2:=λx y H Q=>∃l b xs zs,x= .ref l/\y= .ref b/\H l=some (.lst xs)/\H b=some (.lst zs)/\xs.length+zs.length<=YM/\∀p,H p=none->Q (.ref p) (upd H p (.lst (xs++zs)))
theorem Vm:OpR X (aay .Add) XX:=by
 intro pins s σ H x y v u Q I rx N h;obtain⟨l,b,xs,zs,rfl,rfl,O,F,J,q⟩:=h;cases rx;cases N;obtain⟨z,its,n,r,Y,e⟩:=I.lstM O;obtain⟨z2,D,V,B,Z,e2⟩:=I.lstM F;refine PySem.P.add_list e e2 ?_ (by rw[List.size_toArray,List.size_toArray];omega);have U:its.toArray++D.toArray=(its++D).toArray:=by simp
 rw[U];exact⟨.ref _,_,I.lnew (t':=s.toks) (r.append B) (by rw[aa3];omega),rfl,q _ I.fresh⟩
section
variable{κ:Type}[DecidableEq κ]
def mj(kvs:List (κ×V))(k:κ):Option V:=(kvs.find? λF=>decide (F.1=k)).map (·.2)
def putK(kvs:List (κ×V))(k:κ)(v:V):List (κ×V):=
 if(kvs.any λF=>decide (F.1=k))=true then kvs.map (λF=>if F.1=k then(F.1,v)else F)else kvs++[(k,v)]
def sH(kvs:List (κ×V))(k:κ):List (κ×V):=kvs.filter λF=>decide (F.1≠k)
theorem v_{p:κ×V}{r:List (κ×V)}{k:κ}(e:p.1=k):mj (p::r) k=some p.2:=by simp[mj,aa9,e]
theorem wu{p:κ×V}{r:List (κ×V)}{k:κ}(e:¬p.1=k):mj (p::r) k=mj r k:=by simp[mj,aa9,e]
theorem vY(k:κ):∀kvs:List (κ×V),(kvs.any λF=>decide (F.1=k))=(mj kvs k).isSome
 |[]=>rfl
 |p::r=>by
  rw[acV];by_cases e:p.1=k
  .simp![v_ e,aao e,Bool.true_or,Option.isSome_some]
  .rw[wu e,Zn e,Bool.false_or];exact vY k r
theorem jc(kvs:List (κ×V))(k:κ)(v:V):(putK kvs k v).length<=kvs.length+1:=by
 unfold putK;split
 .rw[Zc];omega
 .rw[aa3,Zh,ZP];omega
theorem oF{kvs:List (κ×V)}{k:κ}(v:V)(h:mj kvs k=none):putK kvs k v=kvs++[(k,v)]:=by
 unfold putK;rw[vY,h];exact Zi (by decide)
theorem qd.isSome_eq{o:Option V}{u:Option Value}(r:qd o u):o.isSome=u.isSome:=by
 cases o with
 |none=>cases u with
  |none=>rfl
  |some _=>exact(show False from r).elim
 |some _=>cases u with
  |none=>exact(show False from r).elim
  |some _=>rfl
theorem KV.val{kvs:List (κ×V)}{vs:List (κ×Value)}(r:KV kvs vs)(k:κ):qd (mj kvs k) (adV vs k):=by
 unfold KV at r
 induction r with
 |nil=>exact aac
 |@cons p q ps J h t O=>
  obtain⟨h1,h2⟩:=h;by_cases e:p.1=k
  .have e':q.1=k:=h1.symm.trans e
   have b:adV (q::J) k=some q.2:=by simp[adV,aa9,e']
   rw[v_ e,b];exact h2
  .have e':¬q.1=k:=λz=>e (h1.trans z)
   have b:adV (q::J) k=adV J k:=by simp[adV,aa9,e']
   rw[wu e,b];exact O
theorem KV.any{kvs:List (κ×V)}{vs:List (κ×Value)}(r:KV kvs vs)(k:κ):(kvs.any λF=>decide (F.1=k))=vs.any λF=>decide (F.1=k):=by
 unfold KV at r
 induction r with
 |nil=>rfl
 |cons h t O=>rw[acV,acV,O,h.1]
theorem KV.repl{kvs:List (κ×V)}{vs:List (κ×Value)}(r:KV kvs vs)(k:κ){y:V}{u:Value}(N:RelV y u) :
  KV (kvs.map λF=>if F.1=k then(F.1,y)else F) (vs.map λF=>if F.1=k then(F.1,u)else F):=by
 unfold KV at r⊢
 induction r with
 |nil=>exact .nil
 |@cons p q ps J h t O=>
  rw[YL,YL];refine .cons ?_ O;obtain⟨h1,h2⟩:=h;by_cases e:p.1=k
  .rw[YZ e,YZ (h1.symm.trans e)];exact⟨h1,N⟩
  .rw[Zi e,Zi (λz=>e (h1.trans z))];exact⟨h1,h2⟩
theorem KV.put{kvs:List (κ×V)}{vs:List (κ×Value)}(r:KV kvs vs)(k:κ){y:V}{u:Value}(N:RelV y u):KV (putK kvs k y) (stored vs k u):=by
 unfold putK stored;rw[r.any k];by_cases e:(vs.any λF=>decide (F.1=k))=true
 .rw[YZ e,YZ e];exact r.repl k N
 .rw[Zi e,Zi e];exact Paired.snoc r ⟨rfl,N⟩
theorem KV.drop{kvs:List (κ×V)}{vs:List (κ×Value)}(r:KV kvs vs)(k:κ):KV (sH kvs k) (without vs k):=by
 unfold KV at r⊢;unfold sH without
 induction r with
 |nil=>exact .nil
 |@cons p q ps J h t O=>
  obtain⟨h1,h2⟩:=h;rw[aaL,aaL];by_cases e:p.1=k
  .have a:¬decide (p.1≠k)=true:=by simp[e]
   have b:¬decide (q.1≠k)=true:=by simp[h1.symm.trans e]
   rw[Zi a,Zi b];exact O
  .have e':¬q.1=k:=λz=>e (h1.trans z)
   have a:decide (p.1≠k)=true:=by simp[e]
   have b:decide (q.1≠k)=true:=by simp[e']
   rw[YZ a,YZ b];exact .cons ⟨h1,h2⟩ O
theorem KV.length{kvs:List (κ×V)}{vs:List (κ×Value)}(r:KV kvs vs):kvs.length=vs.length:=adz r
theorem Nf(kvs:List (κ×V))(k:κ):(sH kvs k).length<=kvs.length:=List.length_filter_le _ _
end
theorem mU{k:Key}(r:RelV (kV k) u):(bf P w).is k u=true:=by
 cases k with
 |inl i=>obtain⟨t,e⟩:=(show ∃t,u=abG i t from r);subst e;exact Bp P w i t
 |inr x=>obtain⟨t,e⟩:=(show ∃t,u=ab8 x t from r);subst e;exact Dg P w x t
theorem yI:∀{ks:List Key}{us:List Value},Vals (ks.map kV) us->ItemsAre (bf P w) ks us
 |[],_,r=>by rw[aaa]at r;cases r;exact .nil
 |k::ks,_,r=>by
  rw[YL]at r;cases r with
  |cons h t=>exact .cons (mU h) (yI t)
noncomputable abbrev KT(H:Hp):List (List Key×V)->List (List Key×Addr×Value)->Prop:=adX λp q=>p.1=q.1/\H q.2.1=some (.tup (p.1.map kV))/\RelV p.2 q.2.2
variable{xs:List (List Key×Addr×Value)}{kvs:List (List Key×V)}
theorem KT.val(r:KT H kvs xs)(k:List Key):qd (mj kvs k) ((atKey xs k).map (·.2)):=by
 induction r with
 |nil=>exact aac
 |@cons p q ps J h t O=>
  obtain⟨h1,_,h2⟩:=h;by_cases e:p.1=k
  .have e':q.1=k:=h1.symm.trans e
   have b:atKey (q::J) k=some q.2:=by simp[atKey,aa9,e']
   rw[v_ e,b];exact h2
  .have e':¬q.1=k:=λz=>e (h1.trans z)
   have b:atKey (q::J) k=atKey J k:=by simp[atKey,aa9,e']
   rw[wu e,b];exact O
variable{y:V}
theorem KT.repl(r:KT H kvs xs)(k:List Key)(N:RelV y u) :
  KT H (kvs.map λF=>if F.1=k then(F.1,y)else F) (xs.map (putAt k u)):=by
 induction r with
 |nil=>exact .nil
 |@cons p q ps J h t O=>
  rw[YL,YL];refine .cons ?_ O;obtain⟨h1,h2,B⟩:=h;unfold putAt;by_cases e:p.1=k
  .rw[YZ e,YZ (h1.symm.trans e)];exact⟨h1,h2,N⟩
  .rw[Zi e,Zi (λz=>e (h1.trans z))];exact⟨h1,h2,B⟩
theorem KT.put(r:KT H kvs xs)(k:List Key){b:Addr}(U:H b=some (.tup (k.map kV)))(N:RelV y u) :
  KT H (putK kvs k y) (storedH xs k b u):=by
 have e:(kvs.any λF=>decide (F.1=k))=(atKey xs k).isSome:=by
  rw[vY,(r.val k).isSome_eq,adM]
 unfold putK storedH;rw[e];by_cases q:(atKey xs k).isSome=true
 .rw[YZ q,YZ q];exact r.repl k N
 .rw[Zi q,Zi q];exact Paired.snoc r ⟨rfl,U,N⟩
variable{H':Hp}
theorem KT.keeps(r:KT H kvs xs)(U:∀b ys,H b=some (.tup ys)->H' b=some (.tup ys)):KT H' kvs xs:=
 Paired.mapP r λ_ _ z=>⟨z.1,U _ _ z.2.1,z.2.2⟩
variable{P:Program}
theorem R4{u:HO}(ok:HOk P w H h)(e:Rd H a u):cJ P w H h a u:=e.ok ok
theorem uv{kvs:List (Key×V)}(ok:HOk P w H h)(e:Rd H a (.dK kvs)):kvs.length<=YM/\(a==abD)=false/\∃vs,KV kvs vs/\h.DictOf (bf P w) a vs:=
 show cJ P w H h a (.dK kvs)from R4 ok e
theorem ye{kvs:List (Key×V)}(ok:HOk P w H h)(e:H a=some (.dK kvs)):kvs.length<=YM/\(a==abD)=false/\∃vs,KV kvs vs/\h.DictOf (bf P w) a vs:=uv ok (.inl e)
theorem vZ{ks:List Key}(ok:HOk P w H h)(e:H a=some (.tup (ks.map kV))):(aeg (bf P w)).is h ks a:=by
 obtain⟨_,its,r,o,h1,h2,n,B⟩:=(show cJ P w H h a (.tup (ks.map kV))from ok a _ e);exact⟨o,its.toArray,n,h1,h2,B.1,by simpa using yI r⟩
theorem Bf(ok:HOk P w H h)(e:Rd H a (.dT kvs)):kvs.length<=YM/\(a==abD)=false/\
  ∃xs,KT H kvs xs/\h.DictOfH (aeg (bf P w)) a xs:=by
 obtain⟨z,y,xs,r,o,es,ep,h1,h2,B,Z,U⟩:=(show cJ P w H h a (.dT kvs)from R4 ok e);refine⟨z,y,xs,r,o,es,ep,h1,h2,B,Z,λx F=>?_,U⟩;have all:∀{l:List (List Key×V)}{m:List (List Key×Addr×Value)},KT H l m->∀x∈m,(aeg (bf P w)).is h x.1 x.2.1:=by
  intro l m q
  induction q with
  |nil=>intro x F;exact nomatch F
  |@cons p q ps J D t O=>
   intro x F;rcases YJ.mp F with e|F
   .subst e
    exact vZ ok (by rw[←D.1];exact D.2.1)
   .exact O x F
 exact all r x F
theorem Wq(ok:HOk P w H h)(e:H a=some (.dT kvs)):kvs.length<=YM/\(a==abD)=false/\
 ∃xs,KT H kvs xs/\h.DictOfH (aeg (bf P w)) a xs:=Bf ok (.inl e)
def qL(H:Hp)(a:Addr)(y:V)(r:Option V):Prop:=
 (∃kvs k,Rd H a (.dK kvs)/\y=kV k/\r=mj kvs k)∨∃kvs k b,Rd H a (.dT kvs)/\y= .ref b/\H b=some (.tup (k.map kV))/\r=mj kvs k
def HN(H:Hp)(a:Addr)(y v:V)(H':Hp):Prop:=
 (∃kvs k,H a=some (.dK kvs)/\y=kV k/\kvs.length<YM/\H'=upd H a (.dK (putK kvs k v)))∨
 ∃kvs k b,H a=some (.dT kvs)/\y= .ref b/\H b=some (.tup (k.map kV))/\kvs.length<YM/\H'=upd H a (.dT (putK kvs k v))
variable{kvs:List (Key×V)}
theorem qL.k{k:Key}(e:H a=some (.dK kvs)):qL H a (kV k) (mj kvs k):=.inl ⟨kvs,k,.inl e,rfl,rfl⟩
variable{v:V}
theorem HN.k{k:Key}(e:H a=some (.dK kvs))(Y:kvs.length<YM):HN H a (kV k) v (upd H a (.dK (putK kvs k v))):=.inl ⟨kvs,k,e,rfl,Y,rfl⟩
theorem Inv.big(I:Inv X pins σ H s):abD<s.heap.objs.size:=by
 have h:Zd<s.heap.objs.size:=(I.mod.glob.keeps I.bk).lt;exact Nat.lt_trans (by decide) h
theorem ym(J:A.units+1<cLine)(I:Inv X pins σ H s)(g:qL H a y (some v))(V:RelV y u)(h:∀D s',Inv X pins σ H s'->RelV v D->Q D s') :
  wpAny 1.12 A (adl (.ref a) u) Q E s:=by
 rcases g with⟨kvs,k,e,Y,l⟩|⟨kvs,k,b,e,Y,F,l⟩
 .subst Y
  obtain⟨z,hd,vs,rel,O⟩:=uv I.hok e;obtain⟨D,B,U⟩:=qd.some_of (v:=v) (o:=adV vs k) (by rw[l];exact rel.val k);exact wpAny_getItem_of (mU V) O.mapOf B (h D _ (I.tok _) U)
 .subst Y
  cases (show u=Zk b from V);obtain⟨z,hd,xs,rel,O⟩:=Bf I.hok e;obtain⟨D,B,U⟩:=qd.some_of (v:=v) (o:=(atKey xs k).map (·.2)) (by rw[l];exact rel.val k);obtain⟨p,N,q⟩:=aet.mp B;refine wpAny_getItem_heap (acs J) (vZ I.hok F) O N ?_;rw[q];exact h D _ (I.tok _) U
variable{o:Option V}
theorem Yd(J:A.units+1<cLine)(I:Inv X pins σ H s)(g:qL H a y o)(N:RelV y u)(h:∀s',Inv X pins σ H s'->Q (.bool o.isSome) s') :
  wpAny 1.12 A (ZL .In u (.ref a)) Q E s:=by
 rcases g with⟨kvs,k,e,Y,l⟩|⟨kvs,k,b,e,Y,F,l⟩
 .subst Y
  obtain⟨z,hd,vs,rel,O⟩:=uv I.hok e;refine wpAny_in_of (mU N) hd O.mapOf ?_;rw[←(rel.val k).isSome_eq,←l];exact h _ (I.tok _)
 .subst Y
  cases (show u=Zk b from N);obtain⟨z,hd,xs,rel,O⟩:=Bf I.hok e;refine wpAny_in_heap (acs J) (vZ I.hok F) hd O ?_;have q:=(rel.val k).isSome_eq;rw[adM]at q;rw[←q,←l];exact h _ (I.tok _)
theorem Q4(J:A.units+1<cLine)(I:Inv X pins σ H s)(g:qL H a y o)(N:RelV y u)(h:∀s',Inv X pins σ H s'->Q (.bool (!o.isSome)) s') :
  wpAny 1.12 A (ZL .NotIn u (.ref a)) Q E s:=by
 rcases g with⟨kvs,k,e,Y,l⟩|⟨kvs,k,b,e,Y,F,l⟩
 .subst Y
  obtain⟨z,hd,vs,rel,O⟩:=uv I.hok e;refine wpAny_notIn_of (mU N) hd O.mapOf ?_;rw[←(rel.val k).isSome_eq,←l];exact h _ (I.tok _)
 .subst Y
  cases (show u=Zk b from N);obtain⟨z,hd,xs,rel,O⟩:=Bf I.hok e;refine wpAny_notIn_heap (acs J) (vZ I.hok F) hd O ?_;have q:=(rel.val k).isSome_eq;rw[adM]at q;rw[←q,←l];exact h _ (I.tok _)
theorem qb{ob:HO}(I:Inv X pins σ H s)(mu:Mut (H a))(B:ab2 a s.heap h')(V:∃q,h'.get? a=some q)(new:cJ X.prog X.w (upd H a ob) h' a ob) :
  Inv X pins σ (upd H a ob) {s with heap:=h',toks:=t'}:=
 I.write (x:=a) (e:=a) mu (.inl rfl) (λb q U z=>(B.2 b U).trans z) V new
variable{P:Zr}
theorem vW{vs:List (Key×Value)}(z:kvs.length<=YM)(hd:(a==abD)=false)(rel:KV kvs vs)(O:h'.DictOf (bf P w) a vs) :
 cJ P w H' h' a (.dK kvs):=⟨z,hd,vs,rel,O⟩
variable{r:Value}
theorem yg{Q:Unit->zb->Prop}(J:A.units+1<cLine)(I:Inv X pins σ H s)(g:HN H a y v H')(N:RelV y u)(rv:RelV v r)(h:∀s',Inv X pins σ H' s'->Q () s') :
  wpAny 1.12 A (aeB (.ref a) u r) Q E s:=by
 rcases g with⟨kvs,k,e,ey,l,eH⟩|⟨kvs,k,b,e,ey,F,l,eH⟩
 .subst ey eH
  obtain⟨z,hd,vs,rel,O⟩:=ye I.hok e;have hz:vs.length<=YM:=by rw[←rel.length];exact z
  have Y:(putK kvs k v).length<=YM:=by have:=jc kvs k v;omega
  refine wpAny_setItem_pairs (hsz:=hz) (mU N) O λh' a0 B=>h _ ?_;have V:∃q,h'.get? a=some q:=let⟨q,_,_,D,_⟩:=a0;⟨q,D⟩;exact qb I (by rw[e];exact aac) B V (vW Y hd (rel.put k rv) a0)
 .subst ey eH
  cases (show u=Zk b from N);obtain⟨z,hd,xs,rel,O⟩:=Wq I.hok e;have hz:xs.length<=YM:=by rw[←adz rel];exact z
  have Y:(putK kvs k v).length<=YM:=by have:=jc kvs k v;omega
  refine wpAny_setItem_heap (hsz:=hz) (acs J) (vZ I.hok F) O λh' a0 B=>h _ ?_;obtain⟨q,es,ep,D,h2,h3,Z,_,U⟩:=a0;refine qb I (by rw[e];exact aac) B ⟨q,D⟩ ⟨Y,hd,_,(rel.put k F rv).keeps λc ys ec=>?_,q,es,ep,D,h2,h3,Z,U⟩;rw[aM (GX ec e (λz=>nomatch z))];exact ec
section
variable{X:Cx}{pins:List (Addr×Obj)}{σ:St}{H:Hp}{s:Shared}{a:Addr}{kvs:List (Key×V)}{k:Key}{u:Value}{A:Around}{E:Value->Shared->Prop}
theorem Ju{Q:Unit->zb->Prop}(I:Inv X pins σ H s)(e:H a=some (.dK kvs))(N:RelV (kV k) u)(l:(mj kvs k).isSome=true)(h:∀s',Inv X pins σ (upd H a (.dK (sH kvs k))) s'->Q () s') :
  wpAny 1.12 A (delItem (.ref a) u) Q E s:=by
 obtain⟨z,hd,vs,rel,O⟩:=ye I.hok e;refine wpAny_delItem_slot O.typeIs (by decide) adP
  (aft adP O.typeIs PySem.F.entry_dict_delitem (PySem.F.args_dict_delitem_2 _ _) (meets_dict_delitem_pairs (bf X.prog X.w) a (mU N)) ⟨vs,O,by rw[←rel.length];exact z,by rw[←(rel.val k).isSome_eq];exact l,λh' D B=>h _ ?_⟩)
 have V:∃q,h'.get? a=some q:=let⟨q,_,_,hq,_⟩:=D;⟨q,hq⟩;exact qb I (by rw[e];exact aac) B V (vW (aau (Nf kvs k) z) hd (rel.drop k) D)
theorem Xh{Q:Value->zb->Prop}(I:Inv X pins σ H s)(e:Rd H a (.dK kvs))(h:∀t s',Inv X pins σ H s'->Q (.int kvs.length t) s'):wpAny 1.12 A (call (.builtin "len") [.ref a]) Q E s:=by
 obtain⟨z,hd,vs,rel,O⟩:=uv I.hok e;refine call_len_dict hd O (by rw[←rel.length];rw[acg]at z;omega) ?_;rw[←rel.length];exact h _ _ (I.tok _)
end
theorem C_{s:zb}(I:Inv X pins σ H s)(g:qL H a y o):s.TypeIs (.ref a) "dict":=by
 rcases g with⟨kvs,k,e,_,_⟩|⟨kvs,k,b,e,_,_,_⟩
 .obtain⟨_,_,vs,_,dd⟩:=uv I.hok e
  exact dd.typeIs
 .obtain⟨_,_,xs,_,dd⟩:=Bf I.hok e
  exact dd.typeIs
def SQ(td ty tv:TE)(rd:V->V->Hp->VK->Prop):TS:=λD σ H=>td σ H λx H1=>ty σ H1 λy H2=>∃a v,x= .ref a/\qL H2 a y (some v)/\
 tv σ H2 λI Y=>rd v I Y λz q=>∃B,HN q a y z B/\D.nx σ B
def S8(td ty:TE):TS:=λD σ H=>td σ H λx H1=>ty σ H1 λy H2=>∃a kvs k,x= .ref a/\H2 a=some (.dK kvs)/\y=kV k/\(mj kvs k).isSome=true/\D.nx σ (upd H2 a (.dK (sH kvs k)))
variable{i o:Expr}{td ty tv:TE}
theorem Pq{op:ad0}{rd:V->V->Hp->VK->Prop}(hu:X.A.units+1<cLine)(J:PE X o td)(hi:PE X i ty)(B:PE X value tv)(a1:O2 X op rd)
  (Y:∀ov iv new,augStore i ov iv new=(do aaP [new,ov,iv] (aeB ov iv new);release [new,ov,iv] [];pure .next)):PS X (.AugAssign (.Subscript o i tpos) op value pos) (SQ td ty tv rd):=by
 intro pins s σ H D I h;refine wpAny_AugAssign_SubscriptAny (thn (J pins s σ H _ I h) λu O ⟨x,H1,F,rx,q1⟩=>thn (hi pins O σ H1 _ F q1) λiv Z ⟨y,H2,I2,N,a,v,ex,g,q2⟩=>?_) Y;subst ex;obtain rfl:u=Zk a:=rx;refine ym hu I2 g N λw' s3 I3 U=>thn (B pins s3 σ H2 _ I3 q2) λw2 s4 ⟨y2,H3,I4,a0,q⟩=>thn (a1 pins s4 σ H3 v y2 w' w2 _ I4 U a0 q) λw3 s5 ⟨z,H4,I5,rz,H5,g5,q4⟩=>?_;exact yg hu I5 g5 N rz λs6 I6=>⟨σ,H5,I6,q4⟩
theorem RC(J:PE X o td)(hi:PE X i ty):PS X (.Delete [.Subscript o i tpos] pos) (S8 td ty):=by
 intro pins s σ H D I h;refine wpAny_Delete (wpAny_deleteEach_cons (wpAny_delete_Subscript (thn (J pins s σ H _ I h) λu O ⟨x,H1,F,rx,q1⟩=>thn (hi pins O σ H1 _ F q1) λU Z ⟨y,H2,q,N,a,kvs,k,ex,e,Y,l,q2⟩=>?_)));subst ex Y;obtain rfl:u=Zk a:=rx;exact Ju q e N l λB V=>wpAny_deleteEach_nil ⟨σ,_,V,q2⟩
theorem xq(h:Heap)(U:abD<h.objs.size):cJ P w H (h.push {cls:=.type "dict",data:=.dict #[]}) h.objs.size (.dK []):=
 ⟨aaN _,aaF.mpr (Zt (Zb U)),[],.nil,aek h⟩
def U4:TE:=λ_ H Q=>∀p,H p=none->Q (.ref p) (upd H p (.dK []))
theorem Oo:PE X (.Dict [] [] pos) U4:=λpins s σ H Q I h=>
 wpAny_Dict_empty ⟨.ref s.heap.objs.size,_,I.laid (a:=s.heap.objs.size) (o:=.dK []) (t':=s.toks) (λ_ _ q=>za _ q) (YK _) (xq s.heap I.big),rfl,h _ (I.hok.fresh (YK _))⟩
def zq:List (TE×TE)->St->Hp->(List (V×V)->Hp->Prop)->Prop
 |[],_,H,Q=>Q [] H
 |(tk,tv)::r,σ,H,Q=>tk σ H λx H1=>tv σ H1 λy H2=>zq r σ H2 λps Y=>Q ((x,y)::ps) Y
noncomputable abbrev VV:List (V×V)->List (Value×Value)->Prop:=adX λp q=>RelV p.1 q.1/\RelV p.2 q.2
def PPs(X:Cx)(pos:Pos)(q:List (Option Expr))(N:List Expr)(D:List (TE×TE)):Prop:=
 ∀(pins:List (Addr×Obj))(s:zb)(σ:St)(H:Hp)(Q:List (V×V)->Hp->Prop),Inv X pins σ H s->zq D σ H Q->
  wpAny 1.12 X.A (evalPairs (pairTrees q N X.env pos)) (λvs s'=>∃ps H',Inv X pins σ H' s'/\VV ps vs/\Q ps H') X.xe s
theorem Q_:PPs X pos [] [] []:=λpins s σ H Q I h=>pairTrees_nil_walk ⟨[],H,I,.nil,h⟩
theorem Oe{k v:Expr}{ks:List (Option Expr)}{vs:List Expr}{tk:TE}{D:List (TE×TE)}(hk:PE X k tk)(B:PE X v tv)(O:PPs X pos ks vs D) :
  PPs X pos (some k::ks) (v::vs) ((tk,tv)::D):=λpins s σ H Q I h=>
 pairTrees_cons_walk (thn (hk pins s σ H _ I h) λu U ⟨x,H1,F,rx,q1⟩=>thn (B pins U σ H1 _ F q1) λw2 Z ⟨y,H2,J,N,q2⟩=>
  thn (O pins Z σ H2 _ J q2) λws s3 ⟨ps,Y,V,rel,q⟩=>⟨(x,y)::ps,Y,V,.cons ⟨rx,N⟩ rel,q⟩)
def oM(kvs more:List (Key×V)):List (Key×V):=more.foldl (λacc F=>putK acc F.1 F.2) kvs
theorem KV.merge:∀{more:List (Key×V)}{I:List (Key×Value)}{kvs:List (Key×V)}{vs:List (Key×Value)},KV more I->KV kvs vs->KV (oM kvs more) (merged vs I):=by
 intro more I kvs vs r;unfold KV at r
 induction r generalizing kvs vs with
 |nil=>intro q;exact q
 |@cons p q ps J h t O=>
  intro B;have e:KV (putK kvs p.1 p.2) (stored vs q.1 q.2):=by
   have:=B.put p.1 h.2;rw[←h.1];exact this
  exact O e
theorem qx:∀(more kvs:List (Key×V)),(oM kvs more).length<=kvs.length+more.length
 |[],kvs=>by show kvs.length<=kvs.length+0;omega
 |p::r,kvs=>by
  have h1:=qx r (putK kvs p.1 p.2);have h2:=jc kvs p.1 p.2;show(oM (putK kvs p.1 p.2) r).length<=_;rw[Zh];omega
theorem vA{P:Zr}{w:World}:∀{kvs:List (Key×V)}{ws:List (Value×Value)},VV (kvs.map λF=>(kV F.1,F.2)) ws->∃I,Carries (bf P w) ws I/\KV kvs I
 |[],_,r=>by rw[aaa]at r;cases r;exact⟨[],aac,.nil⟩
 |p::kvs,_,r=>by
  rw[YL]at r;cases r with
  |@cons a b J bs h t=>
   obtain⟨I,c,q⟩:=vA (P:=P) (w:=w) t;obtain⟨D,Y⟩:=b;exact⟨(p.1,Y)::I,⟨mU h.1,rfl,c⟩,.cons ⟨rfl,h.2⟩ q⟩
def R0(D:List (TE×TE)):TE:=λσ H Q=>∀p,H p=none->zq D σ (upd H p (.dK [])) λps H2=>H2 p=some (.dK [])/\∃kvs:List (Key×V),ps=kvs.map (λF=>(kV F.1,F.2))/\kvs.length<=15/\Q (.ref p) (upd H2 p (.dK (oM [] kvs)))
theorem PJ{a0:List (Option Expr)}{N:List Expr}{a1:List (TE×TE)}(h:PPs X pos a0 N a1)(U:a0.all (·.isSome)=true)(Y:a0.length=N.length)(h0:a0≠[])
  (a2:a0.length<=15):PE X (.Dict a0 N pos) (R0 a1):=by
 intro pins s σ H Q I q;have hn:=I.hok.fresh (YK s.heap.objs.size);have F:=I.laid (a:=s.heap.objs.size) (o:=.dK []) (h':=s.heap.push {cls:=.type "dict",data:=.dict #[]}) (t':=s.toks) (λ_ _ q=>za _ q) (YK _) (xq s.heap I.big);refine wpAny_Dict_walk (knd:=bf X.prog X.w) U Y h0 a2 (thn (h pins _ σ _ _ F (q _ hn)) λws Z ⟨ps,H2,I2,rel,e,kvs,ep,lk,q2⟩=>?_);subst ep;obtain⟨rs,c,rk⟩:=vA (P:=X.prog) (w:=X.w) rel;obtain⟨z,hd,a3,r0,O⟩:=ye I2.hok e;cases r0;refine⟨rs,c,O,λh' D B=>⟨.ref s.heap.objs.size,_,?_,rfl,q2⟩⟩;have J:(oM [] kvs).length<=YM:=by
  have h1:=qx kvs [];rw[ZP]at h1;rw[acg];omega
 have V:∃q,h'.get? s.heap.objs.size=some q:=let⟨q,_,_,hq,_⟩:=D;⟨q,hq⟩;exact qb I2 (by rw[e];exact aac) B V (vW J hd (rk.merge .nil) D)
end L2
namespace Att
open PySem PySem.W PySem.Calls PyProof.Rows
variable{P:Params}
theorem uN:∀(ns:List Int)(vs:List Value),WellAll P h vs (ns.map WData.int)->afB vs ns:=by
 intro ns
 induction ns with
 |nil=>
  intro vs w;rw[aaa]at w;cases w;exact .nil
 |cons n ns O=>
  intro vs w;rw[YL]at w;cases w with
  |cons a b=>
   cases a;exact .cons _ _ (O _ b)
variable{l:OpenLaw}
theorem H_(hn:l.most=some n){args:List WData}{V:List Value}
  (F:l.row.toRowW.claim.pre args=true) (I:WellAll P h V args) :
  ∃a vs ns,V=[Zk a]/\args=[WData.list (ns.map WData.int)]/\h.get? a=some {cls:=.type "list",data:=.seq vs.toArray}/\afB vs ns/\ns.length<=n:=by
 have a1:WShape.hasAll [] args [.list .int]=true:=(pre_splitW F).1;have Z:l.pre.holds [] {args:=args}=true:=(pre_splitW F).2;obtain⟨d,r,rfl,h1,h2⟩:=hasAllW_cons a1;obtain rfl:=hasAllW_nil h2;obtain⟨xs,rfl,B⟩:=hasW_list h1;obtain⟨ns,rfl⟩:=items_int B;have O:ns.length<=n:=by
  unfold OpenLaw.pre at Z;have h4:(WTm.not (.lt (.lit (.int (n:Int))) (.len (.arg 0)))).holds [] {args:=[.list (ns.map .int)]}=true:=by
   have h4:=(holds_andW Z).1;rw[hn]at h4;exact h4
  have U:=condW_of h4 (w_not (w_lt w_lit (w_len_list (w_arg rfl))));rw[Zc]at U;refine Nat.le_of_not_lt λq=>?_;have N:(n:Int)<((ns.length:Nat):Int):=by omega
  first
   |(rw[aao N]at U;exact absurd U (by decide))
   |(simp at U;omega)
 cases I with
 |cons D Y=>
  cases Y;cases D with
  |list J a0=>exact⟨_,_,ns,rfl,rfl,J,uN ns _ a0,O⟩
theorem JD(l:OpenLaw)(args:List WData):l.row.toRowW.claim.post args (.bool true) args=true:=
 postW_of (r:=l.row.toRowW) (X:=(true==true))
  (show WShape.has [] (.bool true) .bool=true by first|rfl|decide|simp[WShape.has,WShape.arms,WShape.armsAll])
  (show(WTm.eq .res (.lit (.bool true))).value [] {args:=args,res:=some (.bool true),after:=args}=some (.bool (true==true))from w_eq_bool (w_res rfl) w_lit) rfl
theorem attach_call{q:Zr}{a0:List Str}{d:DefRec}
  (hn:l.most=some n) (a4:d.params.defaults=[])
  (call:∀(w:World)(s₀ Z:zb)(mg mb:Str->Option Value)(fa:Addr)(o:Obj)(pm cd V:Value)(a:Addr)(vs:List Value)(ns:List Int),
   Ground q a0 [] XP w s₀ mg mb Z.heap->YP w Z.heap->
   Z.heap.get? fa=some o->o.data= .func (docDef d.name d.params d.body d.scope pm cd V)->Z.heap.CodeRec cd d.name->mg d.name=some (.ref fa)->
   Z.heap.get? a=some {cls:=.type "list",data:=.seq vs.toArray}->afB vs ns->ns.length<=n->Z.gens= #[]->
   abh (model l.prog w) adW (.call (.ref fa) ⟨[.ref a],[]⟩) (λr s'=>r= .ok (.ret (.bool true))/\OldK Z.heap s'.heap/\s'.os=Z.os/\ac4 s'.gens) Z) :
  WalkO q a0 XP YP l.row.toRowW d [] (λf vs=>af7 f vs):=by
 intro w s₀ Z mg mb G Y fa o pm cd V dV kV J hd I U a5 hg args a6 as F a7 a8 a3 a9;obtain rfl:dV= .none:=Dflts.none U a4;obtain rfl:kV= .none:=Dflts.noKw U;obtain⟨a,vs,ns,rfl,rfl,a2,a1,O⟩:=H_ hn F a3;refine enter_call (abm (call w s₀ Z mg mb fa o pm cd V a vs ns G Y J (fd_plain hd) I a5 a2 a1 O hg) λr s' D=>?_);obtain⟨rfl,h2,B,h4⟩:=D;exact⟨.inl ⟨.bool true,.bool true,[],rfl,λ_=>rfl,.bool true,JD l _,λ_=>⟨List.Pairwise.nil,λ_ N=>(nomatch N)⟩⟩,h2,B,h4⟩
end Att
namespace L2
open PySem PySem.Spec PyProof.Rows
theorem yL:∀{vs:List Value}{ns:List Int},afB vs ns->Vals (ns.map V.int) vs
 |_,_,.nil=>.nil
 |_,_,.cons n t h=>.cons ⟨t,rfl⟩ (yL h)
def Only(H:Hp):Prop:=∀b,H b=none∨∃o xs,H b=some (.frz o (.lst xs))
theorem M7{K:YH}{mb:Str->Option Value}{CX:CXT}{k:Nat}{fa:Addr}{sp:Sp}{Z:zb}{vs:List Value}{ns:List Int}
  (KX:K.In Z.heap) (B:Z.heap.Ns Zd mg) (U:Z.heap.Ns builtinsNs mb) (a9:∀x:Str,x≠"__name__"->mb x=aaW x) (a4:Z.heap.NoLimit) (hg:Z.gens= #[])
  (Y:Z.heap.get? a=some {cls:=.type "list",data:=.seq vs.toArray}) (hi:afB vs ns) (hl:ns.length<=YM) (O:gO k adW)
  (F:∀base:Heap,K.In base->base.Ns Zd mg->dJ P w K mg base CX k fa fd [x] sp) (a3:∀(s:zb)(u:Value),aeC s fd ⟨[u],[]⟩ [(x,u)])
  (b0:∀H:Hp,Only H->SqL K H a (ns.map V.int)->sp [.ref a] H (λv _=>v= .bl true) λ_ _ _=>False)
  (b1:∀H e s',CX [] H Z (λ_ _ _=>False) e s'->False) :
  abh (model P w) adW (.call (.ref fa) ⟨[.ref a],[]⟩) (λr s'=>r= .ok (.ret (.bool true))/\OldK Z.heap s'.heap/\s'.os=Z.os/\ac4 s'.gens) Z:=by
 have N:=yL hi;have a6:=hi.length;have a2:∀H:Hp,Only H->SqL K H a (ns.map V.int)->HOk P w H Z.heap->(∀b,H b≠none->b=a)->(H a≠none->K.lookup a=none)->
   abh (model P w) adW (.call (.ref fa) ⟨[.ref a],[]⟩) (λr s'=>r= .ok (.ret (.bool true))/\OldK Z.heap s'.heap/\s'.os=Z.os/\ac4 s'.gens) Z:=by
  intro H hO hS hok hA hK;have a0:∀{b:Addr}{o:Obj},Z.heap.get? b=some o->H b=none->(A_ Z.heap H).get? b=some o:=λe n=>Ms e n;have a8:∀{b:Addr}{o:Obj}{es:Array DictEntry}{ep:Nat},Z.heap.get? b=some o->o.data= .dict es ep->H b=none:=λ{b o es ep} e d=>by
   cases q:H b with
   |none=>rfl
   |some u=>
    have D:b=a:=hA b (by rw[q];simp);subst D;rw[Y]at e;cases e;have d':Data.seq vs.toArray _=Data.dict es ep:=d;cases d'
  have a1:∀{b:Addr}{m:Str->Option Value},Z.heap.Ns b m->(A_ Z.heap H).Ns b m:=λ{b m}⟨o,es,ep,e,d,r⟩=>⟨o,es,ep,a0 e (a8 e d),d,r⟩;have a7:K.In (A_ Z.heap H):=λb o e=>a0 (KX b o e) (by
   cases q:H b with
   |none=>rfl
   |some u=>
    have D:b=a:=hA b (by rw[q];simp);subst D;rw[hK (by rw[q];simp)]at e;cases e)
  have J:Mod K mg (A_ Z.heap H):=⟨a7,a1 B,⟨mb,a1 U,a9⟩,let⟨mc,h1,h2⟩:=a4;⟨mc,a1 h1,h2⟩⟩;have e0:Ej P w K mg (A_ Z.heap H) adW [] Z H:=⟨rfl,J,λb o e=>Qi e,Nat.le_of_eq (Jm _ _),trivial,λb U=>absurd (show b∈([]:List Addr)from U) (by simp),hok,.of_eq hg⟩;refine abm ((F _ a7 (a1 B)).run adW [] Z H ⟨[.ref a],[]⟩ [.ref a] [.ref a] _ _ O e0 (a3 Z (.ref a)) (.cons rfl .nil) (b0 H hO hS)) λr s' h=>?_;cases r with
  |error e=>exact(b1 H e s' h).elim
  |ok fl=>
   cases fl with
   |next=>exact aa0 h
   |brk=>exact aa0 h
   |cont=>exact aa0 h
   |ret u=>
    obtain⟨v,H',os,bare,un,a5,r',q⟩:=h;have q':v= .bl true:=q;subst q';obtain rfl:u=adO true:=r';refine⟨rfl,OldK.of_keep λb o e=>?_,os,bare⟩;cases q:H b with
    |none=>exact un.keep b o e q (by intro z;exact absurd (show b∈([]:List Addr)from z) (by simp)) (by simp)
    |some u=>
     rcases hO b with z|⟨ob,xs,z⟩
     .rw[q]at z;cases z
     .have z2:=un.frzs b ob _ z
      obtain⟨e1,_⟩:=hok b _ z;obtain⟨e2,_⟩:=a5 b _ z2;rw[e]at e1;cases e1;exact e2
 cases I:K.lookup a with
 |some o=>
  have e:=KX a o I;rw[Y]at e;cases e;refine a2 (λ_=>none) (λ_=>.inl rfl) (.inr ⟨_,vs.toArray,_,I,rfl,rfl,rfl,by rw[List.size_toArray,a6];exact hl,by simpa using N⟩) (λb u z=>by have z':(none:Option HO)=some u:=z;cases z') (λb z=>absurd rfl z) λz=>absurd rfl z
 |none=>
  refine a2 (λb=>if b=a then some (.frz {cls:=.type "list",data:=.seq vs.toArray} (.lst (ns.map V.int)))else none) (λb=>?_) (.inl (.inr ⟨{cls:=.type "list",data:=.seq vs.toArray},YZ rfl⟩)) (λb u z=>?_) (λb z=>?_) λ_=>I
  .by_cases U:b=a
   .exact .inr ⟨_,_,YZ U⟩
   .exact .inl (Zi U)
  .by_cases U:b=a
   .have z':=(YZ U).symm.trans z
    cases z';subst U;exact⟨Y,by rw[Zc];exact hl,vs,_,N,Y⟩
   .have z':=(Zi U).symm.trans z
    cases z'
  .by_cases U:b=a
   .exact U
   .exact absurd (Zi U) z
theorem walk_of{l:ael}{k:Nat}{q:Zr}{d:DefRec}{K:Params->YH}{CX:World->CXT}{sp:World->Sp}
  (hn:l.most=some n) (a4:n<=YM) (a3:d.params.defaults=[]) (O:gO k adW)
  (hY:∀(w:World)(h:Heap),YP w h->(K w.params).In h)
  (F:∀(w:World)(mg:Str->Option Value)(fa:Addr)(h:Heap),(K w.params).In h->h.Ns Zd mg->mg d.name=some (.ref fa)->
   ∃fd:ZC,(∀(s:zb)(u:Value),aeC s fd ⟨[u],[]⟩ [(x,u)])/\
    ∀base:Heap,(K w.params).In base->base.Ns Zd mg->dJ l.prog w (K w.params) mg base (CX w) k fa fd [x] (sp w))
  (a5:∀(w:World)(H:Hp)(a:Addr)(ns:List Int),ns.length<=n->Only H->SqL (K w.params) H a (ns.map V.int)->sp w [.ref a] H (λv _=>v= .bl true) λ_ _ _=>False)
  (a7:∀(w:World)(H:Hp)(s:zb)(e:Value)(s':zb),CX w [] H s (λ_ _ _=>False) e s'->False) :
  agi q N XP YP l.row.toRowW d [] (λf vs=>af7 f vs):=by
 refine Att.attach_call hn a3 λw s₀ Z mg mb fa o pm cd a8 a vs ns G Y J hd I a6 a2 a1 a0 hg=>?_;have KX:=hY w _ Y;obtain⟨fd,U,B⟩:=F w mg fa _ KX G.T.g a6;exact M7 KX G.T.g G.T.b G.T.builtins G.T.nolimit hg a2 a1 (aau a0 a4) O B U (λH hO D=>a5 w H a ns a0 hO D) λH e s'=>a7 w H Z e s'
def inClass(s:Stmt)(j:Nat):Stmt:=match s with
 |.ClassDef _ _ _ V _ _ _ _ _ _ _=>V.getD j (.Pass ⟨0,0,0,0⟩)
 |_=>.Pass ⟨0,0,0,0⟩
def bC(s:Stmt):Arguments:=match s with
 |.FunctionDef _ a _ _ _ _ _ _ _ _=>a
 |_=>{posonlyargs:=[],args:=[],vararg:=none,kwonlyargs:=[],kw_defaults:=[],kwarg:=none,defaults:=[]}
def bx(s:Stmt):List Stmt:=match s with
 |.FunctionDef _ _ b _ _ _ _ _ _ _=>b
 |_=>[]
def aC(s:Stmt):Scope:=match s with
 |.FunctionDef _ _ _ _ _ _ B _ _ _=>B
 |_=>{kind:=.function,names:=[],isGenerator:=false,isCoroutine:=false}
abbrev CX0:CXT:=λ_ _ _ _ _ _=>False
abbrev E0:XK:=λ_ _ _=>False
variable{X:Cx}
theorem GC:wG CX0 X E0:=λ_ _ _ _ _ _ _ h=>h.elim
structure Fun(K:PySem.W.Frag)(x qual:Str)(st:Stmt)(f:Addr)(fd:FuncData):Prop where
 ex:∃(oc:Value)(od:Option Addr)(kV doc pm:Value)(an:Option Addr)(cdv ct:Value)(osl:Array (Option Value)),
  fd=acq x qual (bC st) (bx st) (aC st) .none kV doc pm an cdv ct/\K.lookup f=some ⟨oc,od,.func fd,osl⟩/\aeD K cdv qual=true
 kp:ab3 K (.ref f)=true
section
variable{P:Program}{w:World}{K:PySem.W.Frag}{mg:Str->Option Value}{base:Heap}
theorem Fun.ok{x D:Str}{st:Stmt}{f:Addr}{fd:ZC}{N ps:List Str}{k:Nat}{sp:Sp}(F:Fun K x D st f fd)(S:bF N ps (aC st))(len:∀vs H Q E,sp vs H Q E->vs.length=ps.length)
  (J:∀(Z:Value)(A:ZW)(outer:List Env)(s:zb)(H:Hp)(vs:List V)(Q:VK)(E:XK),gO k (A.deeper (acO D (aC st) s.heap.objs.size f Z))->sp vs H Q E->
   ∃t,PSs (CW CX0 P w K mg base N D (aC st) f Z A outer s H E).nox (bx st) t/\t {nx:=λ_ H'=>Q .non H',rt:=Q} (start N vs) H):dJ P w K mg base CX0 (k+1) f fd ps sp:=by
 obtain⟨oc,od,kV,a0,Y,an,Z,ct,U,rfl,lk,I⟩:=F.ex;refine We lk I S len λA outer s H vs Q E O B=>?_;obtain⟨t,h,q⟩:=J Z A outer s H vs Q E O B;exact⟨t,h.nox,q⟩
theorem Fun.binds{x D:Str}{st:Stmt}{f:Addr}{fd:ZC}{ps:List Str}(F:Fun K x D st f fd)
  (h:∀(kV V Y:Value)(q:Option Addr)(Z ct:Value)(us:List Value),us.length=ps.length->bindArgs (acq x D (bC st) (bx st) (aC st) .none kV V Y q Z ct) ⟨us,[]⟩=pure (ps.zip us)):Binds K fd ps []:=by
 obtain⟨oc,B,kV,V,Y,q,Z,ct,U,rfl,lk,I⟩:=F.ex;exact .all (h kV V Y q Z ct)
theorem cG{x D:Str}{st:Stmt}{f:Addr}{oc:Value}{F q:Option Addr}{U:Array (Option Value)}{kV V Y Z ct:Value}(l:K.lookup f=some ⟨oc,F,.func (acq x D (bC st) (bx st) (aC st) .none kV V Y q Z ct),U⟩)
 (c:aeD K Z D=true) (k:ab3 K (.ref f)=true):Fun K x D st f (acq x D (bC st) (bx st) (aC st) .none kV V Y q Z ct):=⟨⟨oc,F,kV,V,Y,q,Z,ct,U,rfl,l,c⟩,k⟩
end
theorem pv(i:Nat)(V:X.N[i]? =some x:=by rfl)(B:Vis X.env.scope x:=by first|exact aa_ rfl|exact aax (aa_ rfl)|exact aax (aax rfl))(hd:1.18=false:=by decide)
 (I:(x==("__classdict__":Str))=false:=by decide):PE X (.Name x pos) (Jf i):=Ui V B hd I
theorem xr{A B:Prop}(h:B):if false=true then A else B:=by
 rw[Zi ZK];exact h
theorem t6{A B:Prop}(h:A):if true=true then A else B:=by
 rw[YZ rfl];exact h
def Same(H H':Hp):Prop:=∀b o,H b=some o->H' b=some o
theorem Same.refl(H:Hp):Same H H:=λ_ _ h=>h
theorem Same.trans{H H1 H2:Hp}(a:Same H H1)(b:Same H1 H2):Same H H2:=λc o h=>b c o (a c o h)
theorem Same.free{H H':Hp}(e:Same H H')(h:H' l=Option.none):H l=Option.none:=by
 cases q:H l with
 |none=>rfl
 |some o=>
  rw[e l o q]at h;cases h
theorem JF:fK X (.builtin "len") (λxs H Q=>∃a kvs,xs=[V.ref a]/\H a=some (.dK kvs)/\Q (.int kvs.length) H):=by
 show 6;obtain⟨a,kvs,rfl,Y,q⟩:=h;obtain⟨u,rfl,B⟩:=vals1 r;cases B;exact Xh I (.inl Y) λt s' D=>⟨.int kvs.length,H,D,⟨t,rfl⟩,q⟩
end L2
set_option maxHeartbeats 4000000
namespace Jb
open PySem PySem.Spec PyProof.Rows L2
structure Cal(P:Program)(w:World)(K:PySem.W.Frag)(mg:Str->Option Value)(base:Heap)(k:Nat)(x:Str)(ps:List Str)(sp:Sp):Prop where
 ex:∃f fd,dJ P w K mg base CX0 k f fd ps sp/\mg x=some (.ref f)/\ab3 K (.ref f)=true/\Binds K fd ps []
variable{X:Cx}{t:TA}{p:Pos}{k:Nat}
theorem Kz{sp:Sp}(C:Cal X.prog X.w X.K X.mg X.base k x ps sp)(O:gO k X.A)(q:Gl X x)(Y:PA X (e::es) t)
  (J:1.18=false:=by decide) (V:YQ (e::es) X.env=(false,eval e X.env)::YQ es X.env:=by rfl) (Z:(aak pos (YQ es X.env)).any (·.1)=false:=by rfl) :
  PE X (.Call (.Name x p) (e::es) [] pos) (Sh sp [] E0 t):=by
 obtain⟨f,fd,F,N,I,U⟩:=C.ex;exact Q0 F O q N I U .nil GC Y J V Z
theorem Xe{n:String}(q:Gl X x)(N:X.mg x=none)(B:aaW x=some (.type n))(hn:x≠"__name__":=by decide)(hd:1.18=false:=by decide):PE X (.Name x pos) (tC (.ty n)):=
 Rc q N B rfl hn hd
def WY(_ j:Int):Prop:=0<j/\j<18446744073709551616
theorem NZ:OpR X (aay .FloorDiv) (rI WY λi j=>.int (i / j)):=opI λi j _ _ _ _ _ Z q=>by
 have h1:(0:Int)<j:=Z.1;have h2:j<18446744073709551616:=Z.2;have B:j.natAbs<2 ^ 64:=by omega
 have D:j.natAbs≠0:=by omega
 have U:j.natAbs.log2<64:=(Nat.log2_lt D).mpr B;exact floordiv_int 1.11 (by rw[Int.fdiv_eq_ediv_of_nonneg i 1.11];exact q) (.inl (PyProof.noPylong_of_log2 1.11))
variable{b:Expr}
theorem CZ:fK X (.builtin "isinstance") (λxs H Q=>∃x n t b,xs=[x,.ty n]/\n_ X.K H x t/\adk X.K t (.type n)=some b/\Q (.bl b) H):=by
 show 6;obtain⟨x,n,t,b,rfl,ty,e,q⟩:=h;obtain⟨u,D,rfl,U,B⟩:=vals2 r;cases B;exact JB I U ty e λtk=>⟨.bl b,H,I.tok tk,rfl,q⟩
variable{H:Hp}
theorem Same.new{q:Addr}{o:HO}(h:H q=none):Same H (L2.upd H q o):=λb u e=>by rw[aM (aV e h)];exact e
theorem Ek{l:List α}{f:α->β->Sem (ForInStep β)}(g:β->α->β):∀(q:β),(∀x∈l,∀c,f x c=pure (.yield (g c x)))->forIn l q f=pure (l.foldl g q):=by
 induction l with
 |nil=>intro q _;rfl
 |cons x r O=>
  intro q h;rw[aem,h x ZJ q];show(pure (abu (g q x)) >>=_)=_;rw[pure_bind];exact O (g q x) λy V c=>h y (Zf _ V) c
def qz(env:Env)(q:List (Str×Addr))(y:Str×acY):List (Str×Addr):=if y.2== .free then(y.1,(env.cells.lookup y.1).getD 0)::q else q
def qG(scope:Scope)(env:Env):List (Str×Addr):=scope.names.foldl (qz env) []
theorem lW(h:∀y∈scope.names,y.2= .free->∃c,env.cells.lookup y.1=some c):closureFor scope env=pure (qG scope env):=by
 unfold closureFor;dsimp only;rw[Ek (qz env) [] λy V c=>?_]
 .rw[pure_bind]
  rfl
 .obtain⟨n,k⟩:=y
  unfold qz;dsimp only;by_cases I:(k==ae4)=true
  .rw[YZ I,YZ I]
   obtain⟨a,Y⟩:=h (n,k) V (by simpa using I);have Y:env.cells.lookup n=some a:=Y;unfold cellOf;rw[Y];rfl
  .rw[Zi I,Zi I]
theorem yW(R:Str->Addr->Prop):∀(l:List (Str×acY))(acc:List (Str×Addr)),(∀x c,acc.lookup x=some c->R x c)->(∀y∈l,y.2= .free->R y.1 ((env.cells.lookup y.1).getD 0))->
  ∀x c,(l.foldl (qz env) acc).lookup x=some c->R x c
 |[],acc,h,_=>h
 |y::r,acc,h,hy=>by
  refine yW R r (qz env acc y) (λx c e=>?_) λz J=>hy z (Zf _ J);unfold qz at e;split at e
  .rename_i hk
   rw[ad5]at e;cases F:(x==y.1)with
   |true=>
    rw[F]at e;have ex:x=y.1:=by simpa using F
    cases e;rw[ex];exact hy y ZJ (by simpa using hk)
   |false=>
    rw[F]at e;exact h x c e
  .exact h x c e
theorem sV{env:Env}:∀(l:List (Str×acY))(acc:List (Str×Addr))(x:Str),((∃c,acc.lookup x=some c)∨(x,ae4)∈l)->∃c,(l.foldl (qz env) acc).lookup x=some c
 |[],acc,x,h=>by
  rcases h with h|h
  .exact h
  .cases h
 |y::r,acc,x,h=>by
  refine sV r (qz env acc y) x ?_;rcases h with⟨c,h⟩|h
  .left
   unfold qz;split
   .rw[ad5]
    cases F:(x==y.1)with
    |true=>exact⟨_,rfl⟩
    |false=>exact⟨c,h⟩
   .exact⟨c,h⟩
  .rcases YJ.mp h with e|e
   .left
    unfold qz;subst e;rw[YZ (by rfl),ad5,show(x==x)=true by simp];exact⟨_,rfl⟩
   .exact .inr e
def bL(X:Cx)(N':List Str)(scope:Scope)(C:Addr)(Y:zb)(q:Hp)(fp:List Addr):Cx:=
 {X with N:=N',s₀:=Y,H₀:=q,env:=compEnvC scope (qG scope X.env) C X.env,outer:=X.stack,stack:=X.stack,ex:=fp,fn:=λ_=>false,pn:=[],xe:=λ_ _=>False}
def gM(cap:List (Option Nat))(σ:L2.St):L2.St:=cap.map λo=>o.bind λj=>(σ[j]?).bind id
structure dZ(sc:Scope)(N N':List Str)(scope:Scope)(cap:List (Option Nat)):Prop where
 kind:scope.kind= .function
 nocell:∀y∈scope.names,y.2≠.cell
 nm:∀y∈scope.names,y.2= .local->scope.names.lookup y.1=some .local
 free:∀y∈scope.names,y.2= .free->sc.names.lookup y.1=some .cell∨sc.names.lookup y.1=some .free
 len:cap.length=N'.length
 cap:∀i∈ZR cap.length,∀j∈ZR N.length,cap[i]? =some (some j)->N[j]? =N'[i]?/\∀x∈N'[i]?,scope.names.lookup x=some .free
theorem o7{l:List (Str×α)}{k:α}(h:l.lookup x=some k):(x,k)∈l:=abf h
theorem qY{k:acY}(I:(relabel scope env).names.lookup x=some k)(B:k= .cell∨k= .free)(D:∀y∈scope.names,y.2≠.cell):(x,ae4)∈scope.names:=by
 have h:=o7 I;obtain⟨⟨n,q⟩,N,e⟩:=Y_.mp h;dsimp only at e;split at e
 .rename_i hc
  cases e;have:q= .free:=by
   have:=(aeX.mp (aeX.mp hc).1).1;simpa using this
  subst this;exact N
 .cases e
  rcases B with z|z
  .subst z;exact absurd rfl (D _ N)
  .subst z;exact N
variable{σ:L2.St}{cap:List (Option Nat)}
theorem j4(I:Inv X pins σ H s)(O:dZ X.env.scope X.N N' scope cap){c:Addr}(h:(qG scope X.env).lookup x=some c):X.env.cells.lookup x=some c:=by
 refine yW (λx c=>X.env.cells.lookup x=some c) scope.names [] (λx c e=>by simp at e) (λy V q=>?_) x c h;obtain⟨c,e⟩:=I.ok.has y.1 (O.free y V q);rw[e];rfl
theorem RD(I:Inv X pins σ H s)(O:dZ X.env.scope X.N N' scope cap)(D:∀b∈fp,lD X pins H b)(B:∀b∈fp,b<s.heap.objs.size)(J:s.heap.objs.size<=C):(bL X N' scope C s H fp).Ok where
 mod:=I.ok.mod
 kind:=O.kind
 glob:=I.ok.glob
 blt:=I.ok.blt
 above:=J
 inj:=λx y c h1 h2=>I.ok.inj x y c (j4 I O h1) (j4 I O h2)
 has:=λx h=>by
  refine sV scope.names [] x (.inr ?_);rcases h with h|h
  .exact qY h (.inl rfl) O.nocell
  .exact qY h (.inr rfl) O.nocell
 cab:=λx c h _=>by cases h
 hd:=I.ok.hd
 frames:=I.ok.frames
 stk:=.inl rfl
 exf:=λb U=>⟨Zb (Ze (B b U) J),λx c e=>(D b U).2.2.2.2.1 x c (j4 I O e)⟩
 bs:=I.bs
 bsz:=aau I.ok.bsz I.sz
 noex:=λb o e U=>by
  rcases(D b U).2.2.2.1 with z|z
  .exact I.ok.noex b o e z
  .exact absurd (Ze (YG (I.ok.bs b o e).1) z) (aai _)
 exfs:=λb U z=>by
  rcases YJ.mp (I.stkSub b z)with q|q
  .exact(D b U).2.1 q
  .exact(D b U).2.2.1 q
 funs:=I.stack
 frf:=I.stkFree
theorem BV{a0:Heap}{D:Addr}(I:Inv X pins σ H s)(O:dZ X.env.scope X.N N' scope cap)(hf:∀b∈fp,lD X pins H b)(B:∀b∈fp,b<s.heap.objs.size)
  (hC:s.heap.objs.size<=C) (hD:s.heap.objs.size<=D) (b1:D≠C) (a1:∀b u,s.heap.get? b=some u->a0.get? b=some u) {m:Str->Option Value} (b3:a0.Ns C m) (a9:a0.get? D=some o) (b0:∀v,o.data≠.cell v) :
  Inv (bL X N' scope C s H fp) [(D,o)] (gM cap σ) H {s with heap:=a0,toks:=tk}where
 ok:=RD I O hf B hC
 os:=rfl
 bare:=I.bare
 base:=Un.kept a1
 loc:=by
  refine⟨m,b3,λi x v e1 e2 e3=>?_⟩;have e1:N'[i]? =some x:=e1;unfold gM at e2;rw[List.getElem?_map]at e2;cases Z:cap[i]? with
  |none=>rw[Z]at e2;cases e2
  |some q=>
   rw[Z]at e2;cases q with
   |none=>cases e2
   |some j=>
    have e2:(σ[j]?).bind id=some v:=Z_ e2;have a6:σ[j]? =some (some v):=by
     cases z:σ[j]? with
     |none=>rw[z]at e2;cases e2
     |some y=>
      rw[z]at e2;have:y=some v:=e2;rw[this]
    have hi:i<cap.length:=(List.getElem?_eq_some_iff.mp Z).1;have F:j<X.N.length:=by
     have:=(List.getElem?_eq_some_iff.mp a6).1;rw[I.len]at this;exact this
    obtain⟨c1,c2⟩:=O.cap i (aa2.mpr hi) j (aa2.mpr F) Z;have a8:scope.names.lookup x=some .free:=c2 x (by rw[e1];rfl);have V:X.N[j]? =some x:=c1.trans e1;have a2:=o7 a8;have a4:Vis X.env.scope x:=(O.free _ a2 rfl).elim (λz=>.inr (.inl z)) λz=>.inr (.inr z);obtain⟨m0,_,Y⟩:=I.loc;obtain⟨u,r,lk⟩:=Y j x v V a6 a4;refine⟨u,r,?_⟩;rcases lk with⟨k,_⟩|⟨_,c,ec,a3⟩
    .have k:X.env.scope.names.lookup x=some .local:=k
     rcases O.free _ a2 rfl with z|z
     .rw[k]at z;cases z
     .rw[k]at z;cases z
    .right
     obtain⟨c',a7⟩:=sV (env:=X.env) scope.names [] x (.inr a2);have a5:=j4 I O a7;rw[ec]at a5;cases a5;refine⟨?_,c,a7,?_⟩
     .have e3:Vis (relabel scope X.env) x:=e3
      rcases e3 with e3|e3|e3
      .exfalso
       have hm:=o7 e3;obtain⟨⟨n,q⟩,b2,e⟩:=Y_.mp hm;dsimp only at e;split at e
       .cases e
       .cases e
        have:=O.nm _ b2 rfl;rw[a8]at this;cases this
      .exact .inl e3
      .exact .inr e3
     .obtain⟨oc,h1,h2⟩:=a3
      exact⟨oc,a1 _ _ h1,h2⟩
 cell:=λx c e=>by
  obtain⟨v,oc,h1,h2⟩:=I.cell x c (j4 I O e);exact⟨v,oc,a1 _ _ h1,h2⟩
 free:=I.hok.fresh hC
 freeC:=λx c e=>I.freeC x c (j4 I O e)
 pin:=λp hp=>by
  have e:p=(D,o):=by simpa[bL]using hp
  subst e;refine⟨a9,I.hok.fresh hD,b1,λz=>?_,b0⟩;obtain⟨b,U,e⟩:=aco.mp z;have J:D∈X.env.locals::X.fs:=I.stkSub D z;rcases YJ.mp J with q|q
  .exact absurd (Ze (by rw[q];exact I.lt) hD) (aai _)
  .exact I.nofs hD q
 hok:=I.hok.kept a1
 len:=by
  unfold gM;rw[Zc];exact O.len
abbrev NoX:Value->zb->Prop:=λ_ _=>False
variable{R:Result->Shared->Prop}
theorem Av{iter:Expr}{it acc:Value}(I:Nat->zb->Prop)
  (J:∀n s,I n s->wpAny 1.14 A (adY it) (λr Z=>match r with
   |none=>R (.ok .next) Z
   |some v=>wpAny 1.14 A (acj target it v) (λ_ U=>wpAny 1.14 A (acn target env v) (λ_ Y=>
    wpAny 1.14 A (forIn ifs true λc r=>if r=true then do let ok ←aeA c env (eval c env);pure (abu ok)else pure (abu r)) (λok B=>
     if ok=true then wpAny 1.14 A (eval elt env) (λx O=>wpAny 1.14 A (call (.builtin "list.append") [acc,x]) (λ_ D=>∃m,m<n/\I m D) NoX O) NoX B
     else ∃m,m<n/\I m B) NoX Y) NoX U) NoX Z) NoX s)
  (n:Nat) (h:I n s):abh 1.14 A (.compLoop (.ListComp elt [⟨target,iter,ifs,0⟩] scope pos) 0 it acc env) R s:=by
 refine codeAny_loop rfl I (λn s N=>?_) n h;show wpAny _ A ((compTurn (.ListComp elt [⟨target,iter,ifs,0⟩] scope pos) 0 it acc env).onRaise (λx=>do noteFrame x env;theTreesLotGoes x)) _ _ s;refine wpAny_noted ?_;rw[compTurn_list];refine gD (abS (gD (aap (J n s N) (λr Z q=>?_) λ_ _ h'=>h'.elim)));cases r with
 |none=>exact YD q
 |some v=>
  refine gD (aap q (λ_ U F=>?_) λ_ _ h'=>h'.elim);refine gD (aap F (λ_ Y a1=>gD (aap a1 (λok B V=>?_) λ_ _ h'=>h'.elim)) λ_ _ h'=>h'.elim);cases ok with
  |false=>exact YD ⟨rfl,V⟩
  |true=>
   exact gD (gD (aap V (λx O a2=>gD (aap a2 (λ_ D a0=>YD (YD ⟨rfl,a0⟩)) λ_ _ h'=>h'.elim)) λ_ _ h'=>h'.elim))
def PTs(X:Cx)(ifs:List Expr)(t:TT):Prop:=
 ∀(pins:List (Addr×Obj))(s:zb)(σ:L2.St)(H:Hp)(Q:Bool->Hp->Prop),Inv X pins σ H s->t σ H Q->
  wpAny 1.12 X.A (forIn ifs true λc r=>if r=true then do let ok ←aeA c X.env (eval c X.env);pure (abu ok)else pure (abu r)) (TP X pins σ Q) X.xe s
def Xd:TT:=λ_ H Q=>Q true H
theorem O3:PTs X [] Xd:=λ_ _ _ H _ I h=>wpAny_tests_nil ⟨H,I,h⟩
theorem Qv{t:TT}(h:PT X c t):PTs X [c] t:=λpins s σ H Q I q=>wpAny_tests_one (h pins s σ H Q I q)
def Kp(σ q:L2.St):Prop:=∀(i:Nat) v,σ[i]? =some (some v)->q[i]? =some (some v)
def SJ(J:It)(H:Hp)(g:TG)(tt:TT)(te:TE)(σ:L2.St)(Q:List V->Hp->Prop):Prop:=
 ∃W:Nat->Nat->List V->Hp->Prop,(∃m,W 0 m [] H)/\∀i m ys H,W i m ys H->
  (J.stop i H/\Q ys H)∨(J.go i H/\ys.length<YM/\∃N:List V->Hp->Prop,(∀F H',N F H'->∃I,I<m/\W (i+1) I F H')/\
   ∀x H',J.yld i H x H'->g x σ H' λσ2 H2=>Kp σ σ2/\tt σ2 H2 λb Y=>if b=true then te σ2 Y λv q=>N (ys++[v]) q else N ys Y)
def N8(cap:List (Option Nat))(wi:TI)(g:TG)(tt:TT)(te:TE):TE:=λσ H Q=>wi σ H λJ H1=>
 SJ J H1 g tt te (gM cap σ) λys H2=>ys.length<=YM/\∀D,H2 D=none->Q (.ref D) (upd H2 D (.lst ys))
section
variable{X:Cx}{elt target iter:Expr}{ifs:List Expr}{scope:Scope}{pos:Pos}{N':List Str}{cap:List (Option Nat)}{wi:TI}{g:TG}{tt:TT}{te:TE}
def lobj(its:List Value)(n:Nat):Obj:={cls:=.type "list",data:=.seq its.toArray n}
theorem Ew{pins:List (Addr×Obj)}{σ:L2.St}{H:Hp}{Y:zb}{it:Addr}{fp:List Addr}{tn:Nat->Heap->Prop}{J:It}{Q:List V->Hp->Prop}{RR:Value->Addr->ad1->zb->Prop}{E:Value->zb->Prop}
  (Z:X.calm=true) (O:dZ X.env.scope X.N N' scope cap) (I:Inv X pins σ H Y) (T:Turn X.prog X.w X.K target J fp it tn) (st:tn 0 Y.heap) (f2:∀b∈fp,lD X pins H b)
  (hg:∀C,PG 1.13 target g) (ht:∀C,PTs 1.13 ifs tt) (he:∀C,PE 1.13 elt te) (cw:SJ J H g tt te (gM cap σ) Q)
  (c3:∀(D C:Addr)(s':zb)(H':Hp)(ys:List V)(its:List Value)(n:Nat)(B:L2.St),Y.heap.objs.size<=D->Y.heap.objs.size<=C->D≠C->Inv 1.13 [(D,lobj its n)] B H' s'->Vals ys its->Q ys H'->
   RR (.ref D) C (.ok .next) s') :
  wpAny 1.12 X.A (aeF []) (λacc b8=>wpAny 1.12 X.A (newFunctionEnv scope X.env.globals (qG scope X.env) [] X.env.qual none .none (some X.env)) (λb1 b6=>
   abh 1.12 X.A (.compStart (.ListComp elt [⟨target,iter,ifs,0⟩] scope pos) 0 (.ref it) acc {b1 with scope:=relabel scope X.env}) (RR acc b1.locals) b6) E b8) E Y:=by
 refine aae (aeY O.nocell (by intro y hy;simp at hy) (λa2 a1 a0=>?_) O.kind);dsimp only at a1 a0⊢;generalize b2:Y.heap.push {cls:=.type "list",dict:=none,data:=.seq ([]:List Value).toArray}=H2 at a1 a0⊢;have hC:H2.objs.size=Y.heap.objs.size+1:=by rw[←b2,ZQ]
 have a7:Y.heap.objs.size≠H2.objs.size:=by rw[hC];exact Zb (aaK _)
 have a5:Y.heap.objs.size<=H2.objs.size:=by rw[hC];exact adq _
 have b7:∀b o,Y.heap.get? b=some o->a2.get? b=some o:=λb o e=>a0.extBut b o (by rw[hC];exact Zb (aaT (YG e))) (za _ (b2▸za _ e));have c1:a2.get? Y.heap.objs.size=some (lobj [] 0):=a0.extBut _ _ a7 (za _ (b2▸YS _ rfl));have a9:∀b∈fp,b<Y.heap.objs.size:=λb U=>by
  obtain⟨o,e,_⟩:=T.obj 0 _ st b U;exact YG e
 have I1:=BV (tk:=Y.toks+([]:List (Str×Value)).length) I O f2 a9 a5 (YK _) a7 b7 a1 c1 (λv z=>by cases z);have b3:tn 0 a2:=T.keep _ _ _ st λb _ o e=>b7 b o e;obtain⟨W,⟨m0,w0⟩,c2⟩:=cw;generalize hD:Y.heap.objs.size=D at *
 generalize c7:H2.objs.size=C at *
 have a3:∀{H':Hp}{o:Obj},(∀b∈fp,H' b=none)->∀b∈fp,lD 1.13 [(D,o)] H' b:=λ{H' o} hn b U=>by
  refine⟨hn b U,Zb (Ze (a9 b U) a5),I1.ok.exfs b U,.inl U,(I1.ok.exf b U).2,λp hp=>?_⟩;have e:p=(D,o):=by simpa[bL]using hp
  subst e;exact aaA (a9 b U)
 have b0:abh 1.12 X.A (.compLoop (.ListComp elt [⟨target,iter,ifs,0⟩] scope pos) 0 (.ref it) (.ref D) (compEnvC scope (qG scope X.env) C X.env)) (RR (.ref D) C) {Y with heap:=a2,toks:=Y.toks+([]:List (Str×Value)).length}:=by
  refine Av (λn s'=>∃i ys its k H',Inv 1.13 [(D,lobj its k)] (gM cap σ) H' s'/\Vals ys its/\tn i s'.heap/\(∀b∈fp,H' b=none)/\W i n ys H') ?_ m0 ⟨0,[],[],0,H,I1,.nil,b3,λb U=>(f2 b U).1,w0⟩;rintro n s3 ⟨i,ys,its,k,H3,I3,rv,b4,b5,w3⟩;rcases c2 i n ys H3 w3 with⟨stop,qn⟩|⟨go,hsz,N,hN,step⟩
  .refine thn (T.done 1.13 rfl rfl rfl Z i _ s3 _ H3 NoX I3 (a3 b5) b4 stop) λr s4 ⟨hr,I4⟩=>?_
   subst hr;exact c3 D C s4 H3 ys its k _ (YK _) a5 a7 I4 rv qn
  .refine thn (T.item 1.13 rfl rfl rfl Z i _ s3 _ H3 NoX I3 (a3 b5) b4 go) λr s4 ⟨u,hr,h4⟩=>?_
   subst hr;refine thn h4 λ_ s5 ⟨x,H5,I5,r5,y5,a4,c4⟩=>?_;have c5:=I5.pinned (a3 c4) (T.obj _ _ a4);refine thn (hg C _ s5 _ H5 x u _ c5 r5 (step x H5 y5)) λ_ s6 ⟨a8,H6,I6,c0,q6⟩=>?_;refine thn (ht C _ s6 a8 H6 _ I6 q6) λok s7 ⟨H7,I7,q7⟩=>?_;have a6:∀{s':zb}{H':Hp}{B:L2.St},Inv 1.13 ([(D,lobj its k)]++lZ fp s5.heap) B H' s'->tn (i+1) s'.heap/\∀b∈fp,H' b=none:=λ{s' H' B} Ix=>by
    refine⟨T.keep _ _ _ a4 λb U o e=>(Ix.pin (b,o) (zc _ (zc _ (d8 U e)))).1,λb U=>?_⟩;obtain⟨o,e,d⟩:=T.obj _ _ a4 b U;exact(Ix.pin (b,o) (zc _ (zc _ (d8 U e)))).2.1
   have b9:(gM cap σ).length=a8.length:=by rw[I6.len,I1.len]
   cases ok with
   |false=>
    have n7:N ys H7:=by simpa using q7
    obtain⟨m',hm,w7⟩:=hN _ _ n7;exact⟨m',hm,i+1,ys,its,k,H7,I7.unpinned.weak b9 c0,rv,(a6 I7).1,(a6 I7).2,w7⟩
   |true=>
    have q7:te a8 H7 λv H4=>N (ys++[v]) H4:=by simpa using q7
    refine thn (he C _ s7 a8 H7 _ I7 q7) λu8 s8 ⟨v,H8,I8,r8,n8⟩=>?_;obtain⟨eD,nD,_,c6,_⟩:=I8.pin (D,lobj its k) (zc _ (Za _ ZJ));have lv:=rv.length;refine acb afs ⟨_,eD,rfl⟩ ae9 (aeV _ _) (afG D its.toArray k u8 (by rw[List.size_toArray];omega)) ⟨eD,?_⟩;obtain⟨m',hm,w8⟩:=hN _ _ n8;obtain⟨k',eN⟩:∃k',(s8.heap.update D (abV (·.push u8))).get? D=some (lobj (its++[u8]) k'):=by
     have q:=afV eD (·.push u8);dsimp only at q;rw[List.push_toArray]at q;exact⟨_,q⟩
    have I9:Inv 1.13 (lZ fp s5.heap) a8 H8 {s8 with heap:=s8.heap.update D (abV (·.push u8))}:=by
     refine Inv.turned (it:=D) (t':=s8.toks) (I8.pins_of λp hp=>I8.pin p (zc _ (zc _ hp))) (λb o U e=>(aaY s8.heap (abV _) (Zt U)).trans e) nD a7 (.inr (by rw[←hD];exact YK _)) (λx c e z=>?_) (λp hp z=>?_)
     .obtain⟨vc,oc,h1,_⟩:=I.cell x c (j4 I O e)
      have hh:=YG h1;rw[z,hD]at hh;exact aai _ hh
     .have hp:p∈lZ fp s5.heap:=hp
      have hh:=a9 p.1 (sS hp).1;rw[z]at hh;exact aai _ hh
    refine⟨m',hm,i+1,ys++[v],its++[u8],k',H8,(I9.weak b9 c0).pins_of (λp hp=>?_),rv.append (.cons r8 .nil),?_,λb U=>?_,w8⟩
    .have e:p=(D,lobj (its++[u8]) k'):=ZM.mp hp
     rw[e];exact⟨eN,nD,a7,c6,λv z=>by cases z⟩
    .exact T.keep _ _ _ a4 λb U o e=>(I9.pin (b,o) (zc _ (d8 U e))).1
    .obtain⟨o,e,d⟩:=T.obj _ _ a4 b U
     exact(I9.pin (b,o) (zc _ (d8 U e))).2.1
 exact codeAny_compStart_list b0 (T.self _ 0 _ _ _ b3 b0)
theorem Gp(F:X.xe=NoX)(Z:X.calm=true)(O:dZ X.env.scope X.N N' scope cap)(hi:PI X target iter wi)
  (hg:∀C Y H fp,PG 1.13 target g) (ht:∀C Y H fp,PTs 1.13 ifs tt) (V:∀C Y H fp,PE 1.13 elt te)
  (B:∀x,aaD iter X.env x=pure x:=by intro _;rfl):PE X (.ListComp elt [⟨target,iter,ifs,0⟩] scope pos) (N8 cap wi g tt te):=by
 show 5;rw[eval_ListComp];refine acu (use:=none) rfl B (lW λy hy hk=>I.ok.has y.1 (O.free y hy hk)) O.kind O.nm (thn (hi pins s σ H _ I h) λv s1 h1=>thn h1 λa4 s2 h2=>?_);obtain⟨it,fp,tn,J,H2,e,I2,T,a0,f2,cw⟩:=h2;subst e;refine Ew (RR:=λacc C=>compPost 1.12 X.A X.xe none (EP X pins σ Q) acc C) Z O I2 T a0 f2 (λC=>hg C _ _ _) (λC=>ht C _ _ _) (λC=>V C _ _ _) cw ?_;intro D C s' H' ys its n a6 hD hC a2 I' rv q;obtain⟨hz,q⟩:=q;obtain⟨m,a3,_⟩:=I'.loc;refine⟨m,a3,λh' sb=>?_⟩;obtain⟨eD,nD,_,a5,_⟩:=I'.pin (D,lobj its n) (zc _ ZJ);have a1:Inv X pins σ (upd H' D (.lst ys)) {s' with heap:=h'}:=by
  refine I2.call' (ch:=fp) I'.os ?_ ?_ I'.bare (λb U=>⟨(f2 b U).2.2.2.1,(f2 b U).2.1,(f2 b U).2.2.2.2.1,(f2 b U).2.2.2.2.2⟩)
  .have ne:∀b o,s2.heap.get? b=some o->b≠C/\b≠D:=λb o e=>⟨Zb (Ze (YG e) hC),Zb (Ze (YG e) hD)⟩
   refine⟨λb o e n U V=>sb.extBut b o (ne b o e).1 (I'.base.keep b o e n U V),λb o e n U V=>?_,λb o e n V=>?_,λb o e V=>?_,λb xs e=>?_,λb o u e=>?_,λb ps e=>?_⟩
   .obtain⟨sl,e1⟩:=I'.base.slot b o e n U V
    exact⟨sl,sb.extBut b _ (ne b o e).1 e1⟩
   .rw[aM (ne b o e).2]
    exact I'.base.free b o e n V
   .obtain⟨o',e1⟩:=I'.base.there b o e V
    exact⟨o',sb.extBut b _ (ne b o e).1 e1⟩
   .have e1:=I'.base.tups b xs e
    rw[aM (aV e1 nD)];exact e1
   .have e1:=I'.base.frzs b o u e
    rw[aM (aV e1 nD)];exact e1
   .obtain⟨more,e1⟩:=I'.base.tbls b ps e
    refine⟨more,?_⟩;rw[aM (aV e1 nD)];exact e1
  .intro b u e
   by_cases U:b=D
   .subst U
    rw[aY]at e;cases e;exact⟨hz,its,n,rv,sb.extBut _ _ a2 eD⟩
   .rw[aM U]at e
    have nC:∀b u,H' b=some u->b≠C:=λb u e z=>by
     have hf:H' C=none:=I'.free;rw[z,hf]at e;cases e
    refine(I'.hok b u e).stay (λc v Z q=>sb.extBut c v ?_ q) (λc q=>by rw[aM (aV q nD)];exact q) λc xs q=>by rw[aM (aV q nD)];exact q
    rcases Z with z|z
    .rw[z]
     exact nC b u e
    .exact nC c _ z
 exact⟨.ref D,_,a1,rfl,q D nD⟩
end
theorem Vs{x:V}{t:Value}(I:Inv X pins σ H s)(rx:RelV x u)(ty:n_ X.K H x t):∃Z,PySem.W.KitX X.K u t Z/\Z s.heap/\u≠.builtin "__main__.__loader__#opaque":=by
 cases ty with
 |non=>cases (show u=ZZ from rx);exact⟨_,afD,aac,λz=>nomatch z⟩
 |bl y=>cases (show u=adO y from rx);exact⟨_,afE,aac,λz=>nomatch z⟩
 |int i=>obtain⟨t,q⟩:=(show ∃t,u=abG i t from rx);cases q;exact⟨_,afR,aac,λz=>nomatch z⟩
 |str y=>obtain⟨t,q⟩:=(show ∃t,u=ab8 y t from rx);cases q;exact⟨_,afS,aac,λz=>nomatch z⟩
 |flt y=>obtain⟨t,q⟩:=(show ∃t,u=aep y t from rx);cases q;exact⟨_,afl,aac,λz=>nomatch z⟩
 |@lst a xs D=>
  cases (show u=Zk a from rx);obtain⟨_,_,n,_,h1⟩:=(show cJ X.prog X.w H s.heap a (.lst xs)from I.hok a _ D);exact⟨_,acG,⟨_,h1,rfl⟩,λz=>nomatch z⟩
 |@frz a ob xs D=>
  cases (show u=Zk a from rx);obtain⟨_,_,_,n,_,h1⟩:=(show cJ X.prog X.w H s.heap a (.frz ob (.lst xs))from I.hok a _ D);exact⟨_,acG,⟨_,h1,rfl⟩,λz=>nomatch z⟩
 |@tup a xs D=>
  cases (show u=Zk a from rx);obtain⟨_,_,_,p⟩:=(show cJ X.prog X.w H s.heap a (.tup xs)from I.hok a _ D);obtain⟨o,h1,h2,_⟩:=p;exact⟨_,afm,⟨o,h1,h2⟩,λz=>nomatch z⟩
 |@dK a kvs D=>
  cases (show u=Zk a from rx);obtain⟨_,_,vs,_,p⟩:=(show cJ X.prog X.w H s.heap a (.dK kvs)from I.hok a _ D);obtain⟨o,es,ep,h1,h2,_⟩:=p;exact⟨_,acH,⟨o,h1,h2.1⟩,λz=>nomatch z⟩
 |@dT a kvs D=>
  cases (show u=Zk a from rx);obtain⟨_,_,xs,_,o,es,ep,h1,h2,_⟩:=(show cJ X.prog X.w H s.heap a (.dT kvs)from I.hok a _ D);exact⟨_,acH,⟨o,h1,h2.1⟩,λz=>nomatch z⟩
 |@ins a C dx fs D B Y hn U N=>
  cases (show u=Zk a from rx);obtain⟨mA,O,_⟩:=rY I.hok D;obtain⟨F,J,_⟩:=O.look;exact⟨_,afT (B.get _) B.hd Y hn U N,J,λz=>nomatch z⟩
theorem Gx:∀{Y:List String}{us:List Value},Vals (Y.map V.ty) us->us=Y.map aa6
 |[],_,.nil=>rfl
 |t::r,_,.cons h q=>by cases (show _=aa6 t from h);rw[Gx q];rfl
theorem zT:fK X (.builtin "isinstance") (λxs H Q=>∃x tp Y t b,xs=[x,.ref tp]/\H tp=some (.tup (List.map V.ty Y))/\n_ X.K H x t/\adn X.K t (Y.map aa6)=some b/\Q (.bl b) H):=by
 show 6;obtain⟨x,tp,Y,t,b,rfl,F,ty,e,q⟩:=h;obtain⟨u,D,rfl,U,r2⟩:=vals2 r;cases r2;obtain⟨Hq,Z,J,hn⟩:=Vs I U ty;obtain⟨_,its,N,o,h1,h2,n,B,_⟩:=(show cJ X.prog X.w H s.heap tp (.tup (Y.map V.ty))from I.hok tp _ F);rw[Gx N]at B;obtain⟨cls,O,data,sl⟩:=o;cases h2;cases B;exact PySem.W.kia_tup Z I.kIn J h1 e hn λtk=>⟨.bl b,H,I.tok tk,rfl,q⟩
theorem yP:∀(tk:Nat)(l:List Str),Vals (l.map V.str) (strsFrom tk l)
 |_,[]=>.nil
 |tk,x::r=>.cons ⟨_,rfl⟩ (yP (tk+1) r)
def U8:V->List V->Hp->VK->Prop:=λx vs H Q=>∃(a b:Str)(l:List Str),x= .str a/\vs=[.str b]/\(decide (a.length<b.length)||decide (aci a<aci b))=false/\(b.length==0)=false/\
 (aab a b 0 a.length (a.length+1)).isEmpty=false/\a.length<=YM/\acv a (aab a b 0 a.length (a.length+1)) b.length=l/\l.length<=YM/\
 ∀p,H p=none->Q (.ref p) (upd H p (.lst (l.map V.str)))
theorem J0:MtR X "str.split" U8:=by
 intro pins s σ H x vs v us Q I rx N h;obtain⟨a,b,l,rfl,rfl,Z,B,J,O,rfl,D,q⟩:=h;obtain⟨t,rfl⟩:=rx;obtain⟨u,rfl,t',rfl⟩:=N.one;refine acb F.slot_str_split (typeIs_str s a t) F.entry_str_split (F.args_str_split_2 _ _) (meets_str_split_sep a b t t' Z B J O D) ?_;exact⟨.ref s.heap.objs.size,_,I.lnew (yP _ _) (by rw[Zc];exact D),rfl,q _ I.fresh⟩
inductive Dt where
 |non|bl (b:Bool)|int (i:Int)|str (x:Str)|lst (ds:List Dt)|tup (ds:List Dt)
mutual
noncomputable def eqD:Dt->Dt->Bool
 |.non,.non=>true
 |.bl a,.bl b=>a==b
 |.int a,.int b=>a==b
 |.bl a,.int b=>(if a then 1 else 0)==b
 |.int a,.bl b=>a==(if b then 1 else 0)
 |.str a,.str b=>a==b
 |.lst a,.lst b=>eqL a b
 |.tup a,.tup b=>eqL a b
 |_,_=>false
noncomputable def eqL:List Dt->List Dt->Bool
 |[],[]=>true
 |a::r,b::q=>eqD a b&&eqL r q
 |_,_=>false
end
mutual
noncomputable def Brs(K:YH)(H:Hp):Dt->V->Prop
 |.non,v=>v= .non
 |.bl b,v=>v= .bl b
 |.int i,v=>v= .int i
 |.str x,v=>v= .str x
 |.lst ds,v=>∃a xs,v= .ref a/\SqL K H a xs/\kj K H ds xs
 |.tup ds,v=>∃a xs,v= .ref a/\SqT K H a xs/\kj K H ds xs
noncomputable def kj(K:YH)(H:Hp):List Dt->List V->Prop
 |[],xs=>xs=[]
 |d::r,xs=>∃x ys,xs=x::ys/\Brs K H d x/\kj K H r ys
end
theorem kj.length{K:YH}:∀{ds:List Dt}{xs:List V},kj K H ds xs->ds.length=xs.length
 |[],xs,h=>by
  have h:xs=[]:=by simpa[kj]using h
  rw[h];rfl
 |d::r,xs,h=>by
  obtain⟨x,ys,rfl,_,h⟩:=(by simpa[kj]using h:∃x ys,xs=x::ys/\Brs K H d x/\kj K H r ys);simp[kj.length h]
theorem zg:∀{ds es:List Dt},ds.length≠es.length->eqL ds es=false
 |[],[],h=>absurd rfl h
 |[],_::_,_=>by simp[eqL]
 |_::_,[],_=>by simp[eqL]
 |d::r,e::q,h=>by
  have:r.length≠q.length:=by simpa using h
  simp[eqL,zg this]
def eqJ(ds es:List Dt)(j:Nat):Bool:=eqD (ds.getD j .non) (es.getD j .non)
theorem Ac:∀{ds es:List Dt},ds.length=es.length->(ZR ds.length).all (eqJ ds es)=eqL ds es
 |[],[],_=>by simp[eqL]
 |[],_::_,h=>by simp at h
 |_::_,[],h=>by simp at h
 |d::r,e::q,h=>by
  have h':r.length=q.length:=by simpa using h
  have O:=Ac h';rw[Zh,aeu,ace,List.all_map,eqL];congr 1
theorem uQ{vl D vs:Value}{lo hi st:Option Int}{Q:Int×Int×Nat->zb->Prop}(B:s.heap.IsSliceOf sl vl D vs)(pl:ab4 vl lo)(N:ab4 D hi)(ps:ab4 vs st)(V:st.getD 1≠0)
  (h:Q ((aaf lo hi (st.getD 1) (n:Int)).1,st.getD 1,aag (aaf lo hi (st.getD 1) (n:Int)).1 (aaf lo hi (st.getD 1) (n:Int)).2 (st.getD 1)) s) :
  wpAny 1.14 A (abw (.ref sl) (pure (n:Int))) Q E s:=by
 obtain⟨os,J,Y,q⟩:=id B;unfold abw;refine gD (gD (acQ J q (x:=vl) rfl (gD (acQ J q (x:=D) rfl (gD (acQ J q (x:=vs) rfl (YD ?_)))))));refine gD (HT.slicePart_ ps ?_);have h1:(st.getD 1==0)=false:=by simpa using V
 simp![h1,ZF,aaz,pure_bind];exact gD (HT.slicePart_ pl (gD (HT.slicePart_ N (YD h))))
def uz(xs:List α)(l st:Int)(k:Nat):List α:=(ZR k).filterMap λ(m:Nat)=>xs[(l+(m:Int)*st).toNat]?
theorem tO{t:Addr}{items:List Value}{vl vu vs:Value}{lo hi st:Option Int}(U:IsTup s.heap t items.toArray)(B:s.heap.IsSliceOf sl vl vu vs)(pl:ab4 vl lo)(N:ab4 vu hi)(ps:ab4 vs st)(V:st.getD 1≠0)
  {l h':Int} (D:aaf lo hi (st.getD 1) (items.length:Int)=(l,h'))  (O:aag l h' (st.getD 1)=k)
  (hw:(l=0/\st.getD 1=1/\k=items.length)->Q (.ref t) s)
  (hn:¬(l=0/\st.getD 1=1/\k=items.length)->Q (.ref s.heap.objs.size) {s with heap:=s.heap.push {cls:=.type "tuple",data:=.seq (uz items l (st.getD 1) k).toArray}})
  (hsz:(uz items l (st.getD 1) k).length<=YM):wpAny 1.14 A (adl (.ref t) (.ref sl)) Q E s:=by
 have I:sizeOk (.seq (uz items l (st.getD 1) k).toArray):=by
  show(uz items l (st.getD 1) k).toArray.size<=YM;rw[List.size_toArray];exact hsz
 obtain⟨os,J,Y,q⟩:=id B;have F:s.TypeIs (.ref sl) "slice":=⟨os,J,Y⟩;unfold adl
 try with_reducible refine aaj ?_
 first|refine gD (YD ?_)|skip
 refine gD (wpAny_sequenceKey U.typeIs (by decide) ?_);refine gD (aaR (name:=Str.ofString "__getitem__") U.typeIs aan
  (ad4 aan U.typeIs ae8 ?_ (args_tuple_getitem _ _)))
 show wpAny _ _ (adC (.ref t) >>=_) _ _ s;refine gD (tupleItemsOf_ U ?_);refine gD (ab5 F ?_);rw[YZ (by decide)];rw[List.size_toArray];refine gD (uQ B pl N ps V ?_);rw[D,O];dsimp only;by_cases Z:(l=0/\st.getD 1=1/\k=items.length)
 .rw[YZ (by simp[Z])]
  refine gD ?_;unfold Builtin.Tuple.tupleIsExact;refine gD (ab5 U.typeIs (YD ?_));rw[YZ (by decide)];exact gD (acA (YD ⟨_,rfl,YD (hw Z)⟩))
 .rw[Zi (by simpa using Z)]
  have e:(List.filterMap (λ(k:Nat)=>items.toArray[(l+(k:Int)*st.getD 1).toNat]?) (ZR k)).toArray=(uz items l (st.getD 1) k).toArray:=by
   unfold uz;simp
  rw[e];exact gD (m:=aa8 _) (aae (YD ⟨_,rfl,YD (hn Z)⟩) I)
theorem Ld(xs:List α)(l st:Int)(k:Nat):(uz xs l st k).length<=k:=by
 unfold uz;have:=acw (λ(m:Nat)=>xs[(l+(m:Int)*st).toNat]?) (ZR k);rw[List.length_range]at this;exact this
def V6(K:YH):V->Option Int->Option Int->Hp->VK->Prop:=λx lo hi H Q=>∃a xs,x= .ref a/\SqT K H a xs/\(wZ xs lo hi=xs->Q (.ref a) H)/\∀p,H p=none->Q (.ref p) (upd H p (.tup (wZ xs lo hi)))
theorem Vl:SlR X (V6 X.K):=by
 intro pins s σ H x v vl D lo hi sl Q I rx B pl N h;obtain⟨a,xs,rfl,F,q1,q2⟩:=h;by_cases q:(HT.sIx xs.length 0 lo=0/\HT.sIx xs.length xs.length hi=xs.length)
 .have rx0:=rx
  cases rx;obtain⟨its,r,U,J⟩:=I.tuple F;have O:=r.length;refine⟨"tuple",_,aan.lookup,U.typeIs,?_⟩;have e1:aaf lo hi ((none:Option Int).getD 1) (its.length:Int)=(((0:Nat):Int),((xs.length:Nat):Int)):=by
   have e1:=HT.adjust_gen lo hi its.length;rw[←O,q.1,q.2]at e1;rw[←O];exact e1
  refine tO (items:=its) (st:=none) U B pl N .none (by decide) e1 rfl (λ_=>?_) (λZ=>?_) ?_
  .refine⟨.ref a,H,I,rfl,q1 ?_⟩
   unfold wZ;rw[q.1,q.2];simp
  .refine absurd ⟨rfl,rfl,?_⟩ Z
   show aag ((0:Nat):Int) ((xs.length:Nat):Int) 1=its.length;rw[HT.places_gen];omega
  .refine aau (Ld _ _ _ _) ?_
   show aag ((0:Nat):Int) ((xs.length:Nat):Int) 1<=YM;rw[HT.places_gen];omega
 .exact Ul pins s σ H _ v vl D lo hi sl Q I rx B pl N ⟨a,xs,rfl,F,q,q2⟩
def N7(K:YH):R2:=λx y H Q=>∃a b xs ys,x= .ref a/\y= .ref b/\SqT K H a xs/\SqT K H b ys/\xs.length+ys.length<=YM/\
 (xs=[]->Q (.ref b) H)/\(xs≠[]->ys=[]->Q (.ref a) H)/\(xs≠[]->ys≠[]->∀p,H p=none->Q (.ref p) (upd H p (.tup (xs++ys))))
theorem Od:OpR X (aay .Add) (N7 X.K):=by
 intro pins s σ H x y v u Q I rx N h;obtain⟨a,b,xs,ys,rfl,rfl,Y,U,hz,q0,q1,q2⟩:=h;by_cases hx:xs=[]
 .cases rx
  cases N;obtain⟨its,r1,p1,_⟩:=I.tuple Y;obtain⟨D,B,p2,_⟩:=I.tuple U;obtain⟨⟨cls,O,data,sl⟩,J,Z,n,hd⟩:=id p1;obtain⟨⟨a5,a3,a2,a4⟩,a1,q,V,a0⟩:=id p2;simp only at Z hd q a0;subst Z hd q a0;exact afq ⟨_,J,rfl⟩ ⟨_,a1,rfl⟩ ad3 ae3 acP acE (acr _ _)
   (tuple_addW0 a b its.toArray D.toArray n V O a3 sl a4 (by rw[r1.nil_iff.mpr hx];rfl)) ⟨J,a1,⟨.ref b,H,I,rfl,q0 hx⟩⟩
 .exact RL pins s σ H _ _ v u Q I rx N ⟨a,b,xs,ys,rfl,rfl,Y,U,hx,hz,q1 hx,q2 hx⟩
theorem rF{p:Addr}{o:HO}(I:Inv X pins σ H s)(O:∀b∈fp,lD X pins H b)(keep:∀b u,b∉fp->s.heap.get? b=some u->h'.get? b=some u)(N:s.heap.objs.size<=p)
  (new:cJ X.prog X.w (upd H p o) h' p o):Inv X pins σ (upd H p o) {s with heap:=h',toks:=t'}:=by
 have hn:H p=none:=I.hok.fresh N;have B:∀b u,H b=some u->b∉fp:=λb u e U=>by rw[(O b U).1]at e;cases e
 have F:∀b u,s.heap.get? b=some u->b≠p:=λb u e=>Zb (Ze (YG e) N);refine I.step (g':=s.gens) (d':=s.drawn) (ch:=fp) (λb U=>⟨(O b U).2.2.2.1,(O b U).2.1,(O b U).2.2.2.2.1,(O b U).2.2.2.2.2⟩) (λb u _ _ Z e _=>keep b u Z e) (λb u _ _ Z e _=>⟨u.slots,keep b u Z e⟩)
  (λb u _ e n=>by rw[aM (F b u e)];exact n) (λb u Z e=>⟨u,keep b u Z e⟩) (λb xs e=>by rw[aM (aV e hn)];exact e) (λb ob u e=>by rw[aM (aV e hn)];exact e)
  (λb ps e=>⟨#[],by rw[aM (aV e hn),e];simp⟩) (λm D=>?_) (λb u e=>?_) I.bare
 .obtain⟨ob,es,ep,ho,r⟩:=D
  exact⟨ob,es,ep,keep _ ob (λz=>(O _ z).2.1 rfl) ho,r⟩
 .by_cases U:b=p
  .subst U
   rw[aY]at e;cases e;exact new
  .rw[aM U]at e
   refine(I.hok b u e).stay (λc v Z q=>keep c v ?_ q) (λc q=>by rw[aM (aV q hn)];exact q) λc xs q=>by rw[aM (aV q hn)];exact q
   rcases Z with z|z
   .rw[z]
    exact B b u e
   .exact B c _ z
theorem kE(I:Inv X pins σ H s)(O:∀b∈fp,lD X pins H b)(keep:∀b u,b∉fp->s.heap.get? b=some u->h'.get? b=some u):Inv X pins σ H {s with heap:=h',toks:=t'}:=by
 have B:∀b u,H b=some u->b∉fp:=λb u e U=>by rw[(O b U).1]at e;cases e
 refine I.step (g':=s.gens) (d':=s.drawn) (ch:=fp) (λb U=>⟨(O b U).2.2.2.1,(O b U).2.1,(O b U).2.2.2.2.1,(O b U).2.2.2.2.2⟩) (λb u _ _ Z e _=>keep b u Z e) (λb u _ _ Z e _=>⟨u.slots,keep b u Z e⟩)
  (λb u _ e n=>n) (λb u Z e=>⟨u,keep b u Z e⟩) (λb xs e=>e) (λb ob u e=>e) (λb ps e=>⟨#[],by rw[e];simp⟩) (λm N=>?_) (λb u e=>?_) I.bare
 .obtain⟨ob,es,ep,ho,r⟩:=N
  exact⟨ob,es,ep,keep _ ob (λz=>(O _ z).2.1 rfl) ho,r⟩
 .refine(I.hok b u e).stay (λc v Z q=>keep c v ?_ q) (λc q=>q) λc xs q=>q
  rcases Z with z|z
  .rw[z]
   exact B b u e
  .exact B c _ z
def Ite(K:YH)(a:Addr):It:=
 ⟨λi H=>∃xs x,SqL K H a xs/\xs[i]? =some x,λi H x H'=>∃p v,H p=none/\x= .ref p/\(∀xs,SqL K H a xs->xs[i]? =some v)/\H'=upd H p (.tup [.int i,v]),λi H=>∃xs,SqL K H a xs/\xs.length<=i⟩
theorem Je{K:YH}{x1}(a e it:Addr)(a3:e≠it) :
  Turn P w K (.Tuple elts x1 pos) (Ite K a) [e,it] e (λi h=>(∃a0,IsEnum h e it (i:Int) a0)/\h.IsListIter it a i)where
 mem:=by simp
 obj:=λi h st b U=>by
  obtain⟨⟨a0,V⟩,o,J,c,d⟩:=st;rcases YJ.mp U with z|z
  .subst z
   exact⟨_,V,λv z=>by cases z⟩
  .have z:b=it:=by simpa using z
   subst z;exact⟨o,J,λv z=>by rw[d]at z;cases z⟩
 keep:=λi h h' st k=>by
  obtain⟨⟨a0,V⟩,a1⟩:=st;exact⟨⟨a0,k e (by simp) _ V⟩,a1.at λo q=>k it (by simp) o q⟩
 item:=by
  intro X hP B hK Z i pins s σ H E I O st hg;subst hP B hK;obtain⟨xs,x,D,F⟩:=hg;obtain⟨its,N,p,hz⟩:=I.list D;obtain⟨u,hu,ru⟩:=N.get F;obtain⟨⟨a0,V⟩,a1⟩:=st;refine wpAny_pyNext_enum_item V a1 p.isList (x:=u) (by simpa using hu) a3 λh1 a7 a5 b0 b1 k1=>?_;refine⟨.ref s.heap.objs.size,rfl,adD a7 λh2 a8 a2=>?_⟩;have a9:e<s.heap.objs.size:=YG V;have a4:s.heap.objs.size≠e:=aaA a9;have a6:h2.get? s.heap.objs.size=some {cls:=.type "tuple",data:=.seq #[.int i s.toks,u]}:=a2.extBut _ _ a4 b0;have I2:Inv X pins σ (upd H s.heap.objs.size (.tup [.int i,x])) {s with heap:=h2,toks:=s.toks+1}:=by
   refine rF (fp:=[e,it]) (t':=s.toks+1) I O (λb o U q=>?_) (YK _) ?_
   .have n1:b≠e:=λz=>U (by simp[z])
    have n2:b≠it:=λz=>U (by simp[z]);exact a2.extBut b o n1 (k1 b o n1 n2 q)
   .exact⟨by show 2<=YM;decide,[.int i s.toks,u],.cons ⟨_,rfl⟩ (.cons ru .nil),_,a6,rfl,_,rfl,rfl⟩
  refine⟨.ref s.heap.objs.size,upd H s.heap.objs.size (.tup [.int i,x]),I2,rfl,⟨_,x,I.hok.fresh (YK _),rfl,λys hy=>by rw[I.list_inj hy D];exact F,rfl⟩,?_,λb U=>?_⟩
  .refine⟨⟨u,?_⟩,a5.extBut a2.extBut (Zt a3)⟩
   have e1:(((i+1:Nat)):Int)=(i:Int)+1:=by omega
   rw[e1];exact a8
  .rw[aM]
   .exact(O b U).1
   .intro z
    rw[z]at U;rcases YJ.mp U with q|q
    .exact a4 q
    .have q:s.heap.objs.size=it:=by simpa using q
     obtain⟨o,J,_⟩:=a1;exact absurd (YG J) (by rw[q];exact aai _)
 done:=by
  intro X hP B hK Z i pins s σ H E I O st hg;subst hP B hK;obtain⟨xs,D,F⟩:=hg;obtain⟨its,N,p,hz⟩:=I.list D;obtain⟨⟨a0,V⟩,a1⟩:=st;have Y:=N.length;refine wpAny_pyNext_enum_end (I.ok.hd Z) V a1 p.isList (by simp;omega) λh1 eb=>⟨rfl,?_⟩;exact kE (fp:=[e,it]) (t':=s.toks) I O λb o U q=>eb b o (λz=>U (by simp[z])) q
 self:=λA i s Q E st h=>by
  obtain⟨⟨a0,V⟩,_⟩:=st;exact acK V h
end Jb
namespace PySem
theorem F.first_AttributeError:((Manifest.find? "AttributeError").elim false λt=>t.mro.contains "StopIteration"||t.mro.contains "SystemExit")=false:=by decide +kernel
theorem F.sub_AttributeError:isSubtype (.type "AttributeError") (.type "AttributeError")=pure true:=by rw[isSubtype_type];kernel_rfl
section
variable{prog:Program}{w:World}{A:Around}{E:Value->Shared->Prop}
theorem uV{α:Type}{o:Value}{name J:Str}{Q:α->zb->Prop}{h:Heap}{g:Array GenState}{d:Drawn}{t:Nat}{os:OsState}(hh:A.handled=none)(N:J.length<=YM)
  (D:∀h' tk e,(∀b u,h.get? b=some u->h'.get? b=some u)->(∃U,h'.get? e=some U/\U.cls= .type "AttributeError")->E (.ref e) ⟨h',g,d,tk,os⟩):wpAny 1.14 A (raiseAttrError o name J:Sem α) Q E ⟨h,g,d,t,os⟩:=by
 unfold raiseAttrError;refine gD (wpAny_mkStr (gD ?_) N);unfold newExc newTuple;refine gD (aae ?_);refine gD (m:=firstArgMember _ _) (adt (a:=ZZ) (by simp![firstArgMember,F.first_AttributeError];rfl) ?_);refine aae ?_;refine gD (wpAny_mkText (gD ?_));dsimp only;generalize a0:h.push {cls:=.type "tuple",dict:=none,data:=.seq [ab8 J t].toArray}=H1;generalize Z:({cls:=.type "AttributeError",dict:=none,data:=.fields (#[.ref h.objs.size,.none,.none,.none,.bool false,.none]++ownMembersOf (.type "AttributeError") [ab8 J t])}:Obj)=ob;have V:(H1.push ob).get? H1.objs.size=some ob:=YS _ (by subst Z;rfl);have Y:(⟨H1.push ob,g,d,t+1+1,os⟩:zb).TypeIs (.ref H1.objs.size) "AttributeError":=⟨_,V,by subst Z;rfl⟩;have f1:=F.sub_AttributeError;have O:∀b u,h.get? b=some u->(H1.push ob).get? b=some u:=λb u e=>za _ (a0▸za _ e);have I:ob.cls= .type "AttributeError":=by subst Z;rfl
 obtain⟨vs,q,a2,a1⟩:∃vs,ob.data= .fields vs/\vs[6]? =some unsetMember/\vs[7]? =some unsetMember:=by subst Z;exact⟨_,rfl,rfl,rfl⟩
 unfold noteAttr;dsimp only;refine gD ?_;unfold lacksNameAndObj;refine gD (acd Y f1 ?_);simp![Bool.not_true,ZF,aaz];refine gD (aeS V ?_);rw[q];dsimp only;rw[a2,a1];show wpAny 1.14 A (pure true) _ _ _;refine YD ?_;rw[YZ rfl];refine gD (acA (gD (ab5 Y ?_)));dsimp only;unfold layMembers;refine gD (aeS V ?_);rw[q];dsimp only;refine wpAny_update V ?_;unfold raiseNew;refine gD (wpAny_handled ?_);rw[hh];dsimp only;have B:h.objs.size<H1.objs.size:=by rw[←a0,ZQ];exact aaK _
 refine aev (D _ _ _ (λb u e=>?_) ⟨_,ac6 _ V (aeG (adv q _)),(afH ..).trans I⟩);exact(aaY (H1.push ob) _ (Zt (Zb (Nat.lt_trans (YG e) B)))).trans (O b u e)
theorem F.lk_list_keys:typeLookup (.type "list") "keys"=pure none:=by rw[typeLookup_type,aeH];kernel_rfl
theorem F.lk_list_getattr:typeLookup (.type "list") "__getattr__"=pure none:=by rw[typeLookup_type,aeH];kernel_rfl
variable{h:Heap}{g:Array GenState}{d:Drawn}{t:Nat}{os:OsState}{a:Addr}{items:Array Value}{n:Nat}
def Er(E:Value->zb->Prop)(h:Heap)(g:Array GenState)(d:Drawn)(os:OsState):Prop:=∀h' tk e,(∀b u,h.get? b=some u->h'.get? b=some u)->(∃U,h'.get? e=some U/\U.cls= .type "AttributeError")->E (.ref e) ⟨h',g,d,tk,os⟩
theorem u_{tk:Tok}{Q:Fin->zb->Prop}(N:A.handled=none)(q:h.get? a=some {cls:=.type "list",data:=.seq items n})(D:Er E h g d os) :
  wpAny 1.14 A (Builtin.«object.__getattribute__» ⟨[.ref a,.str "keys" tk],[]⟩) Q E ⟨h,g,d,t,os⟩:=by
 have Y:(⟨h,g,d,t,os⟩:zb).TypeIs (.ref a) "list":=⟨_,q,rfl⟩;have V:=F.lk_list_keys
 show 1
 exact uV N (by decide +kernel) D
theorem xx{tk:Tok}{R:ad1->zb->Prop}(N:A.handled=none)(q:h.get? a=some {cls:=.type "list",data:=.seq items n})(D:Er (λe s=>R (.error e) s) h g d os) :
  abh 1.14 A (.call (.builtin "list.__getattribute__") ⟨[.ref a,.str "keys" tk],[]⟩) R ⟨h,g,d,t,os⟩:=
 aaQ abL.plain F.entry_list_ga (abL.check _ _ _ _ _ _ _ _ (show(⟨h,g,d,t,os⟩:zb).TypeIs (.ref a) "list" from⟨_,q,rfl⟩) (F.args_list_getattribute_2 _ _) (u_ N q D))
theorem Ah{tk:Tok}{Q:Value->zb->Prop}(N:A.handled=none)(hx:h.get? a=some {cls:=.type "list",data:=.seq items n})(D:Er E h g d os):wpAny 1.14 A (getAttrBy (.ref a) (.str "keys" tk) false) Q E ⟨h,g,d,t,os⟩:=by
 have Y:(⟨h,g,d,t,os⟩:zb).TypeIs (.ref a) "list":=⟨_,hx,rfl⟩;have I:=abL.lookup;have J:=abL.bind (.ref a)
 show 1
 refine xx N hx λh' q e O V=>?_;obtain⟨U,a0,B⟩:=id V;have Z:(⟨h',g,d,q,os⟩:zb).TypeIs (.ref e) "AttributeError":=⟨U,a0,B⟩;dsimp only;unfold getattributeRaised;refine gD (acd Z F.sub_AttributeError ?_);rw[YZ rfl];refine gD (adt (show hookBehind (.type "list") none=pure none from F.lk_list_getattr) ?_);show wpAny 1.14 A (aeZ (.ref a) (.str "keys" tk) (.ref e) false false) Q E ⟨h',g,d,q,os⟩;unfold aeZ;dsimp only;rw[YZ (show(!false)=true from rfl)]
 first|exact aev (D h' q e O V)|exact gD (aev (D h' q e O V))
theorem o8{Q:Option Value->zb->Prop}(N:A.handled=none)(J:h.get? a=some {cls:=.type "list",data:=.seq items n})
  (D:∀h' tk,(∀b u,h.get? b=some u->h'.get? b=some u)->Q none ⟨h',g,d,tk,os⟩):wpAny 1.14 A (getAttr? (.ref a) "keys") Q E ⟨h,g,d,t,os⟩:=by
 unfold getAttr? getAttrBy?;refine gD (wpAny_mkText (gD (ae5 (Ah N J λh' q e O V=>?_))));obtain⟨U,I,B⟩:=id V;have Z:(⟨h',g,d,q,os⟩:zb).TypeIs (.ref e) "AttributeError":=⟨U,I,B⟩;dsimp only;refine gD (acd Z F.sub_AttributeError ?_);rw[YZ rfl];exact YD (D h' q O)
end
namespace F
theorem entry_dict_update_loop:entryFor table "dict.update.loop"=some Builtin.«dict.update.loop»:=entryFor_of_tree (by kernel_rfl)
theorem plain_dict_update_loop:plainId "dict.update.loop"=true:=by decide +kernel
end F
end PySem
namespace Jb
open PySem PySem.Spec PyProof.Rows L2
def putAll(kvs:List (Key×V))(prs:List (Key×V)):List (Key×V):=prs.foldl (λacc F=>putK acc F.1 F.2) kvs
theorem vB:∀(prs kvs:List (Key×V)),(putAll kvs prs).length<=kvs.length+prs.length
 |[],kvs=>by simp[putAll]
 |p::r,kvs=>by
  have h1:=vB r (putK kvs p.1 p.2);have h2:=jc kvs p.1 p.2;have e:putAll kvs (p::r)=putAll (putK kvs p.1 p.2) r:=rfl;rw[e,Zh];omega
variable{X:Cx}{σ:L2.St}
theorem yV{D:Addr}{xs:List V}{prs:List (Key×V)}(hh:A.handled=none)(a0:prs.length=xs.length):∀(m i:Nat)(kvs:List (Key×V))(H:Hp)(s:zb),xs.length-i=m->i<=xs.length->
  Inv X pins σ H s->H D=some (.dK kvs)->SqL X.K H l xs->lD X pins H it->s.heap.IsListIter it l i->(∀(j:Nat)(k:Key)(v:V),prs[j]? =some (k,v)->∃p:Addr,xs[j]? =some (V.ref p)/\H p=some (.tup [kV k,v]))->kvs.length+m<=100000->
  (∀s',Inv X pins σ (upd H D (.dK (putAll kvs (prs.drop i)))) s'->R (.ok (.ret .none)) s')->abh 1.12 A (.builtin "dict.update.loop" ⟨[.ref D,.ref it,abU i,.none],[]⟩) R s:=by
 intro m
 induction m with
 |zero=>
  intro i kvs H s hm hi I hD hq O Z N hz k;have e:i=xs.length:=by omega
  subst e;obtain⟨its,rv,p,_⟩:=I.list hq;have Y:=rv.length;refine aar F.entry_dict_update_loop ?_;rw[aah F.plain_dict_update_loop _];unfold Builtin.«dict.update.loop»;dsimp only;refine gD (ac5 (show A.in1.handled=none from hh) Z p.isList (by simp;omega) λh' eb=>?_);dsimp only;have I1:Inv X pins σ H {s with heap:=h'}:=kE (fp:=[it]) (t':=s.toks) I (λb U=>by rw[ZM.mp U];exact O) λb o U q=>eb b o (λz=>U (by simp[z])) q;have e1:prs.drop xs.length=[]:=by rw[←a0,aa1]
  have k1:=k _ (by
   rw[e1];show Inv X pins σ (upd H D (.dK kvs)) {s with heap:=h'};have:upd H D (.dK kvs)=H:=by
    funext b;unfold upd;split
    .rename_i z
     rw[z,hD]
    .rfl
   rw[this];exact I1)
  show wpAny 1.12 A.in1 (Builtin.Dict.addKeywords D [] >>=λ_=>ret .none) _ _ _;exact gD (YD (YD k1))
 |succ m ih=>
  intro i kvs H s hm hi I hD hq O Z N hz k;have B:i<xs.length:=by omega
  obtain⟨its,rv,p,_⟩:=I.list hq;have Y:=rv.length;have a1:i<prs.length:=by omega
  obtain⟨t,ht,hT⟩:=N i prs[i].1 prs[i].2 (by rw[YT a1]);obtain⟨u,J,ru⟩:=rv.get ht;cases ru;refine aar F.entry_dict_update_loop ?_;rw[aah F.plain_dict_update_loop _];unfold Builtin.«dict.update.loop»;dsimp only;refine gD (acN Z p.isList (x:=.ref t) (by simpa using J) λh1 a3 a6=>?_);dsimp only;have I1:Inv X pins σ H {s with heap:=h1}:=kE (fp:=[it]) (t':=s.toks) I (λb U=>by rw[ZM.mp U];exact O) λb o U q=>(a6.2 b (λz=>U (by simp[z]))).trans q;obtain⟨_,b3,rj,oj,ej,cj,nj,dj,_⟩:=(show cJ X.prog X.w H h1 t (.tup [kV prs[i].1,prs[i].2])from I1.hok t _ hT);obtain⟨ku,vu,rfl,rk,b0⟩:=vals2 rj;have b1:(({s with heap:=h1}:zb)).TypeIs (.ref t) "tuple":=⟨oj,ej,cj⟩;refine gD (aaj (gD (wpAny_tryCatch ?_)));unfold Builtin.Dict.pairItems;refine gD (ab5 b1 ?_);rw[YZ (by decide)];refine gD (abI ej dj (YD ?_));show wpAny 1.12 A.in1 (aaP [ku,vu] (dictSet D ku vu)) _ _ _;obtain⟨z,hd,vs,rel,dd⟩:=ye I1.hok hD;have a7:vs.length<=YM:=by rw[←rel.length];exact z
  have b2:200000<=YM:=by decide
  have a9:(putK kvs prs[i].1 prs[i].2).length<=YM:=by have:=jc kvs prs[i].1 prs[i].2;omega
  refine aaj (ae_ (hsz:=a7) (mU rk) dd λh2 a2 a5=>?_);have I2:Inv X pins σ (upd H D (.dK (putK kvs prs[i].1 prs[i].2))) {s with heap:=h2,toks:=s.toks+1}:=by
   have he:∃q,h2.get? D=some q:=let⟨q,_,_,hq,_⟩:=a2;⟨q,hq⟩;exact qb (s:=({s with heap:=h1}:zb)) (t':=s.toks+1) I1 (by rw[hD];exact aac) a5 he (vW a9 hd (rel.put prs[i].1 b0) a2)
  have a8:∀p ys,H p=some (.tup ys)->p≠D:=λp ys e=>GX e hD (by intro z;cases z);have a4:it≠D:=λz=>by have:=O.1;rw[z,hD]at this;cases this
  show wpAny 1.12 A.in1 (again (.builtin "dict.update.loop" ⟨[.ref D,.ref it,abU ((i:Int)+1),.none],[]⟩)) _ _ _;refine YD ⟨abx F.plain_dict_update_loop _,?_⟩;have ei:((i:Int)+1)=((i+1:Nat):Int):=by omega
  rw[ei];have b4:=jc kvs prs[i].1 prs[i].2;refine ih (i+1) (putK kvs prs[i].1 prs[i].2) _ _ 1.11 B I2 aY ?_ ?_ (a3.extBut a5.extBut a4) ?_ 1.11 (λs' I'=>k s' ?_)
  .rcases hq with(hq|⟨o,hq⟩)|hq
   .exact .inl (.inl (by rw[aM (GX hq hD (by intro z;cases z))];exact hq))
   .exact .inl (.inr ⟨o,by rw[aM (GX hq hD (by intro z;cases z))];exact hq⟩)
   .exact .inr hq
  .exact⟨by rw[aM a4];exact O.1,O.2⟩
  .intro j kk vv e
   obtain⟨p,h1,h2⟩:=N j kk vv e;exact⟨p,h1,by rw[aM (a8 p _ h2)];exact h2⟩
  .rw[Gb]at I'
   rw[abE a1];exact I'
theorem uU(Z:X.calm=true):fK X (.type "dict") (λxs H Q=>∃l ys prs,xs=[.ref l]/\H l=some (.lst ys)/\aaX prs=aaX ys/\aaX prs<=50000/\
  (∀(j:Nat)(k:Key)(v:V),prs[j]? =some (k,v)->∃p:Addr,ys[j]? =some (V.ref p)/\H p=some (.tup [kV k,v]))/\∀D,H D=none->Q (.ref D) (upd H D (.dK (putAll [] prs)))):=by
 show 6;obtain⟨l,ys,prs,rfl,Y,O,hsz,N,q⟩:=h;obtain⟨u,rfl,B⟩:=vals1 r;cases B;have hh:X.A.handled=none:=I.ok.hd Z;refine callType_codes (Q₁:=λobj a0=>obj= .ref s.heap.objs.size/\a0={s with heap:=s.heap.push {cls:=.type "dict",data:=.dict #[]}}) F.kt_called_dict (F.kt_typeCall_dict_1 _) F.entry_dict_init (kt_code_dict_new _ ⟨rfl,rfl⟩) ?_;rintro obj a0 ⟨rfl,rfl⟩;have a2:H s.heap.objs.size=none:=I.fresh;have I1:Inv X pins σ (upd H s.heap.objs.size (.dK [])) {s with heap:=s.heap.push {cls:=.type "dict",data:=.dict #[]}}:=I.laid (t':=s.toks) (λ_ _ z=>za _ z) (YK _) (xq s.heap I.big);have a1:(s.heap.push {cls:=.type "dict",data:=.dict #[]}).DictOf (bf X.prog X.w) s.heap.objs.size []:=aek s.heap;have nl:l≠s.heap.objs.size:=aV Y a2;have a3:(upd H s.heap.objs.size (.dK [])) l=some (.lst ys):=by rw[aM nl];exact Y
 obtain⟨_,its,n,rv,el⟩:=(show cJ X.prog X.w _ _ l (.lst ys)from I1.hok l _ a3);have a5:({s with heap:=s.heap.push {cls:=.type "dict",data:=.dict #[]}}:zb).TypeIs (.ref l) "list":=⟨_,el,rfl⟩;refine⟨a1.typeIs,F.args_dict_init_2 _ _,?_⟩;unfold Builtin.«dict.__init__»;refine gD ?_;unfold ad6;refine gD (aeI a1.typeIs ?_);show wpAny _ _ (pure (s.heap.objs.size,[Zk l])) _ _ _;refine YD ?_;show wpAny _ _ (abP "dict.__init__" s.heap.objs.size (.ref l) [] .none) _ _ _;unfold abP;refine gD (ab5 a5 ?_);rw[YZ (by decide)];refine gD (o8 (show X.A.in1.in1.handled=none from hh) el λh2 U a4=>?_);rw[YZ (by rfl)];have J:Inv X pins σ (upd H s.heap.objs.size (.dK [])) {s with heap:=h2,toks:=U}:=I1.kept (t':=U) a4;obtain⟨a7,a8,p2,_⟩:=J.list (SqL.of a3);refine gD (acA (gD (abA p2.isList ?_)));have I3:Inv X pins σ (upd H s.heap.objs.size (.dK [])) {s with heap:=h2.push {cls:=.type "list_iterator",data:=.fields #[.ref l,.int 0 0]},toks:=U}:=J.kept (t':=U) λb o e=>za _ e;have a6:lD X pins (upd H s.heap.objs.size (.dK [])) h2.objs.size:=J.fpOk (YK _) (J.hok.fresh (YK _));refine YD ⟨abx F.plain_dict_update_loop _,?_⟩;refine yV (A:=X.A.in1) (l:=l) (xs:=ys) (prs:=prs) hh O ys.length 0 [] _ _ rfl (aaN _) I3 aY (SqL.of a3) a6 ⟨_,YS _ rfl,rfl,rfl⟩ ?_ (by simp;omega) λs' I'=>?_
 .intro j k v e
  obtain⟨p,h1,h2⟩:=N j k v e;exact⟨p,h1,by rw[aM (aV h2 a2)];exact h2⟩
 .rw[Gb,acD]at I'
  exact⟨rfl,.ref _,_,I',rfl,q _ a2⟩
variable{R:Result->Shared->Prop}
theorem xJ{kx vx iter:Expr}{it:Value}{D:Addr}(I:Nat->zb->Prop)
  (J:∀n s,I n s->wpAny 1.14 A (adY it) (λr Z=>match r with
   |none=>R (.ok .next) Z
   |some v=>wpAny 1.14 A (acj target it v) (λ_ U=>wpAny 1.14 A (acn target env v) (λ_ Y=>
    wpAny 1.14 A (forIn ifs true λc r=>if r=true then do let ok ←aeA c env (eval c env);pure (abu ok)else pure (abu r)) (λok B=>
     if ok=true then wpAny 1.14 A (eval kx env) (λF O=>wpAny 1.14 A (eval vx env) (λvv a0=>wpAny 1.14 A (dictSet D F vv) (λ_ a1=>∃m,m<n/\I m a1) NoX a0) NoX O) NoX B
     else ∃m,m<n/\I m B) NoX Y) NoX U) NoX Z) NoX s)
  (n:Nat) (h:I n s):abh 1.14 A (.compLoop 1.15 0 it (.ref D) env) R s:=by
 refine codeAny_loop rfl I (λn s N=>?_) n h;show wpAny _ A ((compTurn 1.15 0 it (.ref D) env).onRaise (λx=>do noteFrame x env;theTreesLotGoes x)) _ _ s;refine wpAny_noted ?_;rw[compTurn_dict];refine gD (abS (gD (aap (J n s N) (λr Z q=>?_) λ_ _ h'=>h'.elim)));cases r with
 |none=>exact YD q
 |some v=>
  refine gD (aap q (λ_ U a2=>?_) λ_ _ h'=>h'.elim);refine gD (aap a2 (λ_ Y a4=>gD (aap a4 (λok B V=>?_) λ_ _ h'=>h'.elim)) λ_ _ h'=>h'.elim);cases ok with
  |false=>exact YD ⟨rfl,V⟩
  |true=>
   exact gD (gD (aap V (λF O a6=>gD (aaj (aap a6 (λvv a0 a5=>gD (abS (aaj (aap a5 (λ_ a1 a3=>YD ⟨rfl,a3⟩) λ_ _ h'=>h'.elim)))) λ_ _ h'=>h'.elim))) λ_ _ h'=>h'.elim))
def Og(J:It)(H:Hp)(g:TG)(tt:TT)(tk tv:TE)(σ:L2.St)(Q:List (Key×V)->Hp->Prop):Prop:=
 ∃W:Nat->Nat->List (Key×V)->Hp->Prop,(∃m,W 0 m [] H)/\∀i m ys H,W i m ys H->
  (J.stop i H/\Q ys H)∨(J.go i H/\ys.length<YM/\∃N:List (Key×V)->Hp->Prop,(∀F H',N F H'->∃I,I<m/\W (i+1) I F H')/\
   ∀x H',J.yld i H x H'->g x σ H' λσ2 H2=>Kp σ σ2/\tt σ2 H2 λb Y=>if b=true then tk σ2 Y λx q=>∃k,x=kV k/\tv σ2 q λv B=>N (putK ys k v) B else N ys Y)
def Fo(cap:List (Option Nat))(wi:TI)(g:TG)(tt:TT)(tk tv:TE):TE:=λσ H Q=>wi σ H λJ H1=>
 Og J H1 g tt tk tv (gM cap σ) λys H2=>ys.length<=YM/\∀D,H2 D=none->Q (.ref D) (upd H2 D (.dK ys))
section
variable{X:Cx}{kx vx target iter:Expr}{ifs:List Expr}{scope:Scope}{pos:Pos}{N':List Str}{cap:List (Option Nat)}{wi:TI}{g:TG}{tt:TT}{tk tv:TE}
structure DO(P:Program)(w:World)(vs:List (Key×Value))(o:Obj):Prop where
 ex:o.ExactDict
 es:∃es ep,o.data= .dict es ep/\KeysOf (bf P w) es/\Pairs (bf P w) es.toList vs/\(vs.map (·.1)).Nodup
theorem DO.at{P:Zr}{w:World}{vs:List (Key×Value)}{o:Obj}(d:DO P w vs o){h:Heap}{a:Addr}(e:h.get? a=some o):h.DictOf (bf P w) a vs:=let⟨es,ep,h1,h2,h3,h4⟩:=d.es;⟨o,es,ep,e,d.ex,h1,h2,h3,h4⟩
theorem DO.of{P:Zr}{w:World}{vs:List (Key×Value)}{h:Heap}{a:Addr}(d:h.DictOf (bf P w) a vs):∃o,h.get? a=some o/\DO P w vs o:=let⟨o,es,ep,e,x,h1,h2,h3,h4⟩:=d;⟨o,e,⟨x,es,ep,h1,h2,h3,h4⟩⟩
theorem DO.nc{P:Zr}{w:World}{vs:List (Key×Value)}{o:Obj}(d:DO P w vs o):∀v,o.data≠.cell v:=λv z=>by
 obtain⟨es,ep,h1,_⟩:=d.es;rw[h1]at z;cases z
theorem uA{pins:List (Addr×Obj)}{σ:L2.St}{H:Hp}{Y:zb}{it:Addr}{fp:List Addr}{tn:Nat->Heap->Prop}{J:It}{Q:List (Key×V)->Hp->Prop}{RR:Value->Addr->ad1->zb->Prop}{E:Value->zb->Prop}
  (Z:X.calm=true) (O:dZ X.env.scope X.N N' scope cap) (I:Inv X pins σ H Y) (T:Turn X.prog X.w X.K target J fp it tn) (st:tn 0 Y.heap) (f2:∀b∈fp,lD X pins H b)
  (q:∀C,PG 1.13 target g) (ht:∀C,PTs 1.13 ifs tt) (hk:∀C,PE 1.13 kx tk) (he:∀C,PE 1.13 vx tv) (cw:Og J H g tt tk tv (gM cap σ) Q)
  (c6:∀(D C:Addr)(s':zb)(H':Hp)(ys:List (Key×V))(its:List (Key×Value))(o:Obj)(B:L2.St),Y.heap.objs.size<=D->Y.heap.objs.size<=C->D≠C->Inv 1.13 [(D,o)] B H' s'->KV ys its->DO X.prog X.w its o->Q ys H'->
   RR (.ref D) C (.ok .next) s') :
  wpAny 1.12 X.A newDict (λacc c1=>wpAny 1.12 X.A (newFunctionEnv scope X.env.globals (qG scope X.env) [] X.env.qual none .none (some X.env)) (λb1 b8=>
   abh 1.12 X.A (.compStart 1.15 0 (.ref it) acc {b1 with scope:=relabel scope X.env}) (RR acc b1.locals) b8) E c1) E Y:=by
 refine aae (aeY O.nocell (by intro y hy;simp at hy) (λa3 a1 a0=>?_) O.kind);dsimp only at a1 a0⊢;generalize b2:Y.heap.push {cls:=.type "dict",dict:=none,data:=.dict #[]}=H2 at a1 a0⊢;have hC:H2.objs.size=Y.heap.objs.size+1:=by rw[←b2,ZQ]
 have a8:Y.heap.objs.size≠H2.objs.size:=by rw[hC];exact Zb (aaK _)
 have a6:Y.heap.objs.size<=H2.objs.size:=by rw[hC];exact adq _
 have b9:∀b o,Y.heap.get? b=some o->a3.get? b=some o:=λb o e=>a0.extBut b o (by rw[hC];exact Zb (aaT (YG e))) (za _ (b2▸za _ e));have b7:H2.DictOf (bf X.prog X.w) Y.heap.objs.size []:=b2▸aek Y.heap;obtain⟨o0,c7,c0⟩:=DO.of b7;have c4:a3.get? Y.heap.objs.size=some o0:=a0.extBut _ _ a8 (za _ c7);have a9:∀b∈fp,b<Y.heap.objs.size:=λb U=>by
  obtain⟨o,e,_⟩:=T.obj 0 _ st b U;exact YG e
 have F:=BV (tk:=Y.toks+([]:List (Str×Value)).length) I O f2 a9 a6 (YK _) a8 b9 a1 c4 c0.nc;have b3:tn 0 a3:=T.keep _ _ _ st λb _ o e=>b9 b o e;obtain⟨W,⟨m0,w0⟩,c5⟩:=cw;generalize hD:Y.heap.objs.size=D at *
 generalize d9:H2.objs.size=C at *
 have a4:∀{H':Hp}{o:Obj},(∀b∈fp,H' b=none)->∀b∈fp,lD 1.13 [(D,o)] H' b:=λ{H' o} hn b U=>by
  refine⟨hn b U,Zb (Ze (a9 b U) a6),F.ok.exfs b U,.inl U,(F.ok.exf b U).2,λp hp=>?_⟩;have e:p=(D,o):=by simpa[bL]using hp
  subst e;exact aaA (a9 b U)
 have b0:abh 1.12 X.A (.compLoop 1.15 0 (.ref it) (.ref D) (compEnvC scope (qG scope X.env) C X.env)) (RR (.ref D) C) {Y with heap:=a3,toks:=Y.toks+([]:List (Str×Value)).length}:=by
  refine xJ (λn s'=>∃i ys its k H',Inv 1.13 [(D,k)] (gM cap σ) H' s'/\(KV ys its/\DO X.prog X.w its k)/\tn i s'.heap/\(∀b∈fp,H' b=none)/\W i n ys H') ?_ m0 ⟨0,[],[],o0,H,F,⟨.nil,c0⟩,b3,λb U=>(f2 b U).1,w0⟩;rintro n s3 ⟨i,ys,its,k,H3,I3,⟨rv,dk⟩,b4,b6,w3⟩;rcases c5 i n ys H3 w3 with⟨stop,qn⟩|⟨go,hsz,N,hN,step⟩
  .refine thn (T.done 1.13 rfl rfl rfl Z i _ s3 _ H3 NoX I3 (a4 b6) b4 stop) λr s4 ⟨hr,I4⟩=>?_
   subst hr;exact c6 D C s4 H3 ys its k _ (YK _) a6 a8 I4 rv dk qn
  .refine thn (T.item 1.13 rfl rfl rfl Z i _ s3 _ H3 NoX I3 (a4 b6) b4 go) λr s4 ⟨u,hr,h4⟩=>?_
   subst hr;refine thn h4 λ_ s5 ⟨x,H5,I5,r5,y5,a5,c9⟩=>?_;have d2:=I5.pinned (a4 c9) (T.obj _ _ a5);refine thn (q C _ s5 _ H5 x u _ d2 r5 (step x H5 y5)) λ_ s6 ⟨a2,H6,I6,c3,q6⟩=>?_;refine thn (ht C _ s6 a2 H6 _ I6 q6) λok s7 ⟨H7,I7,q7⟩=>?_;have a7:∀{s':zb}{H':Hp}{B:L2.St},Inv 1.13 ([(D,k)]++lZ fp s5.heap) B H' s'->tn (i+1) s'.heap/\∀b∈fp,H' b=none:=λ{s' H' B} Ix=>by
    refine⟨T.keep _ _ _ a5 λb U o e=>(Ix.pin (b,o) (zc _ (zc _ (d8 U e)))).1,λb U=>?_⟩;obtain⟨o,e,d⟩:=T.obj _ _ a5 b U;exact(Ix.pin (b,o) (zc _ (zc _ (d8 U e)))).2.1
   have c2:(gM cap σ).length=a2.length:=by rw[I6.len,F.len]
   cases ok with
   |false=>
    have n7:N ys H7:=by simpa using q7
    obtain⟨m',hm,w7⟩:=hN _ _ n7;exact⟨m',hm,i+1,ys,its,k,H7,I7.unpinned.weak c2 c3,⟨rv,dk⟩,(a7 I7).1,(a7 I7).2,w7⟩
   |true=>
    have q7:tk a2 H7 λx H4=>∃k',x=kV k'/\tv a2 H4 λv H5=>N (putK ys k' v) H5:=by simpa using q7
    refine thn (hk C _ s7 a2 H7 _ I7 q7) λuk d0 ⟨xk,d7,d4,d3,kk,ek,d5⟩=>?_;subst ek;refine thn (he C _ d0 a2 d7 _ d4 d5) λu8 s8 ⟨v,H8,I8,r8,n8⟩=>?_;obtain⟨eD,nD,_,d6,_⟩:=I8.pin (D,k) (zc _ (Za _ ZJ));have lv:=rv.length;refine ae_ (mU d3) (dk.at eD) (λh9 c8 d1=>?_) 1.11;obtain⟨m',hm,w8⟩:=hN _ _ n8;obtain⟨o9,eN,b5⟩:=DO.of c8;have I9:Inv 1.13 (lZ fp s5.heap) a2 H8 {s8 with heap:=h9,toks:=s8.toks+1}:=by
     refine Inv.turned (it:=D) (t':=s8.toks+1) (I8.pins_of λp hp=>I8.pin p (zc _ (zc _ hp))) (λb o U e=>d1.extBut b o U e) nD a8 (.inr (by rw[←hD];exact YK _)) (λx c e z=>?_) (λp hp z=>?_)
     .obtain⟨vc,oc,h1,_⟩:=I.cell x c (j4 I O e)
      have hh:=YG h1;rw[z,hD]at hh;exact aai _ hh
     .have hp:p∈lZ fp s5.heap:=hp
      have hh:=a9 p.1 (sS hp).1;rw[z]at hh;exact aai _ hh
    refine⟨m',hm,i+1,putK ys kk v,stored its kk u8,o9,H8,(I9.weak c2 c3).pins_of (λp hp=>?_),⟨rv.put kk r8,b5⟩,?_,λb U=>?_,w8⟩
    .have e:p=(D,o9):=ZM.mp hp
     rw[e];exact⟨eN,nD,a8,d6,b5.nc⟩
    .exact T.keep _ _ _ a5 λb U o e=>(I9.pin (b,o) (zc _ (d8 U e))).1
    .obtain⟨o,e,d⟩:=T.obj _ _ a5 b U
     exact(I9.pin (b,o) (zc _ (d8 U e))).2.1
 exact codeAny_compStart_dict b0 (T.self _ 0 _ _ _ b3 b0)
theorem JX(F:X.xe=NoX)(Z:X.calm=true)(O:dZ X.env.scope X.N N' scope cap)(hi:PI X target iter wi)
  (hg:∀C Y H fp,PG 1.13 target g) (ht:∀C Y H fp,PTs 1.13 ifs tt) (hk:∀C Y H fp,PE 1.13 kx tk) (V:∀C Y H fp,PE 1.13 vx tv)
  (B:∀x,aaD iter X.env x=pure x:=by intro _;rfl):PE X 1.15 (Fo cap wi g tt tk tv):=by
 show 5;rw[arm_eval_DictComp];dsimp only;refine acu (use:=none) rfl B (lW λy hy hk=>I.ok.has y.1 (O.free y hy hk)) O.kind O.nm (thn (hi pins s σ H _ I h) λv s1 h1=>thn h1 λa4 s2 h2=>?_);obtain⟨it,fp,tn,J,H2,e,I2,T,a0,f2,cw⟩:=h2;subst e;refine uA (RR:=λacc C=>compPost 1.12 X.A X.xe none (EP X pins σ Q) acc C) Z O I2 T a0 f2 (λC=>hg C _ _ _) (λC=>ht C _ _ _) (λC=>hk C _ _ _) (λC=>V C _ _ _) cw ?_;intro D C s' H' ys its o a6 hD hC a2 I' rv dk q;obtain⟨hz,q⟩:=q;obtain⟨m,a3,_⟩:=I'.loc;refine⟨m,a3,λh' sb=>?_⟩;obtain⟨eD,nD,_,a5,_⟩:=I'.pin (D,o) (zc _ ZJ);have a1:Inv X pins σ (upd H' D (.dK ys)) {s' with heap:=h'}:=by
  refine I2.call' (ch:=fp) I'.os ?_ ?_ I'.bare (λb U=>⟨(f2 b U).2.2.2.1,(f2 b U).2.1,(f2 b U).2.2.2.2.1,(f2 b U).2.2.2.2.2⟩)
  .have ne:∀b o,s2.heap.get? b=some o->b≠C/\b≠D:=λb o e=>⟨Zb (Ze (YG e) hC),Zb (Ze (YG e) hD)⟩
   refine⟨λb o e n U V=>sb.extBut b o (ne b o e).1 (I'.base.keep b o e n U V),λb o e n U V=>?_,λb o e n V=>?_,λb o e V=>?_,λb xs e=>?_,λb o u e=>?_,λb ps e=>?_⟩
   .obtain⟨sl,e1⟩:=I'.base.slot b o e n U V
    exact⟨sl,sb.extBut b _ (ne b o e).1 e1⟩
   .rw[aM (ne b o e).2]
    exact I'.base.free b o e n V
   .obtain⟨o',e1⟩:=I'.base.there b o e V
    exact⟨o',sb.extBut b _ (ne b o e).1 e1⟩
   .have e1:=I'.base.tups b xs e
    rw[aM (aV e1 nD)];exact e1
   .have e1:=I'.base.frzs b o u e
    rw[aM (aV e1 nD)];exact e1
   .obtain⟨more,e1⟩:=I'.base.tbls b ps e
    refine⟨more,?_⟩;rw[aM (aV e1 nD)];exact e1
  .intro b u e
   by_cases U:b=D
   .subst U
    rw[aY]at e;cases e;exact⟨hz,aaF.mpr (Zt (Zb (Ze I2.big hD))),its,rv,dk.at (sb.extBut _ _ a2 eD)⟩
   .rw[aM U]at e
    have nC:∀b u,H' b=some u->b≠C:=λb u e z=>by
     have hf:H' C=none:=I'.free;rw[z,hf]at e;cases e
    refine(I'.hok b u e).stay (λc v Z q=>sb.extBut c v ?_ q) (λc q=>by rw[aM (aV q nD)];exact q) λc xs q=>by rw[aM (aV q nD)];exact q
    rcases Z with z|z
    .rw[z]
     exact nC b u e
    .exact nC c _ z
 exact⟨.ref D,_,a1,rfl,q D nD⟩
end
theorem sO{F:α->β->Prop}:∀{xs:List α}{ys:List β},adX F xs ys->∀{i:Nat}{a:α}{b:β},xs[i]? =some a->ys[i]? =some b->F a b
 |_,_,.nil,i,a,b,h,_=>by simp at h
 |_,_,.cons p r,0,a,b,h1,h2=>by cases h1;cases h2;exact p
 |_,_,.cons p r,i+1,a,b,h1,h2=>sO r (i:=i) (by simpa using h1) (by simpa using h2)
theorem Lb{B:L2.St}{H2 H':Hp}{s2:zb}{D:Addr}{ob:HO}(J:Inv X pins σ H2 s2)(I:∀b∈fp,lD X pins H2 b)
  (hD:s2.heap.objs.size<=D) (hC:s2.heap.objs.size<=C) (F:D≠C) (Y:Inv (bL X N' scope C s2 H2 fp) [(D,o)] B H' s') (new:∀h',h'.get? D=some o->cJ X.prog X.w (upd H' D ob) h' D ob)
  (h':Heap) (sb:ab2 C s'.heap h'):Inv X pins σ (upd H' D ob) {s' with heap:=h'}:=by
 obtain⟨eD,nD,_,N,_⟩:=Y.pin (D,o) (zc _ ZJ);refine J.call' (ch:=fp) Y.os ?_ ?_ Y.bare (λb U=>⟨(I b U).2.2.2.1,(I b U).2.1,(I b U).2.2.2.2.1,(I b U).2.2.2.2.2⟩)
 .have ne:∀b o,s2.heap.get? b=some o->b≠C/\b≠D:=λb o e=>⟨Zb (Ze (YG e) hC),Zb (Ze (YG e) hD)⟩
  refine⟨λb o e n U V=>sb.extBut b o (ne b o e).1 (Y.base.keep b o e n U V),λb o e n U V=>?_,λb o e n V=>?_,λb o e V=>?_,λb xs e=>?_,λb o u e=>?_,λb ps e=>?_⟩
  .obtain⟨sl,e1⟩:=Y.base.slot b o e n U V
   exact⟨sl,sb.extBut b _ (ne b o e).1 e1⟩
  .rw[aM (ne b o e).2]
   exact Y.base.free b o e n V
  .obtain⟨o',e1⟩:=Y.base.there b o e V
   exact⟨o',sb.extBut b _ (ne b o e).1 e1⟩
  .have e1:=Y.base.tups b xs e
   rw[aM (aV e1 nD)];exact e1
  .have e1:=Y.base.frzs b o u e
   rw[aM (aV e1 nD)];exact e1
  .obtain⟨more,e1⟩:=Y.base.tbls b ps e
   refine⟨more,?_⟩;rw[aM (aV e1 nD)];exact e1
 .intro b u e
  by_cases U:b=D
  .subst U
   rw[aY]at e;cases e;exact new h' (sb.extBut _ _ F eD)
  .rw[aM U]at e
   have nC:∀b u,H' b=some u->b≠C:=λb u e z=>by
    have O:H' C=none:=Y.free;rw[z,O]at e;cases e
   refine(Y.hok b u e).stay (λc v Z q=>sb.extBut c v ?_ q) (λc q=>by rw[aM (aV q nD)];exact q) λc xs q=>by rw[aM (aV q nD)];exact q
   rcases Z with z|z
   .rw[z]
    exact nC b u e
   .exact nC c _ z
section
variable{X:Cx}{elt kx vx target iter:Expr}{ifs:List Expr}{scope:Scope}{pos pos' pos2:Pos}{N':List Str}{cap:List (Option Nat)}{wi:TI}{g:TG}{tt:TT}{te tk tv:TE}
theorem OD{pins:List (Addr×Obj)}{σ B:L2.St}{H2 H':Hp}{Z s':zb}{fp:List Addr}{D C:Addr}{o:Obj}{ob:HO}{i:Nat}{x:Str}{Dn:Ends}(J:Inv X pins σ H2 Z)(f2:∀b∈fp,lD X pins H2 b)
  (hD:Z.heap.objs.size<=D) (hC:Z.heap.objs.size<=C) (a3:D≠C) (Y:Inv (bL X N' scope C Z H2 fp) [(D,o)] B H' s') (new:∀h',h'.get? D=some o->cJ X.prog X.w (upd H' D ob) h' D ob)
  (V:X.N.Nodup) (hi:X.N[i]? =some x) (F:Loc X.env.scope x) (O:X.fn x=true∨X.env.scope.names.lookup x=some .local) (q:Dn.nx (σ.set i (some (.ref D))) (upd H' D ob)) :
  wpAny 1.12 X.A (assignAll (.ref D) ((aam [.Name x pos'] X.env).map (·.2))) (λ_ a0=>∃m,a0.heap.Ns C m/\∀h',ab2 C a0.heap h'->SP X pins Dn .next {a0 with heap:=h'}) X.xe s':=by
 have I3:Inv X pins σ (upd H' D ob) s':=Lb J f2 hD hC a3 Y new s'.heap ⟨rfl,λ_ _=>rfl⟩;obtain⟨m,a1,_⟩:=Y.loc;obtain⟨a5,nD,_,a6,_⟩:=Y.pin (D,o) (zc _ ZJ);have a1:s'.heap.Ns C m:=a1;have a2:upd H' D ob C=none:=by
  rw[aM (Zt a3)];exact Y.free
 obtain⟨f0,f1,a4,f3,f4,f5⟩:=J.fpOk hC (J.hok.fresh hC);have fC:lD X pins (upd H' D ob) C:=⟨a2,f1,a4,f3,f4,f5⟩;obtain⟨oC,es,ep,gC,dC,I,k2⟩:=a1;have I4:=I3.pinned (fp:=[C]) (λb U=>by rw[ZM.mp U];exact fC) λb U=>⟨oC,by rw[ZM.mp U];exact gC,λv z=>by rw[dC]at z;cases z⟩;have ea:assignAll (.ref D) ((aam [.Name x pos'] X.env).map (·.2))=acn (.Name x pos') X.env (.ref D):=by
  unfold assignAll;simp[aam]
 rw[ea];refine wpAny_assign_Name (jL I4 V hi F (v:=.ref D) rfl (λa0 I5=>⟨m,?_,λh' sb=>?_⟩) O)
 .exact⟨oC,es,ep,(I5.pin (C,oC) (zc _ (zc _ (d8 (ZM.mpr rfl) gC)))).1,dC,I,k2⟩
 .exact⟨_,_,I5.unpinned.turned (t':=a0.toks) (λb o U e=>sb.extBut b o U e) a2 f1 f3 f4 f5,q⟩
theorem RM{i:Nat}{x:Str}(F:X.xe=NoX)(Z:X.calm=true)(hN:X.N.Nodup)(hi:X.N[i]? =some x)(hl:Loc X.env.scope x)(O:dZ X.env.scope X.N N' scope cap)(a0:PI X target iter wi)
  (hg:∀C Y H fp,PG 1.13 target g) (U:∀C Y H fp,PTs 1.13 ifs tt) (hk:∀C Y H fp,PE 1.13 kx tk) (V:∀C Y H fp,PE 1.13 vx tv)
  (hw:abH 1.15 (some (.Name x pos')) pos2.line X.env=pure true:=by rfl) (B:∀x,aaD iter X.env x=pure x:=by intro _;rfl)
  (hf:X.fn x=true∨X.env.scope.names.lookup x=some .local:=by first|exact .inl rfl|exact .inr rfl|assumption):PS X (.Assign [.Name x pos'] 1.15 pos2) (Pa (Fo cap wi g tt tk tv) (yD i)):=by
 intro pins s σ H Dn I h;rw[aeh];refine gD (abS ?_);rw[show abv [.Name x pos'] 1.15 pos2.line X.env=pure true from hw];refine gD (YD ?_);rw[YZ rfl,arm_evalThenUse_DictComp];refine gD (gD (acu (use:=some _) rfl B (lW λy hy hk=>I.ok.has y.1 (O.free y hy hk)) O.kind O.nm (thn (a0 pins s σ H _ I h) λv s1 h1=>thn h1 λa3 s2 h2=>?_)));obtain⟨it,fp,tn,J,H2,e,I2,T,a1,f2,cw⟩:=h2;subst e;refine uA (RR:=λacc C=>compPost 1.12 X.A X.xe (some _) _ acc C) Z O I2 T a1 f2 (λC=>hg C _ _ _) (λC=>U C _ _ _) (λC=>hk C _ _ _) (λC=>V C _ _ _) cw ?_;intro D C s' H' ys its o a5 hD hC a2 I' rv dk q;obtain⟨hz,q⟩:=q;have nD:=(I'.pin (D,o) (zc _ ZJ)).2.1;refine thn (OD (ob:=.dK ys) (Dn:=Dn) (pos':=pos') I2 f2 hD hC a2 I' (λh' e=>⟨hz,aaF.mpr (Zt (Zb (Ze I2.big hD))),its,rv,dk.at e⟩) hN hi hl hf (q D nD)) λ_ a4 ⟨m,h1,h2⟩=>⟨m,h1,λh' sb=>YD (YD (h2 h' sb))⟩
end
theorem yM:∀(more:List (Key×V)){kvs:List (Key×V)}{vs B:List (Key×Value)},KV kvs vs->KV more B->KV (putAll kvs more) (merged vs B)
 |[],kvs,vs,_,r,.nil=>r
 |p::m,kvs,vs,_::B,r,.cons h q=>by
  have e1:putAll kvs (p::m)=putAll (putK kvs p.1 p.2) m:=rfl;rw[e1];have:=yM m (r.put p.1 h.2) q;rw[h.1]at this;rw[h.1];exact this
def Fv:V->List V->Hp->VK->Prop:=λx vs H Q=>∃D kvs,x= .ref D/\H D=some (.dK kvs)/\
 ((∃l ys prs,vs=[.ref l]/\H l=some (.lst ys)/\aaX prs=aaX ys/\kvs.length+aaX prs<=50000/\(∀(j:Nat)(k:Key)(v:V),prs[j]? =some (k,v)->∃p:Addr,ys[j]? =some (V.ref p)/\H p=some (.tup [kV k,v]))/\Q .non (upd H D (.dK (putAll kvs prs))))∨
  (∃o more,vs=[.ref o]/\o≠D/\H o=some (.dK more)/\kvs.length+more.length<=50000/\Q .non (upd H D (.dK (putAll kvs more)))))
theorem HQ(Z:X.calm=true):MtM X "dict.update" Fv:=by
 intro pins s σ H x vs v us Q I rx rv h;obtain⟨D,kvs,rfl,U,h⟩:=h;cases rx;have hh:X.A.handled=none:=I.ok.hd Z;have b1:200000<=YM:=by decide
 obtain⟨z,a6,ds,rel,dd⟩:=ye I.hok U;rcases h with⟨l,ys,prs,rfl,Y,O,hsz,N,q⟩|⟨o,more,rfl,J,hO,hsz,q⟩
 .obtain⟨u,rfl,ru⟩:=rv.one
  cases ru;obtain⟨_,its,n,b0,el⟩:=(show cJ X.prog X.w _ _ l (.lst ys)from I.hok l _ Y);have a4:s.TypeIs (.ref l) "list":=⟨_,el,rfl⟩;refine aft afu dd.typeIs afa (ae0 _ _) (S:=λA R s'=>A=X.A/\s'=s/\∀s2,Inv X pins σ (upd H D (.dK (putAll kvs prs))) s2->R (.ok (.ret .none)) s2) ?_ ⟨rfl,rfl,λs2 I2=>⟨.non,_,I2,rfl,q⟩⟩;rintro A R s' ⟨rfl,rfl,k⟩;unfold Builtin.«dict.update»;refine gD ?_;unfold ad6;refine gD (aeI dd.typeIs ?_);show wpAny _ _ (pure (D,[Zk l])) _ _ _;refine YD ?_;show wpAny _ _ (abP "dict.update" D (.ref l) [] .none) _ _ _;unfold abP;refine gD (ab5 a4 ?_);rw[YZ (by decide)];refine gD (o8 (show X.A.in1.handled=none from hh) el λh2 a0 a2=>?_);rw[YZ (by rfl)];have I2:Inv X pins σ H {s' with heap:=h2,toks:=a0}:=I.kept (t':=a0) a2;obtain⟨a8,b2,p2,_⟩:=I2.list (SqL.of Y);refine gD (acA (gD (abA p2.isList ?_)));have I3:Inv X pins σ H {s' with heap:=h2.push {cls:=.type "list_iterator",data:=.fields #[.ref l,.int 0 0]},toks:=a0}:=I2.kept (t':=a0) λb o e=>za _ e;have a5:lD X pins H h2.objs.size:=I2.fpOk (YK _) (I2.hok.fresh (YK _));refine YD ⟨abx F.plain_dict_update_loop _,?_⟩;refine yV (A:=X.A) (l:=l) (xs:=ys) (prs:=prs) hh O ys.length 0 kvs _ _ rfl (aaN _) I3 U (SqL.of Y) a5 ⟨_,YS _ rfl,rfl,rfl⟩ N 1.11 λs2 I4=>?_;rw[acD]at I4;exact k s2 I4
 .obtain⟨u,rfl,ru⟩:=rv.one
  cases ru;obtain⟨z2,a3,ms,a1,a7⟩:=ye I.hok hO;have l1:=rel.length;have l2:=a1.length;refine aft afu dd.typeIs afa (ae0 _ _) (meets_dict_update (bf X.prog X.w) D o (Zt J) a3) ⟨ds,ms,dd,a7,by omega,λh' d1 d2 B=>?_⟩;have V:∃q,h'.get? D=some q:=let⟨q,_,_,hq,_⟩:=d1;⟨q,hq⟩;have a9:=vB more kvs;exact⟨.non,_,qb (t':=s.toks) I (by rw[U];exact aac) B V (vW 1.11 a6 (yM more rel a1) d1),rfl,q⟩
end Jb
namespace PySem
open PySem.Builtin PySem.Builtin.SmallTypes
def zu(id:String):Builtin:=λargs=>do
 let x ←slotArgs "__next__" 0 args
 match x with
 |(self,snd)=>do
  let seq ←field self 0
  let q:Unit->Sem aen:=λ_=>do
   let y ←field self 1
   match y with
   |abG i tok=>do
    let z ←seqItems? seq
    match z with
    |some xs=>
     match xs[i.toNat]? with
     |some v=>do
      setField self 1 (abU (i+1))
      ret v
     |none=>do
      rule (toString id++toString ".end")
      setField self 0 ZZ
      adE
    |_=>aew (toString "internal:"++toString id)
   |_=>aew (toString "internal:"++toString id)
  if(seq==ZZ)=true then do
   rule (toString id++toString ".ended")
   let r ←adE
   q r
  else q ()
theorem uw:Builtin.«tuple_iterator.__next__»=zu "tuple_iterator.__next__":=rfl
section
variable{prog:Program}{w:World}{A:Around}{E:Value->Shared->Prop}{it t:Addr}{i:Nat}{items:Array Value}{h:Heap}{g:Array GenState}{d:Drawn}{tk:Nat}{os:OsState}
theorem gK{x:Value}{Q:Value->zb->Prop}(st:h.IsTupleIter it t i)(p:h.IsTuple t items)(q:items[i]? =some x)
  (D:∀h',h'.IsTupleIter it t (i+1)->ab2 it h h'->Q x ⟨h',g,d,tk,os⟩):wpAny 1.14 A (abF (.ref it)) Q E ⟨h,g,d,tk,os⟩:=by
 have Y:(⟨h,g,d,tk,os⟩:zb).TypeIs (.ref it) "tuple_iterator":=st.typeIs;unfold abF;refine gD (aaR Y aaB ?_);obtain⟨o,J,Z,hd⟩:=st;obtain⟨I,h1,h2,n,B⟩:=p
 show 1
 refine aaQ aaB.plain adw (aaB.check _ _ _ _ _ _ _ _ Y (ado _) ?_);rw[uw];unfold zu
 show 1
 rw[hd];refine YD (YD ?_);show wpAny _ _ (if(Zk t==ZZ)=true then _ else _) _ _ _;rw[show(Zk t==ZZ)=false from rfl,Zi ZK]
 show 1
 rw[hd];refine YD (YD ?_);show wpAny _ _ (seqItems? (Zk t) >>=_) _ _ _;refine gD (abI h1 B ?_);dsimp only;have hi:(i:Int).toNat=i:=acI i;rw[hi,q];dsimp only;refine gD (wpAny_setField J hd (by show 1<2;decide) ?_);refine YD ?_;dsimp only;refine YD (D _ ?_ ⟨afW ..,λb U=>aaY h _ (Zt U)⟩);refine⟨_,ac6 _ J (aeG (adv hd _)),(afH ..).trans Z,?_⟩;rw[adv hd];have e1:(((i+1:Nat)):Int)=(i:Int)+1:=by omega
 rw[e1];rfl
theorem Nv{α:Type}{Q:α->zb->Prop}(N:A.handled=none)
  (D:∀h' e,(∀b o,h.get? b=some o->h'.get? b=some o)->(∃o,h'.get? e=some o/\o.cls= .type "StopIteration")->E (.ref e) ⟨h',g,d,tk,os⟩):wpAny 1.14 A (adE:Sem α) Q E ⟨h,g,d,tk,os⟩:=by
 unfold adE
 show 1
 unfold raiseNew;refine gD (wpAny_handled ?_);rw[N];dsimp only;exact aev (D _ _ (λb o e=>za _ (za _ e)) ⟨_,YS _ rfl,rfl⟩)
theorem mR{Q:Value->zb->Prop}(N:A.handled=none)(st:h.IsTupleIter it t i)(p:h.IsTuple t items)(hx:items[i]? =none)
  (D:∀h' e,Heap.ExtBut it h h'->(∃o,h'.get? e=some o/\o.cls= .type "StopIteration")->E (.ref e) ⟨h',g,d,tk,os⟩):wpAny 1.14 A (abF (.ref it)) Q E ⟨h,g,d,tk,os⟩:=by
 have Y:(⟨h,g,d,tk,os⟩:zb).TypeIs (.ref it) "tuple_iterator":=st.typeIs;unfold abF;refine gD (aaR Y aaB ?_);obtain⟨o,J,Z,hd⟩:=st;obtain⟨I,h1,h2,n,B⟩:=p
 show 1
 refine aaQ aaB.plain adw (aaB.check _ _ _ _ _ _ _ _ Y (ado _) ?_);rw[uw];unfold zu
 show 1
 rw[hd];refine YD (YD ?_);show wpAny _ _ (if(Zk t==ZZ)=true then _ else _) _ _ _;rw[show(Zk t==ZZ)=false from rfl,Zi ZK]
 show 1
 rw[hd];refine YD (YD ?_);show wpAny _ _ (seqItems? (Zk t) >>=_) _ _ _;refine gD (abI h1 B ?_);dsimp only;have hi:(i:Int).toNat=i:=acI i;rw[hi,hx];dsimp only;refine gD (acA ?_);refine gD (wpAny_setField J hd (by show 0<2;decide) ?_);refine Nv (show A.in1.handled=none from N) λh' e O V=>?_;exact D h' e (λb ob U q=>O b ob ((aaY h _ (Zt U)).trans q)) V
theorem Draws.tuple(N:A.handled=none)(it t:Addr)(q:t≠it)(items:Array Value):Draws prog w A it [it,t] items.size (λi v=>items[i]? =some v) λi h=>h.IsTupleIter it t i/\h.IsTuple t items where
 live:=λi h st=>let⟨o,ho,_⟩:=st.1;⟨o,ho⟩
 frame:=λi h h' st k=>⟨st.1.at λo e=>k it (by simp) o e,let⟨o,h1,h2⟩:=st.2;⟨o,k t (by simp) o h1,h2⟩⟩
 item:=λi s Q E hi st k=>by
  obtain⟨h,g,d,tk,os⟩:=s;refine gK st.1 st.2 (x:=items[i]) (by simp[hi]) λh' Y B=>k _ h' tk (by simp[hi]) ⟨Y,?_⟩ B;obtain⟨o,h1,h2⟩:=st.2;exact⟨o,(B.2 t q).trans h1,h2⟩
 done:=λs Q E st k=>by
  obtain⟨h,g,d,tk,os⟩:=s;exact mR N st.1 st.2 (by simp) λh' e F V=>k h' e F V
theorem Draws.tupleEnd(N:A.handled=none)(it t:Addr)(i:Nat)(items:Array Value)(F:items[i]? =none):Draws prog w A it [it,t] i (λ_ _=>False) λj h=>j=i/\h.IsTupleIter it t i/\h.IsTuple t items where
 live:=λj h st=>let⟨o,ho,_⟩:=st.2.1;⟨o,ho⟩
 frame:=λj h h' st k=>⟨st.1,st.2.1.at λo e=>k it (by simp) o e,let⟨o,h1,h2⟩:=st.2.2;⟨o,k t (by simp) o h1,h2⟩⟩
 item:=λj s Q E q st k=>absurd st.1 (Zb q)
 done:=λs Q E st k=>by
  obtain⟨h,g,d,tk,os⟩:=s;exact mR N st.2.1 st.2.2 F λh' e B V=>k h' e B V
theorem vI{Q:aen->zb->Prop}(N:h.IsTuple t items)
  (D:Q (.done (.ret (.ref (h.objs.size+1)))) ⟨(h.push {cls:=.type "tuple_iterator",data:=.fields #[.ref t,.int 0 0]}).push {cls:=.type "enumerate",data:=.fields #[.none,.bool false,.ref h.objs.size,abU 0,.none,.none]},g,d,tk,os⟩) :
  wpAny 1.14 A (Builtin.«enumerate.__new__» ⟨[.type "enumerate",.ref t],[]⟩) Q E ⟨h,g,d,tk,os⟩:=by
 have q:=sub_enumerate
 show 1
 refine wpAny_stack λst _ _ _=>?_;refine YD ?_;have V:wpAny 1.14 A (do let it ←adZ (.ref t);let r ←agb (aa6 "enumerate") (afC++[it,abU 0,ZZ,ZZ]);ret r) Q E ⟨h,g,d,tk,os⟩:=by
  refine gD (wpAny_pyIter_tuple N ?_)
  show 1
  rw[ZQ];exact D
 dsimp only;split
 .split
  .refine gD (adt (a:=(Zk t,none)) (by rfl) ?_)
   exact V
  .refine gD (adt (a:=(Zk t,none)) (by rfl) ?_)
   exact V
 .rw[Zi (by decide)]
  refine gD (adt (a:=(Zk t,none)) (by rfl) ?_);exact V
theorem oX{Q:Value->zb->Prop}(N:h.IsTuple t items)
  (D:∀h',IsEnum h' (h.objs.size+1) h.objs.size 0 .none->h'.IsTupleIter h.objs.size t 0->h'.objs.size=h.objs.size+2->(∀b o,h.get? b=some o->h'.get? b=some o)->Q (.ref (h.objs.size+1)) ⟨h',g,d,tk,os⟩) :
  wpAny 1.14 A (call (.type "enumerate") [.ref t]) Q E ⟨h,g,d,tk,os⟩:=by
 have e1:((h.push {cls:=.type "tuple_iterator",data:=.fields #[.ref t,.int 0 0]}).push {cls:=.type "enumerate",data:=.fields #[.none,.bool false,.ref h.objs.size,abU 0,.none,.none]}).get? (h.objs.size+1)=some {cls:=.type "enumerate",data:=.fields #[.none,.bool false,.ref h.objs.size,abU 0,.none,.none]}:=by
  rw[←ZQ h {cls:=.type "tuple_iterator",data:=.fields #[.ref t,.int 0 0]}];exact YS _ rfl
 refine callType_newIn F.called_enumerate (by decide) (F.typeCall_enumerate_1 _) (F.newCall_enumerate_1 _) (λobj=>F.args_object_init_2 _ _) F.entry_enumerate_new (S:=λZ R s'=>s'=⟨h,g,d,tk,os⟩/\R (.ok (.ret (.ref (h.objs.size+1)))) ⟨(h.push {cls:=.type "tuple_iterator",data:=.fields #[.ref t,.int 0 0]}).push {cls:=.type "enumerate",data:=.fields #[.none,.bool false,.ref h.objs.size,abU 0,.none,.none]},g,d,tk,os⟩) ?_ ⟨rfl,⟨⟨_,e1,rfl⟩,D _ e1 ⟨_,za _ (YS _ rfl),rfl,rfl⟩ (by rw[ZQ,ZQ]) λb o e=>za _ (za _ e)⟩⟩;rintro Z R s' ⟨rfl,J⟩;exact vI N J
end
end PySem
namespace Jb
open PySem PySem.Spec PyProof.Rows L2
def XH(K:YH)(a:Addr):It:=
 ⟨λi H=>∃xs x,SqT K H a xs/\xs[i]? =some x,λi H x H'=>∃p v,H p=none/\x= .ref p/\(∀xs,SqT K H a xs->xs[i]? =some v)/\H'=upd H p (.tup [.int i,v]),λi H=>∃xs,SqT K H a xs/\xs.length<=i⟩
theorem DP{K:YH}{x1}(a e it:Addr)(a2:e≠it)(a7:e≠a)(b2:it≠a) :
  Turn P w K (.Tuple elts x1 pos) (XH K a) [e,it] e (λi h=>(∃a0,IsEnum h e it (i:Int) a0)/\h.IsTupleIter it a i)where
 mem:=by simp
 obj:=λi h st b U=>by
  obtain⟨⟨a0,V⟩,o,J,c,d⟩:=st;rcases YJ.mp U with z|z
  .subst z
   exact⟨_,V,λv z=>by cases z⟩
  .have z:b=it:=by simpa using z
   subst z;exact⟨o,J,λv z=>by rw[d]at z;cases z⟩
 keep:=λi h h' st k=>by
  obtain⟨⟨a0,V⟩,a1⟩:=st;exact⟨⟨a0,k e (by simp) _ V⟩,a1.at λo q=>k it (by simp) o q⟩
 item:=by
  intro X hP B hK Z i pins s σ H E I O st hg;subst hP B hK;obtain⟨xs,x,D,F⟩:=hg;obtain⟨its,N,p,hz⟩:=I.tuple D;obtain⟨u,hu,ru⟩:=N.get F;obtain⟨⟨a0,V⟩,a1⟩:=st;have b0:i<its.toArray.size:=by simp;exact(List.getElem?_eq_some_iff.mp hu).1
  have p':s.heap.IsTuple a its.toArray:=p;refine wpAny_pyNext_enum_itemD (Draws.tuple (show X.A.in1.handled=none from I.ok.hd Z) it a (Zt b2) its.toArray) V ⟨a1,p'⟩ b0 a2 (λz=>by rcases YJ.mp z with q|q;exact a2 q;exact a7 (ZM.mp q)) λy h1 tk hy a8 a5 b3 b4 k1=>?_;have ey:y=u:=by
   have:its[i]? =some y:=by simpa using hy
   rw[hu]at this;exact(Z_ this).symm
  subst ey;refine⟨.ref s.heap.objs.size,rfl,adD a8 λh2 a9 a3=>?_⟩;have b1:e<s.heap.objs.size:=YG V;have a4:s.heap.objs.size≠e:=aaA b1;have a6:h2.get? s.heap.objs.size=some {cls:=.type "tuple",data:=.seq #[.int i tk,y]}:=a3.extBut _ _ a4 b3;have I2:Inv X pins σ (upd H s.heap.objs.size (.tup [.int i,x])) {s with heap:=h2,toks:=tk+1}:=by
   refine rF (fp:=[e,it]) (t':=tk+1) I O (λb o U q=>?_) (YK _) ?_
   .have n1:b≠e:=λz=>U (by simp[z])
    have n2:b≠it:=λz=>U (by simp[z]);exact a3.extBut b o n1 (k1 b o n1 n2 q)
   .exact⟨by show 2<=YM;decide,[.int i tk,y],.cons ⟨_,rfl⟩ (.cons ru .nil),_,a6,rfl,_,rfl,rfl⟩
  refine⟨.ref s.heap.objs.size,upd H s.heap.objs.size (.tup [.int i,x]),I2,rfl,⟨_,x,I.hok.fresh (YK _),rfl,λys hy=>by rw[I.tuple_inj hy D];exact F,rfl⟩,?_,λb U=>?_⟩
  .refine⟨⟨y,?_⟩,a5.1.extBut a3.extBut (Zt a2)⟩
   have e1:(((i+1:Nat)):Int)=(i:Int)+1:=by omega
   rw[e1];exact a9
  .rw[aM]
   .exact(O b U).1
   .intro z
    rw[z]at U;rcases YJ.mp U with q|q
    .exact a4 q
    .have q:s.heap.objs.size=it:=by simpa using q
     obtain⟨o,J,_⟩:=a1;exact absurd (YG J) (by rw[q];exact aai _)
 done:=by
  intro X hP B hK Z i pins s σ H E I O st hg;subst hP B hK;obtain⟨xs,D,F⟩:=hg;obtain⟨its,N,p,hz⟩:=I.tuple D;obtain⟨⟨a0,V⟩,a1⟩:=st;have Y:=N.length;have p':s.heap.IsTuple a its.toArray:=p;refine wpAny_pyNext_enum_endD (Draws.tupleEnd (show X.A.in1.handled=none from I.ok.hd Z) it a i its.toArray (by simp;omega)) V ⟨rfl,a1,p'⟩ λh1 eb=>⟨rfl,?_⟩;exact kE (fp:=[e,it]) (t':=s.toks) I O λb o U q=>eb b o (λz=>U (by simp[z])) q
 self:=λA i s Q E st h=>by
  obtain⟨⟨a0,V⟩,_⟩:=st;exact acK V h
def Mi(K:YH)(ta:TA):TI:=λσ H R=>ta σ H λvs H1=>∃a,vs=[.ref a]/\(((∃xs,SqL K H1 a xs)/\R (Ite K a) H1)∨((∃xs,SqT K H1 a xs)/\R (XH K a) H1))
variable{X:Cx}{p:Pos}
theorem Kd{a:Expr}{ta:TA}{x1}(hg:Gl X "enumerate")(hm:X.mg "enumerate"=none)(Y:PA X [a] ta)(B:YQ [a] X.env=[(false,eval a X.env)]:=by rfl):PI X (.Tuple elts x1 tpos) (.Call (.Name "enumerate" p) [a] [] pos) (Mi X.K ta):=by
 intro pins s σ H R I h;refine Call_ (pC I hg hm boot_enumerate (aaU (thn (Y pos pins s σ H _ I h) λus O ⟨vs,H1,F,r1,q1⟩=>?_) B rfl));obtain⟨l,e,q⟩:=q1;subst e;obtain⟨u,rfl,ru⟩:=vals1 r1;cases ru;have a3:∀b∈[O.heap.objs.size+1,O.heap.objs.size],lD X pins H1 b:=λb U=>by
  have a1:O.heap.objs.size<=b:=by
   rcases YJ.mp U with z|z
   .rw[z];exact adq _
   .have z:b=O.heap.objs.size:=by simpa using z
    rw[z];exact YK _
  exact F.fpOk a1 (F.hok.fresh a1)
 rcases q with⟨⟨xs,D⟩,q⟩|⟨⟨xs,D⟩,q⟩
 .obtain⟨its,rv,pl,hz⟩:=F.list D
  refine call_enumerate_list pl.isList λh1 V Z hsz k1=>?_;have J:Inv X pins σ H1 {O with heap:=h1}:=F.kept (t':=O.toks) k1;refine acK V ?_;exact⟨O.heap.objs.size+1,[O.heap.objs.size+1,O.heap.objs.size],_,_,H1,rfl,J,Je l _ _ (afX _),⟨⟨_,V⟩,Z⟩,a3,q⟩
 .obtain⟨its,rv,pl,hz⟩:=F.tuple D
  have a0:O.heap.IsTuple l its.toArray:=pl;have a2:l<O.heap.objs.size:=let⟨_,h1,_⟩:=a0;YG h1;obtain⟨N,g,d,tk,os⟩:=O;refine oX a0 λh1 V Z hsz k1=>?_;have J:Inv X pins σ H1 {heap:=h1,gens:=g,drawn:=d,toks:=tk,os:=os}:=F.kept (t':=tk) k1;refine acK V ?_;exact⟨N.objs.size+1,[N.objs.size+1,N.objs.size],_,_,H1,rfl,J,DP l _ _ (afX _) (aaA (aaT a2)) (aaA a2),⟨⟨_,V⟩,Z⟩,a3,q⟩
def WD(K:YH)(te:TE):TI:=λσ H R=>te σ H λx H1=>∃a,x= .ref a/\(((∃xs,SqL K H1 a xs)/\R (Itl K a) H1)∨((∃xs,SqT K H1 a xs)/\R (Itt K a) H1))
variable{te:TE}
theorem VM(Y:PE X e te):PI X tg e (WD X.K te):=by
 intro pins s σ H R I h;refine thn (Y pins s σ H _ I h) λv O ⟨x,H1,F,B,q1⟩=>?_;obtain⟨a,ex,q⟩:=q1;subst ex;cases B;have V:∀b∈[O.heap.objs.size],lD X pins H1 b:=λb U=>by
  rw[ZM.mp U];exact F.fpOk (YK _) (F.hok.fresh (YK _))
 rcases q with⟨⟨xs,D⟩,q⟩|⟨⟨xs,D⟩,q⟩
 .obtain⟨its,rv,p,hz⟩:=F.list D
  refine abA p.isList ?_;exact⟨O.heap.objs.size,[O.heap.objs.size],_,_,H1,rfl,F.kept (t':=O.toks) λb o e=>za _ e,Ir a _,⟨_,YS _ rfl,rfl,rfl⟩,V,q⟩
 .obtain⟨its,rv,p,hz⟩:=F.tuple D
  refine wpAny_pyIter_tuple (show O.heap.IsTuple a its.toArray from p) ?_;exact⟨O.heap.objs.size,[O.heap.objs.size],_,_,H1,rfl,F.kept (t':=O.toks) λb o e=>za _ e,Dy a _,⟨_,YS _ rfl,rfl,rfl⟩,V,q⟩
inductive Mk where
 |own|frz|brw|bro|scr
 deriving DecidableEq
inductive D where
 |non|bl (b:Bool)|int (i:Int)|str (x:Str)|ty (n:String)
 |tup (ds:List D)
 |lst (m:Mk) (ds:List D)
 |dct (m:Mk) (ks:List Key) (ds:List D)
 |ins (m:Mk) (c:Str) (fs:List Str) (ds:List D)
structure Gc where
 K:YH
 mg:Str->Option Value
structure Wn where
 n:Addr->Prop
 s:Addr->Prop
 o:Addr->Prop
def Wn.free(W:Wn)(a:Addr):Prop:=¬W.n a/\¬W.s a/\¬W.o a
def KO(K:YH)(a:Addr)(o:HO):Prop:=∃xs,o= .lst xs/\∃(ob:Obj)(its:Array Value)(n:Nat),K.lookup a=some ob/\ob.cls= .type "list"/\ob.dict=none/\ob.data= .seq its n/\its.size<=YM/\Vals xs its.toList
def dW(D:Addr->HO->Prop)(H:Hp)(W:Wn)(a:Addr)(o:HO):Mk->List Addr->List Addr->Prop
 |.own,L,M=>H a=some o/\L=a::M
 |.frz,L,M=>H a=some o/\W.free a/\M=[]/\L=[]
 |.brw,L,M=>H a=some o/\W.s a/\M=[]/\L=[]
 |.bro,L,M=>H a=some o/\M=[]/\L=[]
 |.scr,L,M=>((Rd H a o/\W.free a)∨D a o)/\M=[]/\L=[]
variable{H:Hp}{W:Wn}{o:HO}{m:Mk}
theorem dW.sub{D:Addr->HO->Prop}(h:dW D H W a o m L M):aav M L:=by
 cases m with
 |own=>rw[h.2];exact List.sublist_cons_self a M
 |frz=>rw[h.2.2.1];exact ac0 L
 |brw=>rw[h.2.2.1];exact ac0 L
 |bro=>rw[h.2.1];exact ac0 L
 |scr=>rw[h.2.1];exact ac0 L
theorem dW.rx{D:Addr->HO->Prop}(h:dW D H W a o m L M):Rd H a o∨D a o:=by
 cases m with
 |own=>exact .inl (.inl h.1)
 |frz=>exact .inl (.inl h.1)
 |brw=>exact .inl (.inl h.1)
 |bro=>exact .inl (.inl h.1)
 |scr=>exact h.1.imp (λz=>z.1) id
variable{xs:List V}
theorem dW.sq{K:YH}(h:dW (KO K) H W a (.lst xs) m L M):SqL K H a xs:=by
 rcases h.rx with z|⟨ys,e,z⟩
 .exact .inl z
 .cases e
  exact .inr z
variable{kvs:List (Key×V)}
theorem dW.rdD{K:YH}(h:dW (KO K) H W a (.dK kvs) m L M):Rd H a (.dK kvs):=by
 rcases h.rx with z|⟨ys,e,z⟩
 .exact z
 .cases e
theorem dW.at{D:Addr->HO->Prop}(h:dW D H W a o m L M)(N:m≠.scr):H a=some o:=by
 cases m with
 |own=>exact h.1
 |frz=>exact h.1
 |brw=>exact h.1
 |bro=>exact h.1
 |scr=>exact absurd rfl N
mutual
noncomputable def Rep(G:Gc)(H:Hp)(W:Wn):D->V->List Addr->Prop
 |.non,v,L=>v= .non/\L=[]
 |.bl b,v,L=>v= .bl b/\L=[]
 |.int i,v,L=>v= .int i/\L=[]
 |.str x,v,L=>v= .str x/\L=[]
 |.ty n,v,L=>v= .ty n/\L=[]
 |.tup ds,v,L=>∃a xs,v= .ref a/\H a=some (.tup xs)/\aH G H W ds xs L
 |.lst m ds,v,L=>∃a xs M,v= .ref a/\aH G H W ds xs M/\dW (KO G.K) H W a (.lst xs) m L M
 |.dct m ks ds,v,L=>∃a kvs M,v= .ref a/\(List.map (·.1) kvs=ks/\ks.Nodup)/\aH G H W ds (List.map (·.2) kvs) M/\dW (KO G.K) H W a (.dK kvs) m L M
 |.ins m c fs ds,v,L=>∃a C dx kvs M,v= .ref a/\G.mg c=some (.ref C)/\List.map (·.1) kvs=fs/\aH G H W ds (List.map (·.2) kvs) M/\dW (KO G.K) H W a (.ins C dx kvs) m L M
noncomputable def aH(G:Gc)(H:Hp)(W:Wn):List D->List V->List Addr->Prop
 |[],xs,L=>xs=[]/\L=[]
 |d::r,xs,L=>∃x ys M M',xs=x::ys/\L=M++M'/\Rep G H W d x M/\aH G H W r ys M'
end
variable{G:Gc}
theorem aH.nil:aH G H W [] [] []:=by simp[aH]
theorem aH.cons{d:D}{r:List D}{x:V}{ys:List V}{M M':List Addr}(h:Rep G H W d x M)(t:aH G H W r ys M'):aH G H W (d::r) (x::ys) (M++M'):=by
 rw[aH];exact⟨x,ys,M,M',rfl,rfl,h,t⟩
variable{d:D}
theorem aH.one{x:V}(h:Rep G H W d x M):aH G H W [d] [x] M:=by
 have:=aH.cons h aH.nil;rwa[List.append_nil]at this
theorem aH.inv{r:List D}(h:aH G H W (d::r) xs L):∃x ys M M',xs=x::ys/\L=M++M'/\Rep G H W d x M/\aH G H W r ys M':=by
 rw[aH]at h;exact h
theorem aH.inv0(h:aH G H W [] xs L):xs=[]/\L=[]:=by
 rw[aH]at h;exact h
theorem aH.length:∀{ds:List D}{xs:List V}{L:List Addr},aH G H W ds xs L->ds.length=xs.length
 |[],xs,L,h=>by rw[h.inv0.1];rfl
 |d::r,xs,L,h=>by
  obtain⟨x,ys,M,M',rfl,_,_,h⟩:=h.inv;simp[aH.length h]
theorem aH.append:∀{ds es:List D}{xs ys:List V}{L M:List Addr},aH G H W ds xs L->aH G H W es ys M->aH G H W (ds++es) (xs++ys) (L++M)
 |[],es,xs,ys,L,M,h,h'=>by obtain⟨rfl,rfl⟩:=h.inv0;exact h'
 |d::r,es,xs,ys,L,M,h,h'=>by
  obtain⟨x,zs,A,B,rfl,rfl,h1,h2⟩:=h.inv;rw[ab1];exact .cons h1 (aH.append h2 h')
theorem aH.split:∀{ds es:List D}{xs:List V}{L:List Addr},aH G H W (ds++es) xs L->∃ys zs A B,xs=ys++zs/\L=A++B/\aH G H W ds ys A/\aH G H W es zs B
 |[],es,xs,L,h=>⟨[],xs,[],L,rfl,rfl,.nil,h⟩
 |d::r,es,xs,L,h=>by
  obtain⟨x,zs,A,B,rfl,rfl,h1,h2⟩:=aH.inv (r:=r++es) h;obtain⟨ys,ws,F,q,rfl,rfl,I,Z⟩:=aH.split h2;exact⟨x::ys,ws,A++F,q,rfl,by rw[ab1],.cons h1 I,Z⟩
variable{ds:List D}
theorem aH.at(h:aH G H W ds xs L)(e:ds[j]? =some d) :
  ∃A B x ys zs I M J,ds=A++d::B/\A.length=j/\xs=ys++x::zs/\ys.length=j/\L=I++(M++J)/\aH G H W A ys I/\Rep G H W d x M/\aH G H W B zs J:=by
 have F:j<ds.length:=(List.getElem?_eq_some_iff.mp e).1;have hd:ds=ds.take j++d::ds.drop (j+1):=by
  have:ds[j]=d:=(List.getElem?_eq_some_iff.mp e).2;rw[←this,abj,ac7]
 rw[hd]at h;obtain⟨ys,zs,A,B,rfl,rfl,h1,h2⟩:=aH.split h;obtain⟨x,ws,M,M',rfl,rfl,q,Z⟩:=h2.inv;have Y:(ds.take j).length=j:=by rw[abK];omega
 exact⟨_,_,x,ys,ws,A,M,M',hd,Y,rfl,by rw[←h1.length];exact Y,rfl,h1,q,Z⟩
theorem aH.get(h:aH G H W ds xs L)(e:ds[j]? =some d):∃x M,xs[j]? =some x/\Rep G H W d x M/\aav M L:=by
 obtain⟨A,B,x,ys,zs,I,M,J,_,_,rfl,Y,rfl,_,h,_⟩:=h.at e;exact⟨x,M,by rw[aad 1.11,Y,abM];rfl,h,(acx M J).trans (aat I _)⟩
def muO:HO->Bool
 |.lst _=>true
 |.dK _=>true
 |.ins _ _ _=>true
 |_=>false
def Mu(H:Hp)(a:Addr):Prop:=∃o,H a=some o/\muO o=true
mutual
noncomputable def aD:D->Bool
 |.tup ds=>au ds
 |.lst m ds=>m != .brw&&au ds
 |.dct m _ ds=>m != .brw&&au ds
 |.ins m _ _ ds=>m != .brw&&au ds
 |_=>true
noncomputable def au:List D->Bool
 |[]=>true
 |d::r=>aD d&&au r
end
mutual
noncomputable def aB:D->Bool
 |.tup ds=>aA ds
 |.lst m ds=>m != .bro&&aA ds
 |.dct m _ ds=>m != .bro&&aA ds
 |.ins m _ _ ds=>m != .bro&&aA ds
 |_=>true
noncomputable def aA:List D->Bool
 |[]=>true
 |d::r=>aB d&&aA r
end
def clean(d:D):Bool:=aD d&&aB d
structure Evo(H H':Hp)(W W':Wn):Prop where
 k:∀b u,H b=some u->W.free b->H' b=some u/\W'.free b
 t:∀b xs,H b=some (.tup xs)->H' b=some (.tup xs)
def J9(H H':Hp)(W W':Wn):Prop:=∀b u,H b=some u->W.s b->H' b=some u/\W'.s b
variable{H':Hp}{W':Wn}
theorem Evo.rd(e:Evo H H' W W')(h:Rd H a o)(f:W.free a):Rd H' a o/\W'.free a:=by
 rcases h with h|⟨u,h⟩
 .exact⟨.inl (e.k a _ h f).1,(e.k a _ h f).2⟩
 .exact⟨.inr ⟨u,(e.k a _ h f).1⟩,(e.k a _ h f).2⟩
theorem dW.mono{D:Addr->HO->Prop}(e:Evo H H' W W')(h:dW D H W a o m L M)(U:m≠.brw∨J9 H H' W W')(J:m≠.bro∨Same H H')(O:∀c∈L,∀u,H c=some u->H' c=some u):dW D H' W' a o m L M:=by
 cases m with
 |own=>exact⟨O a (by rw[h.2];simp) o h.1,h.2⟩
 |frz=>exact⟨(e.k a o h.1 h.2.1).1,(e.k a o h.1 h.2.1).2,h.2.2⟩
 |brw=>
  have q:=(U.resolve_left λz=>z rfl) a o h.1 h.2.1;exact⟨q.1,q.2,h.2.2⟩
 |bro=>exact⟨(J.resolve_left λz=>z rfl) a o h.1,h.2⟩
 |scr=>exact⟨h.1.imp (λz=>e.rd z.1 z.2) id,h.2⟩
theorem Same.rd(s:Same H H')(h:Rd H a o):Rd H' a o:=h.imp (s _ _) λ⟨u,z⟩=>⟨u,s _ _ z⟩
mutual
theorem Rep.mono(e:Evo H H' W W'):∀{d:D}{v:V}{L:List Addr},Rep G H W d v L->(aD d=true∨J9 H H' W W')->(aB d=true∨Same H H')->(∀c∈L,∀u,H c=some u->H' c=some u)->Rep G H' W' d v L
 |.non,v,L,h,_,_,_=>by rw[Rep]at h⊢;exact h
 |.bl _,v,L,h,_,_,_=>by rw[Rep]at h⊢;exact h
 |.int _,v,L,h,_,_,_=>by rw[Rep]at h⊢;exact h
 |.str _,v,L,h,_,_,_=>by rw[Rep]at h⊢;exact h
 |.ty _,v,L,h,_,_,_=>by rw[Rep]at h⊢;exact h
 |.tup ds,v,L,h,b,o,hl=>by
  rw[Rep]at h⊢;obtain⟨a,xs,rfl,U,O⟩:=h;exact⟨a,xs,rfl,e.t a xs U,aH.mono e O (by simpa[aD]using b) (by simpa[aB]using o) hl⟩
 |.lst m ds,v,L,h,b,o,hl=>by
  rw[Rep]at h⊢;obtain⟨a,xs,M,rfl,O,B⟩:=h;exact⟨a,xs,M,rfl,aH.mono e O (b.imp (λz=>by simp[aD]at z;exact z.2) id) (o.imp (λz=>by simp[aB]at z;exact z.2) id) λc Z=>hl c (B.sub.subset Z),B.mono e (b.imp (λz=>by simp[aD]at z;exact z.1) id) (o.imp (λz=>by simp[aB]at z;exact z.1) id) hl⟩
 |.dct m ks ds,v,L,h,b,o,hl=>by
  rw[Rep]at h⊢;obtain⟨a,xs,M,rfl,I,O,B⟩:=h;exact⟨a,xs,M,rfl,I,aH.mono e O (b.imp (λz=>by simp[aD]at z;exact z.2) id) (o.imp (λz=>by simp[aB]at z;exact z.2) id) λc Z=>hl c (B.sub.subset Z),B.mono e (b.imp (λz=>by simp[aD]at z;exact z.1) id) (o.imp (λz=>by simp[aB]at z;exact z.1) id) hl⟩
 |.ins m c fs ds,v,L,h,b,o,hl=>by
  rw[Rep]at h⊢;obtain⟨a,C,dx,xs,M,rfl,J,I,O,B⟩:=h;exact⟨a,C,dx,xs,M,rfl,J,I,aH.mono e O (b.imp (λz=>by simp[aD]at z;exact z.2) id) (o.imp (λz=>by simp[aB]at z;exact z.2) id) λc Z=>hl c (B.sub.subset Z),B.mono e (b.imp (λz=>by simp[aD]at z;exact z.1) id) (o.imp (λz=>by simp[aB]at z;exact z.1) id) hl⟩
theorem aH.mono(e:Evo H H' W W'):∀{ds:List D}{vs:List V}{L:List Addr},aH G H W ds vs L->(au ds=true∨J9 H H' W W')->(aA ds=true∨Same H H')->(∀c∈L,∀u,H c=some u->H' c=some u)->aH G H' W' ds vs L
 |[],vs,L,h,_,_,_=>by rw[aH]at h⊢;exact h
 |d::r,vs,L,h,b,o,hl=>by
  obtain⟨x,ys,M,M',rfl,rfl,h1,h2⟩:=h.inv;exact .cons (Rep.mono e h1 (b.imp (λz=>by simp[au]at z;exact z.1) id) (o.imp (λz=>by simp[aA]at z;exact z.1) id) λb U=>hl b (Za _ U))
   (aH.mono e h2 (b.imp (λz=>by simp[au]at z;exact z.2) id) (o.imp (λz=>by simp[aA]at z;exact z.2) id) λb U=>hl b (zc _ U))
end
structure Up(H H':Hp)(W W':Wn):Prop where
 s:Same H H'
 f:∀b u,H b=some u->W.free b->W'.free b
 n:∀b u,H b=some u->W.s b->W'.s b
theorem Up.evo(u:Up H H' W W'):Evo H H' W W':=⟨λb o h f=>⟨u.s b o h,u.f b o h f⟩,λb xs h=>u.s b _ h⟩
theorem Up.evoN(u:Up H H' W W'):J9 H H' W W':=λb o h f=>⟨u.s b o h,u.n b o h f⟩
theorem Up.refl:Up H H W W:=⟨Same.refl H,λ_ _ _ f=>f,λ_ _ _ f=>f⟩
variable{H2:Hp}
theorem Up.trans{I:Wn}(a:Up H H' W W')(b:Up H' H2 W' I):Up H H2 W I:=⟨a.s.trans b.s,λc u h f=>b.f c u (a.s c u h) (a.f c u h f),λc u h f=>b.n c u (a.s c u h) (a.n c u h f)⟩
variable{v:V}
theorem Rep.up(h:Rep G H W d v L)(u:Up H H' W W'):Rep G H' W' d v L:=h.mono u.evo (.inr u.evoN) (.inr u.s) λc _ o e=>u.s c o e
theorem aH.up{d:List D}{v:List V}(h:aH G H W d v L)(u:Up H H' W W'):aH G H' W' d v L:=h.mono u.evo (.inr u.evoN) (.inr u.s) λc _ o e=>u.s c o e
def Wn.add(W:Wn)(L:List Addr):Wn:=⟨λa=>a∈L∨W.n a,W.s,W.o⟩
theorem Up.add(s:Same H H')(O:∀a∈L,H a=none):Up H H' W (W.add L):=⟨s,λb u h f=>⟨λz=>z.elim (λz=>by rw[O b z]at h;cases h) f.1,f.2⟩,λb u h f=>f⟩
theorem Up.same(s:Same H H'):Up H H' W W:=⟨s,λ_ _ _ f=>f,λ_ _ _ f=>f⟩
def mkV(ob:Bool):Mk->Mk
 |.own=>if ob then .bro else .brw
 |m=>m
def mkF:Mk->Mk
 |.scr=>.scr
 |_=>.frz
mutual
noncomputable def view(ob:Bool):D->D
 |.tup ds=>.tup (cL ob ds)
 |.lst m ds=>.lst (mkV ob m) (cL ob ds)
 |.dct m ks ds=>.dct (mkV ob m) ks (cL ob ds)
 |.ins m c fs ds=>.ins (mkV ob m) c fs (cL ob ds)
 |d=>d
noncomputable def cL(ob:Bool):List D->List D
 |[]=>[]
 |d::r=>view ob d::cL ob r
end
mutual
noncomputable def fz:D->D
 |.tup ds=>.tup (fzL ds)
 |.lst m ds=>.lst (mkF m) (fzL ds)
 |.dct m ks ds=>.dct (mkF m) ks (fzL ds)
 |.ins m c fs ds=>.ins (mkF m) c fs (fzL ds)
 |d=>d
noncomputable def fzL:List D->List D
 |[]=>[]
 |d::r=>fz d::fzL r
end
theorem cN(ob:Bool):∀ds:List D,cL ob ds=ds.map (view ob)
 |[]=>rfl
 |d::r=>by rw[cL,cN ob r];rfl
theorem g_:∀ds:List D,fzL ds=ds.map fz
 |[]=>rfl
 |d::r=>by rw[fzL,g_ r];rfl
theorem dW.view{D:Addr->HO->Prop}{ob:Bool}(hn:ob=false->∀c∈L,W.s c)(h:dW D H W a o m L M):dW D H W a o (mkV ob m) [] []:=by
 cases m with
 |own=>
  cases ob with
  |false=>exact⟨h.1,hn rfl a (by rw[h.2];simp),rfl,rfl⟩
  |true=>exact⟨h.1,rfl,rfl⟩
 |frz=>exact⟨h.1,h.2.1,rfl,rfl⟩
 |brw=>exact⟨h.1,h.2.1,rfl,rfl⟩
 |bro=>exact⟨h.1,rfl,rfl⟩
 |scr=>exact⟨h.1,rfl,rfl⟩
mutual
theorem Rep.view{ob:Bool}:∀{d:D}{v:V}{L:List Addr},Rep G H W d v L->(ob=false->∀c∈L,W.s c)->Rep G H W (view ob d) v []
 |.non,v,L,h,_=>by rw[Rep]at h;simp[Jb.view,Rep,h]
 |.bl _,v,L,h,_=>by rw[Rep]at h;simp[Jb.view,Rep,h]
 |.int _,v,L,h,_=>by rw[Rep]at h;simp[Jb.view,Rep,h]
 |.str _,v,L,h,_=>by rw[Rep]at h;simp[Jb.view,Rep,h]
 |.ty _,v,L,h,_=>by rw[Rep]at h;simp[Jb.view,Rep,h]
 |.tup ds,v,L,h,hn=>by
  rw[Rep]at h;rw[Jb.view,Rep];obtain⟨a,xs,rfl,U,O⟩:=h;exact⟨a,xs,rfl,U,aH.view O hn⟩
 |.lst m ds,v,L,h,hn=>by
  rw[Rep]at h;rw[Jb.view,Rep];obtain⟨a,xs,M,rfl,O,B⟩:=h;exact⟨a,xs,[],rfl,aH.view O λz c Z=>hn z c (B.sub.subset Z),B.view hn⟩
 |.dct m ks ds,v,L,h,hn=>by
  rw[Rep]at h;rw[Jb.view,Rep];obtain⟨a,xs,M,rfl,I,O,B⟩:=h;exact⟨a,xs,[],rfl,I,aH.view O λz c Z=>hn z c (B.sub.subset Z),B.view hn⟩
 |.ins m c fs ds,v,L,h,hn=>by
  rw[Rep]at h;rw[Jb.view,Rep];obtain⟨a,C,dx,xs,M,rfl,J,I,O,B⟩:=h;exact⟨a,C,dx,xs,[],rfl,J,I,aH.view O λz c Z=>hn z c (B.sub.subset Z),B.view hn⟩
theorem aH.view{ob:Bool}:∀{ds:List D}{vs:List V}{L:List Addr},aH G H W ds vs L->(ob=false->∀c∈L,W.s c)->aH G H W (cL ob ds) vs []
 |[],vs,L,h,_=>by obtain⟨rfl,_⟩:=h.inv0;rw[cL];exact .nil
 |d::r,vs,L,h,hn=>by
  obtain⟨x,ys,M,M',rfl,rfl,h1,h2⟩:=h.inv;rw[cL];exact .cons (M:=[]) (M':=[]) (Rep.view h1 λz c Z=>hn z c (Za _ Z)) (aH.view h2 λz c Z=>hn z c (zc _ Z))
end
structure Les(H:Hp)(W W':Wn)(L:List Addr):Prop where
 f:∀a,W.free a->W'.free a
 l:∀a∈L,W'.free a
theorem Les.sub(h:Les H W W' L)(s:∀a∈M,a∈L):Les H W W' M:=⟨h.f,λa Y=>h.l a (s a Y)⟩
def pN(W:Wn):Prop:=∀a,W.free a
theorem dW.fz{D:Addr->HO->Prop}(B:Les H W W' L)(hn:(m≠.brw/\m≠.bro)∨pN W')(h:dW D H W a o m L M):dW D H W' a o (mkF m) [] []:=by
 cases m with
 |own=>exact⟨h.1,B.l a (by rw[h.2];simp),rfl,rfl⟩
 |frz=>exact⟨h.1,B.f a h.2.1,rfl,rfl⟩
 |brw=>exact⟨h.1,hn.elim (λz=>absurd rfl z.1) λz=>z a,rfl,rfl⟩
 |bro=>exact⟨h.1,hn.elim (λz=>absurd rfl z.2) λz=>z a,rfl,rfl⟩
 |scr=>exact⟨h.1.imp (λz=>⟨z.1,B.f a z.2⟩) id,rfl,rfl⟩
mutual
theorem Rep.fz:∀{d:D}{v:V}{L:List Addr},Rep G H W d v L->Les H W W' L->(clean d=true∨pN W')->Rep G H W' (fz d) v []
 |.non,v,L,h,_,_=>by rw[Rep]at h;simp[Jb.fz,Rep,h]
 |.bl _,v,L,h,_,_=>by rw[Rep]at h;simp[Jb.fz,Rep,h]
 |.int _,v,L,h,_,_=>by rw[Rep]at h;simp[Jb.fz,Rep,h]
 |.str _,v,L,h,_,_=>by rw[Rep]at h;simp[Jb.fz,Rep,h]
 |.ty _,v,L,h,_,_=>by rw[Rep]at h;simp[Jb.fz,Rep,h]
 |.tup ds,v,L,h,B,c=>by
  rw[Rep]at h;rw[Jb.fz,Rep];obtain⟨a,xs,rfl,U,O⟩:=h;exact⟨a,xs,rfl,U,aH.fz O B (c.imp (λz=>by simpa[clean,aD,aB]using z) id)⟩
 |.lst m ds,v,L,h,he,c=>by
  rw[Rep]at h;rw[Jb.fz,Rep];obtain⟨a,xs,M,rfl,O,B⟩:=h;exact⟨a,xs,[],rfl,aH.fz O (he.sub λc Z=>B.sub.subset Z) (c.imp (λz=>by simp[clean,aD,aB]at z;exact⟨z.1.2,z.2.2⟩) id),B.fz he (c.imp (λz=>by simp[clean,aD,aB]at z;exact⟨z.1.1,z.2.1⟩) id)⟩
 |.dct m ks ds,v,L,h,he,c=>by
  rw[Rep]at h;rw[Jb.fz,Rep];obtain⟨a,xs,M,rfl,I,O,B⟩:=h;exact⟨a,xs,[],rfl,I,aH.fz O (he.sub λc Z=>B.sub.subset Z) (c.imp (λz=>by simp[clean,aD,aB]at z;exact⟨z.1.2,z.2.2⟩) id),B.fz he (c.imp (λz=>by simp[clean,aD,aB]at z;exact⟨z.1.1,z.2.1⟩) id)⟩
 |.ins m c' fs ds,v,L,h,he,c=>by
  rw[Rep]at h;rw[Jb.fz,Rep];obtain⟨a,C,dx,xs,M,rfl,J,I,O,B⟩:=h;exact⟨a,C,dx,xs,[],rfl,J,I,aH.fz O (he.sub λc Z=>B.sub.subset Z) (c.imp (λz=>by simp[clean,aD,aB]at z;exact⟨z.1.2,z.2.2⟩) id),B.fz he (c.imp (λz=>by simp[clean,aD,aB]at z;exact⟨z.1.1,z.2.1⟩) id)⟩
theorem aH.fz:∀{ds:List D}{vs:List V}{L:List Addr},aH G H W ds vs L->Les H W W' L->((au ds=true/\aA ds=true)∨pN W')->aH G H W' (fzL ds) vs []
 |[],vs,L,h,_,_=>by obtain⟨rfl,_⟩:=h.inv0;rw[fzL];exact .nil
 |d::r,vs,L,h,he,c=>by
  obtain⟨x,ys,M,M',rfl,rfl,h1,h2⟩:=h.inv;rw[fzL];exact .cons (M:=[]) (M':=[]) (Rep.fz h1 (he.sub λc Z=>Za _ Z) (c.imp (λz=>by simp[clean,au,aA]at z⊢;exact⟨z.1.1,z.2.1⟩) id))
   (aH.fz h2 (he.sub λc Z=>zc _ Z) (c.imp (λz=>by simp[clean,au,aA]at z⊢;exact⟨z.1.2,z.2.2⟩) id))
end
mutual
theorem Bb:∀d:D,aD (Jb.fz d)=true
 |.non=>rfl|.bl _=>rfl|.int _=>rfl|.str _=>rfl|.ty _=>rfl
 |.tup ds=>by simp[Jb.fz,aD,ie ds]
 |.lst m ds=>by cases m<;>simp[Jb.fz,aD,ie ds,mkF]
 |.dct m _ ds=>by cases m<;>simp[Jb.fz,aD,ie ds,mkF]
 |.ins m _ _ ds=>by cases m<;>simp[Jb.fz,aD,ie ds,mkF]
theorem ie:∀ds:List D,au (fzL ds)=true
 |[]=>rfl
 |d::r=>by simp[fzL,au,Bb d,ie r]
end
mutual
theorem De:∀d:D,aB (Jb.fz d)=true
 |.non=>rfl|.bl _=>rfl|.int _=>rfl|.str _=>rfl|.ty _=>rfl
 |.tup ds=>by simp[Jb.fz,aB,ik ds]
 |.lst m ds=>by cases m<;>simp[Jb.fz,aB,ik ds,mkF]
 |.dct m _ ds=>by cases m<;>simp[Jb.fz,aB,ik ds,mkF]
 |.ins m _ _ ds=>by cases m<;>simp[Jb.fz,aB,ik ds,mkF]
theorem ik:∀ds:List D,aA (fzL ds)=true
 |[]=>rfl
 |d::r=>by simp[fzL,aA,De d,ik r]
end
theorem JW(d:D):clean (Jb.fz d)=true:=by simp[clean,Bb,De]
mutual
theorem Rep.dom:∀{d:D}{v:V}{L:List Addr},Rep G H W d v L->∀a∈L,Mu H a
 |.non,v,L,h=>by rw[Rep]at h;rw[h.2];simp
 |.bl _,v,L,h=>by rw[Rep]at h;rw[h.2];simp
 |.int _,v,L,h=>by rw[Rep]at h;rw[h.2];simp
 |.str _,v,L,h=>by rw[Rep]at h;rw[h.2];simp
 |.ty _,v,L,h=>by rw[Rep]at h;rw[h.2];simp
 |.tup ds,v,L,h=>by
  rw[Rep]at h;obtain⟨a,xs,rfl,q,O⟩:=h;exact aH.dom O
 |.lst m ds,v,L,h=>by
  rw[Rep]at h;obtain⟨a,xs,M,rfl,O,B⟩:=h;intro b U;cases m with
  |own=>
   rw[B.2]at U;rcases YJ.mp U with z|z
   .rw[z];exact⟨_,B.1,rfl⟩
   .exact aH.dom O b z
  |frz=>rw[B.2.2.2]at U;cases U
  |brw=>rw[B.2.2.2]at U;cases U
  |bro=>rw[B.2.2]at U;cases U
  |scr=>rw[B.2.2]at U;cases U
 |.dct m ks ds,v,L,h=>by
  rw[Rep]at h;obtain⟨a,xs,M,rfl,I,O,B⟩:=h;intro b U;cases m with
  |own=>
   rw[B.2]at U;rcases YJ.mp U with z|z
   .rw[z];exact⟨_,B.1,rfl⟩
   .exact aH.dom O b z
  |frz=>rw[B.2.2.2]at U;cases U
  |brw=>rw[B.2.2.2]at U;cases U
  |bro=>rw[B.2.2]at U;cases U
  |scr=>rw[B.2.2]at U;cases U
 |.ins m c fs ds,v,L,h=>by
  rw[Rep]at h;obtain⟨a,C,dx,xs,M,rfl,J,I,O,B⟩:=h;intro b U;cases m with
  |own=>
   rw[B.2]at U;rcases YJ.mp U with z|z
   .rw[z];exact⟨_,B.1,rfl⟩
   .exact aH.dom O b z
  |frz=>rw[B.2.2.2]at U;cases U
  |brw=>rw[B.2.2.2]at U;cases U
  |bro=>rw[B.2.2]at U;cases U
  |scr=>rw[B.2.2]at U;cases U
theorem aH.dom:∀{ds:List D}{vs:List V}{L:List Addr},aH G H W ds vs L->∀a∈L,Mu H a
 |[],vs,L,h=>by rw[h.inv0.2];simp
 |d::r,vs,L,h=>by
  obtain⟨x,ys,M,M',rfl,rfl,h1,h2⟩:=h.inv;intro a Y;rcases YC.mp Y with z|z
  .exact Rep.dom h1 a z
  .exact aH.dom h2 a z
end
abbrev En:=List (Option D)
abbrev Ad:=Nat->List Addr
def Rel(G:Gc)(H:Hp)(W:Wn)(ob:Nat->Bool)(ρ:En)(σ:L2.St):Prop:=∀(i:Nat)(d:D),ρ[i]? =some (some d)->∃v L,σ[i]? =some (some v)/\Rep G H W d v L/\(ob i=false->∀c∈L,W.s c)
def WOk(H:Hp)(W:Wn):Prop:=∀a,W.n a∨W.s a∨W.o a->Mu H a
variable{ρ:En}{σ:L2.St}
theorem Rel.up(r:Rel G H W ob ρ σ)(u:Up H H' W W'):Rel G H' W' ob ρ σ:=λi d e=>let⟨v,L,h1,h2,h3⟩:=r i d e;⟨v,L,h1,h2.up u,λz c Z=>let⟨o,ho,_⟩:=h2.dom c Z;u.n c o ho (h3 z c Z)⟩
theorem WOk.add(h:WOk H W)(s:Same H H')(O:∀a∈L,Mu H' a):WOk H' (W.add L):=λa Y=>by
 rcases Y with(z|z)|z
 .exact O a z
 .obtain⟨o,h1,h2⟩:=h a (.inl z);exact⟨o,s a o h1,h2⟩
 .obtain⟨o,h1,h2⟩:=h a (.inr z);exact⟨o,s a o h1,h2⟩
def wn(ob:Nat->Bool)(S:Ad)(Fr:Addr->Prop):Wn:=⟨Fr,λa=>∃i,ob i=false/\a∈S i,λa=>∃i,ob i=true/\a∈S i⟩
def inS(S:Ad)(a:Addr):Prop:=∃i,a∈S i
def inO(ob:Nat->Bool)(S:Ad)(a:Addr):Prop:=∃i,ob i=true/\a∈S i
def plus(M:List Addr)(Fr:Addr->Prop):Addr->Prop:=λa=>a∈M∨Fr a
structure Sta(G:Gc)(H:Hp)(ob:Nat->Bool)(ρ:En)(σ:L2.St)(S:Ad)(Fr:Addr->Prop):Prop where
 len:ρ.length=σ.length
 sl:∀(i:Nat)(d:D),ρ[i]? =some (some d)->∃v,σ[i]? =some (some v)/\Rep G H (wn ob S Fr) d v (S i)/\clean d=true
 em:∀i,(∀d,ρ[i]?≠some (some d))->S i=[]
 nd:∀i,(S i).Nodup
 dj:∀i j a,a∈S i->a∈S j->i=j
 fdj:∀i a,Fr a->a∉S i
 fdm:∀a,Fr a->Mu H a
section
variable{G:Gc}{H H':Hp}{ob:Nat->Bool}{ρ:En}{σ:L2.St}{S S':Ad}{Fr Fr':Addr->Prop}
theorem Sta.mu(s:Sta G H ob ρ σ S Fr){i:Nat}{a:Addr}(h:a∈S i):Mu H a:=by
 by_cases e:∃d,ρ[i]? =some (some d)
 .obtain⟨d,e⟩:=e
  obtain⟨v,_,r,_⟩:=s.sl i d e;exact r.dom a h
 .rw[s.em i λd z=>e ⟨d,z⟩]at h
  cases h
theorem Sta.wok(s:Sta G H ob ρ σ S Fr):WOk H (wn ob S Fr):=λa Y=>by
 rcases Y with z|⟨i,_,z⟩|⟨i,_,z⟩
 .exact s.fdm a z
 .exact s.mu z
 .exact s.mu z
theorem Sta.rel(s:Sta G H ob ρ σ S Fr):Rel G H (wn ob S Fr) ob ρ σ:=λi d e=>by
 obtain⟨v,h1,h2,_⟩:=s.sl i d e;exact⟨v,S i,h1,h2,λz c Z=>⟨i,z,Z⟩⟩
theorem Sta.grow(s:Sta G H ob ρ σ S Fr)(B:Same H H')(h1:∀a,Fr' a->Fr a∨(H a=none/\Mu H' a)):Sta G H' ob ρ σ S Fr' where
 len:=s.len
 sl:=λi d e=>by
  obtain⟨v,q1,q2,D⟩:=s.sl i d e;have Z:aD d=true/\aB d=true:=by simpa[clean]using D
  have I:Evo H H' (wn ob S Fr) (wn ob S Fr'):=⟨λb u h f=>⟨B b u h,⟨λz=>(h1 b z).elim f.1 (λz=>by rw[z.1]at h;cases h),f.2⟩⟩,λb xs h=>B b _ h⟩;exact⟨v,q1,q2.mono I (.inl Z.1) (.inl Z.2) λc _ u e=>B c u e,D⟩
 em:=s.em
 nd:=s.nd
 dj:=s.dj
 fdj:=λi a h z=>by
  rcases h1 a h with q|q
  .exact s.fdj i a q z
  .obtain⟨o,ho,_⟩:=s.mu z
   rw[q.1]at ho;cases ho
 fdm:=λa h=>by
  rcases h1 a h with q|q
  .obtain⟨o,ho,hm⟩:=s.fdm a q
   exact⟨o,B a o ho,hm⟩
  .exact q.2
theorem Sta.lessF(s:Sta G H ob ρ σ S Fr)(h1:∀a,Fr' a->Fr a):Sta G H ob ρ σ S Fr':=s.grow (Same.refl H) λa h=>.inl (h1 a h)
end
def RfE(G:Gc)(ob:Nat->Bool)(t:TE)(f:En->Option D):Prop:=∀(ρ:En)(d:D),f ρ=some d->∀(σ:L2.St)(H:Hp)(W:Wn),Rel G H W ob ρ σ->WOk H W->∀Q:VK,
 (∀v H' L,Same H H'->Rep G H' (W.add L) d v L->(∀a∈L,H a=none)->L.Nodup->Q v H')->t σ H Q
def RfT(G:Gc)(ob:Nat->Bool)(t:TT)(f:En->Option Bool):Prop:=∀(ρ:En)(b:Bool),f ρ=some b->∀(σ:L2.St)(H:Hp)(W:Wn),Rel G H W ob ρ σ->WOk H W->∀Q:Bool->Hp->Prop,
 (∀H',Same H H'->Q b H')->t σ H Q
def RfA(G:Gc)(ob:Nat->Bool)(t:TA)(f:En->Option (List D)):Prop:=∀(ρ:En)(ds:List D),f ρ=some ds->∀(σ:L2.St)(H:Hp)(W:Wn),Rel G H W ob ρ σ->WOk H W->∀Q:List V->Hp->Prop,
 (∀vs H' L,Same H H'->aH G H' (W.add L) ds vs L->(∀a∈L,H a=none)->L.Nodup->Q vs H')->t σ H Q
structure Eff(ob:Nat->Bool)(H H':Hp)(S S':Ad)(M:List Addr):Prop where
 kp:∀b u,H b=some u->¬inO ob S b->H' b=some u
 sn:∀i,ob i=false->S' i=S i
 gr:∀i a,ob i=true->a∈S' i->inO ob S a∨H a=none
 fm:∀a∈M,inO ob S a∨H a=none
def kZ(G:Gc)(ob:Nat->Bool)(t:TE)(f:En->Option (D×En)):Prop:=∀(ρ:En)(d:D)(I:En),f ρ=some (d,I)->∀(σ:L2.St)(H:Hp)(S:Ad)(Fr:Addr->Prop),Sta G H ob ρ σ S Fr->∀Q:VK,
 (∀v H' M S',Sta G H' ob I σ S' (plus M Fr)->Rep G H' (wn ob S' (plus M Fr)) d v M->M.Nodup->Eff ob H H' S S' M->Q v H')->t σ H Q
def Ik(G:Gc)(ob:Nat->Bool)(t:TT)(f:En->Option (Bool×En)):Prop:=∀(ρ:En)(b:Bool)(I:En),f ρ=some (b,I)->∀(σ:L2.St)(H:Hp)(S:Ad)(Fr:Addr->Prop),Sta G H ob ρ σ S Fr->∀Q:Bool->Hp->Prop,
 (∀H' S',Sta G H' ob I σ S' Fr->Eff ob H H' S S' []->Q b H')->t σ H Q
def Cz(G:Gc)(ob:Nat->Bool)(t:TA)(f:En->Option (List D×En)):Prop:=∀(ρ:En)(ds:List D)(I:En),f ρ=some (ds,I)->∀(σ:L2.St)(H:Hp)(S:Ad)(Fr:Addr->Prop),Sta G H ob ρ σ S Fr->∀Q:List V->Hp->Prop,
 (∀vs H' M S',Sta G H' ob I σ S' (plus M Fr)->aH G H' (wn ob S' (plus M Fr)) ds vs M->M.Nodup->Eff ob H H' S S' M->Q vs H')->t σ H Q
inductive Fl where
 |nx (ρ:En)|ret (d:D) (ρ:En)|brk (ρ:En)|cnt (ρ:En)
def Ef(P:Nat->Bool)(σ B:L2.St):Prop:=∀i,P i=true->B[i]? =σ[i]?
variable{P:Nat->Bool}
theorem Ef.refl:Ef P σ σ:=λ_ _=>rfl
theorem Ef.trans{J σ2:L2.St}(a:Ef P σ J)(b:Ef P J σ2):Ef P σ σ2:=λi h=>(b i h).trans (a i h)
structure Mv(P:Nat->Bool)(H H':Hp)(σ σ':L2.St)(S S':Ad)(M:List Addr):Prop where
 kp:∀b u,H b=some u->¬inS S b->b∉M->H' b=some u
 gr:∀i a,a∈S' i->inS S a∨a∈M∨H a=none
 pr:Ef P σ σ'
variable{S:Ad}
theorem Mv.trans{H1:Hp}{J σ2:L2.St}{S1 S2:Ad}(a:Mv P H H1 σ J S S1 M)(b:Mv P H1 H2 J σ2 S1 S2 []):Mv P H H2 σ σ2 S S2 M where
 kp:=λc u h n m=>b.kp c u (a.kp c u h n m) (λ⟨i,z⟩=>(a.gr i c z).elim n λz=>z.elim m λe=>by rw[h]at e;cases e) (by simp)
 gr:=λi c z=>by
  rcases b.gr i c z with⟨j,q⟩|q|q
  .exact a.gr j c q
  .cases q
  .by_cases h:inS S c
   .exact .inl h
   .by_cases hm:c∈M
    .exact .inr (.inl hm)
    .refine .inr (.inr ?_)
     cases e:H c with
     |none=>rfl
     |some u=>rw[a.kp c u e h hm]at q;cases q
 pr:=a.pr.trans b.pr
theorem Eff.mv{S':Ad}(e:Eff ob H H' S S' M):Mv P H H' σ σ S S' []where
 kp:=λb u h n _=>e.kp b u h λ⟨i,_,z⟩=>n ⟨i,z⟩
 gr:=λi a z=>by
  cases h:ob i with
  |false=>rw[e.sn i h]at z;exact .inl ⟨i,z⟩
  |true=>exact(e.gr i a h z).imp (λ⟨j,_,q⟩=>⟨j,q⟩) .inr
 pr:=.refl
def Aft(G:Gc)(ob P:Nat->Bool)(H:Hp)(σ:L2.St)(S:Ad)(Fr:Addr->Prop)(E:Ends):Fl->Prop
 |.nx I=>∀B H' S',Sta G H' ob I B S' Fr->Mv P H H' σ B S S' []->E.nx B H'
 |.brk I=>∀B H' S',Sta G H' ob I B S' Fr->Mv P H H' σ B S S' []->E.bk B H'
 |.cnt I=>∀B H' S',Sta G H' ob I B S' Fr->Mv P H H' σ B S S' []->E.ct B H'
 |.ret d I=>∀v B H' M S',Sta G H' ob I B S' (plus M Fr)->Rep G H' (wn ob S' (plus M Fr)) d v M->clean d=true->M.Nodup->(∀a∈M,inS S a∨H a=none)->Mv P H H' σ B S S' []->E.rt v H'
def RfS(G:Gc)(ob P:Nat->Bool)(t:TS)(f:En->Option Fl):Prop:=∀(ρ:En)(r:Fl),f ρ=some r->∀(σ:L2.St)(H:Hp)(S:Ad)(Fr:Addr->Prop),Sta G H ob ρ σ S Fr->∀E:Ends,Aft G ob P H σ S Fr E r->t E σ H
def RfG(G:Gc)(ob P:Nat->Bool)(g:TG)(f:D->En->Option En):Prop:=∀(d:D)(ρ I:En),f d ρ=some I->∀(v:V)(σ:L2.St)(H:Hp)(S:Ad)(M:List Addr)(Fr:Addr->Prop),Sta G H ob ρ σ S (plus M Fr)->Rep G H (wn ob S (plus M Fr)) d v M->M.Nodup->(∀a∈M,¬Fr a)->
 ∀Q:L2.St->Hp->Prop,(∀B H' S',Sta G H' ob I B S' Fr->Mv P H H' σ B S S' M->Q B H')->g v σ H Q
def Yc(G:Gc)(ob P:Nat->Bool)(g:TGs)(f:List D->En->Option En):Prop:=∀(ds:List D)(ρ I:En),f ds ρ=some I->∀(vs:List V)(σ:L2.St)(H:Hp)(S:Ad)(M:List Addr)(Fr:Addr->Prop),Sta G H ob ρ σ S (plus M Fr)->aH G H (wn ob S (plus M Fr)) ds vs M->M.Nodup->(∀a∈M,¬Fr a)->
 ∀Q:L2.St->Hp->Prop,(∀B H' S',Sta G H' ob I B S' Fr->Mv P H H' σ B S S' M->Q B H')->g vs σ H Q
structure PV{ι:Type}(X:ι->Cx)(G:Gc)(ob:Nat->Bool)(e:Expr)(f:En->Option D):Prop where
 mk::(ex:∃t,(∀c,PE (X c) e t)/\RfE G ob t f)
structure PVT{ι:Type}(X:ι->Cx)(G:Gc)(ob:Nat->Bool)(e:Expr)(f:En->Option Bool):Prop where
 mk::(ex:∃t,(∀c,PT (X c) e t)/\RfT G ob t f)
structure PVW{ι:Type}(X:ι->Cx)(G:Gc)(ob:Nat->Bool)(e:Expr)(f:En->Option Bool):Prop where
 mk::(ex:∃t,(∀c,PW (X c) e t)/\RfT G ob t f)
structure PVA{ι:Type}(X:ι->Cx)(G:Gc)(ob:Nat->Bool)(es:List Expr)(f:En->Option (List D)):Prop where
 mk::(ex:∃t,(∀c,PA (X c) es t)/\RfA G ob t f)
structure PVe{ι:Type}(X:ι->Cx)(G:Gc)(ob:Nat->Bool)(e:Expr)(f:En->Option (D×En)):Prop where
 mk::(ex:∃t,(∀c,PE (X c) e t)/\kZ G ob t f)
structure MJ{ι:Type}(X:ι->Cx)(G:Gc)(ob:Nat->Bool)(e:Expr)(f:En->Option (Bool×En)):Prop where
 mk::(ex:∃t,(∀c,PT (X c) e t)/\Ik G ob t f)
structure CQ{ι:Type}(X:ι->Cx)(G:Gc)(ob:Nat->Bool)(es:List Expr)(f:En->Option (List D×En)):Prop where
 mk::(ex:∃t,(∀c,PA (X c) es t)/\Cz G ob t f)
structure PVS{ι:Type}(X:ι->Cx)(G:Gc)(ob P:Nat->Bool)(st:Stmt)(f:En->Option Fl):Prop where
 mk::(ex:∃t,(∀c,PS (X c) st t)/\RfS G ob P t f)
structure uT{ι:Type}(X:ι->Cx)(G:Gc)(ob P:Nat->Bool)(st:List Stmt)(f:En->Option Fl):Prop where
 mk::(ex:∃t,(∀c,PSs (X c) st t)/\RfS G ob P t f)
structure PVG{ι:Type}(X:ι->Cx)(G:Gc)(ob P:Nat->Bool)(tg:Expr)(f:D->En->Option En):Prop where
 mk::(ex:∃t,(∀c,PG (X c) tg t)/\RfG G ob P t f)
theorem dN(h1:L.Nodup)(h2:M.Nodup)(B:∀a∈L,a∉M):(L++M).Nodup:=YX.mpr ⟨h1,h2,λa Y b U e=>B a Y (e▸U)⟩
def Wn.drop(W:Wn)(L:List Addr):Wn:=⟨λa=>W.n a/\a∉L,W.s,W.o⟩
def Wn.tmp(W:Wn)(a:Addr):Prop:=W.n a/\¬W.s a/\¬W.o a
theorem WOk.tmp(w:WOk H W)(F:∀a∈L,H a=none):∀a∈L,(W.add L).tmp a:=λa Y=>by
 refine⟨.inl Y,λz=>?_,λz=>?_⟩
 .obtain⟨o,ho,_⟩:=w a (.inr (.inl z));rw[F a Y]at ho;cases ho
 .obtain⟨o,ho,_⟩:=w a (.inr (.inr z));rw[F a Y]at ho;cases ho
def Done(G:Gc)(H:Hp)(W:Wn)(I:List Addr)(d:D)(Q:VK):Prop:=∀v H' L,Same H H'->Rep G H' ((W.drop I).add L) d v L->(∀a∈L,a∈I∨H a=none)->L.Nodup->Q v H'
def OpV(G:Gc)(r:R2)(g:D->D->Option D):Prop:=∀(dx Y d:D),g dx Y=some d->∀(x y:V)(H:Hp)(W:Wn)(B Ly:List Addr),Rep G H W dx x B->Rep G H W Y y Ly->(B++Ly).Nodup->(∀a∈B++Ly,W.tmp a)->WOk H W->∀Q:VK,Done G H W (B++Ly) d Q->r x y H Q
def UnV(G:Gc)(r:V->Hp->VK->Prop)(g:D->Option D):Prop:=∀(dx d:D),g dx=some d->∀(x:V)(H:Hp)(W:Wn)(B:List Addr),Rep G H W dx x B->B.Nodup->(∀a∈B,W.tmp a)->WOk H W->∀Q:VK,Done G H W B d Q->r x H Q
def CaV(G:Gc)(r:List V->Hp->VK->Prop)(g:List D->Option D):Prop:=∀(ds:List D)(d:D),g ds=some d->∀(xs:List V)(H:Hp)(W:Wn)(I:List Addr),aH G H W ds xs I->I.Nodup->(∀a∈I,W.tmp a)->WOk H W->∀Q:VK,Done G H W I d Q->r xs H Q
def MtV(G:Gc)(r:V->List V->Hp->VK->Prop)(g:D->List D->Option D):Prop:=∀(dx:D)(ds:List D)(d:D),g dx ds=some d->∀(x:V)(xs:List V)(H:Hp)(W:Wn)(B I:List Addr),Rep G H W dx x B->aH G H W ds xs I->(B++I).Nodup->(∀a∈B++I,W.tmp a)->WOk H W->∀Q:VK,Done G H W (B++I) d Q->r x xs H Q
theorem WOk.new(w:WOk H W)(F:∀a∈L,H a=none)(h:W.n a):a∉L:=λz=>by
 obtain⟨o,J,_⟩:=w a (.inl h);rw[F a z]at J;cases J
variable{Q:VK}
theorem Done.scal(h:Done G H W I d Q)(r:∀W,Rep G H W d v []):Q v H:=h v H [] (Same.refl H) (r _) (by simp) Zz
theorem _root_.L2.Same.none'(s:Same H H')(h:H' a=none):H a=none:=Same.free s h
variable{ta tb:TE}{fa fb:En->Option D}
theorem RfE.two(Y:RfE G ob ta fa)(U:RfE G ob tb fb){dx dy:D}(e1:fa ρ=some dx)(e2:fb ρ=some dy)(r:Rel G H W ob ρ σ)(w:WOk H W){R:V->V->Hp->Prop}
  (h:∀x y H' L M,Same H H'->Rep G H' (W.add (L++M)) dx x L->Rep G H' (W.add (L++M)) dy y M->(∀a∈L++M,H a=none)->(L++M).Nodup->WOk H' (W.add (L++M))->R x y H'):ta σ H λx H1=>tb σ H1 λy H2=>R x y H2:=by
 refine Y ρ dx e1 σ H W r w _ λx H1 L O rx F nx=>?_;have q:Up H H1 W (W.add L):=.add O F;have w1:WOk H1 (W.add L):=w.add O rx.dom;refine U ρ dy e2 σ H1 (W.add L) (r.up q) w1 _ λy H2 M Z N I ny=>?_;have B:∀a∈L,a∉M:=λa h1 h2=>by
  obtain⟨o,J,_⟩:=rx.dom a h1;rw[I a h2]at J;cases J
 have eW:∀a,((W.add L).add M).n a↔(W.add (L++M)).n a:=λa=>by
  show(a∈M∨a∈L∨W.n a)↔(a∈L++M∨W.n a);rw[YC];constructor
  .rintro(z|z|z)
   .exact .inl (.inr z)
   .exact .inl (.inl z)
   .exact .inr z
  .rintro((z|z)|z)
   .exact .inr (.inl z)
   .exact .inl z
   .exact .inr (.inr z)
 have a0:(W.add L).add M=W.add (L++M):=by
  show Wn.mk _ _ _=Wn.mk _ _ _;congr 1;funext a;exact propext (eW a)
 have u2:Up H1 H2 (W.add L) (W.add (L++M)):=by rw[←a0];exact .add Z I
 rw[a0]at N;refine h x y H2 L M (O.trans Z) (rx.up u2) N (λa Y=>?_) (dN nx ny B) ?_
 .rcases YC.mp Y with z|z
  .exact F a z
  .exact O.none' (I a z)
 .rw[←a0]
  exact w1.add Z N.dom
def aq(b:Bool)(i:Nat):En->Option D:=λρ=>match ρ[i]? with
 |some (some d)=>some (view b d)
 |_=>none
def eC(d:D):En->Option D:=λ_=>some d
theorem t_(W:Wn):W.add []=W:=by
 cases W;simp[Wn.add]
theorem V5:RfE G ob (Jf i) (aq (ob i) i):=λρ d e σ H W r w Q q=>by
 unfold aq at e;split at e
 .rename_i d0 e0
  cases e;obtain⟨v,L,h1,h2,B⟩:=r i d0 e0;refine⟨v,h1,q v H [] (Same.refl H) ?_ (by simp) Zz⟩;rw[t_];exact h2.view B
 .cases e
variable{X:ι->Cx}
theorem aj(b:Bool)(i:Nat)(U:ob i=b:=by rfl)(V:∀c,(X c).N[i]? =some x:=by intro _;rfl)(B:∀c,Vis (X c).env.scope x:=by intro _;first|exact aa_ rfl|exact aax (aa_ rfl)|exact aax (aax rfl))(hd:1.18=false:=by decide)(I:(x==("__classdict__":Str))=false:=by decide):PV X G ob (.Name x pos) (aq b i):=⟨_,λc=>pv i (V c) (B c) hd I,by rw[←U];exact V5⟩
theorem Eg(h:∀H W,Rep G H W d v []):RfE G ob (tC v) (eC d):=λρ d' e σ H W r w Q q=>by
 cases e;exact q v H [] (Same.refl H) (h _ _) (by simp) Zz
theorem aJ{i j pos}:PV X G ob (.Constant (.int i) j pos) (eC (.int i)):=⟨_,λc=>VN,Eg λ_ _=>by simp[Rep]⟩
theorem CT{b j pos}:PV X G ob (.Constant (.bool b) j pos) (eC (.bl b)):=⟨_,λc=>W6,Eg λ_ _=>by simp[Rep]⟩
theorem m6{j pos}:PV X G ob (.Constant .none j pos) (eC .non):=⟨_,λc=>Vf,Eg λ_ _=>by simp[Rep]⟩
theorem gY{x j pos}:PV X G ob (.Constant (.str x) j pos) (eC (.str x)):=⟨_,λc=>Vb,Eg λ_ _=>by simp[Rep]⟩
theorem mW{n:String}(q:∀c,Gl (X c) x)(N:∀c,(X c).mg x=none)(B:aaW x=some (.type n))(hn:x≠"__name__":=by decide)(hd:1.18=false:=by decide):PV X G ob (.Name x pos) (eC (.ty n)):=⟨_,λc=>Xe (q c) (N c) B hn hd,Eg λ_ _=>by simp[Rep]⟩
structure OpB{ι:Type}(X:ι->Cx)(G:Gc)(f:Value->Value->Sem Value)(g:D->D->Option D):Prop where
 ex:∃r,(∀c,OpR (X c) f r)/\OpV G r g
structure UnB{ι:Type}(X:ι->Cx)(G:Gc)(f:Value->Sem Value)(g:D->Option D):Prop where
 ex:∃r,(∀c,UnR (X c) f r)/\UnV G r g
structure IxB{ι:Type}(X:ι->Cx)(G:Gc)(g:D->D->Option D):Prop where
 ex:∃r,(∀c,IxR (X c) r)/\OpV G r g
structure CaB{ι:Type}(X:ι->Cx)(G:Gc)(f:Value)(g:List D->Option D):Prop where
 ex:∃r,(∀c,fK (X c) f r)/\CaV G r g
structure MtB{ι:Type}(X:ι->Cx)(G:Gc)(T id:String)(g:D->List D->Option D):Prop where
 ex:∃r,(∀c,MtR (X c) id r)/\MtV G r g/\∀dx ds d,g dx ds=some d->∀(x:V)(H:Hp)(W:Wn)(Lx:List Addr),Rep G H W dx x Lx->tyV G.K T x H
def e2(g:D->D->Option D)(fa fb:En->Option D):En->Option D:=λρ=>(fa ρ).bind λx=>(fb ρ).bind λy=>g x y
def e1(g:D->Option D)(fa:En->Option D):En->Option D:=λρ=>(fa ρ).bind g
variable{g:D->D->Option D}
theorem Hl{r:R2}(J:OpV G r g)(Y:RfE G ob ta fa)(U:RfE G ob tb fb):RfE G ob (tOp r ta tb) (e2 g fa fb):=λρ d e σ H W V w Q q=>by
 unfold e2 at e;cases h1:fa ρ with
 |none=>rw[h1]at e;cases e
 |some dx=>
  rw[h1]at e;cases h2:fb ρ with
  |none=>simp[h2]at e
  |some O=>
   have e:g dx O=some d:=by simpa[h2]using e
   refine RfE.two Y U h1 h2 V w λx y H' L M s rx N F nd w'=>?_;refine J dx O d e x y H' _ L M rx N nd (w.tmp F) w' Q λv H2 L2 Z B I n2=>?_;refine q v H2 L2 (s.trans Z) ?_ (λa Y=>(I a Y).elim (F a) λz=>s.none' z) n2;exact B.up ⟨Same.refl _,λb u U f=>⟨λz=>z.elim (λz=>f.1 (.inl z)) λz=>f.1 (.inr ⟨.inr z,WOk.new w F z⟩),f.2⟩,λ_ _ _ f=>f⟩
theorem R6{r:V->Hp->VK->Prop}{g:D->Option D}(J:UnV G r g)(Y:RfE G ob ta fa):RfE G ob (tUn r ta) (e1 g fa):=λρ d e σ H W N w Q q=>by
 unfold e1 at e;cases h1:fa ρ with
 |none=>rw[h1]at e;cases e
 |some dx=>
  rw[h1]at e;have e:g dx=some d:=by simpa using e
  refine Y ρ dx h1 σ H W N w _ λx H' L s rx F nd=>?_;refine J dx d e x H' _ L rx nd (w.tmp F) (w.add s rx.dom) Q λv H2 L2 Z B I O=>?_;refine q v H2 L2 (s.trans Z) ?_ (λa Y=>(I a Y).elim (F a) λz=>s.none' z) O;exact B.up ⟨Same.refl _,λb u U f=>⟨λz=>z.elim (λz=>f.1 (.inl z)) λz=>f.1 (.inr ⟨.inr z,WOk.new w F z⟩),f.2⟩,λ_ _ _ f=>f⟩
def aK:En->Option (List D):=λ_=>some []
def ak(fa:En->Option D)(F:En->Option (List D)):En->Option (List D):=λρ=>(fa ρ).bind λx=>(F ρ).bind λxs=>some (x::xs)
theorem tR:RfA G ob Ve aK:=λρ ds e σ H W V w Q q=>by
 cases e;exact q [] H [] (Same.refl H) .nil (by simp) Zz
variable{t:TA}
theorem RK{F:En->Option (List D)}(Y:RfE G ob ta fa)(O:RfA G ob t F):RfA G ob (Ge ta t) (ak fa F):=λρ ds e σ H W V w Q q=>by
 unfold ak at e;cases h1:fa ρ with
 |none=>rw[h1]at e;cases e
 |some dx=>
  rw[h1]at e;cases h2:F ρ with
  |none=>simp[h2]at e
  |some es=>
   have e:dx::es=ds:=by simpa[h2]using e
   subst e;refine Y ρ dx h1 σ H W V w _ λx H1 L s1 rx fx nx=>?_;have u1:Up H H1 W (W.add L):=.add s1 fx;have w1:WOk H1 (W.add L):=w.add s1 rx.dom;refine O ρ es h2 σ H1 (W.add L) (V.up u1) w1 _ λys H2 M Z N I ny=>?_;have B:∀a∈L,a∉M:=λa h1 h2=>by
    obtain⟨o,J,_⟩:=rx.dom a h1;rw[I a h2]at J;cases J
   have u2:Up H1 H2 (W.add L) (W.add (L++M)):=⟨Z,λb u U f=>⟨λz=>z.elim (λz=>(YC.mp z).elim (λz=>f.1 (.inl z)) λz=>by rw[I b z]at U;cases U) λz=>f.1 (.inr z),f.2⟩,λ_ _ _ f=>f⟩;refine q (x::ys) H2 (L++M) (s1.trans Z) (.cons (rx.up u2) (N.up ⟨Same.refl _,λb u U f=>⟨λz=>?_,f.2⟩,λ_ _ _ f=>f⟩)) (λa Y=>?_) (dN nx ny B)
   .rcases z with z|z
    .exact(YC.mp z).elim (λz=>f.1 (.inr (.inl z))) λz=>f.1 (.inl z)
    .exact f.1 (.inr (.inr z))
   .rcases YC.mp Y with z|z
    .exact fx a z
    .exact s1.none' (I a z)
variable{r:List V->Hp->VK->Prop}{f:En->Option (List D)}
theorem uI{g:List D->Option D}(J:CaV G r g)(h:RfA G ob t f):RfE G ob (λσ H Q=>t σ H λvs H1=>r vs H1 Q) (λρ=>(f ρ).bind g):=λρ d e σ H W N w Q q=>by
 cases h1:f ρ with
 |none=>simp[h1]at e
 |some ds=>
  have e:g ds=some d:=by simpa[h1]using e
  refine h ρ ds h1 σ H W N w _ λxs H' L s rx F nd=>?_;refine J ds d e xs H' _ L rx nd (w.tmp F) (w.add s rx.dom) Q λv H2 L2 Z B I O=>?_;refine q v H2 L2 (s.trans Z) ?_ (λa Y=>(I a Y).elim (F a) λz=>s.none' z) O;exact B.up ⟨Same.refl _,λb u U f=>⟨λz=>z.elim (λz=>f.1 (.inl z)) λz=>f.1 (.inr ⟨.inr z,WOk.new w F z⟩),f.2⟩,λ_ _ _ f=>f⟩
def eAp(g:List D->Option D)(f:En->Option (List D)):En->Option D:=λρ=>(f ρ).bind g
variable{fo:En->Option D}
theorem Kq{r:V->List V->Hp->VK->Prop}{g:D->List D->Option D}{ty:V->Hp->Prop}{to:TE}(J:MtV G r g)(a1:∀dx ds d,g dx ds=some d->∀(x:V)(H:Hp)(W:Wn)(B:List Addr),Rep G H W dx x B->ty x H)
  (h0:RfE G ob to fo) (h:RfA G ob t f):RfE G ob (λσ H Q=>to σ H λx H1=>ty x H1/\t σ H1 λxs H2=>r x xs H2 Q) (λρ=>(fo ρ).bind λx=>(f ρ).bind λds=>g x ds):=λρ d e σ H W rl w Q q=>by
 cases h1:fo ρ with
 |none=>simp[h1]at e
 |some dx=>
  cases h2:f ρ with
  |none=>simp[h1,h2]at e
  |some ds=>
   have e:g dx ds=some d:=by simpa[h1,h2]using e
   refine h0 ρ dx h1 σ H W rl w _ λx H1 L O rx F nx=>⟨a1 dx ds d e x H1 _ L rx,?_⟩;have u1:Up H H1 W (W.add L):=.add O F;have w1:WOk H1 (W.add L):=w.add O rx.dom;refine h ρ ds h2 σ H1 (W.add L) (rl.up u1) w1 _ λys H2 M Z N I ny=>?_;have a0:∀a∈L,a∉M:=λa h1 h2=>by
    obtain⟨o,J,_⟩:=rx.dom a h1;rw[I a h2]at J;cases J
   have u2:Up H1 H2 (W.add L) (W.add (L++M)):=⟨Z,λb u U f=>⟨λz=>z.elim (λz=>(YC.mp z).elim (λz=>f.1 (.inl z)) λz=>by rw[I b z]at U;cases U) λz=>f.1 (.inr z),f.2⟩,λ_ _ _ f=>f⟩;have u3:Up H2 H2 ((W.add L).add M) (W.add (L++M)):=⟨Same.refl _,λb u U f=>⟨λz=>by
    rcases z with z|z
    .exact(YC.mp z).elim (λz=>f.1 (.inr (.inl z))) λz=>f.1 (.inl z)
    .exact f.1 (.inr (.inr z)),f.2⟩,λ_ _ _ f=>f⟩
   have w2:WOk H2 (W.add (L++M)):=w.add (O.trans Z) λa Y=>(YC.mp Y).elim (λz=>let⟨o,h,m⟩:=rx.dom a z;⟨o,Z a o h,m⟩) (N.dom a);refine J dx ds d e x ys H2 (W.add (L++M)) L M (rx.up u2) (N.up u3) (dN nx ny a0) (w.tmp λa Y=>(YC.mp Y).elim (F a) λz=>O.none' (I a z)) w2 Q λv H3 L3 s3 r3 f3 n3=>?_;refine q v H3 L3 ((O.trans Z).trans s3) ?_ (λa Y=>(f3 a Y).elim (λz=>?_) λz=>(O.trans Z).none' z) n3
   .exact r3.up ⟨Same.refl _,λb u U f=>⟨λz=>z.elim (λz=>f.1 (.inl z)) λz=>f.1 (.inr ⟨.inr z,WOk.new w (λa Y=>(YC.mp Y).elim (F a) λz=>O.none' (I a z)) z⟩),f.2⟩,λ_ _ _ f=>f⟩
   .rcases YC.mp z with z|z
    .exact F a z
    .exact O.none' (I a z)
variable{a b:Expr}
theorem cQ{op:ad0}(o:OpB X G (aay op) g)(Y:PV X G ob a fa)(U:PV X G ob b fb):PV X G ob (.BinOp a op b pos) (e2 g fa fb):=let⟨r,o1,o2⟩:=o.ex;let⟨t,a1,a2⟩:=Y.ex;let⟨u,b1,b2⟩:=U.ex;⟨_,λc=>Tg (o1 c) (a1 c) (b1 c),Hl o2 a2 b2⟩
theorem lX(o:OpB X G (ZL op) g)(Y:PV X G ob a fa)(U:PV X G ob b fb)(N:acU op b=false:=by with_unfolding_all rfl):PV X G ob (.Compare a [op] [b] pos) (e2 g fa fb):=let⟨r,o1,o2⟩:=o.ex;let⟨t,a1,a2⟩:=Y.ex;let⟨u,b1,b2⟩:=U.ex;⟨_,λc=>RG (o1 c) (a1 c) (b1 c) N,Hl o2 a2 b2⟩
theorem nW{op:UnaryOp}{g:D->Option D}(o:UnB X G (unaryOp op) g)(Y:PV X G ob a fa):PV X G ob (.UnaryOp op a pos) (e1 g fa):=let⟨r,o1,o2⟩:=o.ex;let⟨t,a1,a2⟩:=Y.ex;⟨_,λc=>W8 (o1 c) (a1 c),R6 o2 a2⟩
theorem dm(o:IxB X G g)(Y:PV X G ob a fa)(U:PV X G ob b fb)(B:vm b:=by exact λ_ _=>rfl):PV X G ob (.Subscript a b pos) (e2 g fa fb):=let⟨r,o1,o2⟩:=o.ex;let⟨t,a1,a2⟩:=Y.ex;let⟨u,b1,b2⟩:=U.ex;⟨_,λc=>Nx (o1 c) (a1 c) (b1 c) B,Hl o2 a2 b2⟩
theorem ao:PVA X G ob [] aK:=⟨_,λc=>Vu,tR⟩
theorem aa{f:En->Option D}{F:En->Option (List D)}(Y:PV X G ob e f)(O:PVA X G ob es F)(B:∀c,YQ (e::es) (X c).env=(false,eval e (X c).env)::YQ es (X c).env:=by intro _;rfl):PVA X G ob (e::es) (ak f F):=let⟨t,a1,a2⟩:=Y.ex;let⟨u,b1,b2⟩:=O.ex;⟨_,λc=>zp (a1 c) (b1 c) (B c),RK a2 b2⟩
variable{g:List D->Option D}
theorem bj{id:String}(o:CaB X G (.builtin id) g)(q:∀c,Gl (X c) x)(N:∀c,(X c).mg x=none)(B:aaW x=some (.builtin id))(Y:PVA X G ob (e::es) f)(hn:x≠"__name__":=by decide)(J:1.18=false:=by decide)(V:∀c,YQ (e::es) (X c).env=(false,eval e (X c).env)::YQ es (X c).env:=by intro _;rfl)(Z:∀c,(aak pos (YQ es (X c).env)).any (·.1)=false:=by intro _;rfl):PV X G ob (.Call (.Name x p) (e::es) [] pos) (eAp g f):=let⟨r,o1,o2⟩:=o.ex;let⟨t,a1,a2⟩:=Y.ex;⟨_,λc=>MK (o1 c) (q c) (N c) B (a1 c) hn J (V c) (Z c),uI o2 a2⟩
theorem pY(o:CaB X G (.type T) g)(q:∀c,Gl (X c) x)(N:∀c,(X c).mg x=none)(B:aaW x=some (.type T))(Y:PVA X G ob (e::es) f)(hn:x≠"__name__":=by decide)(J:1.18=false:=by decide)(V:∀c,YQ (e::es) (X c).env=(false,eval e (X c).env)::YQ es (X c).env:=by intro _;rfl)(Z:∀c,(aak pos (YQ es (X c).env)).any (·.1)=false:=by intro _;rfl):PV X G ob (.Call (.Name x p) (e::es) [] pos) (eAp g f):=let⟨r,o1,o2⟩:=o.ex;let⟨t,a1,a2⟩:=Y.ex;⟨_,λc=>yR (o1 c) (q c) (N c) B (a1 c) hn J (V c) (Z c),uI o2 a2⟩
def bO(ds:List D):Option D:=if ds.length<=1000 then some (.tup ds)else none
def dY(ds:List D):Option D:=if ds.length<=1000 then some (.lst .own ds)else none
theorem Bj(h:n<=1000):n<=YM:=aau h (by decide)
theorem FW:CaV G (λxs H Q=>xs.length<=YM/\∀p,H p=none->Q (.ref p) (upd H p (.tup xs))) bO:=λds d e xs H W I r nd hn w Q q=>by
 unfold bO at e;split at e
 .rename_i hl
  cases e;refine⟨Bj (by rw[←r.length];exact hl),λp N=>?_⟩;have B:Same H (upd H p (.tup xs)):=Same.new N;refine q (.ref p) _ I B ?_ (λa Y=>.inl Y) nd;rw[Rep];exact⟨p,xs,rfl,aY,r.up ⟨B,λb u U f=>⟨λz=>z.elim (λz=>f.1 (hn b z).1) λz=>f.1 z.1,f.2⟩,λ_ _ _ f=>f⟩⟩
 .cases e
theorem Gr:CaV G (λxs H Q=>xs.length<=YM/\∀p,H p=none->Q (.ref p) (upd H p (.lst xs))) dY:=λds d e xs H W I r nd hn w Q q=>by
 unfold dY at e;split at e
 .rename_i hl
  cases e;refine⟨Bj (by rw[←r.length];exact hl),λp N=>?_⟩;have B:Same H (upd H p (.lst xs)):=Same.new N;refine q (.ref p) _ (p::I) B ?_ (λa Y=>(YJ.mp Y).elim (λz=>.inr (by rw[z];exact N)) .inl) (Zg.mpr ⟨λz=>?_,nd⟩)
  .rw[Rep]
   exact⟨p,xs,I,rfl,r.up ⟨B,λb u U f=>⟨λz=>z.elim (λz=>(YJ.mp z).elim (λz=>by rw[z,N]at U;cases U) λz=>f.1 (hn b z).1) λz=>f.1 z.1,f.2⟩,λ_ _ _ f=>f⟩,aY,rfl⟩
  .obtain⟨o,ho,_⟩:=r.dom p z
   rw[N]at ho;cases ho
 .cases e
variable{k:Nat}
theorem gR(h:PVA X G ob es f):PV X G ob (.Tuple es k pos) (eAp bO f):=let⟨t,a1,a2⟩:=h.ex;⟨_,λc=>JM (a1 c),uI FW a2⟩
theorem nF(h:PVA X G ob es f):PV X G ob (.List es pos) (eAp dY f):=let⟨t,a1,a2⟩:=h.ex;⟨_,λc=>KZ (a1 c),uI Gr a2⟩
section
variable{G:Gc}{ob:Nat->Bool}{H H1 H2:Hp}{S S1 S2:Ad}{L M:List Addr}{ρ ρ1:En}{σ:L2.St}{Fr:Addr->Prop}
theorem Eff.refl:Eff ob H H S S []:=⟨λ_ _ h _=>h,λ_ _=>rfl,λi a h z=>.inl ⟨i,h,z⟩,by simp⟩
theorem Eff.back(e:Eff ob H H1 S S1 L){a:Addr}(h:H1 a=none):inO ob S a∨H a=none:=by
 by_cases z:inO ob S a
 .exact .inl z
 .refine .inr ?_
  cases q:H a with
  |none=>rfl
  |some u=>rw[e.kp a u q z]at h;cases h
theorem Eff.inO(e:Eff ob H H1 S S1 L){a:Addr}(h:inO ob S1 a):inO ob S a∨H a=none:=let⟨i,h1,h2⟩:=h;e.gr i a h1 h2
theorem Eff.notO(e:Eff ob H H1 S S1 L){a:Addr}{u:HO}(h:H a=some u)(n:¬Jb.inO ob S a):¬Jb.inO ob S1 a:=λz=>(e.inO z).elim n λz=>by rw[h]at z;cases z
theorem Eff.trans(a:Eff ob H H1 S S1 L)(b:Eff ob H1 H2 S1 S2 M):Eff ob H H2 S S2 (L++M)where
 kp:=λc u h n=>b.kp c u (a.kp c u h n) (a.notO h n)
 sn:=λi h=>(b.sn i h).trans (a.sn i h)
 gr:=λi c h z=>(b.gr i c h z).elim a.inO a.back
 fm:=λc Z=>(YC.mp Z).elim (a.fm c) λz=>(b.fm c z).elim a.inO a.back
theorem Eff.same(a:Eff ob H H1 S S1 L)(s:Same H1 H2)(h:∀c∈M,c∈L∨H1 c=none):Eff ob H H2 S S1 M where
 kp:=λc u Z n=>s c u (a.kp c u Z n)
 sn:=a.sn
 gr:=a.gr
 fm:=λc Z=>(h c Z).elim (a.fm c) a.back
theorem Sta.notO(s:Sta G H ob ρ σ S Fr){a:Addr}(h:Fr a):¬inO ob S a:=λ⟨i,_,z⟩=>s.fdj i a h z
theorem Sta.tmp(s:Sta G H ob ρ σ S Fr){a:Addr}(h:Fr a):(wn ob S Fr).tmp a:=⟨h,λ⟨i,_,z⟩=>s.fdj i a h z,λ⟨i,_,z⟩=>s.fdj i a h z⟩
theorem Eff.evo(s:Sta G H ob ρ σ S Fr)(e:Eff ob H H1 S S1 M):Evo H H1 (wn ob S Fr) (wn ob S1 (plus M Fr))where
 k:=λb u h f=>⟨e.kp b u h f.2.2,λz=>z.elim (λz=>(e.fm b z).elim f.2.2 λq=>by rw[h]at q;cases q) f.1,λ⟨i,h1,h2⟩=>f.2.1 ⟨i,h1,by rw[←e.sn i h1];exact h2⟩,e.notO h f.2.2⟩
 t:=λb xs h=>by
  have B:∀u,H b=some u->muO u=false->H1 b=some u:=λu D m=>e.kp b u D λ⟨i,_,z⟩=>by
   obtain⟨o,J,N⟩:=s.mu z;rw[D]at J;cases J;rw[m]at N;cases N
  exact B _ h rfl
theorem Eff.evoN(s:Sta G H ob ρ σ S Fr)(e:Eff ob H H1 S S1 M):J9 H H1 (wn ob S Fr) (wn ob S1 (plus M Fr)):=λb u h ⟨i,h1,h2⟩=>
 ⟨e.kp b u h (λ⟨j,q1,q2⟩=>by rw[s.dj i j b h2 q2,q1]at h1;cases h1),⟨i,h1,by rw[e.sn i h1];exact h2⟩⟩
theorem Eff.keepsF(s:Sta G H ob ρ σ S Fr)(e:Eff ob H H1 S S1 M){a:Addr}(h:Fr a):∀u,H a=some u->H1 a=some u:=λu J=>e.kp a u J (s.notO h)
theorem pW{L M:List Addr}:plus M (plus L Fr)=plus (L++M) Fr:=by
 funext a;simp![plus,YC,eq_iff_iff];constructor
 .rintro(z|z|z)
  .exact .inl (.inr z)
  .exact .inl (.inl z)
  .exact .inr z
 .rintro((z|z)|z)
  .exact .inr (.inl z)
  .exact .inl z
  .exact .inr (.inr z)
theorem R_{F:List Addr}{d:D}{v:V}(s:Sta G H1 ob ρ1 σ S1 (plus L Fr))(e:Eff ob H H1 S S1 L)(B:Same H1 H2)(r:Rep G H2 (((wn ob S1 (plus L Fr)).drop L).add F) d v F)(f:∀a∈F,a∈L∨H1 a=none)(I:Sta G H ob ρ σ S Fr) :
  Sta G H2 ob ρ1 σ S1 (plus F Fr)/\Rep G H2 (wn ob S1 (plus F Fr)) d v F/\Eff ob H H2 S S1 F:=by
 refine⟨s.grow B λa h=>?_,r.up ⟨Same.refl _,λb u U q=>⟨λz=>?_,q.2⟩,λ_ _ _ q=>q⟩,e.same B f⟩
 .rcases h with h|h
  .exact(f a h).imp .inl λz=>⟨z,r.dom a h⟩
  .exact .inl (.inr h)
 .rcases z with z|z
  .exact q.1 (.inl z)
  .refine q.1 (.inr ⟨.inr z,λh=>?_⟩)
   rcases e.fm b h with y|y
   .exact I.notO z y
   .obtain⟨o,ho,_⟩:=I.fdm b z
    rw[y]at ho;cases ho
end
def eUp(f:En->Option D):En->Option (D×En):=λρ=>(f ρ).map λd=>(d,ρ)
theorem Bg{f:En->Option D}(h:RfE G ob ta f):kZ G ob ta (eUp f):=λρ d I e σ H S Fr s Q q=>by
 unfold eUp at e;cases h1:f ρ with
 |none=>rw[h1]at e;cases e
 |some d0=>
  rw[h1]at e;cases e;refine h ρ d h1 σ H _ s.rel s.wok Q λv H' L B r F nd=>?_;exact q v H' L S (s.grow B λa z=>z.elim (λz=>.inr ⟨F a z,r.dom a z⟩) .inl) r nd ⟨λb u U _=>B b u U,λ_ _=>rfl,λi a h z=>.inl ⟨i,h,z⟩,λa Y=>.inr (F a Y)⟩
def lC(f:En->Option Bool):En->Option (Bool×En):=λρ=>(f ρ).map λd=>(d,ρ)
theorem J5{t:TT}{f:En->Option Bool}(h:RfT G ob t f):Ik G ob t (lC f):=λρ d I e σ H S Fr s Q q=>by
 unfold lC at e;cases h1:f ρ with
 |none=>rw[h1]at e;cases e
 |some d0=>
  rw[h1]at e;cases e;refine h ρ d h1 σ H _ s.rel s.wok Q λH' B=>?_;exact q H' S (s.grow B λa z=>.inl z) ⟨λb u U _=>B b u U,λ_ _=>rfl,λi a h z=>.inl ⟨i,h,z⟩,by simp⟩
def dG(f:En->Option (List D)):En->Option (List D×En):=λρ=>(f ρ).map λd=>(d,ρ)
theorem zF(h:RfA G ob t f):Cz G ob t (dG f):=λρ d I e σ H S Fr s Q q=>by
 unfold dG at e;cases h1:f ρ with
 |none=>rw[h1]at e;cases e
 |some d0=>
  rw[h1]at e;cases e;refine h ρ d h1 σ H _ s.rel s.wok Q λv H' L B r F nd=>?_;exact q v H' L S (s.grow B λa z=>z.elim (λz=>.inr ⟨F a z,r.dom a z⟩) .inl) r nd ⟨λb u U _=>B b u U,λ_ _=>rfl,λi a h z=>.inl ⟨i,h,z⟩,λa Y=>.inr (F a Y)⟩
theorem cu{f:En->Option D}(h:PV X G ob e f):PVe X G ob e (eUp f):=let⟨t,a1,a2⟩:=h.ex;⟨t,a1,Bg a2⟩
theorem Az{f:En->Option Bool}(h:PVT X G ob e f):MJ X G ob e (lC f):=let⟨t,a1,a2⟩:=h.ex;⟨t,a1,J5 a2⟩
theorem bM{e:List Expr}(h:PVA X G ob e f):CQ X G ob e (dG f):=let⟨t,a1,a2⟩:=h.ex;⟨t,a1,zF a2⟩
variable{fa fb:En->Option (D×En)}
theorem kZ.two(Y:kZ G ob ta fa)(U:kZ G ob tb fb){ρ1 ρ2:En}{dx dy:D}(e1:fa ρ=some (dx,ρ1))(e2:fb ρ1=some (dy,ρ2))(F:aB dx=true){Fr:Addr->Prop}(s:Sta G H ob ρ σ S Fr){R:V->V->Hp->Prop}
  (h:∀x y H' L M S',Sta G H' ob ρ2 σ S' (plus (L++M) Fr)->Rep G H' (wn ob S' (plus (L++M) Fr)) dx x L->Rep G H' (wn ob S' (plus (L++M) Fr)) dy y M->(L++M).Nodup->Eff ob H H' S S' (L++M)->R x y H'):ta σ H λx H1=>tb σ H1 λy H2=>R x y H2:=by
 refine Y ρ dx ρ1 e1 σ H S Fr s _ λx H1 L S1 O rx nx f1=>?_;refine U ρ1 dy ρ2 e2 σ H1 S1 (plus L Fr) O _ λy H2 M S2 s2 N B I=>?_;have q:=rx.mono (I.evo O) (.inr (I.evoN O)) (.inl F) λc Z u J=>I.keepsF O (.inl Z) u J;rw[pW]at s2 N q;refine h x y H2 L M S2 s2 q N (dN nx B λa h1 h2=>?_) (f1.trans I);rcases I.fm a h2 with z|z
 .exact O.notO (.inl h1) z
 .obtain⟨o,ho,_⟩:=rx.dom a h1
  rw[z]at ho;cases ho
def ee2(g:D->D->Option D)(fa fb:En->Option (D×En)):En->Option (D×En):=λρ=>(fa ρ).bind λp=>(fb p.2).bind λq=>if aB p.1 then(g p.1 q.1).map λd=>(d,q.2)else none
theorem Dv{r:R2}{g:D->D->Option D}(J:OpV G r g)(Y:kZ G ob ta fa)(U:kZ G ob tb fb):kZ G ob (tOp r ta tb) (ee2 g fa fb):=λρ d I e σ H S Fr s Q q=>by
 unfold ee2 at e;cases h1:fa ρ with
 |none=>simp[h1]at e
 |some p=>
  obtain⟨dx,ρ1⟩:=p;cases h2:fb ρ1 with
  |none=>simp[h1,h2]at e
  |some p=>
   obtain⟨V,ρ2⟩:=p;cases F:aB dx with
   |false=>simp[h1,h2,F]at e
   |true=>
    cases B:g dx V with
    |none=>simp[h1,h2,F,B]at e
    |some d'=>
     obtain⟨rfl,rfl⟩:d'=d/\ρ2=I:=by simpa[h1,h2,F,B]using e
     refine kZ.two Y U h1 h2 F s λx y H' L M S' s' rx N nd O=>?_;refine J dx V _ B x y H' _ L M rx N nd (λa Y=>s'.tmp (.inl Y)) s'.wok Q λv H3 L3 s3 r3 f3 Z=>?_;obtain⟨q1,q2,q3⟩:=R_ s' O s3 r3 f3 s;exact q v H3 L3 S' q1 q2 Z q3
def fj(fa:En->Option (D×En))(F:En->Option (List D×En)):En->Option (List D×En):=λρ=>(fa ρ).bind λp=>(F p.2).bind λq=>if aB p.1 then some (p.1::q.1,q.2)else none
theorem Ky{fr:En->Option (List D×En)}(Y:kZ G ob ta fa)(O:Cz G ob t fr):Cz G ob (Ge ta t) (fj fa fr):=λρ ds I e σ H S Fr s Q q=>by
 unfold fj at e;cases h1:fa ρ with
 |none=>simp[h1]at e
 |some p=>
  obtain⟨dx,ρ1⟩:=p;cases h2:fr ρ1 with
  |none=>simp[h1,h2]at e
  |some p=>
   obtain⟨es,ρ2⟩:=p;cases F:aB dx with
   |false=>simp[h1,h2,F]at e
   |true=>
    obtain⟨rfl,rfl⟩:dx::es=ds/\ρ2=I:=by simpa[h1,h2,F]using e
    refine Y ρ dx ρ1 h1 σ H S Fr s _ λx H1 L S1 s1 rx nx f1=>?_;refine O ρ1 es _ h2 σ H1 S1 (plus L Fr) s1 _ λys H2 M S2 s2 N B U=>?_;have V:=rx.mono (U.evo s1) (.inr (U.evoN s1)) (.inl F) λc Z u J=>U.keepsF s1 (.inl Z) u J;rw[pW]at s2 N V;refine q (x::ys) H2 (L++M) S2 s2 (.cons V N) (dN nx B λa h1 h2=>?_) (f1.trans U);rcases U.fm a h2 with z|z
    .exact s1.notO (.inl h1) z
    .obtain⟨o,ho,_⟩:=rx.dom a h1
     rw[z]at ho;cases ho
def mO(g:List D->Option D)(f:En->Option (List D×En)):En->Option (D×En):=λρ=>(f ρ).bind λp=>(g p.1).map λd=>(d,p.2)
variable{f:En->Option (List D×En)}
theorem Ei(J:CaV G r g)(h:Cz G ob t f):kZ G ob (λσ H Q=>t σ H λvs H1=>r vs H1 Q) (mO g f):=λρ d I e σ H S Fr s Q q=>by
 unfold mO at e;cases h1:f ρ with
 |none=>simp[h1]at e
 |some p=>
  obtain⟨ds,ρ1⟩:=p;cases B:g ds with
  |none=>simp[h1,B]at e
  |some d'=>
   obtain⟨rfl,rfl⟩:d'=d/\ρ1=I:=by simpa[h1,B]using e
   refine h ρ ds _ h1 σ H S Fr s _ λxs H' L S' s' rx nd O=>?_;refine J ds _ B xs H' _ L rx nd (λa Y=>s'.tmp (.inl Y)) s'.wok Q λv H3 F N r3 f3 Z=>?_;obtain⟨q1,q2,U⟩:=R_ s' O N r3 f3 s;exact q v H3 F S' q1 q2 Z U
theorem ph{op:ad0}{g:D->D->Option D}(o:OpB X G (aay op) g)(Y:PVe X G ob a fa)(U:PVe X G ob b fb):PVe X G ob (.BinOp a op b pos) (ee2 g fa fb):=let⟨r,o1,o2⟩:=o.ex;let⟨t,a1,a2⟩:=Y.ex;let⟨u,b1,b2⟩:=U.ex;⟨_,λc=>Tg (o1 c) (a1 c) (b1 c),Dv o2 a2 b2⟩
theorem vH{g:D->D->Option D}(o:IxB X G g)(Y:PVe X G ob a fa)(U:PVe X G ob b fb)(B:vm b:=by exact λ_ _=>rfl):PVe X G ob (.Subscript a b pos) (ee2 g fa fb):=let⟨r,o1,o2⟩:=o.ex;let⟨t,a1,a2⟩:=Y.ex;let⟨u,b1,b2⟩:=U.ex;⟨_,λc=>Nx (o1 c) (a1 c) (b1 c) B,Dv o2 a2 b2⟩
theorem kJ{f:En->Option (D×En)}{F:En->Option (List D×En)}(Y:PVe X G ob e f)(O:CQ X G ob es F)(B:∀c,YQ (e::es) (X c).env=(false,eval e (X c).env)::YQ es (X c).env:=by intro _;rfl):CQ X G ob (e::es) (fj f F):=let⟨t,a1,a2⟩:=Y.ex;let⟨u,b1,b2⟩:=O.ex;⟨_,λc=>zp (a1 c) (b1 c) (B c),Ky a2 b2⟩
theorem DY(o:CaB X G (.type T) g)(q:∀c,Gl (X c) x)(N:∀c,(X c).mg x=none)(B:aaW x=some (.type T))(Y:CQ X G ob (e::es) f)(hn:x≠"__name__":=by decide)(J:1.18=false:=by decide)(V:∀c,YQ (e::es) (X c).env=(false,eval e (X c).env)::YQ es (X c).env:=by intro _;rfl)(Z:∀c,(aak pos (YQ es (X c).env)).any (·.1)=false:=by intro _;rfl):PVe X G ob (.Call (.Name x p) (e::es) [] pos) (mO g f):=let⟨r,o1,o2⟩:=o.ex;let⟨t,a1,a2⟩:=Y.ex;⟨_,λc=>yR (o1 c) (q c) (N c) B (a1 c) hn J (V c) (Z c),Ei o2 a2⟩
theorem Rv(h:CQ X G ob es f):PVe X G ob (.Tuple es k pos) (mO bO f):=let⟨t,a1,a2⟩:=h.ex;⟨_,λc=>JM (a1 c),Ei FW a2⟩
theorem PK(h:CQ X G ob es f):PVe X G ob (.List es pos) (mO dY f):=let⟨t,a1,a2⟩:=h.ex;⟨_,λc=>KZ (a1 c),Ei Gr a2⟩
def truth:D->Option Bool
 |.non=>some false
 |.bl b=>some b
 |.int i=>some (i !=0)
 |.str y=>if y.length<=YM then some ((y.length:Int)!=0)else none
 |.lst _ ds=>some (!ds.isEmpty)
 |.tup ds=>some (!ds.isEmpty)
 |.dct m _ ds=>if m= .scr then none else some (!ds.isEmpty)
 |_=>none
theorem tV(r:aH G H W ds xs L):ds.isEmpty=xs.isEmpty:=by
 have:=r.length;cases ds<;>cases xs<;>simp_all
theorem Kl{k:Bool}(r:Rep G H W d v L)(h:truth d=some k):Qx G.K v H k:=by
 cases d with
 |non=>rw[Rep]at r;obtain⟨rfl,_⟩:=r;cases h;rfl
 |bl b=>rw[Rep]at r;obtain⟨rfl,_⟩:=r;cases h;rfl
 |int i=>rw[Rep]at r;obtain⟨rfl,_⟩:=r;cases h;rfl
 |str y=>
  rw[Rep]at r;obtain⟨rfl,_⟩:=r;simp![truth]at h;split at h
  .cases h;exact⟨‹_›,rfl⟩
  .cases h
 |ty n=>cases h
 |tup ds=>
  rw[Rep]at r;obtain⟨a,xs,rfl,U,O⟩:=r;cases h;exact .inr (.inl ⟨xs,SqT.of U,by rw[tV O]⟩)
 |lst m ds=>
  rw[Rep]at r;obtain⟨a,xs,M,rfl,O,B⟩:=r;cases h;exact .inl ⟨xs,B.sq,by rw[tV O]⟩
 |dct m ks ds=>
  rw[Rep]at r;obtain⟨a,kvs,M,rfl,I,O,B⟩:=r;simp![truth]at h;split at h
  .cases h
  .cases h
   refine .inr (.inr ⟨kvs,B.at ‹_›,?_⟩);rw[tV O];cases kvs<;>rfl
 |ins m c fs ds=>cases h
section
variable{ι:Type}{X:ι->Cx}{G:Gc}{ob:Nat->Bool}{a b:Expr}{pos:Pos}
def jt(f:En->Option D):En->Option Bool:=λρ=>(f ρ).bind truth
theorem Ub{ta:TE}{f:En->Option D}(h:RfE G ob ta f):RfT G ob (λσ H Q=>ta σ H λx H'=>∃k,Qx G.K x H' k/\Q k H') (jt f):=λρ k e σ H W V w Q q=>by
 unfold jt at e;cases h1:f ρ with
 |none=>simp[h1]at e
 |some d=>
  have e:truth d=some k:=by simpa[h1]using e
  exact h ρ d h1 σ H W V w _ λx H' L s r F nd=>⟨k,Kl r e,q H' s⟩
theorem lF{f:En->Option D}(h:PV X G ob a f)(V:∀c,∀q,aeA a (X c).env q=(do let v ←q;acz a.pos;aaP [v] (truthy v)):=by intro _;intro _;rfl)(F:∀c,(X c).K=G.K:=by intro _;rfl):PVT X G ob a (jt f):=let⟨t,a1,a2⟩:=h.ex;⟨_,λc=>(by have h:=M8 (a1 c) (V c);rw[F c]at h;exact h),Ub a2⟩
def isB:D->Option Bool
 |.bl b=>some b
 |_=>none
def eB(f:En->Option D):En->Option Bool:=λρ=>(f ρ).bind isB
def eeB(f:En->Option (D×En)):En->Option (Bool×En):=λρ=>(f ρ).bind λp=>(isB p.1).map λb=>(b,p.2)
theorem rC{d:D}{k:Bool}(h:isB d=some k):d= .bl k:=by
 cases d<;>simp[isB]at h;rw[h]
theorem Yq{ta:TE}{f:En->Option D}(h:RfE G ob ta f):RfT G ob (KN ta) (eB f):=λρ k e σ H W V w Q q=>by
 unfold eB at e;cases h1:f ρ with
 |none=>simp[h1]at e
 |some d=>
  have e:isB d=some k:=by simpa[h1]using e
  have:=rC e;subst this;refine h ρ _ h1 σ H W V w _ λx H' L s r F nd=>⟨k,?_,q H' s⟩;rw[Rep]at r;exact r.1
theorem WF{ta:TE}{f:En->Option (D×En)}(h:kZ G ob ta f):Ik G ob (KN ta) (eeB f):=λρ k I e σ H S Fr s Q q=>by
 unfold eeB at e;cases h1:f ρ with
 |none=>simp[h1]at e
 |some p=>
  obtain⟨d,ρ1⟩:=p;cases h2:isB d with
  |none=>simp[h1,h2]at e
  |some V=>
   obtain⟨rfl,rfl⟩:V=k/\ρ1=I:=by simpa[h1,h2]using e
   have:=rC h2;subst this;refine h ρ _ _ h1 σ H S Fr s _ λx H' M S' s' r nd O=>⟨V,?_,q H' S' (s'.lessF λa z=>.inr z) (O.same (Same.refl _) (by simp))⟩;rw[Rep]at r;exact r.1
theorem bR{fa fb:En->Option D}{op:CmpOp}{g:D->D->Option D}(o:OpB X G (ZL op) g)(Y:PV X G ob a fa)(U:PV X G ob b fb)(N:acU op b=false:=by with_unfolding_all rfl):PVT X G ob (.Compare a [op] [b] pos) (eB (e2 g fa fb)):=let⟨r,o1,o2⟩:=o.ex;let⟨t,a1,a2⟩:=Y.ex;let⟨u,b1,b2⟩:=U.ex;⟨_,λc=>Hf (o1 c) (a1 c) (b1 c) N,Yq (Hl o2 a2 b2)⟩
theorem xf{fa fb:En->Option (D×En)}{op:CmpOp}{g:D->D->Option D}(o:OpB X G (ZL op) g)(Y:PVe X G ob a fa)(U:PVe X G ob b fb)(N:acU op b=false:=by with_unfolding_all rfl):MJ X G ob (.Compare a [op] [b] pos) (eeB (ee2 g fa fb)):=let⟨r,o1,o2⟩:=o.ex;let⟨t,a1,a2⟩:=Y.ex;let⟨u,b1,b2⟩:=U.ex;⟨_,λc=>Hf (o1 c) (a1 c) (b1 c) N,WF (Dv o2 a2 b2)⟩
def ql(f g:En->Option Bool):En->Option Bool:=λρ=>(f ρ).bind λc=>if c then g ρ else some false
def eOr(f g:En->Option Bool):En->Option Bool:=λρ=>(f ρ).bind λc=>if c then some true else g ρ
def lV(f:En->Option Bool):En->Option Bool:=λρ=>(f ρ).map λc=>!c
def nO(f g:En->Option (Bool×En)):En->Option (Bool×En):=λρ=>(f ρ).bind λp=>if p.1 then g p.2 else some (false,p.2)
theorem Ux{t u:TT}{f g:En->Option Bool}(h:RfT G ob t f)(h':RfT G ob u g):RfT G ob (Ww t u) (ql f g):=λρ k e σ H W V w Q q=>by
 unfold ql at e;cases h1:f ρ with
 |none=>simp[h1]at e
 |some c=>
  refine h ρ c h1 σ H W V w _ λH1 O=>?_;cases c with
  |false=>
   have:false=k:=by simpa[h1]using e
   subst this;exact xr (q H1 O)
  |true=>
   have e:g ρ=some k:=by simpa[h1]using e
   exact t6 (h' ρ k e σ H1 W (V.up (Up.same O)) (λa Y=>let⟨o,z,m⟩:=w a Y;⟨o,O a o z,m⟩) Q λH2 Z=>q H2 (O.trans Z))
theorem V_{t u:TT}{f g:En->Option Bool}(h:RfT G ob t f)(h':RfT G ob u g):RfT G ob (tOr t u) (eOr f g):=λρ k e σ H W V w Q q=>by
 unfold eOr at e;cases h1:f ρ with
 |none=>simp[h1]at e
 |some c=>
  refine h ρ c h1 σ H W V w _ λH1 O=>?_;cases c with
  |true=>
   have:true=k:=by simpa[h1]using e
   subst this;exact t6 (q H1 O)
  |false=>
   have e:g ρ=some k:=by simpa[h1]using e
   exact xr (h' ρ k e σ H1 W (V.up (Up.same O)) (λa Y=>let⟨o,z,m⟩:=w a Y;⟨o,O a o z,m⟩) Q λH2 Z=>q H2 (O.trans Z))
theorem UV{t:TT}{f:En->Option Bool}(h:RfT G ob t f):RfT G ob (W9 t) (lV f):=λρ k e σ H W V w Q q=>by
 unfold lV at e;cases h1:f ρ with
 |none=>simp[h1]at e
 |some c=>
  have:(!c)=k:=by simpa[h1]using e
  subst this;exact h ρ c h1 σ H W V w _ λH1 O=>q H1 O
variable{rest:List Expr}{fa fb:En->Option Bool}{ga gb:En->Option (Bool×En)}
theorem Rn(Y:PVT X G ob a fa)(U:PVW X G ob (.BoolOp .And (b::rest) pos) fb):PVW X G ob (.BoolOp .And (a::b::rest) pos) (ql fa fb):=let⟨t,a1,a2⟩:=Y.ex;let⟨u,b1,b2⟩:=U.ex;⟨_,λc=>T5 (a1 c) (b1 c),Ux a2 b2⟩
theorem Ey(Y:PVT X G ob a fa)(U:PVW X G ob (.BoolOp .Or (b::rest) pos) fb):PVW X G ob (.BoolOp .Or (a::b::rest) pos) (eOr fa fb):=let⟨t,a1,a2⟩:=Y.ex;let⟨u,b1,b2⟩:=U.ex;⟨_,λc=>Wt (a1 c) (b1 c),V_ a2 b2⟩
theorem J1(Y:PVT X G ob a fa):PVW X G ob (.BoolOp .And [a] pos) fa:=let⟨t,a1,a2⟩:=Y.ex;⟨_,λc=>Oz (a1 c),a2⟩
theorem zB(Y:PVT X G ob a fa):PVW X G ob (.BoolOp .Or [a] pos) fa:=let⟨t,a1,a2⟩:=Y.ex;⟨_,λc=>VJ (a1 c),a2⟩
theorem Gj(h:PVW X G ob a fa):PVT X G ob a fa:=let⟨t,a1,a2⟩:=h.ex;⟨_,λc=>PW.pt (a1 c),a2⟩
theorem vo(Y:PVT X G ob a fa):PVT X G ob (.UnaryOp .Not a pos) (lV fa):=let⟨t,a1,a2⟩:=Y.ex;⟨_,λc=>TJ (a1 c),UV a2⟩
def mq(f g:En->Option D):En->Option D:=λρ=>(f ρ).bind λx=>(isB x).bind λc=>if c then g ρ else some (.bl false)
def Jc(x:D):Option D:=(isB x).map λc=>.bl !c
def aO(c:En->Option Bool)(f g:En->Option D):En->Option D:=λρ=>(c ρ).bind λb=>if b then f ρ else g ρ
def aG(c:En->Option (Bool×En))(f g:En->Option (D×En)):En->Option (D×En):=λρ=>(c ρ).bind λp=>if p.1 then f p.2 else g p.2
theorem WOk.up{H H':Hp}{W:Wn}(w:WOk H W)(s:Same H H'):WOk H' W:=λa Y=>let⟨o,z,m⟩:=w a Y;⟨o,s a o z,m⟩
theorem Oa{G:Gc}{H:Hp}{W:Wn}{b:Bool}:Rep G H W (.bl b) (.bl b) []:=by rw[Rep];exact⟨rfl,rfl⟩
theorem Pj{ta tb:TE}{f g:En->Option D}(h:RfE G ob ta f)(h':RfE G ob tb g):RfE G ob (R7 ta tb) (mq f g):=λρ d e σ H W V w Q q=>by
 unfold mq at e;cases h1:f ρ with
 |none=>simp[h1]at e
 |some x=>
  cases h2:isB x with
  |none=>simp[h1,h2]at e
  |some c=>
   have:=rC h2;subst this;refine h ρ _ h1 σ H W V w _ λv H1 L O r F nd=>?_;rw[Rep]at r;refine⟨c,r.1,?_⟩;cases c with
   |false=>
    have:D.bl false=d:=by simpa[h1,isB]using e
    subst this;exact xr (q _ H1 [] O Oa (by simp) Zz)
   |true=>
    have e:g ρ=some d:=by simpa[h1,isB]using e
    exact t6 (h' ρ d e σ H1 W (V.up (Up.same O)) (w.up O) Q λv H2 L Z r F nd=>q v H2 L (O.trans Z) r (λa Y=>O.none' (F a Y)) nd)
theorem Ru{ta:TE}{f:En->Option D}(h:RfE G ob ta f):RfE G ob (Tc ta) (e1 Jc f):=λρ d e σ H W V w Q q=>by
 unfold e1 at e;cases h1:f ρ with
 |none=>simp[h1]at e
 |some x=>
  cases h2:isB x with
  |none=>simp[h1,h2,Jc]at e
  |some c=>
   have:=rC h2;subst this;have:D.bl (!c)=d:=by simpa[h1,Jc,isB]using e
   subst this;refine h ρ _ h1 σ H W V w _ λv H1 L O r F nd=>?_;rw[Rep]at r;exact⟨c,r.1,q _ H1 [] O Oa (by simp) Zz⟩
theorem VD{t:TT}{ta tb:TE}{c:En->Option Bool}{f g:En->Option D}(Z:RfT G ob t c)(h:RfE G ob ta f)(h':RfE G ob tb g):RfE G ob (tIf t ta tb) (aO c f g):=λρ d e σ H W V w Q q=>by
 unfold aO at e;cases h1:c ρ with
 |none=>simp[h1]at e
 |some b=>
  refine Z ρ b h1 σ H W V w _ λH1 O=>?_;cases b with
  |true=>
   have e:f ρ=some d:=by simpa[h1]using e
   exact t6 (h ρ d e σ H1 W (V.up (Up.same O)) (w.up O) Q λv H2 L B r F nd=>q v H2 L (O.trans B) r (λa Y=>O.none' (F a Y)) nd)
  |false=>
   have e:g ρ=some d:=by simpa[h1]using e
   exact xr (h' ρ d e σ H1 W (V.up (Up.same O)) (w.up O) Q λv H2 L B r F nd=>q v H2 L (O.trans B) r (λa Y=>O.none' (F a Y)) nd)
theorem O5{t:TT}{ta tb:TE}{c:En->Option (Bool×En)}{f g:En->Option (D×En)}(Z:Ik G ob t c)(h:kZ G ob ta f)(h':kZ G ob tb g):kZ G ob (tIf t ta tb) (aG c f g):=λρ d I e σ H S Fr s Q q=>by
 unfold aG at e;cases h1:c ρ with
 |none=>simp[h1]at e
 |some p=>
  obtain⟨b,ρ1⟩:=p;refine Z ρ b ρ1 h1 σ H S Fr s _ λH1 S1 O N=>?_;cases b with
  |true=>
   have e:f ρ1=some (d,I):=by simpa[h1]using e
   exact t6 (h ρ1 d I e σ H1 S1 Fr O Q λv H2 M S2 B r nd F=>q v H2 M S2 B r nd (N.trans F))
  |false=>
   have e:g ρ1=some (d,I):=by simpa[h1]using e
   exact xr (h' ρ1 d I e σ H1 S1 Fr O Q λv H2 M S2 B r nd F=>q v H2 M S2 B r nd (N.trans F))
section
variable{c:Expr}{fa fb:En->Option D}{fc:En->Option Bool}
theorem ud(Y:PV X G ob a fa)(U:PV X G ob (.BoolOp .And (b::rest) pos) fb):PV X G ob (.BoolOp .And (a::b::rest) pos) (mq fa fb):=let⟨t,a1,a2⟩:=Y.ex;let⟨u,b1,b2⟩:=U.ex;⟨_,λc=>Vc (a1 c) (b1 c),Pj a2 b2⟩
theorem vG{op}(Y:PV X G ob a fa):PV X G ob (.BoolOp op [a] pos) fa:=let⟨t,a1,a2⟩:=Y.ex;⟨_,λc=>Vh (a1 c),a2⟩
theorem Ug(Y:PV X G ob a fa):PV X G ob (.UnaryOp .Not a pos) (e1 Jc fa):=let⟨t,a1,a2⟩:=Y.ex;⟨_,λc=>Vt (a1 c),Ru a2⟩
theorem V2(Z:PVT X G ob c fc)(Y:PV X G ob a fa)(U:PV X G ob b fb):PV X G ob (.IfExp c a b pos) (aO fc fa fb):=let⟨v,c1,c2⟩:=Z.ex;let⟨t,a1,a2⟩:=Y.ex;let⟨u,b1,b2⟩:=U.ex;⟨_,λc=>BX (c1 c) (a1 c) (b1 c),VD c2 a2 b2⟩
theorem QM{fa fb:En->Option (D×En)}{fc:En->Option (Bool×En)}(Z:MJ X G ob c fc)(Y:PVe X G ob a fa)(U:PVe X G ob b fb):PVe X G ob (.IfExp c a b pos) (aG fc fa fb):=let⟨v,c1,c2⟩:=Z.ex;let⟨t,a1,a2⟩:=Y.ex;let⟨u,b1,b2⟩:=U.ex;⟨_,λc=>BX (c1 c) (a1 c) (b1 c),O5 c2 a2 b2⟩
end
end
section
variable{G:Gc}{ob P:Nat->Bool}{H H1 H2:Hp}{S S1 S2:Ad}{L M:List Addr}{ρ ρ1:En}{σ:L2.St}{Fr:Addr->Prop}
def gU(S:Ad)(i:Nat)(M:List Addr):Ad:=λj=>if j=i then M else S j
theorem cM{i:Nat}:gU S i M i=M:=YZ rfl
theorem cF{i j:Nat}(h:j≠i):gU S i M j=S j:=Zi h
theorem d7{i j:Nat}{a:Addr}(h:a∈gU S i M j):(j=i/\a∈M)∨(j≠i/\a∈S j):=by
 by_cases e:j=i
 .rw[e,cM]at h;exact .inl ⟨e,h⟩
 .rw[cF e]at h;exact .inr ⟨e,h⟩
theorem Mv.refl:Mv P H H σ σ S S M:=⟨λ_ _ h _ _=>h,λi a z=>.inl ⟨i,z⟩,.refl⟩
theorem Sta.store{i:Nat}{d:D}{v:V}(s:Sta G H ob ρ σ S (plus M Fr))(r:Rep G H (wn ob S (plus M Fr)) d v M)(Z:clean d=true)(nd:M.Nodup)(O:∀a∈M,¬Fr a) :
  ∃S',Sta G H ob (ρ.set i (some d)) (σ.set i (some v)) S' Fr/\∀j a,a∈S' j->inS S a∨a∈M:=by
 by_cases hi:i<ρ.length
 .refine⟨gU S i M,⟨by simp[s.len],λj e I=>?_,λj F=>?_,λj=>?_,λj k a h1 h2=>?_,λj a h1 h2=>?_,λa h=>s.fdm a (.inr h)⟩,λj a h=>?_⟩
  .have ev:Evo H H (wn ob S (plus M Fr)) (wn ob (gU S i M) Fr):=⟨λb u h f=>⟨h,⟨λz=>f.1 (.inr z),λ⟨k,h1,h2⟩=>?_,λ⟨k,h1,h2⟩=>?_⟩⟩,λ_ _ h=>h⟩
   .by_cases e:j=i
    .subst e
     have:d=e:=by simpa[hi]using I
     have:d=e:=this;subst this;have Y:j<σ.length:=by rw[←s.len];exact hi
     refine⟨v,by simp[Y],?_,Z⟩;rw[cM];have q:aD d=true/\aB d=true:=by simpa[clean]using Z
     exact r.mono ev (.inl q.1) (.inl q.2) λ_ _ _ h=>h
    .rw[List.getElem?_set_ne (Zt e)]at I
     obtain⟨N,h1,h2,B⟩:=s.sl j _ I;refine⟨N,by rw[List.getElem?_set_ne (Zt e)];exact h1,?_,B⟩;rw[cF e];have q:=(by simpa[clean]using B:aD _=true/\aB _=true);exact h2.mono ev (.inl q.1) (.inl q.2) λ_ _ _ h=>h
   .rcases d7 h2 with⟨_,z⟩|⟨_,z⟩
    .exact f.1 (.inl z)
    .exact f.2.1 ⟨k,h1,z⟩
   .rcases d7 h2 with⟨_,z⟩|⟨_,z⟩
    .exact f.1 (.inl z)
    .exact f.2.2 ⟨k,h1,z⟩
  .by_cases e:j=i
   .subst e
    exact absurd (by simp[hi]) (F d)
   .rw[cF e]
    exact s.em j λd'=>by have:=F d';rwa[List.getElem?_set_ne (Zt e)]at this
  .by_cases e:j=i
   .rw[e,cM];exact nd
   .rw[cF e];exact s.nd j
  .rcases d7 h1 with⟨e1,z1⟩|⟨e1,z1⟩<;>rcases d7 h2 with⟨e2,J⟩|⟨e2,J⟩
   .rw[e1,e2]
   .exact absurd J (s.fdj k a (.inl z1))
   .exact absurd z1 (s.fdj j a (.inl J))
   .exact s.dj j k a z1 J
  .rcases d7 h2 with⟨_,z⟩|⟨_,z⟩
   .exact O a z h1
   .exact s.fdj j a (.inr h1) z
  .rcases d7 h with⟨_,z⟩|⟨_,z⟩
   .exact .inr z
   .exact .inl ⟨j,z⟩
 .have h1:ρ.set i (some d)=ρ:=ad7 1.11
  have h2:σ.set i (some v)=σ:=ad7 (by rw[←s.len];omega);rw[h1,h2];exact⟨S,s.lessF λa z=>.inr z,λj a h=>.inl ⟨j,h⟩⟩
end
section
variable{ι:Type}{X:ι->Cx}{G:Gc}{ob P:Nat->Bool}
def eU:En->Option Fl:=λρ=>some (.nx ρ)
def a_(f g:En->Option Fl):En->Option Fl:=λρ=>match f ρ with
 |some (.nx ρ')=>g ρ'
 |r=>r
theorem Aft.from{G:Gc}{H H1:Hp}{σ J:L2.St}{S S1:Ad}{Fr:Addr->Prop}{E:Ends}(m:Mv P H H1 σ J S S1 []):∀{r:Fl},Aft G ob P H σ S Fr E r->Aft G ob P H1 J S1 Fr E r
 |.nx ρ',h=>λB H' S' s I=>h B H' S' s (m.trans I)
 |.brk ρ',h=>λB H' S' s I=>h B H' S' s (m.trans I)
 |.cnt ρ',h=>λB H' S' s I=>h B H' S' s (m.trans I)
 |.ret d ρ',h=>λv B H' M S' s r c n f I=>h v B H' M S' s r c n (λa Y=>by
  rcases f a Y with⟨i,z⟩|z
  .exact(m.gr i a z).elim .inl λz=>z.elim (λz=>by cases z) .inr
  .by_cases q:inS S a
   .exact .inl q
   .refine .inr ?_
    cases e:H a with
    |none=>rfl
    |some u=>rw[m.kp a u e q (by simp)]at z;cases z) (m.trans I)
theorem Py:RfS G ob P Ss eU:=λρ r e σ H S Fr s E h=>by
 cases e;exact h σ H S s .refl
theorem Ph{t u:TS}{f g:En->Option Fl}(h1:RfS G ob P t f)(h2:RfS G ob P u g):RfS G ob P (WT t u) (a_ f g):=λρ r e σ H S Fr s E h=>by
 unfold a_ at e;cases q:f ρ with
 |none=>rw[q]at e;cases e
 |some fl=>
  rw[q]at e;refine h1 ρ fl q σ H S Fr s _ ?_;cases fl with
  |nx I=>exact λB H' S' s' m=>h2 I r e B H' S' Fr s' E (h.from m)
  |brk I=>cases e;exact h
  |cnt I=>cases e;exact h
  |ret d I=>cases e;exact h
theorem cg:uT X G ob P [] eU:=⟨_,λc=>Qz,Py⟩
theorem az{st:Stmt}{rest:List Stmt}{f g:En->Option Fl}(h1:PVS X G ob P st f)(h2:uT X G ob P rest g):uT X G ob P (st::rest) (a_ f g):=let⟨t,a1,a2⟩:=h1.ex;let⟨u,b1,b2⟩:=h2.ex;⟨_,λc=>LK (a1 c) (b1 c),Ph a2 b2⟩
theorem aL{st:Stmt}{f:En->Option Fl}(h1:PVS X G ob P st f):uT X G ob P [st] f:=let⟨t,a1,a2⟩:=h1.ex;⟨_,λc=>Qc (a1 c),a2⟩
def E_:En->Option Fl:=λ_=>none
theorem yp{st:Stmt}:PVS X G ob P st E_:=⟨_,λc=>Lw,λρ r e=>by cases e⟩
def tgN(i:Nat):D->En->Option En:=λd ρ=>if clean d then some (ρ.set i (some d))else none
theorem jm{i:Nat}(D:P i=false):RfG G ob P (yD i) (tgN i):=λd ρ I e v σ H S M Fr s r nd B Q q=>by
 unfold tgN at e;split at e
 .rename_i hc
  cases e;obtain⟨S',s',h⟩:=s.store r hc nd B (i:=i);refine q _ H S' s' ⟨λb u h _ _=>h,λj a z=>(h j a z).imp id .inl,λj F=>?_⟩;have:j≠i:=λz=>by rw[z,D]at F;cases F
  rw[List.getElem?_set_ne (Zt this)]
 .cases e
def b_:List D->En->Option En:=λds ρ=>match ds with
 |[]=>some ρ
 |_=>none
def aN(f:D->En->Option En)(g:List D->En->Option En):List D->En->Option En:=λds ρ=>match ds with
 |d::r=>(f d ρ).bind λρ1=>g r ρ1
 |[]=>none
def tgT(n:Nat)(g:List D->En->Option En):D->En->Option En:=λd ρ=>match d with
 |.tup ds=>if ds.length=n/\aA ds=true/\au ds=true then g ds ρ else none
 |_=>none
theorem Ol:Yc G ob P Ox b_:=λds ρ I e vs σ H S M Fr s r nd B Q q=>by
 cases ds with
 |nil=>
  cases e;obtain⟨rfl,rfl⟩:=r.inv0;exact⟨rfl,q σ H S (s.lessF λa z=>.inr z) .refl⟩
 |cons d r=>cases e
def Kv(G:Gc)(ob P:Nat->Bool)(g:TGs)(f:List D->En->Option En):Prop:=∀(ds:List D)(ρ I:En),au ds=true->aA ds=true->f ds ρ=some I->∀(vs:List V)(σ:L2.St)(H:Hp)(S:Ad)(M:List Addr)(Fr:Addr->Prop),Sta G H ob ρ σ S (plus M Fr)->aH G H (wn ob S (plus M Fr)) ds vs M->M.Nodup->(∀a∈M,¬Fr a)->
 ∀Q:L2.St->Hp->Prop,(∀B H' S',Sta G H' ob I B S' Fr->Mv P H H' σ B S S' M->Q B H')->g vs σ H Q
theorem v4:Kv G ob P Ox b_:=λds ρ I _ _ e=>Ol ds ρ I e
theorem kY{t:TG}{u:TGs}{f:D->En->Option En}{g:List D->En->Option En}(h1:RfG G ob P t f)(h2:Kv G ob P u g):Kv G ob P (Kh t u) (aN f g):=λds ρ I c1 c2 e vs σ H S M Fr s r nd hF Q q=>by
 cases ds with
 |nil=>cases e
 |cons d ds=>
  obtain⟨x,ys,M1,M2,rfl,rfl,F,O⟩:=r.inv;simp![au,aA,Zw]at c1 c2;simp![aN]at e;cases B:f d ρ with
  |none=>rw[B]at e;cases e
  |some ρ1=>
   have e:g ds ρ1=some I:=by simpa[B]using e
   have a0:=YX.mp nd;have a2:plus (M1++M2) Fr=plus M1 (plus M2 Fr):=by
    funext a;simp![plus,YC,or_assoc]
   rw[a2]at s F O;refine⟨x,ys,rfl,h1 d ρ ρ1 B x σ H S M1 (plus M2 Fr) s F a0.1 (λa Y z=>?_) _ λa1 H1 S1 s1 m1=>?_⟩
   .rcases z with z|z
    .exact a0.2.2 a Y a z rfl
    .exact hF a (Za _ Y) z
   .have ev:Evo H H1 (wn ob S (plus M1 (plus M2 Fr))) (wn ob S1 (plus M2 Fr)):=⟨λb u U f=>?_,λb xs h=>?_⟩
    .have hr1:aH G H1 (wn ob S1 (plus M2 Fr)) ds ys M2:=O.mono ev (.inl c1.2) (.inl c2.2) λc Z u hu=>m1.kp c u hu (λ⟨i,z⟩=>s.fdj i c (.inr (.inl Z)) z) λz=>a0.2.2 c z c Z rfl
     refine h2 ds ρ1 I c1.2 c2.2 e ys a1 H1 S1 M2 Fr s1 hr1 a0.2.1 (λa Y=>hF a (zc _ Y)) Q λσ2 H2 S2 s2 m2=>q σ2 H2 S2 s2 ⟨λb u U n1 V=>?_,λi a z=>?_,m1.pr.trans m2.pr⟩
     .have n3:b∉M1:=λz=>V (Za _ z)
      exact m2.kp b u (m1.kp b u U n1 n3) (λ⟨i,z⟩=>(m1.gr i b z).elim n1 λz=>z.elim n3 λz=>by rw[U]at z;cases z) λz=>V (zc _ z)
     .rcases m2.gr i a z with⟨j,z⟩|z|z
      .exact(m1.gr j a z).imp id λz=>z.imp (Za _) id
      .exact .inr (.inl (zc _ z))
      .by_cases q1:inS S a
       .exact .inl q1
       .by_cases q2:a∈M1
        .exact .inr (.inl (Za _ q2))
        .refine .inr (.inr ?_)
         cases e:H a with
         |none=>rfl
         |some u=>rw[m1.kp a u e q1 q2]at z;cases z
    .have n1:¬inS S b:=λ⟨i,z⟩=>by
      cases J:ob i with
      |false=>exact f.2.1 ⟨i,J,z⟩
      |true=>exact f.2.2 ⟨i,J,z⟩
     have V:b∉M1:=λz=>f.1 (.inl z);refine⟨m1.kp b u U n1 V,λz=>f.1 (.inr z),λ⟨i,_,z⟩=>?_,λ⟨i,_,z⟩=>?_⟩
     .exact(m1.gr i b z).elim n1 λz=>z.elim V λz=>by rw[U]at z;cases z
     .exact(m1.gr i b z).elim n1 λz=>z.elim V λz=>by rw[U]at z;cases z
    .have no:∀u,H b=some u->muO u=false->H1 b=some u:=λu hu m=>m1.kp b u hu (λ⟨i,z⟩=>by
       obtain⟨o,J,N⟩:=s.mu z;rw[hu]at J;cases J;rw[m]at N;cases N) λz=>by
       obtain⟨o,J,N⟩:=F.dom b z;rw[hu]at J;cases J;rw[m]at N;cases N
     exact no _ h rfl
theorem QQ{n:Nat}{t:TGs}{g:List D->En->Option En}(h:Kv G ob P t g):RfG G ob P (Uu G.K n t) (tgT n g):=λd ρ I e v σ H S M Fr s r nd B Q q=>by
 cases d with
 |tup ds=>
  simp![tgT]at e;split at e
  .rename_i hl
   rw[Rep]at r;obtain⟨a,xs,rfl,U,O⟩:=r;exact⟨a,xs,rfl,SqT.of U,by rw[←O.length];exact hl.1,h ds ρ I hl.2.2 hl.2.1 e xs σ H S M Fr s O nd B Q q⟩
  .cases e
 |_=>cases e
structure Rj{ι:Type}(X:ι->Cx)(G:Gc)(ob P:Nat->Bool)(tg:List Expr)(f:List D->En->Option En):Prop where
 mk::(ex:∃t,(∀c,PGs (X c) tg t)/\Kv G ob P t f)
theorem dM(i:Nat){x:Str}{pos:Pos}(V:∀c,(X c).N.Nodup)(D:P i=false:=by rfl)(hi:∀c,(X c).N[i]? =some x:=by intro _;rfl)(F:∀c,Loc (X c).env.scope x:=by intro _;first|exact aa_ rfl|exact aax rfl)(O:∀c,(X c).fn x=true∨(X c).env.scope.names.lookup x=some .local:=by intro _;first|exact .inl rfl|exact .inr rfl):PVG X G ob P (.Name x pos) (tgN i):=⟨_,λc=>zW (V c) (hi c) (F c) (O c),jm D⟩
theorem mH:Rj X G ob P [] b_:=⟨_,λc=>Ho,v4⟩
theorem dz{e:Expr}{es:List Expr}{f:D->En->Option En}{g:List D->En->Option En}(h1:PVG X G ob P e f)(h2:Rj X G ob P es g)(B:∀c,(aam (e::es) (X c).env).map (·.2)=acn e (X c).env::(aam es (X c).env).map (·.2):=by intro _;rfl):Rj X G ob P (e::es) (aN f g):=let⟨t,a1,a2⟩:=h1.ex;let⟨u,b1,b2⟩:=h2.ex;⟨_,λc=>Ba (a1 c) (b1 c) (B c),kY a2 b2⟩
theorem p7{es:List Expr}{k n:Nat}{pos:Pos}{g:List D->En->Option En}(Z:∀c,(X c).calm=true)(h:Rj X G ob P es g)(hn:∀c,(aam es (X c).env).length=n:=by intro _;rfl)(V:∀c,(aam es (X c).env).findIdx? (·.1)=none:=by intro _;rfl)(F:∀c,(X c).K=G.K:=by intro _;rfl):PVG X G ob P (.Tuple es k pos) (tgT n g):=let⟨t,a1,a2⟩:=h.ex;⟨_,λc=>(by rw[←F c];exact J4 (Z c) (a1 c) (hn c) (V c)),QQ a2⟩
def dq(f:En->Option D)(g:D->En->Option En):En->Option Fl:=λρ=>(f ρ).bind λd=>(g d ρ).map .nx
def bZ(f:En->Option (D×En))(g:D->En->Option En):En->Option Fl:=λρ=>(f ρ).bind λp=>(g p.1 p.2).map .nx
theorem su{Fr:Addr->Prop}:plus [] Fr=Fr:=by funext a;simp[plus]
theorem mX{te:TE}{t:TG}{f:En->Option (D×En)}{g:D->En->Option En}(h:kZ G ob te f)(F:RfG G ob P t g):RfS G ob P (Pa te t) (bZ f g):=λρ r e σ H S Fr s E q=>by
 unfold bZ at e;cases h1:f ρ with
 |none=>simp[h1]at e
 |some p=>
  obtain⟨d,ρ1⟩:=p;cases h2:g d ρ1 with
  |none=>simp[h1,h2]at e
  |some ρ2=>
   have:Fl.nx ρ2=r:=by simpa[h1,h2]using e
   subst this;refine h ρ d ρ1 h1 σ H S Fr s _ λv H1 M S1 O r1 nd N=>?_;have Z:∀a∈M,¬Fr a:=λa Y z=>by
    rcases N.fm a Y with q|q
    .exact s.notO z q
    .obtain⟨o,J,_⟩:=s.fdm a z
     rw[q]at J;cases J
   refine F d ρ1 ρ2 h2 v σ H1 S1 M Fr O r1 nd Z _ λB H' S' s' m=>q B H' S' s' ⟨λb u U I V=>?_,λi a z=>?_,m.pr⟩
   .have hno:¬inO ob S b:=λ⟨i,_,z⟩=>I ⟨i,z⟩
    refine m.kp b u (N.kp b u U hno) (λ⟨i,z⟩=>?_) λz=>(N.fm b z).elim hno λz=>by rw[U]at z;cases z
    cases J:ob i with
    |false=>rw[N.sn i J]at z;exact I ⟨i,z⟩
    |true=>exact(N.gr i b J z).elim hno λz=>by rw[U]at z;cases z
   .rcases m.gr i a z with⟨j,z⟩|z|z
    .cases J:ob j with
     |false=>rw[N.sn j J]at z;exact .inl ⟨j,z⟩
     |true=>exact(N.gr j a J z).imp (λ⟨k,_,z⟩=>⟨k,z⟩) .inr
    .exact(N.fm a z).imp (λ⟨k,_,z⟩=>⟨k,z⟩) .inr
    .exact(N.back z).imp (λ⟨k,_,z⟩=>⟨k,z⟩) .inr
theorem Dq{f:En->Option D}{g:D->En->Option En}:bZ (eUp f) g=dq f g:=by
 funext ρ;unfold bZ dq eUp;cases f ρ<;>rfl
section
variable{tg e:Expr}{pos:Pos}{g:D->En->Option En}
theorem nG{f:En->Option D}(V:PV X G ob e f)(q:PVG X G ob P tg g)(B:∀c,abv [tg] e pos.line (X c).env=pure false:=by intro _;rfl)(F:∀c,abT [tg] e (X c).env=pure none:=by intro _;rfl)(h1:∀c,(aam [tg] (X c).env).map (·.2)=[acn tg (X c).env]:=by intro _;rfl):PVS X G ob P (.Assign [tg] e pos) (dq f g):=let⟨t,a1,a2⟩:=V.ex;let⟨u,b1,b2⟩:=q.ex;⟨_,λc=>KC (a1 c) (b1 c) (B c) (F c) (h1 c),by rw[←Dq];exact mX (Bg a2) b2⟩
theorem Kr{f:En->Option (D×En)}(V:PVe X G ob e f)(q:PVG X G ob P tg g)(B:∀c,abv [tg] e pos.line (X c).env=pure false:=by intro _;rfl)(F:∀c,abT [tg] e (X c).env=pure none:=by intro _;rfl)(h1:∀c,(aam [tg] (X c).env).map (·.2)=[acn tg (X c).env]:=by intro _;rfl):PVS X G ob P (.Assign [tg] e pos) (bZ f g):=let⟨t,a1,a2⟩:=V.ex;let⟨u,b1,b2⟩:=q.ex;⟨_,λc=>KC (a1 c) (b1 c) (B c) (F c) (h1 c),mX a2 b2⟩
theorem cI(i:Nat){x:Str}{pos':Pos}{f:En->Option D}(I:∀c,(X c).N.Nodup)(V:PV X G ob e f)(q:P i=false:=by rfl)(hi:∀c,(X c).N[i]? =some x:=by intro _;rfl)(F:∀c,Loc (X c).env.scope x:=by intro _;first|exact aa_ rfl|exact aax rfl)(B:∀c,abH e (some (.Name x pos')) pos.line (X c).env=pure false:=by intro _;rfl)(O:∀c,(X c).fn x=true∨(X c).env.scope.names.lookup x=some .local:=by intro _;first|exact .inl rfl|exact .inr rfl):PVS X G ob P (.Assign [.Name x pos'] e pos) (dq f (tgN i)):=let⟨t,a1,a2⟩:=V.ex;⟨_,λc=>Mw (I c) (hi c) (F c) (a1 c) (B c) (O c),by rw[←Dq];exact mX (Bg a2) (jm q)⟩
theorem cW(i:Nat){x:Str}{pos':Pos}{f:En->Option (D×En)}(I:∀c,(X c).N.Nodup)(V:PVe X G ob e f)(q:P i=false:=by rfl)(hi:∀c,(X c).N[i]? =some x:=by intro _;rfl)(F:∀c,Loc (X c).env.scope x:=by intro _;first|exact aa_ rfl|exact aax rfl)(B:∀c,abH e (some (.Name x pos')) pos.line (X c).env=pure false:=by intro _;rfl)(O:∀c,(X c).fn x=true∨(X c).env.scope.names.lookup x=some .local:=by intro _;first|exact .inl rfl|exact .inr rfl):PVS X G ob P (.Assign [.Name x pos'] e pos) (bZ f (tgN i)):=let⟨t,a1,a2⟩:=V.ex;⟨_,λc=>Mw (I c) (hi c) (F c) (a1 c) (B c) (O c),mX a2 (jm q)⟩
end
def fV(f:En->Option (List D×En))(g:List D->En->Option En):En->Option Fl:=λρ=>(f ρ).bind λp=>if au p.1/\aA p.1 then(g p.1 p.2).map .nx else none
def aF(f:En->Option (List D))(g:List D->En->Option En):En->Option Fl:=λρ=>(f ρ).bind λp=>if au p/\aA p then(g p ρ).map .nx else none
theorem Qq{f:En->Option (List D)}{g:List D->En->Option En}:fV (dG f) g=aF f g:=by
 funext ρ;unfold fV aF dG;cases f ρ<;>rfl
theorem NQ{ta:TA}{i j:Nat}(hi:P i=false)(F:P j=false){f:En->Option (List D×En)}(h:Cz G ob ta f):RfS G ob P (Wr i j ta) (fV f (aN (tgN i) (aN (tgN j) b_))):=λρ r e σ H S Fr s E q=>by
 unfold fV at e;cases h1:f ρ with
 |none=>simp[h1]at e
 |some p=>
  obtain⟨ds,ρ1⟩:=p;by_cases Z:au ds/\aA ds
  .cases h2:(aN (tgN i) (aN (tgN j) b_)) ds ρ1 with
   |none=>simp[h1,h2,Z]at e
   |some ρ2=>
    have:Fl.nx ρ2=r:=by simpa[h1,h2,Z]using e
    subst this;refine h ρ ds ρ1 h1 σ H S Fr s _ λvs H1 M S1 O r1 nd N=>?_;have hF:∀a∈M,¬Fr a:=λa Y z=>by
     rcases N.fm a Y with q|q
     .exact s.notO z q
     .obtain⟨o,J,_⟩:=s.fdm a z
      rw[q]at J;cases J
    have V:=kY (jm (G:=G) (ob:=ob) hi) (kY (jm F) v4) ds ρ1 ρ2 Z.1 Z.2 h2 vs σ H1 S1 M Fr O r1 nd hF (λB H'=>E.nx B H') λB H' S' s' m=>q B H' S' s' ⟨λb u U I n2=>?_,λi a z=>?_,m.pr⟩
    .obtain⟨v,rr,e1,v2,r2,e2,e3,k⟩:=V
     subst e3;exact⟨v,v2,by rw[e1,e2],k⟩
    .have hno:¬inO ob S b:=λ⟨i,_,z⟩=>I ⟨i,z⟩
     refine m.kp b u (N.kp b u U hno) (λ⟨i,z⟩=>?_) λz=>(N.fm b z).elim hno λz=>by rw[U]at z;cases z
     cases J:ob i with
     |false=>rw[N.sn i J]at z;exact I ⟨i,z⟩
     |true=>exact(N.gr i b J z).elim hno λz=>by rw[U]at z;cases z
    .rcases m.gr i a z with⟨j,z⟩|z|z
     .cases J:ob j with
      |false=>rw[N.sn j J]at z;exact .inl ⟨j,z⟩
      |true=>exact(N.gr j a J z).imp (λ⟨k,_,z⟩=>⟨k,z⟩) .inr
     .exact(N.fm a z).imp (λ⟨k,_,z⟩=>⟨k,z⟩) .inr
     .exact(N.back z).imp (λ⟨k,_,z⟩=>⟨k,z⟩) .inr
  .simp[h1,Z]at e
section
variable{x y:Str}{a b:Expr}{px py pt pos:Pos}{kt k2 pt2}
theorem Af(i j:Nat){f:En->Option (List D)}(Z:∀c,(X c).calm=true)(hN:∀c,(X c).N.Nodup)(Y:PVA X G ob [a,b] f)(q:P i=false:=by rfl)(I:P j=false:=by rfl)(hi:∀c,(X c).N[i]? =some x:=by intro _;rfl)(U:∀c,(X c).N[j]? =some y:=by intro _;rfl)(J:i≠j:=by decide)(F:∀c,(X c).env.scope.names.lookup x=some .local:=by intro _;rfl)(V:∀c,(X c).env.scope.names.lookup y=some .local:=by intro _;rfl)(O:∀c,abT [.Tuple [.Name x px,.Name y py] kt pt] (.Tuple [a,b] k2 pt2) (X c).env=pure (some [x,y]):=by intro _;rfl)(B:∀c,abv [.Tuple [.Name x px,.Name y py] kt pt] (.Tuple [a,b] k2 pt2) pos.line (X c).env=pure false:=by intro _;rfl) :
 PVS X G ob P (.Assign [.Tuple [.Name x px,.Name y py] kt pt] (.Tuple [a,b] k2 pt2) pos) (aF f (aN (tgN i) (aN (tgN j) b_))):=let⟨t,a1,a2⟩:=Y.ex;⟨_,λc=>T7 (Z c) (hN c) (hi c) (U c) J (F c) (V c) (a1 c) (O c) (B c),by rw[←Qq];exact NQ q I (zF a2)⟩
end
def sIf(c:En->Option Bool)(f g:En->Option Fl):En->Option Fl:=λρ=>(c ρ).bind λb=>if b then f ρ else g ρ
def m5(c:En->Option (Bool×En))(f g:En->Option Fl):En->Option Fl:=λρ=>(c ρ).bind λp=>if p.1 then f p.2 else g p.2
theorem WX{c:En->Option Bool}{f g:En->Option Fl}:m5 (lC c) f g=sIf c f g:=by
 funext ρ;unfold m5 sIf lC;cases c ρ<;>rfl
theorem G_{tc:TT}{t u:TS}{c:En->Option (Bool×En)}{f g:En->Option Fl}(Z:Ik G ob tc c)(h1:RfS G ob P t f)(h2:RfS G ob P u g):RfS G ob P (WL tc t u) (m5 c f g):=λρ r e σ H S Fr s E q=>by
 unfold m5 at e;cases B:c ρ with
 |none=>simp[B]at e
 |some p=>
  obtain⟨b,ρ1⟩:=p;refine Z ρ b ρ1 B σ H S Fr s _ λH1 S1 O N=>?_;have m:Mv P H H1 σ σ S S1 []:=N.mv;cases b with
  |true=>exact t6 (h1 ρ1 r (by simpa[B]using e) σ H1 S1 Fr O E (q.from m))
  |false=>exact xr (h2 ρ1 r (by simpa[B]using e) σ H1 S1 Fr O E (q.from m))
theorem dg{c:Expr}{a b:List Stmt}{pos:Pos}{fc:En->Option Bool}{f g:En->Option Fl}(Z:PVT X G ob c fc)(Y:uT X G ob P a f)(U:uT X G ob P b g):PVS X G ob P (.If c a b pos) (sIf fc f g):=let⟨v,c1,c2⟩:=Z.ex;let⟨t,a1,a2⟩:=Y.ex;let⟨u,b1,b2⟩:=U.ex;⟨_,λc=>S6 (c1 c) (a1 c) (b1 c),by rw[←WX];exact G_ (J5 c2) a2 b2⟩
theorem zJ{c:Expr}{a b:List Stmt}{pos:Pos}{fc:En->Option (Bool×En)}{f g:En->Option Fl}(Z:MJ X G ob c fc)(Y:uT X G ob P a f)(U:uT X G ob P b g):PVS X G ob P (.If c a b pos) (m5 fc f g):=let⟨v,c1,c2⟩:=Z.ex;let⟨t,a1,a2⟩:=Y.ex;let⟨u,b1,b2⟩:=U.ex;⟨_,λc=>S6 (c1 c) (a1 c) (b1 c),G_ c2 a2 b2⟩
def sEx(f:En->Option (D×En)):En->Option Fl:=λρ=>(f ρ).map λp=>.nx p.2
theorem VP{te:TE}{f:En->Option (D×En)}(h:kZ G ob te f):RfS G ob P (JT te) (sEx f):=λρ r e σ H S Fr s E q=>by
 unfold sEx at e;cases h1:f ρ with
 |none=>simp[h1]at e
 |some p=>
  obtain⟨d,ρ1⟩:=p;have:Fl.nx ρ1=r:=by simpa[h1]using e
  subst this;exact h ρ d ρ1 h1 σ H S Fr s _ λv H1 M S1 O U nd N=>q σ H1 S1 (O.lessF λa z=>.inr z) N.mv
theorem nH{e:Expr}{pos:Pos}{f:En->Option (D×En)}(V:PVe X G ob e f)(B:∀c,abH e none pos.line (X c).env=pure false:=by intro _;rfl):PVS X G ob P (.Expr e pos) (sEx f):=let⟨t,a1,a2⟩:=V.ex;⟨_,λc=>Ai (a1 c) (B c),VP a2⟩
def iG(f:En->Option (D×En)):En->Option Fl:=λρ=>(f ρ).bind λp=>if clean p.1 then some (.ret p.1 p.2)else none
def eO(f:En->Option D):En->Option Fl:=λρ=>(f ρ).bind λd=>if clean d then some (.ret d ρ)else none
theorem T4{f:En->Option D}:iG (eUp f)=eO f:=by
 funext ρ;unfold iG eO eUp;cases f ρ<;>rfl
theorem Cm{te:TE}{f:En->Option (D×En)}(h:kZ G ob te f):RfS G ob P (UL te) (iG f):=λρ r e σ H S Fr s E q=>by
 unfold iG at e;cases h1:f ρ with
 |none=>simp[h1]at e
 |some p=>
  obtain⟨d,ρ1⟩:=p;cases Z:clean d with
  |false=>simp[h1,Z]at e
  |true=>
   have:Fl.ret d ρ1=r:=by simpa[h1,Z]using e
   subst this;exact h ρ d ρ1 h1 σ H S Fr s _ λv H1 M S1 O U nd N=>q v σ H1 M S1 O U Z nd (λa Y=>(N.fm a Y).imp (λ⟨i,_,z⟩=>⟨i,z⟩) id) N.mv
theorem bT{e:Expr}{pos:Pos}{f:En->Option D}(V:PV X G ob e f):PVS X G ob P (.Return (some e) pos) (eO f):=let⟨t,a1,a2⟩:=V.ex;⟨_,λc=>Eu (a1 c),by rw[←T4];exact Cm (Bg a2)⟩
theorem qZ{e:Expr}{pos:Pos}{f:En->Option (D×En)}(V:PVe X G ob e f):PVS X G ob P (.Return (some e) pos) (iG f):=let⟨t,a1,a2⟩:=V.ex;⟨_,λc=>Eu (a1 c),Cm a2⟩
theorem Sta.move{G:Gc}{H:Hp}{ρ:En}{σ:L2.St}{S:Ad}{Fr:Addr->Prop}{i:Nat}{d:D}(s:Sta G H ob ρ σ S Fr)(e:ρ[i]? =some (some d)) :
  ∃v,σ[i]? =some (some v)/\clean d=true/\Sta G H ob (ρ.set i none) σ (gU S i []) (plus (S i) Fr)/\Rep G H (wn ob (gU S i []) (plus (S i) Fr)) d v (S i):=by
 obtain⟨v,h1,h2,B⟩:=s.sl i d e;have I:Evo H H (wn ob S Fr) (wn ob (gU S i []) (plus (S i) Fr)):=⟨λb u h f=>⟨h,⟨λz=>z.elim (λz=>?_) f.1,λ⟨k,q1,q2⟩=>?_,λ⟨k,q1,q2⟩=>?_⟩⟩,λ_ _ h=>h⟩
 .have q:=(by simpa[clean]using B:aD d=true/\aB d=true)
  refine⟨v,h1,B,⟨by simp[s.len],λj d' V=>?_,λj F=>?_,λj=>?_,λj k a q1 q2=>?_,λj a q1 q2=>?_,λa h=>?_⟩,h2.mono I (.inl q.1) (.inl q.2) λ_ _ _ h=>h⟩
  .by_cases e':j=i
   .subst e'
    rw[acL]at V;split at V
    .split at V
     .simp at V
     .cases V
    .exact absurd rfl ‹_›
   .rw[List.getElem?_set_ne (Zt e')]at V
    obtain⟨N,q1,q2,J⟩:=s.sl j _ V;refine⟨N,q1,?_,J⟩;rw[cF e'];have q:=(by simpa[clean]using J:aD d'=true/\aB d'=true);exact q2.mono I (.inl q.1) (.inl q.2) λ_ _ _ h=>h
  .by_cases e':j=i
   .rw[e',cM]
   .rw[cF e']
    exact s.em j λd'=>by have:=F d';rwa[List.getElem?_set_ne (Zt e')]at this
  .by_cases e':j=i
   .rw[e',cM];exact Zz
   .rw[cF e'];exact s.nd j
  .rcases d7 q1 with⟨_,z⟩|⟨_,z⟩
   .cases z
   .rcases d7 q2 with⟨_,z'⟩|⟨_,z'⟩
    .cases z'
    .exact s.dj j k a z z'
  .rcases d7 q2 with⟨_,z⟩|⟨n,z⟩
   .cases z
   .rcases q1 with q1|q1
    .exact n (s.dj j i a z q1)
    .exact s.fdj j a q1 z
  .rcases h with h|h
   .exact s.mu h
   .exact s.fdm a h
 .cases ho:ob i with
  |false=>exact f.2.1 ⟨i,ho,z⟩
  |true=>exact f.2.2 ⟨i,ho,z⟩
 .rcases d7 q2 with⟨_,z⟩|⟨_,z⟩
  .cases z
  .exact f.2.1 ⟨k,q1,z⟩
 .rcases d7 q2 with⟨_,z⟩|⟨_,z⟩
  .cases z
  .exact f.2.2 ⟨k,q1,z⟩
def fO(i:Nat):En->Option Fl:=λρ=>match ρ[i]? with
 |some (some d)=>some (.ret d (ρ.set i none))
 |_=>none
theorem JL{i:Nat}:RfS G ob P (UL (Jf i)) (fO i):=λρ r e σ H S Fr s E q=>by
 unfold fO at e;split at e
 .rename_i d h1
  cases e;obtain⟨v,h2,B,Z,U⟩:=s.move h1;exact⟨v,h2,q v σ H (S i) (gU S i []) Z U B (s.nd i) (λa Y=>.inl ⟨i,Y⟩) ⟨λ_ _ h _ _=>h,λj a z=>(d7 z).elim (λz=>by cases z.2) λz=>.inl ⟨j,z.2⟩,.refl⟩⟩
 .cases e
theorem jN(i:Nat){x:Str}{pos pos':Pos}(V:∀c,(X c).N[i]? =some x:=by intro _;rfl)(B:∀c,Vis (X c).env.scope x:=by intro _;first|exact aa_ rfl|exact aax (aa_ rfl)|exact aax (aax rfl))(hd:1.18=false:=by decide)(I:(x==("__classdict__":Str))=false:=by decide):PVS X G ob P (.Return (some (.Name x pos)) pos') (fO i):=⟨_,λc=>Eu (pv i (V c) (B c) hd I),JL⟩
end
def mkO:Mk->Mk
 |.own=>.frz
 |m=>m
mutual
noncomputable def fzo:D->D
 |.tup ds=>.tup (fY ds)
 |.lst m ds=>.lst (mkO m) (fY ds)
 |.dct m ks ds=>.dct (mkO m) ks (fY ds)
 |.ins m c fs ds=>.ins (mkO m) c fs (fY ds)
 |d=>d
noncomputable def fY:List D->List D
 |[]=>[]
 |d::r=>fzo d::fY r
end
theorem iI:∀ds:List D,fY ds=ds.map fzo
 |[]=>rfl
 |d::r=>by rw[fY,iI r];rfl
variable{a:Addr}
theorem dW.fzo{D:Addr->HO->Prop}(B:Les H W W' L)(hn:∀a,W.s a->W'.s a)(h:dW D H W a o m L M):dW D H W' a o (mkO m) [] []:=by
 cases m with
 |own=>exact⟨h.1,B.l a (by rw[h.2];simp),rfl,rfl⟩
 |frz=>exact⟨h.1,B.f a h.2.1,rfl,rfl⟩
 |brw=>exact⟨h.1,hn a h.2.1,rfl,rfl⟩
 |bro=>exact⟨h.1,rfl,rfl⟩
 |scr=>exact⟨h.1.imp (λz=>⟨z.1,B.f a z.2⟩) id,rfl,rfl⟩
mutual
theorem Rep.fzo(hn:∀a,W.s a->W'.s a):∀{d:D}{v:V}{L:List Addr},Rep G H W d v L->Les H W W' L->Rep G H W' (fzo d) v []
 |.non,v,L,h,_=>by rw[Rep]at h;simp[Jb.fzo,Rep,h]
 |.bl _,v,L,h,_=>by rw[Rep]at h;simp[Jb.fzo,Rep,h]
 |.int _,v,L,h,_=>by rw[Rep]at h;simp[Jb.fzo,Rep,h]
 |.str _,v,L,h,_=>by rw[Rep]at h;simp[Jb.fzo,Rep,h]
 |.ty _,v,L,h,_=>by rw[Rep]at h;simp[Jb.fzo,Rep,h]
 |.tup ds,v,L,h,B=>by
  rw[Rep]at h;rw[Jb.fzo,Rep];obtain⟨a,xs,rfl,U,O⟩:=h;exact⟨a,xs,rfl,U,aH.fzo hn O B⟩
 |.lst m ds,v,L,h,he=>by
  rw[Rep]at h;rw[Jb.fzo,Rep];obtain⟨a,xs,M,rfl,O,B⟩:=h;exact⟨a,xs,[],rfl,aH.fzo hn O (he.sub λc Z=>B.sub.subset Z),B.fzo he hn⟩
 |.dct m ks ds,v,L,h,he=>by
  rw[Rep]at h;rw[Jb.fzo,Rep];obtain⟨a,xs,M,rfl,I,O,B⟩:=h;exact⟨a,xs,[],rfl,I,aH.fzo hn O (he.sub λc Z=>B.sub.subset Z),B.fzo he hn⟩
 |.ins m c' fs ds,v,L,h,he=>by
  rw[Rep]at h;rw[Jb.fzo,Rep];obtain⟨a,C,dx,xs,M,rfl,J,I,O,B⟩:=h;exact⟨a,C,dx,xs,[],rfl,J,I,aH.fzo hn O (he.sub λc Z=>B.sub.subset Z),B.fzo he hn⟩
theorem aH.fzo(hn:∀a,W.s a->W'.s a):∀{ds:List D}{vs:List V}{L:List Addr},aH G H W ds vs L->Les H W W' L->aH G H W' (fY ds) vs []
 |[],vs,L,h,_=>by obtain⟨rfl,_⟩:=h.inv0;rw[fY];exact .nil
 |d::r,vs,L,h,he=>by
  obtain⟨x,ys,M,M',rfl,rfl,h1,h2⟩:=h.inv;rw[fY];exact .cons (M:=[]) (M':=[]) (Rep.fzo hn h1 (he.sub λc Z=>Za _ Z)) (aH.fzo hn h2 (he.sub λc Z=>zc _ Z))
end
mutual
theorem Hz:∀{d:D},aD d=true->aD (Jb.fzo d)=true
 |.non,_=>rfl|.bl _,_=>rfl|.int _,_=>rfl|.str _,_=>rfl|.ty _,_=>rfl
 |.tup ds,h=>by simp[aD]at h;simp[Jb.fzo,aD,fZ h]
 |.lst m ds,h=>by simp[aD]at h;cases m<;>simp[Jb.fzo,aD,fZ h.2,mkO]<;>simp at h
 |.dct m _ ds,h=>by simp[aD]at h;cases m<;>simp[Jb.fzo,aD,fZ h.2,mkO]<;>simp at h
 |.ins m _ _ ds,h=>by simp[aD]at h;cases m<;>simp[Jb.fzo,aD,fZ h.2,mkO]<;>simp at h
theorem fZ:∀{ds:List D},au ds=true->au (fY ds)=true
 |[],_=>rfl
 |d::r,h=>by simp[au]at h;simp[fY,au,Hz h.1,fZ h.2]
end
mutual
theorem Ia:∀{d:D},aB d=true->aB (Jb.fzo d)=true
 |.non,_=>rfl|.bl _,_=>rfl|.int _,_=>rfl|.str _,_=>rfl|.ty _,_=>rfl
 |.tup ds,h=>by simp[aB]at h;simp[Jb.fzo,aB,gj h]
 |.lst m ds,h=>by simp[aB]at h;cases m<;>simp[Jb.fzo,aB,gj h.2,mkO]<;>simp at h
 |.dct m _ ds,h=>by simp[aB]at h;cases m<;>simp[Jb.fzo,aB,gj h.2,mkO]<;>simp at h
 |.ins m _ _ ds,h=>by simp[aB]at h;cases m<;>simp[Jb.fzo,aB,gj h.2,mkO]<;>simp at h
theorem gj:∀{ds:List D},aA ds=true->aA (fY ds)=true
 |[],_=>rfl
 |d::r,h=>by simp[aA]at h;simp[fY,aA,Ia h.1,gj h.2]
end
structure Wk(G:Gc)(J:It)(Lt:Hp->Wn->Prop)(items:List D):Prop where
 go:∀(i:Nat)(d:D),items[i]? =some d->∀H W,Lt H W->J.go i H
 yld:∀(i:Nat)(d:D),items[i]? =some d->∀H W,Lt H W->∀x H',J.yld i H x H'->Same H H'/\Rep G H' W d x []
 stop:∀H W,Lt H W->J.stop items.length H
def LtB(b:Bool)(H:Hp)(W:Wn):Hp->Wn->Prop:=λH2 I=>if b=true then Evo H H2 W I else Up H H2 W I
variable{b:Bool}
theorem LtB.up{I:Wn}(u:Up H H2 W I):LtB b H W H2 I:=by
 cases b with
 |true=>exact t6 u.evo
 |false=>exact xr u
def RfI(G:Gc)(ob:Nat->Bool)(wi:TI)(f:En->Option (Bool×List D)):Prop:=∀(ρ:En)(b:Bool)(items:List D),f ρ=some (b,items)->∀(σ:L2.St)(H:Hp)(W:Wn),Rel G H W ob ρ σ->WOk H W->∀R:It->Hp->Prop,
 (∀J H',Same H H'->Wk G J (LtB b H' W) items->R J H')->wi σ H R
structure PVI{ι:Type}(X:ι->Cx)(G:Gc)(ob:Nat->Bool)(tg it:Expr)(f:En->Option (Bool×List D)):Prop where
 mk::(ex:∃t,(∀c,PI (X c) tg it t)/\RfI G ob t f)
def n6(lo:Int)(n:Nat):List D:=(ZR n).map λ(k:Nat)=>D.int (lo+(k:Int))
def lr(f:En->Option (List D)):En->Option (Bool×List D):=λρ=>(f ρ).bind λds=>match ds with
 |[.int j]=>if -(2 ^ 62)<=j/\j<2 ^ 62 then some (true,n6 0 j.toNat)else none
 |_=>none
theorem VH{q:Hp->Wn->Prop}{lo:Int}:Wk G (Itr lo n) q (n6 lo n)where
 go:=λi d e H W _=>by
  have:=(List.getElem?_eq_some_iff.mp e).1;show i<n;simpa[n6]using this
 yld:=λi d e H W _ x H' h=>by
  obtain⟨rfl,rfl⟩:=h;have:d= .int (lo+(i:Int)):=by
   unfold n6 at e;rw[List.getElem?_map]at e;have hi:i<n:=by
    have:=(List.getElem?_eq_some_iff.mp (show(n6 lo n)[i]? =some d by unfold n6;rw[List.getElem?_map];exact e)).1;simpa[n6]using this
   rw[afb hi]at e;simpa using e.symm
  subst this;exact⟨Same.refl _,by rw[Rep];exact⟨rfl,rfl⟩⟩
 stop:=λH W _=>by
  show n<=(n6 lo n).length;simp[n6]
variable{f:En->Option (List D)}
theorem Uo(h:RfA G ob t f):RfI G ob (Th t) (lr f):=λρ b items e σ H W B w R q=>by
 unfold lr at e;cases h1:f ρ with
 |none=>simp[h1]at e
 |some ds=>
  rw[h1]at e;simp![YF]at e;split at e
  .rename_i j
   split at e
   .rename_i hj
    cases e;refine h ρ _ h1 σ H W B w _ λvs H' L s r I nd=>?_;obtain⟨x,ys,M,M',rfl,_,F,V⟩:=r.inv;obtain⟨rfl,_⟩:=V.inv0;rw[Rep]at F;obtain⟨rfl,_⟩:=F;exact⟨j,rfl,hj.1,hj.2,q _ H' s VH⟩
   .cases e
  .cases e
def cX:D->Option (Bool×List D)
 |.lst m ds=>some (clean (.lst m ds),fY ds)
 |.tup ds=>some (clean (.tup ds),fY ds)
 |_=>none
def itS(f:En->Option D):En->Option (Bool×List D):=λρ=>(f ρ).bind cX
theorem yH{D:Addr->HO->Prop}{W1 I:Wn}(h:dW D H W1 a o m L M)(V:Les H W1 W L)(hn:W1.s a->W.s a)(U:b=true->m≠.brw/\m≠.bro)(l:LtB b H W H2 I):Rd H2 a o∨D a o:=by
 cases b with
 |false=>
  have u:Up H H2 W I:=(Zi ZK).mp l;exact h.rx.imp (Same.rd u.s) id
 |true=>
  have e:Evo H H2 W I:=(YZ rfl).mp l;cases m with
  |own=>exact .inl (.inl (e.k a o h.1 (V.l a (by rw[h.2];simp))).1)
  |frz=>exact .inl (.inl (e.k a o h.1 (V.f a h.2.1)).1)
  |brw=>exact absurd rfl (U rfl).1
  |bro=>exact absurd rfl (U rfl).2
  |scr=>exact h.1.imp (λz=>(e.rd z.1 (V.f a z.2)).1) id
theorem Su{K:YH}(h:Rd H a (.lst xs)∨KO K a (.lst xs)):SqL K H a xs:=by
 rcases h with z|⟨ys,e,z⟩
 .exact .inl z
 .cases e
  exact .inr z
theorem LtB.rep{I:Wn}(l:LtB b H W H2 I)(U:b=true->aD d=true/\aB d=true)(r:Rep G H W d v []):Rep G H2 I d v []:=by
 cases b with
 |false=>exact r.up ((Zi ZK).mp l)
 |true=>exact r.mono ((YZ rfl).mp l) (.inl (U rfl).1) (.inl (U rfl).2) (by simp)
theorem LtB.tup{H H2:Hp}{W I:Wn}{b:Bool}{K:YH}{a:Addr}{xs:List V}(l:LtB b H W H2 I)(h:H a=some (.tup xs)):SqT K H2 a xs:=by
 cases b with
 |false=>exact SqT.of (((Zi ZK).mp l).s a _ h)
 |true=>exact SqT.of (((YZ rfl).mp l).t a xs h)
theorem iT(h:au ds=true)(e:ds[i]? =some d):aD d=true:=by
 induction ds generalizing i with
 |nil=>simp at e
 |cons a r O=>
  simp![au,Zw]at h;cases i with
  |zero=>
   have:a=d:=by simpa using e
   rw[←this];exact h.1
  |succ i=>exact O h.2 (by simpa using e)
theorem iU(h:aA ds=true)(e:ds[i]? =some d):aB d=true:=by
 induction ds generalizing i with
 |nil=>simp at e
 |cons a r O=>
  simp![aA,Zw]at h;cases i with
  |zero=>
   have:a=d:=by simpa using e
   rw[←this];exact h.1
  |succ i=>exact O h.2 (by simpa using e)
structure Parts(G:Gc)(H:Hp)(W:Wn)(b:Bool)(es:List D)(xs:List V):Prop where
 r:aH G H W es xs []
 c:b=true->au es=true/\aA es=true
theorem Parts.at{G:Gc}{H H2:Hp}{W I:Wn}{b:Bool}{es:List D}{xs:List V}(p:Parts G H W b es xs)(l:LtB b H W H2 I){i:Nat}{d:D}{x:V}(e:es[i]? =some d)(F:xs[i]? =some x):Rep G H2 I d x []:=by
 obtain⟨y,M,h1,h2,B⟩:=p.r.get e;rw[F]at h1;cases h1;have:M=[]:=by simpa using B
 subst this;exact l.rep (λz=>⟨iT (p.c z).1 e,iU (p.c z).2 e⟩) h2
theorem Gq{es:List D}(w:WOk H W)(s:Same H H')(r:Rep G H' (W.add L) d v L)(F:∀a∈L,H a=none)(e:cX d=some (b,es)) :
  ∃a xs,v= .ref a/\Parts G H' W b es xs/\((∀H2 I,LtB b H' W H2 I->SqL G.K H2 a xs)∨(∀H2 I,LtB b H' W H2 I->SqT G.K H2 a xs)):=by
 have free:∀a∈L,W.free a:=λa Y=>⟨λz=>?_,λz=>?_,λz=>?_⟩
 .have les:Les H' (W.add L) W L:=⟨λa f=>⟨λz=>f.1 (.inr z),f.2⟩,free⟩
  cases d with
  |lst m ds=>
   simp![cX,abd,ae6]at e;obtain⟨rfl,rfl⟩:=e;rw[Rep]at r;obtain⟨a,xs,M,rfl,O,B⟩:=r;refine⟨a,xs,rfl,⟨aH.fzo (W:=W.add L) (W':=W) (λ_ z=>z) O (les.sub λc Z=>B.sub.subset Z),λz=>?_⟩,.inl λH2 I l=>Su (yH B les (λz=>z) (λz=>?_) l)⟩
   .simp[clean,aD,aB]at z
    exact⟨fZ z.1.2,gj z.2.2⟩
   .simp[clean,aD,aB]at z
    exact⟨z.1.1,z.2.1⟩
  |tup ds=>
   simp![cX,abd,ae6]at e;obtain⟨rfl,rfl⟩:=e;rw[Rep]at r;obtain⟨a,xs,rfl,U,O⟩:=r;refine⟨a,xs,rfl,⟨aH.fzo (W:=W.add L) (W':=W) (λ_ z=>z) O les,λz=>?_⟩,.inr λH2 I l=>l.tup U⟩;simp[clean,aD,aB]at z;exact⟨fZ z.1,gj z.2⟩
  |_=>simp[cX]at e
 .obtain⟨o,ho,_⟩:=w a (.inl z);rw[F a Y]at ho;cases ho
 .obtain⟨o,ho,_⟩:=w a (.inr (.inl z));rw[F a Y]at ho;cases ho
 .obtain⟨o,ho,_⟩:=w a (.inr (.inr z));rw[F a Y]at ho;cases ho
theorem aH.getV(h:aH G H W ds xs L)(e:ds[i]? =some d):∃x,xs[i]? =some x:=let⟨x,_,h,_⟩:=h.get e;⟨x,h⟩
theorem O_{f:En->Option D}(h:RfE G ob te f):RfI G ob (WD G.K te) (itS f):=λρ b items e σ H W V w R q=>by
 unfold itS at e;cases h1:f ρ with
 |none=>simp[h1]at e
 |some d=>
  have e:cX d=some (b,items):=by simpa[h1]using e
  refine h ρ d h1 σ H W V w _ λv H' L s r F nd=>?_;obtain⟨a,xs,rfl,p,B⟩:=Gq w s r F e;refine⟨a,rfl,?_⟩;rcases B with B|B
  .refine .inl ⟨⟨xs,B H' W (LtB.up Up.refl)⟩,q _ H' s ⟨λi d e H2 I l=>?_,λi d e H2 I l x Y y=>?_,λH2 I l=>?_⟩⟩
   .obtain⟨x,hx⟩:=p.r.getV e
    exact⟨xs,x,B H2 I l,hx⟩
   .obtain⟨rfl,y⟩:=y
    exact⟨Same.refl _,p.at l e (y xs (B _ I l))⟩
   .exact⟨xs,B H2 I l,by rw[p.r.length];exact YK _⟩
  .refine .inr ⟨⟨xs,B H' W (LtB.up Up.refl)⟩,q _ H' s ⟨λi d e H2 I l=>?_,λi d e H2 I l x Y y=>?_,λH2 I l=>?_⟩⟩
   .obtain⟨x,hx⟩:=p.r.getV e
    exact⟨xs,x,B H2 I l,hx⟩
   .obtain⟨rfl,y⟩:=y
    exact⟨Same.refl _,p.at l e (y xs (B _ I l))⟩
   .exact⟨xs,B H2 I l,by rw[p.r.length];exact YK _⟩
def nU:Nat->List D->List D
 |_,[]=>[]
 |i,d::r=>.tup [.int (i:Int),d]::nU (i+1) r
theorem mQ:∀(ds:List D)(k i:Nat),(nU k ds)[i]? =(ds[i]?).map λd=>.tup [.int ((k+i:Nat):Int),d]
 |[],k,i=>by simp[nU]
 |d::r,k,i=>by
  cases i with
  |zero=>simp[nU]
  |succ i=>
   simp![nU,abQ];rw[mQ r (k+1) i,show k+1+i=k+(i+1)by omega]
theorem p8:∀(ds:List D)(k:Nat),(nU k ds).length=ds.length
 |[],k=>rfl
 |d::r,k=>by simp[nU,p8 r (k+1)]
def itE(f:En->Option (List D)):En->Option (Bool×List D):=λρ=>(f ρ).bind λds=>match ds with
 |[d]=>(cX d).map λp=>(p.1,nU 0 p.2)
 |_=>none
theorem M3(h:RfA G ob t f):RfI G ob (Mi G.K t) (itE f):=λρ b items e σ H W rl w R q=>by
 unfold itE at e;cases h1:f ρ with
 |none=>simp[h1]at e
 |some ds=>
  rw[h1]at e;simp![YF]at e;split at e
  .rename_i d
   cases h2:cX d with
   |none=>simp[h2]at e
   |some p=>
    obtain⟨b',es⟩:=p;obtain⟨rfl,rfl⟩:b'=b/\nU 0 es=items:=by simpa[h2]using e
    refine h ρ _ h1 σ H W rl w _ λvs H' L s r fr nd=>?_;obtain⟨v,ys,M,M',rfl,rfl,hv,hy⟩:=r.inv;obtain⟨rfl,rfl⟩:=hy.inv0;rw[List.append_nil]at hv fr;obtain⟨a,xs,rfl,p,B⟩:=Gq w s hv fr h2;have O:∀(i:Nat)(d':D)(Z:Addr)(x:V)(H2:Hp)(I:Wn),(nU 0 es)[i]? =some d'->LtB b' H' W H2 I->H2 Z=none->xs[i]? =some x->Same H2 (upd H2 Z (.tup [.int i,x]))/\Rep G (upd H2 Z (.tup [.int i,x])) I d' (.ref Z) []:=λi d' Z x H2 I e l N F=>by
     rw[mQ]at e;cases U:es[i]? with
     |none=>rw[U]at e;cases e
     |some d0=>
      rw[U]at e;have e:D.tup [.int (i:Int),d0]=d':=by simpa using e
      subst e;have sm:Same H2 (upd H2 Z (.tup [.int i,x])):=Same.new N;refine⟨sm,?_⟩;rw[Rep];refine⟨Z,_,rfl,aY,.cons (M:=[]) (M':=[]) (by rw[Rep];exact⟨rfl,rfl⟩) (.one ((p.at l U F).up (Up.same sm)))⟩
    refine⟨a,rfl,?_⟩;have J:∀(i:Nat)(d':D),(nU 0 es)[i]? =some d'->∃x,xs[i]? =some x:=λi d' e=>by
     rw[mQ]at e;cases U:es[i]? with
     |none=>rw[U]at e;cases e
     |some d0=>exact p.r.getV U
    rcases B with B|B
    .refine .inl ⟨⟨xs,B H' W (LtB.up Up.refl)⟩,q _ H' s ⟨λi d e H2 I l=>?_,λi d e H2 I l x Y y=>?_,λH2 I l=>?_⟩⟩
     .obtain⟨x,F⟩:=J i d e
      exact⟨xs,x,B H2 I l,F⟩
     .obtain⟨Z,v,N,rfl,hv,rfl⟩:=y
      exact O i d Z v H2 I e l N (hv xs (B _ I l))
     .exact⟨xs,B H2 I l,by rw[p8,p.r.length];exact YK _⟩
    .refine .inr ⟨⟨xs,B H' W (LtB.up Up.refl)⟩,q _ H' s ⟨λi d e H2 I l=>?_,λi d e H2 I l x Y y=>?_,λH2 I l=>?_⟩⟩
     .obtain⟨x,F⟩:=J i d e
      exact⟨xs,x,B H2 I l,F⟩
     .obtain⟨Z,v,N,rfl,hv,rfl⟩:=y
      exact O i d Z v H2 I e l N (hv xs (B _ I l))
     .exact⟨xs,B H2 I l,by rw[p8,p.r.length];exact YK _⟩
  .cases e
variable{a:Expr}
theorem K7(q:∀c,Gl (X c) "range")(N:∀c,(X c).mg "range"=none)(Y:PVA X G ob [a] f)(B:∀c,YQ [a] (X c).env=[(false,eval a (X c).env)]:=by intro _;rfl):PVI X G ob tg (.Call (.Name "range" p) [a] [] pos) (lr f):=let⟨t,a1,a2⟩:=Y.ex;⟨_,λc=>Ji (q c) (N c) (a1 c) (B c),Uo a2⟩
theorem je{f:En->Option D}(Y:PV X G ob a f)(F:∀c,(X c).K=G.K:=by intro _;rfl):PVI X G ob tg a (itS f):=let⟨t,a1,a2⟩:=Y.ex;⟨_,λc=>(by rw[←F c];exact VM (a1 c)),O_ a2⟩
theorem Dh(q:∀c,Gl (X c) "enumerate")(N:∀c,(X c).mg "enumerate"=none)(Y:PVA X G ob [a] f)(B:∀c,YQ [a] (X c).env=[(false,eval a (X c).env)]:=by intro _;rfl)(F:∀c,(X c).K=G.K:=by intro _;rfl):PVI X G ob (.Tuple elts x1 tpos) (.Call (.Name "enumerate" p) [a] [] pos) (itE f):=let⟨t,a1,a2⟩:=Y.ex;⟨_,λc=>(by rw[←F c];exact Kd (q c) (N c) (a1 c) (B c)),M3 a2⟩
def forL(tg:D->En->Option En)(V:En->Option Fl):List D->En->Option Fl
 |[],ρ=>some (.nx ρ)
 |d::r,ρ=>(tg d ρ).bind λρ1=>match V ρ1 with
  |some (.nx ρ2)=>forL tg V r ρ2
  |some (.cnt ρ2)=>forL tg V r ρ2
  |some (.brk ρ2)=>some (.nx ρ2)
  |o=>o
def jw(it:En->Option (Bool×List D))(tg:D->En->Option En)(V:En->Option Fl):En->Option Fl:=λρ=>(it ρ).bind λp=>if p.1=true then forL tg V p.2 ρ else none
theorem Lj{σ2:L2.St}{S2:Ad}{Fr:Addr->Prop}(s:Sta G H ob ρ σ S Fr)(m:Mv P H H2 σ σ2 S S2 []):Evo H H2 (wn ob S Fr) (wn ob S2 Fr)where
 k:=λb u U f=>by
  have I:¬inS S b:=λ⟨i,z⟩=>by
   cases J:ob i with
   |false=>exact f.2.1 ⟨i,J,z⟩
   |true=>exact f.2.2 ⟨i,J,z⟩
  have V:¬inS S2 b:=λ⟨i,z⟩=>(m.gr i b z).elim I λz=>z.elim (λz=>by cases z) λz=>by rw[U]at z;cases z
  exact⟨m.kp b u U I (by simp),f.1,λ⟨i,_,z⟩=>V ⟨i,z⟩,λ⟨i,_,z⟩=>V ⟨i,z⟩⟩
 t:=λb xs h=>by
  have B:∀u,H b=some u->muO u=false->H2 b=some u:=λu q mu=>m.kp b u q (λ⟨i,z⟩=>by
   obtain⟨o,J,N⟩:=s.mu z;rw[q]at J;cases J;rw[mu]at N;cases N) (by simp)
  exact B _ h rfl
variable{tg:D->En->Option En}{tb:TS}{it:En->Option (Bool×List D)}
theorem QZ{wi:TI}{g:TG}{V:En->Option Fl}(hi:RfI G ob wi it)(hg:RfG G ob P g tg)(U:RfS G ob P tb V):RfS G ob P (Xp wi g tb) (jw it tg V):=λρ r e σ H S Fr s E q=>by
 unfold jw at e;cases h1:it ρ with
 |none=>simp[h1]at e
 |some p=>
  obtain⟨b,items⟩:=p;cases b with
  |false=>simp[h1]at e
  |true=>
   have e:forL tg V items ρ=some r:=by simpa[h1]using e
   refine hi ρ true items h1 σ H _ s.rel s.wok _ λJ H1 sm wk=>?_;have O:Sta G H1 ob ρ σ S Fr:=s.grow sm λa z=>.inl z;have m1:Mv P H H1 σ σ S S []:=⟨λb u h _ _=>sm b u h,λi a z=>.inl ⟨i,z⟩,.refl⟩;have q1:=q.from m1;have a1:∀{ρ2:En}{σ2:L2.St}{H2:Hp}{S2:Ad},Mv P H1 H2 σ σ2 S S2 []->LtB true H1 (wn ob S Fr) H2 (wn ob S2 Fr):=λm=>t6 (Lj O m);refine⟨λi m σ2 H2=>i+m=items.length/\∃ρ2 S2,Sta G H2 ob ρ2 σ2 S2 Fr/\Mv P H1 H2 σ σ2 S S2 []/\forL tg V (items.drop i) ρ2=some r,⟨items.length,by omega,ρ,S,O,.refl,e⟩,?_⟩;rintro i m σ2 H2 ⟨a6,ρ2,S2,Z,m2,e2⟩;by_cases a3:i<items.length
   .refine .inr ⟨wk.go i items[i] (by simp[a3]) H2 _ (a1 (ρ2:=ρ2) m2),λB H'=>(i+1)+(m-1)=items.length/\∃ρ2 S2,Sta G H' ob ρ2 B S2 Fr/\Mv P H1 H' σ B S S2 []/\forL tg V (items.drop (i+1)) ρ2=some r,λB H' h=>⟨m-1,by omega,h⟩,λx Y hy=>?_⟩
    obtain⟨N,rx⟩:=wk.yld i items[i] (by simp[a3]) H2 _ (a1 (ρ2:=ρ2) m2) x Y hy;rw[←abj a3,forL]at e2;cases h3:tg items[i] ρ2 with
    |none=>simp[h3]at e2
    |some a4=>
     rw[h3]at e2;simp![YF]at e2;have F:Sta G Y ob ρ2 σ2 S2 Fr:=Z.grow N λa z=>.inl z;refine hg items[i] ρ2 a4 h3 x σ2 Y S2 [] Fr (by rw[su];exact F) (by rw[su];exact rx) Zz (by simp) _ λa5 H4 S4 s4 m4=>?_;have a2:Mv P H1 H4 σ a5 S S4 []:=(m2.trans (S2:=S2) ⟨λb u h _ _=>N b u h,λi a z=>.inl ⟨i,z⟩,.refl⟩).trans m4;cases h5:V a4 with
     |none=>rw[h5]at e2;cases e2
     |some fl=>
      rw[h5]at e2;refine U a4 fl h5 a5 H4 S4 Fr s4 _ ?_;cases fl with
      |nx a0=>exact λB H' S' s' I=>⟨by omega,a0,S',s',a2.trans I,e2⟩
      |cnt a0=>exact λB H' S' s' I=>⟨by omega,a0,S',s',a2.trans I,e2⟩
      |brk a0=>cases e2;exact λB H' S' s' I=>q1 B H' S' s' (a2.trans I)
      |ret d a0=>cases e2;exact q1.from a2
   .have hl:i=items.length:=by omega
    rw[hl,aa1,forL]at e2;cases e2;subst hl;exact .inl ⟨wk.stop H2 _ (a1 (ρ2:=ρ2) m2),q1 σ2 H2 S2 Z m2⟩
variable{f:En->Option Fl}
theorem pQ{tg iter:Expr}{V:List Stmt}{g:D->En->Option En}(N:∀c,afk (model (X c).prog (X c).w) (X c).A (X c).env (X c).xe)(Z:∀c,(X c).calm=true)(hi:PVI X G ob tg iter it)(q:PVG X G ob P tg g)(U:uT X G ob P V f)(B:∀c,∀x,aaD iter (X c).env x=pure x:=by intro _;intro _;rfl):PVS X G ob P (.For tg iter V [] pos) (jw it g f):=let⟨v,c1,c2⟩:=hi.ex;let⟨t,a1,a2⟩:=q.ex;let⟨u,b1,b2⟩:=U.ex;⟨_,λc=>Vj (N c) (Z c) (c1 c) (a1 c) (b1 c) (B c),QZ c2 a2 b2⟩
def lz(c:En->Option (Bool×En))(V:En->Option Fl):Nat->En->Option Fl
 |0,_=>none
 |n+1,ρ=>(c ρ).bind λp=>if p.1=true then(match V p.2 with
  |some (.nx ρ2)=>lz c V n ρ2
  |some (.cnt ρ2)=>lz c V n ρ2
  |some (.brk ρ2)=>some (.nx ρ2)
  |o=>o)else some (.nx p.2)
theorem Hy{tc:TT}{c:En->Option (Bool×En)}{V:En->Option Fl}(n:Nat)(Z:Ik G ob tc c)(U:RfS G ob P tb V):RfS G ob P (Le tc tb) (lz c V n):=λρ r e σ H S Fr s E q=>by
 refine⟨λm σ2 H2=>∃ρ2 S2,Sta G H2 ob ρ2 σ2 S2 Fr/\Mv P H H2 σ σ2 S S2 []/\lz c V m ρ2=some r,⟨n,ρ,S,s,.refl,e⟩,?_⟩;rintro m σ2 H2 ⟨ρ2,S2,s2,O,e2⟩;cases m with
 |zero=>cases e2
 |succ m=>
  rw[lz]at e2;cases h1:c ρ2 with
  |none=>simp[h1]at e2
  |some p=>
   obtain⟨b,F⟩:=p;rw[h1]at e2;simp![YF]at e2;refine Z ρ2 b F h1 σ2 H2 S2 Fr s2 _ λY S3 N J=>?_;have m3:Mv P H Y σ σ2 S S3 []:=O.trans J.mv;cases b with
   |false=>
    simp![ZF,aaz]at e2;cases e2;exact xr (q σ2 Y S3 N m3)
   |true=>
    simp![Zy]at e2;refine t6 ⟨λB H'=>∃ρ2 S2,Sta G H' ob ρ2 B S2 Fr/\Mv P H H' σ B S S2 []/\lz c V m ρ2=some r,λB H' h=>⟨m,aaK m,h⟩,?_⟩;cases h5:V F with
    |none=>rw[h5]at e2;cases e2
    |some fl=>
     rw[h5]at e2;refine U F fl h5 σ2 Y S3 Fr N _ ?_;cases fl with
     |nx D=>exact λB H' S' s' I=>⟨D,S',s',m3.trans I,e2⟩
     |cnt D=>exact λB H' S' s' I=>⟨D,S',s',m3.trans I,e2⟩
     |brk D=>cases e2;exact λB H' S' s' I=>q B H' S' s' (m3.trans I)
     |ret d D=>cases e2;exact q.from m3
theorem yU(n:Nat){V:List Stmt}{fc:En->Option (Bool×En)}(N:∀c,afk (model (X c).prog (X c).w) (X c).A (X c).env (X c).xe)(Z:MJ X G ob c fc)(U:uT X G ob P V f):PVS X G ob P (.While c V [] pos) (lz fc f n):=let⟨v,c1,c2⟩:=Z.ex;let⟨u,b1,b2⟩:=U.ex;⟨_,λc=>MT (N c) (c1 c) (b1 c),Hy n c2 b2⟩
def jW(i:Nat)(ρ:En):Option En:=match ρ[i]? with
 |some (some d)=>some (ρ.set i (some (fz d)))
 |_=>none
theorem Sta.freeze{I:En}{Fr:Addr->Prop}(s:Sta G H ob ρ σ S Fr)(e:jW i ρ=some I):Sta G H ob I σ (gU S i []) Fr:=by
 unfold jW at e;split at e
 .rename_i d h1
  cases e;obtain⟨v,h2,B,Z,U⟩:=s.move h1;have q:Sta G H ob (ρ.set i none) σ (gU S i []) Fr:=Z.lessF λa z=>.inr z;have J:i<ρ.length:=(List.getElem?_eq_some_iff.mp h1).1;have D:Rep G H (wn ob (gU S i []) Fr) (fz d) v []:=by
   refine U.fz ⟨λa f=>⟨λz=>f.1 (.inr z),f.2⟩,λa Y=>⟨λz=>s.fdj i a z Y,λ⟨j,q1,q2⟩=>?_,λ⟨j,q1,q2⟩=>?_⟩⟩ (.inl B)
   .rcases d7 q2 with⟨_,z⟩|⟨n,z⟩
    .cases z
    .exact n (s.dj j i a z Y)
   .rcases d7 q2 with⟨_,z⟩|⟨n,z⟩
    .cases z
    .exact n (s.dj j i a z Y)
  refine⟨by simp[s.len],λj d' V=>?_,λj F=>?_,q.nd,q.dj,q.fdj,q.fdm⟩
  .by_cases e':j=i
   .subst e'
    have:fz d=d':=by simpa[J]using V
    subst this;exact⟨v,h2,by rw[cM];exact D,JW d⟩
   .rw[List.getElem?_set_ne (Zt e')]at V
    exact q.sl j d' (by rw[List.getElem?_set_ne (Zt e')];exact V)
  .by_cases e':j=i
   .rw[e',cM]
   .exact q.em j λd'=>by have:=F d';rw[List.getElem?_set_ne (Zt e')]at this⊢;exact this
 .cases e
def sFz(i:Nat)(f:En->Option Fl):En->Option Fl:=λρ=>(jW i ρ).bind f
theorem Vx{t:TS}(h:RfS G ob P t f):RfS G ob P t (sFz i f):=λρ r e σ H S Fr s E q=>by
 unfold sFz at e;cases h1:jW i ρ with
 |none=>simp[h1]at e
 |some ρ1=>
  have e:f ρ1=some r:=by simpa[h1]using e
  have m:Mv P H H σ σ S (gU S i []) []:=⟨λ_ _ h _ _=>h,λj a z=>(d7 z).elim (λz=>by cases z.2) λz=>.inl ⟨j,z.2⟩,.refl⟩;exact h ρ1 r e σ H (gU S i []) Fr (s.freeze h1) E (q.from m)
theorem V4(i:Nat){st:Stmt}(h:PVS X G ob P st f):PVS X G ob P st (sFz i f):=let⟨t,a1,a2⟩:=h.ex;⟨t,a1,Vx a2⟩
mutual
noncomputable def bB:D->Bool
 |.tup ds=>bA ds
 |.lst m ds=>m== .own&&bA ds
 |.dct m _ ds=>m== .own&&bA ds
 |.ins m _ _ ds=>m== .own&&bA ds
 |_=>true
noncomputable def bA:List D->Bool
 |[]=>true
 |d::r=>bB d&&bA r
end
mutual
theorem Rep.own:∀{d:D}{v:V}{L:List Addr},Rep G H W d v L->bB d=true->Rep G H W' d v L
 |.non,v,L,h,_=>by rw[Rep]at h⊢;exact h
 |.bl _,v,L,h,_=>by rw[Rep]at h⊢;exact h
 |.int _,v,L,h,_=>by rw[Rep]at h⊢;exact h
 |.str _,v,L,h,_=>by rw[Rep]at h⊢;exact h
 |.ty _,v,L,h,_=>by rw[Rep]at h⊢;exact h
 |.tup ds,v,L,h,o=>by
  rw[Rep]at h⊢;obtain⟨a,xs,rfl,U,O⟩:=h;exact⟨a,xs,rfl,U,aH.own O (by simpa[bB]using o)⟩
 |.lst m ds,v,L,h,o=>by
  rw[Rep]at h⊢;obtain⟨a,xs,M,rfl,O,B⟩:=h;simp[bB]at o;obtain⟨rfl,o⟩:=o;exact⟨a,xs,M,rfl,aH.own O o,B⟩
 |.dct m ks ds,v,L,h,o=>by
  rw[Rep]at h⊢;obtain⟨a,xs,M,rfl,I,O,B⟩:=h;simp[bB]at o;obtain⟨rfl,o⟩:=o;exact⟨a,xs,M,rfl,I,aH.own O o,B⟩
 |.ins m c fs ds,v,L,h,o=>by
  rw[Rep]at h⊢;obtain⟨a,C,dx,xs,M,rfl,J,I,O,B⟩:=h;simp[bB]at o;obtain⟨rfl,o⟩:=o;exact⟨a,C,dx,xs,M,rfl,J,I,aH.own O o,B⟩
theorem aH.own:∀{ds:List D}{vs:List V}{L:List Addr},aH G H W ds vs L->bA ds=true->aH G H W' ds vs L
 |[],vs,L,h,_=>by rw[aH]at h⊢;exact h
 |d::r,vs,L,h,o=>by
  obtain⟨x,ys,M,M',rfl,rfl,h1,h2⟩:=h.inv;simp[bA]at o;exact .cons (Rep.own h1 o.1) (aH.own h2 o.2)
end
def W1(Fr:Addr->Prop):Wn:=⟨Fr,λ_=>False,λ_=>False⟩
def spP(G:Gc)(F:List D->Option D):Sp:=λvs H Q _=>∃(ds:List D)(Fr:Addr->Prop),aH G H (W1 Fr) ds vs []/\au ds=true/\aA ds=true/\(∀a,Fr a->Mu H a)/\∃d,F ds=some d/\
 ∀v H' L,Same H H'->Rep G H' (W1 (plus L Fr)) d v L->(∀a∈L,H a=none)->L.Nodup->clean d=true->Q v H'
def en0(n:Nat)(ds:List D):En:=ds.map some++ZX (n-ds.length) none
def fnP(F n:Nat)(V:En->Option Fl):List D->Option D:=λds=>if ds.length=F then(V (en0 n ds)).bind λr=>match r with
 |.ret d _=>some d
 |.nx _=>some .non
 |_=>none else none
theorem GR(h:(en0 n ds)[i]? =some (some d)):ds[i]? =some d:=by
 unfold en0 at h;by_cases hi:i<ds.length
 .rw[Zo (by simpa using hi)]at h
  simpa using h
 .rw[aad (by simpa using Nat.le_of_not_lt hi)]at h
  rw[aed]at h;split at h
  .simp at h
  .cases h
variable{vs:List V}
theorem Ym{Fr:Addr->Prop}(r:aH G H (W1 Fr) ds vs [])(Z:au ds=true)(q:aA ds=true)(fm:∀a,Fr a->Mu H a):Sta G H ob (en0 N.length ds) (L2.start N vs) (λ_=>[]) Fr where
 len:=by simp[en0,L2.start,r.length]
 sl:=λi d e=>by
  have e:=GR e;obtain⟨x,M,h1,h2,B⟩:=r.get e;have:M=[]:=by simpa using B
  subst this;refine⟨x,?_,h2.up ⟨Same.refl _,λb u U f=>⟨f.1,λ⟨j,_,z⟩=>(by cases z),λ⟨j,_,z⟩=>(by cases z)⟩,λb u U f=>f.elim⟩,by simp[clean,iT Z e,iU q e]⟩;unfold L2.start;have hi:i<vs.length:=(List.getElem?_eq_some_iff.mp h1).1;rw[Zo (by simpa using hi)];simp[h1]
 em:=λ_ _=>rfl
 nd:=λ_=>Zz
 dj:=λi j a h=>by cases h
 fdj:=λi a _ h=>by cases h
 fdm:=fm
section
variable{P:Program}{w:World}{K:PySem.W.Frag}{mg:Str->Option Value}{base:Heap}
theorem TY{a:Addr}:¬inS (λ_=>[]) a:=λ⟨_,z⟩=>by cases z
theorem okP{x D:Str}{st:Stmt}{f:Addr}{fd:ZC}{N ps:List Str}{k:Nat}{ob Pr:Nat->Bool}{V:En->Option Fl}(F:Fun K x D st f fd)(S:bF N ps (aC st))
  (U:∀(Z:Value)(A:ZW)(outer:List Env)(s:zb)(H:Hp)(E:XK),gO k (A.deeper (acO D (aC st) s.heap.objs.size f Z))->uT (λ_:Unit=>(CW CX0 P w K mg base N D (aC st) f Z A outer s H E).nox) ⟨K,mg⟩ ob Pr (bx st) V) :
  dJ P w K mg base CX0 (k+1) f fd ps (spP ⟨K,mg⟩ (fnP ps.length N.length V)):=by
 refine F.ok S (λvs H Q E h=>?_) (λZ A outer s H vs Q E O h=>?_)
 .obtain⟨ds,Fr,r,_,_,_,d,e,_⟩:=h
  unfold fnP at e;split at e
  .rename_i hl
   rw[←r.length];exact hl
  .cases e
 .obtain⟨ds,Fr,r,c1,c2,fm,d,e,q⟩:=h
  obtain⟨t,a1,a2⟩:=(U Z A outer s H E O).ex;refine⟨t,a1 (),?_⟩;unfold fnP at e;split at e
  .cases h1:V (en0 N.length ds)with
   |none=>simp[h1]at e
   |some fl=>
    rw[h1]at e;simp![YF]at e;refine a2 _ fl h1 (L2.start N vs) H (λ_=>[]) Fr (Ym (ob:=ob) r c1 c2 fm) _ ?_;have J:∀{S':Ad}{M:List Addr}{b:Addr},(wn ob S' (plus M Fr)).free b->(W1 (plus M Fr)).free b:=λz=>⟨z.1,id,id⟩;cases fl with
    |nx I=>
     cases e;exact λB H' S' s' m=>q .non H' [] (λb o h=>m.kp b o h TY (by simp)) (by rw[Rep];exact⟨rfl,rfl⟩) (by simp) Zz rfl
    |ret d' I=>
     cases e;exact λv B H' M S' s' r' c n f m=>q v H' M (λb o h=>m.kp b o h TY (by simp)) (by
      have a0:=(by simpa[clean]using c:aD d=true/\aB d=true);have ev:Evo H' H' (wn ob S' (plus M Fr)) (W1 (plus M Fr)):=⟨λb u h z=>⟨h,J z⟩,λ_ _ h=>h⟩;exact r'.mono ev (.inl a0.1) (.inl a0.2) λ_ _ _ h=>h) (λa Y=>(f a Y).resolve_left TY) n c
    |brk I=>cases e
    |cnt I=>cases e
  .cases e
end
def b8(F:List D->Option D)(ds:List D):Option D:=(F (fzL ds)).bind λd=>if(au ds&&aA ds)||bB d then some d else none
variable{E:XK}
theorem Cd{F:List D->Option D}:CaV G (λvs H Q=>spP G F (vs++[]) H Q E) (b8 F):=λds d e xs H W N r nd hn w Q q=>by
 unfold b8 at e;cases h1:F (fzL ds)with
 |none=>simp[h1]at e
 |some d'=>
  rw[h1]at e;simp![YF]at e;split at e
  .rename_i hc
   cases e;rw[List.append_nil];by_cases O:au ds=true/\aA ds=true
   .refine⟨fzL ds,λa=>(W.n a∨W.s a∨W.o a)/\a∉N,r.fz ⟨λa f=>⟨λz=>z.1.elim f.1 λz=>z.elim f.2.1 f.2.2,id,id⟩,λa Y=>⟨λz=>z.2 Y,id,id⟩⟩ (.inl O),ie ds,ik ds,λa h=>w a h.1,d,h1,λv H' L s V U n c=>?_⟩
    refine q v H' L s ?_ (λa Y=>.inr (U a Y)) n;have B:=(by simpa[clean]using c:aD d=true/\aB d=true);have Z:∀a∈L,a∉N:=λa Y z=>by
     obtain⟨o,J,_⟩:=r.dom a z;rw[U a Y]at J;cases J
    have I:Evo H' H' (W1 (plus L λa=>(W.n a∨W.s a∨W.o a)/\a∉N)) ((W.drop N).add L):=⟨λb u h f=>⟨h,⟨λz=>z.elim (λz=>f.1 (.inl z)) λz=>f.1 (.inr ⟨.inl z.1,z.2⟩),λz=>f.1 (.inr ⟨.inr (.inl z),λy=>?_⟩),λz=>f.1 (.inr ⟨.inr (.inr z),λy=>?_⟩)⟩⟩,λ_ _ h=>h⟩
    .exact V.mono I (.inl B.1) (.inl B.2) λ_ _ _ h=>h
    .exact(hn b y).2.1 z
    .exact(hn b y).2.2 z
   .have J:bB d=true:=by
     simp![af8,Zw]at hc;exact hc.resolve_left O
    refine⟨fzL ds,λ_=>False,r.fz ⟨λa f=>⟨id,id,id⟩,λa Y=>⟨id,id,id⟩⟩ (.inr λa=>⟨id,id,id⟩),ie ds,ik ds,λa h=>h.elim,d,h1,λv H' L s V U n c=>?_⟩;exact q v H' L s (V.own J) (λa Y=>.inr (U a Y)) n
  .cases e
theorem gF{F:List D->Option D}{f:En->Option (List D)}(C:∀c,Cal (X c).prog (X c).w (X c).K (X c).mg (X c).base k x ps (spP G F))(O:∀c,gO k (X c).A)(Y:PVA X G ob (e::es) f)(q:∀c,Gl (X c) x:=by intro _;rfl)(J:1.18=false:=by decide)(V:∀c,YQ (e::es) (X c).env=(false,eval e (X c).env)::YQ es (X c).env:=by intro _;rfl)(Z:∀c,(aak pos (YQ es (X c).env)).any (·.1)=false:=by intro _;rfl) :
 PV X G ob (.Call (.Name x p) (e::es) [] pos) (eAp (b8 F) f):=let⟨t,a1,a2⟩:=Y.ex;⟨_,λc=>Kz (C c) (O c) (q c) (a1 c) J (V c) (Z c),uI Cd a2⟩
variable{a:Addr}
theorem dW.fz2{D:Addr->HO->Prop}(B:Les H W W' L)(U:m≠.brw∨∀a,W.s a->W'.free a)(J:m≠.bro∨pN W')(h:dW D H W a o m L M):dW D H W' a o (mkF m) [] []:=by
 cases m with
 |own=>exact⟨h.1,B.l a (by rw[h.2];simp),rfl,rfl⟩
 |frz=>exact⟨h.1,B.f a h.2.1,rfl,rfl⟩
 |brw=>exact⟨h.1,U.elim (λz=>absurd rfl z) λz=>z a h.2.1,rfl,rfl⟩
 |bro=>exact⟨h.1,J.elim (λz=>absurd rfl z) λz=>z a,rfl,rfl⟩
 |scr=>exact⟨h.1.imp (λz=>⟨z.1,B.f a z.2⟩) id,rfl,rfl⟩
mutual
theorem Rep.fz2:∀{d:D}{v:V}{L:List Addr},Rep G H W d v L->Les H W W' L->(aD d=true∨∀a,W.s a->W'.free a)->(aB d=true∨pN W')->Rep G H W' (fz d) v []
 |.non,v,L,h,_,_,_=>by rw[Rep]at h;simp[Jb.fz,Rep,h]
 |.bl _,v,L,h,_,_,_=>by rw[Rep]at h;simp[Jb.fz,Rep,h]
 |.int _,v,L,h,_,_,_=>by rw[Rep]at h;simp[Jb.fz,Rep,h]
 |.str _,v,L,h,_,_,_=>by rw[Rep]at h;simp[Jb.fz,Rep,h]
 |.ty _,v,L,h,_,_,_=>by rw[Rep]at h;simp[Jb.fz,Rep,h]
 |.tup ds,v,L,h,B,c,o=>by
  rw[Rep]at h;rw[Jb.fz,Rep];obtain⟨a,xs,rfl,U,O⟩:=h;exact⟨a,xs,rfl,U,aH.fz2 O B (by simpa[aD]using c) (by simpa[aB]using o)⟩
 |.lst m ds,v,L,h,he,c,o=>by
  rw[Rep]at h;rw[Jb.fz,Rep];obtain⟨a,xs,M,rfl,O,B⟩:=h;exact⟨a,xs,[],rfl,aH.fz2 O (he.sub λc Z=>B.sub.subset Z) (c.imp (λz=>by simp[aD]at z;exact z.2) id) (o.imp (λz=>by simp[aB]at z;exact z.2) id),B.fz2 he (c.imp (λz=>by simp[aD]at z;exact z.1) id) (o.imp (λz=>by simp[aB]at z;exact z.1) id)⟩
 |.dct m ks ds,v,L,h,he,c,o=>by
  rw[Rep]at h;rw[Jb.fz,Rep];obtain⟨a,xs,M,rfl,I,O,B⟩:=h;exact⟨a,xs,[],rfl,I,aH.fz2 O (he.sub λc Z=>B.sub.subset Z) (c.imp (λz=>by simp[aD]at z;exact z.2) id) (o.imp (λz=>by simp[aB]at z;exact z.2) id),B.fz2 he (c.imp (λz=>by simp[aD]at z;exact z.1) id) (o.imp (λz=>by simp[aB]at z;exact z.1) id)⟩
 |.ins m c' fs ds,v,L,h,he,c,o=>by
  rw[Rep]at h;rw[Jb.fz,Rep];obtain⟨a,C,dx,xs,M,rfl,J,I,O,B⟩:=h;exact⟨a,C,dx,xs,[],rfl,J,I,aH.fz2 O (he.sub λc Z=>B.sub.subset Z) (c.imp (λz=>by simp[aD]at z;exact z.2) id) (o.imp (λz=>by simp[aB]at z;exact z.2) id),B.fz2 he (c.imp (λz=>by simp[aD]at z;exact z.1) id) (o.imp (λz=>by simp[aB]at z;exact z.1) id)⟩
theorem aH.fz2:∀{ds:List D}{vs:List V}{L:List Addr},aH G H W ds vs L->Les H W W' L->(au ds=true∨∀a,W.s a->W'.free a)->(aA ds=true∨pN W')->aH G H W' (fzL ds) vs []
 |[],vs,L,h,_,_,_=>by obtain⟨rfl,_⟩:=h.inv0;rw[fzL];exact .nil
 |d::r,vs,L,h,he,c,o=>by
  obtain⟨x,ys,M,M',rfl,rfl,h1,h2⟩:=h.inv;rw[fzL];exact .cons (M:=[]) (M':=[]) (Rep.fz2 h1 (he.sub λc Z=>Za _ Z) (c.imp (λz=>by simp[au]at z;exact z.1) id) (o.imp (λz=>by simp[aA]at z;exact z.1) id))
   (aH.fz2 h2 (he.sub λc Z=>zc _ Z) (c.imp (λz=>by simp[au]at z;exact z.2) id) (o.imp (λz=>by simp[aA]at z;exact z.2) id))
end
def spI(G:Gc)(ob pr:Nat->Bool)(F:List D->Option (D×List D)):Sp:=λvs H Q _=>∃(ds:List D)(S:Ad)(Fr:Addr->Prop),Sta G H ob (ds.map some) (vs.map some) S Fr/\(∀i,pr i=false->S i=[])/\∃d B,F ds=some (d,B)/\
 ∀v H' M S',Sta G H' ob (B.map some) (vs.map some) S' (plus M Fr)->Rep G H' (wn ob S' (plus M Fr)) d v M->clean d=true->M.Nodup->(∀a∈M,inS S a∨H a=none)->Mv (λ_=>false) H H' [] [] S S' []->Q v H'
def outs(pr:Nat->Bool)(ρ:En):Nat->List D->Option (List D)
 |_,[]=>some []
 |i,d::r=>(if pr i=true then(match ρ[i]? with
  |some (some e)=>some e
  |_=>none)else some d).bind λe=>(outs pr ρ (i+1) r).map λt=>e::t
def fnI(pr:Nat->Bool)(F n:Nat)(V:En->Option Fl):List D->Option (D×List D):=λds=>if ds.length=F then(V (en0 n ds)).bind λr=>match r with
 |.ret d ρ=>(outs pr ρ 0 ds).map λo=>(d,o)
 |.nx ρ=>(outs pr ρ 0 ds).map λo=>(.non,o)
 |_=>none else none
theorem Hd{pr:Nat->Bool}{ρ:En}:∀{ds B:List D}{k:Nat},outs pr ρ k ds=some B->B.length=ds.length/\∀i d,B[i]? =some d->(pr (k+i)=true/\ρ[k+i]? =some (some d))∨(pr (k+i)=false/\ds[i]? =some d)
 |[],B,k,e=>by
  cases e;exact⟨rfl,λi d h=>by simp at h⟩
 |d0::r,B,k,e=>by
  rw[outs]at e;cases h2:outs pr ρ (k+1) r with
  |none=>
   rw[h2]at e;simp at e
  |some t=>
   rw[h2]at e;obtain⟨l1,l2⟩:=Hd h2;have V:∃F,B=F::t/\((pr k=true/\ρ[k]? =some (some F))∨(pr k=false/\d0=F)):=by
    split at e
    .rename_i hp
     split at e
     .rename_i F h0
      exact⟨F,by simpa using e.symm,.inl ⟨hp,h0⟩⟩
     .simp at e
    .rename_i hp
     exact⟨d0,by simpa using e.symm,.inr ⟨by simpa using hp,rfl⟩⟩
   obtain⟨F,rfl,I⟩:=V;refine⟨by simp[l1],λi d h=>?_⟩;cases i with
   |zero=>
    have:F=d:=by simpa using h
    subst this;exact I.imp id λz=>⟨z.1,by simp[z.2]⟩
   |succ i=>
    have:=l2 i d (by simpa using h);rw[show k+1+i=k+(i+1)by omega]at this;simpa using this
theorem j9{xs:List α}{x:α}(h:(xs.map some)[i]? =some (some x)):xs[i]? =some x:=by
 rw[List.getElem?_map]at h;cases e:xs[i]? with
 |none=>rw[e]at h;cases h
 |some y=>rw[e]at h;simpa using h
theorem eX{xs:List α}{x:α}(h:xs[i]? =some x):(xs.map some)[i]? =some (some x):=by rw[List.getElem?_map,h];rfl
theorem Yb{Fr:Addr->Prop}(s:Sta G H ob (ds.map some) (vs.map some) S Fr):Sta G H ob (en0 N.length ds) (L2.start N vs) S Fr where
 len:=by have:=s.len;simp at this;simp[en0,L2.start,this]
 sl:=λi d e=>by
  obtain⟨v,h1,h2,B⟩:=s.sl i d (eX (GR e));refine⟨v,?_,h2,B⟩;unfold L2.start;have hi:i<(vs.map some).length:=(List.getElem?_eq_some_iff.mp h1).1;rw[Zo hi];exact h1
 em:=λi h=>s.em i λd e=>h d (by
  unfold en0;have hi:i<(ds.map some).length:=(List.getElem?_eq_some_iff.mp e).1;rw[Zo hi];exact e)
 nd:=s.nd
 dj:=s.dj
 fdj:=s.fdj
 fdm:=s.fdm
section
variable{P:Program}{w:World}{K:PySem.W.Frag}{mg:Str->Option Value}{base:Heap}
theorem CG{G:Gc}{H H':Hp}{ob pr:Nat->Bool}{ds B:List D}{vs:List V}{N:List Str}{S S1:Ad}{Fr:Addr->Prop}{ρ:En}{σ:L2.St}{M:List Addr}(s:Sta G H ob (ds.map some) (vs.map some) S Fr)(hp:∀i,pr i=false->S i=[])(O:Sta G H' ob ρ σ S1 (plus M Fr))
  (m:Mv pr H H' (L2.start N vs) σ S S1 []) (hM:∀a∈M,inS S a∨H a=none) (e:outs pr ρ 0 ds=some B) :
  Sta G H' ob (B.map some) (vs.map some) (λi=>if pr i=true/\i<ds.length then S1 i else[]) (plus M Fr):=by
 obtain⟨Y,q⟩:=Hd e;have lv:ds.length=vs.length:=by have:=s.len;simpa using this
 have sub:∀{i a},a∈(if pr i=true/\i<ds.length then S1 i else[])->a∈S1 i:=λ{i a} z=>by
  split at z
  .exact z
  .cases z
 refine⟨by simp[Y,lv],λi d h=>?_,λi h=>?_,λi=>?_,λi j a h1 h2=>O.dj i j a (sub h1) (sub h2),λi a h z=>O.fdj i a h (sub z),O.fdm⟩
 .have h:=j9 h
  have hi:i<ds.length:=by rw[←Y];exact(List.getElem?_eq_some_iff.mp h).1
  rcases q i d h with⟨h1,h2⟩|⟨h1,h2⟩
  .rw[ab6]at h1 h2
   obtain⟨v,q1,q2,q3⟩:=O.sl i d h2;have e1:=m.pr i h1;rw[q1]at e1;refine⟨v,?_,?_,q3⟩
   .unfold L2.start at e1
    rw[Zo (by simp;omega)]at e1;exact e1.symm
   .rw[YZ ⟨h1,hi⟩]
    have a0:=(by simpa[clean]using q3:aD d=true/\aB d=true);have I:Evo H' H' (wn ob S1 (plus M Fr)) (wn ob (λi=>if pr i=true/\i<ds.length then S1 i else[]) (plus M Fr)):=⟨λb u U f=>⟨U,⟨f.1,λ⟨j,Z,J⟩=>f.2.1 ⟨j,Z,sub J⟩,λ⟨j,Z,J⟩=>f.2.2 ⟨j,Z,sub J⟩⟩⟩,λ_ _ h=>h⟩;exact q2.mono I (.inl a0.1) (.inl a0.2) λ_ _ _ h=>h
  .rw[ab6]at h1
   obtain⟨v,q1,q2,q3⟩:=s.sl i d (eX h2);refine⟨v,q1,?_,q3⟩;rw[Zi λz=>by rw[h1]at z;cases z.1];rw[hp i h1]at q2;have a0:=(by simpa[clean]using q3:aD d=true/\aB d=true);have F:=Lj s (σ2:=σ) (H2:=H') (S2:=S1) (P:=λ_=>false) ⟨m.kp,m.gr,λi h=>by cases h⟩;have I:Evo H H' (wn ob S Fr) (wn ob (λi=>if pr i=true/\i<ds.length then S1 i else[]) (plus M Fr)):=⟨λb u U f=>?_,F.t⟩
   .exact q2.mono I (.inl a0.1) (.inl a0.2) (by simp)
   .obtain⟨k1,k2⟩:=F.k b u U f
    refine⟨k1,λz=>z.elim (λz=>?_) f.1,λ⟨j,Z,J⟩=>k2.2.1 ⟨j,Z,sub J⟩,λ⟨j,Z,J⟩=>k2.2.2 ⟨j,Z,sub J⟩⟩;rcases hM b z with⟨j,y⟩|y
    .cases ho:ob j with
     |false=>exact f.2.1 ⟨j,ho,y⟩
     |true=>exact f.2.2 ⟨j,ho,y⟩
    .rw[U]at y;cases y
 .split
  .rename_i z
   exfalso;have hi:i<B.length:=by rw[Y];exact z.2
   exact h B[i] (eX (by simp[hi]))
  .rfl
 .show(if pr i=true/\i<ds.length then S1 i else[]).Nodup
  split
  .exact O.nd i
  .exact Zz
theorem okI{x Y:Str}{st:Stmt}{f:Addr}{fd:ZC}{N ps:List Str}{k:Nat}{ob pr:Nat->Bool}{V:En->Option Fl}(F:Fun K x Y st f fd)(S:bF N ps (aC st))
  (U:∀(Z:Value)(A:ZW)(outer:List Env)(s:zb)(H:Hp)(E:XK),gO k (A.deeper (acO Y (aC st) s.heap.objs.size f Z))->uT (λ_:Unit=>(CW CX0 P w K mg base N Y (aC st) f Z A outer s H E).nox) ⟨K,mg⟩ ob pr (bx st) V) :
  dJ P w K mg base CX0 (k+1) f fd ps (spI ⟨K,mg⟩ ob pr (fnI pr ps.length N.length V)):=by
 refine F.ok S (λvs H Q E h=>?_) (λZ A outer s H vs Q E O h=>?_)
 .obtain⟨ds,S,Fr,st,_,d,ds',e,_⟩:=h
  unfold fnI at e;split at e
  .rename_i hl
   have:=st.len;simp at this;rw[←this];exact hl
  .cases e
 .obtain⟨ds,S0,Fr,st,hp,d,ds',e,q⟩:=h
  obtain⟨t,a1,a2⟩:=(U Z A outer s H E O).ex;refine⟨t,a1 (),?_⟩;unfold fnI at e;split at e
  .cases h1:V (en0 N.length ds)with
   |none=>simp[h1]at e
   |some fl=>
    rw[h1]at e;simp![YF]at e;refine a2 _ fl h1 (L2.start N vs) H S0 Fr (Yb st) _ ?_;have sub:∀{S1:Ad}{i a},a∈(if pr i=true/\i<ds.length then S1 i else[])->a∈S1 i:=λ{S1 i a} z=>by
     split at z
     .exact z
     .cases z
    cases fl with
    |nx I=>
     cases h2:outs pr I 0 ds with
     |none=>simp[h2]at e
     |some o=>
      obtain⟨rfl,rfl⟩:D.non=d/\o=ds':=by simpa[h2]using e
      refine λB H' S1 s1 m=>q .non H' [] _ (CG st hp (M:=[]) (by rw[su];exact s1) m (by simp) h2) (by rw[Rep];exact⟨rfl,rfl⟩) rfl Zz (by simp) ⟨m.kp,λi a z=>m.gr i a (sub z),λi h=>by cases h⟩
    |ret d' I=>
     cases h2:outs pr I 0 ds with
     |none=>simp[h2]at e
     |some o=>
      obtain⟨rfl,rfl⟩:d'=d/\o=ds':=by simpa[h2]using e
      refine λv B H' M S1 s1 r c n f m=>q v H' M _ (CG st hp s1 m f h2) ?_ c n f ⟨m.kp,λi a z=>m.gr i a (sub z),λi h=>by cases h⟩;have a0:=(by simpa[clean]using c:aD d'=true/\aB d'=true);have ev:Evo H' H' (wn ob S1 (plus M Fr)) (wn ob (λi=>if pr i=true/\i<ds.length then S1 i else[]) (plus M Fr)):=⟨λb u U f=>⟨U,⟨f.1,λ⟨j,z1,J⟩=>f.2.1 ⟨j,z1,sub J⟩,λ⟨j,z1,J⟩=>f.2.2 ⟨j,z1,sub J⟩⟩⟩,λ_ _ h=>h⟩;exact r.mono ev (.inl a0.1) (.inl a0.2) λ_ _ _ h=>h
    |brk I=>cases e
    |cnt I=>cases e
  .cases e
end
def RfM(G:Gc)(ob:Nat->Bool)(t:TA)(js:List Nat)(f:En->Option (List D×En)):Prop:=∀(ρ:En)(ds:List D)(I:En),f ρ=some (ds,I)->∀(σ:L2.St)(H:Hp)(S:Ad)(Fr:Addr->Prop),Sta G H ob ρ σ S Fr->
 ∀us:List V,js.map (λj=>σ[j]?)=us.map (λu=>some (some u))->∀Q:List V->Hp->Prop,
 (∀vs H' M S',Sta G H' ob I σ S' (plus M Fr)->aH G H' (wn ob S' (plus M Fr)) ds vs M->M.Nodup->Eff ob H H' S S' M->Q (us++vs) H')->t σ H Q
structure PVM{ι:Type}(X:ι->Cx)(G:Gc)(ob:Nat->Bool)(es:List Expr)(js:List Nat)(f:En->Option (List D×En)):Prop where
 mk::(ex:∃t,(∀c,PA (X c) es t)/\RfM G ob t js f)
variable{f:En->Option (List D×En)}
theorem cT(h:CQ X G ob es f):PVM X G ob es [] f:=by
 obtain⟨t,F,Z⟩:=h.ex;refine⟨t,F,λρ ds I e σ H S Fr s us J Q q=>?_⟩;have:us=[]:=by simpa using J
 subst this;exact Z ρ ds I e σ H S Fr s Q q
theorem cU(i:Nat)(h:PVM X G ob es js f)(V:∀c,(X c).N[i]? =some x:=by intro _;rfl)(Y:∀c,Vis (X c).env.scope x:=by intro _;first|exact aa_ rfl|exact aax (aa_ rfl)|exact aax (aax rfl))(hd:1.18=false:=by decide)(U:(x==("__classdict__":Str))=false:=by decide)(B:∀c,YQ (.Name x pos::es) (X c).env=(false,eval (.Name x pos) (X c).env)::YQ es (X c).env:=by intro _;rfl):PVM X G ob (.Name x pos::es) (i::js) f:=by
 obtain⟨t,F,Z⟩:=h.ex;refine⟨_,λc=>zp (pv i (V c) (Y c) hd U) (F c) (B c),λρ ds I e σ H S Fr s us J Q q=>?_⟩;cases us with
 |nil=>simp at J
 |cons u us=>
  rw[YL,YL]at J;injection J with h1 h2;exact⟨u,h1,Z ρ ds I e σ H S Fr s us h2 _ λvs H' M S' s' r n O=>q vs H' M S' s' r n O⟩
def objs(js:List Nat)(ρ:En):Option (List D):=js.mapM λj=>ρ[j]?.bind id
def ir:List Nat->List D->En->En
 |j::js,d::ds,ρ=>ir js ds (ρ.set j (some d))
 |_,_,ρ=>ρ
def eIo(F:List D->Option (D×List D))(js:List Nat)(f:En->Option (List D×En)):En->Option (D×En):=λρ=>if(objs js ρ).isSome=true then(f ρ).bind λp=>(objs js p.2).bind λos=>if aA p.1=true then(F (os++fzL p.1)).bind λq=>
 if au p.1=true∨(bB q.1=true/\bA (q.2.take js.length)=true)then some (q.1,ir js q.2 p.2)else none else none else none
theorem Ax{ρ:En}:∀{js:List Nat}{os:List D},objs js ρ=some os->os.length=js.length/\∀(k j:Nat),js[k]? =some j->∃d,os[k]? =some d/\ρ[j]? =some (some d)
 |[],os,h=>by
  have:os=[]:=by simpa[objs]using h.symm
  subst this;exact⟨rfl,λk j h=>by simp at h⟩
 |j::js,os,h=>by
  unfold objs at h;rw[List.mapM_cons]at h;cases h1:ρ[j]?.bind id with
  |none=>simp[h1]at h
  |some d=>
   cases h2:js.mapM (λj=>ρ[j]?.bind id)with
   |none=>simp[h1,h2]at h
   |some t=>
    have:os=d::t:=by simpa[h1,h2]using h.symm
    subst this;obtain⟨l,g⟩:=Ax (js:=js) (os:=t) h2;refine⟨by simp[l],λk i e=>?_⟩;cases k with
    |zero=>
     have:j=i:=by simpa using e
     subst this;refine⟨d,rfl,?_⟩;cases B:ρ[j]? with
     |none=>rw[B]at h1;cases h1
     |some o=>rw[B]at h1;simpa using h1
    |succ k=>simpa using g k i (by simpa using e)
theorem yt:∀(js:List Nat)(ds:List D)(ρ:En),(ir js ds ρ).length=ρ.length
 |[],ds,ρ=>by cases ds<;>rfl
 |_::_,[],ρ=>rfl
 |j::js,d::ds,ρ=>by rw[ir,yt js ds];simp
theorem q9:∀{js:List Nat}{ds:List D}{ρ:En}{j:Nat},j∉js->(ir js ds ρ)[j]? =ρ[j]?
 |[],ds,ρ,j,_=>by cases ds<;>rfl
 |_::_,[],ρ,j,_=>rfl
 |i::js,d::ds,ρ,j,h=>by
  rw[ir,q9 (λz=>h (Zf _ z)),List.getElem?_set_ne λz=>h (by rw[z];exact ZJ)]
theorem xG:∀{js:List Nat}{ds:List D}{ρ:En}{k j:Nat}{d:D},js.Nodup->js[k]? =some j->ds[k]? =some d->j<ρ.length->(ir js ds ρ)[j]? =some (some d)
 |[],ds,ρ,k,j,d,_,h,_,_=>by simp at h
 |_::_,[],ρ,k,j,d,_,_,h,_=>by simp at h
 |i::js,d0::ds,ρ,k,j,d,n,h1,h2,hl=>by
  rw[ir];cases k with
  |zero=>
   have e1:i=j:=by simpa using h1
   have e2:d0=d:=by simpa using h2
   subst e1 e2;rw[q9 (Zg.mp n).1];simp[hl]
  |succ k=>exact xG (Zg.mp n).2 (by simpa using h1) (by simpa using h2) (by simpa using hl)
def pick(S:Ad)(js:List Nat):Ad:=λi=>match js[i]? with
 |some j=>S j
 |none=>[]
theorem jQ(h:a∈pick S js i):∃j,js[i]? =some j/\a∈S j:=by
 unfold pick at h;split at h
 .rename_i j e;exact⟨j,e,h⟩
 .cases h
def back(S:Ad)(js:List Nat)(Sc:Ad):Ad:=λj=>match js.idxOf? j with
 |some i=>Sc i
 |none=>S j
theorem v6(h:js.idxOf? j=some i):js[i]? =some j:=by
 obtain⟨h1,h2,B⟩:=ZG.mp h;have:js[i]=j:=by simpa using h2
 rw[YT h1,this]
theorem BJ(h:js.idxOf? j=none):j∉js:=by
 intro z;have:=aaH.mp h j z;simp at this
theorem Us(n:js.Nodup)(h:js[i]? =some j):js.idxOf? j=some i:=by
 cases e:js.idxOf? j with
 |none=>exact absurd (Zv h) (BJ e)
 |some k=>
  have:=v6 e;have I:k<js.length:=(List.getElem?_eq_some_iff.mp this).1;rw[(abB I n).mp (this.trans h.symm)]
theorem Qa{Sc:Ad}(n:js.Nodup)(h:js[i]? =some j):back S js Sc j=Sc i:=by unfold back;rw[Us n h]
theorem Aw{Sc:Ad}(h:j∉js):back S js Sc j=S j:=by
 unfold back;split
 .rename_i i e;exact absurd (Zv (v6 e)) h
 .rfl
theorem mL{Sc:Ad}(h:a∈back S js Sc j):(∃i,js[i]? =some j/\a∈Sc i)∨(j∉js/\a∈S j):=by
 unfold back at h;split at h
 .rename_i i e;exact .inl ⟨i,v6 e,h⟩
 .rename_i e;exact .inr ⟨BJ e,h⟩
theorem Ae(h:bA (ds.take k)=true)(e:ds[i]? =some d)(hi:i<k):bB d=true:=by
 induction ds generalizing k i with
 |nil=>simp at e
 |cons a r O=>
  cases k with
  |zero=>omega
  |succ k=>
   rw[List.take_succ_cons,bA,Zw]at h;cases i with
   |zero=>
    have:a=d:=by simpa using e
    rw[←this];exact h.1
   |succ i=>exact O h.2 (by simpa using e) 1.11
theorem Gs:∀{js:List Nat},(∀j∈js,∃u,σ[j]? =some (some u))->∃us:List V,js.map (λj=>σ[j]?)=us.map (λu=>some (some u))
 |[],_=>⟨[],rfl⟩
 |j::js,h=>by
  obtain⟨us,J⟩:=Gs (js:=js) λi hi=>h i (Zf _ hi);obtain⟨u,q⟩:=h j ZJ;exact⟨u::us,by rw[YL,YL,J,q]⟩
theorem Mp{F:List D->Option (D×List D)}(hj:js.Nodup)(J:∀j∈js,ob j=true)(N:∀i,i<js.length->pr i=true)(h:RfM G ob t js f) :
  kZ G ob (λσ H Q=>t σ H λvs H1=>spI G oc pr F (vs++[]) H1 Q E) (eIo F js f):=λρ d d4 e σ H S Fr s Q q=>by
 unfold eIo at e;split at e
 .rename_i hsome
  cases h0:objs js ρ with
  |none=>rw[h0]at hsome;cases hsome
  |some d6=>
   cases h1:f ρ with
   |none=>simp[h1]at e
   |some p=>
    obtain⟨ds,ρ1⟩:=p;rw[h1]at e;simp![YF]at e;cases h2:objs js ρ1 with
    |none=>simp[h2]at e
    |some os=>
     rw[h2]at e;simp![YF]at e;split at e
     .rename_i hbro
      cases B:F (os++fzL ds)with
      |none=>simp[B]at e
      |some z=>
       obtain⟨d1,a2⟩:=z;rw[B]at e;simp![YF]at e;split at e
       .rename_i b4
        obtain⟨rfl,rfl⟩:d1=d/\ir js a2 ρ1=d4:=by simpa using e
        obtain⟨l0,g0⟩:=Ax h0;obtain⟨l1,g1⟩:=Ax h2;have b3:∃us:List V,js.map (λj=>σ[j]?)=us.map (λu=>some (some u)):=by
         have:∀j∈js,∃u,σ[j]? =some (some u):=λj hj=>by
          obtain⟨k,I⟩:=aaJ.mp hj;obtain⟨d0,_,q2⟩:=g0 k j I;obtain⟨v,q3,_⟩:=s.sl j d0 q2;exact⟨v,q3⟩
         exact Gs this
        obtain⟨us,b3⟩:=b3;have c1:us.length=js.length:=by have:=congrArg aaX b3;simpa using this.symm
        have c4:∀(k j:Nat)(u:V),js[k]? =some j->us[k]? =some u->σ[j]? =some (some u):=λk j u h1 h2=>by
         have:=congrArg (λl=>l[k]?) b3;simp![List.getElem?_map,h1,h2,aaI,abd]at this;exact this
        refine h ρ ds ρ1 h1 σ H S Fr s us b3 _ λvs H1 M S1 O r1 d5 c7=>?_;rw[List.append_nil];have b1:∀{i a},a∈pick S1 js i->inO ob S1 a:=λ{i a} z=>by
         obtain⟨j,e,y⟩:=jQ z;exact⟨j,J j (Zv e),y⟩
        have a1:∀{a},inS (pick S1 js) a->inO ob S1 a:=λ⟨i,z⟩=>b1 z;have a9:∀{i a},a∈S1 i->¬(wn ob S1 (plus M Fr)).free a:=λ{i a} z f=>by
         cases b2:ob i with
         |false=>exact f.2.1 ⟨i,b2,z⟩
         |true=>exact f.2.2 ⟨i,b2,z⟩
        let a3:Addr->Prop:=λa=>au ds=true/\((Fr a∨inS S1 a)/\¬inS (pick S1 js) a)
        have b0:∀a,(wn ob S1 (plus M Fr)).free a->(wn oc (pick S1 js) a3).free a:=λa f=>by
         refine⟨λz=>?_,λ⟨i,_,z⟩=>?_,λ⟨i,_,z⟩=>?_⟩
         .rcases z.2.1 with y|⟨i,y⟩
          .exact f.1 (.inr y)
          .exact a9 y f
         .exact f.2.2 (b1 z)
         .exact f.2.2 (b1 z)
        have c9:∀a∈M,¬Fr a:=λa Y z=>by
         rcases c7.fm a Y with y|y
         .exact s.notO z y
         .obtain⟨o,J,_⟩:=s.fdm a z
          rw[y]at J;cases J
        have c0:∀a∈M,(wn oc (pick S1 js) a3).free a:=λa Y=>by
         refine⟨λz=>?_,λ⟨i,_,z⟩=>?_,λ⟨i,_,z⟩=>?_⟩
         .rcases z.2.1 with y|⟨i,y⟩
          .exact c9 a Y y
          .exact O.fdj i a (.inl Y) y
         .obtain⟨j,_,y⟩:=jQ z;exact O.fdj j a (.inl Y) y
         .obtain⟨j,_,y⟩:=jQ z;exact O.fdj j a (.inl Y) y
        have c5:aH G H1 (wn oc (pick S1 js) a3) (fzL ds) vs []:=by
         refine r1.fz2 ⟨b0,c0⟩ ?_ (.inl hbro);by_cases c6:au ds=true
         .exact .inl c6
         .refine .inr λa Y=>⟨λz=>c6 z.1,λ⟨i,_,z⟩=>?_,λ⟨i,_,z⟩=>?_⟩
          .obtain⟨i1,o1,y1⟩:=Y
           obtain⟨i2,o2,y2⟩:=b1 z;rw[O.dj i1 i2 a y1 y2,o2]at o1;cases o1
          .obtain⟨i1,o1,y1⟩:=Y
           obtain⟨i2,o2,y2⟩:=b1 z;rw[O.dj i1 i2 a y1 y2,o2]at o1;cases o1
        have sc:Sta G H1 oc ((os++fzL ds).map some) ((us++vs).map some) (pick S1 js) a3:=by
         refine⟨by simp[l1,c1,c5.length],λi d0 hi=>?_,λi hi=>?_,λi=>?_,λi k a h1 h2=>?_,λi a h1 h2=>h1.2.2 ⟨i,h2⟩,λa Y=>?_⟩
         .have hi:=j9 hi
          by_cases b5:i<js.length
          .obtain⟨dd,q1,q2⟩:=g1 i js[i] (by simp[b5])
           rw[Zo 1.11,q1]at hi;cases hi;obtain⟨v,q3,q4,q5⟩:=O.sl _ _ q2;have a4:=(by simpa[clean]using q5:aD d0=true/\aB d0=true);have c8:∃u,us[i]? =some u:=⟨us[i],by simp[c1,b5]⟩;obtain⟨u,hu⟩:=c8;have:=c4 i js[i] u (by simp[b5]) hu;rw[q3]at this;cases this;refine⟨v,eX (by rw[Zo 1.11];exact hu),?_,q5⟩;have:pick S1 js i=S1 js[i]:=by unfold pick;rw[YT b5]
           rw[this];have ev:Evo H1 H1 (wn ob S1 (plus M Fr)) (wn oc (pick S1 js) a3):=⟨λb u h f=>⟨h,b0 b f⟩,λ_ _ h=>h⟩;exact q4.mono ev (.inl a4.1) (.inl a4.2) λ_ _ _ h=>h
          .rw[aad 1.11]at hi
           obtain⟨x,M',q1,q2,q3⟩:=c5.get hi;have:M'=[]:=by simpa using q3
           subst this;refine⟨x,eX (by rw[aad 1.11,c1,←l1];exact q1),?_,by simp[clean,iT (ie ds) hi,iU (ik ds) hi]⟩;have:pick S1 js i=[]:=by unfold pick;rw[ac8 1.11]
           rw[this];exact q2
         .unfold pick
          split
          .rename_i j hj'
           exfalso;obtain⟨dd,q1,q2⟩:=g1 i j hj';exact hi dd (eX (by rw[Zo (by rw[l1];exact(List.getElem?_eq_some_iff.mp hj').1)];exact q1))
          .rfl
         .unfold pick
          split
          .exact O.nd _
          .exact Zz
         .obtain⟨j1,e1,y1⟩:=jQ h1
          obtain⟨j2,e2,y2⟩:=jQ h2;have:=O.dj j1 j2 a y1 y2;rw[this,←e2]at e1;exact(abB (by
           cases hh:js[i]? with
           |none=>rw[hh,e2]at e1;cases e1
           |some _=>exact(List.getElem?_eq_some_iff.mp hh).1) hj).mp e1
         .rcases Y.2.1 with y|⟨i,y⟩
          .exact O.fdm a (.inr y)
          .exact O.mu y
        refine⟨os++fzL ds,pick S1 js,a3,sc,λi hi=>?_,d1,a2,B,λv H2 Mc Sc s2 r2 c2 n2 b8 m2=>?_⟩
        .unfold pick
         split
         .rename_i j hj'
          rw[N i (List.getElem?_eq_some_iff.mp hj').1]at hi;cases hi
         .rfl
        .have l2:a2.length=(os++fzL ds).length:=by
          have h1:=s2.len;have h2:=sc.len;simp![Zc]at h1 h2;rw[h1,←h2]
         have kept:∀b u,H1 b=some u->¬inS (pick S1 js) b->H2 b=some u:=λb u U n=>m2.kp b u U n (by simp);have a5:∀{i b},b∈Sc i->inS (pick S1 js) b∨H1 b=none:=λ{i b} z=>(m2.gr i b z).imp id λy=>y.resolve_left (by simp);have b6:∀{b},Fr b->¬inS (pick S1 js) b:=λ{b} z ⟨i,y⟩=>by obtain⟨j,_,y⟩:=jQ y;exact O.fdj j b (.inr z) y
         have a0:∀{j b},j∉js->b∈S1 j->¬inS (pick S1 js) b:=λ{j b} hn z ⟨i,y⟩=>by
          obtain⟨k,e,y⟩:=jQ y;rw[O.dj j k b z y]at hn;exact hn (Zv e)
         have b9:∀{i b},b∈S1 i->H1 b≠none:=λ{i b} z y=>by obtain⟨o,J,_⟩:=O.mu z;rw[y]at J;cases J
         have ev:Evo H1 H2 (wn ob S1 (plus M Fr)) (wn ob (back S1 js Sc) (plus Mc Fr)):=by
          refine⟨λb u U f=>?_,λb xs h=>?_⟩
          .have n1:¬inS (pick S1 js) b:=λz=>f.2.2 (a1 z)
           have n2:∀i,b∉back S1 js Sc i:=λi z=>by
            rcases mL z with⟨k,_,y⟩|⟨_,y⟩
            .rcases a5 y with y|y
             .exact n1 y
             .rw[U]at y;cases y
            .exact a9 y f
           refine⟨kept b u U n1,λz=>?_,λ⟨i,_,z⟩=>n2 i z,λ⟨i,_,z⟩=>n2 i z⟩;rcases z with z|z
           .rcases b8 b z with y|y
            .exact n1 y
            .rw[U]at y;cases y
           .exact f.1 (.inr z)
          .have no:∀u,H1 b=some u->muO u=false->H2 b=some u:=λu hu mu=>kept b u hu λ⟨i,z⟩=>by
            obtain⟨j,_,z⟩:=jQ z;obtain⟨o,J,hm⟩:=O.mu z;rw[hu]at J;cases J;rw[mu]at hm;cases hm
           exact no _ h rfl
         have conv:∀(e:D)(x:V)(L:List Addr),(au ds=true∨bB e=true)->clean e=true->Rep G H2 (wn oc Sc (plus Mc a3)) e x L->Rep G H2 (wn ob (back S1 js Sc) (plus Mc Fr)) e x L:=λe x L Z b4 r=>by
          rcases Z with Z|Z
          .have a4:=(by simpa[clean]using b4:aD e=true/\aB e=true)
           have d2:Evo H2 H2 (wn oc Sc (plus Mc a3)) (wn ob (back S1 js Sc) (plus Mc Fr)):=⟨λb u U f=>?_,λ_ _ h=>h⟩
           .exact r.mono d2 (.inl a4.1) (.inl a4.2) λ_ _ _ h=>h
           .have nSc:∀i,b∉Sc i:=λi z=>by
             cases b2:oc i with
             |false=>exact f.2.1 ⟨i,b2,z⟩
             |true=>exact f.2.2 ⟨i,b2,z⟩
            have nb:∀j,b∉back S1 js Sc j:=λj z=>by
             rcases mL z with⟨k,_,y⟩|⟨hn,y⟩
             .exact nSc k y
             .exact f.1 (.inr ⟨Z,.inr ⟨j,y⟩,a0 hn y⟩)
            refine⟨U,λz=>?_,λ⟨i,_,z⟩=>nb i z,λ⟨i,_,z⟩=>nb i z⟩;rcases z with z|z
            .exact f.1 (.inl z)
            .exact f.1 (.inr ⟨Z,.inl z,b6 z⟩)
          .exact r.own Z
         have d3:∀(j:Nat)(d0:D),(ir js a2 ρ1)[j]? =some (some d0)->∃v,σ[j]? =some (some v)/\Rep G H2 (wn ob (back S1 js Sc) (plus Mc Fr)) d0 v (back S1 js Sc j)/\clean d0=true:=λj d0 a7=>by
          by_cases a6:j∈js
          .obtain⟨k,I⟩:=aaJ.mp a6
           have c3:k<js.length:=(List.getElem?_eq_some_iff.mp I).1;obtain⟨dd,q1,q2⟩:=g1 k j I;have b7:j<ρ1.length:=(List.getElem?_eq_some_iff.mp q2).1;have a8:k<a2.length:=by rw[l2,aa3];omega
           rw[xG hj I (d:=a2[k]) (by simp[a8]) b7]at a7;cases a7;obtain⟨v,q3,q4,q5⟩:=s2.sl k a2[k] (eX (by simp[a8]));have q3:=j9 q3;rw[Zo 1.11]at q3;refine⟨v,c4 k j v I q3,?_,q5⟩;rw[Qa hj I];refine conv _ _ _ (b4.imp id λz=>Ae z.2 (by simp[a8]) c3) q5 q4
          .rw[q9 a6]at a7
           obtain⟨v,q1,q2,q3⟩:=O.sl j d0 a7;have a4:=(by simpa[clean]using q3:aD d0=true/\aB d0=true);refine⟨v,q1,?_,q3⟩;rw[Aw a6];exact q2.mono ev (.inl a4.1) (.inl a4.2) λc Z u hu=>kept c u hu (a0 a6 Z)
         refine q v H2 Mc (back S1 js Sc) ⟨?_,d3,?_,?_,?_,?_,?_⟩ (conv _ _ _ (b4.imp id λz=>z.1) c2 r2) n2 ?_
         .rw[yt];exact O.len
         .intro j a7
          by_cases a6:j∈js
          .obtain⟨k,I⟩:=aaJ.mp a6
           obtain⟨dd,q1,q2⟩:=g1 k j I;have b7:j<ρ1.length:=(List.getElem?_eq_some_iff.mp q2).1;have c3:k<js.length:=(List.getElem?_eq_some_iff.mp I).1;have a8:k<a2.length:=by rw[l2,aa3];omega
           exact absurd (xG hj I (d:=a2[k]) (by simp[a8]) b7) (a7 _)
          .rw[Aw a6]
           exact O.em j λd0=>by have:=a7 d0;rwa[q9 a6]at this
         .intro j
          unfold back;split
          .exact s2.nd _
          .exact O.nd j
         .intro i k a y1 y2
          rcases mL y1 with⟨i1,e1,z1⟩|⟨e1,z1⟩<;>rcases mL y2 with⟨i2,e2,z2⟩|⟨e2,z2⟩
          .have:=s2.dj i1 i2 a z1 z2
           rw[this,e2]at e1;exact(Z_ e1).symm
          .rcases a5 z1 with y|y
           .exact absurd y (a0 e2 z2)
           .exact absurd y (b9 z2)
          .rcases a5 z2 with y|y
           .exact absurd y (a0 e1 z1)
           .exact absurd y (b9 z1)
          .exact O.dj i k a z1 z2
         .intro j a Y z
          rcases mL z with⟨i,_,y⟩|⟨hn,y⟩
          .rcases Y with Y|Y
           .exact s2.fdj i a (.inl Y) y
           .rcases a5 y with y|y
            .exact b6 Y y
            .obtain⟨o,J,_⟩:=O.fdm a (.inr Y)
             rw[y]at J;cases J
          .rcases Y with Y|Y
           .rcases b8 a Y with y'|y'
            .exact a0 hn y y'
            .exact b9 y y'
           .exact O.fdj j a (.inr Y) y
         .intro a Y
          rcases Y with Y|Y
          .exact r2.dom a Y
          .obtain⟨o,J,hm⟩:=O.fdm a (.inr Y)
           exact⟨o,kept a o J (b6 Y),hm⟩
         .have ef2:Eff ob H1 H2 S1 (back S1 js Sc) Mc:=by
           refine⟨λb u U n=>kept b u U λz=>n (a1 z),λi hi=>Aw (λz=>by rw[J i z]at hi;cases hi),λi a hi z=>?_,λa Y=>(b8 a Y).imp (λy=>a1 y) id⟩;rcases mL z with⟨k,_,y⟩|⟨_,y⟩
           .exact(a5 y).imp (λy=>a1 y) id
           .exact .inl ⟨i,hi,y⟩
          exact(c7.trans ef2).same (Same.refl _) λc Z=>.inl (zc _ Z)
       .cases e
     .cases e
 .cases e
theorem eQ(js:List Nat){F:List D->Option (D×List D)}(C:∀c,Cal (X c).prog (X c).w (X c).K (X c).mg (X c).base k x ps (spI G oc pr F))(O:∀c,gO k (X c).A)(Y:PVM X G ob (e::es) js f)(I:js.Nodup:=by decide)(J:∀j∈js,ob j=true:=by decide)(N:∀i,i<js.length->pr i=true:=by decide)(q:∀c,Gl (X c) x:=by intro _;rfl)(B:1.18=false:=by decide)(V:∀c,YQ (e::es) (X c).env=(false,eval e (X c).env)::YQ es (X c).env:=by intro _;rfl)(Z:∀c,(aak pos (YQ es (X c).env)).any (·.1)=false:=by intro _;rfl) :
 PVe X G ob (.Call (.Name x p) (e::es) [] pos) (eIo F js f):=let⟨t,a1,a2⟩:=Y.ex;⟨_,λc=>Kz (C c) (O c) (q c) (a1 c) B (V c) (Z c),Mp I J N a2⟩
def kids:D->List D
 |.tup ds=>ds
 |.lst _ ds=>ds
 |.dct _ _ ds=>ds
 |.ins _ _ _ ds=>ds
 |_=>[]
def xO:D->List D->D
 |.tup _,es=>.tup es
 |.lst m _,es=>.lst m es
 |.dct m ks _,es=>.dct m ks es
 |.ins m c fs _,es=>.ins m c fs es
 |d,_=>d
def e_:List Nat->D->Option D
 |[],d=>some d
 |j::p,d=>((kids d)[j]?).bind (e_ p)
def fW:List Nat->D->D->D
 |[],e,_=>e
 |j::p,e,d=>match(kids d)[j]? with
  |some c=>xO d ((kids d).set j (fW p e c))
  |none=>d
theorem Evo.trans{H1:Hp}{W1 I:Wn}(a:Evo H H1 W W1)(b:Evo H1 H2 W1 I):Evo H H2 W I:=⟨λc u h f=>let⟨h1,f1⟩:=a.k c u h f;b.k c u h1 f1,λc xs h=>b.t c xs (a.t c xs h)⟩
structure Foc(G:Gc)(H:Hp)(W:Wn)(d0:D)(v0:V)(L:List Addr)(p:List Nat)(d:D)(v:V)(M:List Addr):Prop where
 r:Rep G H W d v M
 b:∃A B,L=A++(M++B)/\∀H' W' d' M',Evo H H' W W'->(∀c∈A++B,∀u,H c=some u->H' c=some u)->Rep G H' W' d' v M'->Rep G H' W' (fW p d' d0) v0 (A++(M'++B))
theorem Foc.nil(r:Rep G H W d v L):Foc G H W d v L [] d v L:=⟨r,[],[],by simp,λH' W' d' M' _ _ h=>by simpa[fW]using h⟩
variable{p:List Nat}{d0:D}
theorem Foc.mono{H1:Hp}{W1:Wn}{Y:V}(f:Foc G H W d0 Y L p d v M)(Z:clean d=true∨Up H H1 W W1)(e:Evo H H1 W W1)(k:∀c∈L,∀u,H c=some u->H1 c=some u):Foc G H1 W1 d0 Y L p d v M:=by
 obtain⟨A,B,O,U⟩:=f.b;refine⟨?_,A,B,O,λH' W' d' M' I q F=>U H' W' d' M' (e.trans I) (λc Z u J=>q c Z u (k c ?_ u J)) F⟩
 .rcases Z with Z|Z
  .have hcc:=(by simpa[clean]using Z:aD d=true/\aB d=true)
   exact f.r.mono e (.inl hcc.1) (.inl hcc.2) λc Z u J=>k c (by rw[O];simp[Z]) u J
  .exact f.r.up Z
 .rw[O]
  simp![YC]at Z⊢;rcases Z with z|z<;>simp[z]
theorem Nr(p:List Nat)(j:Nat)(e:D):∀(d0:D){d:D},e_ p d0=some d->(kids d)[j]?≠none->fW (p++[j]) e d0=fW p (fW [j] e d) d0:=by
 induction p with
 |nil=>intro d0 d h _;cases h;rfl
 |cons k p O=>
  intro d0 d h hn;simp![e_]at h;cases h1:(kids d0)[k]? with
  |none=>simp[h1]at h
  |some c=>
   have h:e_ p c=some d:=by simpa[h1]using h
   rw[Zx,fW,fW,h1];simp only;rw[O c h hn]
theorem CJ(p:List Nat)(j:Nat):∀(d0:D){d:D},e_ p d0=some d->e_ (p++[j]) d0=(kids d)[j]?:=by
 induction p with
 |nil=>
  intro d0 d h;cases h;simp![List.nil_append,e_];cases (kids d0)[j]?<;>rfl
 |cons k p O=>
  intro d0 d h;simp![e_]at h;cases h1:(kids d0)[k]? with
  |none=>simp[h1]at h
  |some c=>
   have h:e_ p c=some d:=by simpa[h1]using h
   rw[Zx,e_,h1];exact O c h
theorem mF(h:clean (.lst m ds)=true):au ds=true/\aA ds=true:=by simp[clean,aD,aB]at h;exact⟨h.1.2,h.2.2⟩
theorem bV{a b:List D}:au (a++b)=(au a&&au b):=by
 induction a with
 |nil=>rfl
 |cons d r O=>rw[Zx,au,au,O,agc]
theorem bY{a b:List D}:aA (a++b)=(aA a&&aA b):=by
 induction a with
 |nil=>rfl
 |cons d r O=>rw[Zx,aA,aA,O,agc]
variable{c:D}
theorem aH.kid(O:aH G H W ds xs L)(U:au ds=true)(J:aA ds=true)(e:ds[j]? =some c) :
  ∃x A M B,xs[j]? =some x/\L=A++(M++B)/\Rep G H W c x M/\∀H' W' d' M',Evo H H' W W'->(∀b∈A++B,∀u,H b=some u->H' b=some u)->Rep G H' W' d' x M'->aH G H' W' (ds.set j d') xs (A++(M'++B)):=by
 obtain⟨P,Q,x,ys,zs,LA,M1,LB,rfl,q,rfl,N,rfl,h1,h2,Z⟩:=O.at e;simp![bV,bY,au,aA,Zw]at U J;refine⟨x,LA,M1,LB,by rw[aad 1.11,N,abM];rfl,rfl,h2,λH' W' d' M' I kp F=>?_⟩;rw[←q,ac9 _ _ (YK _),abM];exact aH.append (h1.mono I (.inl U.1) (.inl J.1) λb U u Y=>kp b (Za _ U) u Y) (aH.cons F (Z.mono I (.inl U.2.2) (.inl J.2.2) λb U u Y=>kp b (zc _ U) u Y))
theorem Foc.lst{ds:List D}(r:Rep G H W (.lst .own ds) v L)(Z:clean (.lst .own ds)=true)(e:ds[j]? =some c):∃a xs x M,v= .ref a/\H a=some (.lst xs)/\xs.length=ds.length/\xs[j]? =some x/\Foc G H W (.lst .own ds) v L [j] c x M:=by
 rw[Rep]at r;obtain⟨a,xs,N,rfl,O,Y,rfl⟩:=r;obtain⟨h1,h2⟩:=mF Z;obtain⟨x,A,M,B,F,rfl,rx,U⟩:=O.kid h1 h2 e;refine⟨a,xs,x,M,rfl,Y,O.length.symm,F,rx,a::A,B,by simp,λH' W' d' M' I kp V=>?_⟩;have q:fW [j] d' (.lst .own ds)= .lst .own (ds.set j d'):=by simp![fW,kids,e,xO]
 rw[q,Rep];exact⟨a,xs,A++(M'++B),rfl,U H' W' d' M' I (λb U u J=>kp b (Zf _ U) u J) V,kp a (by simp) _ Y,by simp⟩
theorem Foc.tup{ds:List D}(r:Rep G H W (.tup ds) v L)(Z:clean (.tup ds)=true)(e:ds[j]? =some c):∃a xs x M,v= .ref a/\H a=some (.tup xs)/\xs.length=ds.length/\xs[j]? =some x/\Foc G H W (.tup ds) v L [j] c x M:=by
 rw[Rep]at r;obtain⟨a,xs,rfl,Y,O⟩:=r;have q:au ds=true/\aA ds=true:=by simpa[clean,aD,aB]using Z
 obtain⟨x,A,M,B,F,rfl,rx,U⟩:=O.kid q.1 q.2 e;refine⟨a,xs,x,M,rfl,Y,O.length.symm,F,rx,A,B,rfl,λH' W' d' M' I kp N=>?_⟩;have J:fW [j] d' (.tup ds)= .tup (ds.set j d'):=by simp![fW,kids,e,xO]
 rw[J,Rep];exact⟨a,xs,rfl,I.t a xs Y,U H' W' d' M' I kp N⟩
variable{ks:List Key}
theorem Foc.dct(r:Rep G H W (.dct .own ks ds) v L)(Z:clean (.dct .own ks ds)=true)(e:ds[j]? =some c):∃a kvs x M,v= .ref a/\H a=some (.dK kvs)/\(kvs.map (·.1)=ks/\ks.Nodup)/\(kvs.map (·.2))[j]? =some x/\Foc G H W (.dct .own ks ds) v L [j] c x M:=by
 rw[Rep]at r;obtain⟨a,kvs,N,rfl,I,O,Y,rfl⟩:=r;have q:au ds=true/\aA ds=true:=by simp[clean,aD,aB]at Z;exact Z
 obtain⟨x,A,M,B,F,rfl,rx,U⟩:=O.kid q.1 q.2 e;refine⟨a,kvs,x,M,rfl,Y,I,F,rx,a::A,B,by simp,λH' W' d' M' ev kp r'=>?_⟩;have V:fW [j] d' (.dct .own ks ds)= .dct .own ks (ds.set j d'):=by simp![fW,kids,e,xO]
 rw[V,Rep];exact⟨a,kvs,A++(M'++B),rfl,I,U H' W' d' M' ev (λb U u J=>kp b (Zf _ U) u J) r',kp a (by simp) _ Y,by simp⟩
theorem Foc.ins{V:Str}{fs:List Str}{ds:List D}(r:Rep G H W (.ins .own V fs ds) v L)(Z:clean (.ins .own V fs ds)=true)(e:ds[j]? =some c):∃a C dx kvs x M,v= .ref a/\G.mg V=some (.ref C)/\H a=some (.ins C dx kvs)/\kvs.map (·.1)=fs/\(kvs.map (·.2))[j]? =some x/\Foc G H W (.ins .own V fs ds) v L [j] c x M:=by
 rw[Rep]at r;obtain⟨a,C,dx,kvs,N,rfl,hC,I,O,Y,rfl⟩:=r;have q:au ds=true/\aA ds=true:=by simp[clean,aD,aB]at Z;exact Z
 obtain⟨x,A,M,B,F,rfl,rx,U⟩:=O.kid q.1 q.2 e;refine⟨a,C,dx,kvs,x,M,rfl,hC,Y,I,F,rx,a::A,B,by simp,λH' W' d' M' ev kp r'=>?_⟩;have a0:fW [j] d' (.ins .own V fs ds)= .ins .own V fs (ds.set j d'):=by simp![fW,kids,e,xO]
 rw[a0,Rep];exact⟨a,C,dx,kvs,A++(M'++B),rfl,hC,I,U H' W' d' M' ev (λb U u J=>kp b (Zf _ U) u J) r',kp a (by simp) _ Y,by simp⟩
theorem Foc.trans{Y x:V}{L0:List Addr}(f:Foc G H W d0 Y L0 p d v L)(g:Foc G H W d v L [j] c x M)(N:e_ p d0=some d)(F:(kids d)[j]?≠none):Foc G H W d0 Y L0 (p++[j]) c x M:=by
 obtain⟨A,B,O,U⟩:=f.b;obtain⟨Z,q,a0,a1⟩:=g.b;refine⟨g.r,A++Z,q++B,by rw[O,a0];simp,λH' W' d' M' I kp r'=>?_⟩;rw[Nr p j d' d0 N F];have:=U H' W' (fW [j] d' d) (Z++(M'++q)) I (λb U u J=>kp b ?_ u J) (a1 H' W' d' M' I (λb U u J=>kp b ?_ u J) r')
 .simpa using this
 .simp![YC]at U⊢
  rcases U with z|z<;>simp[z]
 .simp![YC]at U⊢
  rcases U with z|z<;>simp[z]
def RfP(G:Gc)(ob:Nat->Bool)(t:TE)(i:Nat)(pf:En->Option (List Nat)):Prop:=∀(ρ:En)(p:List Nat),pf ρ=some p->∀(σ:L2.St)(H:Hp)(S:Ad)(Fr:Addr->Prop),Sta G H ob ρ σ S Fr->∃d0 d,ρ[i]? =some (some d0)/\e_ p d0=some d/\∀Q:VK,
 (∀v Y H' M,Same H H'->σ[i]? =some (some Y)->Foc G H' (wn ob S Fr) d0 Y (S i) p d v M->Q v H')->t σ H Q
structure PVP{ι:Type}(X:ι->Cx)(G:Gc)(ob:Nat->Bool)(e:Expr)(i:Nat)(pf:En->Option (List Nat)):Prop where
 mk::(ex:∃t,(∀c,PE (X c) e t)/\RfP G ob t i pf)
def b7(i:Nat):En->Option (List Nat):=λρ=>match ρ[i]? with
 |some (some _)=>some []
 |_=>none
theorem bH(i:Nat)(V:∀c,(X c).N[i]? =some x:=by intro _;rfl)(D:∀c,Vis (X c).env.scope x:=by intro _;first|exact aa_ rfl|exact aax (aa_ rfl)|exact aax (aax rfl))(hd:1.18=false:=by decide)
  (I:(x==("__classdict__":Str))=false:=by decide):PVP X G ob (.Name x pos) i (b7 i):=by
 refine⟨_,λc=>pv i (V c) (D c) hd I,λρ p e σ H S Fr s=>?_⟩;unfold b7 at e;split at e
 .rename_i d h1
  cases e;obtain⟨v,h2,B,Z⟩:=s.sl i d h1;exact⟨d,d,h1,rfl,λQ q=>⟨v,h2,q v v H _ (Same.refl H) h2 (.nil B)⟩⟩
 .cases e
theorem p6:∀{p:List Nat}{d:D},clean d0=true->e_ p d0=some d->clean d=true:=by
 intro p
 induction p generalizing d0 with
 |nil=>intro d h e;cases e;exact h
 |cons j p O=>
  intro d h e;simp![e_]at e;cases h1:(kids d0)[j]? with
  |none=>simp[h1]at e
  |some c=>
   have e:e_ p c=some d:=by simpa[h1]using e
   refine O ?_ e;have I:au (kids d0)=true/\aA (kids d0)=true:=by
    cases d0<;>simp[kids,clean,aD,aB,au,aA]at h h1⊢<;>(try exact h)<;>exact⟨h.1.2,h.2.2⟩
   simp[clean,iT I.1 h1,iU I.2 h1]
def du:D->Option Key
 |.int i=>some (.inl i)
 |.str x=>some (.inr x)
 |_=>none
def fB(ks:List Key)(k:Key):Option Nat:=ks.findIdx? λx=>decide (x=k)
def ixP:D->D->Option Nat
 |.lst .own ds,.int i=>ixN ds.length i
 |.tup ds,.int i=>ixN ds.length i
 |.dct .own ks ds,k=>(du k).bind λk=>(fB ks k).bind λj=>if j<ds.length then some j else none
 |_,_=>none
def mJ(i:Nat)(pf:En->Option (List Nat))(fk:En->Option D):En->Option (List Nat):=λρ=>(pf ρ).bind λp=>(fk ρ).bind λk=>match ρ[i]? with
 |some (some d0)=>(e_ p d0).bind λd=>(ixP d k).bind λj=>if j<(kids d).length then some (p++[j])else none
 |_=>none
def QB:R2:=λx y H Q=>∃a v,x= .ref a/\qL H a y (some v)/\Q v H
variable{Y:Cx}
theorem QX(J:Y.A.units+1<cLine):IxR Y QB:=by
 intro value O pins s σ H x y v u Q I rx N h B;obtain⟨a,z,rfl,g,q⟩:=h;cases rx;exact tail_any (C_ I g) PySem.F.slot_dict_getitem.lookup (ym J I g N λD Z V U=>⟨z,H,V,U,q⟩) B
theorem JQ(J:Y.A.units+1<cLine):IxR Y (λx y H Q=>rIx Y.K x y H Q∨QB x y H Q):=Tu.or (QX J)
theorem my:∀{kvs:List (Key×V)}{k:Key}{j:Nat},fB (kvs.map (·.1)) k=some j->mj kvs k=(kvs.map (·.2))[j]?
 |[],k,j,h=>by simp[fB]at h
 |(k0,v)::r,k,j,h=>by
  simp![YL,fB,aa4]at h;by_cases e:k0=k
  .subst e
   simp at h;subst h;simp[mj]
  .rw[Zn e]at h
   simp![ZF,aaz]at h;cases h1:(r.map (·.1)).findIdx? (λx=>decide (x=k))with
   |none=>rw[h1]at h;cases h
   |some i=>
    rw[h1]at h;have:i+1=j:=by simpa using h
    subst this;have O:=my (kvs:=r) (k:=k) (j:=i) h1;simp![mj,aa9,Zn e,YL,abQ];exact O
theorem yw:∀{kvs:List (Key×V)}{k:Key},fB (kvs.map (·.1)) k=none->mj kvs k=none
 |[],k,h=>rfl
 |(k0,v)::r,k,h=>by
  simp![YL,fB,aa4]at h;by_cases e:k0=k
  .subst e
   simp at h
  .rw[Zn e]at h
   simp![ZF,aaz]at h;have h1:(r.map (·.1)).findIdx? (λx=>decide (x=k))=none:=by
    cases h1:(r.map (·.1)).findIdx? (λx=>decide (x=k))with
    |none=>rfl
    |some i=>rw[h1]at h;cases h
   have O:=yw (kvs:=r) (k:=k) h1;simp![mj,aa9,Zn e];exact O
theorem jV{k:Key}(r:Rep G H W d v L)(h:du d=some k):v=kV k:=by
 cases d<;>simp[du]at h<;>subst h<;>rw[Rep]at r<;>exact r.1
variable{pf:En->Option (List Nat)}{fk:En->Option D}
theorem Q9{to ti:TE}{i0:Nat}(J:RfP G ob to i0 pf)(hi:RfE G ob ti fk):RfP G ob (tOp (λx y H Q=>rIx G.K x y H Q∨QB x y H Q) to ti) i0 (mJ i0 pf fk):=λρ p e σ H S Fr s=>by
 unfold mJ at e;cases h1:pf ρ with
 |none=>simp[h1]at e
 |some p0=>
  cases h2:fk ρ with
  |none=>simp[h1,h2]at e
  |some k=>
   rw[h1,h2]at e;simp![YF]at e;split at e
   .rename_i d0 h3
    cases h4:e_ p0 d0 with
    |none=>simp[h4]at e
    |some d=>
     cases U:ixP d k with
     |none=>simp[h4,U]at e
     |some j=>
      by_cases h6:j<(kids d).length
      .obtain rfl:p0++[j]=p:=by simpa[h4,U,h6]using e
       obtain⟨a7,d',g1,g2,g3⟩:=J ρ p0 h1 σ H S Fr s;rw[h3]at g1;cases g1;rw[h4]at g2;cases g2;have a1:clean d=true:=p6 (let⟨_,_,_,h⟩:=s.sl i0 d0 h3;h) h4;refine⟨d0,(kids d)[j],h3,by rw[CJ p0 j d0 h4,YT h6],λQ q=>?_⟩;refine g3 _ λv v0 H1 M O a4 a6=>?_;have a2:Sta G H1 ob ρ σ S Fr:=s.grow O λa z=>.inl z;refine hi ρ k h2 σ H1 _ a2.rel a2.wok _ λy H2 L2 Z N fy ny=>?_;have up:Up H1 H2 (wn ob S Fr) (wn ob S Fr):=Up.same Z;have a0:=a6.mono (.inr up) up.evo λc _ u hu=>Z c u hu;have hj:(kids d)[j]? =some (kids d)[j]:=YT h6;have V:∀x M',Foc G H2 (wn ob S Fr) d v M [j] (kids d)[j] x M'->Q x H2:=λx M' f=>q x v0 H2 M' (O.trans Z) a4 (a0.trans f h4 (by rw[hj];simp));cases d with
       |lst m ds=>
        cases m<;>(try(simp[ixP]at U));cases k<;>(try(simp[ixP]at U));rename_i n;rw[Rep]at N;obtain⟨a,xs,x,M',rfl,Y,hl,F,f⟩:=Foc.lst a0.r a1 hj;refine .inl (.inl ⟨a,xs,n,x,rfl,N.1,SqL.of Y,?_,V x M' f⟩);unfold atI;rw[hl,U];exact F
       |tup ds=>
        cases k<;>(try(simp[ixP]at U));rename_i n;rw[Rep]at N;obtain⟨a,xs,x,M',rfl,Y,hl,F,f⟩:=Foc.tup a0.r a1 hj;refine .inl (.inr (.inl ⟨a,xs,n,x,rfl,N.1,SqT.of Y,?_,V x M' f⟩));unfold atI;rw[hl,U];exact F
       |dct m ks ds=>
        cases m<;>(try(simp[ixP]at U));cases I:du k with
        |none=>simp[I]at U
        |some kk=>
         cases F:fB ks kk with
         |none=>simp[I,F]at U
         |some j'=>
          have:j'=j:=by
           have:=U;simp[I,F]at this;exact this.2
          subst this;obtain⟨a,kvs,x,M',rfl,Y,a5,a3,f⟩:=Foc.dct a0.r a1 hj;refine .inr ⟨a,x,rfl,?_,V x M' f⟩;have:=jV N I;subst this;have B:=my (kvs:=kvs) (k:=kk) (j:=j') (by rw[a5.1];exact F);rw[a3]at B;rw[←B];exact qL.k Y
       |_=>simp[ixP]at U
      .simp[h4,U,h6]at e
   .cases e
theorem Gh{o i:Expr}{V:Nat}(q:∀c,(X c).A.units+1<cLine)(J:PVP X G ob o V pf)(hi:PV X G ob i fk)(B:vm i:=by exact λ_ _=>rfl)(F:∀c,(X c).K=G.K:=by intro _;rfl):PVP X G ob (.Subscript o i pos) V (mJ V pf fk):=let⟨t,a1,a2⟩:=J.ex;let⟨u,b1,b2⟩:=hi.ex;⟨_,λc=>(by rw[←F c];exact Nx (JQ (q c)) (a1 c) (b1 c) B),Q9 a2 b2⟩
def MuV(G:Gc)(r:V->List V->Hp->VK->Prop)(op:D->List D->Option (D×D)):Prop:=∀(d:D)(es:List D)(d' res:D),op d es=some (d',res)->∀(v:V)(xs:List V)(H:Hp)(W:Wn)(M N:List Addr),Rep G H W d v M->aH G H W es xs N->(M++N).Nodup->(∀a∈M,¬W.free a)->
 clean d=true->au es=true->aA es=true->∀Q:VK,(∀x H' M' R,(∀b u,H b=some u->b∉M->H' b=some u)->(∀W',Evo H H' W W'->Rep G H' W' d' v M'/\Rep G H' W' res x R)->(M'++R).Nodup->(∀a∈M'++R,a∈M∨a∈N∨H a=none)->clean d'=true->clean res=true->Q x H')->r v xs H Q
theorem Fe{e:D}:∀{p:List Nat},clean d0=true->clean e=true->clean (fW p e d0)=true:=by
 intro p
 induction p generalizing d0 with
 |nil=>intro _ h;exact h
 |cons j p O=>
  intro h V;simp![fW];cases h1:(kids d0)[j]? with
  |none=>exact h
  |some c=>
   have Z:clean c=true:=p6 (p:=[j]) h (by simp[e_,h1]);have:=O (d0:=c) Z V;have q:∀{ds:List D}{j:Nat}{x:D},au ds=true->aA ds=true->clean x=true->au (ds.set j x)=true/\aA (ds.set j x)=true:=λ{ds}=>by
    induction ds with
    |nil=>intro j x a b _;simp[a,b]
    |cons y r B=>
     intro j x a b F;simp![au,aA,Zw]at a b;have I:=(by simpa[clean]using F:aD x=true/\aB x=true);cases j with
     |zero=>simp[au,aA,I,a,b]
     |succ j=>simp![abo,au,aA,Zw];exact⟨⟨a.1,(B a.2 b.2 F).1⟩,⟨b.1,(B a.2 b.2 F).2⟩⟩
   cases d0<;>simp![kids,List.getElem?_nil]at h1<;>(try cases h1)<;>simp![xO,kids]<;>simp[clean,aD,aB]at h⊢
   .exact⟨(q h.1 h.2 this).1,(q h.1 h.2 this).2⟩
   .exact⟨⟨h.1.1,(q h.1.2 h.2.2 this).1⟩,h.2.1,(q h.1.2 h.2.2 this).2⟩
   .exact⟨⟨h.1.1,(q h.1.2 h.2.2 this).1⟩,h.2.1,(q h.1.2 h.2.2 this).2⟩
   .exact⟨⟨h.1.1,(q h.1.2 h.2.2 this).1⟩,h.2.1,(q h.1.2 h.2.2 this).2⟩
variable{res:D}
theorem Sta.mut{Fr:Addr->Prop}{d':D}{v0 x:V}{N M' R:List Addr}(s:Sta G H ob ρ σ S (plus N Fr))(e:ρ[i]? =some (some d0))(b3:σ[i]? =some (some v0))(b4:Foc G H (wn ob S (plus N Fr)) d0 v0 (S i) p d v M)
  (hF:∀a∈N,¬Fr a) (kp:∀b u,H b=some u->b∉M->H' b=some u) (O:∀W',Evo H H' (wn ob S (plus N Fr)) W'->Rep G H' W' d' v M'/\Rep G H' W' res x R) (nd:(M'++R).Nodup) (gr:∀a∈M'++R,a∈M∨a∈N∨H a=none) (Z:clean d'=true) :
  ∃S',Sta G H' ob (ρ.set i (some (fW p d' d0))) σ S' (plus R Fr)/\Rep G H' (wn ob S' (plus R Fr)) res x R/\(∀j,j≠i->S' j=S j)/\(∀a∈S' i,a∈S i∨a∈N∨H a=none)/\(∀a∈R,a∈S i∨a∈N∨H a=none)/\(∀b u,H b=some u->b∉S i->H' b=some u):=by
 obtain⟨A,B,hL,U⟩:=b4.b;have b0:i<ρ.length:=(List.getElem?_eq_some_iff.mp e).1;have a1:∀a∈M,a∈S i:=λa Y=>by rw[hL];simp[Y]
 have a2:∀a∈A++B,a∈S i/\a∉M:=λa Y=>by
  have hn:=s.nd i;rw[hL]at hn;have h1:=YX.mp hn;have h2:=YX.mp h1.2.1;rcases YC.mp Y with z|z
  .exact⟨by rw[hL];simp[z],λy=>h1.2.2 a z a (by simp[y]) rfl⟩
  .exact⟨by rw[hL];simp[z],λy=>h2.2.2 a y a z rfl⟩
 have a7:∀a∈M'++R,∀j,j≠i->a∉S j:=λa Y j F z=>by
  rcases gr a Y with y|y|y
  .exact F (s.dj j i a z (a1 a y))
  .exact s.fdj j a (.inl y) z
  .obtain⟨o,J,_⟩:=s.mu z;rw[y]at J;cases J
 have b2:∀a∈M'++R,¬Fr a:=λa Y z=>by
  rcases gr a Y with y|y|y
  .exact s.fdj i a (.inr z) (a1 a y)
  .exact hF a y z
  .obtain⟨o,J,_⟩:=s.fdm a (.inr z);rw[y]at J;cases J
 have a3:∀a∈M'++R,a∉A++B:=λa Y z=>by
  obtain⟨z1,z2⟩:=a2 a z;rcases gr a Y with y|y|y
  .exact z2 y
  .exact s.fdj i a (.inl y) z1
  .obtain⟨o,J,_⟩:=s.mu z1;rw[y]at J;cases J
 let S':=gU S i (A++(M'++B))
 have a5:∀a∈S' i,a∈S i∨a∈N∨H a=none:=λa Y=>by
  have Y:a∈gU S i (A++(M'++B)) i:=Y;rw[cM]at Y;simp![YC]at Y;rcases Y with z|z|z
  .exact .inl (a2 a (Za _ z)).1
  .exact(gr a (Za _ z)).imp (a1 a) id
  .exact .inl (a2 a (zc _ z)).1
 have a6:∀b u,H b=some u->(wn ob S (plus N Fr)).free b->H' b=some u/\(wn ob S' (plus R Fr)).free b:=λb u U f=>by
  have nS:∀j,b∉S j:=λj z=>by
   cases J:ob j with
   |false=>exact f.2.1 ⟨j,J,z⟩
   |true=>exact f.2.2 ⟨j,J,z⟩
  have a9:∀j,b∉S' j:=λj z=>by
   by_cases F:j=i
   .subst F
    rcases a5 b z with y|y|y
    .exact nS j y
    .exact f.1 (.inl y)
    .rw[U]at y;cases y
   .have z:b∈gU S i (A++(M'++B)) j:=z
    rw[cF F]at z;exact nS j z
  refine⟨kp b u U λz=>nS i (a1 b z),λz=>?_,λ⟨j,_,z⟩=>a9 j z,λ⟨j,_,z⟩=>a9 j z⟩;rcases z with z|z
  .rcases gr b (zc _ z)with y|y|y
   .exact nS i (a1 b y)
   .exact f.1 (.inl y)
   .rw[U]at y;cases y
  .exact f.1 (.inr z)
 have I:Evo H H' (wn ob S (plus N Fr)) (wn ob S' (plus R Fr)):=⟨a6,λb xs h=>by
  have no:∀u,H b=some u->muO u=false->H' b=some u:=λu hu mu=>kp b u hu λz=>by
   obtain⟨o,J,hm⟩:=s.mu (a1 b z);rw[hu]at J;cases J;rw[mu]at hm;cases hm
  exact no _ h rfl⟩
 obtain⟨r1,r2⟩:=O _ I;have a8:=YX.mp nd;refine⟨S',⟨by simp[s.len],λj dj F=>?_,λj F=>?_,λj=>?_,λj k a h1 h2=>?_,λj a h1 h2=>?_,λa Y=>?_⟩,r2,λj F=>cF F,a5,λa Y=>(gr a (zc _ Y)).imp (a1 a) id,λb u U n=>kp b u U λz=>n (a1 b z)⟩
 .by_cases a0:j=i
  .subst a0
   have:fW p d' d0=dj:=by simpa[b0]using F
   subst this;have b1:clean d0=true:=let⟨_,_,_,h⟩:=s.sl j d0 e;h;refine⟨v0,b3,?_,Fe b1 Z⟩;show Rep G H' _ _ v0 (gU S j (A++(M'++B)) j);rw[cM];exact U H' _ d' M' I (λc Z u hu=>kp c u hu (a2 c Z).2) r1
  .rw[List.getElem?_set_ne (Zt a0)]at F
   obtain⟨w,q1,q2,q3⟩:=s.sl j dj F;have q:=(by simpa[clean]using q3:aD dj=true/\aB dj=true);refine⟨w,q1,?_,q3⟩;show Rep G H' _ dj w (gU S i (A++(M'++B)) j);rw[cF a0];exact q2.mono I (.inl q.1) (.inl q.2) λc Z u hu=>kp c u hu λz=>a0 (s.dj j i c Z (a1 c z))
 .by_cases a0:j=i
  .subst a0
   exact absurd (by simp[b0]) (F (fW p d' d0))
  .show gU S i (A++(M'++B)) j=[]
   rw[cF a0];exact s.em j λd1=>by have:=F d1;rwa[List.getElem?_set_ne (Zt a0)]at this
 .by_cases a0:j=i
  .subst a0
   show(gU S j (A++(M'++B)) j).Nodup;rw[cM];have hn:=s.nd j;rw[hL]at hn;have h1:=YX.mp hn;have h2:=YX.mp h1.2.1;refine dN h1.1 (dN a8.1 h2.2.1 λa Y z=>a3 a (Za _ Y) (zc _ z)) λa Y z=>?_;rcases YC.mp z with z|z
   .exact a3 a (Za _ z) (Za _ Y)
   .exact h1.2.2 a Y a (by simp[z]) rfl
  .show(gU S i (A++(M'++B)) j).Nodup
   rw[cF a0];exact s.nd j
 .have key:∀{j:Nat}{a:Addr},j≠i->a∈S j->a∈S' i->False:=λ{j a} F z1 z2=>by
   have z2:a∈gU S i (A++(M'++B)) i:=z2;rw[cM]at z2;simp![YC]at z2;rcases z2 with z|z|z
   .exact F (s.dj j i a z1 (a2 a (Za _ z)).1)
   .exact a7 a (Za _ z) j F z1
   .exact F (s.dj j i a z1 (a2 a (zc _ z)).1)
  by_cases a0:j=i<;>by_cases a4:k=i
  .rw[a0,a4]
  .subst a0
   have h2:a∈gU S j (A++(M'++B)) k:=h2;rw[cF a4]at h2;exact(key a4 h2 h1).elim
  .subst a4
   have h1:a∈gU S k (A++(M'++B)) j:=h1;rw[cF a0]at h1;exact(key a0 h1 h2).elim
  .have h1:a∈gU S i (A++(M'++B)) j:=h1
   have h2:a∈gU S i (A++(M'++B)) k:=h2;rw[cF a0]at h1;rw[cF a4]at h2;exact s.dj j k a h1 h2
 .by_cases a0:j=i
  .subst a0
   have h2:a∈gU S j (A++(M'++B)) j:=h2;rw[cM]at h2;simp![YC]at h2;rcases h1 with h1|h1
   .rcases h2 with z|z|z
    .exact a3 a (zc _ h1) (Za _ z)
    .exact a8.2.2 a z a h1 rfl
    .exact a3 a (zc _ h1) (zc _ z)
   .rcases h2 with z|z|z
    .exact s.fdj j a (.inr h1) (a2 a (Za _ z)).1
    .exact b2 a (Za _ z) h1
    .exact s.fdj j a (.inr h1) (a2 a (zc _ z)).1
  .have h2:a∈gU S i (A++(M'++B)) j:=h2
   rw[cF a0]at h2;rcases h1 with h1|h1
   .exact a7 a (zc _ h1) j a0 h2
   .exact s.fdj j a (.inr h1) h2
 .rcases Y with Y|Y
  .exact r2.dom a Y
  .obtain⟨o,J,hm⟩:=s.fdm a (.inr Y)
   exact⟨o,kp a o J λz=>s.fdj i a (.inr Y) (a1 a z),hm⟩
section
variable{ι:Type}{X:ι->Cx}{G:Gc}{ob P:Nat->Bool}
theorem oO{G:Gc}{r:V->List V->Hp->VK->Prop}{op:D->List D->Option (D×D)}{H:Hp}{ρ:En}{σ:L2.St}{S:Ad}{Fr:Addr->Prop}{i:Nat}{p:List Nat}{d0 d d' res:D}{v v0:V}{M N:List Addr}{es:List D}{xs:List V}(hm:MuV G r op)(s:Sta G H ob ρ σ S (plus N Fr))(e:ρ[i]? =some (some d0))(a2:σ[i]? =some (some v0))(hp:e_ p d0=some d)
  (U:Foc G H (wn ob S (plus N Fr)) d0 v0 (S i) p d v M) (I:aH G H (wn ob S (plus N Fr)) es xs N) (nd:N.Nodup) (hF:∀a∈N,¬Fr a) (Z:au es=true) (c2:aA es=true) (h:op d es=some (d',res)) {Q:VK}
  (q:∀x H' R S',Sta G H' ob (ρ.set i (some (fW p d' d0))) σ S' (plus R Fr)->Rep G H' (wn ob S' (plus R Fr)) res x R->R.Nodup->clean res=true->(∀j,j≠i->S' j=S j)->(∀a∈S' i,a∈S i∨a∈N∨H a=none)->(∀a∈R,a∈S i∨a∈N∨H a=none)->(∀b u,H b=some u->b∉S i->H' b=some u)->Q x H'):r v xs H Q:=by
 have F:aav M (S i):=by
  obtain⟨A,B,hL,_⟩:=U.b;rw[hL];exact(acx M B).trans (aat A _)
 have a1:clean d0=true:=let⟨_,_,_,h⟩:=s.sl i d0 e;h;refine hm d es d' res h v xs H _ M N U.r I (dN (F.nodup (s.nd i)) nd λa h1 h2=>s.fdj i a (.inl h2) (F.subset h1)) (λa Y f=>?_) (p6 a1 hp) Z c2 Q λx H' M' R kp O J gr a0 a3=>?_
 .cases ho:ob i with
  |false=>exact f.2.1 ⟨i,ho,F.subset Y⟩
  |true=>exact f.2.2 ⟨i,ho,F.subset Y⟩
 .obtain⟨S',q1,q2,q3,q4,q5,q6⟩:=s.mut e a2 U hF kp O J gr a0
  exact q x H' R S' q1 q2 (YX.mp J).2.1 a3 q3 q4 q5 q6
def upS(op:D->List D->Option (D×D))(i:Nat)(p:List Nat)(es:List D)(ρ:En):Option (D×En):=match ρ[i]? with
 |some (some d0)=>(e_ p d0).bind λd=>if au es=true/\aA es=true then(op d es).map λq=>(q.2,ρ.set i (some (fW p q.1 d0)))else none
 |_=>none
theorem vV{op:D->List D->Option (D×D)}{i:Nat}{p:List Nat}{es:List D}{ρ I:En}{res:D}(h:upS op i p es ρ=some (res,I)):∃d0 d d',ρ[i]? =some (some d0)/\e_ p d0=some d/\au es=true/\aA es=true/\op d es=some (d',res)/\I=ρ.set i (some (fW p d' d0)):=by
 unfold upS at h;split at h
 .rename_i d0 h1
  cases h2:e_ p d0 with
  |none=>simp[h2]at h
  |some d=>
   by_cases Z:au es=true/\aA es=true
   .cases h3:op d es with
    |none=>simp[h2,Z,h3]at h
    |some q=>
     obtain⟨d',F⟩:=q;obtain⟨rfl,rfl⟩:F=res/\ρ.set i (some (fW p d' d0))=I:=by simpa[h2,Z,h3]using h
     exact⟨d0,d,d',h1,h2,Z.1,Z.2,h3,rfl⟩
   .simp[h2,Z]at h
 .cases h
def jA(op:D->List D->Option (D×D))(i:Nat)(pf:En->Option (List Nat))(f:En->Option (List D)):En->Option (D×En):=λρ=>(pf ρ).bind λp=>(f ρ).bind λes=>upS op i p es ρ
def gf(op:D->List D->Option (D×D))(i:Nat)(pf:En->Option (List Nat))(f:En->Option (List D)):En->Option Fl:=λρ=>(jA op i pf f ρ).map λq=>.nx q.2
def Jd(G:Gc)(T:String)(op:D->List D->Option (D×D)):Prop:=∀d es q,op d es=some q->∀(v:V)(H:Hp)(W:Wn)(L:List Addr),Rep G H W d v L->tyV G.K T v H
theorem KD{T:String}{r:V->List V->Hp->VK->Prop}{op:D->List D->Option (D×D)}{to:TE}{t:TA}{i:Nat}{pf:En->Option (List Nat)}{f:En->Option (List D)}(hm:MuV G r op)(ht:Jd G T op)(J:RfP G ob to i pf)(Y:RfA G ob t f){ρ I:En}{res:D}(e:jA op i pf f ρ=some (res,I))
  {σ:L2.St} {H:Hp} {S:Ad} {Fr:Addr->Prop} (s:Sta G H ob ρ σ S Fr) {Q:VK}
  (q:∀x H' R S',Sta G H' ob I σ S' (plus R Fr)->Rep G H' (wn ob S' (plus R Fr)) res x R->R.Nodup->clean res=true->(∀j,j≠i->S' j=S j)->(∀a∈S' i,a∈S i∨H a=none)->(∀a∈R,a∈S i∨H a=none)->(∀b u,H b=some u->b∉S i->H' b=some u)->Q x H'):tBM G.K T r to t σ H Q:=by
 unfold jA at e;cases h1:pf ρ with
 |none=>simp[h1]at e
 |some p=>
  cases h2:f ρ with
  |none=>simp[h1,h2]at e
  |some es=>
   have e:upS op i p es ρ=some (res,I):=by simpa[h1,h2]using e
   obtain⟨d0,d,d',g1,g2,c1,B,g3,rfl⟩:=vV e;obtain⟨a5,dd,k1,k2,k3⟩:=J ρ p h1 σ H S Fr s;rw[g1]at k1;cases k1;rw[g2]at k2;cases k2;refine k3 _ λv v0 H1 M O a4 a1=>⟨ht d es _ g3 v H1 _ M a1.r,?_⟩;have a0:Sta G H1 ob ρ σ S Fr:=s.grow O λa z=>.inl z;refine Y ρ es h2 σ H1 _ a0.rel a0.wok _ λxs H2 N Z re F nd=>?_;have a3:Sta G H2 ob ρ σ S (plus N Fr):=a0.grow Z λa z=>z.elim (λz=>.inr ⟨F a z,re.dom a z⟩) .inl;have up:Up H1 H2 (wn ob S Fr) (wn ob S (plus N Fr)):=Up.add Z F;have a2:=a1.mono (.inr up) up.evo λc _ u hu=>Z c u hu;have hF:∀a∈N,¬Fr a:=λa Y z=>by
    obtain⟨o,J,_⟩:=a0.fdm a z;rw[F a Y]at J;cases J
   have nf:∀{a},a∈S i∨a∈N∨H2 a=none->a∈S i∨H a=none:=λ{a} z=>z.imp id λz=>z.elim (λz=>O.none' (F a z)) λz=>(O.trans Z).none' z;exact oO hm a3 g1 a4 g2 a2 re nd hF c1 B g3 λx H' R S' q1 q2 q3 q4 q5 q6 q7 q8=>q x H' R S' q1 q2 q3 q4 q5 (λa Y=>nf (q6 a Y)) (λa Y=>nf (q7 a Y)) λb u U n=>q8 b u ((O.trans Z) b u U) n
theorem Gu{T:String}{r:V->List V->Hp->VK->Prop}{op:D->List D->Option (D×D)}{to:TE}{t:TA}{i:Nat}{pf:En->Option (List Nat)}{f:En->Option (List D)}(N:MuV G r op)(ht:Jd G T op)(J:RfP G ob to i pf)(Y:RfA G ob t f):RfS G ob P (JT (tBM G.K T r to t)) (gf op i pf f):=λρ r e σ H S Fr s E q=>by
 unfold gf at e;cases h1:jA op i pf f ρ with
 |none=>simp[h1]at e
 |some p=>
  obtain⟨res,I⟩:=p;have:Fl.nx I=r:=by simpa[h1]using e
  subst this;refine KD N ht J Y h1 s λx H' R S' q1 q2 q3 q4 B Z O q8=>q σ H' S' (q1.lessF λa z=>.inr z) ⟨λb u U n _=>q8 b u U λz=>n ⟨i,z⟩,λj a z=>?_,.refl⟩;by_cases F:j=i
  .subst F;exact(Z a z).imp (λz=>⟨j,z⟩) .inr
  .rw[B j F]at z;exact .inl ⟨j,z⟩
theorem Fz{T:String}{r:V->List V->Hp->VK->Prop}{op:D->List D->Option (D×D)}{to:TE}{t:TA}{i:Nat}{pf:En->Option (List Nat)}{f:En->Option (List D)}(Z:ob i=true)(N:MuV G r op)(ht:Jd G T op)(J:RfP G ob to i pf)(Y:RfA G ob t f):kZ G ob (tBM G.K T r to t) (jA op i pf f):=λρ d I e σ H S Fr s Q q=>by
 refine KD N ht J Y e s λx H' R S' q1 q2 q3 q4 q5 q6 O q8=>q x H' R S' q1 q2 q3 ⟨λb u U n=>q8 b u U λz=>n ⟨i,Z,z⟩,λj F=>q5 j (λz=>by rw[z,Z]at F;cases F),λj a F z=>?_,λa Y=>(O a Y).imp (λz=>⟨i,Z,z⟩) id⟩;by_cases B:j=i
 .subst B;exact(q6 a z).imp (λz=>⟨j,Z,z⟩) id
 .rw[q5 j B]at z;exact .inl ⟨j,F,z⟩
structure MuB{ι:Type}(X:ι->Cx)(G:Gc)(T id:String)(op:D->List D->Option (D×D)):Prop where
 ex:∃r,(∀c,MtR (X c) id r)/\MuV G r op/\Jd G T op
section
variable{T name id:String}{op:D->List D->Option (D×D)}{o e:Expr}{es:List Expr}{apos cpos pos:Pos}{i:Nat}{pf:En->Option (List Nat)}
theorem iK{U:Str}(m:MuB X G T id op)(Z:acC T)(slot:Slot T U id)(N:aeE (.builtin id)=pure (.type "method_descriptor")){f:En->Option (List D)}(J:PVP X G ob o i pf)(Y:PVA X G ob (e::es) f)(a0:∀c,abH (.Call (.Attribute o U apos) (e::es) [] cpos) none pos.line (X c).env=pure false:=by intro _;rfl)(q:∀c,aaO o U (X c).env (eval o (X c).env)=eval o (X c).env:=by intro _;rfl)(O:∀c,((aak cpos (YQ (e::es) (X c).env)).all (λx=>!x.1)&&(aca cpos (abi [] (X c).env)).all (λx=>x.1.isSome)
  &&decide ((e::es).length+([]:List adm).length+(if([]:List adm).isEmpty then 0 else 1)<30))=true:=by intro _;rfl) (V:(apos.endLine==cpos.line)=true:=by rfl) (B:∀c,YQ (e::es) (X c).env=(false,eval e (X c).env)::YQ es (X c).env:=by intro _;rfl) (I:∀c,(aak cpos (YQ es (X c).env)).any (·.1)=false:=by intro _;rfl) (F:∀c,(X c).K=G.K:=by intro _;rfl) :
 PVS X G ob P (.Expr (.Call (.Attribute o U apos) (e::es) [] cpos) pos) (gf op i pf f):=let⟨r,m1,m2,m3⟩:=m.ex;let⟨t,a1,a2⟩:=J.ex;let⟨u,b1,b2⟩:=Y.ex;⟨_,λc=>(by rw[←F c];exact Ai (KQ Z slot N (m1 c) (a1 c) (b1 c) (q c) (O c) V (B c) (I c)) (a0 c)),Gu m2 m3 a2 b2⟩
theorem Rb{U:Str}(m:MuB X G T id op)(pa:acC T)(slot:Slot T U id)(N:aeE (.builtin id)=pure (.type "method_descriptor")){f:En->Option (List D)}(J:PVP X G ob o i pf)(Y:PVA X G ob (e::es) f)(Z:ob i=true:=by rfl)(q:∀c,aaO o U (X c).env (eval o (X c).env)=eval o (X c).env:=by intro _;rfl)(O:∀c,((aak cpos (YQ (e::es) (X c).env)).all (λx=>!x.1)&&(aca cpos (abi [] (X c).env)).all (λx=>x.1.isSome)
  &&decide ((e::es).length+([]:List adm).length+(if([]:List adm).isEmpty then 0 else 1)<30))=true:=by intro _;rfl) (V:(apos.endLine==cpos.line)=true:=by rfl) (B:∀c,YQ (e::es) (X c).env=(false,eval e (X c).env)::YQ es (X c).env:=by intro _;rfl) (I:∀c,(aak cpos (YQ es (X c).env)).any (·.1)=false:=by intro _;rfl) (F:∀c,(X c).K=G.K:=by intro _;rfl) :
 PVe X G ob (.Call (.Attribute o U apos) (e::es) [] cpos) (jA op i pf f):=let⟨r,m1,m2,m3⟩:=m.ex;let⟨t,a1,a2⟩:=J.ex;let⟨u,b1,b2⟩:=Y.ex;⟨_,λc=>(by rw[←F c];exact KQ pa slot N (m1 c) (a1 c) (b1 c) (q c) (O c) V (B c) (I c)),Fz Z m2 m3 a2 b2⟩
theorem ww{U:Str}(m:MuB X G T id op)(Z:acC T)(slot:Slot T U id)(N:aeE (.builtin id)=pure (.type "method_descriptor"))(J:PVP X G ob o i pf)(B:∀c,abH (.Call (.Attribute o U apos) [] [] cpos) none pos.line (X c).env=pure false:=by intro _;rfl)(q:∀c,aaO o U (X c).env (eval o (X c).env)=eval o (X c).env:=by intro _;rfl)(V:(apos.endLine==cpos.line)=true:=by rfl)(F:∀c,(X c).K=G.K:=by intro _;rfl) :
 PVS X G ob P (.Expr (.Call (.Attribute o U apos) [] [] cpos) pos) (gf op i pf aK):=let⟨r,m1,m2,m3⟩:=m.ex;let⟨t,a1,a2⟩:=J.ex;⟨_,λc=>(by rw[←F c];exact Ai (Lq Z slot N (m1 c) (a1 c) (q c) V) (B c)),Gu m2 m3 a2 tR⟩
theorem NB{U:Str}(m:MuB X G T id op)(B:acC T)(slot:Slot T U id)(N:aeE (.builtin id)=pure (.type "method_descriptor"))(J:PVP X G ob o i pf)(Z:ob i=true:=by rfl)(q:∀c,aaO o U (X c).env (eval o (X c).env)=eval o (X c).env:=by intro _;rfl)(V:(apos.endLine==cpos.line)=true:=by rfl)(F:∀c,(X c).K=G.K:=by intro _;rfl) :
 PVe X G ob (.Call (.Attribute o U apos) [] [] cpos) (jA op i pf aK):=let⟨r,m1,m2,m3⟩:=m.ex;let⟨t,a1,a2⟩:=J.ex;⟨_,λc=>(by rw[←F c];exact Lq B slot N (m1 c) (a1 c) (q c) V),Fz Z m2 m3 a2 tR⟩
end
structure MuT{ι:Type}(X:ι->Cx)(G:Gc)(op:D->List D->Option (D×D)):Prop where
 ex:∃t:HW,(∀c,Qf (X c) t)/\MuV G (λo xs H Q=>∃i v,xs=[i,v]/\t o i v H λH'=>Q .non H') op
def iw(op:D->List D->Option (D×D))(i:Nat)(pf:En->Option (List Nat))(fk:En->Option D):D->En->Option En:=λd ρ=>(pf ρ).bind λp=>(fk ρ).bind λk=>(upS op i p [k,d] ρ).map λq=>q.2
theorem Qt{t:HW}{op:D->List D->Option (D×D)}{to ti:TE}{i:Nat}{pf:En->Option (List Nat)}{fk:En->Option D}(hm:MuV G (λo xs H Q=>∃i v,xs=[i,v]/\t o i v H λH'=>Q .non H') op)(J:RfP G ob to i pf)(hi:RfE G ob ti fk):RfG G ob P (jn to ti t) (iw op i pf fk):=λd ρ I e v σ H S M Fr s r nd hF Q q=>by
 unfold iw at e;cases h1:pf ρ with
 |none=>simp[h1]at e
 |some p=>
  cases h2:fk ρ with
  |none=>simp[h1,h2]at e
  |some k=>
   cases B:upS op i p [k,d] ρ with
   |none=>simp[h1,h2,B]at e
   |some w=>
    obtain⟨res,ρ1⟩:=w;obtain rfl:ρ1=I:=by simpa[h1,h2,B]using e
    obtain⟨d0,dd,d',g1,g2,c1,c2,g3,rfl⟩:=vV B;obtain⟨a9,b0,k1,k2,k3⟩:=J ρ p h1 σ H S (plus M Fr) s;rw[g1]at k1;cases k1;rw[g2]at k2;cases k2;refine k3 _ λo v0 H1 M1 O a3 a6=>?_;have a0:Sta G H1 ob ρ σ S (plus M Fr):=s.grow O λa z=>.inl z;refine hi ρ k h2 σ H1 _ a0.rel a0.wok _ λy H2 N Z ry F nN=>?_;have a2:Sta G H2 ob ρ σ S (plus (N++M) Fr):=a0.grow Z λa z=>z.elim (λz=>(YC.mp z).elim (λz=>.inr ⟨F a z,ry.dom a z⟩) λz=>.inl (.inl z)) λz=>.inl (.inr z);have up:Up H1 H2 (wn ob S (plus M Fr)) (wn ob S (plus (N++M) Fr)):=⟨Z,λb u U f=>⟨λz=>z.elim (λz=>(YC.mp z).elim (λz=>by rw[F b z]at U;cases U) λz=>f.1 (.inl z)) λz=>f.1 (.inr z),f.2⟩,λ_ _ _ f=>f⟩;have a8:Up H H2 (wn ob S (plus M Fr)) (wn ob S (plus (N++M) Fr)):=(Up.same O).trans up;have a1:=a6.mono (.inr up) up.evo λc _ u hu=>Z c u hu;have a5:(wn ob S (plus M Fr)).add N=wn ob S (plus (N++M) Fr):=by
     show Wn.mk _ _ _=Wn.mk _ _ _;congr 1;funext a;simp![plus,YC,eq_iff_iff,or_assoc];constructor
     .rintro(z|z)
      .exact .inl z
      .exact .inr z
     .rintro(z|z)
      .exact .inl z
      .exact .inr z
    rw[a5]at ry;have a4:∀a∈N,a∉M:=λa h1 h2=>by
     obtain⟨o,J,_⟩:=r.dom a h2;rw[O.none' (F a h1)]at J;cases J
    have re:aH G H2 (wn ob S (plus (N++M) Fr)) [k,d] [y,v] (N++M):=.cons ry (.one (r.up a8));have a7:∀a∈N++M,¬Fr a:=λa Y z=>by
     rcases YC.mp Y with y|y
     .obtain⟨o,J,_⟩:=a0.fdm a (.inr z)
      rw[F a y]at J;cases J
     .exact hF a y z
    have V:=oO hm a2 g1 a3 g2 a1 re (dN nN nd a4) a7 c1 c2 g3 (Q:=λ_ H'=>Q σ H') λx H' R S' q1 q2 q3 q4 q5 q6 q7 q8=>q σ H' S' (q1.lessF λa z=>.inr z) ⟨λb u U n m=>?_,λj a z=>?_,.refl⟩
    .obtain⟨i1,v1,e1,k⟩:=V
     cases e1;exact k
    .exact q8 b u ((O.trans Z) b u U) λz=>n ⟨i,z⟩
    .by_cases hj:j=i
     .subst hj
      rcases q6 a z with y|y|y
      .exact .inl ⟨j,y⟩
      .exact(YC.mp y).elim (λy=>.inr (.inr (O.none' (F a y)))) λy=>.inr (.inl y)
      .exact .inr (.inr ((O.trans Z).none' y))
     .rw[q5 j hj]at z;exact .inl ⟨j,z⟩
theorem pK{op:D->List D->Option (D×D)}{o k:Expr}{pos:Pos}{i:Nat}{pf:En->Option (List Nat)}{fk:En->Option D}(m:MuT X G op)(J:PVP X G ob o i pf)(I:PV X G ob k fk)(Y:∀c,∀v,acn (.Subscript o k pos) (X c).env v=(do
 let ov ←aaP [v] (eval o (X c).env)
 let iv ←aaP [v,ov] (eval k (X c).env)
 acz pos
 aaP [v,ov,iv] (aeB ov iv v)
 release [v,ov,iv] []):=by intro _;intro _;rfl):PVG X G ob P (.Subscript o k pos) (iw op i pf fk):=let⟨t,m1,m2⟩:=m.ex;let⟨_,a1,a2⟩:=J.ex;let⟨_,b1,b2⟩:=I.ex;⟨_,λc=>V1 (a1 c) (b1 c) (m1 c) (Y c),Qt m2 a2 b2⟩
theorem km{G:Gc}{H:Hp}{W:Wn}:Rep G H W .non .non []:=by rw[Rep];exact⟨rfl,rfl⟩
theorem sW{ds:List D}(h1:au ds=true)(h2:aA ds=true):clean (.lst .own ds)=true:=by simp[clean,aD,aB,h1,h2]
theorem GJ{G:Gc}{H:Hp}{W W':Wn}{a:Addr}{xs:List V}{ds:List D}{M:List Addr}{ys:List V}(O:aH G H W ds xs M)(B:au ds=true)(q:aA ds=true)(hn:a∉M)(I:Evo H (upd H a (.lst ys)) W W'):aH G (upd H a (.lst ys)) W' ds xs M:=
 O.mono I (.inl B) (.inl q) λc Z u J=>by rw[aM (show c≠a from λz=>hn (z▸Z))];exact J
def aW:D->List D->Option (D×D)
 |.lst .own ds,[e]=>if ds.length<1000000 then some (.lst .own (ds++[e]),.non)else none
 |_,_=>none
theorem J8{n:Nat}(h:n<1000000):n<YM:=Ze h (by decide)
theorem Du{G:Gc}:MuV G G9 aW:=λd es d' res h v xs H W M N r re nd hM Z c1 B Q q=>by
 unfold aW at h;split at h
 .rename_i ds e
  split at h
  .rename_i hl
   cases h;rw[Rep]at r;obtain⟨a,ys,M0,rfl,O,Y,rfl⟩:=r;obtain⟨x,zs,N1,N2,rfl,rfl,F,hz⟩:=re.inv;obtain⟨rfl,rfl⟩:=hz.inv0;rw[List.append_nil]at nd re;obtain⟨I,D⟩:=mF Z;have a0:=YX.mp nd;have hn:=Zg.mp a0.1;have V:a∉N1:=λz=>a0.2.2 a (by simp) a z rfl;simp![au,aA,Zw]at c1 B;refine⟨a,ys,x,rfl,rfl,Y,J8 (by rw[←O.length];exact hl),q .non _ (a::(M0++N1)) [] (λb u U n=>by rw[aM (show b≠a from λz=>n (by rw[z];simp))];exact U) (λW' ev=>⟨?_,km⟩) ?_ (λb U=>?_) (sW (by rw[bV];simp[I,au,c1]) (by rw[bY];simp[D,aA,B])) rfl⟩
   .rw[Rep]
    refine⟨a,ys++[x],M0++N1,rfl,(GJ O I D hn.1 ev).append (.one (F.mono ev (.inl c1.1) (.inl B.1) λc Z u J=>?_)),aY,rfl⟩;rw[aM (show c≠a from λz=>V (z▸Z))];exact J
   .rw[List.append_nil]
    exact nd
   .rw[List.append_nil]at U
    rcases YJ.mp U with z|z
    .exact .inl (by simp[z])
    .rcases YC.mp z with z|z
     .exact .inl (by simp[z])
     .exact .inr (.inl (by simp[z]))
  .cases h
 .cases h
theorem vM{T:String}{op:D->List D->Option (D×D)}(Y:T="list")(h:∀d es q,op d es=some q->∃m ds,d= .lst m ds):Jd G T op:=λd es q e v H W L r=>by
 obtain⟨m,ds,rfl⟩:=h d es q e;rw[Rep]at r;obtain⟨a,xs,M,rfl,O,B⟩:=r;exact .inl ⟨Y,xs,B.sq⟩
theorem dR:MuB X G "list" "list.append" aW:=⟨_,λc=>HB,Du,vM rfl λd es q e=>by
 unfold aW at e;split at e
 .exact⟨_,_,rfl⟩
 .cases e⟩
def gH(ks:List Key)(ds:List D)(k:Key)(v:D):List Key×List D:=match fB ks k with
 |some j=>(ks,ds.set j v)
 |none=>(ks++[k],ds++[v])
def fX:D->List D->Option (D×D)
 |.lst .own ds,[.int k,v]=>(ixN ds.length k).map λj=>(.lst .own (ds.set j v),.non)
 |.dct .own ks ds,[k,v]=>(du k).bind λk=>if ks.length<1000000 then some (.dct .own (gH ks ds k v).1 (gH ks ds k v).2,.non)else none
 |_,_=>none
def SM:HW:=λo i v H Q=>S7 o i v H Q∨∃a H',o= .ref a/\HN H a i v H'/\Q H'
theorem QL{Y:Cx}(J:Y.A.units+1<cLine):Qf Y SM:=by
 intro pins s σ H o i v D U u Q I O F N h;rcases h with h|⟨a,H',rfl,g,q⟩
 .exact set_list pins s σ H o i v D U u Q I O F N h
 .cases O
  exact yg J I g F N λV B=>⟨H',B,q⟩
theorem aH.set{G:Gc}{H:Hp}{W:Wn}{ds:List D}{xs:List V}{L:List Addr}{j:Nat}{c d':D}{y:V}{M':List Addr}(O:aH G H W ds xs L)(e:ds[j]? =some c)(F:Rep G H W d' y M'):∃A M B,L=A++(M++B)/\aH G H W (ds.set j d') (xs.set j y) (A++(M'++B)):=by
 obtain⟨P,Q,x,ys,zs,I,M1,J,rfl,q,rfl,N,rfl,h1,h2,U⟩:=O.at e;refine⟨I,M1,J,rfl,?_⟩;rw[←q,ac9 _ _ (YK _),abM];rw[show P.length=ys.length by omega,ac9 _ _ (YK _),abM];exact aH.append h1 (aH.cons F U)
theorem jC{ds:List D}{j:Nat}{x:D}(h:au ds=true)(F:aD x=true):au (ds.set j x)=true:=by
 induction ds generalizing j with
 |nil=>simpa using h
 |cons y r O=>
  simp![au,Zw]at h;cases j with
  |zero=>simp[au,F,h]
  |succ j=>simp![abo,au,Zw];exact⟨h.1,O h.2⟩
theorem jr{ds:List D}{j:Nat}{x:D}(h:aA ds=true)(F:aB x=true):aA (ds.set j x)=true:=by
 induction ds generalizing j with
 |nil=>simpa using h
 |cons y r O=>
  simp![aA,Zw]at h;cases j with
  |zero=>simp[aA,F,h]
  |succ j=>simp![abo,aA,Zw];exact⟨h.1,O h.2⟩
theorem U_{n:Nat}{k:Int}{j:Nat}(h:ixN n k=some j):j<n:=by
 unfold ixN at h;split at h
 .split at h
  .cases h;omega
  .cases h
 .split at h
  .cases h;omega
  .cases h
theorem vy{ks:List Key}{k:Key}{j:Nat}(h:fB ks k=some j):j<ks.length:=(ZG.mp h).1
theorem Cp:∀{kvs:List (Key×V)}{k:Key}{j:Nat}{v:V},fB (kvs.map (·.1)) k=some j->(kvs.map (·.1)).Nodup->(putK kvs k v).map (·.1)=kvs.map (·.1)/\(putK kvs k v).map (·.2)=(kvs.map (·.2)).set j v:=by
 intro kvs k j v h n;have F:=ZG.mp h;obtain⟨Y,I,_⟩:=F;have Z:j<kvs.length:=by simpa using Y
 have B:kvs[j].1=k:=by simpa using I
 have N:(kvs.any λU=>decide (U.1=k))=true:=ac1.mpr ⟨kvs[j],abN _,by simpa using B⟩;unfold putK;rw[YZ N];constructor
 .rw[YW]
  apply ZD;intro p _;simp![acW];split<;>rfl
 .apply afI
  intro i;rw[YW,List.getElem?_map];by_cases D:j=i
  .subst D
   rw[acM (by simpa using Z)];simp[Z,B]
  .rw[List.getElem?_set_ne D,List.getElem?_map]
   cases e:kvs[i]? with
   |none=>rfl
   |some p=>
    have J:i<kvs.length:=(List.getElem?_eq_some_iff.mp e).1;have O:kvs[i]=p:=(List.getElem?_eq_some_iff.mp e).2;have q:p.1≠k:=λz=>by
     have e1:(kvs.map (·.1))[i]? =(kvs.map (·.1))[j]?:=by
      rw[List.getElem?_map,List.getElem?_map,e,YT Z];simp[z,B]
     exact D ((abB (by simpa using J) n).mp e1).symm
    simp[q]
theorem oF{kvs:List (Key×V)}{k:Key}{v:V}(h:fB (kvs.map (·.1)) k=none):putK kvs k v=kvs++[(k,v)]:=by
 unfold putK;rw[Zi];intro z;obtain⟨p,N,e⟩:=ac1.mp z;have:=aaH.mp h p.1 (Y_.mpr ⟨p,N,rfl⟩);simp at this e;exact this e
theorem vN{ks:List Key}{k:Key}(h:fB ks k=none):k∉ks:=λz=>by
 have:=aaH.mp h k z;simp at this
theorem G4{G:Gc}:MuV G (λo xs H Q=>∃i v,xs=[i,v]/\SM o i v H λH'=>Q .non H') fX:=λd es d' res h v xs H W M N r re nd hM Z c1 c2 Q q=>by
 unfold fX at h;split at h
 .rename_i ds k e
  cases hj:ixN ds.length k with
  |none=>simp[hj]at h
  |some j=>
   obtain⟨rfl,rfl⟩:D.lst .own (ds.set j e)=d'/\D.non=res:=by simpa[hj]using h
   rw[Rep]at r;obtain⟨a,ys,M0,rfl,O,Y,rfl⟩:=r;obtain⟨x1,zs,N1,N2,rfl,rfl,a3,hz⟩:=re.inv;obtain⟨x,zs,N3,N4,rfl,rfl,F,hz⟩:=hz.inv;obtain⟨rfl,rfl⟩:=hz.inv0;rw[Rep]at a3;obtain⟨rfl,rfl⟩:=a3;rw[List.append_nil,List.nil_append]at nd re;obtain⟨k1,k2⟩:=mF Z;have a1:=YX.mp nd;have hn:=Zg.mp a1.1;have a2:a∉N3:=λz=>a1.2.2 a (by simp) a z rfl;simp![au,aA,Zw]at c1 c2;have a6:=U_ hj;obtain⟨A,M1,B,a8,a5⟩:=O.set (YT a6) F;have a0:aav (A++B) M0:=by rw[a8];exact(abe A).append (aat M1 B)
   refine⟨_,_,rfl,.inl ⟨a,ys,k,j,rfl,rfl,Y,by rw[←O.length];exact hj,q .non _ (a::(A++(N3++B))) [] (λb u U n=>by rw[aM (show b≠a from λz=>n (by rw[z];simp))];exact U) (λW' ev=>⟨?_,km⟩) ?_ (λb U=>?_) (sW (jC k1 c1.2.1) (jr k2 c2.2.1)) rfl⟩⟩
   .rw[Rep]
    refine⟨a,_,A++(N3++B),rfl,?_,aY,rfl⟩;refine a5.mono ev (.inl (jC k1 c1.2.1)) (.inl (jr k2 c2.2.1)) λc Z u J=>?_;rw[aM (show c≠a from λz=>?_)]
    .exact J
    .subst z
     simp![YC]at Z;rcases Z with y|y|y
     .exact hn.1 (a0.subset (by simp[y]))
     .exact a2 y
     .exact hn.1 (a0.subset (by simp[y]))
   .rw[List.append_nil]
    have n2:=a0.nodup hn.2;have n3:=YX.mp n2;have a4:∀z∈N3,z∉A++B:=λz h1 h2=>a1.2.2 z (Zf _ (a0.subset h2)) z h1 rfl;refine Zg.mpr ⟨λy=>?_,dN n3.1 (dN a1.2.1 n3.2.1 λz h1 h2=>a4 z h1 (by simp[h2])) λz h1 h2=>?_⟩
    .simp![YC]at y
     rcases y with y|y|y
     .exact hn.1 (a0.subset (by simp[y]))
     .exact a2 y
     .exact hn.1 (a0.subset (by simp[y]))
    .rcases YC.mp h2 with y|y
     .exact a4 z y (by simp[h1])
     .exact n3.2.2 z h1 z y rfl
   .rw[List.append_nil]at U
    rcases YJ.mp U with z|z
    .exact .inl (by simp[z])
    .simp![YC]at z
     rcases z with z|z|z
     .exact .inl (Zf _ (a0.subset (by simp[z])))
     .exact .inr (.inl (by simp[z]))
     .exact .inl (Zf _ (a0.subset (by simp[z])))
 .rename_i ks ds k0 e
  cases I:du k0 with
  |none=>simp[I]at h
  |some k=>
   rw[I]at h;simp![YF]at h;split at h
   .rename_i hl
    cases h;rw[Rep]at r;obtain⟨a,kvs,M0,rfl,⟨rfl,a7⟩,O,Y,rfl⟩:=r;obtain⟨x1,zs,N1,N2,rfl,rfl,a3,hz⟩:=re.inv;obtain⟨x,zs,N3,N4,rfl,rfl,F,hz⟩:=hz.inv;obtain⟨rfl,rfl⟩:=hz.inv0;have a9:=jV a3 I;subst a9;have b0:N1=[]:=by
     cases k0<;>simp[du]at I<;>rw[Rep]at a3<;>exact a3.2
    subst b0;rw[List.append_nil,List.nil_append]at nd re;have k1:au ds=true/\aA ds=true:=by simp[clean,aD,aB]at Z;exact Z
    have a1:=YX.mp nd;have hn:=Zg.mp a1.1;have a2:a∉N3:=λz=>a1.2.2 a (by simp) a z rfl;simp![au,aA,Zw]at c1 c2;have b1:kvs.length<YM:=J8 (by simpa using hl);refine⟨_,_,rfl,.inr ⟨a,_,rfl,HN.k (k:=k) Y b1,?_⟩⟩;cases hj:fB (kvs.map (·.1)) k with
    |some j=>
     have a6:j<ds.length:=by rw[O.length];simpa using vy hj
     obtain⟨A,M1,B,a8,a5⟩:=O.set (YT a6) F;obtain⟨p1,p2⟩:=Cp (v:=x) hj a7;have a0:aav (A++B) M0:=by rw[a8];exact(abe A).append (aat M1 B)
     refine q .non _ (a::(A++(N3++B))) [] (λb u U n=>by rw[aM (show b≠a from λz=>n (by rw[z];simp))];exact U) (λW' ev=>⟨?_,km⟩) ?_ (λb U=>?_) ?_ rfl
     .simp![gH,hj]
      rw[Rep];refine⟨a,_,A++(N3++B),rfl,⟨p1,a7⟩,?_,aY,rfl⟩;rw[p2];refine a5.mono ev (.inl (jC k1.1 c1.2.1)) (.inl (jr k1.2 c2.2.1)) λc Z u J=>?_;rw[aM (show c≠a from λz=>?_)]
      .exact J
      .subst z
       simp![YC]at Z;rcases Z with y|y|y
       .exact hn.1 (a0.subset (by simp[y]))
       .exact a2 y
       .exact hn.1 (a0.subset (by simp[y]))
     .rw[List.append_nil]
      have n2:=a0.nodup hn.2;have n3:=YX.mp n2;have a4:∀z∈N3,z∉A++B:=λz h1 h2=>a1.2.2 z (Zf _ (a0.subset h2)) z h1 rfl;refine Zg.mpr ⟨λy=>?_,dN n3.1 (dN a1.2.1 n3.2.1 λz h1 h2=>a4 z h1 (by simp[h2])) λz h1 h2=>?_⟩
      .simp![YC]at y
       rcases y with y|y|y
       .exact hn.1 (a0.subset (by simp[y]))
       .exact a2 y
       .exact hn.1 (a0.subset (by simp[y]))
      .rcases YC.mp h2 with y|y
       .exact a4 z y (by simp[h1])
       .exact n3.2.2 z h1 z y rfl
     .rw[List.append_nil]at U
      rcases YJ.mp U with z|z
      .exact .inl (by simp[z])
      .simp![YC]at z
       rcases z with z|z|z
       .exact .inl (Zf _ (a0.subset (by simp[z])))
       .exact .inr (.inl (by simp[z]))
       .exact .inl (Zf _ (a0.subset (by simp[z])))
     .simp[gH,hj,clean,aD,aB,jC k1.1 c1.2.1,jr k1.2 c2.2.1]
    |none=>
     rw[oF hj];refine q .non _ (a::(M0++N3)) [] (λb u U n=>by rw[aM (show b≠a from λz=>n (by rw[z];simp))];exact U) (λW' ev=>⟨?_,km⟩) ?_ (λb U=>?_) ?_ rfl
     .simp![gH,hj]
      rw[Rep];refine⟨a,_,M0++N3,rfl,⟨by simp,?_⟩,?_,aY,rfl⟩
      .exact YX.mpr ⟨a7,by simp,λy V z hz=>by
        have:z=k:=by simpa using hz
        subst this;exact λe=>vN hj (e▸V)⟩
      .rw[Zq]
       refine(O.mono ev (.inl k1.1) (.inl k1.2) λc Z u J=>?_).append (.one (F.mono ev (.inl c1.2.1) (.inl c2.2.1) λc Z u J=>?_))
       .rw[aM (show c≠a from λz=>hn.1 (z▸Z))];exact J
       .rw[aM (show c≠a from λz=>a2 (z▸Z))];exact J
     .rw[List.append_nil];exact nd
     .rw[List.append_nil]at U
      rcases YJ.mp U with z|z
      .exact .inl (by simp[z])
      .rcases YC.mp z with z|z
       .exact .inl (by simp[z])
       .exact .inr (.inl (by simp[z]))
     .simp[gH,hj,clean,aD,aB,bV,bY,au,aA,k1,c1,c2]
   .cases h
 .cases h
theorem pR(J:∀c,(X c).A.units+1<cLine):MuT X G fX:=⟨_,λc=>QL (J c),G4⟩
end
noncomputable abbrev InX(X:ι->Cx)(N':List Str)(scope:Scope):ι×(Addr×zb×Hp×List Addr)->Cx:=λp=>bL (X p.1) N' scope p.2.1 p.2.2.1 p.2.2.2.1 p.2.2.2.2
def gP(cap:List (Option Nat))(ρ:En):En:=cap.map λo=>o.bind λj=>(ρ[j]?).bind id
def obC(cap:List (Option Nat))(ob:Nat->Bool):Nat->Bool:=λi=>match cap[i]? with
 |some (some j)=>ob j
 |_=>false
variable{x:α}{l:List (Option α)}
theorem rW{α:Type}{cap:List (Option Nat)}{l:List (Option α)}{x:α}(h:(cap.map λo=>o.bind λj=>(l[j]?).bind id)[i]? =some (some x)):∃j,cap[i]? =some (some j)/\l[j]? =some (some x):=by
 rw[List.getElem?_map]at h;cases e:cap[i]? with
 |none=>rw[e]at h;cases h
 |some o=>
  rw[e]at h;cases o with
  |none=>simp at h
  |some j=>
   refine⟨j,rfl,?_⟩;have h:(l[j]?).bind id=some x:=by simpa using h
   cases e2:l[j]? with
   |none=>rw[e2]at h;cases h
   |some o=>rw[e2]at h;simpa using h
theorem zL{α:Type}{cap:List (Option Nat)}{l:List (Option α)}{x:α}(h:cap[i]? =some (some j))(h2:l[j]? =some (some x)):(cap.map λo=>o.bind λj=>(l[j]?).bind id)[i]? =some (some x):=by
 rw[List.getElem?_map,h];simp[h2]
theorem Rel.cap{cap:List (Option Nat)}(r:Rel G H W ob ρ σ):Rel G H W (obC cap ob) (gP cap ρ) (gM cap σ):=λi d e=>by
 obtain⟨j,h1,h2⟩:=rW e;obtain⟨v,L,q1,q2,q⟩:=r j d h2;refine⟨v,L,zL h1 q1,q2,λz=>q ?_⟩;unfold obC at z;rw[h1]at z;exact z
def Ii(G:Gc)(ob own:Nat->Bool)(g:TG)(f:D->En->Option En):Prop:=∀(d:D)(ρ I:En),f d ρ=some I->∀(x:V)(σ:L2.St)(H:Hp)(W:Wn),Rep G H W d x []->Rel G H W ob ρ σ->σ.length=ρ.length->∀Q:L2.St->Hp->Prop,
 (∀B,Rel G H W ob I B->B.length=I.length->(∀j,own j=false->B[j]? =σ[j]?)->Q B H)->g x σ H Q
def Dj(G:Gc)(ob own:Nat->Bool)(g:TGs)(f:List D->En->Option En):Prop:=∀(ds:List D)(ρ I:En),f ds ρ=some I->∀(xs:List V)(σ:L2.St)(H:Hp)(W:Wn),aH G H W ds xs []->Rel G H W ob ρ σ->σ.length=ρ.length->∀Q:L2.St->Hp->Prop,
 (∀B,Rel G H W ob I B->B.length=I.length->(∀j,own j=false->B[j]? =σ[j]?)->Q B H)->g xs σ H Q
structure Iz{ι:Type}(X:ι->Cx)(G:Gc)(ob own:Nat->Bool)(tg:Expr)(f:D->En->Option En):Prop where
 mk::(ex:∃t,(∀c,PG (X c) tg t)/\Ii G ob own t f)
structure Hr{ι:Type}(X:ι->Cx)(G:Gc)(ob own:Nat->Bool)(tg:List Expr)(f:List D->En->Option En):Prop where
 mk::(ex:∃t,(∀c,PGs (X c) tg t)/\Dj G ob own t f)
def tpN(i:Nat):D->En->Option En:=λd ρ=>some (ρ.set i (some d))
def tpT(n:Nat)(g:List D->En->Option En):D->En->Option En:=λd ρ=>match d with
 |.tup ds=>if ds.length=n then g ds ρ else none
 |_=>none
theorem Hw{own:Nat->Bool}(J:own i=true):Ii G ob own (yD i) (tpN i):=λd ρ I e x σ H W r V Y Q q=>by
 cases e;refine q _ (λj d' F=>?_) (by simp[Y]) λj F=>?_
 .by_cases e:i=j
  .subst e
   rw[acL]at F;split at F
   .split at F
    .rename_i h2
     have:d=d':=by simpa using F
     subst this;exact⟨x,[],by simp[Y,h2],r,λ_ c Z=>by cases Z⟩
    .cases F
   .exact absurd rfl ‹_›
  .rw[List.getElem?_set_ne e]at F
   obtain⟨v,L,h1,h2,B⟩:=V j d' F;exact⟨v,L,by rw[List.getElem?_set_ne e];exact h1,h2,B⟩
 .have:i≠j:=λz=>by rw[←z,J]at F;cases F
  rw[List.getElem?_set_ne this]
theorem HD{own:Nat->Bool}:Dj G ob own Ox b_:=λds ρ I e xs σ H W r V Y Q q=>by
 cases ds with
 |nil=>
  cases e;obtain⟨rfl,_⟩:=r.inv0;exact⟨rfl,q σ V Y λ_ _=>rfl⟩
 |cons d r=>cases e
variable{g:List D->En->Option En}
theorem Ff{own:Nat->Bool}{t:TG}{u:TGs}{f:D->En->Option En}(h1:Ii G ob own t f)(h2:Dj G ob own u g):Dj G ob own (Kh t u) (aN f g):=λds ρ I e xs σ H W r V Y Q q=>by
 cases ds with
 |nil=>cases e
 |cons d ds=>
  obtain⟨x,ys,M1,N,rfl,hL,F,O⟩:=r.inv;obtain⟨rfl,rfl⟩:M1=[]/\N=[]:=by simpa using hL.symm
  simp![aN]at e;cases B:f d ρ with
  |none=>rw[B]at e;cases e
  |some ρ1=>
   have e:g ds ρ1=some I:=by simpa[B]using e
   exact⟨x,ys,rfl,h1 d ρ ρ1 B x σ H W F V Y _ λJ U a0 k1=>h2 ds ρ1 I e ys J H W O U a0 Q λσ2 a1 Z k2=>q σ2 a1 Z λj hj=>(k2 j hj).trans (k1 j hj)⟩
theorem N6{own:Nat->Bool}{t:TGs}(h:Dj G ob own t g):Ii G ob own (Uu G.K n t) (tpT n g):=λd ρ I e x σ H W r V Y Q q=>by
 cases d with
 |tup ds=>
  simp![tpT]at e;split at e
  .rename_i hn
   rw[Rep]at r;obtain⟨a,xs,rfl,U,O⟩:=r;exact⟨a,xs,rfl,SqT.of U,by rw[←O.length];exact hn,h ds ρ I e xs σ H W O V Y Q q⟩
  .cases e
 |_=>cases e
section
variable{ι:Type}{X:ι->Cx}{G:Gc}{ob own:Nat->Bool}
theorem dO(i:Nat){x:Str}{pos:Pos}(V:∀c,(X c).N.Nodup)(J:own i=true:=by rfl)(hi:∀c,(X c).N[i]? =some x:=by intro _;rfl)(F:∀c,Loc (X c).env.scope x:=by intro _;first|exact aa_ rfl|exact aax rfl)(O:∀c,(X c).fn x=true∨(X c).env.scope.names.lookup x=some .local:=by intro _;first|exact .inl rfl|exact .inr rfl):Iz X G ob own (.Name x pos) (tpN i):=⟨_,λc=>zW (V c) (hi c) (F c) (O c),Hw J⟩
theorem ug:Hr X G ob own [] b_:=⟨_,λc=>Ho,HD⟩
theorem jG{e:Expr}{es:List Expr}{f:D->En->Option En}{g:List D->En->Option En}(h1:Iz X G ob own e f)(h2:Hr X G ob own es g)(B:∀c,(aam (e::es) (X c).env).map (·.2)=acn e (X c).env::(aam es (X c).env).map (·.2):=by intro _;rfl):Hr X G ob own (e::es) (aN f g):=
 let⟨t,a1,a2⟩:=h1.ex;let⟨u,b1,b2⟩:=h2.ex;⟨_,λc=>Ba (a1 c) (b1 c) (B c),Ff a2 b2⟩
theorem wg{es:List Expr}{k n:Nat}{pos:Pos}{g:List D->En->Option En}(Z:∀c,(X c).calm=true)(h:Hr X G ob own es g)(hn:∀c,(aam es (X c).env).length=n:=by intro _;rfl)(V:∀c,(aam es (X c).env).findIdx? (·.1)=none:=by intro _;rfl)(F:∀c,(X c).K=G.K:=by intro _;rfl):Iz X G ob own (.Tuple es k pos) (tpT n g):=
 let⟨t,a1,a2⟩:=h.ex;⟨_,λc=>(by rw[←F c];exact J4 (Z c) (a1 c) (hn c) (V c)),N6 a2⟩
structure HX{ι:Type}(X:ι->Cx)(G:Gc)(ob:Nat->Bool)(ifs:List Expr)(f:En->Option Bool):Prop where
 mk::(ex:∃t,(∀c,PTs (X c) ifs t)/\RfT G ob t f)
def eTT:En->Option Bool:=λ_=>some true
theorem jk:HX X G ob [] eTT:=⟨_,λc=>O3,λρ b e σ H W V w Q q=>by cases e;exact q H (Same.refl H)⟩
theorem Bx{c:Expr}{f:En->Option Bool}(h:PVT X G ob c f):HX X G ob [c] f:=let⟨t,a1,a2⟩:=h.ex;⟨t,λc=>Qv (a1 c),a2⟩
def gQ(tg:D->En->Option En)(c:En->Option Bool)(e:En->Option D)(ρ0:En):List D->Option (List D)
 |[]=>some []
 |d::r=>(tg d ρ0).bind λρ1=>(c ρ1).bind λb=>if b=true then(e ρ1).bind λx=>(gQ tg c e ρ0 r).map λt=>x::t else gQ tg c e ρ0 r
def gG(cap:List (Option Nat))(it:En->Option (Bool×List D))(tg:D->En->Option En)(c:En->Option Bool)(e:En->Option D):En->Option D:=λρ=>(it ρ).bind λp=>if p.2.length<=1000000 then(gQ tg c e (gP cap ρ) p.2).map λys=>.lst .own ys else none
theorem six{n:Nat}(h:n<=1000000):n<YM:=Nat.lt_of_le_of_lt h (by decide)
theorem DR{cap:List (Option Nat)}{σ B:L2.St}(Z:∀i:Nat,own i=true->cap[i]?≠none->cap[i]? =some none)(h:∀j,own j=false->B[j]? =(gM cap σ)[j]?):Kp (gM cap σ) B:=λi v e=>by
 cases J:own i with
 |false=>rw[h i J];exact e
 |true=>
  obtain⟨j,h1,_⟩:=rW e;rw[Z i J (by rw[h1];simp)]at h1;cases h1
theorem Rw{cap:List (Option Nat)}{wi:TI}{g:TG}{tt:TT}{te:TE}{it:En->Option (Bool×List D)}{tg:D->En->Option En}{c:En->Option Bool}{e:En->Option D}(a8:∀i:Nat,own i=true->cap[i]?≠none->cap[i]? =some none)(hi:RfI G ob wi it)(hg:Ii G (obC cap ob) own g tg)(ht:RfT G (obC cap ob) tt c)(V:RfE G (obC cap ob) te e):RfE G ob (N8 cap wi g tt te) (gG cap it tg c e):=λρ d ee σ H W rl w Q q=>by
 unfold gG at ee;cases h1:it ρ with
 |none=>simp[h1]at ee
 |some p=>
  obtain⟨b,items⟩:=p;rw[h1]at ee;simp![YF]at ee;split at ee
  .rename_i hlen
   cases h2:gQ tg c e (gP cap ρ) items with
   |none=>simp[h2]at ee
   |some a3=>
    obtain rfl:D.lst .own a3=d:=by simpa[h2]using ee
    refine hi ρ b items h1 σ H W rl w _ λJ H1 O wk=>?_;refine⟨λi m ys H2=>i+m=items.length/\ys.length<=i/\∃acc L rest,Same H1 H2/\aH G H2 (W.add L) acc ys L/\(∀a∈L,H1 a=none)/\L.Nodup/\WOk H2 (W.add L)/\gQ tg c e (gP cap ρ) (items.drop i)=some rest/\acc++rest=a3,⟨items.length,by omega,by simp,[],[],a3,Same.refl _,.nil,by simp,Zz,?_,h2,rfl⟩,?_⟩
    .rw[t_];exact w.up O
    rintro i m ys H2 ⟨b3,b2,acc,L,rest,Z,ra,fa,na,wa,F,I⟩;have a1:Up H1 H2 W (W.add L):=Up.add Z fa
    .by_cases hil:i<items.length
     .have hdr:=(abj hil).symm
      rw[hdr,gQ]at F;refine .inr ⟨wk.go i items[i] (by simp[hil]) H2 _ (LtB.up a1),by have:=six hlen;omega,λa4 H'=>(i+1)+(m-1)=items.length/\a4.length<=i+1/\∃acc L rest,Same H1 H'/\aH G H' (W.add L) acc a4 L/\(∀a∈L,H1 a=none)/\L.Nodup/\WOk H' (W.add L)/\gQ tg c e (gP cap ρ) (items.drop (i+1))=some rest/\acc++rest=a3,λa4 H' h=>⟨m-1,by omega,h⟩,λx H3 hy=>?_⟩;obtain⟨s3,rx⟩:=wk.yld i items[i] (by simp[hil]) H2 _ (LtB.up a1) x H3 hy;cases B:tg items[i] (gP cap ρ)with
      |none=>simp[B]at F
      |some ρ1=>
       rw[B]at F;simp![YF]at F;have b0:Rel G H3 (W.add L) (obC cap ob) (gP cap ρ) (gM cap σ):=(rl.cap).up ((Up.same O).trans (a1.trans (Up.same s3)));have a2:=ra.up (Up.same s3 (W:=W.add L));have a5:WOk H3 (W.add L):=wa.up s3;refine hg items[i] _ ρ1 B x _ H3 (W.add L) rx b0 (by simp[gP,gM]) _ λσ2 a6 b4 k4=>⟨DR a8 k4,?_⟩;cases h4:c ρ1 with
       |none=>simp[h4]at F
       |some bb=>
        rw[h4]at F;simp![YF]at F;refine ht ρ1 bb h4 σ2 H3 (W.add L) a6 a5 _ λH4 s4=>?_;have b1:=a6.up (Up.same s4);have a7:=a5.up s4;cases bb with
        |false=>
         simp![ZF,aaz]at F;exact xr ⟨by omega,by omega,acc,L,rest,((Z.trans s3).trans s4),a2.up (Up.same s4),fa,na,a7,F,I⟩
        |true=>
         simp![Zy]at F;cases h5:e ρ1 with
         |none=>simp[h5]at F
         |some y=>
          cases h6:gQ tg c e (gP cap ρ) (items.drop (i+1))with
          |none=>simp[h5,h6]at F
          |some a0=>
           obtain rfl:y::a0=rest:=by simpa[h5,h6]using F
           refine t6 (V ρ1 y h5 σ2 H4 (W.add L) b1 a7 _ λv H5 M s5 ry fy ny=>?_);have fM:∀a∈M,H1 a=none:=λa Y=>(((Z.trans s3).trans s4)).none' (fy a Y);have a9:∀a∈L,a∉M:=λa h1 h2=>by
            obtain⟨o,ho,_⟩:=(a2.up (Up.same s4 (W:=W.add L))).dom a h1;rw[fy a h2]at ho;cases ho
           have u5:Up H4 H5 (W.add L) (W.add (L++M)):=⟨s5,λb u U f=>⟨λz=>z.elim (λz=>(YC.mp z).elim (λz=>f.1 (.inl z)) λz=>by rw[fy b z]at U;cases U) λz=>f.1 (.inr z),f.2⟩,λ_ _ _ f=>f⟩;have u6:Up H5 H5 ((W.add L).add M) (W.add (L++M)):=⟨Same.refl _,λb u U f=>⟨λz=>by
            rcases z with z|z
            .exact(YC.mp z).elim (λz=>f.1 (.inr (.inl z))) λz=>f.1 (.inl z)
            .exact f.1 (.inr (.inr z)),f.2⟩,λ_ _ _ f=>f⟩
           refine⟨by omega,by simp;omega,acc++[y],L++M,a0,((Z.trans s3).trans s4).trans s5,((a2.up (Up.same s4)).up u5).append (.one (ry.up u6)),λa Y=>(YC.mp Y).elim (fa a) (fM a),dN na ny a9,?_,rfl,by rw[←I];simp⟩;exact w.add (((O.trans Z).trans s3).trans s4 |>.trans s5) λa Y=>(YC.mp Y).elim (λz=>let⟨o,h,m⟩:=(a2.up (Up.same s4 (W:=W.add L))).dom a z;⟨o,s5 a o h,m⟩) (ry.dom a)
     .have hl:i=items.length:=by omega
      subst hl;rw[aa1,gQ]at F;cases F;refine .inl ⟨wk.stop H2 _ (LtB.up a1),abJ (six 1.11),λp N=>?_⟩;have sm:Same H2 (upd H2 p (.lst ys)):=Same.new N;rw[List.append_nil]at I;subst I;refine q (.ref p) _ (p::L) ((O.trans Z).trans sm) ?_ (λa Y=>(YJ.mp Y).elim (λz=>by rw[z];exact(O.trans Z).none' N) λz=>O.none' (fa a z)) (Zg.mpr ⟨λz=>?_,na⟩)
      .rw[Rep]
       exact⟨p,ys,L,rfl,ra.up ⟨sm,λb u U f=>⟨λz=>z.elim (λz=>(YJ.mp z).elim (λz=>by rw[z,N]at U;cases U) λz=>f.1 (.inl z)) λz=>f.1 (.inr z),f.2⟩,λ_ _ _ f=>f⟩,aY,rfl⟩
      .obtain⟨o,ho,_⟩:=ra.dom p z
       rw[N]at ho;cases ho
  .cases ee
end
def qH(cap:List (Option Nat)):Prop:=∀(i k j:Nat),cap[i]? =some (some j)->cap[k]? =some (some j)->i=k
def m7(cap:List (Option Nat))(S:Ad):Ad:=λi=>match cap[i]? with
 |some (some j)=>S j
 |_=>[]
def tQ(cap:List (Option Nat))(S:Ad)(Fr:Addr->Prop):Addr->Prop:=λa=>Fr a∨∃j:Nat,(∀i:Nat,cap[i]?≠some (some j))/\a∈S j
theorem jP{cap:List (Option Nat)}(h:a∈m7 cap S i):∃j,cap[i]? =some (some j)/\a∈S j:=by
 unfold m7 at h;split at h
 .rename_i j e;exact⟨j,e,h⟩
 .cases h
theorem zK{cap:List (Option Nat)}(h:cap[i]? =some (some j)):m7 cap S i=S j:=by unfold m7;rw[h]
theorem Et{cap:List (Option Nat)}(h:cap[i]? =some (some j)):obC cap ob i=ob j:=by unfold obC;rw[h]
section
variable{G:Gc}{ob own:Nat->Bool}{cap:List (Option Nat)}
theorem zf{S:Ad}{Fr:Addr->Prop}{a:Addr}:(wn ob S Fr).free a↔(wn (obC cap ob) (m7 cap S) (tQ cap S Fr)).free a:=by
 constructor
 .intro f
  have q:∀j,a∉S j:=λj z=>by
   cases J:ob j with
   |false=>exact f.2.1 ⟨j,J,z⟩
   |true=>exact f.2.2 ⟨j,J,z⟩
  refine⟨λz=>z.elim f.1 λ⟨j,_,z⟩=>q j z,λ⟨i,_,z⟩=>?_,λ⟨i,_,z⟩=>?_⟩
  .obtain⟨j,_,z⟩:=jP z;exact q j z
  .obtain⟨j,_,z⟩:=jP z;exact q j z
 .intro f
  have q:∀j,a∉S j:=λj z=>by
   by_cases Z:∃i:Nat,cap[i]? =some (some j)
   .obtain⟨i,hi⟩:=Z
    have D:a∈m7 cap S i:=by rw[zK hi];exact z
    cases J:obC cap ob i with
    |false=>exact f.2.1 ⟨i,J,D⟩
    |true=>exact f.2.2 ⟨i,J,D⟩
   .exact f.1 (.inr ⟨j,λi hi=>Z ⟨i,hi⟩,z⟩)
  exact⟨λz=>f.1 (.inl z),λ⟨j,_,z⟩=>q j z,λ⟨j,_,z⟩=>q j z⟩
theorem Tz{H:Hp}{S:Ad}{Fr:Addr->Prop}{d:D}{v:V}{L:List Addr}(Z:clean d=true):Rep G H (wn ob S Fr) d v L↔Rep G H (wn (obC cap ob) (m7 cap S) (tQ cap S Fr)) d v L:=by
 have q:=(by simpa[clean]using Z:aD d=true/\aB d=true);constructor
 .intro r
  have I:Evo H H (wn ob S Fr) (wn (obC cap ob) (m7 cap S) (tQ cap S Fr)):=⟨λb u U f=>⟨U,zf.mp f⟩,λ_ _ h=>h⟩;exact r.mono I (.inl q.1) (.inl q.2) λ_ _ _ h=>h
 .intro r
  have I:Evo H H (wn (obC cap ob) (m7 cap S) (tQ cap S Fr)) (wn ob S Fr):=⟨λb u U f=>⟨U,zf.mpr f⟩,λ_ _ h=>h⟩;exact r.mono I (.inl q.1) (.inl q.2) λ_ _ _ h=>h
theorem Sta.inn{H:Hp}{ρ:En}{σ:L2.St}{S:Ad}{Fr:Addr->Prop}(F:qH cap)(s:Sta G H ob ρ σ S Fr):Sta G H (obC cap ob) (gP cap ρ) (gM cap σ) (m7 cap S) (tQ cap S Fr)where
 len:=by simp[gP,gM]
 sl:=λi d e=>by
  obtain⟨j,h1,h2⟩:=rW e;obtain⟨v,q1,q2,q⟩:=s.sl j d h2;exact⟨v,zL h1 q1,by rw[zK h1];exact(Tz q).mp q2,q⟩
 em:=λi h=>by
  unfold m7;split
  .rename_i j e
   exact s.em j λd hd=>h d (zL e hd)
  .rfl
 nd:=λi=>by
  unfold m7;split
  .exact s.nd _
  .exact Zz
 dj:=λi k a h1 h2=>by
  obtain⟨D,e1,Z⟩:=jP h1;obtain⟨B,e2,J⟩:=jP h2;have:=s.dj D B a Z J;subst this;exact F i k D e1 e2
 fdj:=λi a h z=>by
  obtain⟨j,e,z⟩:=jP z;rcases h with h|⟨k,I,h⟩
  .exact s.fdj j a h z
  .have:=s.dj j k a z h
   subst this;exact I i e
 fdm:=λa h=>by
  rcases h with h|⟨k,_,h⟩
  .exact s.fdm a h
  .exact s.mu h
def eY:List (Option Nat)->En->En->En
 |some j::cs,d::ds,ρ=>eY cs ds (ρ.set j d)
 |none::cs,_::ds,ρ=>eY cs ds ρ
 |_,_,ρ=>ρ
theorem pI:∀(cap:List (Option Nat))(ds ρ:En),(eY cap ds ρ).length=ρ.length
 |[],ds,ρ=>by cases ds<;>rfl
 |some j::cs,[],ρ=>rfl
 |none::cs,[],ρ=>rfl
 |some j::cs,d::ds,ρ=>by rw[eY,pI cs ds];simp
 |none::cs,d::ds,ρ=>by rw[eY,pI cs ds]
theorem oV:∀{cap:List (Option Nat)}{ds ρ:En}{j:Nat},(∀i:Nat,cap[i]?≠some (some j))->(eY cap ds ρ)[j]? =ρ[j]?
 |[],ds,ρ,j,_=>by cases ds<;>rfl
 |some k::cs,[],ρ,j,_=>rfl
 |none::cs,[],ρ,j,_=>rfl
 |some k::cs,d::ds,ρ,j,h=>by
  rw[eY,oV λi e=>h (i+1) (by simpa using e),List.getElem?_set_ne λz=>h 0 (by simp[z])]
 |none::cs,d::ds,ρ,j,h=>by rw[eY,oV λi e=>h (i+1) (by simpa using e)]
theorem q_:∀{cap:List (Option Nat)}{ds ρ:En}{i j:Nat}{x:Option D},qH cap->cap[i]? =some (some j)->ds[i]? =some x->j<ρ.length->(eY cap ds ρ)[j]? =some x
 |[],ds,ρ,i,j,x,_,h,_,_=>by simp at h
 |some k::cs,[],ρ,i,j,x,_,_,h,_=>by simp at h
 |none::cs,[],ρ,i,j,x,_,_,h,_=>by simp at h
 |some k::cs,d::ds,ρ,i,j,x,hj,h1,h2,hl=>by
  rw[eY];cases i with
  |zero=>
   have e1:k=j:=by simpa using h1
   have e2:d=x:=by simpa using h2
   subst e1 e2;rw[oV λi e=>?_]
   .simp[hl]
   .have:=hj 0 (i+1) k (by simp) (by simpa using e)
    omega
  |succ i=>exact q_ (λa b c h1 h2=>by have:=hj (a+1) (b+1) c (by simpa using h1) (by simpa using h2);omega) (by simpa using h1) (by simpa using h2) (by simpa using hl)
 |none::cs,d::ds,ρ,i,j,x,hj,h1,h2,hl=>by
  rw[eY];cases i with
  |zero=>simp at h1
  |succ i=>exact q_ (λa b c h1 h2=>by have:=hj (a+1) (b+1) c (by simpa using h1) (by simpa using h2);omega) (by simpa using h1) (by simpa using h2) hl
def u9(cap:List (Option Nat))(N S:Ad):Ad:=λj=>match cap.findIdx? (λo=>o==some j)with
 |some i=>N i
 |none=>S j
theorem jh{N S:Ad}{i j:Nat}(F:qH cap)(h:cap[i]? =some (some j)):u9 cap N S j=N i:=by
 unfold u9;split
 .rename_i k e
  obtain⟨h1,h2,_⟩:=ZG.mp e;have:cap[k]=some j:=by simpa using h2
  rw[F i k j h (by rw[YT h1,this])]
 .rename_i e
  have:=aaH.mp e (some j) (Zv h);simp at this
theorem jl{N S:Ad}{j:Nat}(h:∀i:Nat,cap[i]?≠some (some j)):u9 cap N S j=S j:=by
 unfold u9;split
 .rename_i k e
  obtain⟨h1,h2,_⟩:=ZG.mp e;have:cap[k]=some j:=by simpa using h2
  exact absurd (by rw[YT h1,this]) (h k)
 .rfl
theorem g8(cap:List (Option Nat))(j:Nat):(∃i:Nat,cap[i]? =some (some j))∨(∀i:Nat,cap[i]?≠some (some j)):=by
 by_cases h:∃i:Nat,cap[i]? =some (some j)
 .exact .inl h
 .exact .inr λi z=>h ⟨i,z⟩
theorem Sta.out{H H':Hp}{ρ a3:En}{σ a5:L2.St}{S N:Ad}{Fr:Addr->Prop}{M:List Addr}(hj:qH cap)(s:Sta G H ob ρ σ S Fr)(J:∀i:Nat,cap[i]? =some none->True)(I:∀i j:Nat,cap[i]? =some (some j)->a5[i]? =(gM cap σ)[i]?)
  (si:Sta G H' (obC cap ob) a3 a5 N (plus M (tQ cap S Fr))) (ef:Eff (obC cap ob) H H' (m7 cap S) N M):Sta G H' ob (eY cap a3 ρ) σ (u9 cap N S) (plus M Fr)/\Eff ob H H' S (u9 cap N S) M/\
   (∀d v L,clean d=true->Rep G H' (wn (obC cap ob) N (plus M (tQ cap S Fr))) d v L->Rep G H' (wn ob (u9 cap N S) (plus M Fr)) d v L):=by
 have a0:∀{a},inO (obC cap ob) (m7 cap S) a->inO ob S a:=λ{a}⟨i,h1,h2⟩=>by
  obtain⟨j,e,z⟩:=jP h2;exact⟨j,by rw[←Et (ob:=ob) e];exact h1,z⟩
 have a7:Eff ob H H' S (u9 cap N S) M:=by
  refine⟨λb u U n=>ef.kp b u U λz=>n (a0 z),λj a2=>?_,λj a a2 z=>?_,λa Y=>(ef.fm a Y).imp a0 id⟩
  .rcases g8 cap j with⟨i,hi⟩|hn
   .rw[jh hj hi,ef.sn i (by rw[Et hi];exact a2),zK hi]
   .exact jl hn
  .rcases g8 cap j with⟨i,hi⟩|hn
   .rw[jh hj hi]at z
    exact(ef.gr i a (by rw[Et hi];exact a2) z).imp a0 id
   .rw[jl hn]at z;exact .inl ⟨j,a2,z⟩
 have a4:∀a,(wn (obC cap ob) N (plus M (tQ cap S Fr))).free a->(wn ob (u9 cap N S) (plus M Fr)).free a:=λa f=>by
  have nS:∀j,a∉u9 cap N S j:=λj z=>by
   rcases g8 cap j with⟨i,hi⟩|hn
   .rw[jh hj hi]at z
    cases a9:obC cap ob i with
    |false=>exact f.2.1 ⟨i,a9,z⟩
    |true=>exact f.2.2 ⟨i,a9,z⟩
   .rw[jl hn]at z
    exact f.1 (.inr (.inr ⟨j,hn,z⟩))
  exact⟨λz=>z.elim (λz=>f.1 (.inl z)) λz=>f.1 (.inr (.inl z)),λ⟨j,_,z⟩=>nS j z,λ⟨j,_,z⟩=>nS j z⟩
 have conv:∀d v L,clean d=true->Rep G H' (wn (obC cap ob) N (plus M (tQ cap S Fr))) d v L->Rep G H' (wn ob (u9 cap N S) (plus M Fr)) d v L:=λd v L Z r=>by
  have q:=(by simpa[clean]using Z:aD d=true/\aB d=true);have ev:Evo H' H' (wn (obC cap ob) N (plus M (tQ cap S Fr))) (wn ob (u9 cap N S) (plus M Fr)):=⟨λb u U f=>⟨U,a4 b f⟩,λ_ _ h=>h⟩;exact r.mono ev (.inl q.1) (.inl q.2) λ_ _ _ h=>h
 have D:∀{j a},(∀i:Nat,cap[i]?≠some (some j))->a∈S j->∀i,a∉N i:=λ{j a} hn z i y=>si.fdj i a (.inr (.inr ⟨j,hn,z⟩)) y;refine⟨⟨by rw[pI];exact s.len,λj d hd=>?_,λj hd=>?_,λj=>?_,λj k a h1 h2=>?_,λj a h z=>?_,λa h=>?_⟩,a7,conv⟩
 .rcases g8 cap j with⟨i,hi⟩|hn
  .have O:j<ρ.length:=by
    have:=(List.getElem?_eq_some_iff.mp hd).1;rwa[pI]at this
   cases F:a3[i]? with
   |none=>
    have h1:a3.length<=i:=aa5.mp F;have h2:a5.length<=i:=by rw[←si.len];exact h1
    have B:=I i j hi;rw[aa5.mpr h2]at B;have h4:(gM cap σ).length<=i:=aa5.mp B.symm;have h5:i<cap.length:=(List.getElem?_eq_some_iff.mp hi).1;simp[gM]at h4;omega
   |some x=>
    rw[q_ hj hi F O]at hd;cases hd;obtain⟨v,q1,q2,q3⟩:=si.sl i d F;rw[I i j hi]at q1;obtain⟨j',e1,e2⟩:=rW q1;rw[hi]at e1;cases e1;exact⟨v,e2,by rw[jh hj hi];exact conv _ _ _ q3 q2,q3⟩
  .rw[oV hn]at hd
   obtain⟨v,q1,q2,q3⟩:=s.sl j d hd;refine⟨v,q1,?_,q3⟩;rw[jl hn];have q:=(by simpa[clean]using q3:aD d=true/\aB d=true);refine q2.mono (a7.evo s) (.inl q.1) (.inl q.2) λc Z u hu=>?_;exact ef.kp c u hu λ⟨i,_,z⟩=>by
    obtain⟨k,e,z⟩:=jP z;have:=s.dj j k c Z z;subst this;exact hn i e
 .rcases g8 cap j with⟨i,hi⟩|hn
  .rw[jh hj hi]
   refine si.em i λd a8=>?_;by_cases O:j<ρ.length
   .exact hd d (q_ hj hi a8 O)
   .
    obtain⟨v,q1,_⟩:=si.sl i d a8;rw[I i j hi]at q1;obtain⟨j',e1,e2⟩:=rW q1;rw[hi]at e1;cases e1;have:=(List.getElem?_eq_some_iff.mp e2).1;rw[←s.len]at this;exact O this
  .rw[jl hn]
   exact s.em j λd=>by have:=hd d;rwa[oV hn]at this
 .rcases g8 cap j with⟨i,hi⟩|hn
  .rw[jh hj hi];exact si.nd i
  .rw[jl hn];exact s.nd j
 .rcases g8 cap j with⟨i,hi⟩|hn<;>rcases g8 cap k with⟨i',a1⟩|a6
  .rw[jh hj hi]at h1
   rw[jh hj a1]at h2;have:=si.dj i i' a h1 h2;subst this;rw[hi]at a1;cases a1;rfl
  .rw[jh hj hi]at h1
   rw[jl a6]at h2;exact absurd h1 (D a6 h2 i)
  .rw[jl hn]at h1
   rw[jh hj a1]at h2;exact absurd h2 (D hn h1 i')
  .rw[jl hn]at h1
   rw[jl a6]at h2;exact s.dj j k a h1 h2
 .rcases g8 cap j with⟨i,hi⟩|hn
  .rw[jh hj hi]at z
   exact si.fdj i a (h.imp id .inl) z
  .rw[jl hn]at z
   rcases h with h|h
   .rcases ef.fm a h with y|y
    .obtain⟨k,_,y⟩:=a0 y
     have:=s.dj j k a z y;subst this;obtain⟨i,hi,y'⟩:∃i,obC cap ob i=true/\a∈m7 cap S i:=by assumption
     obtain⟨V,e,y'⟩:=jP y';have:=s.dj j V a z y';subst this;exact hn i e
    .obtain⟨o,J,_⟩:=s.mu z
     rw[y]at J;cases J
   .exact s.fdj j a h z
 .rcases h with h|h
  .exact si.fdm a (.inl h)
  .exact si.fdm a (.inr (.inl h))
end
section
variable{ι:Type}{X:ι->Cx}{G:Gc}{ob own:Nat->Bool}
def Vv(G:Gc)(ob own:Nat->Bool)(g:TG)(f:D->En->Option En):Prop:=∀(d:D)(ρ I:En),f d ρ=some I->∀(x:V)(σ:L2.St)(H:Hp)(S:Ad)(Fr:Addr->Prop),Sta G H ob ρ σ S Fr->(∀i,own i=true->S i=[])->Rep G H (wn ob S Fr) d x []->∀Q:L2.St->Hp->Prop,
 (∀B,Sta G H ob I B S Fr->(∀j,own j=false->B[j]? =σ[j]?)->Q B H)->g x σ H Q
theorem Iw{i:Nat}(J:own i=true):Vv G ob own (yD i) (tgN i):=λd ρ I e x σ H S Fr s D r Q q=>by
 unfold tgN at e;split at e
 .rename_i hc
  cases e;refine q _ ⟨by simp[s.len],λj d' F=>?_,λj F=>?_,s.nd,s.dj,s.fdj,s.fdm⟩ λj F=>?_
  .by_cases ej:i=j
   .subst ej
    rw[acL]at F;split at F
    .split at F
     .rename_i h2
      have:d=d':=by simpa using F
      subst this;exact⟨x,by simp[←s.len,h2],by rw[D i J];exact r,hc⟩
     .cases F
    .exact absurd rfl ‹_›
   .rw[List.getElem?_set_ne ej]at F
    obtain⟨v,h1,h2,B⟩:=s.sl j d' F;exact⟨v,by rw[List.getElem?_set_ne ej];exact h1,h2,B⟩
  .by_cases ej:i=j
   .subst ej;exact D i J
   .exact s.em j λd'=>by have:=F d';rwa[List.getElem?_set_ne ej]at this
  .have:i≠j:=λz=>by rw[←z,J]at F;cases F
   rw[List.getElem?_set_ne this]
 .cases e
structure Xz{ι:Type}(X:ι->Cx)(G:Gc)(ob own:Nat->Bool)(tg:Expr)(f:D->En->Option En):Prop where
 mk::(ex:∃t,(∀c,PG (X c) tg t)/\Vv G ob own t f)
theorem Ip(i:Nat){x:Str}{pos:Pos}(V:∀c,(X c).N.Nodup)(J:own i=true:=by rfl)(hi:∀c,(X c).N[i]? =some x:=by intro _;rfl)(F:∀c,Loc (X c).env.scope x:=by intro _;first|exact aa_ rfl|exact aax rfl)(O:∀c,(X c).fn x=true∨(X c).env.scope.names.lookup x=some .local:=by intro _;first|exact .inl rfl|exact .inr rfl):Xz X G ob own (.Name x pos) (tgN i):=⟨_,λc=>zW (V c) (hi c) (F c) (O c),Iw J⟩
def lN(cap:List (Option Nat))(tg:D->En->Option En)(c:En->Option Bool)(e:En->Option (D×En)):List D->En->Option (List D×En)
 |[],ρ=>some ([],ρ)
 |d::r,ρ=>(tg d (gP cap ρ)).bind λρ1=>(c ρ1).bind λb=>if b=true then(e ρ1).bind λp=>if clean p.1=true then(lN cap tg c e r (eY cap p.2 ρ)).map λt=>(p.1::t.1,t.2)else none else lN cap tg c e r ρ
def iB(cap:List (Option Nat))(it:En->Option (Bool×List D))(tg:D->En->Option En)(c:En->Option Bool)(e:En->Option (D×En)):En->Option (D×En):=λρ=>(it ρ).bind λp=>if p.1=true/\p.2.length<=1000000 then(lN cap tg c e p.2 ρ).map λt=>(.lst .own t.1,t.2)else none
theorem Mr{cap:List (Option Nat)}{wi:TI}{g:TG}{tt:TT}{te:TE}{it:En->Option (Bool×List D)}{tg:D->En->Option En}{c:En->Option Bool}{e:En->Option (D×En)}(F:qH cap)(a6:∀i:Nat,own i=true->cap[i]?≠none->cap[i]? =some none)(hi:RfI G ob wi it)(hg:Vv G (obC cap ob) own g tg)(ht:RfT G (obC cap ob) tt c)(V:kZ G (obC cap ob) te e) :
  kZ G ob (N8 cap wi g tt te) (iB cap it tg c e):=λρ d d2 ee σ H S Fr s Q q=>by
 unfold iB at ee;cases h1:it ρ with
 |none=>simp[h1]at ee
 |some p=>
  obtain⟨b,items⟩:=p;rw[h1]at ee;simp![YF]at ee;split at ee
  .rename_i a1
   obtain⟨U,a1⟩:=a1;change b=true at U;change items.length<=1000000 at a1;subst U;cases h2:lN cap tg c e items ρ with
   |none=>simp[h2]at ee
   |some w=>
    obtain⟨a9,a7⟩:=w;obtain⟨rfl,rfl⟩:D.lst .own a9=d/\a7=d2:=by simpa[h2]using ee
    refine hi ρ true items h1 σ H _ s.rel s.wok _ λJ H1 sm wk=>?_;have s1:Sta G H1 ob ρ σ S Fr:=s.grow sm λa z=>.inl z;have e1:Eff ob H H1 S S []:=⟨λb u h _=>sm b u h,λ_ _=>rfl,λi a h z=>.inl ⟨i,h,z⟩,by simp⟩;refine⟨λi m ys H2=>i+m=items.length/\ys.length<=i/\∃ρ2 S2 acc L rest,Sta G H2 ob ρ2 σ S2 (plus L Fr)/\aH G H2 (wn ob S2 (plus L Fr)) acc ys L/\L.Nodup/\au acc=true/\aA acc=true/\Eff ob H1 H2 S S2 L/\lN cap tg c e (items.drop i) ρ2=some (rest,a7)/\acc++rest=a9,
     ⟨items.length,by omega,by simp,ρ,S,[],[],a9,by rw[su];exact s1,.nil,Zz,rfl,rfl,.refl,h2,rfl⟩,?_⟩
    rintro i m ys H2 ⟨d4,d3,ρ2,S2,acc,L,rest,s2,ra,na,b4,b1,ef,a0,a2⟩;have lt:LtB true H1 (wn ob S Fr) H2 (wn (obC cap ob) (m7 cap S2) (tQ cap S2 (plus L Fr))):=t6 ⟨λb u U f=>let⟨h1,h2⟩:=(ef.evo s1).k b u U f;⟨h1,zf.mp h2⟩,(ef.evo s1).t⟩;by_cases b5:i<items.length
    .have hdr:=(abj b5).symm
     rw[hdr,lN]at a0;refine .inr ⟨wk.go i items[i] (by simp[b5]) H2 _ lt,by have:=six a1;omega,λb7 H'=>(i+1)+(m-1)=items.length/\b7.length<=i+1/\∃ρ2 S2 acc L rest,Sta G H' ob ρ2 σ S2 (plus L Fr)/\aH G H' (wn ob S2 (plus L Fr)) acc b7 L/\L.Nodup/\au acc=true/\aA acc=true/\Eff ob H1 H' S S2 L/\lN cap tg c e (items.drop (i+1)) ρ2=some (rest,a7)/\acc++rest=a9,λb7 H' h=>⟨m-1,by omega,h⟩,λx Y hy=>?_⟩;obtain⟨s3,rx⟩:=wk.yld i items[i] (by simp[b5]) H2 _ lt x Y hy;have c4:Sta G Y ob ρ2 σ S2 (plus L Fr):=s2.grow s3 λa z=>.inl z;have c9:Eff ob H1 Y S S2 L:=ef.same s3 λc Z=>.inl Z;have d1:aH G Y (wn ob S2 (plus L Fr)) acc ys L:=ra.up (Up.same s3);have si:=c4.inn (cap:=cap) F;cases B:tg items[i] (gP cap ρ2)with
     |none=>simp[B]at a0
     |some a3=>
      rw[B]at a0;simp![YF]at a0;have c8:∀k,own k=true->m7 cap S2 k=[]:=λk I=>by
       unfold m7;split
       .rename_i j e
        rw[a6 k I (by rw[e];simp)]at e;cases e
       .rfl
      refine hg items[i] _ a3 B x _ Y _ (tQ cap S2 (plus L Fr)) si c8 rx _ λb0 s4 c1=>⟨DR a6 c1,?_⟩;cases h4:c a3 with
      |none=>simp[h4]at a0
      |some bb=>
       rw[h4]at a0;simp![YF]at a0;refine ht a3 bb h4 b0 Y _ s4.rel s4.wok _ λH4 a8=>?_;have a4:Sta G H4 ob ρ2 σ S2 (plus L Fr):=c4.grow a8 λa z=>.inl z;have d0:Sta G H4 (obC cap ob) a3 b0 (m7 cap S2) (tQ cap S2 (plus L Fr)):=s4.grow a8 λa z=>.inl z;have b9:Eff ob H1 H4 S S2 L:=c9.same a8 λc Z=>.inl Z;have b6:aH G H4 (wn ob S2 (plus L Fr)) acc ys L:=d1.up (Up.same a8);cases bb with
       |false=>
        simp![ZF,aaz]at a0;exact xr ⟨by omega,by omega,ρ2,S2,acc,L,rest,a4,b6,na,b4,b1,b9,a0,a2⟩
       |true=>
        simp![Zy]at a0;cases h5:e a3 with
        |none=>simp[h5]at a0
        |some w=>
         obtain⟨y,b3⟩:=w;rw[h5]at a0;simp![YF]at a0;split at a0
         .rename_i hcy
          cases h6:lN cap tg c e (items.drop (i+1)) (eY cap b3 ρ2)with
          |none=>simp[h6]at a0
          |some w=>
           obtain⟨a5,c3⟩:=w;obtain⟨rfl,rfl⟩:y::a5=rest/\c3=a7:=by simpa[h6]using a0
           refine t6 (V a3 y b3 h5 b0 H4 _ _ d0 _ λv H5 M S5 s5 ry ny c6=>?_);have c7:∀i j:Nat,cap[i]? =some (some j)->b0[i]? =(gM cap σ)[i]?:=λi j hi=>c1 i (by
            cases ho:own i with
            |false=>rfl
            |true=>rw[a6 i ho (by rw[hi];simp)]at hi;cases hi)
           obtain⟨o1,o2,o3⟩:=a4.out F (λ_ _=>trivial) c7 s5 c6;have b8:=(by simpa[clean]using hcy:aD y=true/\aB y=true);have c2:=b6.mono (o2.evo a4) (.inl b4) (.inl b1) λc Z u hu=>o2.keepsF a4 (.inl Z) u hu;rw[pW]at o1 c2;have c0:=o3 y v M hcy ry;rw[pW]at c0;have c5:∀a∈L,a∉M:=λa z1 z2=>by
            rcases o2.fm a z2 with y|y
            .exact a4.notO (.inl z1) y
            .obtain⟨o,ho,_⟩:=b6.dom a z1
             rw[y]at ho;cases ho
           exact⟨by omega,by simp;omega,eY cap b3 ρ2,_,acc++[y],L++M,a5,o1,c2.append (.one c0),dN na ny c5,by rw[bV];simp[b4,au,b8],by rw[bY];simp[b1,aA,b8],b9.trans o2,h6,by rw[←a2];simp⟩
         .cases a0
    .have hl:i=items.length:=by omega
     subst hl;rw[aa1,lN]at a0;obtain⟨rfl,rfl⟩:[]=rest/\ρ2=a7:=by simpa using a0
     refine .inl ⟨wk.stop H2 _ lt,abJ (six 1.11),λp N=>?_⟩;have b2:Same H2 (upd H2 p (.lst ys)):=Same.new N;rw[List.append_nil]at a2;subst a2;have np:p∉L:=λz=>by obtain⟨o,ho,_⟩:=ra.dom p z;rw[N]at ho;cases ho
     have O:Rep G (upd H2 p (.lst ys)) (wn ob S2 (plus (p::L) Fr)) (.lst .own acc) (.ref p) (p::L):=by
      rw[Rep];exact⟨p,ys,L,rfl,ra.up ⟨b2,λb u U f=>⟨λz=>z.elim (λz=>(YJ.mp z).elim (λz=>by rw[z,N]at U;cases U) λz=>f.1 (.inl z)) λz=>f.1 (.inr z),f.2⟩,λ_ _ _ f=>f⟩,aY,rfl⟩
     refine q (.ref p) _ (p::L) S2 (s2.grow b2 λa z=>?_) O (Zg.mpr ⟨np,na⟩) ?_
     .rcases z with z|z
      .rcases YJ.mp z with z|z
       .exact .inr ⟨by rw[z];exact N,O.dom a (by simp[z])⟩
       .exact .inl (.inl z)
      .exact .inl (.inr z)
     .exact(e1.trans ef).same b2 λc Z=>(YJ.mp Z).elim (λz=>.inr (by rw[z];exact N)) λz=>.inl (by simpa using z)
  .cases ee
section
variable{elt target iter:Expr}{ifs:List Expr}{scope:Scope}{pos pos' pos2:Pos}{N':List Str}{it:En->Option (Bool×List D)}{tg:D->En->Option En}{fc:En->Option Bool}
theorem m9(cap:List (Option Nat))(own:Nat->Bool){fe:En->Option D}(F:∀c,(X c).xe=NoX)(Z:∀c,(X c).calm=true)(O:∀c,dZ (X c).env.scope (X c).N N' scope cap)(J:∀i:Nat,own i=true->cap[i]?≠none->cap[i]? =some none)(hi:PVI X G ob target iter it)(q:Iz (InX X N' scope) G (obC cap ob) own target tg)(U:HX (InX X N' scope) G (obC cap ob) ifs fc)(V:PV (InX X N' scope) G (obC cap ob) elt fe)
  (B:∀c,∀x,aaD iter (X c).env x=pure x:=by intro _ _;rfl):PV X G ob (.ListComp elt [⟨target,iter,ifs,0⟩] scope pos) (gG cap it tg fc fe):=
 let⟨_,i1,i2⟩:=hi.ex;let⟨_,g1,g2⟩:=q.ex;let⟨_,t1,t2⟩:=U.ex;let⟨_,e1,e2⟩:=V.ex
 ⟨_,λc=>Gp (F c) (Z c) (O c) (i1 c) (λC s H fp=>g1 (c,C,s,H,fp)) (λC s H fp=>t1 (c,C,s,H,fp)) (λC s H fp=>e1 (c,C,s,H,fp)) (B c),Rw J i2 g2 t2 e2⟩
theorem K8(cap:List (Option Nat))(own:Nat->Bool){fe:En->Option (D×En)}(F:∀c,(X c).xe=NoX)(Z:∀c,(X c).calm=true)(O:∀c,dZ (X c).env.scope (X c).N N' scope cap)(I:qH cap)(J:∀i:Nat,own i=true->cap[i]?≠none->cap[i]? =some none)(hi:PVI X G ob target iter it)(q:Xz (InX X N' scope) G (obC cap ob) own target tg)(U:HX (InX X N' scope) G (obC cap ob) ifs fc)(V:PVe (InX X N' scope) G (obC cap ob) elt fe)
  (B:∀c,∀x,aaD iter (X c).env x=pure x:=by intro _ _;rfl):PVe X G ob (.ListComp elt [⟨target,iter,ifs,0⟩] scope pos) (iB cap it tg fc fe):=
 let⟨_,i1,i2⟩:=hi.ex;let⟨_,g1,g2⟩:=q.ex;let⟨_,t1,t2⟩:=U.ex;let⟨_,e1,e2⟩:=V.ex
 ⟨_,λc=>Gp (F c) (Z c) (O c) (i1 c) (λC s H fp=>g1 (c,C,s,H,fp)) (λC s H fp=>t1 (c,C,s,H,fp)) (λC s H fp=>e1 (c,C,s,H,fp)) (B c),Mr I J i2 g2 t2 e2⟩
end
end
inductive Sc:Dt->Dt->Prop
 |bl (a b:Bool):Sc (.bl a) (.bl b)
 |int (a b:Int):Sc (.int a) (.int b)
 |str (a b:Str):Sc (.str a) (.str b)
 |non:Sc .non .non
def Flt(d e:Dt):Prop:=∃a b,d= .tup a/\e= .tup b/\∀p∈a.zip b,Sc p.1 p.2
def UT(d e:Dt):Prop:=∃a b,d= .lst a/\e= .lst b/\∀p∈a.zip b,Sc p.1 p.2
inductive Alk:Dt->Dt->Prop
 |sc {d e:Dt}:Sc d e->Alk d e
 |lst {a b:List Dt}:(∀p∈a.zip b,Sc p.1 p.2)->Alk (.lst a) (.lst b)
 |tup {a b:List Dt}:(∀p∈a.zip b,Sc p.1 p.2)->Alk (.tup a) (.tup b)
 |deep {a b:List Dt}:(∀p∈a.zip b,Flt p.1 p.2)->Alk (.lst a) (.lst b)
 |deepL {a b:List Dt}:(∀p∈a.zip b,UT p.1 p.2)->Alk (.lst a) (.lst b)
 |deepT {a b:List Dt}:(∀p∈a.zip b,Flt p.1 p.2)->Alk (.tup a) (.tup b)
section
variable{X:Cx}{pins:List (Addr×Obj)}{σ:L2.St}{H:Hp}{s:Shared}{A:Around}
open PySem.SeqAt
theorem Gk{d e:Dt}{v u:V}{N O:Value}(h:Sc d e)(h1:Brs X.K H d v)(h2:Brs X.K H e u)(U:RelV v N)(B:RelV u O):EqAt A s N O (eqD d e)/\RcAt A s N O (eqD d e)/\RcNeAt A s N O (!eqD d e):=by
 cases h<;>simp![Brs]at h1 h2<;>subst h1 h2
 case bl a b=>cases U;cases B;exact⟨EqAt.bool_bool a b,RcAt.bool_bool a b,RcNeAt.bool_bool a b⟩
 case int a b=>obtain⟨t,rfl⟩:=U;obtain⟨t',rfl⟩:=B;exact⟨EqAt.int_int a t b t',RcAt.int_int a t b t',RcNeAt.int_int a t b t'⟩
 case non=>cases U;cases B;exact⟨agg _,RcAt.none_none,RcNeAt.none_none⟩
 case str a b=>obtain⟨t,rfl⟩:=U;obtain⟨t',rfl⟩:=B;exact⟨EqAt.str_str a t b t',RcAt.str_str a t b t',RcNeAt.str_str a t b t'⟩
theorem vL{R:Dt->Dt->Prop}(J:∀{d e:Dt}{v u:V}{v' u':Value},R d e->Brs X.K H d v->Brs X.K H e u->RelV v v'->RelV u u'->EqAt A s v' u' (eqD d e)):∀{ds es:List Dt}{ys xs:List V}{q its:List Value},(∀p∈ds.zip es,R p.1 p.2)->kj X.K H ds ys->kj X.K H es xs->Vals ys q->Vals xs its->
  ∀j (h1:j<q.toArray.size)(h2:j<its.toArray.size),EqAt A s q.toArray[j] its.toArray[j] (eqJ ds es j)
 |[],es,ys,xs,q,its,_,h,h',r,r',j,h1,h2=>by
  simp![kj]at h;subst h;cases r;simp at h1
 |d::ds,[],ys,xs,q,its,_,h,h',r,r',j,h1,h2=>by
  simp![kj]at h';subst h';cases r';simp at h2
 |d::ds,e::es,ys,xs,q,its,ha,h,h',r,r',j,h1,h2=>by
  simp![kj]at h h';obtain⟨y,F,rfl,hd,O⟩:=h;obtain⟨x,B,rfl,D,U⟩:=h';cases r with
  |cons I rb=>
   cases r' with
   |cons Y Z=>
    cases j with
    |zero=>exact J (ha (d,e) (by simp)) hd D I Y
    |succ j=>exact vL J (λp N=>ha p (by simp[N])) O U rb Z j (by simpa using h1) (by simpa using h2)
theorem Ay(I:Inv X pins σ H s){R:Dt->Dt->Prop}(hR:∀{d e:Dt}{v u:V}{N O:Value},R d e->Brs X.K H d v->Brs X.K H e u->RelV v N->RelV u O->EqAt A.in1 s N O (eqD d e)){ds es:List Dt}{v u:V}{N O:Value}(h:∀p∈ds.zip es,R p.1 p.2)(h1:Brs X.K H (.lst ds) v)(h2:Brs X.K H (.lst es) u)(U:RelV v N)(B:RelV u O)(J:A.units<cLine):RcAt A s N O (eqD (.lst ds) (.lst es))/\RcNeAt A s N O (!eqD (.lst ds) (.lst es)):=by
 simp![Brs]at h1 h2;obtain⟨F,a8,rfl,a7,a4⟩:=h1;obtain⟨Z,a9,rfl,a6,q⟩:=h2;cases U;cases B;obtain⟨a0,a3,p1,_⟩:=I.list a7;obtain⟨D,a5,p2,_⟩:=I.list a6;have l1:=a4.length;have l2:=q.length;have l3:=a3.length;have l4:=a5.length;rw[show eqD (.lst ds) (.lst es)=eqL ds es by simp[eqD]];by_cases Y:ds.length=es.length
 .have e1:a0.toArray.size=D.toArray.size:=by rw[List.size_toArray,List.size_toArray];omega
  have e2:ds.length=a0.toArray.size:=by rw[List.size_toArray];omega
  rw[←Ac Y,e2];exact⟨RcAt.lists p1.isList p2.isList e1 J (vL hR h a4 q a3 a5),RcNeAt.lists p1.isList p2.isList e1 J (vL hR h a4 q a3 a5)⟩
 .have e1:(a0.toArray.size !=D.toArray.size)=true:=by rw[List.size_toArray,List.size_toArray];exact bne_iff_ne.mpr 1.11
  rw[zg Y];exact⟨RcAt.lists_lengths p1.isList p2.isList e1 J,RcNeAt.lists_lengths p1.isList p2.isList e1 J⟩
theorem Gd(I:Inv X pins σ H s){R:Dt->Dt->Prop}(hR:∀{d e:Dt}{v u:V}{N O:Value},R d e->Brs X.K H d v->Brs X.K H e u->RelV v N->RelV u O->EqAt A.in1 s N O (eqD d e)){ds es:List Dt}{v u:V}{N O:Value}(h:∀p∈ds.zip es,R p.1 p.2)(h1:Brs X.K H (.tup ds) v)(h2:Brs X.K H (.tup es) u)(U:RelV v N)(B:RelV u O)(J:A.units<cLine):RcAt A s N O (eqD (.tup ds) (.tup es))/\RcNeAt A s N O (!eqD (.tup ds) (.tup es)):=by
 simp![Brs]at h1 h2;obtain⟨F,a8,rfl,a7,a4⟩:=h1;obtain⟨Z,a9,rfl,a6,q⟩:=h2;cases U;cases B;obtain⟨a0,a3,p1,_⟩:=I.tuple a7;obtain⟨D,a5,p2,_⟩:=I.tuple a6;have l1:=a4.length;have l2:=q.length;have l3:=a3.length;have l4:=a5.length;have e:eqD (.tup ds) (.tup es)=((ZR (min a0.toArray.size D.toArray.size)).all (eqJ ds es)&&a0.toArray.size==D.toArray.size):=by
  rw[show eqD (.tup ds) (.tup es)=eqL ds es by simp[eqD],List.size_toArray,List.size_toArray];by_cases Y:ds.length=es.length
  .rw[show min a0.length D.length=ds.length by omega,Ac Y,show(a0.length==D.length)=true by simp;omega,adF]
  .rw[zg Y,show(a0.length==D.length)=false by simp;omega,agd]
 rw[e];exact⟨RcAt.tuples p1 p2 J (vL hR h a4 q a3 a5),RcNeAt.tuples p1 p2 J (vL hR h a4 q a3 a5)⟩
theorem M4(I:Inv X pins σ H s){ds es:List Dt}{v u:V}{N O:Value}(h:∀p∈ds.zip es,Sc p.1 p.2)(h1:Brs X.K H (.tup ds) v)(h2:Brs X.K H (.tup es) u)(U:RelV v N)(B:RelV u O)(J:A.units<cLine):RcAt A s N O (eqD (.tup ds) (.tup es))/\RcNeAt A s N O (!eqD (.tup ds) (.tup es)):=
 Gd I (λh a b c d=>(Gk h a b c d).1) h h1 h2 U B J
theorem yZ{K:YH}:∀{ds es:List Dt}{xs:List V},(∀p∈ds.zip es,Sc p.1 p.2)->kj K H ds xs->kj K H es xs->eqL ds es=true
 |[],[],_,_,_,_=>by simp[eqL]
 |[],_::_,_,_,h,h'=>by simp![kj]at h;subst h;simp[kj]at h'
 |_::_,[],_,_,h,h'=>by simp![kj]at h';subst h';simp[kj]at h
 |d::r,e::q,_,ha,h,h'=>by
  simp![kj]at h h';obtain⟨x,ys,rfl,hd,O⟩:=h;obtain⟨_,_,e1,D,U⟩:=h';cases e1;rw[eqL,yZ (λp N=>ha p (by simp[N])) O U,adF];have B:=ha (d,e) (by simp);dsimp only at B;cases B<;>simp![Brs]at hd D<;>rw[hd]at D<;>first|(cases D;simp[eqD])|simp[eqD]
theorem N5(I:Inv X pins σ H s)(J:A.units<cLine){d e:Dt}{v u:V}{N O:Value}(h:Flt d e)(h1:Brs X.K H d v)(h2:Brs X.K H e u)(U:RelV v N)(B:RelV u O):EqAt A s N O (eqD d e):=by
 obtain⟨a,b,rfl,rfl,h⟩:=h;have D:=(M4 I h h1 h2 U B J).1;simp![Brs]at h1 h2;obtain⟨F,a6,rfl,Y,a4⟩:=h1;obtain⟨Z,a5,rfl,a3,q⟩:=h2;cases U;cases B;by_cases a0:F=Z
 .subst a0
  obtain rfl:=I.tuple_inj Y a3;rw[show eqD (.tup a) (.tup b)=true by rw[eqD];exact yZ h a4 q];exact agg _
 .exact EqAt.of_refs a0 D
theorem Px(I:Inv X pins σ H s)(J:A.units<cLine){d e:Dt}{v u:V}{N O:Value}(h:UT d e)(h1:Brs X.K H d v)(h2:Brs X.K H e u)(U:RelV v N)(B:RelV u O):EqAt A s N O (eqD d e):=by
 obtain⟨a,b,rfl,rfl,h⟩:=h;have D:=(Ay I (λh a b c d=>(Gk h a b c d).1) h h1 h2 U B J).1;simp![Brs]at h1 h2;obtain⟨F,a6,rfl,Y,a4⟩:=h1;obtain⟨Z,a5,rfl,a3,q⟩:=h2;cases U;cases B;by_cases a0:F=Z
 .subst a0
  obtain rfl:=I.list_inj Y a3;rw[show eqD (.lst a) (.lst b)=true by rw[eqD];exact yZ h a4 q];exact agg _
 .exact EqAt.of_refs a0 D
theorem JV(I:Inv X pins σ H s){d e:Dt}{v u:V}{N O:Value}(h:Alk d e)(h1:Brs X.K H d v)(h2:Brs X.K H e u)(U:RelV v N)(B:RelV u O)(J:A.units+1<cLine):RcAt A s N O (eqD d e)/\RcNeAt A s N O (!eqD d e):=by
 cases h with
 |sc h=>exact(Gk h h1 h2 U B).2
 |lst h=>exact Ay I (λh a b c d=>(Gk h a b c d).1) h h1 h2 U B 1.11
 |tup h=>exact M4 I h h1 h2 U B 1.11
 |deepL h=>exact Ay I (λh a b c d=>Px I (show A.units+1<cLine from J) h a b c d) h h1 h2 U B 1.11
 |deepT h=>exact Gd I (λh a b c d=>N5 I (show A.units+1<cLine from J) h a b c d) h h1 h2 U B 1.11
 |deep h=>exact Ay I (λh a b c d=>N5 I (show A.units+1<cLine from J) h a b c d) h h1 h2 U B 1.11
def Xo(K:YH)(A:ZW):R2:=λx y H Q=>∃d e,Alk d e/\Brs K H d x/\Brs K H e y/\A.units+1<cLine/\Q (.bl (eqD d e)) H
def Xm(K:YH)(A:ZW):R2:=λx y H Q=>∃d e,Alk d e/\Brs K H d x/\Brs K H e y/\A.units+1<cLine/\Q (.bl (!eqD d e)) H
theorem Vg:OpR X (ZL .Eq) (Xo X.K X.A):=by
 intro pins s σ H x y v u Q I rx N ⟨d,e,h,h1,h2,J,q⟩;exact(JV I h h1 h2 rx N J).1 _ _ _ _ ⟨.bl (eqD d e),H,I,rfl,q⟩
theorem Ud:OpR X (ZL .NotEq) (Xm X.K X.A):=by
 intro pins s σ H x y v u Q I rx N ⟨d,e,h,h1,h2,J,q⟩;exact(JV I h h1 h2 rx N J).2 _ _ _ _ ⟨.bl (!eqD d e),H,I,rfl,q⟩
end
theorem OpR.or{f:Value->Value->Sem Value}{r F:R2}(h:OpR Y f r)(h':OpR Y f F):OpR Y f (λx y H Q=>r x y H Q∨F x y H Q):=λpins s σ H x y v u Q I rx N q=>q.elim (h pins s σ H x y v u Q I rx N) (h' pins s σ H x y v u Q I rx N)
theorem fK.or{f:Value}{F:List V->Hp->VK->Prop}(h:fK Y f r)(h':fK Y f F):fK Y f (λxs H Q=>r xs H Q∨F xs H Q):=λpins s σ H xs us Q I N q=>q.elim (h pins s σ H xs us Q I N) (h' pins s σ H xs us Q I N)
variable{i:Int}
theorem cV:Rep G H W (.int i) (.int i) []:=by rw[Rep];exact⟨rfl,rfl⟩
theorem sJ{i:Str}:Rep G H W (.str i) (.str i) []:=by rw[Rep];exact⟨rfl,rfl⟩
theorem gJ{i:Bool}:Rep G H W (.bl i) (.bl i) []:=by rw[Rep];exact⟨rfl,rfl⟩
theorem bu(r:Rep G H W (.int i) v L):v= .int i/\L=[]:=by rw[Rep]at r;exact r
theorem cz{i:Str}(r:Rep G H W (.str i) v L):v= .str i/\L=[]:=by rw[Rep]at r;exact r
theorem wL{i:Bool}(r:Rep G H W (.bl i) v L):v= .bl i/\L=[]:=by rw[Rep]at r;exact r
variable{g:Int->Int->V}
theorem Gm{C:Int->Int->Prop}{F:D->D->Option D}(h:∀dx Y d,F dx Y=some d->∃i j,dx= .int i/\Y= .int j/\C i j/\∀H W,Rep G H W d (g i j) []):OpV G (rI C g) F:=λdx Y d e x y H W B Ly rx N nd hn w Q q=>by
 obtain⟨i,j,rfl,rfl,Z,O⟩:=h dx Y d e;obtain⟨rfl,rfl⟩:=bu rx;obtain⟨rfl,rfl⟩:=bu N;exact⟨i,j,rfl,rfl,Z,q.scal (λW=>O H W)⟩
theorem zP{F:D->D->Option D}(h:∀dx Y d,F dx Y=some d->∃i j,dx= .int i/\Y= .int j/\∀H W,Rep G H W d (g i j) []):OpV G (rI0 g) F:=λdx Y d e x y H W B Ly rx N nd hn w Q q=>by
 obtain⟨i,j,rfl,rfl,O⟩:=h dx Y d e;obtain⟨rfl,rfl⟩:=bu rx;obtain⟨rfl,rfl⟩:=bu N;exact⟨i,j,rfl,rfl,q.scal (λW=>O H W)⟩
def jn:D->D->Option D
 |.int a,.int b=>some (.int (a-b))
 |_,_=>none
def lE:D->D->Option D
 |.int a,.int b=>if(-(2 ^ 64)<a/\a<2 ^ 64)∨(-(2 ^ 64)<b/\b<2 ^ 64)then some (.int (a*b))else none
 |_,_=>none
def lM:D->D->Option D
 |.int a,.int b=>if 0<b/\b<18446744073709551616 then some (.int (a / b))else none
 |_,_=>none
def lY:D->D->Option D
 |.int a,.int b=>if 0<b then some (.int (a % b))else none
 |_,_=>none
def mD:D->D->Option D
 |.int a,.int b=>if 0<=b/\b<=1000000/\a.natAbs<2 ^ 64 then some (.int (a ^ b.toNat))else none
 |_,_=>none
theorem qT:OpB X G (aay .Sub) jn:=⟨_,λc=>TF,zP λdx Y d e=>by
 unfold jn at e;split at e
 .cases e;exact⟨_,_,rfl,rfl,λ_ _=>cV⟩
 .cases e⟩
theorem qQ:OpB X G (aay .Mult) lE:=⟨_,λc=>Vk,Gm λdx Y d e=>by
 unfold lE at e;split at e
 .split at e
  .cases e;exact⟨_,_,rfl,rfl,‹_›,λ_ _=>cV⟩
  .cases e
 .cases e⟩
theorem zy:OpB X G (aay .FloorDiv) lM:=⟨_,λc=>NZ,Gm λdx Y d e=>by
 unfold lM at e;split at e
 .split at e
  .cases e;exact⟨_,_,rfl,rfl,‹_›,λ_ _=>cV⟩
  .cases e
 .cases e⟩
theorem pq:OpB X G (aay .Mod) lY:=⟨_,λc=>Vn,Gm λdx Y d e=>by
 unfold lY at e;split at e
 .split at e
  .cases e;exact⟨_,_,rfl,rfl,‹_›,λ_ _=>cV⟩
  .cases e
 .cases e⟩
theorem sU:OpB X G (aay .Pow) mD:=⟨_,λc=>Uk,Gm λdx Y d e=>by
 unfold mD at e;split at e
 .split at e
  .cases e;exact⟨_,_,rfl,rfl,‹_›,λ_ _=>cV⟩
  .cases e
 .cases e⟩
def iC:D->Option D
 |.int a=>some (.int (-a))
 |_=>none
theorem j5:UnB X G (unaryOp .USub) iC:=⟨_,λc=>Ue,λdx d e x H W B rx nd hn w Q q=>by
 unfold iC at e;split at e
 .cases e
  obtain⟨rfl,rfl⟩:=bu rx;exact⟨_,rfl,q.scal λW=>cV⟩
 .cases e⟩
def fQ:D->D->Option D
 |.int a,.int b=>some (.int (a+b))
 |.str a,.str b=>if a.length+b.length<=YM then some (.str (a++b))else none
 |.lst m a,.lst n b=>if m≠.scr/\n≠.scr/\a.length+b.length<=1000000 then some (.lst .own (a++b))else none
 |.tup a,.tup b=>if a.length+b.length<=1000000 then some (.tup (a++b))else none
 |_,_=>none
variable{ys:List V}
theorem yh{dx Y:List D}{B Ly J:List Addr}(F:aH G H W dx xs I)(Z:aH G H W Y ys J)(N:aav I B)(O:aav J Ly)(hn:∀a∈B++Ly,W.tmp a)(s:Same H H')(q:List Addr)(he:∀a∈q,H a=none):aH G H' ((W.drop (B++Ly)).add (q++(I++J))) (dx++Y) (xs++ys) (I++J):=by
 refine(F.append Z).up ⟨s,λb u U f=>⟨λz=>z.elim (λz=>?_) λz=>f.1 z.1,f.2⟩,λ_ _ _ f=>f⟩;rcases YC.mp z with z|z
 .rw[he b z]at U;cases U
 .rcases YC.mp z with z|z
  .exact f.1 (hn b (Za _ (N.subset z))).1
  .exact f.1 (hn b (zc _ (O.subset z))).1
def Xa(K:YH):R2:=λx y H Q=>((rI0 (λi j=>.int (i+j)) x y H Q∨(∃i j,x= .str i/\y= .str j/\i.length+j.length<=YM/\Q (.str (i++j)) H))∨XX x y H Q)∨N7 K x y H Q
theorem PN:OpV G (Xa G.K) fQ:=λdx Y d e x y H W Lx Ly rx ry nd hn w Q q=>by
 unfold fQ at e;split at e
 .cases e
  obtain⟨rfl,rfl⟩:=bu rx;obtain⟨rfl,rfl⟩:=bu ry;exact .inl (.inl (.inl ⟨_,_,rfl,rfl,q.scal λ_=>cV⟩))
 .split at e
  .cases e
   obtain⟨rfl,rfl⟩:=cz rx;obtain⟨rfl,rfl⟩:=cz ry;exact .inl (.inl (.inr ⟨_,_,rfl,rfl,‹_›,q.scal λ_=>sJ⟩))
  .cases e
 .rename_i m a n b
  split at e
  .rename_i Z
   cases e;rw[Rep]at rx ry;obtain⟨p,xs,Mx,rfl,F,sx⟩:=rx;obtain⟨U,ys,My,rfl,V,sy⟩:=ry;refine .inl (.inr ⟨p,U,xs,ys,rfl,rfl,sx.at Z.1,sy.at Z.2.1,by rw[←F.length,←V.length];exact abJ (six Z.2.2),λr O=>?_⟩);have B:Same H (upd H r (.lst (xs++ys))):=Same.new O;have nr:r∉Mx++My:=λz=>by
    obtain⟨o,J,_⟩:=(F.append V).dom r z;rw[O]at J;cases J
   have a0:(Mx++My).Nodup:=(sx.sub.append sy.sub).nodup nd;refine q (.ref r) _ (r::(Mx++My)) B ?_ (λc Z=>?_) (Zg.mpr ⟨nr,a0⟩)
   .rw[Rep]
    exact⟨r,xs++ys,Mx++My,rfl,yh F V sx.sub sy.sub hn B [r] (by simpa using O),aY,rfl⟩
   .rcases YJ.mp Z with z|z
    .exact .inr (by rw[z];exact O)
    .exact .inl ((sx.sub.append sy.sub).subset z)
  .cases e
 .rename_i a b
  split at e
  .rename_i Z
   cases e;rw[Rep]at rx ry;obtain⟨p,xs,rfl,N,F⟩:=rx;obtain⟨U,ys,rfl,I,V⟩:=ry;have base:∀H' p2,Same H H'->H' p2=some (.tup (xs++ys))->Q (.ref p2) H':=λH' p2 B D=>by
    refine q (.ref p2) H' (Lx++Ly) B ?_ (λc Z=>.inl Z) nd;rw[Rep];exact⟨p2,xs++ys,rfl,D,yh F V (abe _) (abe _) hn B [] (by simp)⟩
   refine .inr ⟨p,U,xs,ys,rfl,rfl,SqT.of N,SqT.of I,by rw[←F.length,←V.length];exact abJ (six Z),λz=>base H U (Same.refl H) (by rw[z];exact I),λ_ z=>base H p (Same.refl H) (by rw[z,List.append_nil];exact N),λ_ _ r O=>base _ r (Same.new O) aY⟩
  .cases e
 .cases e
theorem iR(F:∀c,(X c).K=G.K:=by intro _;rfl):OpB X G (aay .Add) fQ:=⟨_,λc=>by rw[←F c];exact OpR.or (OpR.or (OpR.or V0 DQ) Vm) Od,PN⟩
def gLt:D->D->Option D
 |.int a,.int b=>some (.bl (decide (a<b)))
 |.str a,.str b=>some (.bl (decide (a.cps.toList<b.cps.toList)))
 |_,_=>none
def gLe:D->D->Option D
 |.int a,.int b=>some (.bl (decide (a<=b)))
 |_,_=>none
def gGt:D->D->Option D
 |.int a,.int b=>some (.bl (decide (b<a)))
 |_,_=>none
def gGe:D->D->Option D
 |.int a,.int b=>some (.bl (decide (b<=a)))
 |_,_=>none
theorem Lg:OpB X G (ZL .Lt) gLt:=⟨_,λc=>OpR.or WQ Im,λdx Y d e x y H W B Ly rx N nd hn w Q q=>by
 unfold gLt at e;split at e
 .cases e
  obtain⟨rfl,rfl⟩:=bu rx;obtain⟨rfl,rfl⟩:=bu N;exact .inl ⟨_,_,rfl,rfl,q.scal λ_=>gJ⟩
 .cases e
  obtain⟨rfl,rfl⟩:=cz rx;obtain⟨rfl,rfl⟩:=cz N;exact .inr ⟨_,_,rfl,rfl,q.scal λ_=>gJ⟩
 .cases e⟩
theorem WN:OpB X G (ZL .LtE) gLe:=⟨_,λc=>Wc,zP λdx Y d e=>by
 unfold gLe at e;split at e
 .cases e;exact⟨_,_,rfl,rfl,λ_ _=>gJ⟩
 .cases e⟩
theorem Sd:OpB X G (ZL .Gt) gGt:=⟨_,λc=>XD,zP λdx Y d e=>by
 unfold gGt at e;split at e
 .cases e;exact⟨_,_,rfl,rfl,λ_ _=>gJ⟩
 .cases e⟩
theorem Xf:OpB X G (ZL .GtE) gGe:=⟨_,λc=>WK,zP λdx Y d e=>by
 unfold gGe at e;split at e
 .cases e;exact⟨_,_,rfl,rfl,λ_ _=>gJ⟩
 .cases e⟩
def iJ:D->Bool
 |.non=>true
 |_=>false
def gIs:D->D->Option D
 |x,.non=>some (.bl (iJ x))
 |_,_=>none
def nM:D->D->Option D
 |x,.non=>some (.bl (!iJ x))
 |_,_=>none
theorem yO(r:Rep G H W d v L):decide (v= .non)=iJ d:=by
 cases d<;>rw[Rep]at r
 case non=>obtain⟨rfl,_⟩:=r;rfl
 case bl=>obtain⟨rfl,_⟩:=r;rfl
 case int=>obtain⟨rfl,_⟩:=r;rfl
 case str=>obtain⟨rfl,_⟩:=r;rfl
 case ty=>obtain⟨rfl,_⟩:=r;rfl
 case tup=>obtain⟨a,xs,rfl,_⟩:=r;rfl
 case lst=>obtain⟨a,xs,M,rfl,_⟩:=r;rfl
 case dct=>obtain⟨a,xs,M,rfl,_⟩:=r;rfl
 case ins=>obtain⟨a,C,dx,xs,M,rfl,_⟩:=r;rfl
theorem FT:OpB X G (ZL .Is) gIs:=⟨_,λc=>Ut,λdx Y d e x y H W B Ly rx N nd hn w Q q=>by
 unfold gIs at e;split at e
 .cases e
  rw[Rep]at N;exact⟨N.1,by rw[yO rx];exact q.scal λ_=>gJ⟩
 .cases e⟩
theorem Bd:OpB X G (ZL .IsNot) nM:=⟨_,λc=>PL,λdx Y d e x y H W B Ly rx N nd hn w Q q=>by
 unfold nM at e;split at e
 .cases e
  rw[Rep]at N;exact⟨N.1,by rw[yO rx];exact q.scal λ_=>gJ⟩
 .cases e⟩
mutual
noncomputable def dt:D->Dt
 |.non=>.non
 |.bl b=>.bl b
 |.int i=>.int i
 |.str x=>.str x
 |.tup ds=>.tup (dtL ds)
 |.lst _ ds=>.lst (dtL ds)
 |_=>.non
noncomputable def dtL:List D->List Dt
 |[]=>[]
 |d::r=>dt d::dtL r
end
mutual
noncomputable def tG:D->Bool
 |.ty _=>false
 |.dct _ _ _=>false
 |.ins _ _ _ _=>false
 |.tup ds=>oU ds
 |.lst _ ds=>oU ds
 |_=>true
noncomputable def oU:List D->Bool
 |[]=>true
 |d::r=>tG d&&oU r
end
mutual
theorem Rep.brs{H:Hp}{W:Wn}:∀{d:D}{v:V}{L:List Addr},Rep G H W d v L->tG d=true->Brs G.K H (dt d) v
 |.non,v,L,r,_=>by rw[Rep]at r;simp[dt,Brs,r]
 |.bl _,v,L,r,_=>by rw[Rep]at r;simp[dt,Brs,r]
 |.int _,v,L,r,_=>by rw[Rep]at r;simp[dt,Brs,r]
 |.str _,v,L,r,_=>by rw[Rep]at r;simp[dt,Brs,r]
 |.ty _,v,L,r,h=>by cases h
 |.dct _ _ _,v,L,r,h=>by cases h
 |.ins _ _ _ _,v,L,r,h=>by cases h
 |.tup ds,v,L,r,h=>by
  rw[Rep]at r;obtain⟨a,xs,rfl,U,O⟩:=r;rw[dt,Brs];exact⟨a,xs,rfl,SqT.of U,aH.brs O h⟩
 |.lst m ds,v,L,r,h=>by
  rw[Rep]at r;obtain⟨a,xs,M,rfl,O,B⟩:=r;rw[dt,Brs];exact⟨a,xs,rfl,B.sq,aH.brs O h⟩
theorem aH.brs{H:Hp}{W:Wn}:∀{ds:List D}{vs:List V}{L:List Addr},aH G H W ds vs L->oU ds=true->kj G.K H (dtL ds) vs
 |[],vs,L,r,_=>by obtain⟨rfl,_⟩:=r.inv0;simp[dtL,kj]
 |d::r,vs,L,hr,h=>by
  obtain⟨x,ys,M,M',rfl,rfl,h1,h2⟩:=hr.inv;rw[oU,Zw]at h;rw[dtL,kj];exact⟨x,ys,rfl,Rep.brs h1 h.1,aH.brs h2 h.2⟩
end
open Classical in
def gEq:D->D->Option D:=λx y=>if tG x=true/\tG y=true/\Alk (dt x) (dt y)then some (.bl (eqD (dt x) (dt y)))else none
open Classical in
def gNe:D->D->Option D:=λx y=>if tG x=true/\tG y=true/\Alk (dt x) (dt y)then some (.bl (!eqD (dt x) (dt y)))else none
theorem cb_eq(A:ZW)(D:∀c,(X c).A=A)(J:A.units+64<cLine)(F:∀c,(X c).K=G.K:=by intro _;rfl):OpB X G (ZL .Eq) gEq:=⟨Xo G.K A,λc=>by rw[←F c,←D c];exact Vg,λdx Y d e x y H W B Ly rx N nd hn w Q q=>by
 unfold gEq at e;split at e
 .rename_i hc
  cases e;exact⟨_,_,hc.2.2,rx.brs hc.1,N.brs hc.2.1,by omega,q.scal λ_=>gJ⟩
 .cases e⟩
theorem yz(A:ZW)(D:∀c,(X c).A=A)(J:A.units+64<cLine)(F:∀c,(X c).K=G.K:=by intro _;rfl):OpB X G (ZL .NotEq) gNe:=⟨Xm G.K A,λc=>by rw[←F c,←D c];exact Ud,λdx Y d e x y H W B Ly rx N nd hn w Q q=>by
 unfold gNe at e;split at e
 .rename_i hc
  cases e;exact⟨_,_,hc.2.2,rx.brs hc.1,N.brs hc.2.1,by omega,q.scal λ_=>gJ⟩
 .cases e⟩
def gIx:D->D->Option D
 |.lst _ ds,.int i=>atI ds i
 |.tup ds,.int i=>atI ds i
 |.str z,.int i=>if z.length<=YM then(atI z.cps.toList i).map λc=>.str ⟨#[c]⟩else none
 |.dct _ ks ds,k=>(du k).bind λk=>(fB ks k).bind λj=>ds[j]?
 |_,_=>none
theorem La(O:aH G H W ds xs L)(e:atI ds i=some d):∃j:Nat,ds[j]? =some d/\∀x,xs[j]? =some x->atI xs i=some x:=by
 unfold atI at e⊢;rw[←O.length];cases h:ixN ds.length i with
 |none=>simp[h]at e
 |some j=>
  refine⟨j,by simpa[h]using e,λx F=>by simpa using F⟩
variable{x:V}
theorem pM{B Ly:List Addr}(r:Rep G H W d x M)(s:aav M B)(nd:(B++Ly).Nodup)(hn:∀a∈B++Ly,W.tmp a)(q:Done G H W (B++Ly) d Q):Q x H:=by
 refine q x H M (Same.refl H) (r.up ⟨Same.refl H,λb u U f=>⟨λz=>z.elim (λz=>f.1 (hn b (Za _ (s.subset z))).1) λz=>f.1 z.1,f.2⟩,λ_ _ _ f=>f⟩) (λa Y=>.inl (Za _ (s.subset Y))) (s.nodup (YX.mp nd).1)
theorem Vy:OpV G (λx y H Q=>rIx G.K x y H Q∨QB x y H Q) gIx:=λdx Y d e x y H W Lx Ly rx N nd hn w Q q=>by
 unfold gIx at e;split at e
 .rename_i m ds i
  obtain⟨rfl,rfl⟩:=bu N;rw[Rep]at rx;obtain⟨a,xs,M,rfl,O,B⟩:=rx;obtain⟨j,h1,h2⟩:=La O e;obtain⟨z,V,h3,Z,h5⟩:=O.get h1;exact .inl (.inl ⟨a,xs,i,z,rfl,rfl,B.sq,h2 z h3,pM Z (h5.trans B.sub) nd hn q⟩)
 .rename_i ds i
  obtain⟨rfl,rfl⟩:=bu N;rw[Rep]at rx;obtain⟨a,xs,rfl,U,O⟩:=rx;obtain⟨j,h1,h2⟩:=La O e;obtain⟨z,V,h3,Z,h5⟩:=O.get h1;exact .inl (.inr (.inl ⟨a,xs,i,z,rfl,rfl,SqT.of U,h2 z h3,pM Z h5 nd hn q⟩))
 .rename_i z i
  obtain⟨rfl,rfl⟩:=bu N;obtain⟨rfl,rfl⟩:=cz rx;split at e
  .rename_i hl
   cases h1:atI z.cps.toList i with
   |none=>simp[h1]at e
   |some c=>
    obtain rfl:D.str ⟨#[c]⟩=d:=by simpa[h1]using e
    exact .inl (.inr (.inr ⟨z,i,c,rfl,rfl,hl,h1,q.scal λ_=>sJ⟩))
  .cases e
 .rename_i m ks ds
  cases I:du Y with
  |none=>simp[I]at e
  |some k=>
   cases F:fB ks k with
   |none=>simp[I,F]at e
   |some j=>
    have e':ds[j]? =some d:=by simpa[I,F]using e
    rw[Rep]at rx;obtain⟨a,kvs,M,rfl,⟨rfl,J⟩,O,B⟩:=rx;obtain⟨z,V,h3,Z,h5⟩:=O.get e';have hv:=my F;rw[h3]at hv;refine .inr ⟨a,z,rfl,.inl ⟨kvs,k,B.rdD,jV N I,hv.symm⟩,pM Z (h5.trans B.sub) nd hn q⟩
 .cases e
theorem ixb(J:∀c,(X c).A.units+1<cLine)(F:∀c,(X c).K=G.K:=by intro _;rfl):IxB X G gIx:=⟨_,λc=>by rw[←F c];exact JQ (J c),Vy⟩
def scV:D->Option V
 |.non=>some .non
 |.bl b=>some (.bl b)
 |.int i=>some (.int i)
 |.str x=>some (.str x)
 |_=>none
def xV:List D->Option (List V)
 |[]=>some []
 |d::r=>(scV d).bind λv=>(xV r).map λt=>v::t
theorem zE{u:V}(r:Rep G H W d v L)(h:scV d=some u):v=u/\nP u=true:=by
 cases d<;>simp[scV]at h<;>subst h<;>rw[Rep]at r<;>exact⟨r.1,rfl⟩
theorem wV:∀{ds:List D}{vs us:List V}{L:List Addr},aH G H W ds vs L->xV ds=some us->vs=us/\us.all nP=true
 |[],vs,us,L,r,h=>by
  cases h;exact⟨r.inv0.1,rfl⟩
 |d::t,vs,us,L,r,h=>by
  obtain⟨x,ys,M,M',rfl,rfl,h1,h2⟩:=r.inv;rw[xV]at h;cases e1:scV d with
  |none=>simp[e1]at h
  |some v=>
   cases e2:xV t with
   |none=>simp[e1,e2]at h
   |some w=>
    obtain rfl:v::w=us:=by simpa[e1,e2]using h
    obtain⟨rfl,N⟩:=zE h1 e1;obtain⟨rfl,I⟩:=wV h2 e2;exact⟨rfl,by simp[N,I]⟩
def R3(x y:Str):Bool:=!(aab y x 0 y.length 1).isEmpty
def tH:D->D->Option Bool
 |x,.lst _ ds=>(scV x).bind λv=>(xV ds).map λvs=>inV v vs
 |x,.tup ds=>(scV x).bind λv=>(xV ds).map λvs=>inV v vs
 |.str x,.str y=>some (R3 x y)
 |x,.dct _ ks _=>(du x).map λk=>(fB ks k).isSome
 |_,_=>none
def gIn(x y:D):Option D:=(tH x y).map .bl
def j6(x y:D):Option D:=(tH x y).map λb=>.bl !b
theorem D_(J:Y.A.units+1<cLine):OpR Y (ZL .In) (λx y H Q=>∃a o,y= .ref a/\qL H a x o/\Q (.bl o.isSome) H):=λpins s σ H x y v u Q I rx N h=>by
 obtain⟨a,o,rfl,g,q⟩:=h;cases N;exact Yd J I g rx λB V=>⟨.bl o.isSome,H,V,rfl,q⟩
theorem xQ(J:Y.A.units+1<cLine):OpR Y (ZL .NotIn) (λx y H Q=>∃a o,y= .ref a/\qL H a x o/\Q (.bl (!o.isSome)) H):=λpins s σ H x y v u Q I rx N h=>by
 obtain⟨a,o,rfl,g,q⟩:=h;cases N;exact Q4 J I g rx λB V=>⟨.bl (!o.isSome),H,V,rfl,q⟩
theorem Li{dx Y:D}{y:V}{Lx Ly:List Addr}(e:tH dx Y=some b)(rx:Rep G H W dx x Lx)(N:Rep G H W Y y Ly) :
  (∃p xs,y= .ref p/\(SqL G.K H p xs∨SqT G.K H p xs)/\nP x=true/\xs.all nP=true/\b=inV x xs)∨(∃i j,x= .str i/\y= .str j/\b=R3 i j)∨(∃a o,y= .ref a/\qL H a x o/\b=o.isSome):=by
 unfold tH at e;split at e
 .rename_i m ds
  cases e1:scV dx with
  |none=>simp[e1]at e
  |some v=>
   cases e2:xV ds with
   |none=>simp[e1,e2]at e
   |some vs=>
    obtain rfl:inV v vs=b:=by simpa[e1,e2]using e
    rw[Rep]at N;obtain⟨a,xs,M,rfl,O,B⟩:=N;obtain⟨rfl,q⟩:=zE rx e1;obtain⟨rfl,I⟩:=wV O e2;exact .inl ⟨a,_,rfl,.inl B.sq,q,I,rfl⟩
 .rename_i ds
  cases e1:scV dx with
  |none=>simp[e1]at e
  |some v=>
   cases e2:xV ds with
   |none=>simp[e1,e2]at e
   |some vs=>
    obtain rfl:inV v vs=b:=by simpa[e1,e2]using e
    rw[Rep]at N;obtain⟨a,xs,rfl,U,O⟩:=N;obtain⟨rfl,q⟩:=zE rx e1;obtain⟨rfl,I⟩:=wV O e2;exact .inl ⟨a,_,rfl,.inr (SqT.of U),q,I,rfl⟩
 .cases e
  obtain⟨rfl,_⟩:=cz rx;obtain⟨rfl,_⟩:=cz N;exact .inr (.inl ⟨_,_,rfl,rfl,rfl⟩)
 .rename_i m ks ds
  cases e1:du dx with
  |none=>simp[e1]at e
  |some k=>
   have Z:(fB ks k).isSome=b:=by simpa[e1]using e
   rw[Rep]at N;obtain⟨a,kvs,M,rfl,⟨rfl,J⟩,O,B⟩:=N;refine .inr (.inr ⟨a,mj kvs k,rfl,.inl ⟨kvs,k,B.rdD,jV rx e1,rfl⟩,?_⟩);rw[←Z];cases F:fB (kvs.map (·.1)) k with
   |none=>rw[yw F];rfl
   |some j=>
    rw[my F,YT (by simpa using vy F)];rfl
 .cases e
def Yt(K:YH):R2:=λx y H Q=>(rIn K false x y H Q∨(∃i j,x= .str i/\y= .str j/\Q (.bl (!(aab j i 0 j.length 1).isEmpty)) H))∨∃a o,y= .ref a/\qL H a x o/\Q (.bl o.isSome) H
def Qo(K:YH):R2:=λx y H Q=>(rIn K true x y H Q∨(∃i j,x= .str i/\y= .str j/\Q (.bl (!(!(aab j i 0 j.length 1).isEmpty))) H))∨∃a o,y= .ref a/\qL H a x o/\Q (.bl (!o.isSome)) H
theorem Ln(J:∀c,(X c).A.units+1<cLine)(F:∀c,(X c).K=G.K:=by intro _;rfl):OpB X G (ZL .In) gIn:=⟨Yt G.K,λc=>by rw[←F c];exact OpR.or (OpR.or Jy JK) (D_ (J c)),λdx Y d e x y H W O Ly rx N nd hn w Q q=>by
 unfold gIn at e;cases h1:tH dx Y with
 |none=>simp[h1]at e
 |some b=>
  obtain rfl:D.bl b=d:=by simpa[h1]using e
  have I:Q (.bl b) H:=q.scal λ_=>gJ;rcases Li h1 rx N with⟨p,xs,rfl,h2,B,Z,rfl⟩|⟨i,j,rfl,rfl,rfl⟩|⟨a,o,rfl,h2,rfl⟩
  .exact .inl (.inl ⟨p,xs,rfl,h2,B,Z,I⟩)
  .exact .inl (.inr ⟨i,j,rfl,rfl,I⟩)
  .exact .inr ⟨a,o,rfl,h2,I⟩⟩
theorem wB(J:∀c,(X c).A.units+1<cLine)(F:∀c,(X c).K=G.K:=by intro _;rfl):OpB X G (ZL .NotIn) j6:=⟨Qo G.K,λc=>by rw[←F c];exact OpR.or (OpR.or zx zX) (xQ (J c)),λdx Y d e x y H W O Ly rx N nd hn w Q q=>by
 unfold j6 at e;cases h1:tH dx Y with
 |none=>simp[h1]at e
 |some b=>
  obtain rfl:D.bl (!b)=d:=by simpa[h1]using e
  have I:Q (.bl (!b)) H:=q.scal λ_=>gJ;rcases Li h1 rx N with⟨p,xs,rfl,h2,B,Z,rfl⟩|⟨i,j,rfl,rfl,rfl⟩|⟨a,o,rfl,h2,rfl⟩
  .exact .inl (.inl ⟨p,xs,rfl,h2,B,Z,I⟩)
  .exact .inl (.inr ⟨i,j,rfl,rfl,I⟩)
  .exact .inr ⟨a,o,rfl,h2,I⟩⟩
theorem aH.inv1(r:aH G H W [d] xs L):∃x,xs=[x]/\Rep G H W d x L:=by
 obtain⟨x,ys,M,M',rfl,rfl,h1,h2⟩:=r.inv;obtain⟨rfl,rfl⟩:=h2.inv0;exact⟨x,rfl,by rw[List.append_nil];exact h1⟩
theorem aH.inv2{e:D}(r:aH G H W [d,e] xs L):∃x y M N,xs=[x,y]/\L=M++N/\Rep G H W d x M/\Rep G H W e y N:=by
 obtain⟨x,ys,M,M',rfl,rfl,h1,h2⟩:=r.inv;obtain⟨y,rfl,B⟩:=h2.inv1;exact⟨x,y,M,M',rfl,rfl,h1,B⟩
def eG:List D->Option D
 |[.lst _ ds]=>some (.int ds.length)
 |[.tup ds]=>some (.int ds.length)
 |[.str z]=>if z.length<=YM then some (.int z.length)else none
 |[.dct m _ ds]=>if m= .scr then none else some (.int ds.length)
 |_=>none
theorem iM(F:∀c,(X c).K=G.K:=by intro _;rfl):CaB X G (.builtin "len") eG:=⟨λxs H Q=>((∃p ys,xs=[.ref p]/\(SqL G.K H p ys∨SqT G.K H p ys)/\Q (.int ys.length) H)∨∃z,xs=[.str z]/\z.length<=YM/\Q (.int z.length) H)∨∃a kvs,xs=[V.ref a]/\H a=some (.dK kvs)/\Q (.int kvs.length) H,λc=>by rw[←F c];exact fK.or (fK.or zZ Ak) JF,λds d e xs H W D r nd hn w Q q=>by
 unfold eG at e;split at e
 .cases e
  show 3;obtain⟨a,ys,M,rfl,O,B⟩:=rx;exact .inl (.inl ⟨a,ys,rfl,.inl B.sq,by rw[←O.length];exact q.scal λ_=>cV⟩)
 .cases e
  show 3;obtain⟨a,ys,rfl,U,O⟩:=rx;exact .inl (.inl ⟨a,ys,rfl,.inr (SqT.of U),by rw[←O.length];exact q.scal λ_=>cV⟩)
 .split at e
  .cases e
   obtain⟨x,rfl,rx⟩:=r.inv1;obtain⟨rfl,rfl⟩:=cz rx;exact .inl (.inr ⟨_,rfl,‹_›,q.scal λ_=>cV⟩)
  .cases e
 .split at e
  .cases e
  .cases e
   show 3;obtain⟨a,kvs,M,rfl,I,O,B⟩:=rx;exact .inr ⟨a,kvs,rfl,B.at ‹_›,by have:=O.length;simp at this;rw[←this];exact q.scal λ_=>cV⟩
 .cases e⟩
def rZ:List D->Option D
 |[.int i]=>some (.int (if i<0 then -i else i))
 |_=>none
theorem Gf:CaB X G (.builtin "abs") rZ:=⟨_,λc=>Oq,λds d e xs H W I r nd hn w Q q=>by
 unfold rZ at e;split at e
 .cases e
  obtain⟨x,rfl,rx⟩:=r.inv1;obtain⟨rfl,rfl⟩:=bu rx;exact⟨_,rfl,q.scal λ_=>cV⟩
 .cases e⟩
def qe:List D->Option D
 |[.int i]=>some (.int i)
 |[.bl k]=>some (.int (if k then 1 else 0))
 |_=>none
theorem Ft:CaB X G (.type "int") qe:=⟨_,λc=>Io,λds d e xs H W I r nd hn w Q q=>by
 unfold qe at e;split at e
 .cases e
  obtain⟨x,rfl,rx⟩:=r.inv1;obtain⟨rfl,rfl⟩:=bu rx;exact .inl ⟨_,rfl,q.scal λ_=>cV⟩
 .cases e
  obtain⟨x,rfl,rx⟩:=r.inv1;obtain⟨rfl,rfl⟩:=wL rx;exact .inr ⟨_,rfl,q.scal λ_=>cV⟩
 .cases e⟩
def j7:List D->Option D
 |[.int i,.int j]=>some (.int (if j<i then j else i))
 |_=>none
def Ht:List D->Option D
 |[.int i,.int j]=>some (.int (if j>i then j else i))
 |_=>none
theorem Cw(Z:∀c,(X c).calm=true):CaB X G (.builtin "min") j7:=⟨_,λc=>Ih (Z c),λds d e xs H W I r nd hn w Q q=>by
 unfold j7 at e;split at e
 .cases e
  obtain⟨x,y,M,N,rfl,rfl,rx,B⟩:=r.inv2;obtain⟨rfl,rfl⟩:=bu rx;obtain⟨rfl,rfl⟩:=bu B;exact⟨_,_,rfl,q.scal λ_=>cV⟩
 .cases e⟩
theorem MP(Z:∀c,(X c).calm=true):CaB X G (.builtin "max") Ht:=⟨_,λc=>Ig (Z c),λds d e xs H W I r nd hn w Q q=>by
 unfold Ht at e;split at e
 .cases e
  obtain⟨x,y,M,N,rfl,rfl,rx,B⟩:=r.inv2;obtain⟨rfl,rfl⟩:=bu rx;obtain⟨rfl,rfl⟩:=bu B;exact⟨_,_,rfl,q.scal λ_=>cV⟩
 .cases e⟩
variable{p:Addr}
theorem uf(O:aH G H W ds xs M)(s:aav M I)(nd:I.Nodup)(hn:∀a∈I,W.tmp a)(N:H p=none)(q:Done G H W I (.lst .own ds) Q):Q (.ref p) (upd H p (.lst xs)):=by
 have B:Same H (upd H p (.lst xs)):=Same.new N;have F:p∉M:=λz=>by obtain⟨o,J,_⟩:=O.dom p z;rw[N]at J;cases J
 refine q (.ref p) _ (p::M) B ?_ (λa Y=>(YJ.mp Y).elim (λz=>.inr (by rw[z];exact N)) λz=>.inl (s.subset z)) (Zg.mpr ⟨F,s.nodup nd⟩);rw[Rep];exact⟨p,xs,M,rfl,O.up ⟨B,λb u U f=>⟨λz=>z.elim (λz=>(YJ.mp z).elim (λz=>by rw[z,N]at U;cases U) λz=>f.1 (hn b (s.subset z)).1) λz=>f.1 z.1,f.2⟩,λ_ _ _ f=>f⟩,aY,rfl⟩
theorem Il(O:aH G H W ds xs M)(s:aav M I)(nd:I.Nodup)(hn:∀a∈I,W.tmp a)(N:H p=none)(q:Done G H W I (.tup ds) Q):Q (.ref p) (upd H p (.tup xs)):=by
 have B:Same H (upd H p (.tup xs)):=Same.new N;refine q (.ref p) _ M B ?_ (λa Y=>.inl (s.subset Y)) (s.nodup nd);rw[Rep];exact⟨p,xs,rfl,aY,O.up ⟨B,λb u U f=>⟨λz=>z.elim (λz=>f.1 (hn b (s.subset z)).1) λz=>f.1 z.1,f.2⟩,λ_ _ _ f=>f⟩⟩
theorem Eo(O:Rep G H W d x M)(s:aav M I)(nd:I.Nodup)(hn:∀a∈I,W.tmp a)(q:Done G H W I d Q):Q x H:=by
 refine q x H M (Same.refl H) (O.up ⟨Same.refl H,λb u U f=>⟨λz=>z.elim (λz=>f.1 (hn b (s.subset z)).1) λz=>f.1 z.1,f.2⟩,λ_ _ _ f=>f⟩) (λa Y=>.inl (s.subset Y)) (s.nodup nd)
def GZ:List D->Option D
 |[.lst _ ds]=>some (.lst .own ds)
 |[.tup ds]=>some (.lst .own ds)
 |_=>none
def nu:List D->Option D
 |[.lst _ ds]=>some (.tup ds)
 |[.tup ds]=>some (.tup ds)
 |_=>none
theorem Oc(F:∀c,(X c).K=G.K:=by intro _;rfl):CaB X G (.type "list") GZ:=⟨λxs H Q=>∃p ys,xs=[.ref p]/\(SqL G.K H p ys∨SqT G.K H p ys)/\∀l,H l=none->Q (.ref l) (upd H l (.lst ys)),λc=>by rw[←F c];exact zR,λds d e xs H W I r nd hn w Q q=>by
 unfold GZ at e;split at e
 .cases e
  show 3;obtain⟨a,ys,M,rfl,O,B⟩:=rx;exact⟨a,ys,rfl,.inl B.sq,λp N=>uf O B.sub nd hn N q⟩
 .cases e
  show 3;obtain⟨a,ys,rfl,U,O⟩:=rx;exact⟨a,ys,rfl,.inr (SqT.of U),λp N=>uf O (abe _) nd hn N q⟩
 .cases e⟩
def tyN:D->Option String
 |.non=>some "NoneType"
 |.bl _=>some "bool"
 |.int _=>some "int"
 |.str _=>some "str"
 |.tup _=>some "tuple"
 |.lst m _=>if m= .scr then none else some "list"
 |.dct m _ _=>if m= .scr then none else some "dict"
 |_=>none
def okT(n:String):Bool:=n=="int"||n=="bool"||n=="str"||n=="list"||n=="tuple"
def isT(t n:String):Bool:=t==n||(t=="bool"&&n=="int")
variable{t:String}
theorem Hb{K:YH}{n:String}(h1:tyN d=some t)(h2:okT n=true):adk K (.type t) (.type n)=some (isT t n):=by
 have U:t="NoneType"∨t="bool"∨t="int"∨t="str"∨t="tuple"∨t="list"∨t="dict":=by
  cases d<;>simp[tyN]at h1<;>(try split at h1)<;>simp_all
 have hn:n="int"∨n="bool"∨n="str"∨n="list"∨n="tuple":=by simpa[okT,or_assoc]using h2
 rcases U with rfl|rfl|rfl|rfl|rfl|rfl|rfl<;>rcases hn with rfl|rfl|rfl|rfl|rfl<;>with_unfolding_all rfl
theorem B_(r:Rep G H W d v L)(h:tyN d=some t):n_ G.K H v (.type t):=by
 cases d with
 |non=>rw[Rep]at r;obtain⟨rfl,_⟩:=r;cases h;exact .non
 |bl b=>rw[Rep]at r;obtain⟨rfl,_⟩:=r;cases h;exact .bl _
 |int b=>rw[Rep]at r;obtain⟨rfl,_⟩:=r;cases h;exact .int _
 |str b=>rw[Rep]at r;obtain⟨rfl,_⟩:=r;cases h;exact .str _
 |ty n=>cases h
 |tup ds=>rw[Rep]at r;obtain⟨a,xs,rfl,U,O⟩:=r;cases h;exact .tup U
 |lst m ds=>
  rw[Rep]at r;obtain⟨a,xs,M,rfl,O,B⟩:=r;simp![tyN]at h;split at h
  .cases h
  .cases h;exact .lst (B.at ‹_›)
 |dct m ks ds=>
  rw[Rep]at r;obtain⟨a,xs,M,rfl,I,O,B⟩:=r;simp![tyN]at h;split at h
  .cases h
  .cases h;exact .dK (B.at ‹_›)
 |ins m c fs ds=>cases h
def By:List D->Option (List String)
 |[]=>some []
 |.ty n::r=>(By r).map λt=>n::t
 |_::_=>none
theorem yK:∀{ds:List D}{vs:List V}{L:List Addr}{ns:List String},aH G H W ds vs L->By ds=some ns->vs=ns.map V.ty
 |[],vs,L,ns,r,h=>by cases h;rw[r.inv0.1];rfl
 |d::t,vs,L,ns,r,h=>by
  obtain⟨x,ys,M,M',rfl,rfl,h1,h2⟩:=r.inv;cases d<;>simp[By]at h;obtain⟨w,B,rfl⟩:=h;rw[Rep]at h1;rw[h1.1,yK h2 B];rfl
theorem v8{K:YH}(h1:tyN d=some t):∀{ns:List String},ns.all okT=true->adn K (.type t) (ns.map aa6)=some (ns.any (isT t))
 |[],_=>rfl
 |n::r,h=>by
  rw[ace,Zw]at h;rw[YL,adn,Hb h1 h.1];cases e:isT t n with
  |true=>simp[e]
  |false=>simp![e];rw[v8 h1 h.2];simp[e]
def bQ:List D->Option D
 |[x,.ty n]=>(tyN x).bind λt=>if okT n=true then some (.bl (isT t n))else none
 |[x,.tup ts]=>(tyN x).bind λt=>(By ts).bind λns=>if ns.all okT=true then some (.bl (ns.any (isT t)))else none
 |_=>none
theorem dF(F:∀c,(X c).K=G.K:=by intro _;rfl):CaB X G (.builtin "isinstance") bQ:=⟨λxs H Q=>(∃x n t b,xs=[x,.ty n]/\n_ G.K H x t/\adk G.K t (.type n)=some b/\Q (.bl b) H)∨∃x tp Y t b,xs=[x,.ref tp]/\H tp=some (.tup (List.map V.ty Y))/\n_ G.K H x t/\adn G.K t (Y.map aa6)=some b/\Q (.bl b) H,λc=>by rw[←F c];exact fK.or CZ zT,λds d e xs H W I r nd hn w Q q=>by
 unfold bQ at e;split at e
 .rename_i x n
  cases e1:tyN x with
  |none=>simp[e1]at e
  |some t=>
   rw[e1]at e;simp![YF]at e;split at e
   .cases e
    obtain⟨u,v,M,N,rfl,rfl,rx,B⟩:=r.inv2;rw[Rep]at B;obtain⟨rfl,_⟩:=B;exact .inl ⟨u,n,_,_,rfl,B_ rx e1,Hb e1 ‹_›,q.scal λ_=>gJ⟩
   .cases e
 .rename_i x ts
  cases e1:tyN x with
  |none=>simp[e1]at e
  |some t=>
   cases e2:By ts with
   |none=>simp[e1,e2]at e
   |some ns=>
    rw[e1,e2]at e;simp![YF]at e;split at e
    .cases e
     obtain⟨u,v,M,N,rfl,rfl,rx,B⟩:=r.inv2;rw[Rep]at B;obtain⟨a,ys,rfl,U,O⟩:=B;have:=yK O e2;subst this;exact .inr ⟨u,a,ns,_,_,rfl,U,B_ rx e1,v8 e1 ‹_›,q.scal λ_=>gJ⟩
    .cases e
 .cases e⟩
theorem vQ{F:List V}{B:List D}{M0 N M1 R:List Addr}(O:aH G H W B F M1)(rr:Rep G H W res x R)(I:au B=true)(k2:aA B=true)(kr:clean res=true)
  (Y:a∉M1++R) (nd:(M1++R).Nodup) (sub:∀b∈M1++R,b∈M0∨b∈N)
  (q:∀x H' M' R,(∀b u,H b=some u->b∉a::M0->H' b=some u)->(∀W',Evo H H' W W'->Rep G H' W' (.lst .own B) (.ref a) M'/\Rep G H' W' res x R)->(M'++R).Nodup->(∀b∈M'++R,b∈a::M0∨b∈N∨H b=none)->clean (.lst .own B)=true->clean res=true->Q x H'):Q x (upd H a (.lst F)):=by
 have a0:=(by simpa[clean]using kr:aD res=true/\aB res=true);refine q x _ (a::M1) R (λb u U n=>by rw[aM (show b≠a from λz=>n (by rw[z];simp))];exact U) (λW' ev=>⟨?_,?_⟩) ?_ (λb U=>?_) (sW I k2) kr
 .rw[Rep]
  exact⟨a,F,M1,rfl,GJ O I k2 (λz=>Y (Za _ z)) ev,aY,rfl⟩
 .exact rr.mono ev (.inl a0.1) (.inl a0.2) λc Z u J=>by rw[aM (show c≠a from λz=>Y (zc _ (z▸Z)))];exact J
 .rw[Zx]
  exact Zg.mpr ⟨Y,nd⟩
 .rw[Zx]at U
  rcases YJ.mp U with z|z
  .exact .inl (by simp[z])
  .exact(sub b z).imp (λz=>Zf _ z) .inl
theorem jE(h:au ds=true):∀d∈ds,aD d=true:=λd hd=>let⟨i,hi⟩:=ae1 hd;iT h hi
theorem jF(h:aA ds=true):∀d∈ds,aB d=true:=λd hd=>let⟨i,hi⟩:=ae1 hd;iU h hi
theorem bI:∀{ds:List D},(∀d∈ds,aD d=true)->au ds=true
 |[],_=>rfl
 |d::r,h=>by rw[au,h d (by simp),bI λe V=>h e (by simp[V])];rfl
theorem bG:∀{ds:List D},(∀d∈ds,aB d=true)->aA ds=true
 |[],_=>rfl
 |d::r,h=>by rw[aA,h d (by simp),bG λe V=>h e (by simp[V])];rfl
theorem aH.revL:∀{ds:List D}{xs:List V}{L:List Addr},aH G H W ds xs L->∃M,aH G H W ds.reverse xs.reverse M/\aaM M L
 |[],xs,L,r=>by obtain⟨rfl,rfl⟩:=r.inv0;exact⟨[],.nil,.refl _⟩
 |d::t,xs,L,r=>by
  obtain⟨x,ys,M,M',rfl,rfl,h1,h2⟩:=r.inv;obtain⟨N,B,Y⟩:=aH.revL h2;refine⟨N++M,?_,(Y.append_right M).trans ab7⟩;rw[acJ,acJ];exact B.append (.one h1)
def lU:D->List D->Option (D×D)
 |.lst .own ds,[.int i]=>if ds.length<1000000 then(ixN ds.length i).bind λk=>(ds[k]?).map λe=>(.lst .own (ds.eraseIdx k),e)else none
 |_,_=>none
theorem aH.erase(h:aH G H W ds xs L)(e:ds[j]? =some d):∃x M N,xs[j]? =some x/\Rep G H W d x M/\aH G H W (ds.eraseIdx j) (xs.eraseIdx j) N/\aaM (N++M) L:=by
 obtain⟨A,B,x,ys,zs,I,M,J,rfl,q,rfl,Y,rfl,h1,h2,F⟩:=h.at e;refine⟨x,M,I++J,by rw[aad 1.11,Y,abM];rfl,h2,?_,?_⟩
 .have e1:(A++d::B).eraseIdx j=A++B:=by rw[aaZ 1.11,q,abM];rfl
  have e2:(ys++x::zs).eraseIdx j=ys++zs:=by rw[aaZ 1.11,Y,abM];rfl
  rw[e1,e2];exact h1.append F
 .rw[ab1]
  exact List.Perm.append_left I ab7
theorem pX(h:d∈ds.eraseIdx k):d∈ds:=(aeJ ds k).subset h
theorem Ci{e:D}{M0 N:List Addr}(O:aH G H W ds ys M0)(nd:((a::M0)++N).Nodup)(Z:clean (.lst .own ds)=true)(I:ds[k]? =some e)
  (q:∀x H' M' R,(∀b u,H b=some u->b∉a::M0->H' b=some u)->(∀W',Evo H H' W W'->Rep G H' W' (.lst .own (ds.eraseIdx k)) (.ref a) M'/\Rep G H' W' e x R)->(M'++R).Nodup->(∀b∈M'++R,b∈a::M0∨b∈N∨H b=none)->clean (.lst .own (ds.eraseIdx k))=true->clean e=true->Q x H'):∃y,ys[k]? =some y/\Q y (upd H a (.lst (ys.eraseIdx k))):=by
 obtain⟨k1,B⟩:=mF Z;obtain⟨x,M,L,F,rx,rl,Y⟩:=O.erase I;have J:=YX.mp nd;have hn:=Zg.mp J.1;refine⟨x,F,vQ (M0:=M0) (N:=N) rl rx (bI λd hd=>jE k1 d (pX hd)) (bG λd hd=>jF B d (pX hd)) (by simp[clean,iT k1 I,iU B I]) (λz=>hn.1 (Y.mem_iff.mp z)) (Y.nodup_iff.mpr hn.2) (λb U=>.inl (Y.mem_iff.mp U)) q⟩
theorem Jl:MuV G Np lU:=λd es d' res h v xs H W M N r I nd J Z c1 B Q q=>by
 unfold lU at h;split at h
 .rename_i ds i
  split at h
  .rename_i hl
   cases h1:ixN ds.length i with
   |none=>simp[h1]at h
   |some k=>
    cases h2:ds[k]? with
    |none=>simp[h1,h2]at h
    |some e=>
     obtain⟨rfl,rfl⟩:D.lst .own (ds.eraseIdx k)=d'/\e=res:=by simpa[h1,h2]using h
     rw[Rep]at r;obtain⟨a,ys,M0,rfl,O,Y,rfl⟩:=r;obtain⟨x,rfl,F⟩:=I.inv1;obtain⟨rfl,rfl⟩:=bu F;obtain⟨g1,g2,g3,g4⟩:=y_ h1;obtain⟨y,V,U⟩:=Ci O nd Z h2 q;exact⟨a,ys,i,k,y,rfl,rfl,Y,by omega,by omega,by rw[←O.length];exact g1,V,U⟩
  .cases h
 .cases h
theorem Jw:MuB X G "list" "list.pop" lU:=⟨_,λc=>J2,Jl,vM rfl λd es q e=>by
 unfold lU at e;split at e
 .exact⟨_,_,rfl⟩
 .cases e⟩
def vP:D->List D->Option (D×D)
 |.lst .own ds,[]=>(ds[ds.length-1]?).map λe=>(.lst .own ds.dropLast,e)
 |_,_=>none
theorem RN:MuV G XJ vP:=λd es d' res h v xs H W M N r I nd J Z U B Q q=>by
 unfold vP at h;split at h
 .rename_i ds
  cases h2:ds[ds.length-1]? with
  |none=>simp[h2]at h
  |some e=>
   obtain⟨rfl,rfl⟩:D.lst .own ds.dropLast=d'/\e=res:=by simpa[h2]using h
   rw[Rep]at r;obtain⟨a,ys,M0,rfl,O,Y,rfl⟩:=r;obtain⟨rfl,rfl⟩:=I.inv0;rw[←qJ]at q;obtain⟨y,V,F⟩:=Ci O nd Z h2 q;rw[O.length]at V F;rw[qJ]at F;exact⟨a,ys,y,rfl,rfl,Y,V,F⟩
 .cases h
theorem Rp:MuB X G "list" "list.pop" vP:=⟨_,λc=>Vq,RN,vM rfl λd es q e=>by
 unfold vP at e;split at e
 .exact⟨_,_,rfl⟩
 .cases e⟩
theorem aH.takeDrop(h:aH G H W ds xs L)(k:Nat):∃A B,aH G H W (ds.take k) (xs.take k) A/\aH G H W (ds.drop k) (xs.drop k) B/\L=A++B:=by
 rw[←ac7 k ds]at h;obtain⟨ys,zs,A,B,rfl,rfl,h1,h2⟩:=h.split;have Y:=h1.length;by_cases I:k<=ds.length
 .have hk':ys.length=k:=by rw[←Y,abK];omega
  refine⟨A,B,?_,?_,rfl⟩
  .rw[←hk',List.take_left,hk'];exact h1
  .rw[←hk',List.drop_left,hk'];exact h2
 .have e1:ds.take k=ds:=ab0 1.11
  have e2:ds.drop k=[]:=acS 1.11;rw[e1]at h1 Y;rw[e2]at h2;obtain⟨rfl,rfl⟩:=h2.inv0;refine⟨A,[],?_,?_,by simp⟩
  .rw[e1,List.append_nil,ab0 1.11];exact h1
  .rw[e2,List.append_nil,acS 1.11];exact .nil
def nJ:D->List D->Option (D×D)
 |.lst .own _,[]=>some (.lst .own [],.non)
 |_,_=>none
theorem JC:MuV G Kg nJ:=λd es d' res h v xs H W M N r I nd J Z D B Q q=>by
 unfold nJ at h;split at h
 .cases h
  rw[Rep]at r;obtain⟨a,ys,M0,rfl,O,Y,rfl⟩:=r;obtain⟨rfl,rfl⟩:=I.inv0;exact⟨a,ys,rfl,rfl,Y,vQ (M0:=M0) (N:=[]) (M1:=[]) (R:=[]) .nil km rfl rfl rfl (by simp) (by simp) (by simp) q⟩
 .cases h
theorem Jj:MuB X G "list" "list.clear" nJ:=⟨_,λc=>Lk,JC,vM rfl λd es q e=>by
 unfold nJ at e;split at e
 .exact⟨_,_,rfl⟩
 .cases e⟩
def il:D->List D->Option (D×D)
 |.lst .own ds,[]=>some (.lst .own ds.reverse,.non)
 |_,_=>none
theorem Ck:MuV G CN il:=λd es d' res h v xs H W M N r V nd hM Z c1 B Q q=>by
 unfold il at h;split at h
 .rename_i ds
  cases h;rw[Rep]at r;obtain⟨a,ys,M0,rfl,O,Y,rfl⟩:=r;obtain⟨rfl,rfl⟩:=V.inv0;obtain⟨I,D⟩:=mF Z;obtain⟨M1,h1,F⟩:=O.revL;have J:=YX.mp nd;have hn:=Zg.mp J.1;refine⟨a,ys,rfl,rfl,Y,vQ (M0:=M0) (N:=[]) (R:=[]) h1 km (bI λd hd=>jE I d (afY.mp hd)) (bG λd hd=>jF D d (afY.mp hd)) rfl (λz=>hn.1 (F.mem_iff.mp (by simpa using z))) (by rw[List.append_nil];exact F.nodup_iff.mpr hn.2) (λb U=>.inl (F.mem_iff.mp (by simpa using U))) q⟩
 .cases h
theorem ut:MuB X G "list" "list.reverse" il:=⟨_,λc=>Eh,Ck,vM rfl λd es q e=>by
 unfold il at e;split at e
 .exact⟨_,_,rfl⟩
 .cases e⟩
def bK:List Key->List D->List (Key×D)->List Key×List D
 |ks,ds,[]=>(ks,ds)
 |ks,ds,p::r=>bK (gH ks ds p.1 p.2).1 (gH ks ds p.1 p.2).2 r
variable{k:Key}
theorem Ow{N:List Addr}(O:aH G H W ds (List.map (·.2) kvs) M)(hn:(List.map (·.1) kvs).Nodup)(F:Rep G H W d x N)(nd:(M++N).Nodup) :
  (List.map (·.1) (putK kvs k x)=(gH (List.map (·.1) kvs) ds k d).1/\(List.map (·.1) (putK kvs k x)).Nodup)/\(putK kvs k x).length<=kvs.length+1/\∃M',aH G H W (gH (List.map (·.1) kvs) ds k d).2 (List.map (·.2) (putK kvs k x)) M'/\M'.Nodup/\∀a∈M',a∈M∨a∈N:=by
 have J:=YX.mp nd;cases hj:fB (kvs.map (·.1)) k with
 |some j=>
  have a1:j<ds.length:=by rw[O.length];simpa using vy hj
  obtain⟨A,M1,B,U,a0⟩:=O.set (YT a1) F;obtain⟨p1,p2⟩:=Cp (v:=x) hj hn;have q:aav (A++B) M:=by rw[U];exact(abe A).append (aat M1 B)
  have Z:=YX.mp (q.nodup J.1);have I:∀z∈N,z∉A++B:=λz h1 h2=>J.2.2 z (q.subset h2) z h1 rfl;simp![gH,hj];refine⟨⟨p1,by rw[p1];exact hn⟩,?_,A++(N++B),by rw[p2];exact a0,dN Z.1 (dN J.2.1 Z.2.1 λz h1 h2=>I z h1 (by simp[h2])) λz h1 h2=>?_,λa Y=>?_⟩
  .have:(putK kvs k x).length=kvs.length:=by have:=congrArg aaX p1;simpa using this
   omega
  .rcases YC.mp h2 with y|y
   .exact I z y (by simp[h1])
   .exact Z.2.2 z h1 z y rfl
  .simp![YC]at Y
   rcases Y with z|z|z
   .exact .inl (q.subset (by simp[z]))
   .exact .inr z
   .exact .inl (q.subset (by simp[z]))
 |none=>
  simp![gH,hj];have e:putK kvs k x=kvs++[(k,x)]:=oF hj;rw[e];refine⟨⟨by simp,?_⟩,by simp,M++N,by rw[Zq];exact O.append (.one F),nd,λa Y=>YC.mp Y⟩;rw[Zq];exact YX.mpr ⟨hn,by simp,λa h1 b h2 z=>by
   obtain rfl:b=k:=by simpa using h2
   exact vN hj (z▸h1)⟩
theorem qR{H:Hp}{W:Wn}:∀{es:List (Key×D)}{prs kvs:List (Key×V)}{ds:List D}{M N:List Addr},List.map (·.1) es=List.map (·.1) prs->aH G H W (List.map (·.2) es) (List.map (·.2) prs) N->aH G H W ds (List.map (·.2) kvs) M->(List.map (·.1) kvs).Nodup->(M++N).Nodup->
  (List.map (·.1) (putAll kvs prs)=(bK (List.map (·.1) kvs) ds es).1/\(List.map (·.1) (putAll kvs prs)).Nodup)/\∃M',aH G H W (bK (List.map (·.1) kvs) ds es).2 (List.map (·.2) (putAll kvs prs)) M'/\M'.Nodup/\∀a∈M',a∈M∨a∈N
 |[],prs,kvs,ds,M,N,hk,h1,h2,hn,nd=>by
  have:prs=[]:=by cases prs with
   |nil=>rfl
   |cons p r=>cases hk
  subst this;exact⟨⟨rfl,hn⟩,M,h2,(YX.mp nd).1,λa Y=>.inl Y⟩
 |e::es,prs,kvs,ds,M,N,hk,h1,h2,hn,nd=>by
  cases prs with
  |nil=>cases hk
  |cons p prs=>
   obtain⟨x,ys,N1,N2,a2,rfl,F,a4⟩:=aH.inv h1;simp![YL,List.cons.injEq]at hk a2;obtain⟨rfl,rfl⟩:=a2;have a0:=YX.mp nd;have a1:=YX.mp a0.2.1;have a3:(M++N1).Nodup:=dN a0.1 a1.1 λa Z J=>a0.2.2 a Z a (by simp[J]) rfl;obtain⟨⟨q1,q2⟩,q,M1,q4,q5,q6⟩:=Ow (k:=p.1) h2 hn F a3;have a5:(M1++N2).Nodup:=dN q5 a1.2.1 λa Z J=>by
    rcases q6 a Z with z|z
    .exact a0.2.2 a z a (by simp[J]) rfl
    .exact a1.2.2 a z a J rfl
   rw[←hk.1]at q1 q2 q4;have O:=qR (es:=es) (prs:=prs) (kvs:=putK kvs e.1 p.2) hk.2 a4 q4 q2 a5;rw[q1]at O;obtain⟨⟨U,B⟩,M',I,r4,r5⟩:=O;have a6:putAll kvs (p::prs)=putAll (putK kvs e.1 p.2) prs:=by rw[hk.1];rfl
   rw[a6];refine⟨⟨U,B⟩,M',I,r4,λa Y=>?_⟩;rcases r5 a Y with z|z
   .exact(q6 a z).imp id λz=>by simp[z]
   .exact .inr (by simp[z])
theorem jM(P:D->Prop):∀{es:List (Key×D)}{ks:List Key}{ds:List D},(∀d∈ds,P d)->(∀p∈es,P p.2)->∀d∈(bK ks ds es).2,P d
 |[],ks,ds,h1,h2=>h1
 |p::r,ks,ds,h1,h2=>by
  rw[bK];refine jM P (λd hd=>?_) λq B=>h2 q (by simp[B]);unfold gH at hd;split at hd
  .rcases List.mem_or_eq_of_mem_set hd with z|z
   .exact h1 d z
   .rw[z];exact h2 p (by simp)
  .rcases YC.mp hd with z|z
   .exact h1 d z
   .obtain rfl:d=p.2:=by simpa using z
    exact h2 p (by simp)
def sZ:List D->Option (List (Key×D))
 |[]=>some []
 |.tup [k,v]::r=>(du k).bind λk=>(sZ r).map λt=>(k,v)::t
 |_::_=>none
theorem Br:∀{ds:List D}{es:List (Key×D)},sZ ds=some es->∀p∈es,∃k,du k=some p.1/\D.tup [k,p.2]∈ds
 |[],es,h,p,hp=>by cases h;cases hp
 |d::r,es,h,p,hp=>by
  unfold sZ at h;split at h
  .rename_i e;cases e
  .rename_i k v t e
   cases e;cases h1:du k with
   |none=>simp[h1]at h
   |some V=>
    cases h2:sZ r with
    |none=>simp[h1,h2]at h
    |some w=>
     obtain rfl:(V,v)::w=es:=by simpa[h1,h2]using h
     rcases YJ.mp hp with z|z
     .subst z;exact⟨k,h1,by simp⟩
     .obtain⟨k2,g1,g2⟩:=Br h2 p z
      exact⟨k2,g1,by simp[g2]⟩
  .cases h
theorem K9{k:D}{F:Key}(h:du k=some F)(r:Rep G H W k x L):L=[]:=by
 cases k<;>simp[du]at h<;>rw[Rep]at r<;>exact r.2
theorem vO{H:Hp}{W:Wn}:∀{ds:List D}{es:List (Key×D)}{ys:List V}{N:List Addr},sZ ds=some es->aH G H W ds ys N->∃prs:List (Key×V),List.map (·.1) es=List.map (·.1) prs/\aH G H W (List.map (·.2) es) (List.map (·.2) prs) N/\prs.length=ys.length/\∀(j:Nat)(k:Key)(v:V),prs[j]? =some (k,v)->∃p:Addr,ys[j]? =some (V.ref p)/\H p=some (.tup [kV k,v])
 |[],es,ys,N,h,r=>by
  cases h;obtain⟨rfl,rfl⟩:=r.inv0;exact⟨[],rfl,.nil,rfl,λj k v e=>by simp at e⟩
 |d::r,es,ys,N,h,rr=>by
  unfold sZ at h;split at h
  .rename_i e;cases e
  .rename_i k v t e
   cases e;cases h1:du k with
   |none=>simp[h1]at h
   |some k'=>
    cases h2:sZ r with
    |none=>simp[h1,h2]at h
    |some w=>
     obtain rfl:(k',v)::w=es:=by simpa[h1,h2]using h
     obtain⟨x,zs,N1,Z,rfl,rfl,F,J⟩:=rr.inv;obtain⟨prs,O,g2,g3,q⟩:=vO h2 J;rw[Rep]at F;obtain⟨a,xs,rfl,U,a1⟩:=F;obtain⟨y1,I,A,B,rfl,rfl,a0,Y⟩:=a1.inv2;have hA:=K9 h1 a0;subst hA;have:=jV a0 h1;subst this;refine⟨(k',I)::prs,by simp[O],.cons Y g2,by simp[g3],λj k v e=>?_⟩;cases j with
     |zero=>
      simp at e;obtain⟨rfl,rfl⟩:=e;exact⟨a,rfl,U⟩
     |succ j=>exact q j k v (by simpa using e)
  .cases h
theorem dW.at2{D:Addr->HO->Prop}(h:dW D H W a o m L M)(N:(m== .scr)=false):H a=some o:=h.at (by intro z;rw[z]at N;cases N)
def wA:List D->Option D
 |[.lst m ds]=>if(m== .scr)=false/\ds.length<=50000 then(sZ ds).map λes=>.dct .own (bK [] [] es).1 (bK [] [] es).2 else none
 |_=>none
theorem Mt(Z:∀c,(X c).calm=true):CaB X G (.type "dict") wA:=⟨_,λc=>uU (Z c),λds d e xs H W I r nd hn w Q q=>by
 unfold wA at e;split at e
 .rename_i m ds
  split at e
  .rename_i hm
   cases h1:sZ ds with
   |none=>simp[h1]at e
   |some es=>
    obtain rfl:D.dct .own (bK [] [] es).1 (bK [] [] es).2=d:=by simpa[h1]using e
    show 3;obtain⟨a,ys,M,rfl,O,B⟩:=rx;obtain⟨prs,g1,g2,F,g4⟩:=vO h1 O;have a1:M.Nodup:=B.sub.nodup nd;obtain⟨⟨p1,p2⟩,M',V,p4,p5⟩:=qR (kvs:=[]) (M:=[]) g1 g2 .nil (by simp) (by simpa using a1);refine⟨a,ys,prs,rfl,B.at2 hm.1,F,by rw[F,←O.length];exact hm.2,g4,λp N=>?_⟩;have sm:Same H (upd H p (.dK (putAll [] prs))):=Same.new N;have np:p∉M':=λz=>by obtain⟨o,J,_⟩:=V.dom p z;rw[N]at J;cases J
    have a0:∀a∈M',a∈I:=λa Y=>(p5 a Y).elim (λz=>by cases z) λz=>B.sub.subset z;refine q (.ref p) _ (p::M') sm ?_ (λa Y=>(YJ.mp Y).elim (λz=>.inr (by rw[z];exact N)) λz=>.inl (a0 a z)) (Zg.mpr ⟨np,p4⟩);rw[Rep];exact⟨p,putAll [] prs,M',rfl,⟨p1,p1▸p2⟩,V.up ⟨sm,λb u U f=>⟨λz=>z.elim (λz=>(YJ.mp z).elim (λz=>by rw[z,N]at U;cases U) λz=>f.1 (hn b (a0 b z)).1) λz=>f.1 z.1,f.2⟩,λ_ _ _ f=>f⟩,aY,rfl⟩
  .cases e
 .cases e⟩
def lw:D->List D->Option (D×D)
 |.dct .own ks ds,[.lst m es]=>if(m== .scr)=false/\ks.length+es.length<=50000 then(sZ es).map λps=>(.dct .own (bK ks ds ps).1 (bK ks ds ps).2,.non)else none
 |.dct .own ks ds,[.dct m ks2 es]=>if(m== .scr)=false/\ks.length+ks2.length<=50000 then some (.dct .own (bK ks ds (ks2.zip es)).1 (bK ks ds (ks2.zip es)).2,.non)else none
 |_,_=>none
theorem xY(h1:au ds=true)(h2:aA ds=true):clean (.dct .own ks ds)=true:=by simp[clean,aD,aB,h1,h2]
theorem CP{prs:List (Key×V)}{es:List (Key×D)}{M0 N N0:List Addr}(I:List.map (·.1) es=List.map (·.1) prs)(h1:aH G H W (List.map (·.2) es) (List.map (·.2) prs) N)(B:∀b∈N,b∈N0)(O:aH G H W ds (List.map (·.2) kvs) M0)(hn:(List.map (·.1) kvs).Nodup)(Y:N.Nodup)(nd:((a::M0)++N0).Nodup)
  (Z:au ds=true/\aA ds=true) (ce:∀p∈es,aD p.2=true/\aB p.2=true)
  (q:∀x H' M' R,(∀b u,H b=some u->b∉a::M0->H' b=some u)->(∀W',Evo H H' W W'->Rep G H' W' (.dct .own (bK (List.map (·.1) kvs) ds es).1 (bK (List.map (·.1) kvs) ds es).2) (.ref a) M'/\Rep G H' W' .non x R)->(M'++R).Nodup->(∀b∈M'++R,b∈a::M0∨b∈N0∨H b=none)->clean (.dct .own (bK (List.map (·.1) kvs) ds es).1 (bK (List.map (·.1) kvs) ds es).2)=true->clean .non=true->Q x H'):Q .non (upd H a (.dK (putAll kvs prs))):=by
 have a0:=YX.mp nd;have a1:=Zg.mp a0.1;have F:(M0++N).Nodup:=dN a1.2 Y λb z1 z2=>a0.2.2 b (Zf _ z1) b (B b z2) rfl;obtain⟨⟨p1,p2⟩,M',p3,p4,p5⟩:=qR I h1 O hn F;have a2:a∉M':=λz=>(p5 a z).elim a1.1 λz=>a0.2.2 a (by simp) a (B a z) rfl;have k1:au (bK (List.map (·.1) kvs) ds es).2=true:=bI (jM (λd=>aD d=true) (jE Z.1) λp hp=>(ce p hp).1);have k2:aA (bK (List.map (·.1) kvs) ds es).2=true:=bG (jM (λd=>aB d=true) (jF Z.2) λp hp=>(ce p hp).2);refine q .non _ (a::M') [] (λb u U n=>by rw[aM (show b≠a from λz=>n (by rw[z];simp))];exact U) (λW' ev=>⟨?_,km⟩) (by rw[List.append_nil];exact Zg.mpr ⟨a2,p4⟩) (λb U=>?_) (xY k1 k2) rfl
 .rw[Rep]
  refine⟨a,putAll kvs prs,M',rfl,⟨p1,p1▸p2⟩,p3.mono ev (.inl k1) (.inl k2) λc Z u J=>?_,aY,rfl⟩;rw[aM (show c≠a from λz=>a2 (z▸Z))];exact J
 .rw[List.append_nil]at U
  rcases YJ.mp U with z|z
  .exact .inl (by simp[z])
  .exact(p5 b z).imp (λz=>Zf _ z) λz=>.inl (B b z)
theorem Rk(h:ks.length=ds.length):List.map (·.1) (ks.zip ds)=ks:=afZ 1.11
theorem RT(h:ks.length=ds.length):List.map (·.2) (ks.zip ds)=ds:=af0 1.11
theorem DN:MuV G Fv lw:=λd es d' res h v xs H W M N r re nd hM Z c1 c2 Q q=>by
 unfold lw at h;split at h
 .rename_i ks ds m es
  split at h
  .rename_i hm
   cases h1:sZ es with
   |none=>simp[h1]at h
   |some ps=>
    obtain⟨rfl,rfl⟩:D.dct .own (bK ks ds ps).1 (bK ks ds ps).2=d'/\D.non=res:=by simpa[h1]using h
    rw[Rep]at r;obtain⟨a,kvs,M0,rfl,⟨rfl,a0⟩,O,Y,rfl⟩:=r;obtain⟨x,rfl,rx⟩:=re.inv1;rw[Rep]at rx;obtain⟨b,ys,N1,rfl,V,B⟩:=rx;obtain⟨prs,g1,g2,F,g4⟩:=vO h1 V;have kc:au ds=true/\aA ds=true:=by simp[clean,aD,aB]at Z;exact Z
    have ke:au es=true/\aA es=true:=by simp[au,aA,aD,aB]at c1 c2;exact⟨c1.2,c2.2⟩
    have J:=YX.mp nd;refine⟨a,kvs,rfl,Y,.inl ⟨b,ys,prs,rfl,B.at2 hm.1,F,by rw[F,←V.length];simpa using hm.2,g4,CP g1 g2 (λc Z=>B.sub.subset Z) O a0 (B.sub.nodup J.2.1) nd kc (λp hp=>?_) q⟩⟩;obtain⟨k,_,I⟩:=Br h1 p hp;have z1:=jE ke.1 _ I;have z2:=jF ke.2 _ I;simp[aD,aB,au,aA]at z1 z2;exact⟨z1.2,z2.2⟩
  .cases h
 .rename_i ks ds m ks2 es
  split at h
  .rename_i hm
   cases h;rw[Rep]at r;obtain⟨a,kvs,M0,rfl,⟨rfl,a0⟩,O,Y,rfl⟩:=r;obtain⟨x,rfl,rx⟩:=re.inv1;rw[Rep]at rx;obtain⟨b,more,N1,rfl,⟨rfl,a3⟩,V,B⟩:=rx;have kc:au ds=true/\aA ds=true:=by simp[clean,aD,aB]at Z;exact Z
   have ke:au es=true/\aA es=true:=by simp[au,aA,aD,aB]at c1 c2;exact⟨c1.2,c2.2⟩
   have a1:(List.map (·.1) more).length=es.length:=by rw[V.length];simp
   have U:H b=some (.dK more):=B.at2 hm.1;have J:=YX.mp nd;have a2:b≠a:=by
    cases m with
    |own=>exact λz=>J.2.2 a (by simp) a (by rw[B.2,z];simp) rfl
    |frz=>exact λz=>hM a (by simp) (z▸B.2.1)
    |brw=>simp[au,aD]at c1
    |bro=>simp[aA,aB]at c2
    |scr=>exact absurd hm.1 (by decide)
   refine⟨a,kvs,rfl,Y,.inr ⟨b,more,rfl,a2,U,by simpa using hm.2,CP (es:=(List.map (·.1) more).zip es) (Rk a1) (by rw[RT a1];exact V) (λc Z=>B.sub.subset Z) O a0 (B.sub.nodup J.2.1) nd kc (λp hp=>?_) q⟩⟩;have I:=(ack hp).2;exact⟨jE ke.1 _ I,jF ke.2 _ I⟩
  .cases h
 .cases h
theorem U7{op:D->List D->Option (D×D)}(Y:T="dict")(h:∀d es q,op d es=some q->∃ks ds,d= .dct .own ks ds):Jd G T op:=λd es q e v H W L r=>by
 obtain⟨ks,ds,rfl⟩:=h d es q e;rw[Rep]at r;obtain⟨a,xs,M,rfl,I,O,B⟩:=r;exact .inr (.inr (.inl ⟨Y,.inl ⟨_,B.1⟩⟩))
theorem Ds(Z:∀c,(X c).calm=true):MuB X G "dict" "dict.update" lw:=⟨_,λc=>HQ (Z c),DN,U7 rfl λd es q e=>by
 unfold lw at e;split at e
 .exact⟨_,_,rfl⟩
 .exact⟨_,_,rfl⟩
 .cases e⟩
def eMt(g:D->List D->Option D)(I:En->Option D)(f:En->Option (List D)):En->Option D:=λρ=>(I ρ).bind λx=>(f ρ).bind λds=>g x ds
theorem WR{id:String}{g:D->List D->Option D}{o:Expr}{f:En->Option (List D)}(m:MtB X G T id g)(Z:acC T)(slot:Slot T U id)(N:aeE (.builtin id)=pure (.type "method_descriptor"))(J:PV X G ob o fo)(Y:PVA X G ob (e::es) f)(q:∀c,aaO o U (X c).env (eval o (X c).env)=eval o (X c).env:=by intro _;rfl)(O:∀c,((aak cpos (YQ (e::es) (X c).env)).all (λx=>!x.1)&&(aca cpos (abi [] (X c).env)).all (λx=>x.1.isSome)
  &&decide ((e::es).length+([]:List adm).length+(if([]:List adm).isEmpty then 0 else 1)<30))=true:=by intro _;rfl) (V:(apos.endLine==cpos.line)=true:=by rfl) (B:∀c,YQ (e::es) (X c).env=(false,eval e (X c).env)::YQ es (X c).env:=by intro _;rfl) (I:∀c,(aak cpos (YQ es (X c).env)).any (·.1)=false:=by intro _;rfl) (F:∀c,(X c).K=G.K:=by intro _;rfl) :
 PV X G ob (.Call (.Attribute o U apos) (e::es) [] cpos) (eMt g fo f):=let⟨r,m1,m2,m3⟩:=m.ex;let⟨t,a1,a2⟩:=J.ex;let⟨u,b1,b2⟩:=Y.ex;⟨_,λc=>(by rw[←F c];exact KQ Z slot N (m1 c) (a1 c) (b1 c) (q c) (O c) V (B c) (I c)),Kq m2 m3 a2 b2⟩
def Aq(a b:Str):Option (List Str):=
 if(decide (a.length<b.length)||decide (aci a<aci b))=false/\(b.length==0)=false/\(aab a b 0 a.length (a.length+1)).isEmpty=false/\a.length<=YM/\(acv a (aab a b 0 a.length (a.length+1)) b.length).length<=YM
 then some (acv a (aab a b 0 a.length (a.length+1)) b.length)else none
def v5:D->List D->Option D
 |.str a,[.str b]=>(Aq a b).map λl=>.lst .own (l.map D.str)
 |_,_=>none
theorem Dc:∀l:List Str,aH G H W (l.map D.str) (l.map V.str) []
 |[]=>.nil
 |x::r=>aH.cons (M:=[]) (M':=[]) (by rw[Rep];exact⟨rfl,rfl⟩) (Dc r)
theorem Jv:MtB X G "str" "str.split" v5:=⟨_,λc=>J0,λdx ds d e x xs H W B I rx r nd hn w Q q=>(by
 unfold v5 at e;split at e
 .rename_i a b
  cases h1:Aq a b with
  |none=>simp[h1]at e
  |some l=>
   obtain rfl:D.lst .own (l.map D.str)=d:=by simpa[h1]using e
   obtain⟨y,rfl,F⟩:=r.inv1;obtain⟨rfl,rfl⟩:=cz rx;obtain⟨rfl,rfl⟩:=cz F;unfold Aq at h1;split at h1
   .rename_i hh
    cases h1;refine⟨a,b,_,rfl,rfl,hh.1,hh.2.1,hh.2.2.1,hh.2.2.2.1,rfl,hh.2.2.2.2,λp N=>?_⟩;refine q (.ref p) _ [p] (Same.new N) ?_ (λa Y=>.inr (by rw[show a=p by simpa using Y];exact N)) (by simp);rw[Rep];exact⟨p,_,[],rfl,Dc _,aY,rfl⟩
   .cases h1
 .cases e),λdx ds d e x H W B rx=>by
 unfold v5 at e;split at e
 .obtain⟨rfl,rfl⟩:=cz rx
  exact rfl
 .cases e⟩
def RfO(G:Gc)(ob:Nat->Bool)(t:TO)(f:En->Option (Option Int)):Prop:=∀(ρ:En)(o:Option Int),f ρ=some o->∀(σ:L2.St)(H:Hp)(W:Wn),Rel G H W ob ρ σ->WOk H W->∀Q:Option Int->Hp->Prop,(∀H',Same H H'->Q o H')->t σ H Q
structure PVO{ι:Type}(X:ι->Cx)(G:Gc)(ob:Nat->Bool)(e:Option Expr)(f:En->Option (Option Int)):Prop where
 mk::(ex:∃t,(∀c,PO (X c) e t)/\RfO G ob t f)
def fJ:En->Option (Option Int):=λ_=>some none
def fu(f:En->Option D):En->Option (Option Int):=λρ=>(f ρ).bind λd=>match d with
 |.int i=>some (some i)
 |_=>none
theorem jR:PVO X G ob none fJ:=⟨_,λc=>QV,λρ o e σ H W V w Q q=>by cases e;exact q H (Same.refl H)⟩
variable{f:En->Option D}
theorem jZ(h:PV X G ob e f):PVO X G ob (some e) (fu f):=let⟨t,a1,a2⟩:=h.ex;⟨_,λc=>QJ (a1 c),λρ o e σ H W V w Q q=>by
 unfold fu at e;cases h1:f ρ with
 |none=>simp[h1]at e
 |some d=>
  rw[h1]at e;simp![YF]at e;split at e
  .cases e
   refine a2 ρ _ h1 σ H W V w _ λv H' L s r F nd=>?_;obtain⟨rfl,rfl⟩:=bu r;exact⟨_,rfl,q H' s⟩
  .cases e⟩
def SlV(G:Gc)(r:V->Option Int->Option Int->Hp->VK->Prop)(g:D->Option Int->Option Int->Option D):Prop:=∀(dx:D)(lo hi:Option Int)(d:D),g dx lo hi=some d->∀(x:V)(H:Hp)(W:Wn)(B:List Addr),Rep G H W dx x B->B.Nodup->(∀a∈B,W.tmp a)->WOk H W->∀Q:VK,Done G H W B d Q->r x lo hi H Q
structure SlB{ι:Type}(X:ι->Cx)(G:Gc)(g:D->Option Int->Option Int->Option D):Prop where
 ex:∃r,(∀c,SlR (X c) r)/\SlV G r g
def o_(g:D->Option Int->Option Int->Option D)(f:En->Option D)(fl q:En->Option (Option Int)):En->Option D:=λρ=>(f ρ).bind λx=>(fl ρ).bind λl=>(q ρ).bind λh=>g x l h
def mY(g:D->Option Int->Option Int->Option D)(f:En->Option (D×En))(fl q:En->Option (Option Int)):En->Option (D×En):=λρ=>(f ρ).bind λp=>(fl p.2).bind λl=>(q p.2).bind λh=>(g p.1 l h).map λd=>(d,p.2)
theorem Xk{r:V->Option Int->Option Int->Hp->VK->Prop}{g:D->Option Int->Option Int->Option D}{tl th:TO}{fl fh:En->Option (Option Int)}(J:SlV G r g)(h:RfE G ob te f)(hl:RfO G ob tl fl)(hh:RfO G ob th fh):RfE G ob (tSl r te tl th) (o_ g f fl fh):=λρ d e σ H W rl w Q q=>by
 unfold o_ at e;cases h1:f ρ with
 |none=>simp[h1]at e
 |some x=>
  cases h2:fl ρ with
  |none=>simp[h1,h2]at e
  |some l=>
   cases B:fh ρ with
   |none=>simp[h1,h2,B]at e
   |some u=>
    have e:g x l u=some d:=by simpa[h1,h2,B]using e
    refine h ρ x h1 σ H W rl w _ λv H1 L O r1 F nd=>?_;have u1:Up H H1 W (W.add L):=.add O F;have w1:WOk H1 (W.add L):=w.add O r1.dom;refine hl ρ l h2 σ H1 _ (rl.up u1) w1 _ λH2 Z=>?_;have u2:Up H1 H2 (W.add L) (W.add L):=.same Z;have w2:WOk H2 (W.add L):=λa Y=>let⟨o,J,hm⟩:=w1 a Y;⟨o,Z a o J,hm⟩;refine hh ρ u B σ H2 _ ((rl.up u1).up u2) w2 _ λH3 N=>?_;have u3:Up H2 H3 (W.add L) (W.add L):=.same N;have w3:WOk H3 (W.add L):=λa Y=>let⟨o,J,hm⟩:=w2 a Y;⟨o,N a o J,hm⟩;have ss:=(O.trans Z).trans N;refine J x l u d e v H3 _ L ((r1.up u2).up u3) nd (w.tmp F) w3 Q λv' H4 L4 I r4 f4 n4=>?_;refine q v' H4 L4 (ss.trans I) ?_ (λa Y=>(f4 a Y).elim (F a) λz=>ss.none' z) n4;exact r4.up ⟨Same.refl _,λb u U f=>⟨λz=>z.elim (λz=>f.1 (.inl z)) λz=>f.1 (.inr ⟨.inr z,WOk.new w F z⟩),f.2⟩,λ_ _ _ f=>f⟩
def cutD(ds:List D)(lo hi:Option Int):List D:=(ds.drop (HT.sIx ds.length 0 lo)).take (HT.sIx ds.length ds.length hi-HT.sIx ds.length 0 lo)
def gSl:D->Option Int->Option Int->Option D
 |.lst _ ds,lo,hi=>some (.lst .own (cutD ds lo hi))
 |.tup ds,lo,hi=>some (.tup (cutD ds lo hi))
 |_,_,_=>none
theorem aH.cut(h:aH G H W ds xs L)(lo hi:Option Int):∃M,aH G H W (cutD ds lo hi) (wZ xs lo hi) M/\aav M L:=by
 unfold cutD wZ;rw[h.length];obtain⟨A,B,_,h2,rfl⟩:=h.takeDrop (HT.sIx xs.length 0 lo);obtain⟨Z,q,F,_,rfl⟩:=h2.takeDrop (HT.sIx xs.length xs.length hi-HT.sIx xs.length 0 lo);exact⟨Z,F,(acx Z q).trans (aat A _)⟩
theorem slb(F:∀c,(X c).K=G.K:=by intro _;rfl):SlB X G gSl:=⟨λx lo hi H Q=>W4 G.K x lo hi H Q∨V6 G.K x lo hi H Q,λc=>by rw[←F c];exact SlR.or Qu Vl,λdx lo hi d e x H W J rx nd hn w Q q=>by
 unfold gSl at e;split at e
 .cases e
  rw[Rep]at rx;obtain⟨a,xs,M,rfl,O,B⟩:=rx;obtain⟨M',h1,h2⟩:=O.cut lo hi;exact .inl ⟨a,xs,rfl,B.sq,λp N=>uf h1 (h2.trans B.sub) nd hn N q⟩
 .rename_i ds
  cases e;have I:=rx;rw[Rep]at rx;obtain⟨a,xs,rfl,U,O⟩:=rx;obtain⟨M',h1,h2⟩:=O.cut lo hi;refine .inr ⟨a,xs,rfl,SqT.of U,λD=>?_,λp N=>Il h1 h2 nd hn N q⟩;rw[D]at h1;refine Eo (d:=.tup (cutD ds lo hi)) (x:=.ref a) (M:=M') ?_ h2 nd hn q;rw[Rep];exact⟨a,xs,rfl,U,h1⟩
 .cases e⟩
def eSl:=o_ gSl
def uO:=mY gSl
theorem jX{lo hi:Option Expr}{fl q:En->Option (Option Int)}(o:SlB X G gSl)(h:PV X G ob e f)(Y:PVO X G ob lo fl)(N:PVO X G ob hi q):PV X G ob (.Subscript e (.Slice lo hi none p2) pos) (eSl f fl q):=let⟨r,o1,o2⟩:=o.ex;let⟨t,a1,a2⟩:=h.ex;let⟨u,b1,b2⟩:=Y.ex;let⟨v,c1,c2⟩:=N.ex;⟨_,λc=>L_ (o1 c) (a1 c) (b1 c) (c1 c),Xk o2 a2 b2 c2⟩
def inK(S:List Key)(k:Key):Bool:=S.any λx=>decide (x=k)
def mV(S:List Key)(k:Key):List Key:=if inK S k then S else S++[k]
def vd(ks:List Key):List Key:=ks.foldl mV []
variable{S:List Key}
theorem zA:inK S k=true↔k∈S:=by
 unfold inK;rw[ac1];constructor
 .rintro⟨x,h1,h2⟩
  rw[←of_decide_eq_true h2];exact h1
 .exact λh=>⟨k,h,by simp⟩
theorem Hj{x:Key}:inK (mV S k) x=(inK S x||decide (x=k)):=by
 rw[abW,af8,zA,zA,decide_eq_true_iff];unfold mV;split
 .rename_i h
  rw[zA]at h;exact⟨.inl,λz=>z.elim id λz=>by rw[z];exact h⟩
 .simp
theorem oH:(mV S k).length=if inK S k then S.length else S.length+1:=by
 unfold mV;split<;>simp
variable{P:Zr}
theorem Cq{P:Zr}{w:World}(r:RelV (kV k) u):u.scannable=true:=by
 cases k with
 |inl i=>obtain⟨t,rfl⟩:=r;rfl
 |inr x=>obtain⟨t,rfl⟩:=r;rfl
variable{l:Addr}{A:ZW}
theorem Nz{S it:Addr}(hh:A.handled=none)(hl:ks.length=its.length)(I:∀(j:Nat)(k:Key)(v:Value),ks[j]? =some k->its[j]? =some v->RelV (kV k) v)(U:its.length+1<acy)(nS:S≠it)(nl:l≠it)(a6:l≠S):∀(m i:Nat)(acc:List Key)(s:zb),its.length-i=m->i<=its.length->s.heap.IsList l its.toArray->s.heap.IsListIter it l i->s.heap.SetOf (bf prog w) S (inK acc) acc.length->acc.length<=i->
  (∀h' tk,(∀b o,b≠S->b≠it->s.heap.get? b=some o->h'.get? b=some o)->h'.SetOf (bf prog w) S (inK ((ks.drop i).foldl mV acc)) ((ks.drop i).foldl mV acc).length->R (.ok (.ret .none)) {s with heap:=h',toks:=tk})->
  abh 1.14 A (.builtin "set.update.loop" ⟨[.ref S,.ref it],[]⟩) R s:=by
 intro m
 induction m with
 |zero=>
  intro i acc s N hi pl Z D Y k;have e:i=its.length:=by omega
  subst e;refine aar abR ?_;rw[aah aaS _];unfold Builtin.«set.update.loop»;dsimp only;refine gD (ac5 (show A.in1.handled=none from hh) Z pl (by simp) λh' eb=>?_);dsimp only;refine YD (k h' _ (λb o _ b2 e=>eb b o b2 e) ?_);rw[←hl,aa1];obtain⟨o,es,ep,t,J,rest⟩:=D;exact⟨o,es,ep,t,eb S _ nS J,rest⟩
 |succ m O=>
  intro i acc s N hi pl Z D Y k;have B:i<its.length:=by omega
  have a2:i<ks.length:=by omega
  refine aar abR ?_;rw[aah aaS _];unfold Builtin.«set.update.loop»;dsimp only;refine gD (acN Z pl (x:=its[i]) (by simp[B]) λh1 a1 a0=>?_);dsimp only;have a7:h1.SetOf (bf prog w) S (inK acc) acc.length:=by
   obtain⟨o,es,ep,t,J,rest⟩:=D;exact⟨o,es,ep,t,(a0.2 S nS).trans J,rest⟩
  have rk:=I i ks[i] its[i] (YT a2) (YT B);refine gD (aaj ?_);unfold setAdd;refine aaj ?_;refine gD ((bf prog w).pyHash (k:=ks[i]) (mU rk) ?_);refine aeK (knd:=bf prog w) (mU rk) (Cq (P:=prog) (w:=w) rk) a7 1.11 λh2 q a4=>?_;refine YD ⟨abx aaS _,?_⟩;have a5:h2.SetOf (bf prog w) S (inK (mV acc ks[i])) (mV acc ks[i]).length:=by
   have e1:(λV=>inK acc V||decide (V=ks[i]))=inK (mV acc ks[i]):=funext λV=>Hj.symm;rw[←e1,oH];exact a4
  refine O (i+1) (mV acc ks[i]) _ 1.11 B ?_ ?_ a5 ?_ λh' tk kp a3=>k h' tk (λb o b1 b2 e=>kp b o b1 b2 ((q.2 b b1).trans ((a0.2 b b2).trans e))) ?_
  .obtain⟨o,h1',h2'⟩:=pl
   exact⟨o,(q.2 l a6).trans ((a0.2 l nl).trans h1'),h2'⟩
  .exact a1.extBut q.extBut (Zt nS)
  .rw[oH]
   split<;>omega
  .rw[abE a2]
   exact a3
abbrev jd(led:Bool):Obj:={cls:=.type "set",dict:=none,data:=.set #[] 0 (.fresh 0 0 led)}
def uc(prog:Zr)(w:World)(s:zb)(ks:List Key)(Z:zb):Prop:=∃h' tk,Z={s with heap:=h',toks:=tk}/\h'.SetOf (bf prog w) s.heap.objs.size (inK (vd ks)) (vd ks).length/\∀b o,s.heap.get? b=some o->h'.get? b=some o
variable{E:Value->zb->Prop}{s:zb}
theorem K4(N:A.handled=none)(Y:ks.length=its.length)(I:∀(j:Nat)(k:Key)(v:Value),ks[j]? =some k->its[j]? =some v->RelV (kV k) v)(U:its.length+1<acy)(pl:s.heap.IsList l its.toArray){R:aen->zb->Prop}
  (hR:∀Z,uc prog w s ks Z->R (.done (.ret .none)) Z):wpAny 1.14 A (Builtin.«set.__init__» ⟨[.ref s.heap.objs.size,.ref l],[]⟩) R E {s with heap:=s.heap.push (jd led)}:=by
 obtain⟨ol,a3,O,nl,a4⟩:=pl;obtain⟨a8,a0,a6,V⟩:=ol;simp only at O a4;subst O a4;show 2;have a2:(s.heap.push (jd led)).get? l=some {cls:=.type "list",dict:=a0,data:=.seq its.toArray nl,slots:=V}:=za _ a3;have b0:=F.sub_list_set;have a9:=F.sub_list_frozenset;have q:(aa6 "list"==aa6 "dict")=false:=by decide
 have B:(s.heap.push (jd led)).IsList l its.toArray:=⟨_,a2,rfl,nl,rfl⟩;unfold Builtin.«set.__init__» noKeywords adp;generalize a7:adZ=PI
 wp_walk
 subst a7;refine abA B ?_;refine gD (aeL ?_);have a5:l<s.heap.objs.size:=YG a3;refine Nz (prog:=prog) (w:=w) (its:=its) (ks:=ks) (A:=A) (S:=s.heap.objs.size) (l:=l) N Y I U ?_ ?_ (Zb a5) (its.length-0) 0 [] _ rfl (aaN _) ?_ ?_ ?_ (YK _) λh' tk kp J=>?_
 .show s.heap.objs.size≠(s.heap.push (jd led)).objs.size
  rw[ZQ];exact Zb (aaK _)
 .show l≠(s.heap.push (jd led)).objs.size
  rw[ZQ];exact Zb (aaT a5)
 .exact B.push _
 .exact⟨_,YS _ rfl,rfl,rfl⟩
 .have hget:((s.heap.push (jd led)).push {cls:=.type "list_iterator",data:=.fields #[.ref l,.int 0 0]}).get? s.heap.objs.size=some (jd led):=za _ D
  letI:BEq Key:=instBEqOfDecidableEq
  haveI:LawfulBEq Key:=inferInstance
  have e0:(λ_:Key=>false)=inK []:=funext λ_=>rfl;rw[←e0];exact(adx (knd:=bf prog w) led).setOf hget (by unfold acy;omega)
 .refine YD ?_
  show wpAny _ _ (ret ZZ) _ _ _;refine YD (hR _ ⟨h',tk,rfl,by rw[acD]at J;exact J,λb o e=>?_⟩);have a1:b<s.heap.objs.size:=YG e;refine kp b o (Zb a1) ?_ (za _ (za _ e));show b≠(s.heap.push (jd led)).objs.size;rw[ZQ];exact Zb (aaT a1)
variable{Q:Value->zb->Prop}
theorem Ja(N:A.handled=none)(V:ks.length=its.length)(I:∀(j:Nat)(k:Key)(v:Value),ks[j]? =some k->its[j]? =some v->RelV (kV k) v)(U:its.length+1<acy)(pl:s.heap.IsList l its.toArray)
  (h:∀Z,uc prog w s ks Z->Q (.ref s.heap.objs.size) Z):wpAny 1.14 A (call (.type "set") [.ref l]) Q E s:=by
 obtain⟨c,tl,a4⟩:=aal.mro;have a3:=aal.made;have q:=aal.sub;refine aeT (codeAny_of_tree ?_);show wpAny _ _ (callAny (.type "set") _) _ _ _;refine YD ⟨afv _ (by decide +kernel),aar afJ ?_⟩;rw[afw (aeM "set" [.ref l] []) rfl];have h1:=aal.notType;have h2:=aal.canCreate;have a5:=F.typeCall_set_1 (.ref l)
 show 1
 refine abm (code_set_new_1 (.ref l) (E:=E) (Q₁:=λobj a0=>∃led:Bool,obj= .ref s.heap.objs.size/\a0={s with heap:=s.heap.push (jd led)}) λled=>⟨led,rfl,rfl⟩) λr a0 O=>?_;cases r with
 |error e=>exact O
 |ok fl=>
  cases fl with
  |ret obj=>
   obtain⟨led,rfl,rfl⟩:=O;show 2;have a6:=aal.init.lookup;have a7:=aal.init.bind (.ref s.heap.objs.size)
   show 1
   refine abm (aaQ (R:=wants (λr Y=>r= .none/\uc prog w s ks Y) E) aal.init.plain F.entry_set_init (check_set_init_1 hT ?_)) λa2 Y J=>?_
   .exact K4 (led:=led) (by simp[N]) V I U pl λZ B=>⟨rfl,B⟩
   .cases a2 with
    |error e=>exact J
    |ok a1=>
     cases a1 with
     |ret r=>
      obtain⟨rfl,B⟩:=J
      show 1
      exact h _ B
     |_=>exact J.elim
  |_=>exact O.elim
theorem Jq{S it:Addr}(hh:A.handled=none)(hl:ks.length=its.length)(I:∀(j:Nat)(k:Key)(v:Value),ks[j]? =some k->its[j]? =some v->RelV (kV k) v)(U:its.length+1<acy)(nS:S≠it)(nl:l≠it)(a6:l≠S):∀(m i:Nat)(acc:List Key)(s:zb),its.length-i=m->i<=its.length->s.heap.IsTuple l its.toArray->s.heap.IsTupleIter it l i->s.heap.SetOf (bf prog w) S (inK acc) acc.length->acc.length<=i->
  (∀h' tk,(∀b o,b≠S->b≠it->s.heap.get? b=some o->h'.get? b=some o)->h'.SetOf (bf prog w) S (inK ((ks.drop i).foldl mV acc)) ((ks.drop i).foldl mV acc).length->R (.ok (.ret .none)) {s with heap:=h',toks:=tk})->
  abh 1.14 A (.builtin "set.update.loop" ⟨[.ref S,.ref it],[]⟩) R s:=by
 intro m
 induction m with
 |zero=>
  intro i acc s N hi pl Z D Y k;have e:i=its.length:=by omega
  subst e;refine aar abR ?_;rw[aah aaS _];unfold Builtin.«set.update.loop»;dsimp only;refine gD (aeq (show A.in1.handled=none from hh) Z pl (by simp) λh' eb=>?_);dsimp only;refine YD (k h' _ (λb o _ b2 e=>eb b o b2 e) ?_);rw[←hl,aa1];obtain⟨o,es,ep,t,J,rest⟩:=D;exact⟨o,es,ep,t,eb S _ nS J,rest⟩
 |succ m O=>
  intro i acc s N hi pl Z D Y k;have B:i<its.length:=by omega
  have a2:i<ks.length:=by omega
  refine aar abR ?_;rw[aah aaS _];unfold Builtin.«set.update.loop»;dsimp only;refine gD (aec Z pl (x:=its[i]) (by simp[B]) λh1 a1 a0=>?_);dsimp only;have a7:h1.SetOf (bf prog w) S (inK acc) acc.length:=by
   obtain⟨o,es,ep,t,J,rest⟩:=D;exact⟨o,es,ep,t,(a0.2 S nS).trans J,rest⟩
  have rk:=I i ks[i] its[i] (YT a2) (YT B);refine gD (aaj ?_);unfold setAdd;refine aaj ?_;refine gD ((bf prog w).pyHash (k:=ks[i]) (mU rk) ?_);refine aeK (knd:=bf prog w) (mU rk) (Cq (P:=prog) (w:=w) rk) a7 1.11 λh2 q a4=>?_;refine YD ⟨abx aaS _,?_⟩;have a5:h2.SetOf (bf prog w) S (inK (mV acc ks[i])) (mV acc ks[i]).length:=by
   have e1:(λV=>inK acc V||decide (V=ks[i]))=inK (mV acc ks[i]):=funext λV=>Hj.symm;rw[←e1,oH];exact a4
  refine O (i+1) (mV acc ks[i]) _ 1.11 B ?_ ?_ a5 ?_ λh' tk kp a3=>k h' tk (λb o b1 b2 e=>kp b o b1 b2 ((q.2 b b1).trans ((a0.2 b b2).trans e))) ?_
  .obtain⟨o,h1',h2'⟩:=pl
   exact⟨o,(q.2 l a6).trans ((a0.2 l nl).trans h1'),h2'⟩
  .exact a1.extBut q.extBut (Zt nS)
  .rw[oH]
   split<;>omega
  .rw[abE a2]
   exact a3
theorem HR(N:A.handled=none)(Y:ks.length=its.length)(I:∀(j:Nat)(k:Key)(v:Value),ks[j]? =some k->its[j]? =some v->RelV (kV k) v)(U:its.length+1<acy)(pl:s.heap.IsTuple l its.toArray){R:aen->zb->Prop}
  (hR:∀Z,uc prog w s ks Z->R (.done (.ret .none)) Z):wpAny 1.14 A (Builtin.«set.__init__» ⟨[.ref s.heap.objs.size,.ref l],[]⟩) R E {s with heap:=s.heap.push (jd led)}:=by
 obtain⟨ol,a3,O,nl,a4⟩:=pl;obtain⟨a8,a0,a6,V⟩:=ol;simp only at O a4;subst O a4;show 2;have a2:(s.heap.push (jd led)).get? l=some {cls:=.type "tuple",dict:=a0,data:=.seq its.toArray nl,slots:=V}:=za _ a3;have b0:=F.sub_tuple_set;have a9:=F.sub_tuple_frozenset;have q:(aa6 "tuple"==aa6 "dict")=false:=by decide
 have B:(s.heap.push (jd led)).IsTuple l its.toArray:=⟨_,a2,rfl,nl,rfl⟩;unfold Builtin.«set.__init__» noKeywords adp;generalize a7:adZ=PI
 wp_walk
 subst a7;refine wpAny_pyIter_tuple B ?_;refine gD (aeL ?_);have a5:l<s.heap.objs.size:=YG a3;refine Jq (prog:=prog) (w:=w) (its:=its) (ks:=ks) (A:=A) (S:=s.heap.objs.size) (l:=l) N Y I U ?_ ?_ (Zb a5) (its.length-0) 0 [] _ rfl (aaN _) ?_ ?_ ?_ (YK _) λh' tk kp J=>?_
 .show s.heap.objs.size≠(s.heap.push (jd led)).objs.size
  rw[ZQ];exact Zb (aaK _)
 .show l≠(s.heap.push (jd led)).objs.size
  rw[ZQ];exact Zb (aaT a5)
 .exact B.push _
 .exact⟨_,YS _ rfl,rfl,rfl⟩
 .have hget:((s.heap.push (jd led)).push {cls:=.type "tuple_iterator",data:=.fields #[.ref l,.int 0 0]}).get? s.heap.objs.size=some (jd led):=za _ D
  letI:BEq Key:=instBEqOfDecidableEq
  haveI:LawfulBEq Key:=inferInstance
  have e0:(λ_:Key=>false)=inK []:=funext λ_=>rfl;rw[←e0];exact(adx (knd:=bf prog w) led).setOf hget (by unfold acy;omega)
 .refine YD ?_
  show wpAny _ _ (ret ZZ) _ _ _;refine YD (hR _ ⟨h',tk,rfl,by rw[acD]at J;exact J,λb o e=>?_⟩);have a1:b<s.heap.objs.size:=YG e;refine kp b o (Zb a1) ?_ (za _ (za _ e));show b≠(s.heap.push (jd led)).objs.size;rw[ZQ];exact Zb (aaT a1)
theorem Ea(N:A.handled=none)(V:ks.length=its.length)(I:∀(j:Nat)(k:Key)(v:Value),ks[j]? =some k->its[j]? =some v->RelV (kV k) v)(U:its.length+1<acy)(pl:s.heap.IsTuple l its.toArray)
  (h:∀Z,uc prog w s ks Z->Q (.ref s.heap.objs.size) Z):wpAny 1.14 A (call (.type "set") [.ref l]) Q E s:=by
 obtain⟨c,tl,a4⟩:=aal.mro;have a3:=aal.made;have q:=aal.sub;refine aeT (codeAny_of_tree ?_);show wpAny _ _ (callAny (.type "set") _) _ _ _;refine YD ⟨afv _ (by decide +kernel),aar afJ ?_⟩;rw[afw (aeM "set" [.ref l] []) rfl];have h1:=aal.notType;have h2:=aal.canCreate;have a5:=F.typeCall_set_1 (.ref l)
 show 1
 refine abm (code_set_new_1 (.ref l) (E:=E) (Q₁:=λobj a0=>∃led:Bool,obj= .ref s.heap.objs.size/\a0={s with heap:=s.heap.push (jd led)}) λled=>⟨led,rfl,rfl⟩) λr a0 O=>?_;cases r with
 |error e=>exact O
 |ok fl=>
  cases fl with
  |ret obj=>
   obtain⟨led,rfl,rfl⟩:=O;show 2;have a6:=aal.init.lookup;have a7:=aal.init.bind (.ref s.heap.objs.size)
   show 1
   refine abm (aaQ (R:=wants (λr Y=>r= .none/\uc prog w s ks Y) E) aal.init.plain F.entry_set_init (check_set_init_1 hT ?_)) λa2 Y J=>?_
   .exact HR (led:=led) (by simp[N]) V I U pl λZ B=>⟨rfl,B⟩
   .cases a2 with
    |error e=>exact J
    |ok a1=>
     cases a1 with
     |ret r=>
      obtain⟨rfl,B⟩:=J
      show 1
      exact h _ B
     |_=>exact J.elim
  |_=>exact O.elim
def Q6(K:YH)(t:TA):TE:=λσ H Q=>t σ H λvs H1=>∃a ks,vs=[.ref a]/\(SqL K H1 a (List.map kV ks)∨SqT K H1 a (List.map kV ks))/\aaX ks<4000/\Q (.int (vd ks).length) H1
theorem BP(ks:List Key):(vd ks).length<=ks.length:=by
 have:∀(ks acc:List Key),(ks.foldl mV acc).length<=acc.length+ks.length:=by
  intro ks
  induction ks with
  |nil=>intro acc;simp
  |cons k r O=>
   intro acc;have h1:=O (mV acc k);have h2:(mV acc k).length<=acc.length+1:=by rw[oH];split<;>omega
   simp![List.foldl_cons,Zh];omega
 have:=this ks [];rw[ZP,ab6]at this;exact this
variable{X:Cx}{t:TA}{p1 q1 q2:Pos}
theorem JH(hg:Gl X "len")(N:X.mg "len"=none)(a4:X.mg "set"=none)(Y:PA X [e] t)(a5:Gl X "set":=by rfl)(B:YQ [e] X.env=[(false,eval e X.env)]:=by rfl)(Z:X.calm=true:=by rfl) :
  PE X (.Call (.Name "len" p1) [.Call (.Name "set" p2) [e] [] q2] [] q1) (Q6 X.K t):=by
 show 5;refine abn (pC I hg N aby ?_);refine acR rfl (aeU ?_);show wpAny _ _ (spliced ((false,eval (.Call (.Name "set" p2) [e] [] q2) X.env)::aak q1 (YQ [] X.env))) _ _ s;refine afp ?_;refine abn (pC I a5 a4 boot_set ?_);refine aaU (thn (Y q2 pins s σ H _ I h) λus O ⟨vs,H1,F,r1,a7⟩=>?_) B rfl;obtain⟨a,ks,ev,D,hz,q⟩:=a7;subst ev;obtain⟨u,rfl,ru⟩:=vals1 r1;cases ru;have hh:X.A.handled=none:=F.ok.hd Z;rcases D with D|D
 .obtain⟨its,rv,pl,hz2⟩:=F.list D
  have a0:=rv.length;rw[Zc]at a0;refine Ja (its:=its) (ks:=ks) hh a0 (λj k v e1 e2=>?_) (by show its.length+1<4096;omega) pl.isList λs2 V=>?_
  .have:(List.map kV ks)[j]? =some (kV k):=by rw[List.getElem?_map,e1];rfl
   obtain⟨w',h1,h2⟩:=rv.get this;rw[e2]at h1;cases h1;exact h2
  .refine adL ?_
   obtain⟨h',tk,rfl,hS,a1⟩:=V;have I2:Inv X pins σ H1 {O with heap:=h',toks:=tk}:=F.kept (t':=tk) a1;obtain⟨o,es,ep,tb,J,a2,hd,a6,a3,U,hf,hn⟩:=hS;have a8:=BP ks;refine call_len_set J a2 hd hf (by rw[hn];omega) ?_;rw[hn];exact⟨.int (vd ks).length,H1,I2.tok _,⟨_,rfl⟩,q⟩
 .obtain⟨its,rv,pl,hz2⟩:=F.tuple D
  have a0:=rv.length;rw[Zc]at a0;refine Ea (its:=its) (ks:=ks) hh a0 (λj k v e1 e2=>?_) (by show its.length+1<4096;omega) pl λs2 V=>?_
  .have:(List.map kV ks)[j]? =some (kV k):=by rw[List.getElem?_map,e1];rfl
   obtain⟨w',h1,h2⟩:=rv.get this;rw[e2]at h1;cases h1;exact h2
  .refine adL ?_
   obtain⟨h',tk,rfl,hS,a1⟩:=V;have I2:Inv X pins σ H1 {O with heap:=h',toks:=tk}:=F.kept (t':=tk) a1;obtain⟨o,es,ep,tb,J,a2,hd,a6,a3,U,hf,hn⟩:=hS;have a8:=BP ks;refine call_len_set J a2 hd hf (by rw[hn];omega) ?_;rw[hn];exact⟨.int (vd ks).length,H1,I2.tok _,⟨_,rfl⟩,q⟩
variable{bs:List Bool}
theorem range_all:((ZR bs.length).all λi=>bs.getD i true)=bs.all id:=by
 induction bs with
 |nil=>rfl
 |cons b r O=>
  rw[Zh,aeu,ace,List.all_map,ace,←O];rfl
variable{v:Value}
theorem Xg(N:Vals (bs.map V.bl) its){i:Nat}(h:its.toArray[i]? =some v):v= .bool (bs.getD i true):=by
 have h:its[i]? =some v:=by simpa using h
 have Y:=N.length;rw[Zc]at Y;have hi:i<bs.length:=by rw[Y];exact(List.getElem?_eq_some_iff.mp h).1
 obtain⟨u,h1,h2⟩:=N.get (show(bs.map V.bl)[i]? =some (V.bl bs[i])by rw[List.getElem?_map,YT hi];rfl);rw[h]at h1;cases h1;cases h2;simp[List.getD,hi]
theorem x_{xs:List V}(I:Inv X pins σ H s)(pl:s.heap.IsList a its.toArray) :
  a≠s.heap.objs.size:=by
 obtain⟨o,h,_⟩:=pl;exact Zb (YG h)
theorem Ij(Z:X.calm=true):fK X (.builtin "all") (λxs H Q=>∃a bs,xs=[.ref a]/\SqL X.K H a (List.map V.bl bs)/\Q (.bl (List.all bs id)) H):=by
 show 6;obtain⟨a,bs,rfl,D,q⟩:=h;obtain⟨u,rfl,B⟩:=vals1 r;cases B;obtain⟨its,N,pl,J⟩:=I.list D;have hh:X.A.handled=none:=I.ok.hd Z;have O:a≠s.heap.objs.size:=x_ (xs:=[]) I pl.isList;have Y:=N.length;rw[Zc]at Y;refine call_all_walk (abA pl.isList ⟨s.heap.objs.size,[s.heap.objs.size,a],[s.heap.objs.size],its.toArray.size,_,_,λi=>bs.getD i true,rfl,Walks.list (show X.A.in1.handled=none from hh) s.heap.objs.size a O its.toArray,⟨⟨_,YS _ rfl,rfl,rfl⟩,pl.isList.push _⟩,λi v s2 Q2 F hP U=>?_,λh' tk kp=>?_⟩)
 .rw[Xg N hP]
  exact abz U
 .rw[List.size_toArray,←Y,range_all]
  exact⟨.bl _,H,I.kept (t':=tk) λb o e=>kp b o (by simp;exact Zb (YG e)) (za _ e),rfl,q⟩
theorem int_at{ns:List Int}(N:Vals (ns.map V.int) its){i:Nat}(h:its.toArray[i]? =some v):∃t,v= .int (ns.getD i 0) t:=by
 have h:its[i]? =some v:=by simpa using h
 have Y:=N.length;rw[Zc]at Y;have hi:i<ns.length:=by rw[Y];exact(List.getElem?_eq_some_iff.mp h).1
 obtain⟨u,h1,h2⟩:=N.get (show(ns.map V.int)[i]? =some (V.int ns[i])by rw[List.getElem?_map,YT hi];rfl);rw[h]at h1;cases h1;obtain⟨t,rfl⟩:=h2;exact⟨t,by simp[List.getD,hi]⟩
theorem IW(Z:X.calm=true):fK X (.builtin "sum") (λxs H Q=>∃a ns,xs=[.ref a]/\SqL X.K H a (List.map V.int ns)/\Q (.int (List.sum ns)) H):=by
 show 6;obtain⟨a,ns,rfl,D,q⟩:=h;obtain⟨u,rfl,B⟩:=vals1 r;cases B;obtain⟨its,N,pl,J⟩:=I.list D;have hh:X.A.handled=none:=I.ok.hd Z;have O:a≠s.heap.objs.size:=x_ (xs:=[]) I pl.isList;have Y:=N.length;rw[Zc]at Y;have W:=(Walks.list (prog:=X.prog) (w:=X.w) (show X.A.in1.handled=none from hh) s.heap.objs.size a O its.toArray).toS;refine call_sum_walkAnyS (abA pl.isList ⟨s.heap.objs.size,[s.heap.objs.size,a],[s.heap.objs.size],_,its.toArray.size,_,_,λi=>ns.getD i 0,rfl,W,⟨⟨_,YS _ rfl,rfl,rfl⟩,pl.isList.push _⟩,λb U=>?_,λi v hP=>int_at N hP,λs' t' mv=>?_⟩)
 .have h1:a<s.heap.objs.size:=let⟨_,h,_⟩:=pl.isList;YG h
  show b<(s.heap.push _).objs.size;rw[ZQ];simp at U;rcases U with z|z
  .rw[z];exact aaK _
  .rw[z];exact aaT h1
 .rw[List.size_toArray,←Y,preSum_getD,ad8]
  obtain⟨h',g',d',a0,F⟩:=s';have eg:g'=s.gens:=mv.gens;have ed:d'=s.drawn:=mv.drawn;have eo:F=s.os:=mv.os;subst eg ed eo;exact⟨.int _,H,I.kept (t':=a0) λb o e=>mv.heap b o (by simp;exact Zb (YG e)) (za _ e),⟨_,rfl⟩,q⟩
def rn:D->D->Option D
 |.lst _ ds,.int i=>if i= -1 then some (.lst .own ds.reverse)else none
 |.tup ds,.int i=>if i= -1 then some (.tup ds.reverse)else if i=1 then some (.tup ds)else none
 |_,_=>none
def jY:List D->Option (List Key)
 |[]=>some []
 |d::r=>(du d).bind λk=>(jY r).map λt=>k::t
theorem tX:∀{ds:List D}{ks:List Key}{xs:List V}{L:List Addr},jY ds=some ks->aH G H W ds xs L->xs=ks.map kV
 |[],ks,xs,L,h,r=>by cases h;exact r.inv0.1
 |d::t,ks,xs,L,h,r=>by
  obtain⟨x,ys,M,M',rfl,rfl,h1,h2⟩:=r.inv;cases e1:du d with
  |none=>simp[jY,e1]at h
  |some k=>
   cases e2:jY t with
   |none=>simp[jY,e1,e2]at h
   |some w=>
    obtain rfl:k::w=ks:=by simpa[jY,e1,e2]using h
    rw[tX e2 h2,jV h1 e1];rfl
def pO:List D->Option D
 |[.lst _ ds]=>if ds.length<4000 then(jY ds).map λks=>.int (vd ks).length else none
 |[.tup ds]=>if ds.length<4000 then(jY ds).map λks=>.int (vd ks).length else none
 |_=>none
theorem tE:∀{ds:List D}{ks:List Key},jY ds=some ks->ks.length=ds.length
 |[],ks,h=>by cases h;rfl
 |d::t,ks,h=>by
  cases e1:du d with
  |none=>simp[jY,e1]at h
  |some k=>
   cases e2:jY t with
   |none=>simp[jY,e1,e2]at h
   |some w=>
    obtain rfl:k::w=ks:=by simpa[jY,e1,e2]using h
    simp[tE e2]
theorem Ep:CaV G (λvs H Q=>∃a ks,vs=[.ref a]/\(SqL G.K H a (List.map kV ks)∨SqT G.K H a (List.map kV ks))/\aaX ks<4000/\Q (.int (vd ks).length) H) pO:=λds d e xs H W I r nd hn w Q q=>by
 unfold pO at e;split at e
 .split at e
  .rename_i m ds hl
   cases h1:jY ds with
   |none=>simp[h1]at e
   |some ks=>
    obtain rfl:D.int (vd ks).length=d:=by simpa[h1]using e
    show 3;obtain⟨a,ys,M,rfl,O,B⟩:=rx;have:=tX h1 O;subst this;exact⟨a,ks,rfl,.inl B.sq,by rw[tE h1];exact hl,q.scal λ_=>cV⟩
  .cases e
 .split at e
  .rename_i ds hl
   cases h1:jY ds with
   |none=>simp[h1]at e
   |some ks=>
    obtain rfl:D.int (vd ks).length=d:=by simpa[h1]using e
    show 3;obtain⟨a,ys,rfl,U,O⟩:=rx;have:=tX h1 O;subst this;exact⟨a,ks,rfl,.inr (SqT.of U),by rw[tE h1];exact hl,q.scal λ_=>cV⟩
  .cases e
 .cases e
variable{X:ι->Cx}
theorem Ie{f:En->Option (List D)}(q:∀c,Gl (X c) "len")(N:∀c,(X c).mg "len"=none)(I:∀c,(X c).mg "set"=none)(Y:PVA X G ob [e] f)(J:∀c,Gl (X c) "set":=by intro _;rfl)(B:∀c,YQ [e] (X c).env=[(false,eval e (X c).env)]:=by intro _;rfl)(Z:∀c,(X c).calm=true:=by intro _;rfl)(F:∀c,(X c).K=G.K:=by intro _;rfl) :
 PV X G ob (.Call (.Name "len" p1) [.Call (.Name "set" p2) [e] [] q2] [] q1) (eAp pO f):=let⟨t,a1,a2⟩:=Y.ex;⟨_,λc=>(by rw[←F c];exact JH (q c) (N c) (I c) (a1 c) (J c) (B c) (Z c)),uI Ep a2⟩
def DX:List D->Option (List Bool)
 |[]=>some []
 |.bl b::r=>(DX r).map λt=>b::t
 |_::_=>none
theorem Bs:∀{ds:List D}{bs:List Bool}{xs:List V}{L:List Addr},DX ds=some bs->aH G H W ds xs L->xs=bs.map V.bl
 |[],ks,xs,L,h,r=>by cases h;exact r.inv0.1
 |d::t,ks,xs,L,h,r=>by
  obtain⟨x,ys,M,M',rfl,rfl,h1,h2⟩:=r.inv;cases d<;>simp[DX]at h;obtain⟨w,B,rfl⟩:=h;rw[Rep]at h1;rw[Bs B h2,h1.1];rfl
def vU:List D->Option (List Int)
 |[]=>some []
 |.int b::r=>(vU r).map λt=>b::t
 |_::_=>none
theorem yG:∀{ds:List D}{bs:List Int}{xs:List V}{L:List Addr},vU ds=some bs->aH G H W ds xs L->xs=bs.map V.int
 |[],ks,xs,L,h,r=>by cases h;exact r.inv0.1
 |d::t,ks,xs,L,h,r=>by
  obtain⟨x,ys,M,M',rfl,rfl,h1,h2⟩:=r.inv;cases d<;>simp[vU]at h;obtain⟨w,B,rfl⟩:=h;rw[Rep]at h1;rw[yG B h2,h1.1];rfl
def HJ:List D->Option D
 |[.lst _ ds]=>(DX ds).map λbs=>.bl (bs.all id)
 |_=>none
def Qg:List D->Option D
 |[.lst _ ds]=>(vU ds).map λns=>.int ns.sum
 |_=>none
theorem Hh(Z:∀c,(X c).calm=true)(F:∀c,(X c).K=G.K:=by intro _;rfl):CaB X G (.builtin "all") HJ:=⟨λxs H Q=>∃a bs,xs=[.ref a]/\SqL G.K H a (List.map V.bl bs)/\Q (.bl (List.all bs id)) H,λc=>by rw[←F c];exact Ij (Z c),λds d e xs H W I r nd hn w Q q=>by
 unfold HJ at e;split at e
 .rename_i m ds
  cases h1:DX ds with
  |none=>simp[h1]at e
  |some ks=>
   obtain rfl:D.bl (ks.all id)=d:=by simpa[h1]using e
   show 3;obtain⟨a,ys,M,rfl,O,B⟩:=rx;have:=Bs h1 O;subst this;exact⟨a,ks,rfl,B.sq,q.scal λ_=>gJ⟩
 .cases e⟩
theorem Pu(Z:∀c,(X c).calm=true)(F:∀c,(X c).K=G.K:=by intro _;rfl):CaB X G (.builtin "sum") Qg:=⟨λxs H Q=>∃a ns,xs=[.ref a]/\SqL G.K H a (List.map V.int ns)/\Q (.int (List.sum ns)) H,λc=>by rw[←F c];exact IW (Z c),λds d e xs H W I r nd hn w Q q=>by
 unfold Qg at e;split at e
 .rename_i m ds
  cases h1:vU ds with
  |none=>simp[h1]at e
  |some ks=>
   obtain rfl:D.int ks.sum=d:=by simpa[h1]using e
   show 3;obtain⟨a,ys,M,rfl,O,B⟩:=rx;have:=yG h1 O;subst this;exact⟨a,ks,rfl,B.sq,q.scal λ_=>cV⟩
 .cases e⟩
def uR(g:Int->Int->Int)(i:Nat)(f:En->Option D):En->Option Fl:=λρ=>match ρ[i]? with
 |some (some (.int m))=>(f ρ).bind λd=>match d with
  |.int n=>some (.nx (ρ.set i (some (.int (g m n)))))
  |_=>none
 |_=>none
def nT(f:En->Option (List D×En)):En->Option (List D×En):=λρ=>(f ρ).bind λp=>match p.1 with
 |[.int j]=>if -(2 ^ 62)<=j/\j<2 ^ 62 then some (n6 0 j.toNat,p.2)else none
 |_=>none
def nY(it:En->Option (List D×En))(tg:D->En->Option En)(V:En->Option Fl):En->Option Fl:=λρ=>(it ρ).bind λp=>forL tg V p.1 p.2
def Xr(own:Nat->Bool)(cap:List (Option Nat)):Bool:=(ZR cap.length).all λi=>!own i||(match cap[i]? with
 |some none=>true
 |_=>false)
theorem jg{own:Nat->Bool}{cap:List (Option Nat)}(h:Xr own cap=true):∀i:Nat,own i=true->cap[i]?≠none->cap[i]? =some none:=λi J hn=>by
 have hi:i<cap.length:=by
  by_cases z:i<cap.length
  .exact z
  .exact absurd (ac8 1.11) hn
 have:=ad9.mp h i (aa2.mpr hi);rw[J]at this;simp![Bool.not_true,Bool.false_or]at this;split at this
 .assumption
 .cases this
def RP(cap:List (Option Nat)):Bool:=(ZR cap.length).all λi=>(ZR cap.length).all λk=>match cap[i]?,cap[k]? with
 |some (some a),some (some b)=>!(a==b)||i==k
 |_,_=>true
theorem PP{cap:List (Option Nat)}(h:RP cap=true):qH cap:=λi k j h1 h2=>by
 have hi:i<cap.length:=(List.getElem?_eq_some_iff.mp h1).1;have I:k<cap.length:=(List.getElem?_eq_some_iff.mp h2).1;have:=ad9.mp (ad9.mp h i (aa2.mpr hi)) k (aa2.mpr I);rw[h1,h2]at this;simpa using this
def Wp(o:Option α)(Q:α->Prop):Prop:=∃a,o=some a/\Q a
variable{a:α}{Q:α->Prop}
theorem aQ:Wp (some a) Q↔Q a:=⟨λ⟨b,e,q⟩=>by cases e;exact q,λq=>⟨a,rfl,q⟩⟩
theorem iV:Wp (none:Option α) Q↔False:=⟨λ⟨b,e,q⟩=>(by cases e),λz=>z.elim⟩
variable{o:Option α}{R:β->Prop}
theorem bJ{f:α->Option β}:Wp (o.bind f) R↔Wp o λa=>Wp (f a) R:=by
 cases o with
 |none=>simp[iV]
 |some a=>simp[aQ]
variable{f:α->β}
theorem iu:Wp (o.map f) R↔Wp o λa=>R (f a):=by
 cases o with
 |none=>simp[iV]
 |some a=>simp[aQ]
theorem w_ite{c:Prop}[Decidable c]{a b:Option α}:Wp (if c then a else b) Q↔(if c then Wp a Q else Wp b Q):=by
 split<;>exact Iff.rfl
theorem Wp.mono{U:α->Prop}(h:Wp o Q)(k:∀a,Q a->U a):Wp o U:=let⟨a,e,q⟩:=h;⟨a,e,k a q⟩
theorem Wp.eq(h:Wp o λx=>x=a):o=some a:=let⟨b,e,q⟩:=h;by rw[e,q]
theorem FJ(h:o=some a)(q:Q a):Wp o Q:=⟨a,h,q⟩
variable{Q:Fl->Prop}
theorem lR{f g:En->Option Fl}:Wp (a_ f g ρ) Q↔Wp (f ρ) λr=>match r with
 |.nx I=>Wp (g I) Q
 |.ret d I=>Q (.ret d I)
 |.brk I=>Q (.brk I)
 |.cnt I=>Q (.cnt I):=by
 unfold a_;cases f ρ with
 |none=>simp[iV]
 |some r=>cases r<;>simp[aQ]
theorem R5{V:En->Option Fl}(I:Nat->En->Prop):∀{items:List D}{ρ:En}{k:Nat},I k ρ->
  (∀(i:Nat)(d:D)(ρ:En),items[i]? =some d->I (k+i) ρ->Wp (tg d ρ) λρ1=>Wp (V ρ1) λr=>match r with
   |.nx ρ2=>I (k+i+1) ρ2
   |.cnt ρ2=>I (k+i+1) ρ2
   |.brk ρ2=>Q (.nx ρ2)
   |.ret d ρ2=>Q (.ret d ρ2))->
  (∀ρ,I (k+items.length) ρ->Q (.nx ρ))->Wp (forL tg V items ρ) Q
 |[],ρ,k,h0,_,h=>by rw[forL];exact aQ.mpr (h ρ h0)
 |d::r,ρ,k,h0,hs,h=>by
  rw[forL];obtain⟨ρ1,e1,w⟩:=hs 0 d ρ rfl h0;obtain⟨fl,e2,w⟩:=w;rw[e1,YF,e2];have O:∀{ρ2:En},I (k+1) ρ2->Wp (forL tg V r ρ2) Q:=λN=>R5 I N (λi d ρ hi N=>by
   have:=hs (i+1) d ρ (by simpa using hi) (by rw[show k+(i+1)=k+1+i by omega];exact N);rw[show k+(i+1)+1=k+1+i+1 by omega]at this;exact this) λρ N=>h ρ (by rw[Zh,show k+(r.length+1)=k+1+r.length by omega];exact N)
  cases fl with
  |nx ρ2=>exact O w
  |cnt ρ2=>exact O w
  |brk ρ2=>exact aQ.mpr w
  |ret d ρ2=>exact aQ.mpr w
variable{c:En->Option Bool}
theorem xu{tg:D->En->Option En}{c:En->Option Bool}{e:En->Option D}{ρ0:En}{p:D->Bool}{f:D->D}:∀{items:List D},(∀d∈items,Wp (tg d ρ0) λρ1=>c ρ1=some (p d)/\(p d=true->e ρ1=some (f d)))->gQ tg c e ρ0 items=some ((items.filter p).map f)
 |[],_=>rfl
 |d::r,h=>by
  obtain⟨ρ1,e1,h1,h2⟩:=h d (by simp);have O:=xu (tg:=tg) (c:=c) (e:=e) (ρ0:=ρ0) (p:=p) (f:=f) (items:=r) λx F=>h x (by simp[F]);rw[gQ];cases N:p d with
  |false=>simp[e1,h1,N,O]
  |true=>simp[e1,h1,N,h2 N,O]
variable{e:En->Option (D×En)}{Q:List D×En->Prop}
theorem Hu{cap:List (Option Nat)}(I:Nat->List D->En->Prop):∀{items:List D}{ρ:En}{k:Nat}{acc:List D},I k acc ρ->
  (∀(i:Nat)(d:D)(acc:List D)(ρ:En),items[i]? =some d->I (k+i) acc ρ->Wp (tg d (gP cap ρ)) λρ1=>Wp (c ρ1) λb=>if b=true then Wp (e ρ1) λp=>clean p.1=true/\I (k+i+1) (acc++[p.1]) (eY cap p.2 ρ)else I (k+i+1) acc ρ)->
  (∀ys ρ,I (k+items.length) ys ρ->Q (ys,ρ))->Wp (lN cap tg c e items ρ) λt=>Q (acc++t.1,t.2)
 |[],ρ,k,acc,h0,_,h=>by rw[lN];exact aQ.mpr (by rw[List.append_nil];exact h acc ρ h0)
 |d::r,ρ,k,acc,h0,hs,h=>by
  rw[lN];obtain⟨ρ1,e1,b,e2,w⟩:=hs 0 d acc ρ rfl h0;rw[e1,YF,e2,YF];have O:∀{ρ2:En}{acc:List D},I (k+1) acc ρ2->Wp (lN cap tg c e r ρ2) λt=>Q (acc++t.1,t.2):=λN=>Hu I N (λi d acc ρ hi N=>by
   have:=hs (i+1) d acc ρ (by simpa using hi) (by rw[show k+(i+1)=k+1+i by omega];exact N);rw[show k+(i+1)+1=k+1+i+1 by omega]at this;exact this) λys ρ N=>h ys ρ (by rw[Zh,show k+(r.length+1)=k+1+r.length by omega];exact N)
  cases b with
  |false=>
   simp![ZF,aaz]at w⊢;exact O w
  |true=>
   simp![Zy]at w⊢;obtain⟨p,J,Z,N⟩:=w;rw[J,YF,YZ Z];rw[iu];refine(O N).mono λt U=>?_;simpa using U
theorem cC(l:List Str):au (l.map D.str)=true:=bI λd hd=>by obtain⟨x,_,rfl⟩:=Y_.mp hd;rfl
theorem cB(l:List Str):aA (l.map D.str)=true:=bG λd hd=>by obtain⟨x,_,rfl⟩:=Y_.mp hd;rfl
theorem cA(b:Bool)(l:List Str):cL b (l.map D.str)=l.map D.str:=by rw[cN,YW];rfl
theorem iQ(l:List Str):fzL (l.map D.str)=l.map D.str:=by rw[g_,YW];rfl
theorem jK(l:List Str):fY (l.map D.str)=l.map D.str:=by rw[iI,YW];rfl
variable{l:List α}
theorem zV{α β:Type}{f:α->β}{l:List α}(V:0<=i)(h1:i<l.length):∃x,x∈l/\l[i.toNat]? =some x/\atI (l.map f) i=some (f x):=by
 have:i.toNat<l.length:=by omega
 refine⟨l[i.toNat],abN _,by simp[this],?_⟩;unfold atI ixN;rw[YZ V,YZ (by simpa using h1)];simp[this]
theorem Hi{lo:Int}:(n6 lo n).length=n:=by simp[n6]
theorem filter_tt(l:List α):l.filter (λ_=>true)=l:=by simp
theorem F_{i:Nat}(h:(n6 0 n)[i]? =some d):i<n/\d= .int (i:Int):=by
 have hi:i<n:=by have:=(List.getElem?_eq_some_iff.mp h).1;simpa[n6]using this
 refine⟨hi,?_⟩;unfold n6 at h;rw[List.getElem?_map,afb hi]at h;simpa using h.symm
theorem Rg(h:k∈ks):∃j,fB ks k=some j/\j<ks.length:=by
 cases e:fB ks k with
 |none=>exact absurd h (vN e)
 |some j=>exact⟨j,rfl,vy e⟩
theorem NP(h:ks.length=ds.length):(gH ks ds k d).1.length=(gH ks ds k d).2.length/\∀x,x∈(gH ks ds k d).1↔x∈ks∨x=k:=by
 unfold gH;cases e:fB ks k with
 |none=>exact⟨by simp[h],λx=>by simp⟩
 |some j=>
  refine⟨by simpa using h,λx=>⟨.inl,λz=>z.elim id λz=>?_⟩⟩;obtain⟨Y,I,_⟩:=ZG.mp e;have:ks[j]=k:=by simpa using I
  rw[z,←this];exact abN _
theorem wW:∀{es:List (Key×D)}{ks:List Key}{ds:List D},ks.length=ds.length->(bK ks ds es).1.length=(bK ks ds es).2.length/\∀x,x∈(bK ks ds es).1↔x∈ks∨∃p∈es,p.1=x
 |[],ks,ds,h=>⟨h,λx=>by simp[bK]⟩
 |p::r,ks,ds,h=>by
  obtain⟨h1,h2⟩:=NP (k:=p.1) (d:=p.2) h;obtain⟨B,Z⟩:=wW (es:=r) h1;rw[bK];refine⟨B,λx=>?_⟩;rw[Z,h2];constructor
  .rintro((z|z)|⟨q,hq,z⟩)
   .exact .inl z
   .exact .inr ⟨p,by simp,z.symm⟩
   .exact .inr ⟨q,by simp[hq],z⟩
  .rintro(z|⟨q,hq,z⟩)
   .exact .inl (.inl z)
   .rcases YJ.mp hq with y|y
    .subst y;exact .inl (.inr z.symm)
    .exact .inr ⟨q,y,z⟩
def Dn(ns:List Str)(d:D):Prop:=∃ks ds,d= .dct .own ks ds/\(∀e∈ds,∃i:Int,e= .int i)/\∀x∈ns,∃(j:Nat)(i:Int),fB ks (.inr x)=some j/\ds[j]? =some (.int i)
def pD(p:Str×Int):D:=.tup [.str p.1,.int p.2]
theorem Gg:∀ps:List (Str×Int),sZ (ps.map pD)=some (ps.map λp=>(Zj p.1,.int p.2))
 |[]=>rfl
 |p::r=>by simp[sZ,pD,du,Gg r]
theorem RB{ps:List (Str×Int)}(Y:ps.length<=50000):Wp (wA [.lst .own (ps.map pD)]) λd=>Dn (ps.map (·.1)) d/\clean d=true:=by
 simp![wA];rw[YZ ⟨rfl,by simpa using Y⟩,Gg];refine aQ.mpr ?_;have hok:=wW (es:=ps.map λp=>((Zj p.1:Key),D.int p.2)) (ks:=[]) (ds:=[]) rfl;have U:=jM (λd=>∃i:Int,d= .int i) (es:=ps.map λp=>((Zj p.1:Key),D.int p.2)) (ks:=[]) (ds:=[]) (by simp) (λq B=>by obtain⟨p,_,rfl⟩:=Y_.mp B;exact⟨p.2,rfl⟩);refine⟨⟨_,_,rfl,U,λx F=>?_⟩,xY (bI λd hd=>by obtain⟨i,rfl⟩:=U d hd;rfl) (bG λd hd=>by obtain⟨i,rfl⟩:=U d hd;rfl)⟩;obtain⟨p,N,rfl⟩:=Y_.mp F;obtain⟨j,h1,h2⟩:=Rg ((hok.2 (Zj p.1)).mpr (.inr ⟨_,Y_.mpr ⟨p,N,rfl⟩,rfl⟩));have O:j<(bK [] [] (ps.map λp=>((Zj p.1:Key),D.int p.2))).2.length:=by rw[←hok.1];exact h2
 obtain⟨i,hi⟩:=U _ (abN O);exact⟨j,i,h1,by rw[YT O,hi]⟩
abbrev Jt:=Str×Str×Int
def jD(j:Jt):D:=.tup [.str j.1,.str j.2.1,.int j.2.2]
theorem oh(l:List Jt):au (l.map jD)=true:=bI λd hd=>by obtain⟨x,_,rfl⟩:=Y_.mp hd;rfl
theorem oE(l:List Jt):aA (l.map jD)=true:=bG λd hd=>by obtain⟨x,_,rfl⟩:=Y_.mp hd;rfl
theorem yJ(b:Bool)(l:List Jt):cL b (l.map jD)=l.map jD:=by rw[cN,YW];rfl
theorem w6(l:List Jt):fzL (l.map jD)=l.map jD:=by rw[g_,YW];rfl
theorem yE(l:List Jt):fY (l.map jD)=l.map jD:=by rw[iI,YW];rfl
theorem Fx:∀l:List Jt,oU (l.map jD)=true
 |[]=>rfl
 |j::r=>by simp[oU,jD,tG,Fx r]
theorem tK:∀l:List Str,oU (l.map D.str)=true
 |[]=>rfl
 |j::r=>by simp[oU,tG,tK r]
theorem zY{l:List Jt}:gNe (.lst m (l.map jD)) (.lst .own [])=some (.bl (!l.isEmpty)):=by
 unfold gNe;have h1:=Fx l;rw[YZ ⟨by simpa[tG]using h1,rfl,.lst (by simp[dtL])⟩];cases l with
 |nil=>rfl
 |cons j r=>rfl
theorem eq_int{j:Int}:gEq (.int i) (.int j)=some (.bl (decide (i=j))):=by
 unfold gEq;rw[YZ ⟨rfl,rfl,.sc (.int i j)⟩];simp[dt,eqD];exact abW.mpr (by simp)
variable{items:List D}
theorem JR{cap:List (Option Nat)}(I:Nat->List D->En->Prop)(V:I 0 [] ρ)
  (B:∀(i:Nat)(d:D)(acc:List D)(ρ:En),items[i]? =some d->I i acc ρ->Wp (tg d (gP cap ρ)) λρ1=>Wp (c ρ1) λb=>if b=true then Wp (e ρ1) λp=>clean p.1=true/\I (i+1) (acc++[p.1]) (eY cap p.2 ρ)else I (i+1) acc ρ)
  (h:∀ys ρ,I items.length ys ρ->Q (ys,ρ)):Wp (lN cap tg c e items ρ) Q:=by
 have:=Hu (cap:=cap) (tg:=tg) (c:=c) (e:=e) (Q:=Q) I (items:=items) (ρ:=ρ) (k:=0) (acc:=[]) V (λi d acc ρ hi N=>by
  rw[ab6]at N⊢;exact B i d acc ρ hi N) λys ρ N=>h ys ρ (by rw[ab6]at N;exact N)
 simpa using this
variable{Q:Fl->Prop}
theorem tY{V:En->Option Fl}(I:Nat->En->Prop)(q:I 0 ρ)
  (B:∀(i:Nat)(d:D)(ρ:En),items[i]? =some d->I i ρ->Wp (tg d ρ) λρ1=>Wp (V ρ1) λr=>match r with
   |.nx ρ2=>I (i+1) ρ2
   |.cnt ρ2=>I (i+1) ρ2
   |.brk ρ2=>Q (.nx ρ2)
   |.ret d ρ2=>Q (.ret d ρ2))
  (h:∀ρ,I items.length ρ->Q (.nx ρ)):Wp (forL tg V items ρ) Q:=
 R5 (k:=0) I q (λi d ρ hi N=>by
  rw[ab6]at N⊢;exact B i d ρ hi N) λρ N=>h ρ (by rw[ab6]at N;exact N)
theorem aZ{f g:En->Option Fl}(P:En->Prop)(h1:∀U:Fl->Prop,(∀I,P I->U (.nx I))->Wp (f ρ) U)(h2:∀I,P I->Wp (g I) Q):Wp (a_ f g ρ) Q:=by
 rw[lR];exact h1 _ λI h=>h2 I h
theorem Pg(j:Jt):aD (jD j)=true:=rfl
theorem P0(j:Jt):aB (jD j)=true:=rfl
theorem QT(b:Bool)(j:Jt):view b (jD j)=jD j:=rfl
theorem QR(j:Jt):fz (jD j)=jD j:=rfl
theorem Qk(j:Jt):fzo (jD j)=jD j:=rfl
theorem FZ(j:Jt):gSl (jD j) none (some 2)=some (.tup [.str j.1,.str j.2.1]):=rfl
theorem zH(m:Mk)(l:List Jt):eG [.lst m (l.map jD)]=some (.int l.length):=by simp[eG]
theorem len_strs(m:Mk)(l:List Str):eG [.lst m (l.map D.str)]=some (.int l.length):=by simp[eG]
theorem vp(l:List Jt):eG [.tup (l.map jD)]=some (.int l.length):=by simp[eG]
theorem pL(l:List Str):eG [.tup (l.map D.str)]=some (.int l.length):=by simp[eG]
theorem J3{l:List D}:gIx (.lst m l) (.int i)=atI l i:=rfl
theorem Ri{l:List D}:gIx (.tup l) (.int i)=atI l i:=rfl
open PySem PySem.W PyProof.Rows
def Tr(b:Nat->Nat->Bool)(n:Nat):KasT α->(α->Prop)->Prop
 |.ret a,Q=>Q a
 |.ask i j k,Q=>i<n/\j<n/\Tr b n (k (b i j)) Q
variable{b:Nat->Nat->Bool}
theorem Tr.bind{f:α->KasT β}{Q:β->Prop}:∀{t:KasT α},Tr b n t (λa=>Tr b n (f a) Q)->Tr b n (t.bind f) Q
 |.ret _,h=>h
 |.ask _ _ _,⟨h1,h2,h3⟩=>⟨h1,h2,Tr.bind h3⟩
theorem Tr.mono{Q U:α->Prop}(D:∀a,Q a->U a):∀{t:KasT α},Tr b n t Q->Tr b n t U
 |.ret _,h=>D _ h
 |.ask _ _ _,⟨h1,h2,h3⟩=>⟨h1,h2,Tr.mono D h3⟩
theorem Tr.wp{q:Nat->Nat->(Bool->zb->Prop)->zb->Prop}{Q:α->Prop}(Z:∀i j C,i<n->j<n->C (b i j) s->q i j C s):∀{t:KasT α},Tr b n t Q->t.kasWp q (λa s'=>s'=s/\Q a) s
 |.ret _,h=>⟨rfl,h⟩
 |.ask _ _ _,⟨h1,h2,h3⟩=>Z _ _ _ h1 h2 (Tr.wp Z h3)
def jU(n:Nat)(p:Array Nat):Prop:=aaM p.toList (ZR n)
variable{p:Array Nat}
theorem jU.size(h:jU n p):p.size=n:=by
 have:=List.Perm.length_eq h;simpa using this
theorem jU.lt(h:jU n p)(hn:0<n)(i:Nat):p.getD i 0<n:=by
 by_cases hi:i<p.size
 .have hm:p[i]∈p.toList:=by simp
  have:=aa2.mp (afK h |>.mp hm);simpa[Array.getD,hi]using this
 .simpa[Array.getD,hi]using hn
theorem jU.of{q:Array Nat}(h:jU n p)(N:Array.Perm q p):jU n q:=(Array.perm_iff_toList_perm.mp N).trans h
section
variable(ρ:Nat->Int)
def rk(p:Array Nat)(i:Nat):Int:=ρ (p.getD i 0)
def Up1(p:Array Nat)(k:Nat):Prop:=∀i j,i<=j->j<k->rk ρ p i<=rk ρ p j
def Dn1(p:Array Nat)(k:Nat):Prop:=∀i j,i<=j->j<k->rk ρ p j<=rk ρ p i
abbrev bk:Nat->Nat->Bool:=λi j=>decide (ρ i<ρ j)
end
section
variable{ρ:Nat->Int}{n:Nat}(hn:0<n)
theorem Cj{p q:Array Nat}{i j:Nat}(h:p[i]? =q[j]?):rk ρ p i=rk ρ q j:=by
 unfold rk;rw[abp,abp,h]
theorem Ed{p:Array Nat}{i j:Nat}(F:j<=p.size)(k:Nat):rk ρ (kas_rev p i j) k=if i<=k/\k<j then rk ρ p (i+j-1-k)else rk ρ p k:=by
 have e:=getElem?_mirror_all (xs:=p) (i:=i) F k;unfold kas_rev;split
 .rename_i h;rw[YZ h]at e;exact Cj e
 .rename_i h;rw[Zi h]at e;exact Cj e
theorem jT{p:Array Nat}{i j:Nat}(F:j<=p.size)(h:∀k,i<=k->k<j->rk ρ p k=rk ρ p (j-1))(k:Nat):rk ρ (kas_rev p i j) k=rk ρ p k:=by
 rw[Ed F];split
 .rw[h _ 1.11 1.11,h k 1.11 1.11]
 .rfl
include hn
theorem Nt{p:Array Nat}(N:jU n p):∀(f a:Nat),1<=a->Up1 ρ p a->Tr (bk ρ) n (kas_asc p f a) λm=>a<=m/\m<=a+f/\Up1 ρ p m
 |0,a,_,h=>⟨YK _,YK _,h⟩
 |f+1,a,ha,h=>by
  refine⟨N.lt hn _,N.lt hn _,?_⟩;by_cases c:rk ρ p a<rk ρ p (a-1)
  .have e:bk ρ (p.getD a 0) (p.getD (a-1) 0)=true:=aao c
   rw[e];exact⟨YK _,by omega,h⟩
  .have e:bk ρ (p.getD a 0) (p.getD (a-1) 0)=false:=Zn c
   rw[e];refine Tr.mono (λm q=>⟨by omega,by omega,q.2.2⟩) (Nt N f (a+1) 1.11 λi j D F=>?_);by_cases O:j<a
   .exact h i j D O
   .obtain rfl:j=a:=by omega
    by_cases hi:i=j
    .subst hi;exact abk _
    .exact adf (h i (j-1) 1.11 1.11) 1.11
def DsQ(ρ:Nat->Int)(n a f:Nat)(t:Array Nat×Nat×Nat):Prop:=jU n t.1/\a<=t.2.1/\t.2.1<=a+f/\Dn1 ρ t.1 t.2.1/\t.2.2+1<=t.2.1/\∀i,t.2.1-(t.2.2+1)<=i->i<t.2.1->rk ρ t.1 i=rk ρ t.1 (t.2.1-1)
theorem zM:∀(f:Nat)(p:Array Nat)(a q:Nat),jU n p->1<=a->a+f<=n->Dn1 ρ p a->q+1<=a->(∀i,a-(q+1)<=i->i<a->rk ρ p i=rk ρ p (a-1))->Tr (bk ρ) n (kas_desc f p a q) (DsQ ρ n a f)
 |0,p,a,q,hp,ha,_,h,hq,he=>⟨hp,YK _,YK _,h,hq,he⟩
 |f+1,p,a,q,hp,ha,hf,h,hq,he=>by
  have J:=hp.size;refine⟨hp.lt hn _,hp.lt hn _,?_⟩;by_cases c:rk ρ p a<rk ρ p (a-1)
  .have e:bk ρ (p.getD a 0) (p.getD (a-1) 0)=true:=aao c
   have V:∀N:Array Nat,jU n N->(∀k,rk ρ N k=rk ρ p k)->Tr (bk ρ) n (kas_desc f N (a+1) 0) (DsQ ρ n a (f+1)):=λN Z I=>by
    refine Tr.mono (λt U=>⟨U.1,by have:=U.2.1;omega,by have:=U.2.2.1;omega,U.2.2.2⟩) (zM f N (a+1) 0 Z 1.11 1.11 (λi j D F=>?_) 1.11 λi h1 h2=>by rw[show i=a+1-1 by omega]);rw[I,I];by_cases O:j<a
    .exact h i j D O
    .obtain rfl:j=a:=by omega
     by_cases hi:i=j
     .subst hi;exact abk _
     .exact adf 1.11 (h i (j-1) 1.11 1.11)
   rw[e];simp![Zy];by_cases Y:q>0
   .rw[YZ Y]
    exact V _ (hp.of (aex _ _ _ _)) (jT 1.11 he)
   .rw[Zi Y]
    exact V _ hp λ_=>rfl
  .have e:bk ρ (p.getD a 0) (p.getD (a-1) 0)=false:=Zn c
   rw[e];simp![ZF,aaz];refine⟨hp.lt hn _,hp.lt hn _,?_⟩;by_cases B:rk ρ p (a-1)<rk ρ p a
   .have e:bk ρ (p.getD (a-1) 0) (p.getD a 0)=true:=aao B
    rw[e];exact⟨hp,YK _,by show a<=a+(f+1);omega,h,hq,he⟩
   .have e:bk ρ (p.getD (a-1) 0) (p.getD a 0)=false:=Zn B
    have ea:rk ρ p a=rk ρ p (a-1):=by omega
    rw[e];simp![ZF,aaz];refine Tr.mono (λt U=>⟨U.1,by have:=U.2.1;omega,by have:=U.2.2.1;omega,U.2.2.2⟩) (zM f p (a+1) (q+1) hp 1.11 1.11 (λi j D F=>?_) 1.11 λi h1 h2=>?_)
    .by_cases O:j<a
     .exact h i j D O
     .obtain rfl:j=a:=by omega
      by_cases hi:i=j
      .subst hi;exact abk _
      .rw[ea];exact h i (j-1) 1.11 1.11
    .rw[show a+1-1=a by omega]
     by_cases hi:i=a
     .rw[hi]
     .rw[ea];exact he i 1.11 1.11
def CtQ(ρ:Nat->Int)(n q:Nat)(t:Nat×Array Nat):Prop:=jU n t.2/\1<=t.1/\t.1<=q/\Up1 ρ t.2 t.1
theorem Ga{p:Array Nat}{a q:Nat}(N:jU n p)(Y:1<=a)(V:a<=q)(O:q<=n)(h:Dn1 ρ p a):Tr (bk ρ) n (kas_tail3 a q p) (CtQ ρ n q):=by
 have J:=N.size;have I:jU n (kas_rev p 0 a):=N.of (aex _ _ _ _);refine Tr.bind (Tr.mono (λm B=>?_) (Nt hn I (q-a) a Y λi j D F=>?_))
 .exact⟨I,by show 1<=m;omega,by show m<=q;omega,B.2.2⟩
 .rw[Ed 1.11,Ed 1.11,YZ 1.11,YZ 1.11]
  exact h _ _ 1.11 1.11
theorem Gv{p:Array Nat}{a nr:Nat}(N:jU n p)(V:a+1<=nr)(O:nr<=n)(h:Dn1 ρ p (a+1)):Tr (bk ρ) n (kas_descPart a nr p) (CtQ ρ n nr):=by
 refine Tr.bind (Tr.mono (λt U=>?_) (zM hn (nr-(a+1)) p (a+1) 0 N 1.11 1.11 h 1.11 λi h1 h2=>by rw[show i=a+1-1 by omega]));obtain⟨I,Y,t3⟩:=t;obtain⟨h1,h2,B,Z,h5,q⟩:=U;have J:=h1.size;simp only at h1 h2 B Z h5 q J⊢;split
 .refine Ga hn (h1.of (aex _ _ _ _)) 1.11 1.11 O λi j D F=>?_
  rw[jT 1.11 q,jT 1.11 q];exact Z i j D F
 .exact Ga hn h1 1.11 1.11 O Z
theorem LC{p:Array Nat}{q:Nat}(N:jU n p)(h1:1<=q)(a3:q<=n):Tr (bk ρ) n (kas_count q p) (CtQ ρ n q):=by
 have J:=N.size;have V:Up1 ρ p 1:=λi j D F=>by rw[show i=j by omega];exact abk _
 have go:Tr (bk ρ) n (kas_asc p (q-1) 1) λm=>1<=m/\m<=q/\Up1 ρ p m/\(m=q∨rk ρ p m<rk ρ p (m-1)):=by
  have:∀(f a:Nat),1<=a->a+f=q->Up1 ρ p a->Tr (bk ρ) n (kas_asc p f a) λm=>1<=m/\m<=q/\Up1 ρ p m/\(m=q∨rk ρ p m<rk ρ p (m-1)):=by
   intro f
   induction f with
   |zero=>intro a Y O h;exact⟨Y,by omega,h,.inl 1.11⟩
   |succ f ih=>
    intro a Y O h;refine⟨N.lt hn _,N.lt hn _,?_⟩;by_cases c:rk ρ p a<rk ρ p (a-1)
    .have e:bk ρ (p.getD a 0) (p.getD (a-1) 0)=true:=aao c
     rw[e];exact⟨Y,by omega,h,.inr c⟩
    .have e:bk ρ (p.getD a 0) (p.getD (a-1) 0)=false:=Zn c
     rw[e];refine ih (a+1) 1.11 1.11 λi j D F=>?_;by_cases a6:j<a
     .exact h i j D a6
     .obtain rfl:j=a:=by omega
      by_cases hi:i=j
      .subst hi;exact abk _
      .exact adf (h i (j-1) 1.11 1.11) 1.11
  exact this (q-1) 1 (YK _) 1.11 V
 refine Tr.bind (Tr.mono (λm hm=>?_) go);obtain⟨m1,m2,m3,m4⟩:=hm;by_cases a0:m=q
 .rw[YZ (by simpa using a0)]
  exact⟨N,m1,m2,m3⟩
 .rw[Zi (by simpa using a0)]
  have B:=m4.resolve_left a0;by_cases a4:m>1
  .rw[YZ a4]
   refine⟨N.lt hn _,N.lt hn _,?_⟩;by_cases c:rk ρ p 0<rk ρ p (m-1)
   .have e:bk ρ (p.getD 0 0) (p.getD (m-1) 0)=true:=aao c
    rw[e];exact⟨N,m1,m2,m3⟩
   .have e:bk ρ (p.getD 0 0) (p.getD (m-1) 0)=false:=Zn c
    rw[e];simp![ZF,aaz];have U:∀k,0<=k->k<m->rk ρ p k=rk ρ p (m-1):=λk _ I=>by
     have a1:=m3 0 k 1.11 I;have Z:=m3 k (m-1) 1.11 1.11;omega
    refine Gv hn (N.of (aex _ _ _ _)) 1.11 a3 λi j D F=>?_;rw[jT 1.11 U,jT 1.11 U];by_cases a5:j<m
    .rw[U i 1.11 1.11,U j 1.11 a5];exact abk _
    .obtain rfl:j=m:=by omega
     by_cases hi:i=j
     .subst hi;exact abk _
     .rw[U i 1.11 1.11];omega
  .rw[Zi a4]
   obtain rfl:m=1:=by omega
   refine Gv hn N 1.11 a3 λi j D F=>?_;by_cases hi:i=j
   .subst hi;exact abk _
   .obtain rfl:i=0:=by omega
    obtain rfl:j=1:=by omega
    exact Int.le_of_lt B
theorem wY{p:Array Nat}{k:Nat}(N:jU n p)(h:Up1 ρ p k):∀(f l r:Nat),l<=r->r<=k->r-l<=f->(∀i,i<l->rk ρ p i<=rk ρ p k)->(∀i,r<=i->i<k->rk ρ p k<rk ρ p i)->
  Tr (bk ρ) n (kas_place p k f l r) λm=>m<=k/\(∀i,i<m->rk ρ p i<=rk ρ p k)/\∀i,m<=i->i<k->rk ρ p k<rk ρ p i
 |0,l,r,hlr,hrk,hf,h1,h2=>⟨by omega,h1,λi hi I=>h2 i 1.11 I⟩
 |f+1,l,r,hlr,hrk,hf,h1,h2=>by
  unfold kas_place;by_cases q:l>=r
  .rw[YZ q]
   exact⟨by omega,h1,λi hi I=>h2 i 1.11 I⟩
  .rw[Zi q]
   refine⟨N.lt hn _,N.lt hn _,?_⟩;by_cases c:rk ρ p k<rk ρ p ((l+r) / 2)
   .have e:bk ρ (p.getD k 0) (p.getD ((l+r) / 2) 0)=true:=aao c
    rw[e];exact wY N h f l _ 1.11 1.11 1.11 h1 λi hi I=>Int.lt_of_lt_of_le c (h _ i hi I)
   .have e:bk ρ (p.getD k 0) (p.getD ((l+r) / 2) 0)=false:=Zn c
    rw[e];exact wY N h f _ r 1.11 hrk 1.11 (λi hi=>adf (h i ((l+r) / 2) 1.11 1.11) 1.11) h2
theorem Kf:∀(f:Nat)(p:Array Nat)(k:Nat),jU n p->k+f<=n->Up1 ρ p k->Tr (bk ρ) n (kas_bin f p k) λq=>jU n q/\Up1 ρ q (k+f)
 |0,p,k,hp,_,h=>⟨hp,h⟩
 |f+1,p,k,hp,hf,h=>by
  have J:=hp.size;refine Tr.bind (Tr.mono (λl Y=>?_) (wY hn hp h k 0 k 1.11 1.11 1.11 (λi hi=>by omega) λi h1 h2=>by omega));obtain⟨l1,l2,B⟩:=Y;have U:∀i,rk ρ (bubble p k (k-l)) i=if i=l then rk ρ p k else if l<i/\i<=k then rk ρ p (i-1)else rk ρ p i:=λi=>by
   have e:=getElem?_bubble (xs:=p) (src:=k) 1.11 (k-l) 1.11 i;rw[show k-(k-l)=l by omega]at e;split
   .rename_i hi;rw[YZ hi]at e;exact Cj e
   .rename_i hi
    rw[Zi hi]at e;split
    .rename_i hi2;rw[YZ hi2]at e;exact Cj e
    .rename_i hi2;rw[Zi hi2]at e;exact Cj e
  refine Tr.mono (λq D=>⟨D.1,by rw[show k+(f+1)=k+1+f by omega];exact D.2⟩) (Kf f (bubble p k (k-l)) (k+1) (hp.of (bubble_perm _ _ _)) 1.11 λi j I F=>?_);rw[U,U]
  repeat' split
  all_goals first
   |exact abk _
   |(exfalso;omega)
   |exact Int.le_of_lt (B _ 1.11 1.11)
   |exact l2 _ 1.11
   |exact h _ _ 1.11 1.11
theorem P_:Tr (bk ρ) n (kas_sort n) λp=>jU n p/\Up1 ρ p n:=by
 have N:jU n (afx (ZR n)):=by unfold jU;exact age _
 refine Tr.bind (Tr.mono (λt U=>?_) (LC hn N 1.11 (YK n)));obtain⟨h1,h2,B,Z⟩:=U;split
 .refine Tr.mono (λq D=>⟨D.1,?_⟩) (Kf hn (n-max t.1 1) t.2 (max t.1 1) h1 1.11 (by rw[show max t.1 1=t.1 by omega];exact Z))
  have:=D.2;rwa[show max t.1 1+(n-max t.1 1)=n by omega]at this
 .rename_i hlt
  exact⟨h1,by rw[show t.1=n by omega]at Z;exact Z⟩
end
open PySem PySem.W PyProof.Rows PySem.SeqAt
theorem lG:plainId "list.__eq__.loop"=true:=by decide +kernel
theorem uK:entryFor table "list.__eq__.loop"=some Builtin.«list.__eq__.loop»:=entryFor_of_fast (by kernel_rfl)
def ltS:List Str->List Str->Bool
 |[],[]=>false
 |[],_::_=>true
 |_::_,[]=>false
 |a::r,b::q=>if a=b then ltS r q else decide (a.cps.toList<b.cps.toList)
def StA(its:Array Value)(xs:List Str):Prop:=∀i:Nat,its[i]? =none/\xs[i]? =none∨∃x t,its[i]? =some (.str x t)/\xs[i]? =some x
variable{i:Nat}
theorem Lh{xs ys:List Str}:ltS (xs.drop i) (ys.drop i)=match xs[i]?,ys[i]? with
  |none,none=>false
  |none,some _=>true
  |some _,none=>false
  |some a,some b=>if a=b then ltS (xs.drop (i+1)) (ys.drop (i+1))else decide (a.cps.toList<b.cps.toList):=by
 have d:∀zs:List Str,zs.drop i=match zs[i]? with|none=>[]|some a=>a::zs.drop (i+1):=λzs=>by
  by_cases h:i<zs.length
  .rw[abE h,YT h]
  .rw[acS 1.11,ac8 1.11]
 rw[d xs,d ys];cases xs[i]?<;>cases ys[i]?<;>rfl
theorem Mg(l b:Addr)(its q:Array Value)(n n2:Nat)(dd D:Option Addr)(sl a1:Array (Option Value))(xs ys:List Str)(h1:StA its xs)(h2:StA q ys)(F:its.size=xs.length)(V:q.size=ys.length)(k:Nat) :
  ∀i:Nat,xs.length-i=k->Meets (Builtin.«list.__eq__.loop» ⟨[.ref l,.ref b,abU i,abU 0],[]⟩)
   (λA R s=>s.heap.get? l=some {cls:=.type "list",dict:=dd,data:=.seq its n,slots:=sl}/\s.heap.get? b=some {cls:=.type "list",dict:=D,data:=.seq q n2,slots:=a1}/\(i<=xs.length/\i<=ys.length)/\
    R (.ok (.ret (.bool (ltS (xs.drop i) (ys.drop i))))) s):=by
 induction k with
 |zero=>
  intro i I prog w A R s h;obtain⟨N,g,d,tk,os⟩:=s;obtain⟨Y,U,hi,h⟩:=h
  wp_walk using wpAny_loadPart' Y,wpAny_loadPart' U
  have e1:xs[i]? =none:=by simp;omega
  have e2:its[((i:Nat):Int).toNat]? =none:=by simp;omega
  rw[Lh,e1]at h;rw[e2]
  wp_walk using wpAny_loadPart' Y,wpAny_loadPart' U
  show R (.ok (.ret (.bool (decide (its.size<q.size))))) _;rw[F,V];cases J:ys[i]? with
  |none=>
   rw[J]at h;have:ys.length<=i:=by simpa using J
   rw[show decide (xs.length<ys.length)=false by simp;omega];exact h
  |some y=>
   rw[J]at h;have:=(List.getElem?_eq_some_iff.mp J).1;rw[show decide (xs.length<ys.length)=true by simp;omega];exact h
 |succ k O=>
  intro i I prog w A R s h;obtain⟨N,g,d,tk,os⟩:=s;obtain⟨Y,U,hi,h⟩:=h
  wp_walk using wpAny_loadPart' Y,wpAny_loadPart' U
  have B:i<xs.length:=by omega
  obtain⟨z,_⟩|⟨x,t,e1,e2⟩:=h1 i
  .simp at z;omega
  rw[Lh,e2]at h;have f1:its[((i:Nat):Int).toNat]? =some (.str x t):=by simpa using e1
  obtain⟨J,e4⟩|⟨y,u,J,e4⟩:=h2 i
  .have f2:q[((i:Nat):Int).toNat]? =none:=by simpa using J
   rw[e4]at h;rw[f1,f2]
   wp_walk using wpAny_loadPart' Y,wpAny_loadPart' U
   show R (.ok (.ret (.bool (decide (its.size<q.size))))) _;have:ys.length<=i:=by simpa using e4
   rw[show decide (its.size<q.size)=false by simp;omega];exact h
  .have f2:q[((i:Nat):Int).toNat]? =some (.str y u):=by simpa using J
   have Z:((i:Int)+1)=((i+1:Nat):Int):=by push_cast;rfl
   have a2:=(List.getElem?_eq_some_iff.mp e4).1;rw[e4]at h;rw[f1,f2];refine gD (wpAny_eqBool_str ?_);by_cases a0:x=y
   .simp![a0,Zy]at h
    rw[show decide (x=y)=true from aao a0]
    wp_walk
    rw[Z];exact⟨abx lG _,aar uK (by
     rw[aah lG _];exact O (i+1) 1.11 prog w A R _ ⟨Y,U,⟨by omega,by omega⟩,h⟩)⟩
   .simp![Zi a0]at h
    rw[show decide (x=y)=false from Zn a0]
    wp_walk using wpAny_loadPart' Y,wpAny_loadPart' U
    rw[f1,f2];refine gD (lt_str ?_);exact YD h
theorem Lf(l b:Addr)(its q:Array Value)(n B:Nat)(O D:Option Addr)(sl I:Array (Option Value))(xs ys:List Str)(h1:StA its xs)(h2:StA q ys)(F:its.size=xs.length)(V:q.size=ys.length) :
  Meets (Builtin.«list.__lt__» ⟨[.ref l,.ref b],[]⟩)
   (λA R s=>s.heap.get? l=some {cls:=.type "list",dict:=O,data:=.seq its n,slots:=sl}/\s.heap.get? b=some {cls:=.type "list",dict:=D,data:=.seq q B,slots:=I}/\R (.ok (.ret (.bool (ltS xs ys)))) s):=by
 intro prog w A R s h;obtain⟨N,g,d,tk,os⟩:=s;obtain⟨Y,U,h⟩:=h;have J:=AutoSeq1.sub_list_list
 wp_walk using wpAny_loadPart' Y,wpAny_loadPart' U
 exact⟨abx lG _,aar uK (by
  rw[aah lG _];exact Mg l b its q n B O D sl I xs ys h1 h2 F V _ 0 rfl prog w A R _ ⟨Y,U,⟨aaN _,aaN _⟩,by simpa using h⟩)⟩
variable{E:Value->Shared->Prop}{A:Around}{s:Shared}
theorem EY{l b:Addr}{its q:Array Value}{xs ys:List Str}{Q:Bool->zb->Prop}(Y:s.heap.IsList l its)(U:s.heap.IsList b q)(h1:StA its xs)(h2:StA q ys)(hx:its.size=xs.length)(V:q.size=ys.length)(hu:A.units<cLine)
  (h:Q (ltS xs ys) s):wpAny 1.14 A (oneLt' true (.ref l) (.ref b)) Q E s:=by
 obtain⟨⟨cls,O,data,sl⟩,J,Z,n,hd⟩:=id Y;obtain⟨⟨a2,D,a1,I⟩,N,a0,n2,B⟩:=id U;simp only at Z hd a0 B;subst Z hd a0 B;rw[oneLt'_eq];simp![Zy];refine gD (wpAny_cRoomFor hu ?_);refine gD (wpAny_callSpecialIfBound?_slot (T:="list") ⟨_,J,rfl⟩ F.slot_list_lt (acb F.slot_list_lt ⟨_,J,rfl⟩ F.entry_list_lt (F.args_list_lt_2 _ _) (Lf l b its q n n2 O D sl I xs ys h1 h2 hx V) ⟨J,N,?_⟩));exact abz h
variable{Q:Value->zb->Prop}{κ:SortKind}
theorem I_{vs:List Value}{ρ:Nat->Int}(b7:vs.length<64)
  (I:2<=vs.length->∀h':Heap,(∀b o,s.heap.get? b=some o->h'.get? b=some o)->∀(E':Value->zb->Prop)(Q':SortKind->zb->Prop),Q' κ {s with heap:=h'}->wpAny 1.14 A.in1.in1 (keyKind' vs.toArray) Q' E' {s with heap:=h'})
  (B:∀h':Heap,(∀b o,s.heap.get? b=some o->h'.get? b=some o)->∀i j,i<vs.length->j<vs.length->∀Q':Bool->zb->Prop,Q' (decide (ρ i<ρ j)) {s with heap:=h'}->wpAny 1.14 A.in1.in1 (keyLt' κ (vs.getD i ZZ) (vs.getD j ZZ)) Q' (λ_ _=>False) {s with heap:=h'})
  (h:∀p:Array Nat,jU vs.length p->Up1 ρ p vs.length->∀(h':Heap)(c:Nat),(∀b o,s.heap.get? b=some o->h'.get? b=some o)->h'.get? s.heap.objs.size=some (aeN "list" (afx (p.toList.map λi=>vs.getD i ZZ)) c)->Q (.ref s.heap.objs.size) {s with heap:=h'}) :
  wpAny 1.14 A.in1 (aeF vs >>=λl=>aaP [l] (call (.builtin "list.sort") [l] []) >>=λ_=>ret l) (λV s'=>∃v,V= .done (.ret v)/\Q v s') E s:=by
 have b5:vs.length<=YM:=by rw[acg];omega
 refine gD (wpAny_newList ?_ (by rw[acg];omega))
 let a:=s.heap.objs.size
 let G2:Heap:=s.heap.push (aeN "list" vs.toArray 0)
 have z2:G2.objs.size=s.heap.objs.size+1:=size_push' _ _;have a8:G2.get? a=some (aeN "list" vs.toArray 0):=YS _ rfl;show wpAny _ _ (aaP _ _ >>=_) _ _ {s with heap:=G2};refine gD (aaj (ad4 slot_list_sort ⟨_,a8,rfl⟩ entry_list_sort ?_ (args_list_sort _)));have b1:∀b o,s.heap.get? b=some o->G2.get? b=some o:=λb o q=>za _ q
 let G3:Heap:=G2.update a (abV λ_=>#[])
 obtain⟨e1,b3⟩:∃e1,G3.get? a=some (aeN "list" #[] e1):=⟨_,get?_update_seq a8 λ_=>#[]⟩;have z3:G3.objs.size=s.heap.objs.size+1:=by show(G2.update _ _).objs.size=_;rw[afW,z2]
 let G5:Heap:=(G3.push (aeN "tuple" vs.toArray 0)).push (aeN "list" #[] 0)
 have b4:∀b o,G3.get? b=some o->G5.get? b=some o:=λb o q=>za _ (za _ q);have a0:∀b o,s.heap.get? b=some o->G5.get? b=some o:=λb o q=>by
  have U:b<s.heap.objs.size:=YG q;refine b4 b o ?_;show(G2.update _ _).get? b=_;rw[afc _ _ _ _ (Zb U)];exact b1 b o q
 have b2:G5.get? a=some (aeN "list" #[] e1):=b4 a _ b3;rw[list_sort_plain];refine gD (listItems_at a8 rfl ?_);refine gD (listUpdate_at a8 rfl ?_ (by rw[List.size_toArray];exact b5) (aaN _));refine gD (seqEpoch_at b3 rfl ?_);refine gD (wpAny_newTuple ?_ (by show vs.length<=_;exact b5));refine gD (wpAny_newList ?_ (aaN _));refine aaj ?_;show wpAny 1.14 A.in1.in1 _ _ _ {s with heap:=G5};dsimp only;have V:∀(Y:SortSt)(p:Array Nat),arrOf Y=p.map (kas_item (vs.toArray.zip vs.toArray))->failedOf Y=none->jU vs.length p->Up1 ρ p vs.length->
   wpAny 1.14 A.in1.in1 (do
    let a7:=(arrOf Y).map (·.2)
    let a6:=(←seqEpoch a)!=e1
    Builtin.List.listUpdate (.ref a) λ_=>a7
    if let some e:=failedOf Y then rule "list.sort.comparison-raised";throw e
    if a6 then rule "list.sort.modified";raiseError "ValueError" "list modified during sort"
    ret .none) (λV s'=>∃v,V= .done (.ret v)/\wpAny 1.14 A.in1 (ret (.ref a)) (λV s'=>∃v,V= .done (.ret v)/\Q v s') E s') E {s with heap:=G5}:=λY p b0 O N J=>by
  have a9:=kat_snds (vs:=vs) (ks:=vs) rfl b0;dsimp only;refine gD (seqEpoch_at b2 rfl ?_);have b8:p.size=vs.length:=N.size;refine gD (listUpdate_at b2 rfl ?_ (aaN _) (by rw[a9];simp![List.size_toArray,Zc,aaV];omega));rw[O];simp![bne_self_eq_false,ZF,aaz];refine YD ⟨_,rfl,YD ⟨_,rfl,?_⟩⟩;rw[a9];refine h p N J _ _ (λb o q=>?_) (get?_update_seq b2 _);rw[afc _ _ _ _ (Zb (YG q))];exact a0 b o q
 by_cases a5:vs.toArray.size<2
 .rw[YZ a5,YZ a5]
  rw[List.size_toArray]at a5;refine gD (YD ?_);rw[StateT.run_pure];refine gD (YD ?_);refine V _ (afx (ZR vs.length)) ?_ rfl (age _) (λi j D F=>by rw[show i=j by omega];exact abk _);have e:=kas_range (vs.toArray.zip vs.toArray);rw[show(vs.toArray.zip vs.toArray).size=vs.length by simp]at e;exact e.symm
 .rw[Zi a5,Zi a5]
  rw[List.size_toArray]at a5;refine gD (I 1.11 G5 a0 _ _ ?_);have b6:(kas_sort vs.length).kasWp (kas_ask prog w A.in1.in1 κ vs) (λp s'=>s'={s with heap:=G5}/\jU vs.length p/\Up1 ρ p vs.length) {s with heap:=G5}:=
   Tr.wp (λi j C hi F hC=>B G5 a0 i j hi F C hC) (P_ (ρ:=ρ) 1.11)
  refine gD (aap (kat_run (Q:=λY s'=>∃p:Array Nat,arrOf Y=p.map (kas_item (vs.toArray.zip vs.toArray))/\failedOf Y=none/\s'={s with heap:=G5}/\jU vs.length p/\Up1 ρ p vs.length) (E:=E)
   rfl 1.11 b7 (λp' Y s' a1 Z a3 a4=>⟨p',Z,a3,a4⟩) b6) ?_ λ_ _ e=>e)
  rintro⟨⟨⟩,Y⟩ s' ⟨p,b0,O,rfl,N,J⟩;exact V Y p b0 O N J
theorem yq{x:Value}(Z:∀q (U:List Value->zb->Prop),(∀vs O,wpAny 1.14 A.in1 (aeF vs >>=λl=>aaP [l] (call (.builtin "list.sort") [l] []) >>=λ_=>ret l) (λV s'=>∃v,V= .done (.ret v)/\Q v s') q O->U vs O)->wpAny 1.14 A.in1 (collect x) U q s) :
  wpAny 1.14 A (call (.builtin "sorted") [x]) Q E s:=by
 refine Calls.call_function_entry kind_sorted plain_sorted entry_sorted (args_sorted1 _) ?_;unfold Builtin.«sorted»;refine gD (m:=checkCount "sorted" 1 1 _) (YD ?_);exact gD (Z _ _ λvs O h=>h)
theorem Rf{a b:Str}(h1:¬a.cps.toList<b.cps.toList)(h2:¬b.cps.toList<a.cps.toList):a=b:=by
 have:=strKind.total a.cps.toList b.cps.toList (by simpa using h1) (by simpa using h2);cases a;cases b;congr;exact Array.toList_inj.mp this
theorem FN(a:Str):¬a.cps.toList<a.cps.toList:=List.lt_irrefl _
theorem qI:∀a:List Str,ltS a a=false
 |[]=>rfl
 |x::r=>by simp[ltS,qI r]
theorem sY:∀a b:List Str,ltS a b=false->ltS b a=false->a=b
 |[],[],_,_=>rfl
 |[],_::_,h,_=>by simp[ltS]at h
 |_::_,[],_,h=>by simp[ltS]at h
 |x::r,y::q,h1,h2=>by
  by_cases e:x=y
  .subst e
   simp![ltS,Zy]at h1 h2;rw[sY r q h1 h2]
  .simp![ltS,Zi e,Zi (Zt e),decide_eq_false_iff_not]at h1 h2
   exact absurd (Rf h1 h2) e
theorem pJ:∀a b c:List Str,ltS a b=true->ltS b c=true->ltS a c=true
 |[],[],_,h,_=>by simp[ltS]at h
 |_::_,[],_,h,_=>by simp[ltS]at h
 |[],_::_,[],_,h=>by simp[ltS]at h
 |[],_::_,_::_,_,_=>rfl
 |_::_,_::_,[],_,h=>by simp[ltS]at h
 |x::r,y::q,z::p,h1,h2=>by
  by_cases e:x=y
  .subst e
   simp![ltS,Zy]at h1;by_cases e2:x=z
   .subst e2
    simp![ltS,Zy]at h2⊢;exact pJ r q p h1 h2
   .simp![ltS,Zi e2]at h2⊢
    exact h2
  .simp![ltS,Zi e,abC]at h1
   by_cases e2:y=z
   .subst e2
    simp![ltS,Zi e,abC];exact h1
   .simp![ltS,Zi e2,abC]at h2
    have B:=List.lt_trans h1 h2;have J:x≠z:=λD=>by subst D;exact FN _ B
    simp![ltS,Zi J,abC];exact B
theorem FP{a b c:List Str}(h:ltS a c=true)(h2:ltS b c=false):ltS a b=true:=by
 cases e:ltS a b with
 |true=>rfl
 |false=>
  cases e2:ltS b a with
  |true=>rw[pJ b a c e2 h]at h2;cases h2
  |false=>rw[sY a b e e2,h2]at h;cases h
def below(ks:List (List Str))(a:List Str):Nat:=ks.countP λy=>ltS y a
theorem tB{p q:α->Bool}:∀{l:List α},(∀x∈l,p x=true->q x=true)->l.countP p<=l.countP q
 |[],_=>by simp
 |x::r,h=>by
  have O:=tB (l:=r) λy V=>h y (by simp[V]);rw[ac2,ac2];cases e:p x with
  |false=>simp;omega
  |true=>simp[h x (by simp) e,O]
variable{z:α}
theorem yx{p q:α->Bool}:∀{l:List α},(∀x∈l,p x=true->q x=true)->z∈l->q z=true->p z=false->l.countP p<l.countP q
 |[],_,h,_,_=>by cases h
 |x::r,h,J,hq,hp=>by
  rw[ac2,ac2];have B:=tB (l:=r) λy V=>h y (by simp[V]);rcases YJ.mp J with rfl|J
  .simp[hq,hp];omega
  .have ih:=yx (l:=r) (λy V=>h y (by simp[V])) J hq hp
   cases e:p x with
   |false=>simp;omega
   |true=>simp[h x (by simp) e];omega
variable{ks:List (List Str)}
theorem Cr{a b:List Str}(Y:a∈ks):ltS a b=decide ((below ks a:Int)<below ks b):=by
 cases e:ltS a b with
 |true=>
  have:=yx (l:=ks) (p:=λy=>ltS y a) (q:=λy=>ltS y b) (λy _ V=>pJ y a b V e) Y e (qI a);exact(aao (by unfold below;omega)).symm
 |false=>
  have:=tB (l:=ks) (p:=λy=>ltS y b) (q:=λy=>ltS y a) λy _ V=>FP V e;exact(Zn (by unfold below;omega)).symm
def Pn(K:YH)(H:Hp)(ys:List V)(ks:List (List Str)):Prop:=ks.length=ys.length/\((∀(i:Nat)(k:List Str),ks[i]? =some k->∃x,k=[x]/\ys[i]? =some (.str x))∨∀(i:Nat)(k:List Str),ks[i]? =some k->∃b,ys[i]? =some (.ref b)/\SqL K H b (k.map V.str))
def Ez(K:YH)(A:ZW):List V->Hp->VK->Prop:=λxs H Q=>∃a ys ks,xs=[.ref a]/\(SqL K H a ys∨SqT K H a ys)/\ys.length<64/\A.units+2<cLine/\Pn K H ys ks/\
 ∀p:List Nat,aaM p (ZR ys.length)->acf (λi j=>ltS (ks.getD j []) (ks.getD i [])=false) p->∀l,H l=none->Q (.ref l) (upd H l (.lst (p.map λi=>ys.getD i .non)))
theorem Cy(r:Vals ys us)(i:Nat):(ys[i]? =none/\us[i]? =none)∨∃y u,ys[i]? =some y/\us[i]? =some u/\RelV y u:=by
 cases e:ys[i]? with
 |none=>
  have:=r.length;exact .inl ⟨rfl,by rw[aa5]at e⊢;omega⟩
 |some y=>
  obtain⟨u,h1,h2⟩:=r.get e;exact .inr ⟨y,u,rfl,h1,h2⟩
theorem K6{xs:List Str}(r:Vals (xs.map V.str) us):StA us.toArray xs:=λi=>by
 rcases Cy r i with⟨h1,h2⟩|⟨y,u,h1,h2,B⟩
 .exact .inl ⟨by simpa using h2,by simpa using h1⟩
 .rw[List.getElem?_map]at h1
  cases e:xs[i]? with
  |none=>rw[e]at h1;cases h1
  |some x=>
   rw[e]at h1;cases h1;obtain⟨t,rfl⟩:=B;exact .inr ⟨x,t,by simpa using h2,rfl⟩
theorem vD(r:Vals ys us):∀p:List Nat,(∀i∈p,i<ys.length)->Vals (p.map λi=>ys.getD i .non) (p.map λi=>us.getD i ZZ)
 |[],_=>.nil
 |i::p,h=>by
  refine .cons ?_ (vD r p λj F=>h j (by simp[F]));rcases Cy r i with⟨h1,h2⟩|⟨y,u,h1,h2,B⟩
  .have:=h i (by simp)
   rw[aa5]at h1;omega
  .show RelV (ys.getD i .non) (us.getD i ZZ)
   rw[aaC,aaC,h1,h2];exact B
theorem Qw(x y:Str):ltS [x] [y]=decide (x.cps.toList<y.cps.toList):=by
 by_cases z:x=y
 .subst z;simp[ltS,FN]
 .simp[ltS,z]
variable{X:Cx}{Q:VK}{E:Value->zb->Prop}{s:zb}
theorem sort_keys(I:Inv X pins σ H s)(rv:Vals xs its)(Y:xs.length<64)(a9:ks.length=xs.length)
  (hk:2<=its.length->∀h':Heap,(∀b o,s.heap.get? b=some o->h'.get? b=some o)->∀(E':Value->zb->Prop)(U:SortKind->zb->Prop),U κ {s with heap:=h'}->wpAny 1.12 X.A.in1.in1 (keyKind' its.toArray) U E' {s with heap:=h'})
  (B:∀h':Heap,(∀b o,s.heap.get? b=some o->h'.get? b=some o)->∀i j,i<its.length->j<its.length->∀U:Bool->zb->Prop,U (ltS (ks.getD i []) (ks.getD j [])) {s with heap:=h'}->wpAny 1.12 X.A.in1.in1 (keyLt' κ (its.getD i ZZ) (its.getD j ZZ)) U (λ_ _=>False) {s with heap:=h'})
  (q:∀p:List Nat,aaM p (ZR xs.length)->acf (λi j=>ltS (ks.getD j []) (ks.getD i [])=false) p->∀l,H l=none->Q (.ref l) (upd H l (.lst (p.map λi=>xs.getD i .non)))) :
  wpAny 1.12 X.A.in1 (aeF its >>=λl=>agj [l] (call (.builtin "list.sort") [l] []) >>=λ_=>ret l) (λa5 s'=>∃v,a5= .done (.ret v)/\EP X pins σ Q v s') E s:=by
 have O:=rv.length;have a7:64<=YM:=by decide
 have a0:∀i,i<its.length->ks.getD i []∈ks:=λi hi=>by
  have:i<ks.length:=by omega
  rw[show ks.getD i []=ks[i]by simp[this]];exact abN _
 refine I_ (κ:=κ) (ρ:=λi=>(below ks (ks.getD i []):Int)) 1.11 hk (λh' ext i j hi F U a3=>B h' ext i j hi F U (by rw[Cr (a0 i hi)];exact a3)) λp N a1 h' c a6 J=>?_;have Z:∀i∈p.toList,i<its.length:=λi hi=>aa2.mp (afK N |>.mp hi);have a8:=N.size;refine⟨.ref s.heap.objs.size,upd H s.heap.objs.size (.lst (p.toList.map λi=>xs.getD i V.non)),I.laid (t':=s.toks) a6 (YK _) ?_,rfl,q p.toList (by rw[O];exact N) ?_ _ (I.hok.fresh (YK _))⟩
 .exact⟨by rw[Zc];simp![aaV];omega,p.toList.map λi=>its.getD i ZZ,c,vD rv p.toList λi hi=>by have:=Z i hi;omega,J⟩
 .rw[List.pairwise_iff_getElem]
  intro i j hi F D;have a2:j<p.size:=by simpa using F
  have a4:i<p.size:=by simpa using hi
  have:=a1 i j 1.11 1.11;unfold rk at this;rw[abp,abp,getElem?_pos p i a4,getElem?_pos p j a2,af1,af1]at this;rw[ae2,ae2,Cr (a0 p[j] (Z _ (by simp)))];exact Zn (by simp only at this;omega)
theorem Bl(I:Inv X pins σ H s)(N:Vals ys its)(Y:ys.length<64)(hu:X.A.units+2<cLine)(hK:Pn X.K H ys ks)
  (q:∀p:List Nat,aaM p (ZR ys.length)->acf (λi j=>ltS (ks.getD j []) (ks.getD i [])=false) p->∀l,H l=none->Q (.ref l) (upd H l (.lst (p.map λi=>ys.getD i .non)))) :
  wpAny 1.12 X.A.in1 (aeF its >>=λl=>agj [l] (call (.builtin "list.sort") [l] []) >>=λ_=>ret l) (λa8 s'=>∃v,a8= .done (.ret v)/\EP X pins σ Q v s') E s:=by
 obtain⟨a5,a0⟩:=hK;have O:=N.length;have a4:∀i,i<its.length->∃k,ks[i]? =some k/\ks.getD i []=k:=λi hi=>by
  have:i<ks.length:=by omega
  exact⟨ks[i],by simp[this],by simp[this]⟩
 rcases a0 with a0|a0
 .refine sort_keys (κ:=oneType') I N Y a5 (λh2 h' ext E' Q' a3=>af2 (T:=.type "str") 1.11 (λv B=>?_) rfl rfl a3) (λh' ext i j hi F Q' a3=>?_) q
  .obtain⟨i,hi,rfl⟩:=afd B
   obtain⟨k,e1,_⟩:=a4 i hi;obtain⟨x,_,e3⟩:=a0 i k e1;obtain⟨u,h1,t,h2⟩:=N.get e3;rw[YT hi]at h1;rw[Z_ h1,h2];exact PySem.W.Looks.of_pure rfl
  .obtain⟨k1,e1,g1⟩:=a4 i hi
   obtain⟨D,e2,g2⟩:=a4 j F;obtain⟨x,rfl,x3⟩:=a0 i k1 e1;obtain⟨y,rfl,y3⟩:=a0 j D e2;obtain⟨u1,a1,t1,rfl⟩:=N.get x3;obtain⟨u2,a2,t2,rfl⟩:=N.get y3;rw[aaC,aaC,a1,a2];refine oneLt_str ?_;rwa[g1,g2,Qw]at a3
 .refine sort_keys (κ:=oneType') I N Y a5 (λh2 h' ext E' Q' a3=>af2 (T:=.type "list") 1.11 (λv B=>?_) rfl rfl a3) (λh' ext i j hi F Q' a3=>?_) q
  .obtain⟨i,hi,rfl⟩:=afd B
   obtain⟨k,e1,_⟩:=a4 i hi;obtain⟨b,e3,U⟩:=a0 i k e1;obtain⟨u,h1,h2⟩:=N.get e3;rw[YT hi]at h1;cases h1;obtain⟨a9,_,pb,_⟩:=I.list U;obtain⟨o,J,Z,_⟩:=pb.isList;rw[show its[i]=Zk b from h2,←Z];exact(PySem.W.Looks.ld (ext _ _ J)).andThen .now
  .obtain⟨k1,e1,g1⟩:=a4 i hi
   obtain⟨D,e2,g2⟩:=a4 j F;obtain⟨b1,x3,x4⟩:=a0 i k1 e1;obtain⟨b2,y3,y4⟩:=a0 j D e2;obtain⟨u1,a1,t1⟩:=N.get x3;obtain⟨u2,a2,t2⟩:=N.get y3;obtain⟨a6,r1,p1,_⟩:=I.list x4;obtain⟨a7,r2,p2,_⟩:=I.list y4;rw[aaC,aaC,a1,a2];rw[show u1=Zk b1 from t1,show u2=Zk b2 from t2];have x1:Heap.IsList h' b1 a6.toArray:=by obtain⟨o,J,z⟩:=p1.isList;exact⟨o,ext _ _ J,z⟩
   have x2:Heap.IsList h' b2 a7.toArray:=by obtain⟨o,J,z⟩:=p2.isList;exact⟨o,ext _ _ J,z⟩
   have l1:=r1.length;have l2:=r2.length;rw[Zc]at l1 l2;refine EY (xs:=k1) (ys:=D) x1 x2 (K6 r1) (K6 r2) (by rw[List.size_toArray];omega) (by rw[List.size_toArray];omega) (by show X.A.units+1+1<cLine;omega) ?_;rwa[g1,g2]at a3
theorem z_:fK X (.builtin "sorted") (Ez X.K X.A):=by
 show 6;obtain⟨a,ys,ks,rfl,D,Y,hu,F,q⟩:=h;obtain⟨u,rfl,B⟩:=vals1 r;cases B;have V:∀{c:String}{its:List Value},c="list"∨c="tuple"->Vals ys its->(∃o:Obj,s.heap.get? a=some o/\o.cls= .type c/\∃n,o.data= .seq its.toArray n)->wpAny 1.12 X.A (call (.builtin "sorted") [.ref a]) (EP X pins σ Q) X.xe s:=λ{c its} Z N ⟨o,J,O,n,hd⟩=>by
  have a0:its.toArray.size<=YM:=by
   have h1:=N.length;have h2:64<=YM:=by decide
   simp;omega
  refine yq λE' U a1=>wpAny_collect_seq a Z J O hd (λh' hk=>?_) a0;rw[List.toList_toArray];exact a1 _ _ (Bl (I.kept (t':=s.toks) hk) N Y hu F q)
 rcases D with D|D
 .obtain⟨its,N,pl,hz⟩:=I.list D
  exact V (.inl rfl) N pl.isList
 .obtain⟨its,N,pt,hz⟩:=I.tuple D
  exact V (.inr rfl) N pt
def inL(k:List Str):List (List Str)->List (List Str)
 |[]=>[k]
 |a::r=>if ltS a k=true then a::inL k r else k::a::r
def xR(l:List (List Str)):List (List Str):=l.foldr inL []
abbrev RiL(l:List (List Str)):Prop:=acf (λa b=>ltS b a=false) l
theorem vC(k:List Str):∀l,aaM (inL k l) (k::l)
 |[]=>.refl _
 |a::r=>by
  unfold inL;split
  .exact((vC k r).cons a).trans (.swap k a r)
  .exact .refl _
theorem tU:∀l,aaM (xR l) l
 |[]=>.refl _
 |a::r=>(vC a _).trans ((tU r).cons a)
theorem Ls{k:List Str}:∀{l},RiL l->RiL (inL k l)
 |[],_=>by simp[inL]
 |a::r,h=>by
  obtain⟨h1,h2⟩:=abX.mp h;unfold inL;split
  .rename_i c
   refine abX.mpr ⟨λb U=>?_,Ls h2⟩;rcases YJ.mp ((vC k r).mem_iff.mp U)with rfl|U
   .cases e:ltS b a with
    |false=>rfl
    |true=>have:=pJ _ _ _ c e;rw[qI]at this;cases this
   .exact h1 b U
  .rename_i c
   have c:ltS a k=false:=by simpa using c
   refine abX.mpr ⟨λb U=>?_,h⟩;rcases YJ.mp U with rfl|U
   .exact c
   .cases e:ltS b k with
    |false=>rfl
    |true=>
     have:=FP e c;rw[h1 b U]at this;cases this
theorem G8:∀l,RiL (xR l)
 |[]=>.nil
 |a::r=>Ls (G8 r)
theorem GP:∀{l m:List (List Str)},aaM l m->RiL l->RiL m->l=m
 |[],m,h,_,_=>h.nil_eq
 |a::r,[],h,_,_=>by have:=h.length_eq;simp at this
 |a::r,b::q,h,h1,h2=>by
  obtain⟨x1,B⟩:=abX.mp h1;obtain⟨D,I⟩:=abX.mp h2;have e:a=b:=by
   rcases YJ.mp (h.mem_iff.mp (ZJ (a:=a) (l:=r)))with z|z
   .exact z
   .rcases YJ.mp (h.mem_iff.mpr (ZJ (a:=b) (l:=q)))with w|w
    .exact w.symm
    .exact sY a b (D a z) (x1 b w)
  subst e;rw[GP (List.Perm.cons_inv h) B I]
def strsOf:List D->Option (List Str)
 |[]=>some []
 |.str x::r=>(strsOf r).map λt=>x::t
 |_=>none
def Ec:List D->Option (List (List Str))
 |[]=>some []
 |.str x::r=>(Ec r).map λt=>[x]::t
 |_=>none
def lstK(m:Mk):List D->Option (List (List Str))
 |[]=>some []
 |.lst m' es::r=>if m'=m then(strsOf es).bind λk=>(lstK m r).map λt=>k::t else none
 |_=>none
def fS(k:List Str):D:=.str (k.headD "")
def fL(m:Mk)(k:List Str):D:=.lst m (k.map D.str)
theorem tW:∀{ds:List D}{k:List Str},strsOf ds=some k->ds=k.map D.str
 |[],k,h=>by cases h;rfl
 |d::r,k,h=>by
  cases d<;>simp![strsOf]at h<;>try cases h
  cases e:strsOf r with
  |none=>rw[e]at h;cases h
  |some t=>rw[e]at h;cases h;rw[tW e];rfl
theorem Gn:∀{ds:List D}{ks:List (List Str)},Ec ds=some ks->ds=ks.map fS/\∀k∈ks,∃x,k=[x]
 |[],k,h=>by cases h;exact⟨rfl,by simp⟩
 |d::r,k,h=>by
  cases d<;>simp![Ec]at h<;>try cases h
  cases e:Ec r with
  |none=>rw[e]at h;cases h
  |some t=>
   rw[e]at h;cases h;obtain⟨h1,h2⟩:=Gn e;exact⟨by rw[h1];rfl,λk I=>(YJ.mp I).elim (λz=>⟨_,z⟩) (h2 k)⟩
theorem GK{m:Mk}:∀{ds:List D}{ks:List (List Str)},lstK m ds=some ks->ds=ks.map (fL m)
 |[],k,h=>by cases h;rfl
 |d::r,k,h=>by
  cases d<;>simp![lstK]at h<;>try cases h
  split at h
  .rename_i hm
   subst hm;rename_i es;cases e1:strsOf es with
   |none=>rw[e1]at h;cases h
   |some I=>
    rw[e1]at h;cases e:lstK ‹_› r with
    |none=>simp[e]at h
    |some t=>
     have h:I::t=k:=by simpa[e]using h
     subst h;rw[GK e,tW e1];rfl
  .cases h
def rD:List D->Option D
 |[.lst _ ds]=>if ds.length<64 then(match Ec ds with
  |some ks=>some (.lst .own ((xR ks).map fS))
  |none=>match ds with
   |.lst m _::_=>(lstK m ds).map λks=>.lst .own ((xR ks).map (fL m))
   |_=>none)else none
 |_=>none
theorem aH.perm{zs J:List (D×V)}(h:aaM zs J):∀{M:List Addr},aH G H W (zs.map (·.1)) (zs.map (·.2)) M->∃M',aaM M' M/\aH G H W (J.map (·.1)) (J.map (·.2)) M':=by
 induction h with
 |nil=>exact λ{M} r=>⟨M,.refl _,r⟩
 |cons x _ O=>
  intro M r;rw[YL,YL]at r;obtain⟨y,ys,A,B,e,rfl,U,r2⟩:=r.inv;cases e;obtain⟨q,p,I⟩:=O r2;exact⟨A++q,p.append_left A,.cons U I⟩
 |swap x y l=>
  intro M r;simp![YL]at r;obtain⟨v,vs,A,B,e,rfl,U,r2⟩:=r.inv;cases e;obtain⟨v,vs,C,E,e,rfl,I,F⟩:=r2.inv;cases e;refine⟨C++(A++E),?_,.cons I (.cons U F)⟩;rw[←ab1,←ab1];exact ab7.append_right E
 |trans _ _ Y Z=>
  intro M r;obtain⟨M1,p1,U⟩:=Y r;obtain⟨N,p2,r2⟩:=Z U;exact⟨N,p2.trans p1,r2⟩
theorem qN(l:List α)(z:α):(ZR l.length).map (λi=>l.getD i z)=l:=by
 apply List.ext_getElem
 .simp
 .intro i h1 h2
  simp[h2]
variable{p:List Nat}
theorem MN{α:Type}{f:α->β}{l:List α}{z:α}{y:β}(h:∀i∈p,i<l.length):p.map (λi=>(l.map f).getD i y)=(p.map λi=>l.getD i z).map f:=by
 rw[YW];refine ZD λi hi=>?_;have:=h i hi;simp[this]
theorem qW{f:List Str->D}(r:aH G H W (ks.map f) ys M)(N:aaM p (ZR ys.length))(B:acf (λi j=>ltS (ks.getD j []) (ks.getD i [])=false) p):∃M',aaM M' M/\aH G H W ((xR ks).map f) (p.map λi=>ys.getD i .non) M':=by
 have Y:=r.length;rw[Zc]at Y;have I:∀i∈p,i<ks.length:=λi hi=>by rw[Y];exact aa2.mp (N.mem_iff.mp hi)
 have e1:p.map (λi=>ks.getD i [])=xR ks:=by
  refine GP ?_ (adN.mpr B) (G8 ks);have:aaM (p.map λi=>ks.getD i []) ((ZR ks.length).map λi=>ks.getD i []):=by rw[Y];exact N.map _
  rw[qN]at this;exact this.trans (tU ks).symm
 let g:Nat->D×V:=λi=>((ks.map f).getD i .non,ys.getD i .non)
 have q:((ZR ys.length).map g).map (·.1)=ks.map f:=by
  rw[YW,←Y];have:=qN (ks.map f) D.non;rwa[Zc]at this
 have J:((ZR ys.length).map g).map (·.2)=ys:=by rw[YW];exact qN ys V.non
 obtain⟨M',p1,U⟩:=aH.perm (N.map g).symm (M:=M) (by rw[q,J];exact r);refine⟨M',p1,?_⟩;rw[YW,YW]at U;rw[←e1,←MN (y:=D.non) I];exact U
theorem lB{p:Addr}(O:aH G H W ds xs M)(s:∀a∈M,a∈I)(nd:M.Nodup)(hn:∀a∈I,W.tmp a)(N:H p=none)(q:Done G H W I (.lst .own ds) Q):Q (.ref p) (upd H p (.lst xs)):=by
 have B:Same H (upd H p (.lst xs)):=Same.new N;have F:p∉M:=λz=>by obtain⟨o,J,_⟩:=O.dom p z;rw[N]at J;cases J
 refine q (.ref p) _ (p::M) B ?_ (λa Y=>(YJ.mp Y).elim (λz=>.inr (by rw[z];exact N)) λz=>.inl (s a z)) (Zg.mpr ⟨F,nd⟩);rw[Rep];exact⟨p,xs,M,rfl,O.up ⟨B,λb u U f=>⟨λz=>z.elim (λz=>(YJ.mp z).elim (λz=>by rw[z,N]at U;cases U) λz=>f.1 (hn b (s b z)).1) λz=>f.1 z.1,f.2⟩,λ_ _ _ f=>f⟩,aY,rfl⟩
theorem Dd(r:aH G H W (ks.map fS) ys M)(F:∀k∈ks,∃x,k=[x]):Pn G.K H ys ks:=by
 refine⟨by have:=r.length;rwa[Zc]at this,.inl λi k e=>?_⟩;obtain⟨x,rfl⟩:=F k (Zv e);obtain⟨y,N,h1,h2,_⟩:=r.get (j:=i) (d:=fS [x]) (by rw[List.getElem?_map,e];rfl);exact⟨x,rfl,by rw[h1,(cz h2).1];rfl⟩
theorem wQ:∀{k:List Str}{xs:List V}{M:List Addr},aH G H W (k.map D.str) xs M->xs=k.map V.str
 |[],xs,M,r=>r.inv0.1
 |x::k,xs,M,r=>by
  obtain⟨y,ys,A,B,rfl,_,U,q⟩:=r.inv;rw[(cz U).1,wQ q];rfl
theorem Ma(r:aH G H W (ks.map (fL m)) ys M):Pn G.K H ys ks:=by
 refine⟨by have:=r.length;rwa[Zc]at this,.inr λi k e=>?_⟩;obtain⟨y,N,h1,h2,_⟩:=r.get (j:=i) (d:=fL m k) (by rw[List.getElem?_map,e];rfl);unfold fL at h2;rw[Rep]at h2;obtain⟨b,xs,M1,rfl,B,Z⟩:=h2;rw[wQ B]at Z;exact⟨b,h1,Z.sq⟩
theorem Eb{A:ZW}(J:A.units+2<cLine):CaV G (Ez G.K A) rD:=λds d e xs H W I r nd hn w Q q=>by
 unfold rD at e;split at e
 .split at e
  .rename_i hl
   show 3;obtain⟨a,ys,M,rfl,O,B⟩:=rx;have Y:=O.length;split at e
   .rename_i ks hks
    cases e;obtain⟨h1,h2⟩:=Gn hks;rw[h1]at O;refine⟨a,ys,ks,rfl,.inl B.sq,by omega,J,Dd O h2,λp N F l Z=>?_⟩;obtain⟨M',p1,V⟩:=qW O N F;exact lB V (λb U=>B.sub.subset (p1.mem_iff.mp U)) (p1.nodup_iff.mpr (B.sub.nodup nd)) hn Z q
   .split at e
    .rename_i m es rr hks
     cases e2:lstK m (D.lst m es::rr)with
     |none=>rw[e2]at e;cases e
     |some ks=>
      rw[e2]at e;cases e;rw[GK e2]at O;refine⟨a,ys,ks,rfl,.inl B.sq,by omega,J,Ma O,λp N F l Z=>?_⟩;obtain⟨M',p1,V⟩:=qW O N F;exact lB V (λb U=>B.sub.subset (p1.mem_iff.mp U)) (p1.nodup_iff.mpr (B.sub.nodup nd)) hn Z q
    .cases e
  .cases e
 .cases e
def Fp:List D->Option D
 |[]=>some (.dct .own [] [])
 |_=>none
theorem O8:CaV G (λxs H Q=>∀p,H p=none->Q (.ref p) (upd H p (.dK []))) Fp:=λds d e xs H W I r nd hn w Q q=>by
 unfold Fp at e;split at e
 .cases e
  intro p N;have B:Same H (upd H p (.dK [])):=Same.new N;refine q (.ref p) _ [p] B ?_ (λa Y=>.inr (by rw[ZM.mp Y];exact N)) (Zg.mpr ⟨by simp,Zz⟩);rw[Rep];exact⟨p,[],[],rfl,⟨rfl,Zz⟩,.nil,aY,rfl⟩
 .cases e
variable{X:ι->Cx}
theorem Fy:PV X G ob (.Dict [] [] pos) (eAp Fp aK):=⟨_,λc=>Oo,uI O8 tR⟩
def uM:List Key->Option (List Str)
 |[]=>some []
 |.inr x::r=>(uM r).map (x::·)
 |_=>none
theorem Be:∀{ks:List Key}{ys:List Str},uM ks=some ys->ks=ys.map Zj
 |[],ys,h=>by cases h;rfl
 |.inr x::r,ys,h=>by
  simp![uM,aet]at h;obtain⟨t,h1,rfl⟩:=h;rw[Be h1];rfl
 |.inl _::r,ys,h=>by simp[uM]at h
def HY(ys:List Str):List Str:=(xR (ys.map λy=>[y])).map λk=>k.headD ""
def mz:List D->Option D
 |[.tup ds]=>if ds.length<64 then(strsOf ds).map λys=>.lst .own ((HY ys).map D.str)else none
 |ds=>rD ds
theorem wH:∀ys:List Str,aH G H W (ys.map D.str) (ys.map V.str) []
 |[]=>.nil
 |x::r=>aH.cons (M:=[]) (M':=[]) sJ (wH r)
theorem uE(A:ZW)(hA:∀c,(X c).A=A)(J:A.units+2<cLine)(Z:∀c,(X c).calm=true)(F:∀c,(X c).K=G.K:=by intro _;rfl):CaB X G (.builtin "sorted") mz:=by
 refine⟨Ez G.K A,λc=>by rw[←F c,←hA c];exact z_,λds d e xs H W I r nd hn w Q q=>?_⟩;unfold mz at e;split at e
 .split at e
  .rename_i ds hl
   cases B:strsOf ds with
   |none=>rw[B]at e;cases e
   |some ys=>
    rw[B]at e;cases e;rw[tW B]at r hl;show 3;obtain⟨a,vs,rfl,U,O⟩:=rx;have hv:=wQ O;subst hv;have r0:aH G H W ((ys.map λy=>[y]).map fS) (ys.map V.str) []:=by
     rw[YW];exact wH ys
    refine⟨a,ys.map V.str,ys.map λy=>[y],rfl,.inr (SqT.of U),by simpa using hl,J,Dd r0 (by simp),λp N hw l a0=>?_⟩;obtain⟨M',p1,r1⟩:=qW r0 N hw;have e1:(xR (ys.map λy=>[y])).map fS=(HY ys).map D.str:=by rw[HY,YW];rfl
    rw[e1]at r1;have e3:M'=[]:=p1.eq_nil;subst e3;exact lB r1 (λa Y=>by cases Y) Zz hn a0 q
  .cases e
 .exact Eb J _ d e xs H W I r nd hn w Q q
def jo(tg:D->En->Option En)(c:En->Option Bool)(fk N:En->Option D)(ρ0:En):List D->Option (List (Key×D))
 |[]=>some []
 |d::r=>(tg d ρ0).bind λρ1=>(c ρ1).bind λb=>if b=true then((fk ρ1).bind du).bind λk=>(N ρ1).bind λx=>(jo tg c fk N ρ0 r).map λt=>(k,x)::t else jo tg c fk N ρ0 r
def rH(es:List (Key×D)):Option D:=if(es.map (·.1)).Nodup then some (.dct .own (es.map (·.1)) (es.map (·.2)))else none
def nq(cap:List (Option Nat))(it:En->Option (Bool×List D))(tg:D->En->Option En)(c:En->Option Bool)(fk N:En->Option D):En->Option D:=λρ=>(it ρ).bind λp=>if p.2.length<=1000000 then(jo tg c fk N (gP cap ρ) p.2).bind rH else none
theorem Fw{ks:List Key}(h:k∉ks):fB ks k=none:=aaH.mpr λx F=>by
 have:x≠k:=λz=>h (z▸F);simpa using this
theorem Ha(e:du d=some k)(r:Rep G H W d x L):x=kV k/\L=[]:=by
 cases d with
 |int i=>cases e;rw[Rep]at r;exact r
 |str i=>cases e;rw[Rep]at r;exact r
 |_=>cases e
section
variable{G:Gc}{ob own:Nat->Bool}
theorem CV{cap:List (Option Nat)}{wi:TI}{g:TG}{tt:TT}{tk te:TE}{it:En->Option (Bool×List D)}{tg:D->En->Option En}{c:En->Option Bool}{fk e:En->Option D}(b4:∀i:Nat,own i=true->cap[i]?≠none->cap[i]? =some none)(hi:RfI G ob wi it)(hg:Ii G (obC cap ob) own g tg)(ht:RfT G (obC cap ob) tt c)(I:RfE G (obC cap ob) tk fk)(V:RfE G (obC cap ob) te e):RfE G ob (Fo cap wi g tt tk te) (nq cap it tg c fk e):=λρ d ee σ H W rl w Q q=>by
 unfold nq at ee;cases h1:it ρ with
 |none=>simp[h1]at ee
 |some p=>
  obtain⟨b,items⟩:=p;rw[h1]at ee;simp![YF]at ee;split at ee
  .rename_i hlen
   cases h2:jo tg c fk e (gP cap ρ) items with
   |none=>simp[h2]at ee
   |some b0=>
    rw[h2]at ee;simp![YF,rH]at ee;split at ee
    .rename_i hnd
     cases ee;refine hi ρ b items h1 σ H W rl w _ λJ H1 O wk=>?_;refine⟨λi m ys H2=>i+m=items.length/\ys.length<=i/\∃acc L rest,Same H1 H2/\List.map (·.1) ys=List.map (·.1) acc/\aH G H2 (W.add L) (List.map (·.2) acc) (List.map (·.2) ys) L/\(∀a∈L,H1 a=none)/\L.Nodup/\WOk H2 (W.add L)/\jo tg c fk e (gP cap ρ) (items.drop i)=some rest/\acc++rest=b0,⟨items.length,by omega,by simp,[],[],b0,Same.refl _,rfl,.nil,by simp,Zz,?_,h2,rfl⟩,?_⟩
     .rw[t_];exact w.up O
     rintro i m ys H2 ⟨c4,c3,acc,L,rest,Z,a5,ra,fa,na,wa,F,a0⟩;have a3:Up H1 H2 W (W.add L):=Up.add Z fa
     .by_cases hil:i<items.length
      .have hdr:=(abj hil).symm
       rw[hdr,jo]at F;refine .inr ⟨wk.go i items[i] (by simp[hil]) H2 _ (LtB.up a3),by have:=six hlen;omega,λa4 H'=>(i+1)+(m-1)=items.length/\a4.length<=i+1/\∃acc L rest,Same H1 H'/\List.map (·.1) a4=List.map (·.1) acc/\aH G H' (W.add L) (List.map (·.2) acc) (List.map (·.2) a4) L/\(∀a∈L,H1 a=none)/\L.Nodup/\WOk H' (W.add L)/\jo tg c fk e (gP cap ρ) (items.drop (i+1))=some rest/\acc++rest=b0,λa4 H' h=>⟨m-1,by omega,h⟩,λx H3 hy=>?_⟩;obtain⟨s3,rx⟩:=wk.yld i items[i] (by simp[hil]) H2 _ (LtB.up a3) x H3 hy;cases B:tg items[i] (gP cap ρ)with
       |none=>simp[B]at F
       |some ρ1=>
        rw[B]at F;simp![YF]at F;have b9:Rel G H3 (W.add L) (obC cap ob) (gP cap ρ) (gM cap σ):=(rl.cap).up ((Up.same O).trans (a3.trans (Up.same s3)));have b3:=ra.up (Up.same s3 (W:=W.add L));have b1:WOk H3 (W.add L):=wa.up s3;refine hg items[i] _ ρ1 B x _ H3 (W.add L) rx b9 (by simp[gP,gM]) _ λσ2 b2 c6 k4=>⟨DR b4 k4,?_⟩;cases h4:c ρ1 with
        |none=>simp[h4]at F
        |some bb=>
         rw[h4]at F;simp![YF]at F;refine ht ρ1 bb h4 σ2 H3 (W.add L) b2 b1 _ λH4 s4=>?_;have b5:=b2.up (Up.same s4);have a7:=b1.up s4;cases bb with
         |false=>
          simp![ZF,aaz]at F;exact xr ⟨by omega,by omega,acc,L,rest,((Z.trans s3).trans s4),a5,b3.up (Up.same s4),fa,na,a7,F,a0⟩
         |true=>
          simp![Zy]at F;cases h7:fk ρ1 with
          |none=>simp[h7]at F
          |some dk=>
          cases h8:du dk with
          |none=>simp[h7,h8]at F
          |some k=>
          cases h5:e ρ1 with
          |none=>simp[h5,h7,h8]at F
          |some y=>
           cases h6:jo tg c fk e (gP cap ρ) (items.drop (i+1))with
           |none=>simp[h5,h6,h7,h8]at F
           |some a1=>
            obtain rfl:(k,y)::a1=rest:=by simpa[h5,h6,h7,h8]using F
            refine t6 (I ρ1 dk h7 σ2 H4 (W.add L) b5 a7 _ λxk a6 c7 a2 c1 c5 c2=>?_);obtain⟨rfl,rfl⟩:=Ha h8 c1;refine⟨k,rfl,?_⟩;have b8:=b5.up (Up.same a2);have c0:=a7.up a2;have a9:Same H1 a6:=((Z.trans s3).trans s4).trans a2;have a8:=(b3.up (Up.same s4 (W:=W.add L))).up (Up.same a2 (W:=W.add L));refine V ρ1 y h5 σ2 a6 (W.add L) b8 c0 _ λv H5 M s5 ry fy ny=>?_;have fM:∀a∈M,H1 a=none:=λa Y=>a9.none' (fy a Y);have b7:∀a∈L,a∉M:=λa h1 h2=>by
             obtain⟨o,ho,_⟩:=a8.dom a h1;rw[fy a h2]at ho;cases ho
            have u5:Up a6 H5 (W.add L) (W.add (L++M)):=⟨s5,λb u U f=>⟨λz=>z.elim (λz=>(YC.mp z).elim (λz=>f.1 (.inl z)) λz=>by rw[fy b z]at U;cases U) λz=>f.1 (.inr z),f.2⟩,λ_ _ _ f=>f⟩;have u6:Up H5 H5 ((W.add L).add M) (W.add (L++M)):=⟨Same.refl _,λb u U f=>⟨λz=>by
             rcases z with z|z
             .exact(YC.mp z).elim (λz=>f.1 (.inr (.inl z))) λz=>f.1 (.inl z)
             .exact f.1 (.inr (.inr z)),f.2⟩,λ_ _ _ f=>f⟩
            have b6:fB (ys.map (·.1)) k=none:=Fw λz=>by
             rw[a5]at z;rw[←a0,Zq]at hnd;exact(YX.mp hnd).2.2 k z k (by simp) rfl
            rw[oF b6];refine⟨by omega,by simp;omega,acc++[(k,y)],L++M,a1,a9.trans s5,by simp[a5],?_,λa Y=>(YC.mp Y).elim (fa a) (fM a),dN na ny b7,?_,rfl,by rw[←a0];simp⟩
            .rw[Zq,Zq];exact(a8.up u5).append (.one (ry.up u6))
            exact w.add (O.trans (a9.trans s5)) λa Y=>(YC.mp Y).elim (λz=>let⟨o,h,m⟩:=a8.dom a z;⟨o,s5 a o h,m⟩) (ry.dom a)
      .have hl:i=items.length:=by omega
       subst hl;rw[aa1,jo]at F;cases F;refine .inl ⟨wk.stop H2 _ (LtB.up a3),abJ (six 1.11),λp N=>?_⟩;have sm:Same H2 (upd H2 p (.dK ys)):=Same.new N;rw[List.append_nil]at a0;subst a0;refine q (.ref p) _ (p::L) ((O.trans Z).trans sm) ?_ (λa Y=>(YJ.mp Y).elim (λz=>by rw[z];exact(O.trans Z).none' N) λz=>O.none' (fa a z)) (Zg.mpr ⟨λz=>?_,na⟩)
       .rw[Rep]
        exact⟨p,ys,L,rfl,⟨a5,hnd⟩,ra.up ⟨sm,λb u U f=>⟨λz=>z.elim (λz=>(YJ.mp z).elim (λz=>by rw[z,N]at U;cases U) λz=>f.1 (.inl z)) λz=>f.1 (.inr z),f.2⟩,λ_ _ _ f=>f⟩,aY,rfl⟩
       .obtain⟨o,ho,_⟩:=ra.dom p z
        rw[N]at ho;cases ho
    .cases ee
  .cases ee
end
section
variable{ι:Type}{X:ι->Cx}{G:Gc}{ob:Nat->Bool}{kx vx target iter:Expr}{ifs:List Expr}{scope:Scope}{pos pos' pos2:Pos}{N':List Str}{it:En->Option (Bool×List D)}{tg:D->En->Option En}{fc:En->Option Bool}{fk fe:En->Option D}
theorem BW(cap:List (Option Nat))(own:Nat->Bool)(F:∀c,(X c).xe=NoX)(Z:∀c,(X c).calm=true)(O:∀c,dZ (X c).env.scope (X c).N N' scope cap)(J:∀i:Nat,own i=true->cap[i]?≠none->cap[i]? =some none)(hi:PVI X G ob target iter it)(q:Iz (InX X N' scope) G (obC cap ob) own target tg)(U:HX (InX X N' scope) G (obC cap ob) ifs fc)(I:PV (InX X N' scope) G (obC cap ob) kx fk)(V:PV (InX X N' scope) G (obC cap ob) vx fe)
  (B:∀c,∀x,aaD iter (X c).env x=pure x:=by intro _ _;rfl):PV X G ob 1.15 (nq cap it tg fc fk fe):=
 let⟨_,i1,i2⟩:=hi.ex;let⟨_,g1,g2⟩:=q.ex;let⟨_,t1,t2⟩:=U.ex;let⟨_,k1,k2⟩:=I.ex;let⟨_,e1,e2⟩:=V.ex
 ⟨_,λc=>JX (F c) (Z c) (O c) (i1 c) (λC s H fp=>g1 (c,C,s,H,fp)) (λC s H fp=>t1 (c,C,s,H,fp)) (λC s H fp=>k1 (c,C,s,H,fp)) (λC s H fp=>e1 (c,C,s,H,fp)) (B c),CV J i2 g2 t2 k2 e2⟩
variable{P:Nat->Bool}{x:Str}
theorem JS(i:Nat)(cap:List (Option Nat))(own:Nat->Bool)(hN:∀c,(X c).N.Nodup)(F:∀c,(X c).xe=NoX)(Z:∀c,(X c).calm=true)(O:∀c,dZ (X c).env.scope (X c).N N' scope cap)(J:∀i:Nat,own i=true->cap[i]?≠none->cap[i]? =some none)(hi:PVI X G ob target iter it)(q:Iz (InX X N' scope) G (obC cap ob) own target tg)(U:HX (InX X N' scope) G (obC cap ob) ifs fc)(I:PV (InX X N' scope) G (obC cap ob) kx fk)(V:PV (InX X N' scope) G (obC cap ob) vx fe)
  (D:P i=false:=by rfl) (a0:∀c,(X c).N[i]? =some x:=by intro _;rfl) (Y:∀c,Loc (X c).env.scope x:=by intro _;first|exact aa_ rfl|exact aax rfl) (hw:∀c,abH 1.15 (some (.Name x pos')) pos2.line (X c).env=pure true:=by intro _;rfl) (B:∀c,∀x,aaD iter (X c).env x=pure x:=by intro _ _;rfl)
  (hf:∀c,(X c).fn x=true∨(X c).env.scope.names.lookup x=some .local:=by intro _;first|exact .inl rfl|exact .inr rfl):PVS X G ob P (.Assign [.Name x pos'] 1.15 pos2) (dq (nq cap it tg fc fk fe) (tgN i)):=
 let⟨_,i1,i2⟩:=hi.ex;let⟨_,g1,g2⟩:=q.ex;let⟨_,t1,t2⟩:=U.ex;let⟨_,k1,k2⟩:=I.ex;let⟨_,e1,e2⟩:=V.ex
 ⟨_,λc=>RM (F c) (Z c) (hN c) (a0 c) (Y c) (O c) (i1 c) (λC s H fp=>g1 (c,C,s,H,fp)) (λC s H fp=>t1 (c,C,s,H,fp)) (λC s H fp=>k1 (c,C,s,H,fp)) (λC s H fp=>e1 (c,C,s,H,fp)) (hw c) (B c) (hf c),by rw[←Dq];exact mX (Bg (CV J i2 g2 t2 k2 e2)) (jm D)⟩
end
def Hc:En->Option (List (Key×D)):=λ_=>some []
def xF(fk N:En->Option D)(F:En->Option (List (Key×D))):En->Option (List (Key×D)):=λρ=>((fk ρ).bind du).bind λk=>(N ρ).bind λx=>(F ρ).map λr=>(k,x)::r
def BK(f:En->Option (List (Key×D))):En->Option D:=λρ=>(f ρ).bind λes=>if es.length<=15/\au (es.map (·.2))=true/\aA (es.map (·.2))=true then rH es else none
def M5(G:Gc)(ob:Nat->Bool)(t:List (TE×TE))(f:En->Option (List (Key×D))):Prop:=∀(ρ:En)(es:List (Key×D)),f ρ=some es->∀(σ:L2.St)(H:Hp)(W:Wn),Rel G H W ob ρ σ->WOk H W->∀Q:List (V×V)->Hp->Prop,
 (∀(vs:List V) H' L,vs.length=es.length->Same H H'->aH G H' (W.add L) (es.map (·.2)) vs L->(∀a∈L,H a=none)->L.Nodup->Q ((ad_ (es.map (·.1)) vs).map λF=>(kV F.1,F.2)) H')->zq t σ H Q
structure Ry{ι:Type}(X:ι->Cx)(G:Gc)(ob:Nat->Bool)(pos:Pos)(ks:List (Option Expr))(vs:List Expr)(f:En->Option (List (Key×D))):Prop where
 mk::(ex:∃t,(∀c,PPs (X c) pos ks vs t)/\M5 G ob t f)
theorem QW:M5 G ob [] Hc:=λρ es e σ H W V w Q q=>by
 cases e;exact q [] H [] rfl (Same.refl H) .nil (by simp) Zz
variable{t:List (TE×TE)}
theorem Mf{tk tv:TE}{fv:En->Option D}{F:En->Option (List (Key×D))}(I:RfE G ob tk fk)(hv:RfE G ob tv fv)(O:M5 G ob t F):M5 G ob ((tk,tv)::t) (xF fk fv F):=λρ es e σ H W V w Q q=>by
 unfold xF at e;cases h1:fk ρ with
 |none=>simp[h1]at e
 |some dk=>
 cases h2:du dk with
 |none=>simp[h1,h2]at e
 |some k=>
 cases B:fv ρ with
 |none=>simp[h1,h2,B]at e
 |some dv=>
 cases h4:F ρ with
 |none=>simp[h1,h2,B,h4]at e
 |some rs=>
  obtain rfl:(k,dv)::rs=es:=by simpa[h1,h2,B,h4]using e
  refine I ρ dk h1 σ H W V w _ λxk H0 L0 s0 rk a1 nk=>?_;obtain⟨rfl,rfl⟩:=Ha h2 rk;refine hv ρ dv B σ H0 W (V.up (Up.same s0)) (w.up s0) _ λx H1 L s1 rx fx nx=>?_;have u1:Up H0 H1 W (W.add L):=.add s1 fx;have w1:WOk H1 (W.add L):=(w.up s0).add s1 rx.dom;refine O ρ rs h4 σ H1 (W.add L) ((V.up (Up.same s0)).up u1) w1 _ λys H2 M hl Z N fy ny=>?_;have a0:∀a∈L,a∉M:=λa h1 h2=>by
   obtain⟨o,J,_⟩:=rx.dom a h1;rw[fy a h2]at J;cases J
  have u2:Up H1 H2 (W.add L) (W.add (L++M)):=⟨Z,λb u U f=>⟨λz=>z.elim (λz=>(YC.mp z).elim (λz=>f.1 (.inl z)) λz=>by rw[fy b z]at U;cases U) λz=>f.1 (.inr z),f.2⟩,λ_ _ _ f=>f⟩;refine q (x::ys) H2 (L++M) (by simp[hl]) ((s0.trans s1).trans Z) (.cons (rx.up u2) (N.up ⟨Same.refl _,λb u U f=>⟨λz=>?_,f.2⟩,λ_ _ _ f=>f⟩)) (λa Y=>?_) (dN nx ny a0)
  .rcases z with z|z
   .exact(YC.mp z).elim (λz=>f.1 (.inr (.inl z))) λz=>f.1 (.inl z)
   .exact f.1 (.inr (.inr z))
  .rcases YC.mp Y with z|z
   .exact s0.none' (fx a z)
   .exact(s0.trans s1).none' (fy a z)
theorem wR:∀{more kvs:List (Key×V)},(List.map (·.1) (kvs++more)).Nodup->oM kvs more=kvs++more
 |[],kvs,h=>by simp[oM]
 |p::r,kvs,h=>by
  have h1:putK kvs p.1 p.2=kvs++[p]:=oF (Fw λz=>by
   rw[Zq]at h;exact(YX.mp h).2.2 p.1 z p.1 (by simp) rfl)
  have:=wR (more:=r) (kvs:=kvs++[p]) (by simpa using h);show oM (putK kvs p.1 p.2) r=_;rw[h1,this];simp
variable{f:En->Option (List (Key×D))}
theorem Qd(h:M5 G ob t f):RfE G ob (R0 t) (BK f):=λρ d e σ H W V w Q q=>by
 unfold BK at e;cases h1:f ρ with
 |none=>simp[h1]at e
 |some es=>
  rw[h1]at e;simp![YF]at e;split at e
  .rename_i hc
   unfold rH at e;split at e
   .rename_i hnd
    cases e;intro p N;have sm:Same H (upd H p (.dK [])):=Same.new N;have u0:Up H (upd H p (.dK [])) W (W.add [p]):=.add sm (by simpa using N);have w0:WOk (upd H p (.dK [])) (W.add [p]):=w.add sm λa Y=>by
     obtain rfl:a=p:=by simpa using Y
     exact⟨_,aY,rfl⟩
    refine h ρ es h1 σ _ _ (V.up u0) w0 _ λvs H2 L hl Z B I n2=>?_;have a0:H2 p=some (.dK []):=Z p _ aY;have O:List.map (·.1) (ad_ (es.map (·.1)) vs)=es.map (·.1):=afZ (by simp[hl]);have a3:List.map (·.2) (ad_ (es.map (·.1)) vs)=vs:=af0 (by simp[hl]);refine⟨a0,ad_ (es.map (·.1)) vs,rfl,by simp[hl];exact hc.1,?_⟩;rw[wR (by simpa[O]using hnd),List.nil_append];have a2:p∉L:=λz=>by have:=I p z;rw[aY]at this;cases this
    have a5:Same H (upd H2 p (.dK (ad_ (es.map (·.1)) vs))):=λb u U=>by
     have a1:b≠p:=λz=>by rw[z,N]at U;cases U
     rw[aM a1];exact Z b u (by rw[aM a1];exact U)
    refine q (.ref p) _ (p::L) a5 ?_ (λa Y=>?_) (Zg.mpr ⟨a2,n2⟩)
    .rw[Rep]
     refine⟨p,_,L,rfl,⟨O,hnd⟩,?_,aY,rfl⟩;rw[a3];have ev:Evo H2 (upd H2 p (.dK (ad_ (es.map (·.1)) vs))) ((W.add [p]).add L) (W.add (p::L)):=⟨λb u U F=>⟨by rw[aM λz=>F.1 (.inr (.inl (by simp[z])))];exact U,λz=>by
      rcases z with z|z
      .rcases YJ.mp z with z|z
       .exact F.1 (.inr (.inl (by simp[z])))
       .exact F.1 (.inl z)
      .exact F.1 (.inr (.inr z)),F.2⟩,λb xs U=>by rw[aM λz=>by rw[z,a0]at U;cases U];exact U⟩
     exact B.mono ev (.inl hc.2.1) (.inl hc.2.2) λc a4 u J=>by
      have a6:c≠p:=λz=>a2 (by rw[←z];exact a4);rw[aM a6];exact J
    .rcases YJ.mp Y with z|z
     .rw[z];exact N
     .have:=I a z
      by_cases U:a=p
      .rw[U];exact N
      .rwa[aM U]at this
   .cases e
  .cases e
theorem Oj:Ry X G ob pos [] [] Hc:=⟨_,λc=>Q_,QW⟩
theorem IK{k v:Expr}{ks:List (Option Expr)}{vs:List Expr}{N:En->Option D}{F:En->Option (List (Key×D))}(I:PV X G ob k fk)(B:PV X G ob v N)(O:Ry X G ob pos ks vs F):Ry X G ob pos (some k::ks) (v::vs) (xF fk N F):=
 let⟨_,a1,a2⟩:=I.ex;let⟨_,b1,b2⟩:=B.ex;let⟨_,c1,c2⟩:=O.ex;⟨_,λc=>Oe (a1 c) (b1 c) (c1 c),Mf a2 b2 c2⟩
theorem O9{q:List (Option Expr)}{N:List Expr}(h:Ry X G ob pos q N f)(U:q.all (·.isSome)=true:=by rfl)(Y:q.length=N.length:=by rfl)(V:q≠[]:=by simp)(B:q.length<=15:=by decide):PV X G ob (.Dict q N pos) (BK f):=
 let⟨_,a1,a2⟩:=h.ex;⟨_,λc=>PJ (a1 c) U Y V B,Qd a2⟩
def Itz(K:YH)(a b:Addr):It:=
 ⟨λi H=>∃xs ys x y,SqL K H a xs/\SqL K H b ys/\xs[i]? =some x/\ys[i]? =some y,λi H x H'=>∃p u v,H p=none/\x= .ref p/\(∀xs,SqL K H a xs->xs[i]? =some u)/\(∀xs,SqL K H b xs->xs[i]? =some v)/\H'=upd H p (.tup [u,v]),λi H=>∃xs ys,SqL K H a xs/\SqL K H b ys/\(xs.length<=i∨ys.length<=i)⟩
theorem JP{K:YH}{x1}(a b z TI TO i1 i2:Addr)(ap:ZipApart z TI TO i1 i2 a b) :
  Turn P w K (.Tuple elts x1 pos) (Itz K a b) [z,TI,TO,i1,i2] z (λi h=>IsZip h z TI TO .none/\abg h TI (.ref i1) (.ref i2)/\(∃u v,abg h TO u v)/\h.IsListIter i1 a i/\h.IsListIter i2 b i)where
 mem:=by simp
 obj:=λi h st c Z=>by
  obtain⟨h1,h2,⟨u,v,B⟩,⟨o1,q1,_,d1⟩,⟨o2,q2,_,d2⟩⟩:=st;simp![YJ,abO,or_false]at Z;rcases Z with e|e|e|e|e<;>subst e
  .exact⟨_,h1,λv z=>by cases z⟩
  .exact⟨_,h2,λv z=>by cases z⟩
  .exact⟨_,B,λv z=>by cases z⟩
  .exact⟨o1,q1,λv z=>by rw[d1]at z;cases z⟩
  .exact⟨o2,q2,λv z=>by rw[d2]at z;cases z⟩
 keep:=λi h h' st k=>by
  obtain⟨h1,h2,⟨u,v,B⟩,h4,h5⟩:=st;exact⟨k z (by simp) _ h1,k TI (by simp) _ h2,⟨u,v,k TO (by simp) _ B⟩,h4.at λo q=>k i1 (by simp) o q,h5.at λo q=>k i2 (by simp) o q⟩
 item:=by
  intro X hP hw hK Z i pins s σ H E I O st hg;subst hP hw hK;obtain⟨xs,ys,x,y,D,a0,F,V⟩:=hg;obtain⟨its,N,p,hz⟩:=I.list D;obtain⟨its',a2,p',b0⟩:=I.list a0;obtain⟨u,J,ru⟩:=N.get F;obtain⟨v,hv,a5⟩:=a2.get V;obtain⟨h1,h2,⟨u0,v0,B⟩,h4,h5⟩:=st;have a3:∀c∈[z,TI,TO,i1,i2],c<s.heap.objs.size:=λc Z=>by
   simp![YJ,abO,or_false]at Z;obtain⟨o1,q1,_⟩:=h4;obtain⟨o2,q2,_⟩:=h5;rcases Z with e|e|e|e|e<;>subst e
   .exact YG h1
   .exact YG h2
   .exact YG B
   .exact YG q1
   .exact YG q2
  refine wpAny_pyNext_zip_item ap h1 h2 B h4 h5 p.isList p'.isList (x:=u) (y:=v) (by simpa using J) (by simpa using hv) λh' g1 g3 g4 g5 g6 hsz k1=>?_;refine⟨.ref s.heap.objs.size,rfl,adQ g1 λa1 a6 sb=>?_⟩;have a8:z<s.heap.objs.size:=a3 z (by simp);have a7:s.heap.objs.size≠z:=aaA a8;have a4:a1.get? s.heap.objs.size=some {cls:=.type "tuple",data:=.seq #[u,v]}:=sb.extBut _ _ a7 g6;have kk:∀c o,c∉[z,TI,TO,i1,i2]->s.heap.get? c=some o->a1.get? c=some o:=λc o Z q=>by
   have n1:c≠z:=λe=>Z (by simp[e]);exact sb.extBut c o n1 (k1 c o n1 (λe=>Z (by simp[e])) (λe=>Z (by simp[e])) (λe=>Z (by simp[e])) q)
  have I2:Inv X pins σ (upd H s.heap.objs.size (.tup [x,y])) {s with heap:=a1,toks:=s.toks}:=by
   refine rF (fp:=[z,TI,TO,i1,i2]) (t':=s.toks) I O (λb o U q=>kk b o U q) (YK _) ?_;exact⟨by show 2<=YM;decide,[u,v],.cons ru (.cons a5 .nil),_,a4,rfl,_,rfl,rfl⟩
  refine⟨.ref s.heap.objs.size,upd H s.heap.objs.size (.tup [x,y]),I2,rfl,⟨_,x,y,I.hok.fresh (YK _),rfl,λys V=>by rw[I.list_inj V D];exact F,λys a9=>by rw[I.list_inj a9 a0];exact V,rfl⟩,?_,λc Z=>?_⟩
  .refine⟨a6,sb.extBut _ _ ap.TIz (k1 _ _ ap.TIz ap.TITO ap.TIi1 ap.TIi2 h2),⟨u,v,sb.extBut _ _ ap.TOz g3⟩,g4.extBut sb.extBut ap.i1z,g5.extBut sb.extBut ap.i2z⟩
  .rw[aM λe=>aai _ (e▸a3 c Z)]
   exact(O c Z).1
 done:=by
  intro X hP hw hK Z i pins s σ H E I O st hg;subst hP hw hK;obtain⟨xs,ys,D,a0,F⟩:=hg;obtain⟨its,N,p,hz⟩:=I.list D;obtain⟨its',a2,p',b0⟩:=I.list a0;obtain⟨h1,h2,⟨u0,v0,B⟩,h4,h5⟩:=st;have Y:=N.length;have b1:=a2.length;refine wpAny_pyNext_zip_end (I.ok.hd Z) ap h1 h2 B h4 h5 p.isList p'.isList (F.imp (λe=>by simp;omega) λe=>by simp;omega) λh' k1=>⟨rfl,?_⟩;exact kE (fp:=[z,TI,TO,i1,i2]) (t':=s.toks) I O λc o Z q=>k1 c o (λe=>Z (by simp[e])) (λe=>Z (by simp[e])) (λe=>Z (by simp[e])) (λe=>Z (by simp[e])) q
 self:=λA i s Q E st h=>ac3 st.1 h
def FQ:D->Bool
 |.lst _ _=>true
 |_=>false
def zO(a b:List D):List D:=List.zipWith (λx y=>.tup [x,y]) a b
def itZ(f:En->Option (List D)):En->Option (Bool×List D):=λρ=>(f ρ).bind λds=>match ds with
 |[d,d']=>if FQ d=true/\FQ d'=true then(cX d).bind λp=>(cX d').map λU=>(p.1&&U.1,zO p.2 U.2)else none
 |_=>none
theorem rN{a b:List D}(h:(zO a b)[i]? =some d):∃x y,a[i]? =some x/\b[i]? =some y/\d= .tup [x,y]:=by
 unfold zO at h;rw[List.getElem?_zipWith]at h;cases h1:a[i]? with
 |none=>simp[h1]at h
 |some x=>
  cases h2:b[i]? with
  |none=>simp[h1,h2]at h
  |some y=>exact⟨x,y,rfl,rfl,by simpa[h1,h2]using h.symm⟩
variable{b:Bool}
theorem LtB.and1{B:Bool}{I:Wn}(l:LtB (b&&B) H W H2 I):LtB b H W H2 I:=by
 cases b with
 |false=>exact l
 |true=>
  cases B with
  |true=>exact l
  |false=>exact LtB.up ((Zi ZK).mp l)
theorem LtB.and2{B:Bool}{I:Wn}(l:LtB (b&&B) H W H2 I):LtB B H W H2 I:=by
 cases B with
 |false=>rw[agd]at l;exact l
 |true=>
  cases b with
  |true=>exact l
  |false=>exact LtB.up ((Zi ZK).mp l)
theorem BR{v:V}{es:List D}(w:WOk H W)(s:Same H H')(r:Rep G H' (W.add L) d v M)(J:∀a∈M,a∈L)(F:∀a∈L,H a=none)(e:cX d=some (b,es))(q:FQ d=true) :
  ∃a xs,v= .ref a/\Parts G H' W b es xs/\∀H2 I,LtB b H' W H2 I->SqL G.K H2 a xs:=by
 have free:∀a∈M,W.free a:=λa Y=>⟨λz=>?_,λz=>?_,λz=>?_⟩
 .have les:Les H' (W.add L) W M:=⟨λa f=>⟨λz=>f.1 (.inr z),f.2⟩,free⟩
  cases d with
  |lst m ds=>
   simp![cX,abd,ae6]at e;obtain⟨rfl,rfl⟩:=e;rw[Rep]at r;obtain⟨a,xs,M,rfl,O,B⟩:=r;refine⟨a,xs,rfl,⟨aH.fzo (W:=W.add L) (W':=W) (λ_ z=>z) O (les.sub λc Z=>B.sub.subset Z),λz=>?_⟩,λH2 I l=>Su (yH B les (λz=>z) (λz=>?_) l)⟩
   .simp[clean,aD,aB]at z
    exact⟨fZ z.1.2,gj z.2.2⟩
   .simp[clean,aD,aB]at z
    exact⟨z.1.1,z.2.1⟩
  |_=>cases q
 .obtain⟨o,ho,_⟩:=w a (.inl z);rw[F a (J a Y)]at ho;cases ho
 .obtain⟨o,ho,_⟩:=w a (.inr (.inl z));rw[F a (J a Y)]at ho;cases ho
 .obtain⟨o,ho,_⟩:=w a (.inr (.inr z));rw[F a (J a Y)]at ho;cases ho
end Jb
namespace PySem
open PySem.Builtin PySem.Builtin.List PySem.Builtin.SmallTypes
section
variable{prog:Program}{w:World}{A:Around}{E:Value->Shared->Prop}{z TI TO i1 i2 l1 l2 p:Addr}{k:Nat}{xs ys:Array Value}{x y u v:Value}{b:Bool}{h:Heap}{g:Array GenState}{d:Drawn}{tk:Nat}{os:OsState}
theorem F.jb_sub_stop:isSubtype (.type "StopIteration") (.type "StopIteration")=pure true:=by rw[isSubtype_type];kernel_rfl
end
end PySem
namespace Jb
open PySem PySem.Spec PyProof.Rows L2
theorem Ks{K:YH}{k:Nat}{G:Gc}:dJ P w K mg base CX0 k f fd ps (spP G λ_=>none):=
 ⟨λvs H Q E ⟨ds,Fr,r,_,_,_,d,e,_⟩=>(by cases e),λA outer s H args us vs Q E O V U B ⟨ds,Fr,r,_,_,_,d,e,_⟩=>(by cases e)⟩
end Jb
namespace PySem
open PySem.Builtin PySem.Builtin.List PySem.Builtin.SmallTypes
section
variable{prog:Program}{w:World}{A:Around}{E:Value->Shared->Prop}{z TI TO i1 i2 l1 l2 p:Addr}{k:Nat}{xs ys:Array Value}{x y u v:Value}{b:Bool}{h:Heap}{g:Array GenState}{d:Drawn}{tk:Nat}{os:OsState}
theorem HS{Q:Option Value->zb->Prop}(N:A.handled=none)(Y:ZipApart z TI TO i1 i2 l1 l2)(J:IsZip h z TI TO .none)(hT:abg h TI (.ref i1) (.ref i2))(hO:abg h TO u v)(O:h.IsTupleIter i1 l1 k)(Z:h.IsTupleIter i2 l2 k)(p1:h.IsTuple l1 xs)(p2:h.IsTuple l2 ys)(hx:xs[k]? =some x)(V:ys[k]? =some y)
  (D:∀h' b4,IsZip h' z TI TO (abU h.objs.size)->abg h' TI (.ref i1) (.ref i2)->abg h' TO x y->h'.IsTupleIter i1 l1 (k+1)->h'.IsTupleIter i2 l2 (k+1)->abg h' h.objs.size x y->(∀c o,c≠z->c≠TO->c≠i1->c≠i2->h.get? c=some o->h'.get? c=some o)->Q (some (.ref h.objs.size)) ⟨h',g,d,b4,os⟩) :
  wpAny 1.14 A (adY (.ref z)) Q E ⟨h,g,d,tk,os⟩:=by
 have a9:(⟨h,g,d,tk,os⟩:zb).TypeIs (.ref z) "zip":=⟨_,J,rfl⟩;unfold adY;refine gD (ae5 ?_);refine aaR a9 abY ?_
 show 1
 refine aaQ abY.plain F.entry_zip_next (abY.check _ _ _ _ _ _ _ _ a9 (afL _) ?_);unfold Builtin.«zip.__next__»
 iterate 56 (first|assumption|wp_step)
 refine abq J (by simp) λh1 a6 a7=>?_;have a6:IsZip h1 z TI TO .ellipsis:=a6;have I:∀c o,c≠z->h.get? c=some o->h1.get? c=some o:=λc o n e=>a7.extBut c o n e;refine gD ?_;simp![af3,af9,aem,agf];have a1:h1.IsTupleIter i1 l1 k:=O.at λo e=>I _ o Y.i1z e;have a2:h1.IsTuple l1 xs:=p1.extBut a7.extBut Y.l1z;refine gD (gD (adH (gD (m:=nextOf (.ref i1)) (gK a1 a2 hx λh2 q a5=>YD ?_))));have k2:∀c o,c≠z->c≠i1->h.get? c=some o->h2.get? c=some o:=λc o n n' e=>a5.extBut c o n' (I c o n e);have o2:abg h2 TO u v:=k2 _ _ Y.TOz Y.TOi1 hO;refine gD (abI o2 rfl ?_);refine gD (adg o2 λB o3 a4=>?_);have o3:abg B TO x v:=o3;have k3:∀c o,c≠z->c≠i1->c≠TO->h.get? c=some o->B.get? c=some o:=λc o n n' m e=>a4.extBut c o m (k2 c o n n' e);refine gD (afO (YD ?_));have b1:B.IsTupleIter i2 l2 k:=Z.at λo e=>k3 _ o Y.i2z (Zt Y.i12) (Zt Y.TOi2) e;have b2:B.IsTuple l2 ys:=let⟨o,e,r⟩:=p2;⟨o,k3 _ o Y.l2z Y.l2i1 Y.l2TO e,r⟩;refine gD (gD (adH (gD (m:=nextOf (.ref i2)) (gK b1 b2 V λh4 b3 a3=>YD ?_))));have o4:abg h4 TO x v:=a3.extBut _ _ Y.TOi2 o3;refine gD (abI o4 rfl ?_);refine gD (adg o4 λU o5 a0=>?_);have o5:abg U TO x y:=o5;refine gD (afO (YD (YD ?_)));refine gD (abI o5 rfl ?_);refine gD (wpAny_newTuple ?_ (by show 2<=YM;decide));have e5:U.objs.size=h.objs.size:=by rw[a0.1,a3.1,a4.1,a5.1,a7.1]
 have k5:∀c o,c≠z->c≠TO->c≠i1->c≠i2->h.get? c=some o->U.get? c=some o:=λc o n1 n2 n3 n4 e=>a0.extBut c o n2 (a3.extBut c o n4 (k3 c o n1 n3 n2 e));have z5:IsZip U z TI TO .ellipsis:=a0.extBut _ _ (Zt Y.TOz) (a3.extBut _ _ (Zt Y.i2z) (a4.extBut _ _ (Zt Y.TOz) (a5.extBut _ _ (Zt Y.i1z) a6)));have zl:z<U.objs.size:=YG z5;refine gD ?_;unfold ownedTupleHandOut;have z6:IsZip (U.push {cls:=.type "tuple",data:=.seq #[x,y]}) z TI TO .ellipsis:=za _ z5;refine gD (abq z6 (by simp) λh7 z7 b0=>?_);have z7:IsZip h7 z TI TO (abU U.objs.size):=z7;refine abq z7 (by simp) λh8 z8 a8=>?_;have z8:IsZip h8 z TI TO (abU U.objs.size):=z8;have k8:∀c o,c≠z->U.get? c=some o->h8.get? c=some o:=λc o n e=>a8.extBut c o n (b0.extBut c o n (za _ e));have n8:abg h8 U.objs.size x y:=a8.extBut _ _ (aaA zl) (b0.extBut _ _ (aaA zl) (YS _ rfl));have t1:U.IsTupleIter i1 l1 (k+1):=q.at λo e=>a0.extBut _ o (Zt Y.TOi1) (a3.extBut _ o Y.i12 (a4.extBut _ o (Zt Y.TOi1) e));have t2:U.IsTupleIter i2 l2 (k+1):=b3.at λo e=>a0.extBut _ o (Zt Y.TOi2) e;refine YD ?_;refine YD ?_;show Q (some (.ref U.objs.size)) ⟨h8,g,d,tk,os⟩;rw[e5]at z8 n8⊢;exact D h8 tk z8 (k8 _ _ Y.TIz (k5 _ _ Y.TIz Y.TITO Y.TIi1 Y.TIi2 hT)) (k8 _ _ Y.TOz o5) (t1.at λo e=>k8 _ o Y.i1z e) (t2.at λo e=>k8 _ o Y.i2z e) n8 λc o n1 n2 n3 n4 e=>k8 c o n1 (k5 c o n1 n2 n3 n4 e)
theorem JZ{Q:Option Value->zb->Prop}(N:A.handled=none)(Y:ZipApart z TI TO i1 i2 l1 l2)(J:IsZip h z TI TO .none)(hT:abg h TI (.ref i1) (.ref i2))(hO:abg h TO u v)(O:h.IsTupleIter i1 l1 k)(s2:h.IsTupleIter i2 l2 k)(p1:h.IsTuple l1 xs)(p2:h.IsTuple l2 ys)(hn:xs.size<=k∨ys.size<=k)
  (D:∀h',(∀c o,c≠z->c≠TO->c≠i1->c≠i2->h.get? c=some o->h'.get? c=some o)->Q none ⟨h',g,d,tk,os⟩) :
  wpAny 1.14 A (adY (.ref z)) Q E ⟨h,g,d,tk,os⟩:=by
 have a8:(⟨h,g,d,tk,os⟩:zb).TypeIs (.ref z) "zip":=⟨_,J,rfl⟩;have a7:A.in1.handled=none:=N;unfold adY;refine gD (ae5 ?_);refine aaR a8 abY ?_
 show 1
 refine aaQ abY.plain F.entry_zip_next (abY.check _ _ _ _ _ _ _ _ a8 (afL _) ?_);unfold Builtin.«zip.__next__»
 iterate 56 (first|assumption|wp_step)
 refine abq J (by simp) λh1 a4 a9=>?_;have a4:IsZip h1 z TI TO .ellipsis:=a4;have I:∀c o,c≠z->h.get? c=some o->h1.get? c=some o:=λc o n e=>a9.extBut c o n e;refine gD ?_;simp![af3,af9,aem,agf];have a1:h1.IsTupleIter i1 l1 k:=O.at λo e=>I _ o Y.i1z e;have a2:h1.IsTuple l1 xs:=p1.extBut a9.extBut Y.l1z;refine gD (gD (adH ?_));by_cases hx:k<xs.size
 .refine gD (m:=nextOf (.ref i1)) (gK a1 a2 (x:=xs[k]) (by simp[hx]) λh2 b0 a6=>YD ?_)
  have hy:ys.size<=k:=hn.resolve_left (Nat.not_le.mpr hx);have k2:∀c o,c≠z->c≠i1->h.get? c=some o->h2.get? c=some o:=λc o n n' e=>a6.extBut c o n' (I c o n e);have o2:abg h2 TO u v:=k2 _ _ Y.TOz Y.TOi1 hO;refine gD (abI o2 rfl ?_);refine gD (adg o2 λB o3 a5=>?_);have k3:∀c o,c≠z->c≠i1->c≠TO->h.get? c=some o->B.get? c=some o:=λc o n n' m e=>a5.extBut c o m (k2 c o n n' e);refine gD (afO (YD ?_));have b1:B.IsTupleIter i2 l2 k:=s2.at λo e=>k3 _ o Y.i2z (Zt Y.i12) (Zt Y.TOi2) e;have b2:B.IsTuple l2 ys:=let⟨o,e,r⟩:=p2;⟨o,k3 _ o Y.l2z Y.l2i1 Y.l2TO e,r⟩;refine gD (gD (adH (gD (m:=nextOf (.ref i2)) ((Draws.tupleEnd a7 i2 l2 k ys (aey hy)).done _ _ _ ⟨rfl,b1,b2⟩ λh4 ee a3 hE=>?_))));obtain⟨oe,V,Z⟩:=hE;have z4:IsZip h4 z TI TO .ellipsis:=a3 _ _ (Zt Y.i2z) (a5.extBut _ _ (Zt Y.TOz) (a6.extBut _ _ (Zt Y.i1z) a4));have ne:ee≠z:=λq=>by subst q;rw[z4]at V;cases V;simp at Z
  refine abq z4 (by simp) λU z5 a0=>?_;refine gD (acd (T:="StopIteration") (b:=true) ⟨oe,a0.extBut _ _ ne V,Z⟩ F.jb_sub_stop ?_);exact YD (D _ λc o n1 n2 n3 n4 e=>a0.extBut c o n1 (a3 c o n4 (k3 c o n1 n3 n2 e)))
 .refine gD (m:=nextOf (.ref i1)) ((Draws.tupleEnd a7 i1 l1 k xs (aey (Nat.not_lt.mp hx))).done _ _ _ ⟨rfl,a1,a2⟩ λh4 ee a3 hE=>?_)
  obtain⟨oe,V,Z⟩:=hE;have z4:IsZip h4 z TI TO .ellipsis:=a3 _ _ (Zt Y.i1z) a4;have ne:ee≠z:=λq=>by subst q;rw[z4]at V;cases V;simp at Z
  refine abq z4 (by simp) λU z5 a0=>?_;refine gD (acd (T:="StopIteration") (b:=true) ⟨oe,a0.extBut _ _ ne V,Z⟩ F.jb_sub_stop ?_);exact YD (D _ λc o n1 n2 n3 n4 e=>a0.extBut c o n1 (a3 c o n3 (I c o n1 e)))
def tI(l:Addr):Obj:={cls:=.type "tuple_iterator",data:=.fields #[.ref l,.int 0 0]}
def tZa(h:Heap)(l1:Addr):Heap:=h.push (tI l1)
def tZb(h:Heap)(l1 l2:Addr):Heap:=(tZa h l1).push (tI l2)
def tZc(h:Heap)(l1 l2:Addr):Heap:=(tZb h l1 l2).push {cls:=.type "tuple",data:=.seq #[.ref h.objs.size,.ref (tZa h l1).objs.size]}
def tZd(h:Heap)(l1 l2:Addr):Heap:=(tZc h l1 l2).push {cls:=.type "tuple",data:=.seq #[.none,.none]}
def tZ(h:Heap)(l1 l2:Addr):Heap:=(tZd h l1 l2).push {cls:=.type "zip",data:=.fields #[.none,.bool false,.bool false,.ref (tZb h l1 l2).objs.size,.ref (tZc h l1 l2).objs.size]}
theorem xX{Q:aen->zb->Prop}(p1:h.IsTuple l1 xs)(p2:h.IsTuple l2 ys)(D:Q (.done (.ret (.ref (tZd h l1 l2).objs.size))) ⟨tZ h l1 l2,g,d,tk,os⟩) :
  wpAny 1.14 A (Builtin.«zip.__new__» ⟨[.type "zip",.ref l1,.ref l2],[]⟩) Q E ⟨h,g,d,tk,os⟩:=by
 have N:=sub_zip;have q1:(⟨h,g,d,tk,os⟩:zb).heap.IsTuple l1 xs:=p1;have q2:Heap.IsTuple (Shared.heap ⟨h.push {cls:=.type "tuple_iterator",data:=.fields #[.ref l1,.int 0 0]},g,d,tk,os⟩) l2 ys:=p2.push _
 wp_walk using wpAny_pyIter_tuple q1,wpAny_pyIter_tuple q2
 exact D
theorem Jx{Q:Value->zb->Prop}(p1:h.IsTuple l1 xs)(p2:h.IsTuple l2 ys)
  (D:∀h',IsZip h' (h.objs.size+4) (h.objs.size+2) (h.objs.size+3) .none->abg h' (h.objs.size+2) (.ref h.objs.size) (.ref (h.objs.size+1))->abg h' (h.objs.size+3) .none .none->h'.IsTupleIter h.objs.size l1 0->h'.IsTupleIter (h.objs.size+1) l2 0->(∀c o,h.get? c=some o->h'.get? c=some o)->Q (.ref (h.objs.size+4)) ⟨h',g,d,tk,os⟩) :
  wpAny 1.14 A (call (.type "zip") [.ref l1,.ref l2]) Q E ⟨h,g,d,tk,os⟩:=by
 have N:(tZa h l1).objs.size=h.objs.size+1:=ZQ ..;have U:(tZb h l1 l2).objs.size=h.objs.size+2:=by rw[tZb,ZQ,N]
 have V:(tZc h l1 l2).objs.size=h.objs.size+3:=by rw[tZc,ZQ,U]
 have Y:(tZd h l1 l2).objs.size=h.objs.size+4:=by rw[tZd,ZQ,V]
 have up:∀c o,(tZb h l1 l2).get? c=some o->(tZ h l1 l2).get? c=some o:=λc o e=>za _ (za _ (za _ e));have I:(tZ h l1 l2).get? (tZd h l1 l2).objs.size=some _:=YS _ rfl;have q:(tZ h l1 l2).get? (tZc h l1 l2).objs.size=some _:=za _ (YS _ rfl);have g3:(tZ h l1 l2).get? (tZb h l1 l2).objs.size=some _:=za _ (za _ (YS _ rfl));have B:(tZ h l1 l2).get? (tZa h l1).objs.size=some (tI l2):=up _ _ (YS _ rfl);have O:(tZ h l1 l2).get? h.objs.size=some (tI l1):=up _ _ (za _ (YS _ rfl));rw[Y,U,V]at I;rw[V]at q;rw[U,N]at g3;rw[N]at B;refine callType_newIn F.called_zip (by decide) (F.typeCall_zip_2 _ _) (F.newCall_zip_2 _ _) (λobj=>F.args_object_init_3 _ _ _) F.entry_zip_new (S:=λZ R s'=>s'=⟨h,g,d,tk,os⟩/\R (.ok (.ret (.ref (h.objs.size+4)))) ⟨tZ h l1 l2,g,d,tk,os⟩) ?_ ⟨rfl,⟨⟨_,I,rfl⟩,D _ I g3 q ⟨_,O,rfl,rfl⟩ ⟨_,B,rfl,rfl⟩ λc o e=>up c o (za _ (za _ e))⟩⟩;rintro Z R s' ⟨rfl,J⟩;rw[←Y]at J;exact xX p1 p2 J
end
end PySem
namespace Jb
open PySem PySem.Spec PyProof.Rows L2
def Wb(K:YH)(a b:Addr):It:=
 ⟨λi H=>∃xs ys x y,SqT K H a xs/\SqT K H b ys/\xs[i]? =some x/\ys[i]? =some y,λi H x H'=>∃p u v,H p=none/\x= .ref p/\(∀xs,SqT K H a xs->xs[i]? =some u)/\(∀xs,SqT K H b xs->xs[i]? =some v)/\H'=upd H p (.tup [u,v]),λi H=>∃xs ys,SqT K H a xs/\SqT K H b ys/\(xs.length<=i∨ys.length<=i)⟩
theorem Ib{K:YH}{x1}(a b z TI TO i1 i2:Addr)(ap:ZipApart z TI TO i1 i2 a b) :
  Turn P w K (.Tuple elts x1 pos) (Wb K a b) [z,TI,TO,i1,i2] z (λi h=>IsZip h z TI TO .none/\abg h TI (.ref i1) (.ref i2)/\(∃u v,abg h TO u v)/\h.IsTupleIter i1 a i/\h.IsTupleIter i2 b i)where
 mem:=by simp
 obj:=λi h st c Z=>by
  obtain⟨h1,h2,⟨u,v,B⟩,⟨o1,q1,_,d1⟩,⟨o2,q2,_,d2⟩⟩:=st;simp![YJ,abO,or_false]at Z;rcases Z with e|e|e|e|e<;>subst e
  .exact⟨_,h1,λv z=>by cases z⟩
  .exact⟨_,h2,λv z=>by cases z⟩
  .exact⟨_,B,λv z=>by cases z⟩
  .exact⟨o1,q1,λv z=>by rw[d1]at z;cases z⟩
  .exact⟨o2,q2,λv z=>by rw[d2]at z;cases z⟩
 keep:=λi h h' st k=>by
  obtain⟨h1,h2,⟨u,v,B⟩,h4,h5⟩:=st;exact⟨k z (by simp) _ h1,k TI (by simp) _ h2,⟨u,v,k TO (by simp) _ B⟩,h4.at λo q=>k i1 (by simp) o q,h5.at λo q=>k i2 (by simp) o q⟩
 item:=by
  intro X hP hw hK Z i pins s σ H E I O st hg;subst hP hw hK;obtain⟨xs,ys,x,y,D,a0,F,V⟩:=hg;obtain⟨its,N,p,hz⟩:=I.tuple D;obtain⟨its',a2,p',b0⟩:=I.tuple a0;obtain⟨u,J,ru⟩:=N.get F;obtain⟨v,hv,a6⟩:=a2.get V;obtain⟨h1,h2,⟨u0,v0,B⟩,h4,h5⟩:=st;obtain⟨h0,g,d,tk,os⟩:=s;have a3:∀c∈[z,TI,TO,i1,i2],c<h0.objs.size:=λc Z=>by
   simp![YJ,abO,or_false]at Z;obtain⟨o1,q1,_⟩:=h4;obtain⟨o2,q2,_⟩:=h5;rcases Z with e|e|e|e|e<;>subst e
   .exact YG h1
   .exact YG h2
   .exact YG B
   .exact YG q1
   .exact YG q2
  refine HS (xs:=its.toArray) (ys:=its'.toArray) (x:=u) (y:=v) (I.ok.hd Z) ap h1 h2 B h4 h5 p p' (by simpa using J) (by simpa using hv) λh' a4 g1 g2 g3 g4 g5 g6 k1=>?_;refine⟨.ref h0.objs.size,rfl,adQ g1 λa1 a7 sb=>?_⟩;have a8:h0.objs.size≠z:=aaA (a3 z (by simp));have a5:a1.get? h0.objs.size=some {cls:=.type "tuple",data:=.seq #[u,v]}:=sb.extBut _ _ a8 g6;have kk:∀c o,c∉[z,TI,TO,i1,i2]->h0.get? c=some o->a1.get? c=some o:=λc o Z q=>by
   have n1:c≠z:=λe=>Z (by simp[e]);exact sb.extBut c o n1 (k1 c o n1 (λe=>Z (by simp[e])) (λe=>Z (by simp[e])) (λe=>Z (by simp[e])) q)
  have I2:Inv X pins σ (upd H h0.objs.size (.tup [x,y])) ⟨a1,g,d,a4,os⟩:=by
   refine rF (fp:=[z,TI,TO,i1,i2]) (t':=a4) I O (λb o U q=>kk b o U q) (YK _) ?_;exact⟨by show 2<=YM;decide,[u,v],.cons ru (.cons a6 .nil),_,a5,rfl,_,rfl,rfl⟩
  refine⟨.ref h0.objs.size,upd H h0.objs.size (.tup [x,y]),I2,rfl,⟨_,x,y,I.hok.fresh (YK _),rfl,λys V=>by rw[I.tuple_inj V D];exact F,λys a9=>by rw[I.tuple_inj a9 a0];exact V,rfl⟩,?_,λc Z=>?_⟩
  .exact⟨a7,sb.extBut _ _ ap.TIz g2,⟨u,v,sb.extBut _ _ ap.TOz g3⟩,g4.at λo e=>sb.extBut _ o ap.i1z e,g5.at λo e=>sb.extBut _ o ap.i2z e⟩
  .rw[aM λe=>aai _ (e▸a3 c Z)]
   exact(O c Z).1
 done:=by
  intro X hP hw hK Z i pins s σ H E I O st hg;subst hP hw hK;obtain⟨xs,ys,D,a0,F⟩:=hg;obtain⟨its,N,p,hz⟩:=I.tuple D;obtain⟨its',a2,p',b0⟩:=I.tuple a0;obtain⟨h1,h2,⟨u0,v0,B⟩,h4,h5⟩:=st;obtain⟨h0,g,d,tk,os⟩:=s;have Y:=N.length;have b1:=a2.length;refine JZ (xs:=its.toArray) (ys:=its'.toArray) (I.ok.hd Z) ap h1 h2 B h4 h5 p p' (F.imp (λe=>by simp;omega) λe=>by simp;omega) λh' k1=>⟨rfl,?_⟩;exact kE (fp:=[z,TI,TO,i1,i2]) (t':=tk) I O λc o Z q=>k1 c o (λe=>Z (by simp[e])) (λe=>Z (by simp[e])) (λe=>Z (by simp[e])) (λe=>Z (by simp[e])) q
 self:=λA i s Q E st h=>ac3 st.1 h
def Td(K:YH)(ta:TA):TI:=λσ H R=>ta σ H λvs H1=>∃a b,vs=[.ref a,.ref b]/\(((∃xs,SqL K H1 a xs)/\(∃xs,SqL K H1 b xs)/\R (Itz K a b) H1)∨((∃xs,SqT K H1 a xs)/\(∃xs,SqT K H1 b xs)/\R (Wb K a b) H1))
variable{X:Cx}
theorem Qs{a b:Expr}{ta:TA}{p:Pos}{x1}(hg:Gl X "zip")(N:X.mg "zip"=none)(Y:PA X [a,b] ta)(B:YQ [a,b] X.env=(false,eval a X.env)::YQ [b] X.env:=by rfl)(a5:YQ [b] X.env=[(false,eval b X.env)]:=by rfl):PI X (.Tuple elts x1 tpos) (.Call (.Name "zip" p) [a,b] [] pos) (Td X.K ta):=by
 intro pins s σ H R I h;refine Call_ (pC I hg N boot_zip (aaU (thn (Y pos pins s σ H _ I h) λus O ⟨vs,H1,F,U,q1⟩=>?_) B (by rw[a5];rfl)));obtain⟨l,l',e,q⟩:=q1;subst e;obtain⟨u,v,rfl,ru,a6⟩:∃u v,us=[u,v]/\RelV (.ref l) u/\RelV (.ref l') v:=by
  cases U with
  |cons h1 t=>
   cases t with
   |cons h2 t=>cases t;exact⟨_,_,rfl,h1,h2⟩
 cases ru;cases a6;rcases q with⟨⟨xs,D⟩,⟨ys,a4⟩,q⟩|⟨⟨xs,D⟩,⟨ys,a4⟩,q⟩
 .obtain⟨its,rv,pl,hz⟩:=F.list D
  obtain⟨its',a7,a0,a8⟩:=F.list a4;have a1:l<O.heap.objs.size:=let⟨_,h1,_⟩:=pl.isList;YG h1;have a2:l'<O.heap.objs.size:=let⟨_,h1,_⟩:=a0.isList;YG h1;refine call_zip_2 pl.isList a0.isList λh1 g1 g2 g3 g4 g5 hsz k1=>?_;have J:Inv X pins σ H1 {O with heap:=h1}:=F.kept (t':=O.toks) k1;refine ac3 g1 ?_;refine⟨O.heap.objs.size+4,[O.heap.objs.size+4,O.heap.objs.size+2,O.heap.objs.size+3,O.heap.objs.size,O.heap.objs.size+1],_,_,H1,rfl,J,JP l l' _ _ _ _ _ (zipApart_new a1 a2),⟨g1,g2,⟨_,_,g3⟩,g4,g5⟩,λc Z=>?_,q⟩;have a3:O.heap.objs.size<=c:=by
   simp![YJ,abO,or_false]at Z;rcases Z with e|e|e|e|e<;>rw[e]<;>omega
  exact F.fpOk a3 (F.hok.fresh a3)
 .obtain⟨its,rv,pl,hz⟩:=F.tuple D
  obtain⟨its',a7,a0,a8⟩:=F.tuple a4;obtain⟨V,g,d,tk,os⟩:=O;have a1:l<V.objs.size:=let⟨_,h1,_⟩:=pl;YG h1;have a2:l'<V.objs.size:=let⟨_,h1,_⟩:=a0;YG h1;refine Jx (xs:=its.toArray) (ys:=its'.toArray) pl a0 λh1 g1 g2 g3 g4 g5 k1=>?_;have J:Inv X pins σ H1 ⟨h1,g,d,tk,os⟩:=F.kept (t':=tk) k1;refine ac3 g1 ?_;refine⟨V.objs.size+4,[V.objs.size+4,V.objs.size+2,V.objs.size+3,V.objs.size,V.objs.size+1],_,_,H1,rfl,J,Ib l l' _ _ _ _ _ (zipApart_new a1 a2),⟨g1,g2,⟨_,_,g3⟩,g4,g5⟩,λc Z=>?_,q⟩;have a3:V.objs.size<=c:=by
   simp![YJ,abO,or_false]at Z;rcases Z with e|e|e|e|e<;>rw[e]<;>omega
  exact F.fpOk a3 (F.hok.fresh a3)
variable{G:Gc}
theorem Bw{H H':Hp}{W:Wn}{v:V}{ds:List D}(w:WOk H W)(s:Same H H')(r:Rep G H' (W.add L) (.tup ds) v M)(J:∀a∈M,a∈L)(F:∀a∈L,H a=none) :
  ∃a xs,v= .ref a/\Parts G H' W (clean (.tup ds)) (fY ds) xs/\∀H2 I,LtB (clean (.tup ds)) H' W H2 I->SqT G.K H2 a xs:=by
 have free:∀a∈M,W.free a:=λa Y=>⟨λz=>?_,λz=>?_,λz=>?_⟩
 .have les:Les H' (W.add L) W M:=⟨λa f=>⟨λz=>f.1 (.inr z),f.2⟩,free⟩
  rw[Rep]at r;obtain⟨a,xs,rfl,U,O⟩:=r;refine⟨a,xs,rfl,⟨aH.fzo (W:=W.add L) (W':=W) (λ_ z=>z) O les,λz=>?_⟩,λH2 I l=>l.tup U⟩;simp[clean,aD,aB]at z;exact⟨fZ z.1,gj z.2⟩
 .obtain⟨o,ho,_⟩:=w a (.inl z);rw[F a (J a Y)]at ho;cases ho
 .obtain⟨o,ho,_⟩:=w a (.inr (.inl z));rw[F a (J a Y)]at ho;cases ho
 .obtain⟨o,ho,_⟩:=w a (.inr (.inr z));rw[F a (J a Y)]at ho;cases ho
def Jk(f:En->Option (List D)):En->Option (Bool×List D):=λρ=>(f ρ).bind λds=>match ds with
 |[.tup es,.tup es']=>some (clean (.tup es)&&clean (.tup es'),zO (fY es) (fY es'))
 |ds=>itZ (λ_=>some ds) ρ
variable{f:En->Option (List D)}
theorem K5{t:TA}(h:RfA G ob t f):RfI G ob (Td G.K t) (Jk f):=λρ b items e σ H W rl w R q=>by
 unfold Jk at e;cases h1:f ρ with
 |none=>simp[h1]at e
 |some ds=>
  rw[h1]at e;simp![YF]at e;split at e
  .rename_i es a5
   cases e;refine h ρ _ h1 σ H W rl w _ λvs H' L s r F nd=>?_;obtain⟨v,ys,M,M',rfl,rfl,hv,V⟩:=r.inv;obtain⟨v',a6,N,N',rfl,hN,a4,a3⟩:=V.inv;obtain⟨rfl,rfl⟩:=a3.inv0;obtain⟨a,xs,rfl,p,B⟩:=Bw w s hv (λa Y=>by simp[Y]) F;obtain⟨a',a0,rfl,U,a1⟩:=Bw w s a4 (λa Y=>by simp[hN,Y]) F;refine⟨a,a',rfl,.inr ⟨⟨xs,B H' W (LtB.up Up.refl)⟩,⟨a0,a1 H' W (LtB.up Up.refl)⟩,q _ H' s ⟨λi d e H2 I l=>?_,λi d e H2 I l x H3 y=>?_,λH2 I l=>?_⟩⟩⟩
   .obtain⟨x,y,hx,V,_⟩:=rN e
    obtain⟨u,J⟩:=p.r.getV hx;obtain⟨O,a2⟩:=U.r.getV V;exact⟨xs,a0,u,O,B H2 I l.and1,a1 H2 I l.and2,J,a2⟩
   .obtain⟨x0,y0,hx,V,rfl⟩:=rN e
    obtain⟨Z,u,O,hp,rfl,J,a2,rfl⟩:=y;have sm:Same H2 (upd H2 Z (.tup [u,O])):=Same.new hp;refine⟨sm,?_⟩;rw[Rep];exact⟨Z,_,rfl,aY,.cons (M:=[]) (M':=[]) ((p.at l.and1 hx (J xs (B _ I l.and1))).up (Up.same sm)) (.one ((U.at l.and2 V (a2 a0 (a1 _ I l.and2))).up (Up.same sm)))⟩
   .refine⟨xs,a0,B H2 I l.and1,a1 H2 I l.and2,?_⟩
    rw[←p.r.length,←U.r.length];unfold zO;rw[afe];omega
  .unfold itZ at e
   simp![YF]at e;split at e
   .rename_i d d' _
    split at e
    .rename_i hl
     cases h2:cX d with
     |none=>simp[h2]at e
     |some p=>
      cases h3:cX d' with
      |none=>simp[h2,h3]at e
      |some U=>
       obtain⟨b1,es⟩:=p;obtain⟨b2,a5⟩:=U;obtain⟨rfl,rfl⟩:(b1&&b2)=b/\zO es a5=items:=by simpa[h2,h3]using e
       refine h ρ _ h1 σ H W rl w _ λvs H' L s r F nd=>?_;obtain⟨v,ys,M,M',rfl,rfl,hv,V⟩:=r.inv;obtain⟨v',a6,N,N',rfl,hN,a4,a3⟩:=V.inv;obtain⟨rfl,rfl⟩:=a3.inv0;obtain⟨a,xs,rfl,p,B⟩:=BR w s hv (λa Y=>by simp[Y]) F h2 hl.1;obtain⟨a',a0,rfl,U,a1⟩:=BR w s a4 (λa Y=>by simp[hN,Y]) F h3 hl.2;refine⟨a,a',rfl,.inl ⟨⟨xs,B H' W (LtB.up Up.refl)⟩,⟨a0,a1 H' W (LtB.up Up.refl)⟩,q _ H' s ⟨λi d e H2 I l=>?_,λi d e H2 I l x H3 y=>?_,λH2 I l=>?_⟩⟩⟩
       .obtain⟨x,y,hx,V,_⟩:=rN e
        obtain⟨u,J⟩:=p.r.getV hx;obtain⟨O,a2⟩:=U.r.getV V;exact⟨xs,a0,u,O,B H2 I l.and1,a1 H2 I l.and2,J,a2⟩
       .obtain⟨x0,y0,hx,V,rfl⟩:=rN e
        obtain⟨Z,u,O,hp,rfl,J,a2,rfl⟩:=y;have sm:Same H2 (upd H2 Z (.tup [u,O])):=Same.new hp;refine⟨sm,?_⟩;rw[Rep];exact⟨Z,_,rfl,aY,.cons (M:=[]) (M':=[]) ((p.at l.and1 hx (J xs (B _ I l.and1))).up (Up.same sm)) (.one ((U.at l.and2 V (a2 a0 (a1 _ I l.and2))).up (Up.same sm)))⟩
       .refine⟨xs,a0,B H2 I l.and1,a1 H2 I l.and2,?_⟩
        rw[←p.r.length,←U.r.length];unfold zO;rw[afe];omega
    .cases e
   .cases e
variable{X:ι->Cx}
theorem M9{a b:Expr}{p:Pos}(q:∀c,Gl (X c) "zip")(N:∀c,(X c).mg "zip"=none)(Y:PVA X G ob [a,b] f)(B:∀c,YQ [a,b] (X c).env=(false,eval a (X c).env)::YQ [b] (X c).env:=by intro _;rfl)(V:∀c,YQ [b] (X c).env=[(false,eval b (X c).env)]:=by intro _;rfl)(F:∀c,(X c).K=G.K:=by intro _;rfl) :
  PVI X G ob (.Tuple elts x1 tpos) (.Call (.Name "zip" p) [a,b] [] pos) (Jk f):=
 let⟨t,a1,a2⟩:=Y.ex;⟨_,λc=>(by rw[←F c];exact Qs (q c) (N c) (a1 c) (B c) (V c)),K5 a2⟩
def kD:Key->D
 |.inl i=>.int i
 |.inr x=>.str x
end Jb
namespace PySem
def fW(ps:List Nat):Obj:={cls:=.type "tuple",data:=.seq (ps.map λ(i:Nat)=>abU i).toArray}
end PySem
namespace Jb
open PySem PyProof.Rows
def vl(x:Keyed):Int:=numOf x.1
end Jb
namespace PySem
open PySem.W
variable{r d:Addr}{P:Nat->Value->Prop}{OK:Heap->Prop}
theorem collect_src{Q:List Value->zb->Prop}(K:KdlSrc prog w T r d n P OK)(N:A.handled=none)(hok:OK s.heap)(hn:n<=YM)
  (U:∀h' tk acc,(∀b o,s.heap.get? b=some o->h'.get? b=some o)->ItemsOf P acc n->Q acc.toList {s with heap:=h',toks:=tk}):wpAny 1.14 A (collect (.ref r)) Q E s:=by
 unfold collect;refine gD (aeL (aar F.entry_proto_collect ?_));rw[aah F.plain_proto_collect _];show wpAny _ A.in1 (aeF [] >>=λl=>again (.builtin "list.__iadd__" ⟨[l,.ref r],[]⟩)) _ _ s;refine gD (aae ?_);refine YD ⟨abx afM _,aar F.entry_list_iadd ?_⟩;rw[aah afM _];show wpAny _ A.in1 (Builtin.List.listExtendWith (.ref s.heap.objs.size) (.ref r) (.ref s.heap.objs.size)) _ _ _;have D:(s.heap.push {cls:=.type "list",data:=.seq ([]:List Value).toArray}).get? s.heap.objs.size=some {cls:=.type "list",data:=.seq #[] 0}:=YS _ rfl;have B:=K.there _ hok;have Z:∀s',(∃h' tk acc c,s'={s with heap:=h',toks:=tk}/\(∀b o,s.heap.get? b=some o->h'.get? b=some o)/\h'.get? s.heap.objs.size=some {cls:=.type "list",dict:=none,data:=.seq acc c,slots:=#[]}/\ItemsOf P acc n)->wpAny 1.14 A (match Zk s.heap.objs.size with
   |Zk a=>do
    match(←load a).data with
     |Data.seq xs _=>pure xs.toList
     |_=>aew "internal:collect"
   |_=>aew "internal:collect") Q E s':=by
  rintro s' ⟨h',tk,acc,c,rfl,I,J,Y⟩;show wpAny _ A (load s.heap.objs.size >>=_) _ _ _;refine gD (aeS J ?_);exact YD (U h' tk acc I Y)
 refine aap (kdl_extend (A:=A) (R:=λr s'=>r= .ok (.ret (.ref s.heap.objs.size))/\∃h' tk acc c,s'={s with heap:=h',toks:=tk}/\(∀b o,s.heap.get? b=some o->h'.get? b=some o)/\h'.get? s.heap.objs.size=some {cls:=.type "list",dict:=none,data:=.seq acc c,slots:=#[]}/\ItemsOf P acc n)
  (s:={s with heap:=s.heap.push {cls:=.type "list",data:=.seq ([]:List Value).toArray}}) K N (K.keep _ _ hok λb _ o e=>za _ e) s.heap.objs.size (aaA B.1) (aaA B.2) _ 0 D (λh' tk acc c I J Y=>⟨rfl,h',tk,acc,c,rfl,λb o e=>I b o (Zb (YG e)) (za _ e),J,Y⟩) hn) (λV s' h=>?_) (λe s' h=>?_)
 .cases V with
  |done f=>
   obtain⟨e,h⟩:=h;cases e;exact Z _ h
  |again c'=>exact⟨h.1,abm h.2 λr q O=>by obtain⟨rfl,h⟩:=O;exact Z _ h⟩
 .exact absurd h.1 (by simp)
end PySem
namespace Jb
open PySem PySem.Spec PyProof.Rows L2
def KR(A:ZW):List V->Hp->VK->Prop:=λxs H Q=>∃(a:Addr)(kvs:List (Key×V))(ys:List Str),xs=[.ref a]/\Rd H a (.dK kvs)/\kvs.map (·.1)=ys.map Zj/\ys.length<64/\A.units+2<cLine/\
 ∀p:List Nat,aaM p (ZR (ys.map V.str).length)->acf (λi j=>ltS ((ys.map λy=>[y]).getD j []) ((ys.map λy=>[y]).getD i [])=false) p->∀l,H l=none->Q (.ref l) (upd H l (.lst (p.map λi=>(ys.map V.str).getD i .non)))
theorem Am:∀{xs:List V}{us:List Value},us.length=xs.length->(∀(i:Nat)(x:V)(u:Value),xs[i]? =some x->us[i]? =some u->RelV x u)->Vals xs us
 |[],[],_,_=>.nil
 |[],_::_,h,_=>by simp at h
 |_::_,[],h,_=>by simp at h
 |x::xs,u::us,h,hr=>.cons (hr 0 x u rfl rfl) (Am (by simpa using h) λi y v h1 h2=>hr (i+1) y v (by simpa using h1) (by simpa using h2))
variable{X:Cx}
theorem zQ(Z:X.calm=true):fK X (.builtin "sorted") (KR X.A):=by
 show 6;obtain⟨a,kvs,ys,rfl,D,V,hl,J,q⟩:=h;obtain⟨u,rfl,ru⟩:=vals1 r;cases ru;obtain⟨hz,hd,vs,rel,O⟩:=uv I.hok D;obtain⟨ep,ob,es,g,x,d,U,r2,r3⟩:=O.dictAt;have a2:s.heap.DictAt (bf X.prog X.w) a vs ep:=⟨ob,es,g,x,d,U,r2,r3⟩;have a3:kvs.length=vs.length:=rel.length;have a4:kvs.length=ys.length:=by have:=congrArg aaX V;simpa using this
 refine yq λE' Q' N=>PySem.collect_src (af4 (ep:=ep) (kvs:=vs) hd) (I.ok.hd Z) a2 1.11 λh' tk acc hk Y=>?_;refine N _ _ (Bl (ks:=ys.map λy=>[y]) (I.kept (t':=tk) hk) (Am ?_ λi x u h1 h2=>?_) (by simpa using hl) J ⟨by simp,.inl λi k e=>?_⟩ q)
 rotate_left 2
 .rw[List.getElem?_map]at e⊢
  cases hi:ys[i]? with
  |none=>rw[hi]at e;cases e
  |some y=>rw[hi]at e;cases e;exact⟨y,rfl,rfl⟩
 .rw[aaV,Zc,Y.1];omega
 .rw[List.getElem?_map]at h1
  cases hi:ys[i]? with
  |none=>rw[hi]at h1;cases h1
  |some y=>
   rw[hi]at h1;cases h1;obtain⟨k,v,e1,e2⟩:=Y.2 i u (by rw[←abt];exact h2);have a0:(kvs.map (·.1))[i]? =some (Zj y):=by rw[V,List.getElem?_map,hi];rfl
   rw[List.getElem?_map]at a0;cases a1:kvs[i]? with
   |none=>rw[a1]at a0;cases a0
   |some F=>
    rw[a1]at a0;have ek:F.1=Zj y:=Z_ a0;have:=(sO rel a1 e1).1;obtain rfl:k=Zj y:=by rw[←ek];exact this.symm
    have B:uJ (Zj y) u=true:=e2;rcases di B with⟨j,t,z,_⟩|⟨x',t,z,rfl⟩
    .cases z
    .cases z;exact⟨t,rfl⟩
def lq:List D->Option D
 |[.dct m ks _]=>if(m== .scr)=false/\ks.length<64 then(uM ks).map λys=>.lst .own ((HY ys).map D.str)else none
 |ds=>mz ds
variable{X:ι->Cx}{G:Gc}
theorem Cg(A:ZW)(hA:∀c,(X c).A=A)(J:A.units+2<cLine)(Z:∀c,(X c).calm=true)(F:∀c,(X c).K=G.K:=by intro _;rfl):CaB X G (.builtin "sorted") lq:=by
 obtain⟨rL,c1,c2⟩:=(uE (X:=X) (G:=G) A hA J Z F).ex;refine⟨λxs H Q=>rL xs H Q∨KR A xs H Q,λc=>fK.or (c1 c) (by rw[←hA c];exact zQ (Z c)),λds d e xs H W L0 r nd hn w Q q=>?_⟩;unfold lq at e;split at e
 .split at e
  .rename_i m ks es hm
   cases B:uM ks with
   |none=>rw[B]at e;cases e
   |some ys=>
    rw[B]at e;cases e;show 3;obtain⟨a,kvs,M,rfl,⟨h1,h2⟩,O,a0⟩:=rx;have I:=Be B;have r0:aH G H W ((ys.map λy=>[y]).map fS) (ys.map V.str) []:=by
     rw[YW];exact wH ys
    refine .inr ⟨a,kvs,ys,rfl,.inl (a0.at2 hm.1),h1.trans I,by have:=hm.2;rw[I]at this;simpa using this,J,λp N hw l a1=>?_⟩;obtain⟨M',p1,U⟩:=qW r0 N hw;have e1:(xR (ys.map λy=>[y])).map fS=(HY ys).map D.str:=by rw[HY,YW];rfl
    rw[e1]at U;have e3:M'=[]:=p1.eq_nil;subst e3;exact lB U (λa Y=>by cases Y) Zz hn a1 q
  .cases e
 .exact .inl (c2 _ d e xs H W L0 r nd hn w Q q)
def mkS:Mk->Mk
 |.frz=>.scr
 |m=>m
mutual
noncomputable def toS:D->D
 |.tup ds=>.tup (Nk ds)
 |.lst m ds=>.lst m (Nk ds)
 |.dct m ks ds=>.dct (mkS m) ks (Nk ds)
 |.ins m c fs ds=>.ins m c fs (Nk ds)
 |d=>d
noncomputable def Nk:List D->List D
 |[]=>[]
 |d::r=>toS d::Nk r
end
def eV(fs:List Str)(f:Str):Option Nat:=fs.findIdx? λx=>decide (x=f)
theorem m8(f:Str):∀kvs:List (Str×V),kvs.lookup f=(eV (kvs.map (·.1)) f).bind λj=>(kvs.map (·.2))[j]?
 |[]=>rfl
 |(k,v)::r=>by
  have O:=m8 f r;by_cases h:k=f
  .subst h
   simp[eV,aa4]
  .have h':(f==k)=false:=aaF.mpr (Zt h)
   simp![abZ,h',eV,YL,aa4,Zn h]at O⊢;rw[O];cases List.findIdx? (λx=>decide (x=f)) (List.map (λx=>x.1) r)<;>simp
structure Kla(K:PySem.W.Frag)(mg:Str->Option Value)(c:Str)(fl:List Str):Prop where
 ex:∃C,mg c=some (.ref C)/\Cls K C/\∀f∈fl,lg K C f
variable{c f:Str}
theorem Kla.at{K:YH}(k:Kla K mg c fl)(h:mg c=some (.ref C))(O:fl.contains f=true):Cls K C/\lg K C f:=by
 obtain⟨Y,h1,h2,B⟩:=k.ex;rw[h]at h1;cases h1;exact⟨h2,B f (by simpa using O)⟩
def iz(c f:Str):D->Option D
 |.ins m N fs ds=>if N=c/\m≠.scr then(eV fs f).bind λj=>ds[j]? else none
 |_=>none
def mZ(i:Nat)(pf:En->Option (List Nat))(c f:Str):En->Option (List Nat):=λρ=>(pf ρ).bind λp=>match ρ[i]? with
 |some (some d0)=>(e_ p d0).bind λd=>match d with
  |.ins .own c' fs ds=>if c'=c then(eV fs f).bind λj=>if j<ds.length then some (p++[j])else none else none
  |_=>none
 |_=>none
theorem OJ(k:Kla G.K G.mg c fl)(I:fl.contains f=true):UnV G (λx H Q=>∃a C dx fs v,x= .ref a/\H a=some (.ins C dx fs)/\Cls G.K C/\lg G.K C f/\fs.lookup f=some v/\Q v H) (iz c f):=λdx d e x H W Lx r nd hn w Q q=>by
 unfold iz at e;split at e
 .rename_i m c' fs ds
  split at e
  .rename_i hc
   obtain⟨rfl,N⟩:=hc;rw[Rep]at r;obtain⟨a,C,dx,kvs,M,rfl,J,rfl,O,B⟩:=r;cases F:eV (kvs.map (·.1)) f with
   |none=>simp[F]at e
   |some j=>
    have D:ds[j]? =some d:=by simpa[F]using e
    obtain⟨z,V,Y,Z,U⟩:=O.get D;exact⟨a,C,dx,kvs,z,rfl,B.at N,(k.at J I).1,(k.at J I).2,by rw[m8,F];exact Y,pM (Ly:=[]) Z (U.trans B.sub) (by simpa using nd) (by simpa using hn) (by simpa using q)⟩
  .cases e
 .cases e
variable{fe:En->Option D}
theorem gh(k:Kla G.K G.mg c fl)(V:PV X G ob e fe)(O:fl.contains f=true:=by rfl)(U:∀i,aaO e f (X i).env (eval e (X i).env)=eval e (X i).env:=by intro _;rfl)(F:∀i,(X i).K=G.K:=by intro _;rfl):PV X G ob (.Attribute e f pos) (e1 (iz c f) fe):=let⟨t,a1,a2⟩:=V.ex;⟨_,λi=>(by have:=Oi (pos:=pos) (a1 i) (U i);rw[F i]at this;exact this),R6 (OJ k O) a2⟩
variable{to:TE}{pf:En->Option (List Nat)}
theorem Qm{V:Nat}(k:Kla G.K G.mg c fl)(hf:fl.contains f=true)(J:RfP G ob to V pf):RfP G ob (Wm G.K to f) V (mZ V pf c f):=λρ p e σ H S Fr s=>by
 unfold mZ at e;cases h1:pf ρ with
 |none=>simp[h1]at e
 |some p0=>
  rw[h1]at e;simp![YF]at e;split at e
  .rename_i d0 h3
   cases Z:e_ p0 d0 with
   |none=>simp[Z]at e
   |some d=>
    rw[Z]at e;simp![YF]at e;split at e
    .rename_i c' fs ds
     split at e
     .rename_i hc
      subst hc;cases hj:eV fs f with
      |none=>simp[hj]at e
      |some j=>
       by_cases h6:j<ds.length
       .obtain rfl:p0++[j]=p:=by simpa[hj,h6]using e
        obtain⟨D,d',g1,B,g3⟩:=J ρ p0 h1 σ H S Fr s;rw[h3]at g1;cases g1;rw[Z]at B;cases B;have I:clean (.ins .own c' fs ds)=true:=p6 (let⟨_,_,_,h⟩:=s.sl V d0 h3;h) Z;have a0:ds[j]? =some ds[j]:=YT h6;refine⟨d0,ds[j],h3,by rw[CJ p0 j d0 Z];exact a0,λQ q=>g3 _ λv v0 H1 M O N U=>?_⟩;obtain⟨a,C,dx,kvs,x,M',rfl,hC,Y,rfl,F,fo⟩:=Foc.ins U.r I a0;exact⟨a,C,dx,kvs,x,rfl,Y,(k.at hC hf).1,(k.at hC hf).2,by rw[m8,hj];exact F,q x v0 H1 M' O N (U.trans fo Z (by show ds[j]?≠none;rw[a0];simp))⟩
       .simp[hj,h6]at e
     .cases e
    .cases e
  .cases e
variable{o:Expr}
theorem kh{V:Nat}(k:Kla G.K G.mg c fl)(J:PVP X G ob o V pf)(O:fl.contains f=true:=by rfl)(U:∀i,aaO o f (X i).env (eval o (X i).env)=eval o (X i).env:=by intro _;rfl)(F:∀i,(X i).K=G.K:=by intro _;rfl):PVP X G ob (.Attribute o f pos) V (mZ V pf c f):=let⟨t,a1,a2⟩:=J.ex;⟨_,λi=>(by have:=Oi (pos:=pos) (a1 i) (U i);rw[F i]at this;exact this),Qm k O a2⟩
def vf(j:Option Nat)(l:List α)(y:α):List α:=match j with
 |some j=>l.set j y
 |none=>l++[y]
variable{H:Hp}{W:Wn}{ds:List D}
theorem Rh{xs:List V}{M0 N:List Addr}{e:D}{x:V}{o:HO}{j:Option Nat}(O:aH G H W ds xs M0)(F:Rep G H W e x N)(nd:(a::M0++N).Nodup)(I:au ds=true)(k2:aA ds=true)(c1:aD e=true)(c2:aB e=true)(hj:∀i,j=some i->i<ds.length) :
  ∃M',(a::M').Nodup/\(∀b∈a::M',b∈a::M0∨b∈N)/\(∀W',Evo H (upd H a o) W W'->aH G (upd H a o) W' (vf j ds e) (vf j xs x) M')/\au (vf j ds e)=true/\aA (vf j ds e)=true:=by
 have a0:=YX.mp nd;have hn:=Zg.mp a0.1;have a1:a∉N:=λz=>a0.2.2 a (by simp) a z rfl;have kp:∀{L:List Addr},a∉L->∀c∈L,∀u,H c=some u->upd H a o c=some u:=λh c Z u J=>by rw[aM (show c≠a from λz=>h (z▸Z))];exact J
 cases j with
 |none=>
  refine⟨M0++N,by simpa using nd,λb U=>by simpa[or_assoc]using U,λW' ev=>?_,by simp[vf,bV,au,I,c1],by simp[vf,bY,aA,k2,c2]⟩;exact(O.mono ev (.inl I) (.inl k2) (kp hn.1)).append (.one (F.mono ev (.inl c1) (.inl c2) (kp a1)))
 |some j=>
  obtain⟨A,M1,B,a5,a3⟩:=O.set (YT (hj j rfl)) F;have q:aav (A++B) M0:=by rw[a5];exact(abe A).append (aat M1 B)
  have n3:=YX.mp (q.nodup hn.2);have a2:∀z∈N,z∉A++B:=λz h1 h2=>a0.2.2 z (Zf _ (q.subset h2)) z h1 rfl;have a4:∀b∈A++(N++B),b∈M0∨b∈N:=λb U=>by
   simp![YC]at U;rcases U with y|y|y
   .exact .inl (q.subset (by simp[y]))
   .exact .inr y
   .exact .inl (q.subset (by simp[y]))
  have Y:a∉A++(N++B):=λz=>(a4 a z).elim hn.1 a1;refine⟨A++(N++B),Zg.mpr ⟨Y,dN n3.1 (dN a0.2.1 n3.2.1 λz h1 h2=>a2 z h1 (by simp[h2])) λz h1 h2=>?_⟩,λb U=>(YJ.mp U).elim (λz=>.inl (by simp[z])) λz=>(a4 b z).imp (Zf _) id,λW' ev=>a3.mono ev (.inl (jC I c1)) (.inl (jr k2 c2)) (kp Y),jC I c1,jr k2 c2⟩;rcases YC.mp h2 with y|y
  .exact a2 z y (by simp[h1])
  .exact n3.2.2 z h1 z y rfl
theorem Bu(f:Str)(v:V):∀kvs:List (Str×V),(lu f v kvs).map (·.1)=(match eV (kvs.map (·.1)) f with|some _=>kvs.map (·.1)|none=>kvs.map (·.1)++[f])/\(lu f v kvs).map (·.2)=vf (eV (kvs.map (·.1)) f) (kvs.map (·.2)) v
 |[]=>⟨rfl,rfl⟩
 |(k,y)::r=>by
  obtain⟨i1,i2⟩:=Bu f v r;by_cases h:k=f
  .subst h
   simp[lu,eV,aa4,vf]
  .simp![eV,YL,aa4,Zn h,lu,Zi h]at i1 i2⊢
   rw[i1,i2];cases List.findIdx? (λx=>decide (x=f)) (List.map (λx=>x.1) r)<;>simp[vf]
def yr(c f:Str):D->List D->Option (D×D)
 |.ins .own c' fs ds,[v]=>if c'=c/\fs.length<1000 then some (.ins .own c (match eV fs f with|some _=>fs|none=>fs++[f]) (vf (eV fs f) ds v),.non)else none
 |_,_=>none
def Wl(K:YH)(ta:TE)(f:Str):TG:=λy σ H Q=>ta σ H λx H2=>∃a C dx fs,x= .ref a/\H2 a=some (.ins C dx fs)/\Cls K C/\lg K C f/\fs.length<1000/\Q σ (upd H2 a (.ins C dx (lu f y fs)))
theorem Ou{fs:List Str}(h:eV fs f=some j):j<fs.length:=(ZG.mp h).1
theorem Ql(k:Kla G.K G.mg c fl)(hf:fl.contains f=true):MuV G (λo xs H Q=>∃y a C dx fs,xs=[y]/\o= .ref a/\H a=some (.ins C dx fs)/\Cls G.K C/\lg G.K C f/\fs.length<1000/\Q .non (upd H a (.ins C dx (lu f y fs)))) (yr c f):=λd es d' res h v xs H W M N r re nd hM Z c1 B Q q=>by
 unfold yr at h;split at h
 .rename_i c' fs ds e
  split at h
  .rename_i hcl
   obtain⟨rfl,a0⟩:=hcl;cases h;rw[Rep]at r;obtain⟨a,C,dx,kvs,M0,rfl,hC,rfl,O,Y,rfl⟩:=r;obtain⟨x,zs,D,N2,rfl,rfl,F,J⟩:=re.inv;obtain⟨rfl,rfl⟩:=J.inv0;rw[List.append_nil]at nd re;have I:au ds=true/\aA ds=true:=by simp[clean,aD,aB]at Z;exact Z
   simp![au,aA,Zw]at c1 B;obtain⟨M',n1,V,n3,n4,n5⟩:=Rh (o:=.ins C dx (lu f x kvs)) (j:=eV (kvs.map (·.1)) f) O F nd I.1 I.2 c1.1 B.1 λi hi=>by rw[O.length];simpa using Ou hi
   obtain⟨p1,p2⟩:=Bu f x kvs;refine⟨x,a,C,dx,kvs,rfl,rfl,Y,(k.at hC hf).1,(k.at hC hf).2,by simpa using a0,q .non _ (a::M') [] (λb u U n=>by rw[aM (show b≠a from λz=>n (by rw[z];simp))];exact U) (λW' ev=>⟨?_,km⟩) (by simpa using n1) (λb U=>(V b (by simpa using U)).imp id λz=>.inl (by simpa using z)) ?_ rfl⟩
   .rw[Rep]
    exact⟨a,C,dx,_,M',rfl,hC,p1,by rw[p2];exact n3 W' ev,aY,rfl⟩
   .simp[clean,aD,aB,n4,n5]
  .cases h
 .cases h
def lO(c f:Str)(i:Nat)(pf:En->Option (List Nat)):D->En->Option En:=λd ρ=>(pf ρ).bind λp=>(upS (yr c f) i p [d] ρ).map λq=>q.2
variable{P:Nat->Bool}
theorem Ro(k:Kla G.K G.mg c fl)(hf:fl.contains f=true)(J:RfP G ob to i pf):RfG G ob P (Wl G.K to f) (lO c f i pf):=λd ρ I e v σ H S M Fr s r nd hF Q q=>by
 unfold lO at e;cases h1:pf ρ with
 |none=>simp[h1]at e
 |some p=>
  cases B:upS (yr c f) i p [d] ρ with
  |none=>simp[h1,B]at e
  |some w=>
   obtain⟨res,ρ1⟩:=w;obtain rfl:ρ1=I:=by simpa[h1,B]using e
   obtain⟨d0,dd,d',g1,g2,Z,c2,g3,rfl⟩:=vV B;obtain⟨a1,a2,k1,D,k3⟩:=J ρ p h1 σ H S (plus M Fr) s;rw[g1]at k1;cases k1;rw[g2]at D;cases D;refine k3 _ λo Y H1 M1 O N a0=>?_;have F:Sta G H1 ob ρ σ S (plus M Fr):=s.grow O λa z=>.inl z;have V:=oO (Ql k hf) F g1 N g2 a0 (.one (r.up (Up.same O))) nd hF Z c2 g3 (Q:=λ_ H'=>Q σ H') λx H' R S' q1 q2 q3 q4 q5 q6 q7 q8=>q σ H' S' (q1.lessF λa z=>.inr z) ⟨λb u U n m=>q8 b u (O b u U) λz=>n ⟨i,z⟩,λj a z=>?_,.refl⟩
   .obtain⟨y,a,C,dx,fs,e1,k⟩:=V
    cases e1;exact⟨a,C,dx,fs,k⟩
   .by_cases hj:j=i
    .subst hj
     rcases q6 a z with y|y|y
     .exact .inl ⟨j,y⟩
     .exact .inr (.inl y)
     .exact .inr (.inr (O.none' y))
    .rw[q5 j hj]at z;exact .inl ⟨j,z⟩
theorem lH{N:En->Option (D×En)}(k:Kla G.K G.mg c fl)(q:PVe X G ob value N)(J:PVP X G ob o i pf)(O:fl.contains f=true:=by rfl)(B:∀i,abH value (some (.Attribute o f pos')) pos.line (X i).env=pure false:=by intro _;rfl)(F:∀i,(X i).K=G.K:=by intro _;rfl):PVS X G ob P (.Assign [.Attribute o f pos'] value pos) (bZ N (lO c f i pf)):=let⟨_,b1,b2⟩:=q.ex;let⟨_,a1,a2⟩:=J.ex;⟨_,λi=>(by have:=Uz (pos:=pos) (pos':=pos') (a1 i) (b1 i) (B i);rw[F i]at this;exact this),mX b2 (Ro k O a2)⟩
def yc:D->List D->Option (D×D)
 |.dct .own ks ds,[k]=>(du k).bind λk=>(fB ks k).bind λj=>if j<ds.length then some (.dct .own (ks.eraseIdx j) (ds.eraseIdx j),.non)else none
 |_,_=>none
theorem yC:∀{kvs:List (Key×V)}{k:Key}{j:Nat},fB (kvs.map (·.1)) k=some j->(kvs.map (·.1)).Nodup->sH kvs k=kvs.eraseIdx j
 |[],k,j,h,_=>by simp[fB]at h
 |(k0,v)::r,k,j,h,n=>by
  rw[YL,Zg]at n;simp![YL,fB,aa4]at h;by_cases e:k0=k
  .subst e
   obtain rfl:0=j:=by simpa using h
   simp![sH,aaL,ne_eq,not_true_eq_false,decide_false,ZF,aaz,List.eraseIdx_cons_zero];exact List.filter_eq_self.mpr λp N=>aao λz=>n.1 (Y_.mpr ⟨p,N,z⟩)
  .rw[Zn e]at h
   simp![ZF,aaz]at h;cases h1:(r.map (·.1)).findIdx? (λx=>decide (x=k))with
   |none=>rw[h1]at h;cases h
   |some i=>
    rw[h1]at h;obtain rfl:i+1=j:=by simpa using h
    have O:=yC (kvs:=r) (k:=k) (j:=i) h1 n.2;simp![sH,aaL,ne_eq,e,not_false_eq_true,decide_true,Zy,aee]at O⊢;rw[O]
theorem t7(f:α->β):∀(l:List α)(j:Nat),(l.eraseIdx j).map f=(l.map f).eraseIdx j
 |[],_=>rfl
 |_::_,0=>rfl
 |x::r,j+1=>by simp[t7 f r j]
theorem Pk:MuV G (λo xs H Q=>∃y a kvs k,xs=[y]/\o= .ref a/\H a=some (.dK kvs)/\y=kV k/\(mj kvs k).isSome=true/\Q .non (upd H a (.dK (sH kvs k)))) yc:=λd es d' res h v xs H W M N r re nd hM Z c1 c2 Q q=>by
 unfold yc at h;split at h
 .rename_i ks ds k0
  cases I:du k0 with
  |none=>simp[I]at h
  |some k=>
   cases hj:fB ks k with
   |none=>simp[I,hj]at h
   |some j=>
    by_cases a0:j<ds.length
    .obtain⟨rfl,rfl⟩:D.dct .own (ks.eraseIdx j) (ds.eraseIdx j)=d'/\D.non=res:=by simpa[I,hj,a0]using h
     rw[Rep]at r;obtain⟨a,kvs,M0,rfl,⟨rfl,a1⟩,O,Y,rfl⟩:=r;obtain⟨x,rfl,F⟩:=re.inv1;have k1:au ds=true/\aA ds=true:=by simp[clean,aD,aB]at Z;exact Z
     obtain⟨z,M1,L,hz,rz,V,pm⟩:=O.erase (YT a0);have a2:=YX.mp nd;have hn:=Zg.mp a2.1;have B:=my hj;have hL:∀b∈L,b∈M0:=λb U=>pm.mem_iff.mp (Za _ U);have e1:au (ds.eraseIdx j)=true:=bI λd hd=>jE k1.1 d (pX hd);have e2:aA (ds.eraseIdx j)=true:=bG λd hd=>jF k1.2 d (pX hd);refine⟨x,a,kvs,k,rfl,rfl,Y,jV F I,by rw[B,hz];rfl,?_⟩;rw[yC hj a1];refine q .non _ (a::L) [] (λb u U n=>by rw[aM (show b≠a from λz=>n (by rw[z];simp))];exact U) (λW' ev=>⟨?_,km⟩) ?_ (λb U=>?_) (by simp[clean,aD,aB,e1,e2]) rfl
     .rw[Rep]
      refine⟨a,_,L,rfl,⟨t7 _ _ _,?_⟩,?_,aY,rfl⟩
      .exact(aeJ _ j).nodup a1
      .rw[t7]
       exact V.mono ev (.inl e1) (.inl e2) λc Z u J=>by rw[aM (show c≠a from λz=>hn.1 (z▸hL c Z))];exact J
     .rw[List.append_nil]
      exact Zg.mpr ⟨λz=>hn.1 (hL a z),(YX.mp (pm.nodup_iff.mpr hn.2)).1⟩
     .rw[List.append_nil]at U
      exact .inl ((YJ.mp U).elim (λz=>by simp[z]) λz=>Zf _ (hL b z))
    .simp[I,hj,a0]at h
 .cases h
def Mm(i:Nat)(pf:En->Option (List Nat))(fk:En->Option D):En->Option Fl:=λρ=>(pf ρ).bind λp=>(fk ρ).bind λk=>(upS yc i p [k] ρ).map λq=>.nx q.2
variable{fk:En->Option D}
theorem QK{ti:TE}(J:RfP G ob to i pf)(hi:RfE G ob ti fk):RfS G ob P (S8 to ti) (Mm i pf fk):=λρ r e σ H S Fr s E q=>by
 unfold Mm at e;cases h1:pf ρ with
 |none=>simp[h1]at e
 |some p=>
  cases h2:fk ρ with
  |none=>simp[h1,h2]at e
  |some k=>
   cases B:upS yc i p [k] ρ with
   |none=>simp[h1,h2,B]at e
   |some w=>
    obtain⟨res,ρ1⟩:=w;obtain rfl:Fl.nx ρ1=r:=by simpa[h1,h2,B]using e
    obtain⟨d0,dd,d',g1,g2,c1,c2,g3,rfl⟩:=vV B;obtain⟨a5,a6,I,k2,k3⟩:=J ρ p h1 σ H S Fr s;rw[g1]at I;cases I;rw[g2]at k2;cases k2;refine k3 _ λo v0 H1 M1 O a3 a4=>?_;have a0:Sta G H1 ob ρ σ S Fr:=s.grow O λa z=>.inl z;refine hi ρ k h2 σ H1 _ a0.rel a0.wok _ λy H2 N Z ry fr nN=>?_;have a2:Sta G H2 ob ρ σ S (plus N Fr):=a0.grow Z λa z=>z.elim (λz=>.inr ⟨fr a z,ry.dom a z⟩) .inl;have up:Up H1 H2 (wn ob S Fr) (wn ob S (plus N Fr)):=Up.add Z fr;have a1:=a4.mono (.inr up) up.evo λc _ u hu=>Z c u hu;have hF:∀a∈N,¬Fr a:=λa Y z=>by
     obtain⟨o,J,_⟩:=a0.fdm a z;rw[fr a Y]at J;cases J
    obtain⟨y',a,kvs,k',e1,V⟩:=oO Pk a2 g1 a3 g2 a1 (.one ry) nN hF c1 c2 g3 (Q:=λ_ H'=>E.nx σ H') λx H' R S' q1 q2 q3 q4 q5 q6 q7 q8=>q σ H' S' (q1.lessF λa z=>.inr z) ⟨λb u U n m=>q8 b u ((O.trans Z) b u U) λz=>n ⟨i,z⟩,λj a z=>by
     by_cases F:j=i
     .subst F
      rcases q6 a z with y|y|y
      .exact .inl ⟨j,y⟩
      .exact .inr (.inr (O.none' (fr a y)))
      .exact .inr (.inr ((O.trans Z).none' y))
     .rw[q5 j F]at z;exact .inl ⟨j,z⟩,.refl⟩
    cases e1;exact⟨a,kvs,k',V⟩
theorem RW{k:Expr}(J:PVP X G ob o i pf)(I:PV X G ob k fk):PVS X G ob P (.Delete [.Subscript o k tpos] pos) (Mm i pf fk):=let⟨_,a1,a2⟩:=J.ex;let⟨_,b1,b2⟩:=I.ex;⟨_,λc=>RC (a1 c) (b1 c),QK a2 b2⟩
def yQ(g:Int->Int->Int):D->List D->Option (D×D)
 |.dct .own ks ds,[k,.int j]=>(gIx (.dct .own ks ds) k).bind λv=>match v with
  |.int i=>fX (.dct .own ks ds) [k,.int (g i j)]
  |_=>none
 |_,_=>none
def wz(g:Int->Int->Int)(i:Nat)(pf:En->Option (List Nat))(fk N:En->Option D):En->Option Fl:=λρ=>(pf ρ).bind λp=>(fk ρ).bind λk=>(N ρ).bind λv=>(upS (yQ g) i p [k,v] ρ).map λq=>.nx q.2
variable{d:D}
theorem M6{k v:D}{q:D×D}(h:yQ g d [k,v]=some q):∃ks ds F m i j,d= .dct .own ks ds/\v= .int j/\du k=some F/\fB ks F=some m/\ds[m]? =some (.int i)/\fX d [k,.int (g i j)]=some q:=by
 unfold yQ at h;split at h
 .rename_i ks ds k' j e
  cases e;simp![gIx]at h;cases I:du k with
  |none=>simp[I]at h
  |some F=>
   cases N:fB ks F with
   |none=>simp[I,N]at h
   |some m=>
    simp![I,N,YF]at h;cases B:ds[m]? with
    |none=>simp[B]at h
    |some z=>
     rw[B]at h;simp![YF]at h;split at h
     .exact⟨ks,ds,F,m,_,j,rfl,rfl,I▸rfl,N,B,h⟩
     .cases h
 .cases h
variable{rd:V->V->Hp->VK->Prop}
theorem NT{ti tv:TE}{fv:En->Option D}(b1:∀i j H Q,Q (.int (g i j)) H->rd (.int i) (.int j) H Q)(J:RfP G ob to i pf)(hi:RfE G ob ti fk)(hv:RfE G ob tv fv):RfS G ob P (SQ to ti tv rd) (wz g i pf fk fv):=λρ r e σ H S Fr s E q=>by
 unfold wz at e;cases h1:pf ρ with
 |none=>simp[h1]at e
 |some p=>
  cases h2:fk ρ with
  |none=>simp[h1,h2]at e
  |some k=>
   cases a2:fv ρ with
   |none=>simp[h1,h2,a2]at e
   |some v=>
    cases B:upS (yQ g) i p [k,v] ρ with
    |none=>simp[h1,h2,a2,B]at e
    |some w=>
     obtain⟨res,ρ1⟩:=w;obtain rfl:Fl.nx ρ1=r:=by simpa[h1,h2,a2,B]using e
     obtain⟨d0,dd,d',g1,g2,c1,c2,g3,rfl⟩:=vV B;obtain⟨ks,ds,kk,m,a0,b0,rfl,rfl,I,hm,a9,g4⟩:=M6 g3;obtain⟨b6,b7,k1,k2,k3⟩:=J ρ p h1 σ H S Fr s;rw[g1]at k1;cases k1;rw[g2]at k2;cases k2;refine k3 _ λo v0 H1 M1 s1 b2 b3=>?_;have a4:Sta G H1 ob ρ σ S Fr:=s.grow s1 λa z=>.inl z;refine hi ρ k h2 σ H1 _ a4.rel a4.wok _ λy H2 N Z ry fr nN=>?_;have hy:=jV ry I;have hN:N=[]:=by cases k<;>simp[du]at I<;>rw[Rep]at ry<;>exact ry.2
     subst hN hy;have a5:Sta G H2 ob ρ σ S Fr:=a4.grow Z λa z=>.inl z;have up:Up H1 H2 (wn ob S Fr) (wn ob S Fr):=Up.same Z;have a3:=b3.mono (.inr up) up.evo λc _ u hu=>Z c u hu;have rr:=a3.r;rw[Rep]at rr;obtain⟨a,kvs,M0,rfl,⟨rfl,b5⟩,O,Y,rfl⟩:=rr;obtain⟨z,Mz,z1,z2,_⟩:=O.get a9;obtain⟨rfl,rfl⟩:=bu z2;refine⟨a,.int a0,rfl,by rw[←z1,←my hm];exact qL.k Y,?_⟩;refine hv ρ _ a2 σ H2 _ a5.rel a5.wok _ λy2 H3 N s3 a8 fr nN=>?_;obtain⟨rfl,rfl⟩:=bu a8;refine b1 _ _ _ _ ?_;have b4:Sta G H3 ob ρ σ S (plus [] Fr):=a5.grow s3 λa z=>.inl (z.resolve_left (by simp));have a7:Up H2 H3 (wn ob S Fr) (wn ob S (plus [] Fr)):=Up.add s3 (by simp);have a6:=a3.mono (.inr a7) a7.evo λc _ u hu=>s3 c u hu;have rk:Rep G H3 (wn ob S (plus [] Fr)) k (kV kk) []:=by cases k<;>simp[du]at I<;>subst I<;>rw[Rep]<;>exact⟨rfl,rfl⟩
     have a1:=oO G4 b4 g1 b2 g2 a6 (.cons (M:=[]) (M':=[]) rk (.one cV)) Zz (by simp) (by cases k<;>simp[du]at I<;>rfl) (by cases k<;>simp[du]at I<;>rfl) g4 (Q:=λ_ H'=>E.nx σ H') λx H' R S' q1 q2 q3 q4 q5 q6 q7 q8=>q σ H' S' (q1.lessF λa z=>.inr z) ⟨λb u U n m=>q8 b u (((s1.trans Z).trans s3) b u U) λz=>n ⟨i,z⟩,λj a z=>by
      by_cases F:j=i
      .subst F
       rcases q6 a z with y|y|y
       .exact .inl ⟨j,y⟩
       .cases y
       .exact .inr (.inr (((s1.trans Z).trans s3).none' y))
      .rw[q5 j F]at z;exact .inl ⟨j,z⟩,.refl⟩
     obtain⟨i1,v1,e1,a1⟩:=a1;cases e1;rcases a1 with⟨pp,xs,_,_,e2,_,e3,_⟩|⟨pp,H',e2,g5,a1⟩
     .cases e2
      rw[s3 a _ Y]at e3;cases e3
     .cases e2
      exact⟨H',g5,a1⟩
theorem Bt{op:ad0}{k:Expr}{N:En->Option D}(Z:∀c,O2 (X c) op rd)(q:∀i j H Q,Q (.int (g i j)) H->rd (.int i) (.int j) H Q)(O:∀c,(X c).A.units+1<cLine)(J:PVP X G ob o i pf)(I:PV X G ob k fk)(B:PV X G ob value N)
 (Y:∀F U new,augStore k F U new=(do aaP [new,F,U] (aeB F U new);release [new,F,U] [];pure .next):=by intros;rfl):PVS X G ob P (.AugAssign (.Subscript o k tpos) op value pos) (wz g i pf fk N):=let⟨_,a1,a2⟩:=J.ex;let⟨_,b1,b2⟩:=I.ex;let⟨_,v1,v2⟩:=B.ex;⟨_,λc=>Pq (O c) (a1 c) (b1 c) (v1 c) (Z c) Y,NT q a2 b2 v2⟩
theorem Tp:∀(i j:Int)(H:Hp)(Q:VK),Q (.int (i+j)) H->Xu (.int i) (.int j) H Q:=λi j H Q q=>⟨i,j,rfl,rfl,q⟩
theorem Uq:∀(i j:Int)(H:Hp)(Q:VK),Q (.int (i-j)) H->Xb (.int i) (.int j) H Q:=λi j H Q q=>⟨i,j,rfl,rfl,q⟩
structure iD(P:Program)(w:World)(K:PySem.W.Frag)(mg:Str->Option Value)(base:Heap)(k:Nat)(c m:Str)(ps:List Str)(sp:Sp):Prop where
 ex:∃C f fd,mg c=some (.ref C)/\Cls K C/\Meth K C m f/\dJ P w K mg base CX0 k f fd ps sp/\Binds K fd ps []
def Pz(mg:Str->Option Value)(c m:Str)(x:V)(H:Hp):Prop:=∃a C dx fs,x= .ref a/\mg c=some (.ref C)/\H a=some (.ins C dx fs)/\fs.lookup m=none
def U6(mg:Str->Option Value)(c m:Str)(sp:Sp)(ta:TE)(t:TA):TE:=λσ H Q=>ta σ H λx H1=>Pz mg c m x H1/\t σ H1 λvs H2=>sp (x::vs) H2 Q E0
variable{X:Cx}{k:Nat}{m:Str}{sp:Sp}{ta:TE}{t:TA}
theorem G6{pl:Sem Bool}(M:iD X.prog X.w X.K X.mg X.base k c m ps sp)(O:gO k X.A)(V:PE X o ta)(Y:PA X (e::es) t)
  (a1:YQ (e::es) X.env=(false,eval e X.env)::YQ es X.env:=by rfl) (a0:(aak pos (YQ es X.env)).any (·.1)=false:=by rfl)
  (ht:eval (.Call (.Attribute o m apos) (e::es) [] pos) X.env=(do
   let ov ←eval o X.env
   acz apos.atName
   let(f,first) ←aaP [ov] (acp ov m pl)
   aea pos f first (aak pos (YQ (e::es) X.env)) (aca pos (abi [] X.env))):=by rfl) :
  PE X (.Call (.Attribute o m apos) (e::es) [] pos) (U6 X.mg c m sp ta t):=by
 obtain⟨C,f,fd,hC,B,N,F,U⟩:=M.ex;show 5;refine aeO (pl:=pl) (thn (V pins s σ H _ I h) λu s1 ⟨x,H1,I1,rx,⟨a,C',dx,fs,ex,eC,D,l⟩,q⟩=>?_) ht;subst ex;rw[hC]at eC;cases eC;obtain rfl:u=Zk a:=rx;refine xH I1 D B N l ?_;refine adu (first:=[.ref a]) (h₀:=X.base) I.ok.mod.kin N.kp (thn (Y pos pins s1 σ H1 _ I1 q) λus Z ⟨vs,H2,J,r,q2⟩=>⟨J.kIn,?_⟩) a1 a0;exact Dz (dvs:=[]) (us:=.ref a::us) (vs:=.ref a::vs) F O U .nil GC J (.cons rfl r) (by rw[List.append_nil];exact q2)
theorem CK{pl:Sem Bool}(M:iD X.prog X.w X.K X.mg X.base k c m ps sp)(O:gO k X.A)(V:PE X o ta)
  (ht:eval (.Call (.Attribute o m apos) [] [] pos) X.env=(do
   let ov ←eval o X.env
   acz apos.atName
   let(f,first) ←aaP [ov] (acp ov m pl)
   aea pos f first (aak pos (YQ [] X.env)) (aca pos (abi [] X.env))):=by rfl) :
  PE X (.Call (.Attribute o m apos) [] [] pos) (U6 X.mg c m sp ta Ve):=by
 obtain⟨C,f,fd,J,B,N,F,U⟩:=M.ex;show 5;refine aeO (pl:=pl) (thn (V pins s σ H _ I h) λu s1 ⟨x,H1,Z,rx,⟨a,Y,dx,fs,ex,eC,D,l⟩,q⟩=>?_) ht;subst ex;rw[J]at eC;cases eC;obtain rfl:u=Zk a:=rx;refine xH Z D B N l ?_;exact PySem.W.callWith_K0 (first:=[.ref a]) Z.kIn N.kp (Dz (dvs:=[]) (us:=[.ref a]) (vs:=[.ref a]) F O U .nil GC Z (.cons rfl .nil) q)
def vz(c m:Str):D->Bool
 |.ins k N fs _=>decide (N=c/\k≠.scr/\eV fs m=none)
 |_=>false
theorem sX(h:vz c m d=true){x:V}(r:Rep G H W d x L):Pz G.mg c m x H:=by
 cases d with
 |ins k N fs ds=>
  simp![vz,abC]at h;obtain⟨rfl,I,q⟩:=h;rw[Rep]at r;obtain⟨a,C,dx,kvs,M,rfl,J,rfl,O,B⟩:=r;exact⟨a,C,dx,kvs,rfl,J,B.at I,by rw[m8,q];rfl⟩
 |_=>simp[vz]at h
def dB(c m:Str)(F:List D->Option D)(x:D)(ds:List D):Option D:=if vz c m x=true then b8 F (x::ds)else none
def qg(c m:Str)(F:List D->Option (D×List D))(j:Nat)(f:En->Option (List D×En)):En->Option (D×En):=λρ=>match ρ[j]? with
 |some (some d)=>if vz c m d=true then eIo F [j] f ρ else none
 |_=>none
theorem BZ{F:List D->Option D}:MtV G (λx xs H Q=>spP G F (x::xs) H Q E0) (dB c m F):=λdx ds d e x xs H W B I rx r nd hn w Q q=>by
 unfold dB at e;split at e
 .have:=Cd (E:=E0) (dx::ds) d e (x::xs) H W (B++I) (.cons rx r) nd hn w Q q
  simpa only[List.append_nil]using this
 .cases e
variable{f:En->Option (List D×En)}
theorem Df{F:List D->Option (D×List D)}(J:ob j=true)(N:pr 0=true)(h:Cz G ob t f):kZ G ob (U6 G.mg c m (spI G oc pr F) (Jf j) t) (qg c m F j f):=λρ d I e σ H S Fr s Q q=>by
 unfold qg at e;split at e
 .rename_i d0 hj
  split at e
  .rename_i hi
   obtain⟨v,B,U,_⟩:=s.sl j d0 hj;have Z:RfM G ob (Ge (Jf j) t) [j] f:=λρ ds I e σ H S Fr s us Y Q q=>by
    cases us with
    |nil=>simp at Y
    |cons u us=>
     rw[YL,YL]at Y;injection Y with h1 h2;obtain rfl:us=[]:=by simpa using h2
     exact⟨u,h1,h ρ ds I e σ H S Fr s _ λvs H' M S' s' r n O=>q vs H' M S' s' r n O⟩
   obtain⟨u,Y,V⟩:=Mp (oc:=oc) (pr:=pr) (by simp) (by simpa using J) (by simpa using N) Z (E:=E0) ρ d I e σ H S Fr s Q q;rw[B]at Y;cases Y;refine⟨v,B,sX hi U,?_⟩;simpa using V
  .cases e
 .cases e
variable{X:ι->Cx}{I:En->Option D}
theorem lJ{F:List D->Option D}{f:En->Option (List D)}(M:∀i,iD (X i).prog (X i).w (X i).K (X i).mg (X i).base k c m ps (spP G F))(O:∀i,gO k (X i).A)(J:PV X G ob o I)(Y:PVA X G ob (e::es) f)(q:∀i,(X i).mg=G.mg:=by intro _;rfl)
 (V:∀i,YQ (e::es) (X i).env=(false,eval e (X i).env)::YQ es (X i).env:=by intro _;rfl) (Z:∀i,(aak pos (YQ es (X i).env)).any (·.1)=false:=by intro _;rfl)
 (U:∀i,eval (.Call (.Attribute o m apos) (e::es) [] pos) (X i).env=(do
  let ov ←eval o (X i).env
  acz apos.atName
  let(f,first) ←aaP [ov] (acp ov m (pl i))
  aea pos f first (aak pos (YQ (e::es) (X i).env)) (aca pos (abi [] (X i).env))):=by intro _;rfl) :
 PV X G ob (.Call (.Attribute o m apos) (e::es) [] pos) (eMt (dB c m F) I f):=let⟨_,a1,a2⟩:=J.ex;let⟨_,b1,b2⟩:=Y.ex;⟨_,λi=>(by rw[←q i];exact G6 (M i) (O i) (a1 i) (b1 i) (V i) (Z i) (U i)),Kq (ty:=Pz G.mg c m) BZ (λdx ds d e x H W B r=>sX (by unfold dB at e;split at e;assumption;cases e) r) a2 b2⟩
theorem k_{F:List D->Option D}(M:∀i,iD (X i).prog (X i).w (X i).K (X i).mg (X i).base k c m ps (spP G F))(O:∀i,gO k (X i).A)(J:PV X G ob o I)(q:∀i,(X i).mg=G.mg:=by intro _;rfl)
 (U:∀i,eval (.Call (.Attribute o m apos) [] [] pos) (X i).env=(do
  let ov ←eval o (X i).env
  acz apos.atName
  let(f,first) ←aaP [ov] (acp ov m (pl i))
  aea pos f first (aak pos (YQ [] (X i).env)) (aca pos (abi [] (X i).env))):=by intro _;rfl) :
 PV X G ob (.Call (.Attribute o m apos) [] [] pos) (eMt (dB c m F) I aK):=let⟨_,a1,a2⟩:=J.ex;⟨_,λi=>(by rw[←q i];exact CK (M i) (O i) (a1 i) (U i)),Kq (ty:=Pz G.mg c m) BZ (λdx ds d e x H W B r=>sX (by unfold dB at e;split at e;assumption;cases e) r) a2 tR⟩
variable{xpos:Pos}
theorem oJ(j:Nat){F:List D->Option (D×List D)}(M:∀i,iD (X i).prog (X i).w (X i).K (X i).mg (X i).base k c m ps (spI G oc pr F))(O:∀i,gO k (X i).A)(Y:CQ X G ob (e::es) f)(J:ob j=true:=by rfl)(hp:pr 0=true:=by rfl)(V:∀i,(X i).N[j]? =some x:=by intro _;rfl)(B:∀i,Vis (X i).env.scope x:=by intro _;first|exact aa_ rfl|exact aax (aa_ rfl)|exact aax (aax rfl))(hd:1.18=false:=by decide)(I:(x==("__classdict__":Str))=false:=by decide)(q:∀i,(X i).mg=G.mg:=by intro _;rfl)
 (a0:∀i,YQ (e::es) (X i).env=(false,eval e (X i).env)::YQ es (X i).env:=by intro _;rfl) (Z:∀i,(aak pos (YQ es (X i).env)).any (·.1)=false:=by intro _;rfl)
 (U:∀i,eval (.Call (.Attribute (.Name x xpos) m apos) (e::es) [] pos) (X i).env=(do
  let ov ←eval (.Name x xpos) (X i).env
  acz apos.atName
  let(f,first) ←aaP [ov] (acp ov m (pl i))
  aea pos f first (aak pos (YQ (e::es) (X i).env)) (aca pos (abi [] (X i).env))):=by intro _;rfl) :
 PVe X G ob (.Call (.Attribute (.Name x xpos) m apos) (e::es) [] pos) (qg c m F j f):=let⟨_,b1,b2⟩:=Y.ex;⟨_,λi=>(by rw[←q i];exact G6 (M i) (O i) (pv j (V i) (B i) hd I) (b1 i) (a0 i) (Z i) (U i)),Df J hp b2⟩
theorem Jp(j:Nat){F:List D->Option (D×List D)}(M:∀i,iD (X i).prog (X i).w (X i).K (X i).mg (X i).base k c m ps (spI G oc pr F))(O:∀i,gO k (X i).A)(J:ob j=true:=by rfl)(Y:pr 0=true:=by rfl)(V:∀i,(X i).N[j]? =some x:=by intro _;rfl)(B:∀i,Vis (X i).env.scope x:=by intro _;first|exact aa_ rfl|exact aax (aa_ rfl)|exact aax (aax rfl))(hd:1.18=false:=by decide)(I:(x==("__classdict__":Str))=false:=by decide)(q:∀i,(X i).mg=G.mg:=by intro _;rfl)
 (U:∀i,eval (.Call (.Attribute (.Name x xpos) m apos) [] [] pos) (X i).env=(do
  let ov ←eval (.Name x xpos) (X i).env
  acz apos.atName
  let(f,first) ←aaP [ov] (acp ov m (pl i))
  aea pos f first (aak pos (YQ [] (X i).env)) (aca pos (abi [] (X i).env))):=by intro _;rfl) :
 PVe X G ob (.Call (.Attribute (.Name x xpos) m apos) [] [] pos) (qg c m F j (dG aK)):=⟨_,λi=>(by rw[←q i];exact CK (M i) (O i) (pv j (V i) (B i) hd I) (U i)),Df J Y (zF tR)⟩
structure KMk(P:Program)(w:World)(K:PySem.W.Frag)(mg:Str->Option Value)(base:Heap)(k:Nat)(c:Str)(ps:List Str)(sp:Sp):Prop where
 ex:∃C f fd,mg c=some (.ref C)/\L2.Mk K C f/\dJ P w K mg base CX0 k f fd ps sp/\Binds K fd ps []
def yX(c:Str)(F:List D->Option (D×List D))(ds:List D):Option D:=(F (.ins .own c [] []::fzL ds)).bind λq=>match q with
 |(.non,d::_)=>if bB d=true then some d else none
 |_=>none
theorem KH{F:List D->Option (D×List D)}(J:G.mg c=some (.ref C))(N:pr 0=true):CaV G (λvs H Q=>∀x dx,H x=none->H dx=none->dx≠x->spI G oc pr F (.ref x::(vs++[])) (upd (upd H dx (.own x)) x (.ins C dx [])) (λv H2=>v= .non/\Q (.ref x) H2) E0) (yX c F):=λds d e xs H W I r nd hn w Q q=>by
 intro x dx hx a1 a2;rw[List.append_nil];unfold yX at e;cases h1:F (.ins .own c [] []::fzL ds)with
 |none=>simp[h1]at e
 |some z=>
  rw[h1]at e;simp![YF]at e;split at e
  .rename_i d' rest
   split at e
   .rename_i hown
    cases e;have same:Same H (upd (upd H dx (.own x)) x (.ins C dx [])):=λb u U=>by rw[aM (aV U hx),aM (aV U a1)];exact U
    have r0:aH G H (W1 λ_=>False) (fzL ds) xs []:=r.fz ⟨λa f=>⟨id,id,id⟩,λa Y=>⟨id,id,id⟩⟩ (.inr λa=>⟨id,id,id⟩);have fr:∀{b u},H b=some u->(wn oc (gU (λ_=>[]) 0 [x]) λ_=>False).free b:=λ{b u} U=>by
     have no:∀i,b∉gU (λ_=>[]) 0 [x] i:=λi z=>by
      by_cases hi:i=0
      .subst hi
       rw[cM]at z;exact aV U hx (by simpa using z)
      .rw[cF hi]at z;cases z
     exact⟨id,λ⟨i,_,z⟩=>no i z,λ⟨i,_,z⟩=>no i z⟩
    have r1:aH G (upd (upd H dx (.own x)) x (.ins C dx [])) (wn oc (gU (λ_=>[]) 0 [x]) λ_=>False) (fzL ds) xs []:=r0.up ⟨same,λb u U _=>fr U,λb u U z=>z.elim⟩;refine⟨.ins .own c [] []::fzL ds,gU (λ_=>[]) 0 [x],λ_=>False,⟨by simp[r1.length],λi d0 hi=>?_,λi hi=>?_,λi=>?_,λi j a h1 h2=>?_,λi a h=>h.elim,λa h=>h.elim⟩,λi hi=>?_,.non,d::rest,h1,λv H' M S' s' r' Z a3 hM m=>?_⟩
    .have hi:=j9 hi
     cases i with
     |zero=>
      obtain rfl:D.ins .own c [] []=d0:=by simpa using hi
      refine⟨.ref x,rfl,?_,rfl⟩;rw[Rep];exact⟨x,C,dx,[],[],rfl,J,rfl,.nil,aY,by rw[cM]⟩
     |succ i=>
      have hi:(fzL ds)[i]? =some d0:=by simpa using hi
      obtain⟨y,M',O,B,g3⟩:=r1.get hi;obtain rfl:M'=[]:=by simpa using g3
      refine⟨y,by simpa using eX O,by rw[cF (Nat.succ_ne_zero i)];exact B,by simp[clean,iT (ie ds) hi,iU (ik ds) hi]⟩
    .cases i with
     |zero=>exact absurd rfl (hi (.ins .own c [] []))
     |succ i=>rw[cF (Nat.succ_ne_zero i)]
    .by_cases hi:i=0
     .subst hi;rw[cM];simp
     .rw[cF hi];exact Zz
    .have h0:∀{i},a∈gU (λ_=>[]) 0 [x] i->i=0:=λ{i} z=>by
      by_cases hi:i=0
      .exact hi
      .rw[cF hi]at z;cases z
     rw[h0 h1,h0 h2]
    .by_cases h0:i=0
     .subst h0;rw[N]at hi;cases hi
     .rw[cF h0]
    .have hv:v= .non:=by rw[Rep]at r';exact r'.1
     refine⟨hv,?_⟩;obtain⟨u,O,B,g3⟩:=s'.sl 0 d rfl;obtain rfl:V.ref x=u:=by simpa using O
     have a0:∀{b},inS (gU (λ_=>[]) 0 [x]) b->b=x:=λ{b}⟨i,z⟩=>by
      by_cases hi:i=0
      .subst hi;rw[cM]at z;simpa using z
      .rw[cF hi]at z;cases z
     refine q (.ref x) H' (S' 0) (λb u U=>m.kp b u (same b u U) (λz=>aV U hx (a0 z)) (by simp)) (B.own hown) (λa Y=>?_) (s'.nd 0);rcases m.gr 0 a Y with z|z|z
     .exact .inr (by rw[a0 z];exact hx)
     .cases z
     .exact .inr (same.none' z)
   .cases e
  .cases e
variable{p:Pos}
theorem Rz{F:List D->Option (D×List D)}{f:En->Option (List D)}(M:∀i,KMk (X i).prog (X i).w (X i).K (X i).mg (X i).base k c ps (spI G oc pr F))(i0:ι)(O:∀i,gO (k+1) (X i).A)(Y:PVA X G ob (e::es) f)(N:pr 0=true:=by rfl)(B:∀i,(X i).mg=G.mg:=by intro _;rfl)(q:∀i,Gl (X i) c:=by intro _;rfl)(a3:(c==("__debug__":Str))=false:=by decide)(V:∀i,YQ (e::es) (X i).env=(false,eval e (X i).env)::YQ es (X i).env:=by intro _;rfl)(Z:∀i,(aak pos (YQ es (X i).env)).any (·.1)=false:=by intro _;rfl) :
  PV X G ob (.Call (.Name c p) (e::es) [] pos) (eAp (yX c F) f):=by
 obtain⟨t,a1,a2⟩:=Y.ex;obtain⟨C,_,_,J,_⟩:=(M i0).ex;rw[B i0]at J;refine⟨_,λi=>?_,uI (KH (oc:=oc) J N) a2⟩;obtain⟨C',f',fd,I,mk,F',U⟩:=(M i).ex;have a0:=I;rw[B i,J]at a0;cases a0;exact PB mk F' (O i) (q i) I U .nil GC (a1 i) a3 (V i) (Z i)
def Its(x:Str):It:=⟨λi _=>i<x.cps.size,λi H y H'=>H'=H/\∃c,x.cps[i]? =some c/\y= .str ⟨#[c]⟩,λi _=>i=x.cps.size⟩
theorem J_{P:Zr}{K:YH}{t:Tok}(hn:["enumerate","zip","dict_itemiterator","dict_reverseitemiterator","odict_iterator","itertools.zip_longest","itertools.pairwise"].contains T=false)
  (W:∀A:ZW,A.handled=none->Walks P w A it [it] [it] x.cps.size (SignAt x) (λi h=>h.IsStrIter it T x t i)) (W':∀A i s Q E,s.heap.IsStrIter it T x t i->Q (.ref it) s->wpAny (model P w) A (adZ (.ref it)) Q E s):Turn P w K tg (Its x) [it] it (λi h=>h.IsStrIter it T x t i)where
 mem:=by simp
 obj:=λi h st b U=>by
  have e:b=it:=by simpa using U
  subst e;obtain⟨o,e,c,d⟩:=st;exact⟨o,e,λv z=>by rw[d]at z;cases z⟩
 keep:=λi h h' st k=>let⟨o,ho,r⟩:=st;⟨o,k it (by simp) o ho,r⟩
 item:=by
  intro X D B hK Z i pins s σ H E I O st q;subst D B hK;obtain⟨f0,N,f2,f3,V,f5⟩:=O it (by simp);refine(W X.A (I.ok.hd Z)).item i s _ E q st λu h' tk J Y kp=>?_;obtain⟨c,tu,a0,rfl⟩:=J;have F:Inv X pins σ H {s with heap:=h',toks:=tk}:=I.turned (λb o U e=>kp b o (by simpa using U) e) f0 N f3 V f5;obtain⟨o,e,c1,d⟩:=id Y;exact⟨_,rfl,Gi (s:={s with heap:=h',toks:=tk}) e c1 d hn ⟨.str ⟨#[c]⟩,H,F,⟨tu,rfl⟩,⟨rfl,c,a0,rfl⟩,Y,λb U=>(O b U).1⟩⟩
 done:=by
  intro X D B hK Z i pins s σ H E I O st q;subst D B hK;obtain⟨f0,N,f2,f3,V,f5⟩:=O it (by simp);subst q;exact(W X.A (I.ok.hd Z)).done s _ E st λh' tk kp=>⟨rfl,I.turned (λb o U e=>kp b o (by simpa using U) e) f0 N f3 V f5⟩
 self:=λA i s Q E st h=>W' A i s Q E st h
def Xj(te:TE):TI:=λσ H R=>te σ H λx H1=>∃y,x= .str y/\R (Its y) H1
variable{X:Cx}{te:TE}
theorem U0(V:PE X e te):PI X tg e (Xj te):=by
 intro pins s σ H R I h;refine thn (V pins s σ H _ I h) λv O ⟨x,H1,F,J,y,ex,q⟩=>?_;subst ex;obtain⟨t,rfl⟩:=(show ∃t,v=ab8 y t from J);have B:∀(T:String)(o:Obj),["enumerate","zip","dict_itemiterator","dict_reverseitemiterator","odict_iterator","itertools.zip_longest","itertools.pairwise"].contains T=false->(∀A:ZW,A.handled=none->Walks X.prog X.w A O.heap.objs.size [O.heap.objs.size] [O.heap.objs.size] y.cps.size (SignAt y) (λi h=>h.IsStrIter O.heap.objs.size T y t i))->
   (∀A i s Q E,s.heap.IsStrIter O.heap.objs.size T y t i->Q (.ref O.heap.objs.size) s->wpAny 1.12 A (adZ (.ref O.heap.objs.size)) Q E s)->(O.heap.push o).IsStrIter O.heap.objs.size T y t 0->PIE X pins σ tg R (.ref O.heap.objs.size) {O with heap:=O.heap.push o}:=λT o hn W W' st=>by
  refine⟨O.heap.objs.size,[O.heap.objs.size],_,_,H1,rfl,F.kept (t':=O.toks) λb o e=>za _ e,J_ hn W W',st,λb U=>?_,q⟩;have e:b=O.heap.objs.size:=by simpa using U
  subst e;exact F.fpOk (YK _) (F.hok.fresh (YK _))
 cases Y:y.cps.all (· <128)
 .exact wpAny_pyIter_wide Y (B _ _ (by decide) (λZ D=>Walks.strWide D _ y t) (λA i s Q E st h=>wpAny_pyIter_striter_wide st h) ⟨_,YS _ rfl,rfl,rfl⟩)
 .exact wpAny_pyIter_ascii Y (B _ _ (by decide) (λZ D=>Walks.strAscii D _ y t) (λA i s Q E st h=>wpAny_pyIter_striter_ascii st h) ⟨_,YS _ rfl,rfl,rfl⟩)
theorem DW(Z:X.calm=true):fK X (.type "list") (λxs H Q=>∃a kvs,xs=[.ref a]/\Rd H a (.dK kvs)/\kvs.length<=1000000/\∀l,H l=none->Q (.ref l) (upd H l (.lst (kvs.map λp=>kV p.1)))):=by
 show 6;obtain⟨a,kvs,rfl,D,hl,q⟩:=h;obtain⟨u,rfl,ru⟩:=vals1 r;cases ru;obtain⟨J,hd,vs,rel,O⟩:=uv I.hok D;obtain⟨ep,ob,es,g,x,d,U,r2,r3⟩:=O.dictAt;have a0:s.heap.DictAt (bf X.prog X.w) a vs ep:=⟨ob,es,g,x,d,U,r2,r3⟩;have V:kvs.length=vs.length:=rel.length;have h6:(1000000:Nat)<=YM:=by decide
 refine PySem.W.kdl_call (af4 (ep:=ep) (kvs:=vs) hd) (I.ok.hd Z) a0 1.11 λh' tk acc c hk hD Y=>⟨.ref s.heap.objs.size,_,I.laid (t':=tk) hk (YK _) (show cJ X.prog X.w _ h' _ (.lst (kvs.map λp=>kV p.1))from⟨by rw[Zc];omega,acc.toList,c,Am (by rw[aaV,Zc,Y.1];omega) λi y u h1 h2=>?_,by rw[Array.toArray_toList];exact hD⟩),rfl,q _ (I.hok.fresh (YK _))⟩;rw[List.getElem?_map]at h1;cases N:kvs[i]? with
 |none=>rw[N]at h1;cases h1
 |some F=>
  rw[N]at h1;cases h1;obtain⟨k,v,e1,e2⟩:=Y.2 i u (by rw[←abt];exact h2);have:=(sO rel N e1).1;obtain rfl:F.1=k:=this;have B:uJ F.1 u=true:=e2;rcases di B with⟨j,t,z,rfl⟩|⟨x',t,z,rfl⟩
  .show L2.RelV (kV F.1) _;rw[z];exact⟨t,rfl⟩
  .show L2.RelV (kV F.1) _;rw[z];exact⟨t,rfl⟩
structure Glb(mg:Str->Option Value)(x:Str)(v:V):Prop where
 ex:∃u,mg x=some u/\RelV v u
def GF(fe:En->Option D):En->Option (Bool×List D):=λρ=>match fe ρ with
 |some (.str y)=>some (true,y.cps.toList.map λc=>.str ⟨#[c]⟩)
 |_=>none
def wN:List D->Option D
 |[.dct _ ks _]=>if ks.length<=1000000 then some (.lst .own (ks.map kD))else none
 |_=>none
variable{X:ι->Cx}
theorem LR{i:Int}(g:Glb G.mg x (.int i))(q:∀c,Gl (X c) x:=by intro _;rfl)(N:∀c,(X c).mg=G.mg:=by intro _;rfl)(hd:1.18=false:=by decide):PV X G ob (.Name x pos) (eC (.int i)):=let⟨u,h1,h2⟩:=g.ex;⟨_,λc=>Hk (q c) (by rw[N c];exact h1) h2 hd,Eg λ_ _=>by simp[Rep]⟩
theorem Lp(g:Glb G.mg x (.str y))(q:∀c,Gl (X c) x:=by intro _;rfl)(N:∀c,(X c).mg=G.mg:=by intro _;rfl)(hd:1.18=false:=by decide):PV X G ob (.Name x pos) (eC (.str y)):=let⟨u,h1,h2⟩:=g.ex;⟨_,λc=>Hk (q c) (by rw[N c];exact h1) h2 hd,Eg λ_ _=>by simp[Rep]⟩
theorem RJ(h:RfE G ob te fe):RfI G ob (Xj te) (GF fe):=λρ b items e σ H W J w R q=>by
 unfold GF at e;split at e
 .rename_i y h1
  cases e;refine h ρ _ h1 σ H W J w _ λv H' L s r F nd=>?_;obtain⟨rfl,rfl⟩:=cz r;refine⟨y,rfl,q (Its y) H' s ⟨λi d e H2 I _=>?_,λi d e H2 I _ x Y V=>?_,λH2 I _=>?_⟩⟩
  .have:=(List.getElem?_eq_some_iff.mp e).1
   show i<y.cps.size;simpa using this
  .obtain⟨rfl,c,hc,rfl⟩:=V
   have:d= .str ⟨#[c]⟩:=by
    have B:y.cps.toList[i]? =some c:=by rw[abt];exact hc
    rw[List.getElem?_map,B]at e;exact(Z_ e).symm
   subst this;exact⟨Same.refl _,sJ⟩
  .show(y.cps.toList.map _).length=_
   simp
 .cases e
theorem Qj(V:PV X G ob e fe):PVI X G ob tg e (GF fe):=let⟨_,a1,a2⟩:=V.ex;⟨_,λc=>U0 (a1 c),RJ a2⟩
theorem w5:∀ks:List Key,aH G H W (ks.map kD) (ks.map kV) []
 |[]=>.nil
 |.inl i::r=>aH.cons (M:=[]) (M':=[]) cV (w5 r)
 |.inr y::r=>aH.cons (M:=[]) (M':=[]) sJ (w5 r)
theorem Iu(Z:∀c,(X c).calm=true):CaB X G (.type "list") wN:=⟨_,λc=>DW (Z c),λds d e xs H W I r nd hn w Q q=>by
 unfold wN at e;split at e
 .split at e
  .rename_i m ks ds' hl
   cases e;show 3;obtain⟨a,kvs,M,rfl,⟨rfl,_⟩,O,B⟩:=rx;refine⟨a,kvs,rfl,B.rdD,by simpa using hl,λl D=>?_⟩;have:=lB (G:=G) (H:=H) (W:=W) (w5 (kvs.map (·.1))) (λa Y=>by cases Y) Zz hn D q;rw[YW]at this;exact this
  .cases e
 .cases e⟩
def RX(i j k:Nat)(ta:TA):TS:=λD σ H=>ta σ H λvs H1=>∃v w z,vs=[v,w,z]/\D.nx (((σ.set i (some v)).set j (some w)).set k (some z)) H1
variable{X:Cx}{ta:TA}
theorem O4{z:Str}{a b c:Expr}{pz pt:Pos}{kt k2 pt2}(Z:X.calm=true)(hN:X.N.Nodup)(hi:X.N[i]? =some x)(hj:X.N[j]? =some y)(hk:X.N[k]? =some z)(a0:i≠j/\i≠k/\j≠k)
  (F:X.env.scope.names.lookup x=some .local) (V:X.env.scope.names.lookup y=some .local) (J:X.env.scope.names.lookup z=some .local) (Y:PA X [a,b,c] ta)
  (hw:abT [.Tuple [.Name x px,.Name y py,.Name z pz] kt pt] (.Tuple [a,b,c] k2 pt2) X.env=pure (some [x,y,z]))
  (B:abv [.Tuple [.Name x px,.Name y py,.Name z pz] kt pt] (.Tuple [a,b,c] k2 pt2) pos.line X.env=pure false:=by rfl) :
  PS X (.Assign [.Tuple [.Name x px,.Name y py,.Name z pz] kt pt] (.Tuple [a,b,c] k2 pt2) pos) (RX i j k ta):=by
 intro pins s σ H D I h;rw[aeh];refine gD (abS ?_);rw[B];refine gD (YD ?_);rw[Zi (by decide)];refine gD (Tuple_ (thn (Y _ pins s σ H _ I h) λus O ⟨vs,H1,I1,U,q1⟩=>?_));obtain⟨v,w,o,e1,q1⟩:=q1;subst e1;obtain⟨u1,u2,u3,rfl,rv,a2,ro⟩:∃u1 u2 u3,us=[u1,u2,u3]/\RelV v u1/\RelV w u2/\RelV o u3:=by
  cases U with
  |cons p q=>
   cases q with
   |cons p' q'=>
    cases q' with
    |cons p2 q2=>cases q2;exact⟨_,_,_,rfl,p,p',p2⟩
 refine aae ?_ (by show 3<=YM;decide);have I2:Inv X pins σ H1 {O with heap:=O.heap.push {cls:=.type "tuple",data:=.seq [u1,u2,u3].toArray}}:=I1.kept (t':=O.toks) λb o e=>za _ e;rw[hw];refine gD (YD ?_);show wpAny 1.12 X.A (do rule "assign.swapped-stores";let items ←unpackItems (.ref O.heap.objs.size) 3 none;acT [λv=>ab9 X.env z v,λv=>ab9 X.env y v,λv=>ab9 X.env x v] items.reverse;pure afj) _ _ _;refine gD (acA (gD (unpackItems_tuple (items:=#[u1,u2,u3]) (I.ok.hd Z) (IsTup.new O.heap _) λh' a1=>?_)));have I3:=I2.kept (h':=h') (t':=O.toks) λb o e=>a1 b o (Zb (YG e)) e;show wpAny _ _ (acT [λv=>ab9 X.env z v,λv=>ab9 X.env y v,λv=>ab9 X.env x v] [u3,u2,u1] >>=λ_=>pure afj) _ _ _;refine gD (abl (acB (jL I3 hN hk (.inl J) ro (λs2 I4=>?_) (.inr J))));refine abl (acB (jL I4 hN hj (.inl V) a2 (λs3 I5=>?_) (.inr V)));refine abl (acB (jL I5 hN hi (.inl F) rv (λs4 I6=>adJ (YD ?_)) (.inr F)));rw[adB _ _ (Zt a0.1),adB _ _ (Zt a0.2.1),adB _ _ (Zt a0.2.2)]at I6;exact⟨_,H1,I6,q1⟩
theorem Mh(hi:P i=false)(F:P j=false)(I:P k=false)(h:Cz G ob ta f):RfS G ob P (RX i j k ta) (fV f (aN (tgN i) (aN (tgN j) (aN (tgN k) b_)))):=λρ r e σ H S Fr s E q=>by
 unfold fV at e;cases h1:f ρ with
 |none=>simp[h1]at e
 |some p=>
  obtain⟨ds,ρ1⟩:=p;by_cases Z:au ds/\aA ds
  .cases h2:(aN (tgN i) (aN (tgN j) (aN (tgN k) b_))) ds ρ1 with
   |none=>simp[h1,h2,Z]at e
   |some ρ2=>
    have:Fl.nx ρ2=r:=by simpa[h1,h2,Z]using e
    subst this;refine h ρ ds ρ1 h1 σ H S Fr s _ λvs H1 M S1 O r1 nd N=>?_;have hF:∀a∈M,¬Fr a:=λa Y z=>by
     rcases N.fm a Y with q|q
     .exact s.notO z q
     .obtain⟨o,J,_⟩:=s.fdm a z
      rw[q]at J;cases J
    have V:=kY (jm (G:=G) (ob:=ob) hi) (kY (jm F) (kY (jm I) v4)) ds ρ1 ρ2 Z.1 Z.2 h2 vs σ H1 S1 M Fr O r1 nd hF (λB H'=>E.nx B H') λB H' S' s' m=>q B H' S' s' ⟨λb u U n1 n2=>?_,λi a z=>?_,m.pr⟩
    .obtain⟨v,rr,e1,v2,r2,e2,v3,r3,e4,e3,k⟩:=V
     subst e3;exact⟨v,v2,v3,by rw[e1,e2,e4],k⟩
    .have hno:¬inO ob S b:=λ⟨i,_,z⟩=>n1 ⟨i,z⟩
     refine m.kp b u (N.kp b u U hno) (λ⟨i,z⟩=>?_) λz=>(N.fm b z).elim hno λz=>by rw[U]at z;cases z
     cases J:ob i with
     |false=>rw[N.sn i J]at z;exact n1 ⟨i,z⟩
     |true=>exact(N.gr i b J z).elim hno λz=>by rw[U]at z;cases z
    .rcases m.gr i a z with⟨j,z⟩|z|z
     .cases J:ob j with
      |false=>rw[N.sn j J]at z;exact .inl ⟨j,z⟩
      |true=>exact(N.gr j a J z).imp (λ⟨k,_,z⟩=>⟨k,z⟩) .inr
     .exact(N.fm a z).imp (λ⟨k,_,z⟩=>⟨k,z⟩) .inr
     .exact(N.back z).imp (λ⟨k,_,z⟩=>⟨k,z⟩) .inr
  .simp[h1,Z]at e
variable{X:ι->Cx}
theorem KY(i j k:Nat){z:Str}{a b c:Expr}{q pt:Pos}{kt k2 pt2}{f:En->Option (List D)}(Z:∀c,(X c).calm=true)(hN:∀c,(X c).N.Nodup)(Y:PVA X G ob [a,b,c] f)(U:P i=false/\P j=false/\P k=false:=by exact⟨rfl,rfl,rfl⟩)(hi:∀c,(X c).N[i]? =some x:=by intro _;rfl)(hj:∀c,(X c).N[j]? =some y:=by intro _;rfl)(I:∀c,(X c).N[k]? =some z:=by intro _;rfl)(O:i≠j/\i≠k/\j≠k:=by decide)(F:∀c,(X c).env.scope.names.lookup x=some .local:=by intro _;rfl)(V:∀c,(X c).env.scope.names.lookup y=some .local:=by intro _;rfl)(J:∀c,(X c).env.scope.names.lookup z=some .local:=by intro _;rfl)
 (hw:∀i,abT [.Tuple [.Name x px,.Name y py,.Name z q] kt pt] (.Tuple [a,b,c] k2 pt2) (X i).env=pure (some [x,y,z]):=by intro _;rfl) (B:∀i,abv [.Tuple [.Name x px,.Name y py,.Name z q] kt pt] (.Tuple [a,b,c] k2 pt2) pos.line (X i).env=pure false:=by intro _;rfl) :
 PVS X G ob P (.Assign [.Tuple [.Name x px,.Name y py,.Name z q] kt pt] (.Tuple [a,b,c] k2 pt2) pos) (fV (dG f) (aN (tgN i) (aN (tgN j) (aN (tgN k) b_)))):=let⟨t,a1,a2⟩:=Y.ex;⟨_,λc=>O4 (Z c) (hN c) (hi c) (hj c) (I c) O (F c) (V c) (J c) (a1 c) (hw c) (B c),Mh U.1 U.2.1 U.2.2 (zF a2)⟩
def dH:List D->Option D:=fnP 2 4 ((a_ (dq (eC (.int 0)) (tgN 2))
 (a_ (sIf (eB (e2 gLt 1.19 (eAp eG (ak 1.16 aK)))) (dq (e2 gIx 1.16 1.19) (tgN 2)) eU)
 (a_ (dq (e2 lE (eAp rZ (ak (aq false 2) aK)) (eAp qe (ak (e2 gGe (eAp rZ (ak (aq false 2) aK)) (e2 mD (eC (.int 10)) (eC (.int 18)))) aK))) (tgN 3))
 (eO (eAp dY (ak (aq false 3) (ak (e2 lY (e2 lE (e2 lY (e2 fQ (e2 fQ (aq false 2) (e2 lE (eC (.int 7919)) 1.19)) (eC (.int 1))) (eC (.int 2147483647))) (eC (.int 48271))) (eC (.int 2147483647))) aK))))))))
def aP:List D->Option (D×List D):=fnI (λi=>i==0) 2 4 ((a_ (sIf (eB (e2 gGt (e2 gIx (aq true 0) (eC (.int 0))) (eC (.int 0)))) (a_ (dq (e2 lY (e2 gIx (aq true 0) (eC (.int 0))) 1.19) (tgN 2))
 (a_ (dq (e2 lM (e2 gIx (aq true 0) (eC (.int 0))) 1.19) (iw fX 0 (b7 0) (eC (.int 0))))
 (fO 2))) eU)
 (a_ (dq (e2 lY (e2 fQ (e2 lE (e2 gIx (aq true 0) (eC (.int 1))) (eC (.int 48271))) (eC (.int 39373))) (eC (.int 2147483647))) (iw fX 0 (b7 0) (eC (.int 1))))
 (a_ (dq (e2 lM (e2 gIx (aq true 0) (eC (.int 1))) (eC (.int 64))) (tgN 3))
 (eO (e2 lY (e2 lM (e2 lY (e2 lE (aq false 3) (e2 fQ (e2 lY (aq false 3) (eC (.int 1009))) (eC (.int 3)))) (eC (.int 998244353))) (eC (.int 64))) 1.19))))))
def fH:List D->Option (D×List D):=fnI (λi=>i==0) 1 5 ((a_ (dq (eMt v5 (eC (.str "b aa zebra c quartzes ab m knows d mm likes z a ba abcdefgh y q qq x yx")) (ak (eC (.str " ")) aK)) (tgN 1))
 (a_ (bZ (eIo aP [0] (dG (ak (eC (.int 8)) aK))) (tgN 2))
 (a_ (bZ (ee2 fQ (eUp (eC (.int 4))) (eIo aP [0] (dG (ak (eC (.int 5)) aK)))) (tgN 3))
 (a_ (sIf (eB (e2 gEq (aq false 2) (eC (.int 0)))) (bZ (ee2 fQ (eUp (eC (.int 10))) (eIo aP [0] (dG (ak (eC (.int 11)) aK)))) (tgN 3)) eU)
 (a_ (sIf (eB (e2 gEq (aq false 2) (eC (.int 1)))) (bZ (eIo aP [0] (dG (ak (eC (.int 3)) aK))) (tgN 3)) eU)
 (a_ (bZ (eIo aP [0] (dG (ak (eC (.int 20)) aK))) (tgN 4))
 (eO (eSl (e2 fQ (eSl 1.19 (fu (aq false 4)) fJ) (eSl 1.19 fJ (fu (aq false 4)))) fJ (fu (aq false 3)))))))))))
def gk:List D->Option (D×List D):=fnI (λi=>i==0) 1 1 ((iG (ee2 gIx (eUp (eAp dY (ak (eC (.int 0)) (ak (eC (.int 1)) (ak (eC (.int 2)) (ak (eC (.int 3)) (ak (eC (.int 7)) (ak (eC (.int 1000)) (ak (eC (.int 0)) (ak (eC (.int 2)) aK)))))))))) (eIo aP [0] (dG (ak (eC (.int 8)) aK))))))
def dX:List D->Option (D×List D):=fnI (λi=>i==0) 1 1 ((a_ (m5 (eeB (ee2 gEq (eIo aP [0] (dG (ak (eC (.int 6)) aK))) (eUp (eC (.int 0))))) (iG (ee2 gIx (mO dY (fj (eUp (e2 mD (eC (.int 10)) (eC (.int 12)))) (fj (eUp (e1 iC (e2 mD (eC (.int 10)) (eC (.int 12))))) (fj (ee2 jn (eUp (e2 jn (e2 mD (eC (.int 10)) (eC (.int 12))) (eC (.int 1)))) (eIo aP [0] (dG (ak (eC (.int 9)) aK)))) (dG (ak (eC (.int 999)) aK)))))) (eIo aP [0] (dG (ak (eC (.int 4)) aK))))) eU)
 (iG (ee2 jn (eIo aP [0] (dG (ak (eC (.int 15)) aK))) (eUp (eC (.int 7)))))))
def fU:List D->Option (D×List D):=fnI (λi=>i==0) 2 2 ((iG (mO wA (fj (iB [none,some 0] (itS 1.19) (tgN 0) eTT (mO bO (fj (eUp 1.16) (fj (eIo dX [1] (dG aK)) (dG aK))))) (dG aK)))))
def jj:List D->Option D:=fnP 1 1 ((a_ (sIf (lV (jt (eAp bQ (ak 1.16 (ak (eC (.ty "str")) aK))))) (eO (eC (.bl false))) eU)
 (a_ (sIf (eOr (eB (e2 gLt (eAp eG (ak 1.16 aK)) (eC (.int 1)))) (eB (e2 gGt (eAp eG (ak 1.16 aK)) (eC (.int 8))))) (eO (eC (.bl false))) eU)
 (eO (eAp HJ (ak (gG [none] (GF 1.16) (tpN 0) eTT (e2 gIn 1.16 (eC (.str "abcdefghijklmnopqrstuvwxyz")))) aK))))))
def fD:List D->Option D:=fnP 3 3 ((sIf (eOr (lV (jt (eAp (b8 jj) (ak 1.19 aK)))) (eB (e2 gIn 1.19 1.16))) E_ eU))
def eE:List D->Option D:=fnP 1 3 ((jw (itE (ak 1.16 aK)) (tgT 2 (aN (tgN 1) (aN (tgN 2) b_))) (sEx (eUp (eAp (b8 fD) (ak (eSl 1.16 fJ (fu 1.19)) (ak (aq false 2) (ak 1.19 aK))))))))
def bN:List D->Option (D×List D):=fnI (λi=>i==0) 3 3 ((a_ (sEx (eUp (eAp (b8 eE) (ak 1.19 aK))))
 (a_ (bZ (eUp (aq false 2)) (lO "Stack" "turn" 0 (b7 0)))
 (a_ (bZ (eUp (nq [none] (itS 1.19) (tpN 0) eTT 1.16 (eC (.int 0)))) (lO "Stack" "weights" 0 (b7 0)))
 (a_ (bZ (eUp (eAp Fp aK)) (lO "Stack" "behind" 0 (b7 0)))
 (a_ (bZ (eUp (nq [none] (itS 1.19) (tpN 0) eTT 1.16 (eC (.int 1)))) (lO "Stack" "sizes" 0 (b7 0)))
 (a_ (bZ (eUp (eAp dY aK)) (lO "Stack" "done" 0 (b7 0)))
 (bZ (eUp (eC (.int 0))) (lO "Stack" "looked" 0 (b7 0))))))))))
def d_:List D->Option (D×List D):=fnI (λi=>i==0) 4 7 ((a_ (bZ (ee2 gIx (eUp 1.19) (eIo aP [0] (dG (ak (eAp eG (ak 1.19 aK)) aK)))) (tgN 4))
 (a_ (bZ (ee2 gIx (eUp 1.19) (eIo aP [0] (dG (ak (eAp eG (ak 1.19 aK)) aK)))) (tgN 5))
 (a_ (bZ (ee2 fQ (eUp (e2 jn (e2 gIx (aq false 2) (aq false 5)) (e2 gIx (aq false 2) (aq false 4)))) (ee2 lE (eUp (aq false 3)) (ee2 jn (eIo aP [0] (dG (ak (eC (.int 3)) aK))) (eUp (eC (.int 1)))))) (tgN 6))
 (a_ (m5 (eeB (ee2 gEq (eIo aP [0] (dG (ak (eC (.int 3)) aK))) (eUp (eC (.int 0))))) (bZ (ee2 fQ (eUp (aq false 6)) (eIo dX [0] (dG aK))) (tgN 6)) eU)
 (eO (eAp bO (ak (aq false 4) (ak (aq false 5) (ak (eAp Ht (ak (e1 iC (e2 mD (eC (.int 10)) (eC (.int 12)))) (ak (eAp j7 (ak (e2 mD (eC (.int 10)) (eC (.int 12))) (ak (aq false 6) aK))) aK))) aK))))))))))
def cO:List D->Option (D×List D):=fnI (λi=>i==0) 2 4 ((a_ (dq (e2 gIx (e1 (iz "Stack" "behind") (aq true 0)) 1.19) (tgT 2 (aN (tgN 2) (aN (tgN 3) b_))))
 (a_ (wz (λi j=>i-j) 0 (mZ 0 (b7 0) "Stack" "sizes") (aq false 2) (e2 gIx (e1 (iz "Stack" "sizes") (aq true 0)) 1.19))
 (Mm 0 (mZ 0 (b7 0) "Stack" "behind") 1.19))))
def cH:List D->Option (D×List D):=fnI (λi=>i==0) 1 3 ((a_ (sIf (eB (e2 gEq (eAp eG (ak (e1 (iz "Stack" "done") (aq true 0)) aK)) (eC (.int 0)))) (eO (eC .non)) eU)
 (a_ (bZ (jA vP 0 (mZ 0 (b7 0) "Stack" "done") aK) (tgT 2 (aN (tgN 1) (aN (tgN 2) b_))))
 (a_ (sIf (eB (e2 gEq (e2 gIx 1.19 (eC (.int 0))) (eC (.str "weigh")))) (dq (aq false 2) (iw fX 0 (mZ 0 (b7 0) "Stack" "weights") (e2 gIx 1.19 (eC (.int 1))))) (sIf (eB (e2 nM (aq false 2) (eC .non))) (sEx (qg "Stack" "unhang" cO 0 (dG (ak (aq false 2) aK)))) eU))
 (fO 1)))))
def bW:List D->Option D:=fnP 1 1 ((eO (gG [none,none] (itS (e1 (iz "Stack" "done") 1.16)) (tpT 2 (aN (tpN 0) (aN (tpN 1) b_))) eTT 1.16)))
def aX:List D->Option D:=fnP 1 1 ((eO (gG [none,none] (itS (e1 (iz "Stack" "done") 1.16)) (tpT 2 (aN (tpN 0) (aN (tpN 1) b_))) (eB (e2 gEq (e2 gIx 1.16 (eC (.int 0))) (eC (.str "join")))) (eSl 1.16 (fu (eC (.int 1))) fJ))))
def dI:List D->Option D:=fnP 2 7 ((a_ (dq (nq [none] (itS 1.16) (tpN 0) eTT 1.16 (eAp dY aK)) (tgN 2))
 (a_ (jw (itE (ak 1.19 aK)) (tgT 2 (aN (tgN 3) (aN (tgT 3 (aN (tgN 4) (aN (tgN 5) (aN (tgN 6) b_)))) b_))) (a_ (gf aW 2 (mJ 2 (b7 2) (aq false 4)) (ak (eAp bO (ak (aq false 3) (ak (eC (.int 1)) (ak (aq false 5) aK)))) aK))
 (gf aW 2 (mJ 2 (b7 2) (aq false 5)) (ak (eAp bO (ak (aq false 3) (ak (e1 iC (eC (.int 1))) (ak (aq false 4) aK)))) aK))))
 (fO 2))))
def fP:List D->Option D:=fnP 2 8 ((a_ (dq (BK (xF 1.19 (eAp bO aK) Hc)) (tgN 2))
 (a_ (dq (eAp dY (ak 1.19 aK)) (tgN 3))
 (a_ (lz (lC (jt (aq true 3))) (a_ (bZ (jA lU 3 (b7 3) (ak (eC (.int 0)) aK)) (tgN 4))
 (jw (itS (e2 gIx 1.16 (aq false 4))) (tgT 3 (aN (tgN 5) (aN (tgN 6) (aN (tgN 7) b_)))) (sIf (eB (e2 j6 (aq false 7) (aq false 2))) (a_ (dq (e2 fQ (e2 gIx (aq false 2) (aq false 4)) (eAp bO (ak (eAp bO (ak (aq false 5) (ak (aq false 6) aK))) aK))) (iw fX 2 (b7 2) (aq false 7)))
 (gf aW 3 (b7 3) (ak (aq false 7) aK))) eU))) 1000000)
 (fO 2)))))
def jf:List D->Option D:=fnP 2 7 ((a_ (dq (eAp (b8 dI) (ak 1.16 (ak 1.19 aK))) (tgN 2))
 (a_ (dq (eAp Fp aK) (tgN 3))
 (a_ (dq (eAp dY aK) (tgN 4))
 (a_ (jw (itS (eAp mz (ak 1.16 aK))) (tgN 5) (sIf (eB (e2 j6 (aq false 5) (aq false 3))) (a_ (dq (eAp (b8 fP) (ak (aq false 2) (ak (aq false 5) aK))) (tgN 6))
 (a_ (sFz 6 (gf lw 3 (b7 3) (ak (aq false 6) aK)))
 (gf aW 4 (b7 4) (ak (aq false 6) aK)))) eU))
 (fO 4))))))
def gW:List D->Option D:=fnP 2 2 ((eO (gG [none] (itS (eAp (b8 jf) (ak 1.16 (ak 1.19 aK)))) (tpN 0) eTT (eAp lq (ak 1.16 aK)))))
def bc:List D->Option D:=fnP 1 1 ((eO (eAp (b8 gW) (ak (eAp wN (ak (e1 (iz "Stack" "weights") 1.16) aK)) (ak (eMt (dB "Stack" "standing" aX) 1.16 aK) aK)))))
def bU:List D->Option D:=fnP 2 2 ((sIf (eB (e2 j6 1.19 1.16)) E_ eU))
def dh:List D->Option (D×List D):=fnI (λi=>i==0) 3 3 ((a_ (sEx (eUp (eAp (b8 bU) (ak (e1 (iz "Stack" "weights") (aq true 0)) (ak 1.19 aK)))))
 (a_ (gf aW 0 (mZ 0 (b7 0) "Stack" "done") (ak (eAp bO (ak (eAp bO (ak (eC (.str "weigh")) (ak 1.19 (ak (aq false 2) aK)))) (ak (e2 gIx (e1 (iz "Stack" "weights") (aq true 0)) 1.19) aK))) aK))
 (dq (aq false 2) (iw fX 0 (mZ 0 (b7 0) "Stack" "weights") 1.19)))))
def aU(Frec:List D->Option D):List D->Option D:=fnP 2 2 ((a_ (sIf (eB (e2 gIs 1.19 (eC .non))) (eO (e2 gIs 1.16 (eC .non))) eU)
 (a_ (sIf (jt (eAp bQ (ak 1.19 (ak (eC (.ty "bool")) aK)))) (eO (mq (eAp bQ (ak 1.16 (ak (eC (.ty "bool")) aK))) (e2 gEq 1.16 1.19))) eU)
 (a_ (sIf (jt (eAp bQ (ak 1.19 (ak (eAp bO (ak (eC (.ty "list")) (ak (eC (.ty "tuple")) aK))) aK)))) (a_ (sIf (eOr (eB (e2 gNe (eAp bQ (ak 1.16 (ak (eC (.ty "list")) aK))) (eAp bQ (ak 1.19 (ak (eC (.ty "list")) aK))))) (eB (e2 gNe (eAp bQ (ak 1.16 (ak (eC (.ty "tuple")) aK))) (eAp bQ (ak 1.19 (ak (eC (.ty "tuple")) aK)))))) (eO (eC (.bl false))) eU)
 (eO (mq (e2 gEq (eAp eG (ak 1.16 aK)) (eAp eG (ak 1.19 aK))) (eAp HJ (ak (gG [none,none] (Jk (ak 1.16 (ak 1.19 aK))) (tpT 2 (aN (tpN 0) (aN (tpN 1) b_))) eTT (eAp (b8 Frec) (ak 1.16 (ak 1.19 aK)))) aK))))) eU)
 (a_ (sIf (jt (eAp bQ (ak 1.19 (ak (eC (.ty "str")) aK)))) (eO (mq (eAp bQ (ak 1.16 (ak (eC (.ty "str")) aK))) (e2 gEq 1.16 1.19))) eU)
 (eO (mq (eAp bQ (ak 1.16 (ak (eC (.ty "int")) aK))) (mq (e1 Jc (eAp bQ (ak 1.16 (ak (eC (.ty "bool")) aK)))) (e2 gEq 1.16 1.19)))))))))
def cR:List D->Option D:=(aU (aU (aU (aU (λ_=>none)))))
def eF:List D->Option D:=fnP 2 2 ((a_ (sIf (eB (e2 gEq 1.16 (eC (.int 0)))) (fO 1) eU)
 (eO (e2 lY 1.19 1.16))))
def bz:List D->Option D:=fnP 2 3 ((a_ (sEx (eUp (eAp (b8 bU) (ak (e1 (iz "Stack" "weights") 1.16) (ak 1.19 aK)))))
 (a_ (dq (eAp dY (ak 1.19 aK)) (tgN 2))
 (a_ (lz (lC (eB (e2 gIn (e2 gIx (aq false 2) (e1 iC (eC (.int 1)))) (e1 (iz "Stack" "behind") 1.16)))) (gf aW 2 (b7 2) (ak (e2 gIx (e2 gIx (e1 (iz "Stack" "behind") 1.16) (e2 gIx (aq false 2) (e1 iC (eC (.int 1))))) (eC (.int 0))) aK)) 1000000)
 (fO 2)))))
def bw:List D->Option D:=fnP 2 2 ((eO (eAp Qg (ak (gG [none,some 0] (itS (eSl 1.19 fJ (fu (e1 iC (eC (.int 1)))))) (tpN 0) eTT (e2 gIx (e2 gIx (e1 (iz "Stack" "behind") 1.19) 1.16) (eC (.int 1)))) aK))))
def cZ:List D->Option (D×List D):=fnI (λi=>i==0) 3 5 ((a_ (sEx (eUp (eAp (b8 bU) (ak (e1 (iz "Stack" "weights") (aq true 0)) (ak 1.19 aK)))))
 (a_ (sEx (eUp (eAp (b8 bU) (ak (e1 (iz "Stack" "weights") (aq true 0)) (ak (aq false 2) aK)))))
 (a_ (sIf (eB (e2 gEq 1.19 (aq false 2))) (a_ (bZ (eUp (eC (.int 1))) (lO "Stack" "looked" 0 (b7 0)))
 (eO (eC (.int 0)))) eU)
 (a_ (aF (ak (eMt (dB "Stack" "chain" bz) (aq true 0) (ak 1.19 aK)) (ak (eMt (dB "Stack" "chain" bz) (aq true 0) (ak (aq false 2) aK)) aK)) (aN (tgN 3) (aN (tgN 4) b_)))
 (a_ (bZ (eUp (eAp pO (ak (e2 fQ (aq false 3) (aq false 4)) aK))) (lO "Stack" "looked" 0 (b7 0)))
 (a_ (sIf (eB (e2 gNe (e2 gIx (aq false 3) (e1 iC (eC (.int 1)))) (e2 gIx (aq false 4) (e1 iC (eC (.int 1)))))) (eO (eC .non)) eU)
 (eO (eAp (b8 eF) (ak (e1 (iz "Stack" "turn") (aq true 0)) (ak (e2 jn (eMt (dB "Stack" "offset" bw) (aq true 0) (ak (aq false 4) aK)) (eMt (dB "Stack" "offset" bw) (aq true 0) (ak (aq false 3) aK))) aK)))))))))))
def dD:List D->Option (D×List D):=fnI (λi=>i==0) 4 9 ((a_ (aF (ak (eMt (dB "Stack" "chain" bz) (aq true 0) (ak 1.19 aK)) (ak (eMt (dB "Stack" "chain" bz) (aq true 0) (ak (aq false 2) aK)) aK)) (aN (tgN 4) (aN (tgN 5) b_)))
 (a_ (dq (e2 jn (e2 fQ (eMt (dB "Stack" "offset" bw) (aq true 0) (ak (aq false 4) aK)) (aq false 3)) (eMt (dB "Stack" "offset" bw) (aq true 0) (ak (aq false 5) aK))) (tgN 6))
 (a_ (aF (ak (e2 gIx (aq false 4) (e1 iC (eC (.int 1)))) (ak (e2 gIx (aq false 5) (e1 iC (eC (.int 1)))) aK)) (aN (tgN 7) (aN (tgN 8) b_)))
 (a_ (sIf (eB (e2 gLt (e2 gIx (e1 (iz "Stack" "sizes") (aq true 0)) (aq false 7)) (e2 gIx (e1 (iz "Stack" "sizes") (aq true 0)) (aq false 8)))) (fV (dG (ak (aq false 8) (ak (aq false 7) (ak (e1 iC (aq false 6)) aK)))) (aN (tgN 7) (aN (tgN 8) (aN (tgN 6) b_)))) eU)
 (a_ (dq (eAp bO (ak (aq false 7) (ak (aq false 6) aK))) (iw fX 0 (mZ 0 (b7 0) "Stack" "behind") (aq false 8)))
 (a_ (wz (λi j=>i+j) 0 (mZ 0 (b7 0) "Stack" "sizes") (aq false 7) (e2 gIx (e1 (iz "Stack" "sizes") (aq true 0)) (aq false 8)))
 (fO 8))))))))
def dw:List D->Option (D×List D):=fnI (λi=>i==0) 4 7 ((a_ (bZ (qg "Stack" "steps" cZ 0 (dG (ak 1.19 (ak (aq false 2) aK)))) (tgN 4))
 (a_ (sIf (ql (eB (e2 nM (aq false 4) (eC .non))) (eB (e2 gNe (aq false 4) (eAp (b8 eF) (ak (e1 (iz "Stack" "turn") (aq true 0)) (ak (aq false 3) aK)))))) (eO (eAp bO (ak (eC (.str "clash")) (ak (aq false 4) aK)))) eU)
 (a_ (dq (eAp eG (ak (eMt (dB "Stack" "standing" aX) (aq true 0) aK) aK)) (tgN 5))
 (a_ (bZ (aG (lC (eB (e2 gIs (aq false 4) (eC .non)))) (qg "Stack" "hang" dD 0 (dG (ak 1.19 (ak (aq false 2) (ak (aq false 3) aK))))) (eUp (eC .non))) (tgN 6))
 (a_ (gf aW 0 (mZ 0 (b7 0) "Stack" "done") (ak (eAp bO (ak (eAp bO (ak (eC (.str "join")) (ak 1.19 (ak (aq false 2) (ak (aq false 3) aK))))) (ak (aq false 6) aK))) aK))
 (eO (eAp bO (ak (aO (eB (e2 gIs (aq false 4) (eC .non))) (eC (.str "joined")) (eC (.str "known"))) (ak (aq false 5) aK))))))))))
def nA:List D->Option D:=fnP 1 15 ((a_ (dq (eAp (b8 dH) (ak 1.16 (ak (eC (.int 0)) aK))) (tgN 1))
 (a_ (bZ (eIo fH [1] (dG aK)) (tgN 2))
 (a_ (bZ (eIo gk [1] (dG aK)) (tgN 3))
 (a_ (bZ (eIo fU [1] (dG (ak (aq false 2) aK))) (tgN 4))
 (a_ (dq (eAp GZ (ak (aq false 2) aK)) (tgN 5))
 (a_ (dq (eAp (yX "Stack" bN) (ak (aq false 5) (ak (aq false 3) aK))) (tgN 6))
 (a_ (gf il 5 (b7 5) aK)
 (a_ (gf aW 5 (b7 5) (ak (eC (.str "more")) aK))
 (a_ (dq (eAp dY aK) (tgN 7))
 (a_ (jw (lr (ak (e2 lE (e2 fQ (eC (.int 10)) (eAp j7 (ak (eC (.int 30)) (ak (eAp eG (ak 1.16 aK)) aK)))) (eAp qe (ak (e2 gNe (aq false 2) (eAp dY aK)) aK))) aK)) (tgN 8) (a_ (dq (eAp (b8 dH) (ak 1.16 (ak (e2 fQ (aq false 8) (eC (.int 1))) aK))) (tgN 1))
 (a_ (bZ (eIo aP [1] (dG (ak (eC (.int 4)) aK))) (tgN 9))
 (a_ (bZ (eIo d_ [1] (dG (ak (aq false 2) (ak (aq false 4) (ak (aq false 3) aK))))) (tgN 10))
 (a_ (sIf (eB (e2 gEq (aq false 9) (eC (.int 0)))) (a_ (sEx (qg "Stack" "back" cH 6 (dG aK)))
 (dq (eSl (aq false 7) fJ (fu (e1 iC (eC (.int 1))))) (tgN 7))) (sIf (eB (e2 gEq (aq false 9) (eC (.int 1)))) (a_ (bZ (eIo dX [1] (dG aK)) (tgN 11))
 (a_ (sEx (qg "Stack" "weigh" dh 6 (dG (ak (e2 gIx (aq false 10) (eC (.int 1))) (ak (aq false 11) aK)))))
 (gf aW 7 (b7 7) (ak (eAp bO (ak (eC (.str "weigh")) (ak (e2 gIx (aq false 10) (eC (.int 1))) (ak (aq false 11) aK)))) aK)))) (m5 (eeB (ee2 gNe (ee2 gIx (qg "Stack" "join" dw 6 (dG (ak (e2 gIx (aq false 10) (eC (.int 0))) (ak (e2 gIx (aq false 10) (eC (.int 1))) (ak (e2 gIx (aq false 10) (eC (.int 2))) aK))))) (eUp (eC (.int 0)))) (eUp (eC (.str "clash"))))) (gf aW 7 (b7 7) (ak (e2 fQ (eAp bO (ak (eC (.str "join")) aK)) (aq false 10)) aK)) eU)))
 (jw (lr (ak (eC (.int 2)) aK)) (tgN 12) (a_ (dq (eMt (dB "Stack" "deeds" bW) (aq true 6) aK) (tgN 13))
 (a_ (dq (eMt (dB "Stack" "standing" aX) (aq true 6) aK) (tgN 14))
 (a_ (sIf (lV (jt (eAp (b8 cR) (ak (aq false 13) (ak (aq false 7) aK))))) (eO (eC (.bl false))) eU)
 (a_ (sIf (lV (jt (eAp (b8 cR) (ak (aq false 14) (ak (gG [none] (itS (aq false 7)) (tpN 0) (eB (e2 gEq (e2 gIx 1.16 (eC (.int 0))) (eC (.str "join")))) (eSl 1.16 (fu (eC (.int 1))) fJ)) aK))))) (eO (eC (.bl false))) eU)
 (a_ (gf aW 13 (b7 13) (ak (eAp bO (ak (eC (.str "join")) (ak (eC (.str "more")) (ak (eC (.str "more")) (ak (eC (.int 0)) aK))))) aK))
 (a_ (gf il 13 (b7 13) aK)
 (gf nJ 14 (b7 14) aK)))))))))))))
 (eO (mq (e2 gEq (eMt (dB "Stack" "all_classes" bc) (aq true 6) aK) (eMt (dB "Stack" "all_classes" bc) (aq true 6) aK)) (e2 gLe (eAp eG (ak (eMt (dB "Stack" "all_classes" bc) (aq true 6) aK) aK)) (eAp eG (ak (aq false 2) aK))))))))))))))))
abbrev tp(a b:Int):D:=.lst .own [.int a,.int b]
def Dr(m:Int)(q:D×List D):Prop:=∃r J B:Int,q=(.int r,[tp J B,.int m])/\0<=r/\r<m/\0<=J
local macro_rules
 |`(tactic|simp_arith[$xs,*])=>`(tactic|simp[aQ,iV,bJ,iu,w_ite,lR,dq,bZ,fV,sIf,m5,eO,iG,fO,eU,jw,nY,sFz,jW,gf,jA,upS,tgN,tgT,aN,b_,iw,tpN,tpT,b7,mJ,aq,eC,aK,ak,eAp,eUp,lC,dG,ee2,fj,mO,e2,e1,eB,eeB,jt,ql,eOr,lV,nO,mq,eTT,isB,lr,itS,itE,nT,cX,gG,iB,eSl,uO,o_,mY,fJ,fu,eMt,uR,eIo,objs,ir,b8,e_,fW,clean,aD,aB,au,aA,bV,bY,view,cL,mkV,mkF,fz,fzL,fzo,fY,mkO,fnP,fnI,en0,outs,gP,eY,obC,truth,$xs,*])
variable{b:Int}
theorem Mj{a m:Int}(Y:0<=a)(N:0<m)(I:m<2 ^ 60):∃r J B,aP [tp a b,.int m]=some (.int r,[tp J B,.int m])/\0<=r/\r<m/\0<=J:=by
 have h2:m<18446744073709551616:=by omega
 have F:∀x:Int,-18446744073709551616<x % 1009+3/\x % 1009+3<18446744073709551616:=λx=>by omega
 have V:Wp (aP [tp a b,.int m]) (Dr m):=by
  by_cases h:0<a
  .simp_arith[aP,sEx,aF,aO,aG,fQ,jn,lE,lM,lY,mD,iC,gLt,gGt,gGe,gIx,dY,bO,eG,rZ,qe,j7,gIs,iJ,atI,ixN,aW,fX,gSl,rn,nu,h,N,h2,F]
   exact⟨_,_,_,rfl,af_ _ 1.11,afy _ N,Int.ediv_nonneg Y 1.11⟩
  .simp_arith[aP,sEx,aF,aO,aG,fQ,jn,lE,lM,lY,mD,iC,gLt,gGt,gGe,gIx,dY,bO,eG,rZ,qe,j7,gIs,iJ,atI,ixN,aW,fX,gSl,rn,nu,h,N,h2,F]
   exact⟨_,_,_,rfl,af_ _ 1.11,afy _ N,Y⟩
 obtain⟨q,e,r,J,B,rfl,h⟩:=V;exact⟨r,J,B,e,h⟩
theorem ji{a m:Int}{Q:D×List D->Prop}(Y:0<=a)(N:0<m)(I:m<2 ^ 60)(h:∀r J B,0<=r->r<m->0<=J->Q (.int r,[tp J B,.int m])):Wp (aP [tp a b,.int m]) Q:=
 let⟨r,J,B,e,h1,h2,h3⟩:=Mj Y N I;FJ e (h r J B h1 h2 h3)
theorem pU(b:Bool)(l:List Int):cL b (l.map D.int)=l.map D.int:=by rw[cN,YW];rfl
theorem vh(l:List Int):fzL (l.map D.int)=l.map D.int:=by rw[g_,YW];rfl
theorem rR(l:List Int):au (l.map D.int)=true:=bI λd hd=>by obtain⟨x,_,rfl⟩:=Y_.mp hd;rfl
theorem rQ(l:List Int):aA (l.map D.int)=true:=bG λd hd=>by obtain⟨x,_,rfl⟩:=Y_.mp hd;rfl
def Tw(d:D):Prop:=∃a b:Int,d=tp a b/\0<=a
set_option hygiene false
local macro_rules
 |`(tactic|simp_arith![$x,*])=>`(tactic|simp only[$x,*,en0,Zh,ZP,YL,aaa,ZX,Zy,bJ,Nat.reduceAdd,Nat.reduceSub,Zx,List.nil_append])
set_option hygiene true
theorem T6{ns:List Int}{k:Int}(I:0<=k)(B:k<=100):Wp (dH [.lst .scr (ns.map D.int),.int k]) Tw:=by
 have O:eG [.lst .scr (ns.map D.int)]=some (.int ns.length):=by simp[eG]
 simp_arith![dH,fnP];refine aZ (λρ=>ρ=[some (.lst .scr (ns.map D.int)),some (.int k),some (.int 0),none]) (λQ U=>by simp_arith[sEx,aF,aO,aG];exact U _ rfl) ?_;rintro _ rfl;refine aZ (λρ=>∃c:Int,ρ=[some (.lst .scr (ns.map D.int)),some (.int k),some (.int c),none]) 1.21 ?_
 .by_cases h:k<(ns.length:Int)
  .obtain⟨c,_,_,hc⟩:=zV (f:=D.int) (l:=ns) (i:=k) I h
   simp_arith[sEx,aF,aO,aG,pU,O,gLt,h,J3,hc];exact U _ ⟨_,rfl⟩
  .simp_arith[sEx,aF,aO,aG,pU,O,gLt,h]
   exact U _ ⟨_,rfl⟩
 rintro _ ⟨c,rfl⟩;simp_arith[sEx,aF,aO,aG,rZ,mD,gGe,qe,lE,lY,fQ,dY];have J:(0:Int)<=if c<0 then -c else c:=by split<;>omega
 generalize (if c<0 then -c else c)=u at J⊢;refine⟨.inr ?_,_,_,rfl,?_⟩
 .split<;>omega
 .split<;>omega
def Tn(q:D×List D):Prop:=∃t J B:Int,q=(.int t,[tp J B])/\0<=t/\t<=1000/\0<=J
theorem Uv{a:Int}(Y:0<=a):Wp (gk [tp a b]) Tn:=by
 obtain⟨r,J,q,e,h1,h2,B⟩:=Mj (b:=b) Y (show(0:Int)<8 by decide) (by decide);have O:r=0∨r=1∨r=2∨r=3∨r=4∨r=5∨r=6∨r=7:=by omega
 rcases O with rfl|rfl|rfl|rfl|rfl|rfl|rfl|rfl<;>simp_arith[gk,sEx,aF,aO,aG,fQ,jn,lE,lM,lY,mD,iC,gLt,gGt,gGe,gIx,dY,bO,eG,rZ,qe,j7,gIs,iJ,atI,ixN,aW,fX,gSl,rn,nu,e]<;>exact⟨_,_,_,rfl,by decide,by decide,B⟩
theorem Kw:cutD ds none (some (k:Int))=ds.take k:=by
 unfold cutD;rw[HT.sIx_none,HT.sIx_nat,acD,Nat.sub_zero];rcases Nat.le_total k ds.length with h|h
 .rw[aga h]
 .rw[af5 h,ad8,ab0 h]
theorem Oh:cutD ds (some (k:Int)) none=ds.drop k:=by
 unfold cutD;rw[HT.sIx_none,HT.sIx_nat];rcases Nat.le_total k ds.length with h|h
 .rw[aga h,ab0 (by simp)]
 .rw[af5 h,aa1,List.drop_of_length_le h];simp
def lA:List Str:=["b","aa","zebra","c","quartzes","ab","m","knows","d","mm","likes","z","a","ba","abcdefgh","y","q","qq","x","yx"]
theorem Qn:Aq "b aa zebra c quartzes ab m knows d mm likes z a ba abcdefgh y q qq x yx" " "=some lA:=by decide +kernel
theorem YB:lA.Nodup:=by decide +kernel
def Nm(q:D×List D):Prop:=∃(ns:List Str)(J B:Int),q=(.lst .own (ns.map D.str),[tp J B])/\(∀x∈ns,x∈lA)/\ns.Nodup/\ns.length<=20/\0<=J
theorem QC{a:Int}(Y:0<=a):Wp (fH [tp a b]) Nm:=by
 simp_arith![fH,fnI];refine aZ (λρ=>ρ=[some (tp a b),some (.lst .own (lA.map D.str)),none,none,none]) (λQ U=>by simp_arith[sEx,aF,aO,aG,v5,Qn,cC,cB];exact U _ rfl) ?_;rintro _ rfl;refine aZ (λρ=>∃w J B:Int,0<=J/\ρ=[some (tp J B),some (.lst .own (lA.map D.str)),some (.int w),none,none]) 1.21 ?_
 .simp_arith[sEx,aF,aO,aG]
  refine ji Y 1.11 1.11 λr a1 b1 p1 q1 O=>?_;simp_arith[sEx,aF,aO,aG];exact U _ ⟨r,a1,b1,O,rfl⟩
 rintro _ ⟨w,a1,b1,O,rfl⟩;refine aZ (λρ=>∃(n:Nat)(J B:Int),n<=20/\0<=J/\ρ=[some (tp J B),some (.lst .own (lA.map D.str)),some (.int w),some (.int n),none]) 1.21 ?_
 .simp_arith[sEx,aF,aO,aG]
  refine ji O 1.11 1.11 λr a2 b2 p2 q2 Z=>?_;simp_arith[sEx,aF,aO,aG,fQ];exact U _ ⟨(4+r).toNat,a2,b2,by omega,Z,by rw[show(((4+r).toNat:Nat):Int)=4+r by omega]⟩
 rintro _ ⟨n,a2,b2,V,Z,rfl⟩;refine aZ (λρ=>∃(n:Nat)(J B:Int),n<=20/\0<=J/\ρ=[some (tp J B),some (.lst .own (lA.map D.str)),some (.int w),some (.int n),none]) 1.21 ?_
 .simp_arith[sEx,aF,aO,aG,eq_int]
  split
  .refine ji Z 1.11 1.11 λr a3 b3 p3 q N=>?_
   simp_arith[sEx,aF,aO,aG,fQ];exact U _ ⟨(10+r).toNat,a3,b3,by omega,N,by rw[show(((10+r).toNat:Nat):Int)=10+r by omega]⟩
  .exact U _ ⟨n,a2,b2,V,Z,rfl⟩
 clear V n;rintro _ ⟨n,a3,b3,V,N,rfl⟩;refine aZ (λρ=>∃(n:Nat)(J B:Int),n<=20/\0<=J/\ρ=[some (tp J B),some (.lst .own (lA.map D.str)),some (.int w),some (.int n),none]) 1.21 ?_
 .simp_arith[sEx,aF,aO,aG,eq_int]
  split
  .refine ji N 1.11 1.11 λr a4 b4 p4 q4 s4=>?_
   simp_arith[sEx,aF,aO,aG];exact U _ ⟨r.toNat,a4,b4,by omega,s4,by rw[show((r.toNat:Nat):Int)=r by omega]⟩
  .exact U _ ⟨n,a3,b3,V,N,rfl⟩
 clear V n;rintro _ ⟨n,a4,b4,V,s4,rfl⟩;refine aZ (λρ=>∃(k:Nat)(J B:Int),k<20/\0<=J/\ρ=[some (tp J B),some (.lst .own (lA.map D.str)),some (.int w),some (.int n),some (.int k)]) 1.21 ?_
 .simp_arith[sEx,aF,aO,aG]
  refine ji s4 1.11 1.11 λr a5 b5 p5 q5 s5=>?_;simp_arith[sEx,aF,aO,aG];exact U _ ⟨r.toNat,a5,b5,by omega,s5,by rw[show((r.toNat:Nat):Int)=r by omega]⟩
 rintro _ ⟨k,a5,b5,I,s5,rfl⟩;simp_arith[sEx,aF,aO,aG,cC,cB,cA,gSl,fQ,Kw,Oh];have e5:((List.drop k (List.map D.str lA)++List.take k (List.map D.str lA)).take n)=((lA.drop k++lA.take k).take n).map D.str:=by
  rw[acX,Zq,List.map_drop,acX]
 have pm:(lA.drop k++lA.take k).Perm lA:=ab7.trans (by rw[ac7]);rw[e5];refine⟨by show 20-k+min k 20<=1000000;omega,⟨cC _,cB _⟩,_,a5,b5,rfl,λx F=>pm.subset (List.mem_of_mem_take F),?_,by rw[abK];omega,s5⟩;exact(afF _ _).nodup (pm.nodup_iff.mpr YB)
def Fa(q:D×List D):Prop:=∃t J B:Int,q=(.int t,[tp J B])/\t.natAbs<=1000000000000/\0<=J
theorem Lr{a:Int}(Y:0<=a):Wp (dX [tp a b]) Fa:=by
 have go:∀{r:Int}{J b':Int},r.natAbs<=1000000000000->0<=J->Fa (.int r,[tp J b']):=λh1 h2=>⟨_,_,_,rfl,h1,h2⟩;simp_arith[dX,sEx,aF,aO,aG];refine ji Y 1.11 1.11 λr F D p1 q1 O=>?_;simp_arith[sEx,aF,aO,aG,eq_int];split
 .simp_arith[sEx,aF,aO,aG,mD,iC,jn,dY]
  refine ji O 1.11 1.11 λB a2 b2 p2 q2 Z=>?_;simp_arith[sEx,aF,aO,aG,jn];refine ji Z 1.11 1.11 λI U V p3 q N=>?_;have:I=0∨I=1∨I=2∨I=3:=by omega
  rcases this with rfl|rfl|rfl|rfl<;>simp_arith[sEx,aF,aO,aG,gIx,atI,ixN]<;>exact go 1.11 N
 .refine ji O 1.11 1.11 λB a2 b2 p2 q2 Z=>?_
  simp_arith[sEx,aF,aO,aG,jn];exact go 1.11 Z
def Dm(ns:List Str)(ks:List Key)(ds:List D):Prop:=(∀e∈ds,∃i:Int,e= .int i)/\∀x∈ns,∃(j:Nat)(i:Int),fB ks (.inr x)=some j/\ds[j]? =some (.int i)
def MkI(ns:List Str)(k:Nat)(acc:List D)(ρ:En):Prop:=∃(ps:List (Str×Int))(J B:Int),acc=ps.map pD/\ps.map (·.1)=ns.take k/\0<=J/\ρ=[some (tp J B),some (.lst .frz (ns.map D.str))]
def Mks(ns:List Str)(q:D×List D):Prop:=∃(ks:List Key)(ds:List D)(J B:Int),q=(.dct .own ks ds,[tp J B,.lst .frz (ns.map D.str)])/\Dm ns ks ds/\0<=J
theorem Rr{a:Int}(Y:0<=a)(hn:ns.length<=20):Wp (fU [tp a b,.lst .frz (ns.map D.str)]) (Mks ns):=by
 simp_arith[fU,sEx,aF,aO,aG,cA,jK,cC,cB];refine⟨by omega,JR (MkI ns) ⟨[],a,b,rfl,rfl,Y,rfl⟩ ?_ ?_⟩
 .rintro i d acc ρ hi ⟨ps,a2,b2,rfl,hps,s2,rfl⟩
  rw[List.getElem?_map]at hi;cases F:ns[i]? with
  |none=>simp[F]at hi
  |some x=>
   obtain rfl:D.str x=d:=by simpa[F]using hi
   simp_arith[sEx,aF,aO,aG,bO];refine Wp.mono (Lr s2) ?_;rintro _ ⟨t,U,V,rfl,_,N⟩;simp_arith[sEx,aF,aO,aG,bO];exact⟨ps++[(x,t)],_,_,by simp[pD],by rw[Zq,hps,List.take_add_one,F];rfl,N,rfl⟩
 .rintro ys ρ ⟨ps,a2,b2,rfl,hps,s2,rfl⟩
  rw[Zc,ad8]at hps;have J:aA (ps.map pD)=true:=bG λd hd=>by obtain⟨x,_,rfl⟩:=Y_.mp hd;rfl
  have Z:ps.length=ns.length:=by rw[←hps];simp
  refine⟨J,Wp.mono (RB (ps:=ps) 1.11) ?_⟩;rintro _ ⟨⟨ks,ds,rfl,q,B⟩,O⟩;rw[hps]at B;have I:(aD (D.dct .own ks ds)=true/\aB (D.dct .own ks ds)=true):=by simpa[clean]using O
  refine⟨I,aQ.mpr ?_⟩;exact⟨ks,ds,a2,b2,rfl,⟨q,B⟩,s2⟩
def Jg(ns:List Str)(ks:List Key)(ds:List D)(t:Int)(q:D×List D):Prop:=∃(j:Jt)(J B:Int),q=(jD j,[tp J B,.lst .frz (ns.map D.str),.dct .frz ks ds,.int t])/\j.1∈ns/\j.2.1∈ns/\0<=J
variable{ks:List Key}
theorem Js{a t:Int}(Y:0<=a)(hn:ns≠[])(c0:ns.length<=20)(ht:0<=t/\t<=1000)(hd:Dm ns ks ds):Wp (d_ [tp a b,.lst .frz (ns.map D.str),.dct .frz ks ds,.int t]) (Jg ns ks ds t):=by
 have b9:0<ns.length:=List.length_pos_iff.mpr hn;obtain⟨a7,a0⟩:=hd;have a6:cL false ds=ds:=by
  rw[cN]
  conv=>rhs;rw[←aez ds]
  exact ZD λd hd=>by obtain⟨i,rfl⟩:=a7 d hd;rfl
 simp_arith![d_,fnI];refine aZ (λρ=>∃(x:Str)(J B:Int),x∈ns/\0<=J/\ρ=[some (tp J B),some (.lst .frz (ns.map D.str)),some (.dct .frz ks ds),some (.int t),some (.str x),none,none]) 1.21 ?_
 .simp_arith[sEx,aF,aO,aG,cC,cB,cA,iQ,jK,oh,oE,yJ,w6,yE,Pg,P0,QT,QR,Qk,FZ,zH,len_strs,vp,pL,J3,Ri,eq_int,zY]
  refine ji Y 1.11 1.11 λr a1 b1 p1 q1 O=>?_;obtain⟨x,F,_,a9⟩:=zV (f:=D.str) (l:=ns) p1 q1;simp_arith[sEx,aF,aO,aG,cC,cB,cA,iQ,jK,oh,oE,yJ,w6,yE,Pg,P0,QT,QR,Qk,FZ,zH,len_strs,vp,pL,J3,Ri,eq_int,zY,a9];exact U _ ⟨x,_,_,F,O,rfl⟩
 rintro _ ⟨x,a1,b1,F,O,rfl⟩;refine aZ (λρ=>∃(y:Str)(J B:Int),y∈ns/\0<=J/\ρ=[some (tp J B),some (.lst .frz (ns.map D.str)),some (.dct .frz ks ds),some (.int t),some (.str x),some (.str y),none]) 1.21 ?_
 .simp_arith[sEx,aF,aO,aG,cC,cB,cA,iQ,jK,oh,oE,yJ,w6,yE,Pg,P0,QT,QR,Qk,FZ,zH,len_strs,vp,pL,J3,Ri,eq_int,zY]
  refine ji O 1.11 1.11 λr a2 b2 p2 q2 Z=>?_;obtain⟨y,V,_,b7⟩:=zV (f:=D.str) (l:=ns) p2 q2;simp_arith[sEx,aF,aO,aG,cC,cB,cA,iQ,jK,oh,oE,yJ,w6,yE,Pg,P0,QT,QR,Qk,FZ,zH,len_strs,vp,pL,J3,Ri,eq_int,zY,b7];exact U _ ⟨y,_,_,V,Z,rfl⟩
 rintro _ ⟨y,a2,b2,V,Z,rfl⟩;obtain⟨jx,ix,b0,b6⟩:=a0 x F;obtain⟨jy,iy,a8,b8⟩:=a0 y V;refine aZ (λρ=>∃(v J B:Int),0<=J/\ρ=[some (tp J B),some (.lst .frz (ns.map D.str)),some (.dct .frz ks ds),some (.int t),some (.str x),some (.str y),some (.int v)]) 1.21 ?_
 .have ht1: -18446744073709551616<t/\t<18446744073709551616:=by omega
  simp_arith[sEx,aF,aO,aG,gIx,du,a6,b0,b6,a8,b8,jn];refine ji Z 1.11 1.11 λr a3 b3 p3 q N=>?_;simp_arith[sEx,aF,aO,aG,jn,lE,fQ,ht1];exact U _ ⟨_,_,_,N,rfl⟩
 rintro _ ⟨v,a3,b3,N,rfl⟩;refine aZ (λρ=>∃(v J B:Int),0<=J/\ρ=[some (tp J B),some (.lst .frz (ns.map D.str)),some (.dct .frz ks ds),some (.int t),some (.str x),some (.str y),some (.int v)]) 1.21 ?_
 .simp_arith[sEx,aF,aO,aG]
  refine ji N 1.11 1.11 λr a4 b4 p4 q4 I=>?_;simp_arith[sEx,aF,aO,aG,eq_int];split
  .refine Wp.mono (Lr I) ?_
   rintro _ ⟨w,a5,b5,rfl,_,s5⟩;simp_arith[sEx,aF,aO,aG,fQ];exact U _ ⟨_,_,_,s5,rfl⟩
  .exact U _ ⟨_,_,_,I,rfl⟩
 clear v;rintro _ ⟨v,a4,b4,I,rfl⟩;simp_arith[sEx,aF,aO,aG,bO,Ht,j7,iC,mD];exact⟨(x,y,_),a4,b4,rfl,F,V,I⟩
abbrev Pt:=Int×Int
def ptD(p:Pt):D:=.tup [.int p.1,.int p.2]
theorem XC(l:List Pt):au (l.map ptD)=true:=bI λd hd=>by obtain⟨x,_,rfl⟩:=Y_.mp hd;rfl
theorem Wa(l:List Pt):aA (l.map ptD)=true:=bG λd hd=>by obtain⟨x,_,rfl⟩:=Y_.mp hd;rfl
theorem Xi(b:Bool)(l:List Pt):cL b (l.map ptD)=l.map ptD:=by rw[cN,YW];rfl
theorem WW(l:List Pt):fzL (l.map ptD)=l.map ptD:=by rw[g_,YW];rfl
theorem XM(l:List Pt):fY (l.map ptD)=l.map ptD:=by rw[iI,YW];rfl
structure JJ(J:D)(js:List Jt):Prop where
 f:fz J=J
 v:∀b,view b J=J
 b:aD J=true
 o:aB J=true
 l:eG [J]=some (.int js.length)
 x:∀i,gIx J (.int i)=atI (js.map jD) i
 s:cX J=some (true,js.map jD)
 e:itE (λ_=>some [J]) []=some (true,nU 0 (js.map jD))
theorem JJ.lst(js:List Jt):JJ (.lst .frz (js.map jD)) js:=⟨by simp[fz,w6,mkF],λb=>by cases b<;>simp[view,yJ,mkV],by simp[aD,oh],by simp[aB,oE],by simp[eG],λ_=>rfl,by simp[cX,clean,aD,aB,oh,oE,yE],by simp[itE,cX,clean,aD,aB,oh,oE,yE]⟩
abbrev Tt:=Int×Int×Str
def tD(t:Tt):D:=.tup [.int t.1,.int t.2.1,.str t.2.2]
theorem Sy(l:List Tt):au (l.map tD)=true:=bI λd hd=>by obtain⟨x,_,rfl⟩:=Y_.mp hd;rfl
theorem R9(l:List Tt):aA (l.map tD)=true:=bG λd hd=>by obtain⟨x,_,rfl⟩:=Y_.mp hd;rfl
theorem Ti(b:Bool)(l:List Tt):cL b (l.map tD)=l.map tD:=by rw[cN,YW];rfl
theorem Xw(l:List Tt):fY (l.map tD)=l.map tD:=by rw[iI,YW];rfl
theorem p_:∀ns:List Str,xV (ns.map D.str)=some (ns.map V.str)
 |[]=>rfl
 |x::r=>by simp[xV,scV,p_ r]
theorem v7:inV (.str x) (ns.map V.str)=decide (x∈ns):=by
 unfold inV;rw[List.any_map,abW,ac1,decide_eq_true_iff];simp![acW,eqV,beq_iff_eq];exact⟨λ⟨y,h1,h2⟩=>h2▸h1,λh=>⟨x,h,rfl⟩⟩
structure NK(N:D)(ns:List Str):Prop where
 f:fz N=N
 v:∀b,view b N=N
 b:aD N=true
 o:aB N=true
 l:eG [N]=some (.int ns.length)
 x:∀i,gIx N (.int i)=atI (ns.map D.str) i
 i:∀y,gIn (.str y) N=some (.bl (decide (y∈ns)))
 ni:∀y,j6 (.str y) N=some (.bl (!decide (y∈ns)))
 s:cX N=some (true,ns.map D.str)
theorem NK.lst(ns:List Str):NK (.lst .frz (ns.map D.str)) ns:=⟨by simp[fz,iQ,mkF],λb=>by cases b<;>simp[view,cA,mkV],by simp[aD,cC],by simp[aB,cB],by simp[eG],λ_=>rfl,λy=>by simp[gIn,tH,scV,p_,v7],λy=>by simp[j6,tH,scV,p_,v7],by simp[cX,clean,aD,aB,cC,cB,jK]⟩
def mK(g:List Str):List Str:=(xR (g.map λx=>[x])).map λk=>k.headD ""
theorem wK(g:List Str):aaM (mK g) g:=by
 have:=(tU (g.map λx=>[x])).map λk=>k.headD ("":Str);rw[YW]at this;refine this.trans ?_;rw[show((λk:List Str=>k.headD "")∘λx=>[x])=id from rfl,aez]
theorem yN:∀g:List Str,Ec (g.map D.str)=some (g.map λx=>[x])
 |[]=>rfl
 |x::r=>by simp[Ec,yN r]
variable{m:Mk}
theorem Mq{g:List Str}(h:g.length<64):rD [.lst m (g.map D.str)]=some (.lst .own ((mK g).map D.str)):=by
 simp![rD,Zc,h,Zy,yN];rw[mK,YW];rfl
theorem Fd[DecidableEq α]:∀{ks ns:List α},ks.Nodup->(∀k∈ks,k∈ns)->ks.length<=ns.length
 |[],_,_,_=>aaN _
 |k::r,ns,h,hs=>by
  have V:=hs k (.head _);have h1:=Fd (ks:=r) (ns:=ns.erase k) (Zg.mp h).2 λx F=>(List.mem_erase_of_ne (show x≠k from λe=>(Zg.mp h).1 (by rw[←e];exact F))).mpr (hs x (.tail _ F));rw[List.length_erase_of_mem V]at h1;have:=List.length_pos_of_mem V;simp![Zh];omega
theorem kI:(fB (ys.map Zj) (Zj x)).isSome=decide (x∈ys):=by
 cases e:fB (ys.map Zj) (Zj x)with
 |none=>
  unfold fB at e;rw[aaH]at e;refine(Zn λh=>?_).symm;have:=e (Zj x) (Y_.mpr ⟨x,h,rfl⟩);simp at this
 |some j=>
  obtain⟨Y,I,_⟩:=ZG.mp e;have h2:(ys.map (Zj:Str->Key))[j]=Zj x:=by simpa using I
  have B:Zj x∈ys.map (Zj:Str->Key):=h2▸abN Y;obtain⟨y,V,Z⟩:=Y_.mp B;cases Z;exact(aao V).symm
def lT(l:List Tt):D:=.lst .own (l.map tD)
def lead(ns:List Str)(f:Str->List Tt):D:=.dct .own (ns.map Zj) (ns.map λy=>lT (f y))
def upF(f:Str->List Tt)(x:Str)(t:Tt):Str->List Tt:=λy=>if y=x then f y++[t]else f y
def adj(js:List Jt):Nat->Str->List Tt
 |0=>λ_=>[]
 |k+1=>match js[k]? with
  |some j=>upF (upF (adj js k) j.1 (k,1,j.2.1)) j.2.1 (k,-1,j.1)
  |none=>adj js k
theorem pZ(F:x∈ns):∃i,fB (ns.map Zj) (Zj x)=some i/\ns[i]? =some x/\i<ns.length:=by
 have h:=kI (ys:=ns) (x:=x);rw[aao F]at h;obtain⟨i,hi⟩:=ad2.mp h;obtain⟨Y,I,_⟩:=ZG.mp hi;have Z:i<ns.length:=by simpa using Y
 refine⟨i,hi,?_,Z⟩;rw[YT Z];simpa using I
theorem VR{g g':Str->α}{a:α}(hn:ns.Nodup)(hi:ns[i]? =some x)(Y:g' x=a)(q:∀y,y≠x->g' y=g y):(ns.map g).set i a=ns.map g':=by
 apply afI;intro k;rw[acL];have J:i<ns.length:=(List.getElem?_eq_some_iff.mp hi).1;by_cases e:i=k
 .subst e
  rw[YZ rfl,YZ (by simpa using J),List.getElem?_map,hi,←Y];rfl
 .rw[Zi e,List.getElem?_map,List.getElem?_map]
  cases I:ns[k]? with
  |none=>rfl
  |some y=>
   have D:y≠x:=λz=>by
    rw[z]at I;obtain⟨h1,h2⟩:=List.getElem?_eq_some_iff.mp hi;obtain⟨B,Z⟩:=List.getElem?_eq_some_iff.mp I;exact e ((afP hn).mp (h2.trans Z.symm))
   simp[q y D]
variable{f:Str->List Tt}{t:Tt}{ρ:En}
theorem Ce{fa:En->Option (List D)}(hn:ns.Nodup)(h2:ρ[2]? =some (some (lead ns f)))(Z:aq false i ρ=some (.str x))(F:x∈ns)(hl:(f x).length<1000000)(Y:fa ρ=some [tD t]) :
  gf aW 2 (mJ 2 (b7 2) (aq false i)) fa ρ=some (.nx (ρ.set 2 (some (lead ns (upF f x t))))):=by
 obtain⟨k,I,O,q⟩:=pZ F;have N:(ns.map λy=>lT (f y))[k]? =some (lT (f x)):=by rw[List.getElem?_map,O];rfl
 have e1:ixP (lead ns f) (.str x)=some k:=by simp[ixP,lead,du,I,q]
 have e2:kids (lead ns f)=ns.map λy=>lT (f y):=rfl;have J:fW [k] (lT (f x++[t])) (lead ns f)=lead ns (upF f x t):=by
  have B:=VR (g:=λy=>lT (f y)) (g':=λy=>lT (upF f x t y)) (a:=lT (f x++[t])) hn O (by simp[upF]) (λy V=>by simp[upF,V]);rw[fW,e2,N];simp![fW];rw[B];rfl
 have e4:e_ [k] (lead ns f)=some (lT (f x)):=by simp[e_,e2,N]
 have e5:aW (lT (f x)) [tD t]=some (lT (f x++[t]),.non):=by simp[lT,aW,hl]
 have e0:e_ [] (lead ns f)=some (lead ns f):=rfl;have e6:mJ 2 (b7 2) (aq false i) ρ=some [k]:=by
  unfold mJ b7;rw[h2,Z];simp![YF,e0,e1,e2,Zc,q,Zy,List.nil_append]
 have U:au [tD t]=true/\aA [tD t]=true:=⟨rfl,rfl⟩;unfold gf jA;rw[e6,Y];simp![YF];unfold upS;rw[h2];simp![e4,YF,U.1,U.2,and_self,Zy,e5,aaI,J]
theorem Aj:(upF f x t y).length<=(f y).length+1:=by unfold upF;split<;>simp
theorem zz(js:List Jt)(y:Str):∀k,(adj js k y).length<=2*k
 |0=>by simp[adj]
 |k+1=>by
  have O:=zz js y k;rw[adj];cases F:js[k]? with
  |some j=>
   simp only;have h1:=Aj (f:=upF (adj js k) j.1 (k,1,j.2.1)) (x:=j.2.1) (y:=y) (t:=((k:Int),-1,j.1));have h2:=Aj (f:=adj js k) (x:=j.1) (y:=y) (t:=((k:Int),1,j.2.1));omega
  |none=>simp only;omega
def EbI(N J:D)(ns:List Str)(js:List Jt)(k:Nat)(ρ:En):Prop:=∃F B q O:Option D,ρ=[some N,some J,some (lead ns (adj js k)),F,B,q,O]
theorem Xn:∀ns:List Str,jo (tpN 0) eTT 1.16 (eAp dY aK) [none] (ns.map D.str)=some (ns.map λy=>((Zj y:Key),D.lst .own []))
 |[]=>rfl
 |x::r=>by
  rw[YL,jo,Xn r];simp_arith[sEx,aF,aO,aG,fQ,jn,lE,lM,lY,mD,iC,gLt,gGt,gGe,gIx,dY,bO,eG,rZ,qe,j7,gIs,iJ,atI,ixN,aW,fX,gSl,rn,nu,du]
variable{js:List Jt}
theorem Vi{N J:D}(V:NK N ns)(hJ:JJ J js)(hn:ns.Nodup)(F:∀j∈js,j.1∈ns/\j.2.1∈ns)(Y:ns.length<=1000)(Z:js.length<=1000):dI [N,J]=some (lead ns (adj js js.length)):=by
 apply Wp.eq;simp_arith![dI,fnP];refine aZ (EbI N J ns js 0) 1.21 ?_
 .have hnd:(ns.map λy=>(Zj y:Key)).Nodup:=adN.mpr (hn.imp λh e=>h (by cases e;rfl))
  simp_arith[sEx,aF,aO,aG,-cX,nq,V.v,V.s,Xn];refine⟨by omega,?_⟩;rw[rH,YW,YW,show((λx:Key×D=>x.1)∘λy=>((Zj y:Key),D.lst .own []))=Zj from rfl];rw[YZ hnd,aQ];refine⟨⟨?_,?_⟩,U _ ⟨_,_,_,_,rfl⟩⟩
  .simp![aD];rw[bI λd hd=>by obtain⟨y,_,rfl⟩:=Y_.mp hd;rfl];rfl
  .simp![aB];rw[bG λd hd=>by obtain⟨y,_,rfl⟩:=Y_.mp hd;rfl];rfl
 rintro _ ⟨y3,y4,y5,y6,rfl⟩;refine aZ (EbI N J ns js js.length) 1.21 ?_
 .simp[jw,itE,aq,ak,aK,hJ.v,hJ.s,bJ,aQ,w_ite]
  refine tY (EbI N J ns js) ⟨y3,y4,y5,y6,rfl⟩ ?_ (λρ h=>U _ (by rw[p8]at h;simpa using h));rintro k d ρ I ⟨x3,B,x5,O,rfl⟩;rw[mQ,List.getElem?_map]at I;cases a0:js[k]? with
  |none=>simp[a0]at I
  |some j=>
   obtain rfl:D.tup [.int (k:Int),jD j]=d:=by simpa[a0]using I
   obtain⟨a2,a1⟩:=F j (Zv a0);have q:k<js.length:=(List.getElem?_eq_some_iff.mp a0).1;simp[jD,tgT,aN,b_,tgN,au,aA,clean,aD,aB,aQ];refine aZ (λρ=>ρ=[some N,some J,some (lead ns (upF (adj js k) j.1 (k,1,j.2.1))),some (.int k),some (.str j.1),some (.str j.2.1),some (.int j.2.2)]) 1.21 ?_
   .refine FJ (Ce (t:=((k:Int),1,j.2.1)) hn rfl (x:=j.1) (by simp[aq,view]) a2 (by have:=zz js j.1 k;omega) (by simp_arith[sEx,aF,aO,aG,fQ,jn,lE,lM,lY,mD,iC,gLt,gGt,gGe,gIx,dY,bO,eG,rZ,qe,j7,gIs,iJ,atI,ixN,aW,fX,gSl,rn,nu,tD])) (U _ rfl)
   rintro _ rfl;refine FJ (Ce (t:=((k:Int),-1,j.1)) hn rfl (x:=j.2.1) (by simp[aq,view]) a1 (by have:=zz js j.2.1 k;have:=Aj (f:=adj js k) (x:=j.1) (y:=j.2.1) (t:=((k:Int),1,j.2.1));omega) (by simp_arith[sEx,aF,aO,aG,fQ,jn,lE,lM,lY,mD,iC,gLt,gGt,gGe,gIx,dY,bO,eG,rZ,qe,j7,gIs,iJ,atI,ixN,aW,fX,gSl,rn,nu,tD])) ⟨some (.int k),some (.str j.1),some (.str j.2.1),some (.int j.2.2),?_⟩;rw[adj,a0];rfl
 rintro _ ⟨x3,B,x5,O,rfl⟩;simp[fO,aQ]
variable{Q:Fl->Prop}
theorem vg{c:En->Option (Bool×En)}{V:En->Option Fl}(I:Nat->En->Prop)(D:Nat)(B:∀p ρ,I p ρ->Wp (c ρ) λb=>if b.1=true then(p<D/\Wp (V b.2) λr=>match r with
   |.nx ρ2=>I (p+1) ρ2
   |.cnt ρ2=>I (p+1) ρ2
   |.brk ρ2=>Q (.nx ρ2)
   |.ret d ρ2=>Q (.ret d ρ2))else Q (.nx b.2)):∀(q p:Nat)(ρ:En),I p ρ->D-p<q->Wp (lz c V q ρ) Q
 |0,p,ρ,_,h=>by omega
 |q+1,p,ρ,hI,h=>by
  obtain⟨⟨b,ρ1⟩,e1,w⟩:=B p ρ hI;rw[lz,e1,YF];cases b with
  |false=>
   simp![ZF,aaz]at w⊢;exact aQ.mpr w
  |true=>
   simp![Zy]at w⊢;obtain⟨N,r,e2,w⟩:=w;rw[e2];cases r with
   |nx ρ2=>exact vg I D B q (p+1) ρ2 w 1.11
   |cnt ρ2=>exact vg I D B q (p+1) ρ2 w 1.11
   |brk ρ2=>exact aQ.mpr w
   |ret d ρ2=>exact aQ.mpr w
abbrev Uw:=Str×List Pt
def pT(ps:List Pt):D:=.tup (ps.map ptD)
def wM(m:Mk)(us:List Uw):D:=.dct m ((us.map (·.1)).map Zj) (us.map λu=>pT u.2)
theorem Dk(ps:List Pt):aD (pT ps)=true/\aB (pT ps)=true/\(∀b,view b (pT ps)=pT ps)/\fz (pT ps)=pT ps/\fzo (pT ps)=pT ps:=by
 refine⟨?_,?_,λb=>?_,?_,?_⟩<;>simp[pT,aD,aB,XC,Wa,view,Xi,fz,WW,fzo,XM]
theorem Sv(b:Bool)(us:List Uw):cL b (us.map λu=>pT u.2)=us.map λu=>pT u.2:=by
 rw[cN,YW];exact ZD λu _=>(Dk u.2).2.2.1 b
theorem Xq(us:List Uw):fzL (us.map λu=>pT u.2)=us.map λu=>pT u.2:=by
 rw[g_,YW];exact ZD λu _=>(Dk u.2).2.2.2.1
theorem Wz(us:List Uw):au (us.map λu=>pT u.2)=true:=bI λd hd=>by obtain⟨u,_,rfl⟩:=Y_.mp hd;exact(Dk u.2).1
theorem W_(us:List Uw):aA (us.map λu=>pT u.2)=true:=bG λd hd=>by obtain⟨u,_,rfl⟩:=Y_.mp hd;exact(Dk u.2).2.1
variable{us:List Uw}
theorem Wd:view false (wM .own us)=wM .brw us:=by simp![wM,view,Sv];rfl
theorem Ng:view false (wM .frz us)=wM .frz us:=by simp![wM,view,Sv];rfl
theorem X8(h:m≠.scr):fz (wM m us)=wM .frz us:=by
 simp![wM,fz,Xq];cases m<;>first|rfl|exact absurd rfl h
theorem IV(h:m= .own∨m= .frz):aD (wM m us)=true/\aB (wM m us)=true:=by
 rcases h with rfl|rfl<;>simp[wM,aD,aB,Wz,W_]
theorem Wx:j6 (.str x) (wM m us)=some (.bl (!decide (x∈us.map (·.1)))):=by
 simp![j6,wM,tH,du,aaI,kI]
theorem Xx(F:x∈us.map (·.1)):∃ps,(x,ps)∈us/\gIx (wM m us) (.str x)=some (pT ps):=by
 obtain⟨i,h1,h2,B⟩:=pZ F;rw[List.getElem?_map]at h2;cases e:us[i]? with
 |none=>simp[e]at h2
 |some u=>
  have e2:u.1=x:=by simpa[e]using h2
  refine⟨u.2,e2▸Zv e,?_⟩;simp![gIx,wM,du,YF,h1,List.getElem?_map,e,aaI]
theorem VB{ps:List Pt}(F:x∉us.map (·.1))(Y:us.length<1000000):fX (wM .own us) [.str x,pT ps]=some (wM .own (us++[(x,ps)]),.non):=by
 have h1:fB ((us.map (·.1)).map Zj) (Zj x)=none:=by
  cases e:fB ((us.map (·.1)).map Zj) (Zj x)with
  |none=>rfl
  |some j=>have:=kI (ys:=us.map (·.1)) (x:=x);rw[e]at this;exact absurd (of_decide_eq_true this.symm) F
 simp![fX,wM,du,YF,Zc,Y,Zy,gH,h1,Zq,YL,aaa]
def j0(ns:List Str)(f:Str->List Tt):D:=.dct .frz (ns.map Zj) (ns.map λy=>.lst .frz ((f y).map tD))
theorem Ov(b:Bool):view b (j0 ns f)=j0 ns f:=by
 simp![j0,view,cN,YW];congr 1;refine ZD λy _=>?_;simp![acW,view,Ti];rfl
theorem J6(F:x∈ns):gIx (j0 ns f) (.str x)=some (.lst .frz ((f x).map tD)):=by
 obtain⟨i,h1,h2,B⟩:=pZ F;simp![gIx,j0,du,YF,h1,List.getElem?_map,h2,aaI]
def ky(us:List Uw):List Str:=us.map (·.1)
theorem xn(us:List Uw):(ky us).length=us.length:=by simp[ky]
theorem Nu(us:List Uw)(u:Uw):ky (us++[u])=ky us++[u.1]:=by simp[ky]
theorem W5{l:List Tt}(h:(l.map tD)[k]? =some d):∃t,l[k]? =some t/\d=tD t:=by
 rw[List.getElem?_map]at h;cases e:l[k]? with
 |none=>simp[e]at h
 |some t=>exact⟨t,rfl,by simpa[e]using h.symm⟩
theorem Do(F:∀j∈js,j.1∈ns/\j.2.1∈ns)(y:Str):∀k,t∈adj js k y->t.2.2∈ns
 |0,h=>by simp[adj]at h
 |k+1,h=>by
  rw[adj]at h;cases e:js[k]? with
  |none=>rw[e]at h;exact Do F y k h
  |some j=>
   rw[e]at h;obtain⟨h1,h2⟩:=F j (Zv e);have go:∀{f:Str->List Tt}{x:Str}{u:Tt},t∈upF f x u y->t∈f y∨t=u:=λ{f x u} z=>by
    unfold upF at z;split at z
    .simpa using z
    .exact .inl z
   rcases go h with z|z
   .rcases go z with z|z
    .exact Do F y k z
    .rw[z];exact h2
   .rw[z];exact h1
structure Wy(ns:List Str)(us:List Uw):Prop where
 n:(us.map (·.1)).Nodup
 i:∀x∈us.map (·.1),x∈ns
 w:∀u∈us,u.2.length<us.length
theorem Wy.len(w:Wy ns us):us.length<=ns.length:=by
 have:=Fd w.n w.i;simpa using this
def WfI(L:D)(ns:List Str)(h:Str)(p:Nat)(ρ:En):Prop:=∃(us:List Uw)(B q O F:Option D),ρ=[some L,some (.str h),some (wM .own us),some (.lst .own (((ky us).drop p).map D.str)),B,q,O,F]/\Wy ns us/\p<=us.length
def WfJ(L:D)(ns:List Str)(h:Str)(p:Nat)(x:Str)(k:Nat)(ρ:En):Prop:=∃(us:List Uw)(q O F:Option D),ρ=[some L,some (.str h),some (wM .own us),some (.lst .own (((ky us).drop (p+1)).map D.str)),some (.str x),q,O,F]/\Wy ns us/\p+1<=us.length/\(ky us)[p]? =some x
def WyD(ns:List Str)(d:D):Prop:=∃us,d=wM .own us/\Wy ns us
theorem U9{h:Str}(hh:h∈ns)(hj:∀j∈js,j.1∈ns/\j.2.1∈ns)(Y:ns.length<=1000):Wp (fP [j0 ns (adj js js.length),.str h]) (WyD ns):=by
 simp_arith![fP,fnP];refine aZ (λρ=>ρ=[some (j0 ns (adj js js.length)),some (.str h),some (wM .own [(h,[])]),none,none,none,none,none]) 1.21 ?_
 .have:rH [((Zj h:Key),D.tup [])]=some (wM .own [(h,[])]):=by
   unfold rH;rw[YZ (by simp)];rfl
  simp_arith[sEx,aF,aO,aG,fQ,jn,lE,lM,lY,mD,iC,gLt,gGt,gGe,gIx,dY,bO,eG,rZ,qe,j7,gIs,iJ,atI,ixN,aW,fX,gSl,rn,nu,BK,xF,Hc,du,this];exact⟨IV (.inl rfl),U _ rfl⟩
 rintro _ rfl;refine aZ (λρ=>ρ=[some (j0 ns (adj js js.length)),some (.str h),some (wM .own [(h,[])]),some (.lst .own [.str h]),none,none,none,none]) 1.21 ?_
 .simp_arith[sEx,aF,aO,aG,fQ,jn,lE,lM,lY,mD,iC,gLt,gGt,gGe,gIx,dY,bO,eG,rZ,qe,j7,gIs,iJ,atI,ixN,aW,fX,gSl,rn,nu]
  exact U _ rfl
 rintro _ rfl;refine aZ (λρ=>∃p,WfI (j0 ns (adj js js.length)) ns h p ρ) 1.21 ?_
 .refine vg (WfI (j0 ns (adj js js.length)) ns h) ns.length ?_ 1000000 0 _ ⟨[(h,[])],none,none,none,none,rfl,⟨by simp,by simpa using hh,by simp⟩,by simp⟩ 1.11
  rintro p ρ ⟨us,x4,q,x6,x7,rfl,B,N⟩;have b9:=B.len;cases e:(ky us).drop p with
  |nil=>
   simp[lC,jt,aq,view,cL,truth,iu,aQ,e];exact U _ ⟨p,us,x4,q,x6,x7,by rw[e];rfl,B,N⟩
  |cons x r=>
   have F:(ky us)[p]? =some x:=by
    have:=congrArg (λl=>l[0]?) e;simpa using this
   have Z:p<us.length:=by have:=(List.getElem?_eq_some_iff.mp F).1;rw[xn]at this;exact this
   have O:r=(ky us).drop (p+1):=by
    have:=congrArg List.tail e;simpa using this.symm
   have a7:x∈ns:=B.i x (Zv F);have a0:((ky us).drop p).length<1000000:=by rw[acZ,xn];omega
   rw[e]at a0;simp[lC,jt,aq,view,cL,truth,iu,aQ];refine⟨by omega,?_⟩;refine aZ (WfJ (j0 ns (adj js js.length)) ns h p x 0) 1.21 ?_
   .have hpop:lU (.lst .own ((x::r).map D.str)) [.int 0]=some (.lst .own (r.map D.str),.str x):=by
     simp![lU,Zc,a0,Zy];simp[ixN]
    have hq:upS lU 3 [] [.int 0] [some (j0 ns (adj js js.length)),some (.str h),some (wM .own us),some (.lst .own ((x::r).map D.str)),x4,q,x6,x7]=some (.str x,[some (j0 ns (adj js js.length)),some (.str h),some (wM .own us),some (.lst .own (r.map D.str)),x4,q,x6,x7]):=by
     unfold upS;simp![abQ,aef,e_,YF];rw[YZ ⟨rfl,rfl⟩,hpop];rfl
    simp![YL]at hq;simp[bZ,jA,b7,ak,aK,eC,iu,bJ,aQ,hq,tgN,aD,aB,clean];exact U _ ⟨us,q,x6,x7,by rw[O],B,Z,F⟩
   rintro _ ⟨b5,y5,y6,y7,rfl,b3,b1,b2⟩;have a4:cX (.lst .frz ((adj js js.length x).map tD))=some (true,(adj js js.length x).map tD):=by simp[cX,clean,aD,aB,Sy,R9,Xw]
   simp[jw,itS,e2,aq,Ov,view,bJ,aQ,J6 a7,a4,-List.map_drop];refine tY (WfJ (j0 ns (adj js js.length)) ns h p x) ⟨b5,y5,y6,y7,rfl,b3,b1,b2⟩ ?_ ?_
   .rintro k d ρ hk ⟨us1,z5,z6,z7,rfl,hw1,hp1,hx1⟩
    obtain⟨t,ht,rfl⟩:=W5 hk;have b4:t∈adj js js.length x:=Zv ht;have b6:=hw1.len;have b0:x∈us1.map (·.1):=Zv hx1;obtain⟨ps,a9,a8⟩:=Xx (m:=.brw) b0;have b8:ps.length<us1.length:=hw1.w _ a9;simp[tD,tgT,aN,b_,tgN,au,aA,clean,aD,aB,aQ,-List.map_drop];simp[sIf,eB,e2,aq,Wd,view,Wx,isB,bJ,aQ,w_ite,-List.map_drop];by_cases I:t.2.2∈us1.map (·.1)
    .have hin':∃a,(t.2.2,a)∈us1:=by obtain⟨u,J,e⟩:=Y_.mp I;exact⟨u.2,by rw[←e];exact J⟩
     simp[hin',eU,aQ,-List.map_drop];exact⟨us1,_,_,_,rfl,hw1,hp1,hx1⟩
    .have hin':¬∃a,(t.2.2,a)∈us1:=λ⟨a,z⟩=>I (Y_.mpr ⟨_,z,rfl⟩)
     simp[hin',-List.map_drop];have a5:fQ (pT ps) (.tup [.tup [.int t.1,.int t.2.1]])=some (pT (ps++[(t.1,t.2.1)])):=by
      simp[pT,fQ,ptD];omega
     refine aZ (λρ=>ρ=[some (j0 ns (adj js js.length)),some (.str h),some (wM .own (us1++[(t.2.2,ps++[(t.1,t.2.1)])])),some (.lst .own (((ky us1).drop (p+1)).map D.str)),some (.str x),some (.int t.1),some (.int t.2.1),some (.str t.2.2)]) 1.21 ?_
     .have hset:=VB (us:=us1) (x:=t.2.2) (ps:=ps++[(t.1,t.2.1)]) I 1.11
      have a3:=Dk (ps++[(t.1,t.2.1)]);simp[dq,e2,aq,Wd,view,a8,eAp,ak,aK,bO,a5,bJ,iu,aQ,iw,b7,upS,e_,fW,hset,au,aA,aD,aB,a3.1,a3.2.1,clean,-List.map_drop];exact U _ rfl
     rintro _ rfl;have a6:(((ky us1).drop (p+1)).map D.str).length<1000000:=by rw[Zc,acZ,xn];omega
     have a2:aW (.lst .own (((ky us1).drop (p+1)).map D.str)) [.str t.2.2]=some (.lst .own (((ky us1).drop (p+1)).map D.str++[.str t.2.2]),.non):=by
      simp![aW,a6,Zy]
     simp![gf,jA,b7,ak,aK,aq,view,abQ,aef,YF,aaI,upS,e_,au,aA,aD,aB,ae7,and_self,Zy,a2,fW,aQ,abo,ady];have a1:(ky (us1++[(t.2.2,ps++[(t.1,t.2.1)])])).drop (p+1)=(ky us1).drop (p+1)++[t.2.2]:=by
      rw[Nu,List.drop_append_of_le_length (by rw[xn];exact hp1)]
     refine⟨us1++[(t.2.2,ps++[(t.1,t.2.1)])],_,_,_,by rw[a1,Zq];rfl,⟨?_,?_,?_⟩,by simp;omega,?_⟩
     .rw[Zq]
      exact YX.mpr ⟨hw1.n,by simp,λy V z hz=>by
       obtain rfl:z=t.2.2:=by simpa using hz
       exact λe=>I (e▸V)⟩
     .intro y V
      rw[Zq]at V;rcases YC.mp V with z|z
      .exact hw1.i y z
      .rw[show y=t.2.2 by simpa using z];exact Do hj x _ b4
     .intro u J
      rcases YC.mp J with z|z
      .have:=hw1.w u z;simp;omega
      .rw[ZM.mp z];simp;omega
     .rw[Nu,Zo (by rw[xn];omega)];exact hx1
   .rintro ρ ⟨us1,z5,z6,z7,rfl,hw1,hp1,hx1⟩
    exact⟨us1,_,z5,z6,z7,rfl,hw1,hp1⟩
 rintro _ ⟨p,us,x4,q,x6,x7,rfl,B,N⟩;simp[fO,aQ];exact⟨us,rfl,B⟩
theorem Yh{g:List Str}(h:g.length<64):mz [.lst m (g.map D.str)]=some (.lst .own ((mK g).map D.str)):=Mq (m:=m) h
theorem yd:∀l:List Str,uM (l.map Zj)=some l
 |[]=>rfl
 |x::r=>by simp[uM,yd r]
theorem UG(us:List Uw):bB (wM .own us)=true:=by
 have h2:∀l:List Pt,bA (l.map ptD)=true:=by
  intro l
  induction l with
  |nil=>rfl
  |cons p r O=>rw[YL,bA,O];rfl
 have h1:bA (us.map λu=>pT u.2)=true:=by
  induction us with
  |nil=>rfl
  |cons u r O=>rw[YL,bA,O,pT,bB,h2];rfl
 simp![wM,bB,h1];rfl
structure NS(N:D)(ns:List Str):Prop where
 k:NK N ns
 s:mz [N]=some (.lst .own ((mK ns).map D.str))
theorem NS.lst{ns:List Str}(h:ns.length<=40):NS (.lst .frz (ns.map D.str)) ns:=⟨NK.lst ns,Yh 1.11⟩
theorem XS(B:List (List Uw)):au (B.map (wM .frz))=true:=bI λd hd=>by obtain⟨u,_,rfl⟩:=Y_.mp hd;exact(IV (.inr rfl)).1
theorem V9(B:List (List Uw)):aA (B.map (wM .frz))=true:=bG λd hd=>by obtain⟨u,_,rfl⟩:=Y_.mp hd;exact(IV (.inr rfl)).2
theorem Yr(h:us.length<64)(N:(m== .scr)=false):lq [wM m us]=some (.lst .own ((mK (ky us)).map D.str)):=by
 simp![lq,wM,Zc,h,N,yd,aaI];rfl
theorem yF:∀{es:List (Key×D)}{ks:List Key}{ds:List D},(bK ks ds es).1.length<=ks.length+es.length
 |[],ks,ds=>by simp[bK]
 |p::r,ks,ds=>by
  rw[bK];have h:=yF (es:=r) (ks:=(gH ks ds p.1 p.2).1) (ds:=(gH ks ds p.1 p.2).2);have h2:(gH ks ds p.1 p.2).1.length<=ks.length+1:=by unfold gH;split<;>simp
  simp;omega
def TrD(ns:List Str)(d:D):Prop:=∃B:List (List Uw),d= .lst .own (B.map (wM .frz))/\B.length<=ns.length/\∀us∈B,us.length<=ns.length
def TrI(N J L:D)(ns:List Str)(k:Nat)(ρ:En):Prop:=∃(B:List (List Uw))(ks:List Key)(ds:List D)(q O:Option D),ρ=[some N,some J,some L,some (.dct .own ks ds),some (.lst .own (B.map (wM .frz))),q,O]/\B.length<=k/\(∀us∈B,us.length<=ns.length)/\ks.length<=40*k/\∀d∈ds,∃ps,d=pT ps
theorem Q8{N J:D}(V:NS N ns)(hJ:JJ J js)(hn:ns.Nodup)(F:∀j∈js,j.1∈ns/\j.2.1∈ns)(Y:ns.length<=40)(a7:js.length<=1000):Wp (jf [N,J]) (TrD ns):=by
 simp_arith![jf,fnP];refine aZ (λρ=>ρ=[some N,some J,some (lead ns (adj js js.length)),none,none,none,none]) 1.21 ?_
 .have he:=Vi V.k hJ hn F 1.11 a7
  have O:aD (lead ns (adj js js.length))=true/\aB (lead ns (adj js js.length))=true:=by
   constructor
   .simp![lead,aD];rw[bI λd hd=>by obtain⟨y,_,rfl⟩:=Y_.mp hd;simp[lT,aD,Sy]];rfl
   .simp![lead,aB];rw[bG λd hd=>by obtain⟨y,_,rfl⟩:=Y_.mp hd;simp[lT,aB,R9]];rfl
  simp[dq,eAp,b8,ak,aK,aq,V.k.v,hJ.v,fzL,V.k.f,hJ.f,he,au,aA,V.k.b,V.k.o,hJ.b,hJ.o,bJ,iu,aQ,tgN,clean,O.1,O.2];exact U _ rfl
 rintro _ rfl;refine aZ (λρ=>ρ=[some N,some J,some (lead ns (adj js js.length)),some (.dct .own [] []),none,none,none]) 1.21 ?_
 .simp_arith[sEx,aF,aO,aG,Fp]
  exact U _ rfl
 rintro _ rfl;refine aZ (λρ=>ρ=[some N,some J,some (lead ns (adj js js.length)),some (.dct .own [] []),some (.lst .own []),none,none]) 1.21 ?_
 .simp_arith[sEx,aF,aO,aG,fQ,jn,lE,lM,lY,mD,iC,gLt,gGt,gGe,gIx,dY,bO,eG,rZ,qe,j7,gIs,iJ,atI,ixN,aW,fX,gSl,rn,nu,-aD,-aB]
  exact U _ rfl
 rintro _ rfl;have a9:∃d,view false (lead ns (adj js js.length))=d/\fz d=j0 ns (adj js js.length):=by
  refine⟨_,rfl,?_⟩;simp![lead,j0,view,fz,cN,g_,YW];congr 1;refine ZD λy _=>?_;simp![acW,lT,view,fz,Ti,g_,YW];rfl
 obtain⟨Lv,a8,a6⟩:=a9;refine aZ (TrI N J (lead ns (adj js js.length)) ns ns.length) 1.21 ?_
 .have hsl:(mK ns).length=ns.length:=(wK ns).length_eq
  have a4:cX (.lst .own ((mK ns).map D.str))=some (true,(mK ns).map D.str):=by simp[cX,clean,aD,aB,cC,cB,jK]
  simp[jw,itS,eAp,ak,aK,aq,V.k.v,V.s,a4,bJ,aQ,w_ite];refine tY (TrI N J (lead ns (adj js js.length)) ns) ⟨[],[],[],none,none,rfl,by simp,by simp,by simp,by simp⟩ ?_ (λρ h=>U _ (by rw[Zc,hsl]at h;exact h));rintro k d ρ I ⟨B,ks,ds,x5,x6,rfl,h1,h2,h3,Z⟩;rw[List.getElem?_map]at I;cases a1:(mK ns)[k]? with
  |none=>simp[a1]at I
  |some x=>
   obtain rfl:D.str x=d:=by simpa[a1]using I
   have b1:=(List.getElem?_eq_some_iff.mp a1).1;have a5:x∈ns:=(wK ns).mem_iff.mp (Zv a1);have q:cL false ds=ds:=by
    rw[cN]
    conv=>rhs;rw[←aez ds]
    exact ZD λd hd=>by obtain⟨ps,rfl⟩:=Z d hd;exact(Dk ps).2.2.1 false
   simp[tgN,aD,aB,clean,aQ];simp[sIf,eB,e2,aq,view,mkV,j6,tH,du,isB,bJ,aQ,w_ite];split
   .obtain⟨_,e,us,rfl,hw⟩:=U9 a5 F 1.11
    have b0:=hw.len;refine aZ (λρ=>ρ=[some N,some J,some (lead ns (adj js js.length)),some (.dct .own ks ds),some (.lst .own (B.map (wM .frz))),some (.str x),some (wM .own us)]) 1.21 ?_
    .have O:=IV (us:=us) (m:=.own) (.inl rfl)
     simp[dq,eAp,b8,ak,aK,aq,a8,view,fzL,a6,fz,e,UG,bJ,iu,aQ,tgN,clean,O.1,O.2];exact U _ rfl
    rintro _ rfl;have O:=IV (us:=us) (m:=.frz) (.inr rfl);refine aZ (λρ=>∃(a2:List Key)(a0:List D),ρ=[some N,some J,some (lead ns (adj js js.length)),some (.dct .own a2 a0),some (.lst .own (B.map (wM .frz))),some (.str x),some (wM .frz us)]/\a2.length<=ks.length+us.length/\∀d∈a0,∃ps,d=pT ps) 1.21 ?_
    .have hup:lw (.dct .own ks ds) [wM .frz us]=some (.dct .own (bK ks ds (((us.map (·.1)).map Zj).zip (us.map λu=>pT u.2))).1 (bK ks ds (((us.map (·.1)).map Zj).zip (us.map λu=>pT u.2))).2,.non):=by
      simp![lw,wM];rw[YZ ⟨rfl,by simp;omega⟩]
     simp[sFz,jW,X8,gf,jA,b7,ak,aK,aq,Ng,upS,e_,fW,au,aA,O.1,O.2,hup,bJ,iu,aQ,-List.map_map];refine U _ ⟨_,_,rfl,?_,jM (λd=>∃ps,d=pT ps) Z λp hp=>?_⟩
     .have:=yF (es:=((us.map (·.1)).map Zj).zip (us.map λu=>pT u.2)) (ks:=ks) (ds:=ds)
      simp at this⊢;omega
     .obtain⟨u,_,e⟩:=Y_.mp (ack hp).2
      exact⟨u.2,e.symm⟩
    rintro _ ⟨a2,a0,rfl,h5,h6⟩;have a3:aW (.lst .own (B.map (wM .frz))) [wM .frz us]=some (.lst .own (B.map (wM .frz)++[wM .frz us]),.non):=by
     simp![aW,Zc,show B.length<1000000 by omega,Zy]
    simp[gf,jA,b7,ak,aK,aq,Ng,upS,e_,fW,au,aA,O.1,O.2,a3,bJ,iu,aQ];exact⟨B++[us],a2,a0,some (.str x),some (wM .frz us),by simp,by simp;omega,λv hv=>(YC.mp hv).elim (h2 v) λz=>by rw[ZM.mp z];exact b0,by omega,h6⟩
   .simp![eU,aQ]
    exact⟨B,ks,ds,_,_,rfl,by omega,h2,by omega,Z⟩
 rintro _ ⟨B,ks,ds,x5,x6,rfl,h1,h2,h3,Z⟩;simp[fO,aQ];exact⟨B,rfl,h1,h2⟩
def CsD(ns:List Str)(d:D):Prop:=∃I:List (List Str),d= .lst .own (I.map (fL .own))/\I.length<=ns.length
theorem nbL:∀I:List (List Str),au (I.map (fL .own))=true:=λI=>bI λd hd=>by
 obtain⟨z,_,rfl⟩:=Y_.mp hd;simp[fL,aD,cC]
theorem noL:∀I:List (List Str),aA (I.map (fL .own))=true:=λI=>bG λd hd=>by
 obtain⟨z,_,rfl⟩:=Y_.mp hd;simp[fL,aB,cB]
theorem W0{N J:D}(V:NS N ns)(I:JJ J js)(hn:ns.Nodup)(F:∀j∈js,j.1∈ns/\j.2.1∈ns)(Y:ns.length<=40)(Z:js.length<=1000):Wp (gW [N,J]) (CsD ns):=by
 obtain⟨_,e,B,rfl,a2,U⟩:=Q8 V I hn F Y Z;have a1:fY (B.map (wM .frz))=B.map (wM .frz):=by
  rw[iI,YW];refine ZD λu _=>?_;simp![acW,wM,fzo,iI,YW];congr 1;exact ZD λv _=>(Dk v.2).2.2.2.2
 have q:gQ (tpN 0) eTT (eAp lq (ak 1.16 aK)) [none] (B.map (wM .frz))=some ((B.map λu=>mK (ky u)).map (fL .own)):=by
  have:∀l:List (List Uw),(∀u∈l,u.length<64)->gQ (tpN 0) eTT (eAp lq (ak 1.16 aK)) [none] (l.map (wM .frz))=some ((l.map λu=>mK (ky u)).map (fL .own)):=by
   intro l
   induction l with
   |nil=>intro _;rfl
   |cons u r O=>
    intro h;have B:=Yr (us:=u) (m:=.frz) (h u (by simp)) rfl;rw[YL,gQ,O λv hv=>h v (by simp[hv])];have a3:=IV (us:=u) (m:=.frz) (.inr rfl);simp[tpN,eTT,eAp,ak,aK,aq,Ng,B,fL,aD,aB,cC,cB,clean]
  refine this B λu hu=>?_;have:=U u hu;omega
 have a0:clean (.lst .own (B.map (wM .frz)))=true:=by simp[clean,aD,aB,XS,V9]
 simp_arith![gW,fnP];simp[eO,gG,itS,eAp,b8,ak,aK,aq,V.k.v,I.v,fzL,V.k.f,I.f,e,au,aA,V.k.b,V.k.o,I.b,I.o,bJ,iu,aQ,w_ite,cX,a1,a0,gP,q];rw[←YW,YZ 1.11,YZ (by simp![clean,aD,aB,nbL,noL];rfl)];exact⟨B.map λu=>mK (ky u),by simp[YW],by simpa using a2⟩
theorem Wf:∀x∈lA,jj [.str x]=some (.bl true):=by
 intro x F;simp![lA,YJ,List.mem_nil_iff,or_false]at F;rcases F with rfl|rfl|rfl|rfl|rfl|rfl|rfl|rfl|rfl|rfl|rfl|rfl|rfl|rfl|rfl|rfl|rfl|rfl|rfl|rfl<;>with_unfolding_all rfl
theorem Xy{l:List Str}{k:Int}(F:x∈lA)(Y:x∉l):fD [.lst .frz (l.map D.str),.str x,.int k]=some .non:=by
 apply Wp.eq;simp_arith[fD,sEx,aF,aO,aG,Wf x F,bB,cA,gIn,tH,scV,p_,v7,Y]
def CkI(N:D)(k:Nat)(ρ:En):Prop:=∃x1 B:Option D,ρ=[some N,x1,B]
theorem Wj(hn:∀x∈ns,x∈lA)(nd:ns.Nodup)(Y:ns.length<=20):eE [.lst .frz (ns.map D.str)]=some .non:=by
 apply Wp.eq;simp_arith[eE,sEx,aF,aO,aG,cA,cC,cB,jK];refine tY (CkI (.lst .frz (ns.map D.str))) ⟨_,_,rfl⟩ ?_ ?_
 .rintro k d ρ hk ⟨x1,x2,rfl⟩
  rw[mQ,List.getElem?_map]at hk;cases F:ns[k]? with
  |none=>simp[F]at hk
  |some x=>
   obtain rfl:D.tup [.int (k:Int),.str x]=d:=by simpa[F]using hk
   have q:=(List.getElem?_eq_some_iff.mp F).1;have O:x∉ns.take k:=λz=>by
    obtain⟨i,hi,e⟩:=List.mem_take_iff_getElem.mp z;have:=(abB (by omega:i<ns.length) nd).mp (show ns[i]? =ns[k]? by rw[F,YT 1.11,e]);omega
   have h1:=Xy (k:=(k:Int)) (hn x (Zv F)) O;rw[acX]at h1;simp_arith[sEx,aF,aO,aG,cA,gSl,Kw,cC,cB,←acX,iQ];rw[acX,h1];simp[aQ,bB];exact⟨_,_,rfl⟩
 .rintro ρ ⟨x1,x2,rfl⟩
  simp[aQ]
abbrev Bh:=Str×Str×Int
inductive iH where
 |join (a b:Str) (s:Int) (h:Option Str)
 |weigh (a:Str) (n old:Int)
structure Sk where
 t:Int
 ws:List Int
 bs:List Bh
 zs:List Int
 dn:List iH
 lk:Int
def dcD:iH->D
 |.join a b s _=>.tup [.str "join",.str a,.str b,.int s]
 |.weigh a n _=>.tup [.str "weigh",.str a,.int n]
def ktD:iH->D
 |.join _ _ _ none=>.non
 |.join _ _ _ (some h)=>.str h
 |.weigh _ _ o=>.int o
def dnD(d:iH):D:=.tup [dcD d,ktD d]
def bvD(b:Bh):D:=.tup [.str b.2.1,.int b.2.2]
def j_:List Str:=["turn","weights","behind","sizes","done","looked"]
def wD(m:Mk)(ns:List Str)(vs:List Int):D:=.dct m (ns.map Zj) (vs.map D.int)
def bD(m:Mk)(bs:List Bh):D:=.dct m ((bs.map (·.1)).map Zj) (bs.map bvD)
def nD(m:Mk)(dn:List iH):D:=.lst m (dn.map dnD)
def skD(m:Mk)(ns:List Str)(s:Sk):D:=.ins m "Stack" j_ [.int s.t,wD m ns s.ws,bD m s.bs,wD m ns s.zs,nD m s.dn,.int s.lk]
theorem qP(d:iH):aD (dnD d)=true/\aB (dnD d)=true/\(∀b,view b (dnD d)=dnD d)/\fz (dnD d)=dnD d/\fzo (dnD d)=dnD d:=by
 cases d with
 |join a b s h=>cases h<;>exact⟨rfl,rfl,λ_=>rfl,rfl,rfl⟩
 |weigh a n o=>exact⟨rfl,rfl,λ_=>rfl,rfl,rfl⟩
theorem Hm(l:List iH):au (l.map dnD)=true:=bI λd hd=>by obtain⟨x,_,rfl⟩:=Y_.mp hd;exact(qP x).1
theorem Gw(l:List iH):aA (l.map dnD)=true:=bG λd hd=>by obtain⟨x,_,rfl⟩:=Y_.mp hd;exact(qP x).2.1
theorem Sw(b:Bool)(l:List iH):cL b (l.map dnD)=l.map dnD:=by rw[cN,YW];exact ZD λd _=>(qP d).2.2.1 b
theorem Sq(l:List iH):fzL (l.map dnD)=l.map dnD:=by rw[g_,YW];exact ZD λd _=>(qP d).2.2.2.1
theorem S_(l:List iH):fY (l.map dnD)=l.map dnD:=by rw[iI,YW];exact ZD λd _=>(qP d).2.2.2.2
theorem Sx(l:List Bh):au (l.map bvD)=true:=bI λd hd=>by obtain⟨x,_,rfl⟩:=Y_.mp hd;rfl
theorem R8(l:List Bh):aA (l.map bvD)=true:=bG λd hd=>by obtain⟨x,_,rfl⟩:=Y_.mp hd;rfl
theorem RZ(b:Bool)(l:List Bh):cL b (l.map bvD)=l.map bvD:=by rw[cN,YW];rfl
theorem S9(l:List Bh):fzL (l.map bvD)=l.map bvD:=by rw[g_,YW];rfl
theorem mC(ns:List Str)(s:Sk):view true (skD .own ns s)=skD .bro ns s:=by simp[skD,wD,bD,nD,view,cL,pU,RZ,Sw,mkV]
theorem uG(b:Bool)(ns:List Str)(s:Sk):view b (skD .frz ns s)=skD .frz ns s:=by cases b<;>simp[skD,wD,bD,nD,view,cL,pU,RZ,Sw,mkV]
theorem J7(ns:List Str)(s:Sk):fz (skD .bro ns s)=skD .frz ns s:=by simp[skD,wD,bD,nD,fz,fzL,vh,S9,Sq,mkF]
theorem Ys(ns:List Str)(s:Sk):aD (skD .own ns s)=true/\aB (skD .own ns s)=true:=by simp[skD,wD,bD,nD,aD,aB,au,aA,rR,rQ,Sx,R8,Hm,Gw]
theorem X3(ns:List Str)(s:Sk):bB (skD .own ns s)=true:=by
 have h1:∀l:List Int,bA (l.map D.int)=true:=λl=>by induction l<;>simp_all [bA,bB]
 have h2:∀l:List Bh,bA (l.map bvD)=true:=λl=>by induction l<;>simp_all [bA,bB,bvD]
 have B:∀l:List iH,bA (l.map dnD)=true:=λl=>by
  induction l with
  |nil=>rfl
  |cons d r O=>
   rw[YL,bA,O,adF];cases d with
   |join a b s h=>cases h<;>rfl
   |weigh a n o=>rfl
 simp[skD,wD,bD,nD,bB,bA,h1,h2,B]
variable{s:Sk}
theorem gf0(h:m≠.scr):iz "Stack" "turn" (skD m ns s)=some (.int s.t):=by simp[iz,skD,h,show eV j_ "turn"=some 0 by decide]
theorem gf1(h:m≠.scr):iz "Stack" "weights" (skD m ns s)=some (wD m ns s.ws):=by simp[iz,skD,h,show eV j_ "weights"=some 1 by decide]
theorem gf2(h:m≠.scr):iz "Stack" "behind" (skD m ns s)=some (bD m s.bs):=by simp[iz,skD,h,show eV j_ "behind"=some 2 by decide]
theorem gf3(h:m≠.scr):iz "Stack" "sizes" (skD m ns s)=some (wD m ns s.zs):=by simp[iz,skD,h,show eV j_ "sizes"=some 3 by decide]
theorem gf4(h:m≠.scr):iz "Stack" "done" (skD m ns s)=some (nD m s.dn):=by simp[iz,skD,h,show eV j_ "done"=some 4 by decide]
theorem uY(h:m≠.scr){f:Str}(O:eV j_ f=none):vz "Stack" f (skD m ns s)=true:=by simp[vz,skD,h,O]
variable{r:En}
theorem pf1:mZ 0 (b7 0) "Stack" "weights" (some (skD .own ns s)::r)=some [1]:=by simp[mZ,b7,e_,skD,show eV j_ "weights"=some 1 by decide]
theorem pf2:mZ 0 (b7 0) "Stack" "behind" (some (skD .own ns s)::r)=some [2]:=by simp[mZ,b7,e_,skD,show eV j_ "behind"=some 2 by decide]
theorem pf3:mZ 0 (b7 0) "Stack" "sizes" (some (skD .own ns s)::r)=some [3]:=by simp[mZ,b7,e_,skD,show eV j_ "sizes"=some 3 by decide]
theorem pf4:mZ 0 (b7 0) "Stack" "done" (some (skD .own ns s)::r)=some [4]:=by simp[mZ,b7,e_,skD,show eV j_ "done"=some 4 by decide]
theorem tf5{k:Int}:lO "Stack" "looked" 0 (b7 0) (.int k) (some (skD .own ns s)::r)=some (some (skD .own ns {s with lk:=k})::r):=by
 simp[lO,b7,upS,e_,yr,skD,j_,au,aD,aA,aB,show eV ["turn","weights","behind","sizes","done","looked"] "looked"=some 5 by decide,vf,fW]
variable{x:D}{op:D->List D->Option (D×D)}{es:List D}
theorem us1(h:au es=true/\aA es=true)(e:op (wD .own ns s.ws) es=some (wD .own ns vs,x)):upS op 0 [1] es (some (skD .own ns s)::r)=some (x,some (skD .own ns {s with ws:=vs})::r):=by simp[upS,e_,skD,kids,h,e,fW,xO]
variable{bs:List Bh}
theorem us2(h:au es=true/\aA es=true)(e:op (bD .own s.bs) es=some (bD .own bs,x)):upS op 0 [2] es (some (skD .own ns s)::r)=some (x,some (skD .own ns {s with bs:=bs})::r):=by simp[upS,e_,skD,kids,h,e,fW,xO]
theorem us3(h:au es=true/\aA es=true)(e:op (wD .own ns s.zs) es=some (wD .own ns vs,x)):upS op 0 [3] es (some (skD .own ns s)::r)=some (x,some (skD .own ns {s with zs:=vs})::r):=by simp[upS,e_,skD,kids,h,e,fW,xO]
theorem us4(h:au es=true/\aA es=true){dn:List iH}(e:op (nD .own s.dn) es=some (nD .own dn,x)):upS op 0 [4] es (some (skD .own ns s)::r)=some (x,some (skD .own ns {s with dn:=dn})::r):=by simp[upS,e_,skD,kids,h,e,fW,xO]
variable{v:Int}
theorem V8:∀ns:List Str,jo (tpN 0) eTT 1.16 (eC (.int v)) [none] (ns.map D.str)=some (ns.map λy=>((Zj y:Key),D.int v))
 |[]=>rfl
 |x::r=>by
  rw[YL,jo,V8 r];simp[tpN,eTT,aq,view,du,eC]
def sk0(t:Int)(ns:List Str):Sk:=⟨t,ns.map λ_=>0,[],ns.map λ_=>1,[],0⟩
theorem Wh(nd:ns.Nodup):rH (ns.map λy=>((Zj y:Key),D.int v))=some (wD .own ns (ns.map λ_=>v)):=by
 have J:(ns.map λy=>(Zj y:Key)).Nodup:=adN.mpr (nd.imp λh e=>h (by cases e;rfl));rw[rH,YW,YW,show((λx:Key×D=>x.1)∘λy=>((Zj y:Key),D.int v))=Zj from rfl,YZ J];simp[wD,YW]
variable{t:Int}
theorem TV(hn:∀x∈ns,x∈lA)(nd:ns.Nodup)(Y:ns.length<=20):bN [.ins .own "Stack" [] [],.lst .frz (ns.map D.str),.int t]=some (.non,[skD .own ns (sk0 t ns),.lst .frz (ns.map D.str),.int t]):=by
 apply Wp.eq;have h1:=Wj hn nd Y;have F:eV [] "turn"=none:=by decide
 have N:eV ["turn"] "weights"=none:=by decide
 have I:eV ["turn","weights"] "behind"=none:=by decide
 have J:eV ["turn","weights","behind"] "sizes"=none:=by decide
 have V:eV ["turn","weights","behind","sizes"] "done"=none:=by decide
 have q:eV ["turn","weights","behind","sizes","done"] "looked"=none:=by decide
 have B:∀v:Int,aD (wD .own ns (ns.map λ_=>v))=true/\aB (wD .own ns (ns.map λ_=>v))=true:=λv=>⟨by simp![wD,aD,rR];rfl,by simp![wD,aB,rQ];rfl⟩;simp_arith[bN,sEx,aF,aO,aG,cA,iQ,cC,cB,jK,h1,bB,nq,V8,Wh nd,lO,b7,e_,yr,F,N,I,J,V,q,B,Fp,dY,vf];exact⟨by omega,rfl⟩
theorem T3(hn:∀x∈ns,x∈lA)(nd:ns.Nodup)(Y:ns.length<=20):yX "Stack" bN [.lst .brw (ns.map D.str),.int t]=some (skD .own ns (sk0 t ns)):=by
 have:=TV (t:=t) hn nd Y;simp[yX,fzL,fz,mkF,iQ,this,X3]
variable{x:Str}
theorem Yo:j6 (.str x) (wD m ns vs)=some (.bl (!decide (x∈ns))):=by simp![j6,wD,tH,du,aaI,kI]
def kyB(bs:List Bh)(x:Str):Bool:=decide (x∈bs.map (·.1))
theorem X5:gIn (.str x) (bD m bs)=some (.bl (kyB bs x)):=by simp![kyB,gIn,bD,tH,du,aaI,kI]
theorem Jz(Y:vs.length=ns.length)(F:x∈ns):∃v,gIx (wD m ns vs) (.str x)=some (.int v):=by
 obtain⟨i,h1,_,h2⟩:=pZ F;exact⟨vs[i]'(by omega),by simp[wD,gIx,du,h1,show i<vs.length by omega]⟩
theorem Ka(nd:ys.Nodup)(h:ys[i]? =some x):fB (ys.map Zj) (Zj x)=some i:=by
 obtain⟨j,h1,h2,B⟩:=pZ (Zv h);rw[h1,(abB B nd).mp (h2.trans h.symm)]
variable{b:Bh}
theorem VG(nd:(bs.map (·.1)).Nodup)(h:bs[i]? =some b):gIx (bD m bs) (.str b.1)=some (bvD b):=by
 have:=Ka nd (i:=i) (x:=b.1) (by rw[List.getElem?_map,h];rfl);simp![bD,gIx,du,YF,this,List.getElem?_map,h,aaI]
theorem RV(F:x∈ns):bU [wD .frz ns vs,.str x]=some .non:=by
 have B:view false (wD .frz ns vs)=wD .frz ns vs:=by simp[wD,view,pU,mkV]
 apply Wp.eq;simp_arith[bU,sEx,aF,aO,aG,B,Yo,F]
theorem Qy(h:m= .bro∨m= .frz):fz (wD m ns vs)=wD .frz ns vs:=by
 rcases h with rfl|rfl<;>simp[wD,fz,vh,mkF]
structure Bk(ns:List Str)(bs:List Bh):Prop where
 nd:(bs.map (·.1)).Nodup
 ok:∀(i:Nat)(b:Bh),bs[i]? =some b->b.1∈ns/\b.2.1∈ns/\∀(j:Nat)(c:Bh),bs[j]? =some c->c.1=b.2.1->i<j
def chn(bs:List Bh):Nat->Str->List Str
 |0,x=>[x]
 |k+1,x=>match bs.find? λb=>decide (b.1=x)with
  |some b=>x::chn bs k b.2.1
  |none=>[x]
theorem Ke(nd:(bs.map (·.1)).Nodup)(h:bs[i]? =some b):bs.find? (λc=>decide (c.1=b.1))=some b:=by
 cases O:bs.find? (λc=>decide (c.1=b.1))with
 |none=>have:=afz.mp O b (Zv h);simp at this
 |some c=>
  have h1:=List.find?_some O;obtain⟨j,F⟩:=aaJ.mp (List.mem_of_find?_eq_some O);have e:c.1=b.1:=by simpa using h1
  have:=(abB (i:=j) (j:=i) (l:=bs.map (·.1)) (by simpa using(List.getElem?_eq_some_iff.mp F).1) nd).mp (by rw[List.getElem?_map,List.getElem?_map,F,h];simp[e]);subst this;rw[F]at h;exact h
theorem Tj(h:x∉bs.map (·.1)):bs.find? (λc=>decide (c.1=x))=none:=afz.mpr λc Z=>by
 simp![abC];exact λz=>h (Y_.mpr ⟨c,Z,z⟩)
def Ch(ns:List Str)(bs:List Bh)(x:Str)(pre:List Str)(l:Str):Prop:=chn bs bs.length x=pre++[l]/\l∈ns/\l∉bs.map (·.1)/\(∀y∈pre,y∈bs.map (·.1))/\pre.length<=bs.length
def ChI(S:D)(ns:List Str)(bs:List Bh)(x:Str)(p:Nat)(ρ:En):Prop:=∃(pre:List Str)(l:Str),ρ=[some S,some (.str x),some (.lst .own ((pre++[l]).map D.str))]/\pre.length=p/\pre++chn bs (bs.length-p) l=chn bs bs.length x/\l∈ns/\(∀y∈pre,y∈bs.map (·.1))/\p<=bs.length/\∀(i:Nat)(b:Bh),bs[i]? =some b->b.1=l->p<=i
variable{l:Str}
theorem rE:gIx (.lst m ((pre++[l]).map D.str)) (.int (-1))=some (.str l):=by
 simp[gIx,atI,ixN];rw[YZ 1.11,YF,show(-1+((pre.length:Int)+1)).toNat=(pre.map D.str).length by rw[Zc];omega];simp
def ChR(ns:List Str)(bs:List Bh)(x:Str)(d:D):Prop:=d= .lst .own ((chn bs bs.length x).map D.str)/\∃pre l,Ch ns bs x pre l
theorem Qh(U:Bk ns s.bs)(F:x∈ns)(Y:s.bs.length<=1000):Wp (bz [skD .frz ns s,.str x]) (ChR ns s.bs x):=by
 simp_arith![bz,fnP];refine aZ (λρ=>ρ=[some (skD .frz ns s),some (.str x),none]) (λQ hQ=>?_) ?_
 .simp_arith[sEx,aF,aO,aG,uG,gf1,Qy,RV F,bB]
  exact hQ _ rfl
 rintro _ rfl;refine aZ (λρ=>ρ=[some (skD .frz ns s),some (.str x),some (.lst .own [.str x])]) (λQ hQ=>?_) ?_
 .simp_arith[sEx,aF,aO,aG,dY]
  exact hQ _ rfl
 rintro _ rfl;refine aZ (λρ=>∃(pre:List Str)(l:Str),ρ=[some (skD .frz ns s),some (.str x),some (.lst .own ((pre++[l]).map D.str))]/\Ch ns s.bs x pre l) (λQ hQ=>?_) ?_
 .refine vg (ChI (skD .frz ns s) ns s.bs x) s.bs.length ?_ 1000000 0 _ ⟨[],x,rfl,rfl,by simp,F,by simp,by omega,λi b _ _=>by omega⟩ 1.11
  rintro p ρ ⟨pre,l,rfl,N,Z,a6,a1,a8,a4⟩;have a0:=rE (pre:=pre) (l:=l) (m:=.brw);simp_arith[sEx,aF,aO,aG,cA,iC,a0,uG,gf2,X5,-List.map_append];cases I:kyB s.bs l with
  |false=>
   simp![ZF,aaz];have a2:l∉s.bs.map (·.1):=by simpa[kyB]using I
   refine hQ _ ⟨pre,l,rfl,?_,a6,a2,a1,by omega⟩;rw[←Z];cases s.bs.length-p with
   |zero=>rfl
   |succ k=>rw[chn,Tj a2]
  |true=>
   simp![Zy];obtain⟨b,B,q⟩:=Y_.mp (show l∈s.bs.map (·.1)by simpa[kyB]using I);obtain⟨i,hi⟩:=aaJ.mp B;have J:=(List.getElem?_eq_some_iff.mp hi).1;have a7:=a4 i b hi q;subst q;have a5:=VG (m:=.frz) U.nd hi;obtain⟨o1,O,o3⟩:=U.ok i b hi;simp_arith[sEx,aF,aO,aG,cA,iC,a0,uG,gf2,a5,-List.map_append,show gIx (bvD b) (.int 0)=some (.str b.2.1)from rfl,aW];refine⟨by omega,by omega,pre++[b.1],b.2.1,by simp,by simp[N],?_,O,λy V=>(YC.mp V).elim (a1 y) λz=>by rw[ZM.mp z];exact Y_.mpr ⟨b,B,rfl⟩,by omega,λj c hj a3=>?_⟩
   .rw[←Z,show s.bs.length-p=(s.bs.length-(p+1))+1 by omega,chn,Ke U.nd hi]
    simp
   .have:=o3 j c hj a3;omega
 rintro _ ⟨pre,l,rfl,h⟩;simp[fO,aQ];exact⟨by rw[h.1];simp,pre,l,h⟩
theorem Ko:cutD (ds++[d]) none (some (-1))=ds:=by
 unfold cutD;rw[HT.sIx_none];simp[HT.sIx];rw[show(-1+((ds.length:Int)+1)).toNat=ds.length by omega];simp
theorem Hs:∀vs:List Int,vU (vs.map D.int)=some vs
 |[]=>rfl
 |v::r=>by simp[vU,Hs r]
def gpB(bs:List Bh)(d:D):Int:=match d with
 |.str x=>((bs.find? λb=>decide (b.1=x)).map (·.2.2)).getD 0
 |_=>0
theorem WP(U:Bk ns s.bs)(N:∀y∈pre,y∈s.bs.map (·.1))(Y:pre.length<=1000):∃v:Int,bw [skD .frz ns s,.lst .frz ((pre++[l]).map D.str)]=some (.int v):=by
 have I:gQ (tpN 0) eTT (e2 gIx (e2 gIx (e1 (iz "Stack" "behind") 1.19) 1.16) (eC (.int 1))) [none,some (skD .frz ns s)] (pre.map D.str)=some ((pre.map λy=>gpB s.bs (.str y)).map D.int):=by
  rw[xu (p:=λ_=>true) (f:=λd=>.int (gpB s.bs d)),filter_tt,YW,YW]
  .rfl
  .intro d hd
   obtain⟨y,V,rfl⟩:=Y_.mp hd;obtain⟨b,B,q⟩:=Y_.mp (N y V);obtain⟨i,hi⟩:=aaJ.mp B;have F:=VG (m:=.frz) U.nd hi;subst q;have O:=Ke U.nd hi;simp[tpN,aQ,eTT,e2,e1,aq,view,eC,uG,gf2,F,gpB,O];rfl
 refine⟨((pre.map λy=>gpB s.bs (.str y))).sum,?_⟩;apply Wp.eq;have Z:cutD ((pre++[l]).map D.str) none (some (-1))=pre.map D.str:=by rw[Zq];exact Ko
 simp_arith![bw,fnP];simp_arith[sEx,aF,aO,aG,cA,iC,gSl,Z,uG,cC,cB,jK,-List.map_append,I,-List.map_map,Qg,Hs,rR,rQ];omega
def hgO:iH->Option Str
 |.join _ _ _ h=>h
 |.weigh _ _ _=>none
structure Ok(ns:List Str)(s:Sk):Prop where
 w:s.ws.length=ns.length
 z:s.zs.length=ns.length
 b:Bk ns s.bs
 d:s.dn.filterMap hgO=s.bs.map (·.1)
 n:∀d∈s.dn,match d with|.join a b _ _=>a∈ns/\b∈ns|.weigh a _ _=>a∈ns
 t:0<=s.t/\s.t<=1000
 l:ns.length<=20
 m:s.dn.length<=1000
theorem Ok.bl(h:Ok ns s):s.bs.length<=1000:=by
 have:=Fd h.b.nd (λx F=>by
  obtain⟨b,U,rfl⟩:=Y_.mp F;obtain⟨i,hi⟩:=aaJ.mp U;exact(h.b.ok i b hi).1:∀x∈s.bs.map (·.1),x∈ns)
 have h2:=h.l;simp at this;omega
theorem G7:∀l:List Str,jY (l.map D.str)=some (l.map Zj)
 |[]=>rfl
 |x::r=>by simp[jY,du,G7 r]
def rO:Option Int->D
 |none=>.non
 |some v=>.int v
def SpS(ns:List Str)(s:Sk)(x y:Str)(q:D×List D):Prop:=∃(r:Option Int)(lk:Int),q=(rO r,[skD .own ns {s with lk:=lk},.str x,.str y])/\(r=none->∀p1 l1 p2 l2,Ch ns s.bs x p1 l1->Ch ns s.bs y p2 l2->l1≠l2)
theorem K1(U:0<=t/\t<=1000):∃r:Int,eF [.int t,.int v]=some (.int r):=by
 by_cases h:t=0
 .exact⟨v,by apply Wp.eq;simp_arith[eF,sEx,aF,aO,aG,eq_int,h]⟩
 .exact⟨v % t,by apply Wp.eq;simp_arith[eF,sEx,aF,aO,aG,eq_int,h,lY];omega⟩
theorem ne_str{a b:Str}:gNe (.str a) (.str b)=some (.bl (!decide (a=b))):=by
 unfold gNe;rw[YZ ⟨rfl,rfl,.sc (.str a b)⟩];simp![dt,eqD,abd,D.bl.injEq];rw[abW];simp
theorem eq_str{a b:Str}:gEq (.str a) (.str b)=some (.bl (decide (a=b))):=by
 unfold gEq;rw[YZ ⟨rfl,rfl,.sc (.str a b)⟩];simp![dt,eqD,abd,D.bl.injEq];rw[abW];simp
theorem vq(h:Ok ns s)(F:x∈ns):∃pre l,Ch ns s.bs x pre l/\dB "Stack" "chain" bz (skD .bro ns s) [.str x]=some (.lst .own ((pre++[l]).map D.str)):=by
 obtain⟨_,e,rfl,pre,l,Z⟩:=Qh h.b F h.bl;refine⟨pre,l,Z,?_⟩;rw[Z.1]at e;have J:∀l:List Str,bA (l.map D.str)=true:=λl=>by induction l<;>simp_all [bA,bB]
 simp![dB,uY (m:=.bro) (by decide) (show eV j_ "chain"=none by decide),Zy,b8,fzL,J7,fz,e,YF,bB,J];simp
theorem Hn(N:m= .brw∨m= .own)(h:Ok ns s)(Z:Ch ns s.bs x pre l):∃v:Int,dB "Stack" "offset" bw (skD .bro ns s) [.lst m ((pre++[l]).map D.str)]=some (.int v):=by
 have:=h.bl;obtain⟨v,e⟩:=WP (l:=l) h.b Z.2.2.2.1 (by have:=Z.2.2.2.2;omega);refine⟨v,?_⟩;rcases N with rfl|rfl<;>simp![dB,uY (m:=.bro) (by decide) (show eV j_ "offset"=none by decide),Zy,b8,fzL,J7,fz,iQ,mkF,e,YF,bB]<;>simp
theorem QH(h:Ok ns s)(F:x∈ns)(V:y∈ns):Wp (cZ [skD .own ns s,.str x,.str y]) (SpS ns s x y):=by
 simp_arith![cZ,fnI];refine aZ (λρ=>ρ=[some (skD .own ns s),some (.str x),some (.str y),none,none]) 1.21 ?_
 .simp_arith[sEx,aF,aO,aG,mC,gf1,Qy,RV F,bB]
  exact U _ rfl
 rintro _ rfl;refine aZ (λρ=>ρ=[some (skD .own ns s),some (.str x),some (.str y),none,none]) 1.21 ?_
 .simp_arith[sEx,aF,aO,aG,mC,gf1,Qy,RV V,bB]
  exact U _ rfl
 rintro _ rfl;obtain⟨p1,l1,Z,O⟩:=vq h F;obtain⟨p2,l2,B,g2⟩:=vq h V;by_cases a0:x=y
 .subst a0
  simp_arith[sEx,aF,aO,aG,eq_str,tf5];exact⟨some 0,1,rfl,by simp⟩
 refine aZ (λρ=>ρ=[some (skD .own ns s),some (.str x),some (.str y),none,none]) 1.21 ?_
 .simp_arith[sEx,aF,aO,aG,eq_str,a0]
  exact U _ rfl
 rintro _ rfl;refine aZ (λρ=>ρ=[some (skD .own ns s),some (.str x),some (.str y),some (.lst .own ((p1++[l1]).map D.str)),some (.lst .own ((p2++[l2]).map D.str))]) 1.21 ?_
 .simp_arith[sEx,aF,aO,aG,mC,O,g2,cC,cB,-List.map_append]
  exact U _ rfl
 rintro _ rfl;have a3:=h.bl;have n1:=Z.2.2.2.2;have n2:=B.2.2.2.2;refine aZ (λρ=>∃lk:Int,ρ=[some (skD .own ns {s with lk:=lk}),some (.str x),some (.str y),some (.lst .own ((p1++[l1]).map D.str)),some (.lst .own ((p2++[l2]).map D.str))]) 1.21 ?_
 .have hk:pO [.lst .own ((p1++[l1]).map D.str++(p2++[l2]).map D.str)]=some (.int (vd (((p1++[l1])++(p2++[l2])).map Zj)).length):=by
   rw[←Zq,pO,YZ (by simp;omega),G7];rfl
  simp_arith[sEx,aF,aO,aG,cA,fQ,tf5,-List.map_append,cC,cB];refine⟨by omega,?_⟩;rw[hk,aQ];simp[aD,aB,tf5,aQ,-List.map_append];exact U _ ⟨_,rfl⟩
 rintro _ ⟨lk,rfl⟩;have h1:=rE (pre:=p1) (l:=l1) (m:=.brw);have h2:=rE (pre:=p2) (l:=l2) (m:=.brw);have uq:∀p l q k,Ch ns s.bs x p l->Ch ns s.bs y q k->l=l1/\k=l2:=λp l q k j1 j2=>by
  have a1:=j1.1.symm.trans Z.1;have a2:=j2.1.symm.trans B.1;exact⟨(aeb a1 rfl).2 |> afA.mp,(aeb a2 rfl).2 |> afA.mp⟩
 by_cases Y:l1=l2
 .subst Y
  refine aZ (λρ=>ρ=[some (skD .own ns {s with lk:=lk}),some (.str x),some (.str y),some (.lst .own ((p1++[l1]).map D.str)),some (.lst .own ((p2++[l1]).map D.str))]) 1.21 ?_
  .simp_arith[sEx,aF,aO,aG,cA,iC,h1,h2,ne_str,-List.map_append]
   exact U _ rfl
  rintro _ rfl;have h':Ok ns {s with lk:=lk}:=⟨h.w,h.z,h.b,h.d,h.n,h.t,h.l,h.m⟩;obtain⟨v1,N⟩:=Hn (m:=.brw) (.inl rfl) h' Z;obtain⟨v2,I⟩:=Hn (m:=.brw) (.inl rfl) h' B;obtain⟨r,J⟩:=K1 (v:=v2-v1) h.t;simp_arith[sEx,aF,aO,aG,cA,mC,gf0,N,I,jn,J,bB,-List.map_append];exact⟨some r,lk,rfl,by simp⟩
 .simp_arith[sEx,aF,aO,aG,cA,iC,h1,h2,ne_str,Y,-List.map_append]
  exact⟨none,lk,rfl,λ_ p l q k j1 j2=>by obtain⟨rfl,rfl⟩:=uq p l q k j1 j2;exact Y⟩
def isJ:iH->Bool
 |.join _ _ _ _=>true
 |_=>false
def jnD:iH->D
 |.join a b s _=>.tup [.str a,.str b,.int s]
 |_=>.non
def jtO:iH->Option Jt
 |.join a b s _=>some (a,b,s)
 |_=>none
theorem Dl:∀l:List iH,(l.filter isJ).map jnD=(l.filterMap jtO).map jD
 |[]=>rfl
 |d::r=>by cases d<;>simp[aaL,aaG,isJ,jtO,jnD,jD,Dl r]
variable{d:iH}
theorem Hv:gIx (dcD d) (.int 0)=some (.str (if isJ d then "join" else "weigh")):=by cases d<;>rfl
theorem SN(h:isJ d=true):gSl (dcD d) (some 1) none=some (jnD d):=by cases d<;>first|rfl|cases h
theorem l_(d:iH):aD (dcD d)=true/\aB (dcD d)=true/\(∀b,view b (dcD d)=dcD d)/\fz (dcD d)=dcD d/\fzo (dcD d)=dcD d/\bB (dcD d)=true:=by cases d<;>exact⟨rfl,rfl,λ_=>rfl,rfl,rfl,rfl⟩
theorem An(d:iH):aD (ktD d)=true/\aB (ktD d)=true/\(∀b,view b (ktD d)=ktD d)/\fz (ktD d)=ktD d:=by
 cases d with
 |join a b s h=>cases h<;>exact⟨rfl,rfl,λ_=>rfl,rfl⟩
 |weigh a n o=>exact⟨rfl,rfl,λ_=>rfl,rfl⟩
theorem Cv(l:List iH):au (l.map dcD)=true:=bI λd hd=>by obtain⟨x,_,rfl⟩:=Y_.mp hd;exact(l_ x).1
theorem BL(l:List iH):aA (l.map dcD)=true:=bG λd hd=>by obtain⟨x,_,rfl⟩:=Y_.mp hd;exact(l_ x).2.1
theorem Tf:∀l:List iH,bA (l.map dcD)=true
 |[]=>rfl
 |d::r=>by rw[YL,bA,(l_ d).2.2.2.2.2,Tf r];rfl
theorem Te:∀l:List Jt,bA (l.map jD)=true
 |[]=>rfl
 |d::r=>by rw[YL,bA,Te r];rfl
theorem Ra(Y:s.dn.length<=1000):bW [skD .frz ns s]=some (.lst .own (s.dn.map dcD)):=by
 have F:gQ (tpT 2 (aN (tpN 0) (aN (tpN 1) b_))) eTT 1.16 [none,none] (s.dn.map dnD)=some (s.dn.map dcD):=by
  rw[xu (p:=λ_=>true) (f:=λd=>match d with|.tup (a::_)=>a|_=>.non),filter_tt,YW]
  .rfl
  .intro d hd
   obtain⟨y,V,rfl⟩:=Y_.mp hd;obtain⟨Z,B,J,_⟩:=l_ y;obtain⟨I,D,q,_⟩:=An y;simp[dnD,tpT,aN,b_,tpN,aQ,eTT,aq,J,Z,B,I,D,au,aA]
 apply Wp.eq;simp_arith[bW,sEx,aF,aO,aG,uG,gf4,nD,Hm,Gw,S_,F,Cv,BL];omega
theorem vR(Y:s.dn.length<=1000):aX [skD .frz ns s]=some (.lst .own ((s.dn.filterMap jtO).map jD)):=by
 have V:gQ (tpT 2 (aN (tpN 0) (aN (tpN 1) b_))) (eB (e2 gEq (e2 gIx 1.16 (eC (.int 0))) (eC (.str "join")))) (eSl 1.16 (fu (eC (.int 1))) fJ) [none,none] (s.dn.map dnD)=some ((s.dn.filterMap jtO).map jD):=by
  rw[←Dl];have:∀l:List iH,gQ (tpT 2 (aN (tpN 0) (aN (tpN 1) b_))) (eB (e2 gEq (e2 gIx 1.16 (eC (.int 0))) (eC (.str "join")))) (eSl 1.16 (fu (eC (.int 1))) fJ) [none,none] (l.map dnD)=some ((l.filter isJ).map jnD):=by
   intro l
   induction l with
   |nil=>rfl
   |cons d r O=>
    obtain⟨Z,B,J,_⟩:=l_ d;obtain⟨I,D,q,_⟩:=An d;rw[YL,gQ,O];cases F:isJ d with
    |true=>simp[dnD,tpT,aN,b_,tpN,eB,isB,e2,eC,aq,eSl,fJ,fu,o_,J,Hv,F,eq_str,SN F,aaL]
    |false=>simp[dnD,tpT,aN,b_,tpN,eB,isB,e2,eC,aq,J,Hv,F,eq_str,aaL,show ¬(("weigh":Str)="join")by decide]
  exact this s.dn
 apply Wp.eq;simp_arith[aX,sEx,aF,aO,aG,uG,gf4,nD,Hm,Gw,S_];exact⟨by omega,FJ V ⟨⟨oh _,oE _⟩,rfl⟩⟩
theorem Rq(Y:s.dn.length<=1000):dB "Stack" "deeds" bW (skD .bro ns s) []=some (.lst .own (s.dn.map dcD)):=by
 simp![dB,uY (m:=.bro) (by decide) (show eV j_ "deeds"=none by decide),Zy,b8,fzL,J7,Ra Y,YF,bB,Tf];simp
theorem wF(Y:s.dn.length<=1000):dB "Stack" "standing" aX (skD .bro ns s) []=some (.lst .own ((s.dn.filterMap jtO).map jD)):=by
 simp![dB,uY (m:=.bro) (by decide) (show eV j_ "standing"=none by decide),Zy,b8,fzL,J7,vR Y,YF,bB,Te];simp
theorem Vp(F:x∈ns)(Y:ns.length<=20):∃q:List Int,q.length=vs.length/\fX (wD .own ns vs) [.str x,.int v]=some (wD .own ns q,.non):=by
 obtain⟨i,h1,_,h2⟩:=pZ F;refine⟨vs.set i v,by simp,?_⟩;simp![wD,fX,du,YF,gH,h1];rw[YZ (by simp;omega),List.map_set]
theorem XR(F:x∈ns)(Y:ns.length<=20)(B:vs.length=ns.length):∃q:List Int,q.length=vs.length/\yQ g (wD .own ns vs) [.str x,.int v]=some (wD .own ns q,.non):=by
 obtain⟨i,hi⟩:=Jz (m:=.own) B F;obtain⟨q,h1,h2⟩:=Vp (v:=g i v) (vs:=vs) F Y;refine⟨q,h1,?_⟩;unfold yQ;simp![wD]at hi h2⊢;simp![hi,YF,h2]
theorem X4(F:b.1∉bs.map (·.1))(Y:bs.length<=1000):fX (bD .own bs) [.str b.1,bvD b]=some (bD .own (bs++[b]),.non):=by
 have I:fB ((bs.map (·.1)).map Zj) (Zj b.1)=none:=by
  have:=kI (ys:=bs.map (·.1)) (x:=b.1);rw[Zn F]at this;cases h:fB ((bs.map (·.1)).map Zj) (Zj b.1)with
  |none=>rfl
  |some j=>rw[h]at this;cases this
 simp![bD,fX,du,YF,gH,I];rw[YZ (by simp;omega)];simp
theorem Bk.add(h:Bk ns bs)(h1:b.1∈ns)(h2:b.2.1∈ns)(B:b.1∉bs.map (·.1))(Z:b.2.1∉bs.map (·.1))(U:b.1≠b.2.1):Bk ns (bs++[b])where
 nd:=by
  rw[Zq];exact YX.mpr ⟨h.nd,by simp,λy hy z J=>by
   obtain rfl:z=b.1:=by simpa using J
   exact λe=>B (e▸hy)⟩
 ok:=λi c hi=>by
  rcases Nat.lt_or_ge i bs.length with Y|Y
  .rw[Zo Y]at hi
   obtain⟨q,O,D⟩:=h.ok i c hi;refine⟨q,O,λj e F V=>?_⟩;rcases Nat.lt_or_ge j bs.length with a0|a0
   .rw[Zo a0]at F
    exact D j e F V
   .omega
  .rw[aad Y]at hi
   obtain⟨a1,N⟩:i=bs.length/\b=c:=by
    cases I:i-bs.length with
    |zero=>rw[I]at hi;exact⟨by omega,by simpa using hi⟩
    |succ n=>rw[I]at hi;simp at hi
   subst N;refine⟨h1,h2,λj e F V=>?_⟩;exfalso;rcases YC.mp (Zv F)with z|z
   .exact Z (V▸Y_.mpr ⟨e,z,rfl⟩)
   .rw[ZM.mp z]at V;exact U V
def Hg(ns:List Str)(s:Sk)(x y:Str)(st:Int)(q:D×List D):Prop:=∃(b:Bh)(zs:List Int),q=(.str b.1,[skD .own ns {s with bs:=s.bs++[b],zs:=zs},.str x,.str y,.int st])/\zs.length=ns.length/\Bk ns (s.bs++[b])
theorem TX{st:Int}(h:Ok ns s)(F:x∈ns)(V:y∈ns)(hd:∀p1 l1 p2 l2,Ch ns s.bs x p1 l1->Ch ns s.bs y p2 l2->l1≠l2):Wp (dD [skD .own ns s,.str x,.str y,.int st]) (Hg ns s x y st):=by
 obtain⟨p1,l1,Z,O⟩:=vq h F;obtain⟨p2,l2,B,g2⟩:=vq h V;have q:=hd _ _ _ _ Z B;obtain⟨v1,N⟩:=Hn (m:=.brw) (.inl rfl) h Z;obtain⟨v2,I⟩:=Hn (m:=.brw) (.inl rfl) h B;have h1:=rE (pre:=p1) (l:=l1) (m:=.brw);have h2:=rE (pre:=p2) (l:=l2) (m:=.brw);have a0:=h.bl;simp_arith![dD,fnI];refine aZ (λρ=>ρ=[some (skD .own ns s),some (.str x),some (.str y),some (.int st),some (.lst .own ((p1++[l1]).map D.str)),some (.lst .own ((p2++[l2]).map D.str)),none,none,none]) 1.21 ?_
 .simp_arith[sEx,aF,aO,aG,mC,O,g2,cC,cB,-List.map_append]
  exact U _ rfl
 rintro _ rfl;refine aZ (λρ=>∃g:Int,ρ=[some (skD .own ns s),some (.str x),some (.str y),some (.int st),some (.lst .own ((p1++[l1]).map D.str)),some (.lst .own ((p2++[l2]).map D.str)),some (.int g),none,none]) 1.21 ?_
 .simp_arith[sEx,aF,aO,aG,mC,cA,N,I,fQ,jn,-List.map_append]
  exact U _ ⟨_,rfl⟩
 rintro _ ⟨g,rfl⟩;refine aZ (λρ=>ρ=[some (skD .own ns s),some (.str x),some (.str y),some (.int st),some (.lst .own ((p1++[l1]).map D.str)),some (.lst .own ((p2++[l2]).map D.str)),some (.int g),some (.str l1),some (.str l2)]) 1.21 ?_
 .simp_arith[sEx,aF,aO,aG,cA,iC,h1,h2,-List.map_append]
  exact U _ rfl
 rintro _ rfl;obtain⟨z1,i1⟩:=Jz (m:=.bro) h.z Z.2.1;obtain⟨J,i2⟩:=Jz (m:=.bro) h.z B.2.1;refine aZ (λρ=>∃b:Bh,ρ=[some (skD .own ns s),some (.str x),some (.str y),some (.int st),some (.lst .own ((p1++[l1]).map D.str)),some (.lst .own ((p2++[l2]).map D.str)),some (.int b.2.2),some (.str b.2.1),some (.str b.1)]/\b.1∈ns/\b.2.1∈ns/\b.1∉s.bs.map (·.1)/\b.2.1∉s.bs.map (·.1)/\b.1≠b.2.1) 1.21 ?_
 .simp_arith[sEx,aF,aO,aG,mC,gf3,i1,i2,gLt,iC,-List.map_append]
  split
  .exact U _ ⟨(l1,l2,-g),rfl,Z.2.1,B.2.1,Z.2.2.1,B.2.2.1,q⟩
  .exact U _ ⟨(l2,l1,g),rfl,B.2.1,Z.2.1,B.2.2.1,Z.2.2.1,q.symm⟩
 rintro _ ⟨b,rfl,b1,Y,b3,b4,b5⟩;refine aZ (λρ=>ρ=[some (skD .own ns {s with bs:=s.bs++[b]}),some (.str x),some (.str y),some (.int st),some (.lst .own ((p1++[l1]).map D.str)),some (.lst .own ((p2++[l2]).map D.str)),some (.int b.2.2),some (.str b.2.1),some (.str b.1)]) 1.21 ?_
 .have hp:=X4 b3 a0
  simp[aQ,iV,bJ,iu,w_ite,lR,dq,bZ,fV,sIf,m5,eO,iG,fO,eU,jw,nY,sFz,jW,gf,jA,tgN,tgT,aN,b_,iw,tpN,tpT,b7,mJ,aq,eC,aK,ak,eAp,eUp,lC,dG,ee2,fj,mO,e2,e1,eB,eeB,jt,ql,eOr,lV,nO,mq,eTT,isB,lr,itS,itE,nT,cX,gG,iB,eSl,uO,o_,mY,fJ,fu,eMt,uR,eIo,objs,ir,b8,clean,aD,aB,au,aA,bV,bY,view,cL,mkV,mkF,fz,fzL,fzo,fY,mkO,fnP,fnI,en0,outs,gP,eY,obC,truth,sEx,aF,aO,aG,bO,pf2,-List.map_append];rw[show D.tup [.str b.2.1,.int b.2.2]=bvD b from rfl,us2 ⟨rfl,rfl⟩ hp,aQ];exact U _ rfl
 rintro _ rfl;obtain⟨z3,i3⟩:=Jz (m:=.bro) h.z b1;obtain⟨zs,q1,q2⟩:=XR (g:=λi j=>i+j) (vs:=s.zs) (v:=z3) Y h.l h.z;refine aZ (λρ=>ρ=[some (skD .own ns {s with bs:=s.bs++[b],zs:=zs}),some (.str x),some (.str y),some (.int st),some (.lst .own ((p1++[l1]).map D.str)),some (.lst .own ((p2++[l2]).map D.str)),some (.int b.2.2),some (.str b.2.1),some (.str b.1)]) 1.21 ?_
 .simp[aQ,iV,bJ,iu,w_ite,lR,dq,bZ,fV,sIf,m5,eO,iG,fO,eU,jw,nY,sFz,jW,gf,jA,tgN,tgT,aN,b_,iw,tpN,tpT,b7,mJ,aq,eC,aK,ak,eAp,eUp,lC,dG,ee2,fj,mO,e2,e1,eB,eeB,jt,ql,eOr,lV,nO,mq,eTT,isB,lr,itS,itE,nT,cX,gG,iB,eSl,uO,o_,mY,fJ,fu,eMt,uR,eIo,objs,ir,b8,clean,aD,aB,au,aA,bV,bY,view,cL,mkV,mkF,fz,fzL,fzo,fY,mkO,fnP,fnI,en0,outs,gP,eY,obC,truth,sEx,aF,aO,aG,wz,pf3,mC,gf3,i3,-List.map_append]
  rw[us3 (s:={s with bs:=s.bs++[b]}) ⟨rfl,rfl⟩ q2,aQ];exact U _ rfl
 rintro _ rfl;simp_arith[sEx,aF,aO,aG];exact⟨b,zs,rfl,by rw[q1];exact h.z,h.b.add b1 Y b3 b4 b5⟩
def Jn(ns:List Str)(s:Sk)(x y:Str)(st:Int)(q:D×List D):Prop:=(∃(v lk:Int),q=(.tup [.str "clash",.int v],[skD .own ns {s with lk:=lk},.str x,.str y,.int st]))∨∃(w:Str)(k:Int)(h:Option Str)(s':Sk),q=(.tup [.str w,.int k],[skD .own ns s',.str x,.str y,.int st])/\w≠"clash"/\s'.dn=s.dn++[.join x y st h]/\Ok ns s'
theorem T9{st:Int}(h:Ok ns s)(F:x∈ns)(V:y∈ns)(N:s.dn.length<1000):Wp (dw [skD .own ns s,.str x,.str y,.int st]) (Jn ns s x y st):=by
 simp_arith![dw,fnI];refine aZ (λρ=>∃(r:Option Int)(lk:Int),ρ=[some (skD .own ns {s with lk:=lk}),some (.str x),some (.str y),some (.int st),some (rO r),none,none]/\(r=none->∀p1 l1 p2 l2,Ch ns s.bs x p1 l1->Ch ns s.bs y p2 l2->l1≠l2)) (λQ hQ=>?_) ?_
 .simp_arith[sEx,aF,aO,aG,qg,uY (m:=.own) (by decide) (show eV j_ "steps"=none by decide),fzL,fz]
  refine Wp.mono (QH h F V) ?_;rintro _ ⟨r,lk,rfl,O⟩;have:aD (rO r)=true/\aB (rO r)=true:=by cases r<;>exact⟨rfl,rfl⟩
  simp_arith[sEx,aF,aO,aG,this];exact hQ _ ⟨r,lk,rfl,O⟩
 rintro _ ⟨r,lk,rfl,O⟩;have h':Ok ns {s with lk:=lk}:=⟨h.w,h.z,h.b,h.d,h.n,h.t,h.l,h.m⟩;obtain⟨Y,a1⟩:=K1 (v:=st) h.t;have a7:aD (rO r)=true/\aB (rO r)=true/\(∀b,view b (rO r)=rO r):=by cases r<;>exact⟨rfl,rfl,λ_=>rfl⟩
 by_cases a0:∃v,r=some v/\v≠Y
 .obtain⟨v,rfl,B⟩:=a0
  rw[lR];have ni:gNe (.int v) (.int Y)=some (.bl (!decide (v=Y))):=by
   unfold gNe;rw[YZ ⟨rfl,rfl,.sc (.int v Y)⟩];simp![dt,eqD,abd,D.bl.injEq];rw[abW];simp
  simp_arith[sEx,aF,aO,aG,rO,nM,iJ,mC,gf0,a1,bB,ni,B,bO];exact .inl ⟨v,lk,rfl⟩
 have a0:r=none∨r=some Y:=by
  cases r with
  |none=>exact .inl rfl
  |some v=>exact .inr (by by_cases B:v=Y;rw[B];exact absurd ⟨v,rfl,B⟩ a0)
 refine aZ (λρ=>ρ=[some (skD .own ns {s with lk:=lk}),some (.str x),some (.str y),some (.int st),some (rO r),none,none]) (λQ hQ=>?_) ?_
 .rcases a0 with rfl|rfl
  .simp_arith[sEx,aF,aO,aG,rO,nM,iJ]
   exact hQ _ rfl
  .have ni:gNe (.int Y) (.int Y)=some (.bl false):=by
    unfold gNe;rw[YZ ⟨rfl,rfl,.sc (.int Y Y)⟩];simp[dt,eqD]
   simp_arith[sEx,aF,aO,aG,rO,nM,iJ,mC,gf0,a1,bB,ni];exact hQ _ rfl
 rintro _ rfl;refine aZ (λρ=>∃k:Int,ρ=[some (skD .own ns {s with lk:=lk}),some (.str x),some (.str y),some (.int st),some (rO r),some (.int k),none]) (λQ hQ=>?_) ?_
 .simp_arith[sEx,aF,aO,aG,mC,wF h'.m,eG]
  exact hQ _ ⟨_,rfl⟩
 rintro _ ⟨k,rfl⟩;refine aZ (λρ=>∃(q:Option Str)(s':Sk),ρ=[some (skD .own ns s'),some (.str x),some (.str y),some (.int st),some (rO r),some (.int k),some (ktD (.join x y st q))]/\s'.dn=s.dn/\s'.ws.length=ns.length/\s'.zs.length=ns.length/\Bk ns s'.bs/\s'.t=s.t/\s'.bs.map (·.1)=s.bs.map (·.1)++q.toList) (λQ hQ=>?_) ?_
 .cases r with
  |none=>
   simp_arith[sEx,aF,aO,aG,rO,gIs,iJ,qg,uY (m:=.own) (by decide) (show eV j_ "hang"=none by decide)];refine Wp.mono (TX h' F V (O rfl)) ?_;rintro _ ⟨b,zs,rfl,J,U⟩;simp_arith[sEx,aF,aO,aG];exact hQ _ ⟨some b.1,_,rfl,rfl,h.w,J,U,rfl,by simp⟩
  |some v=>
   simp_arith[sEx,aF,aO,aG,rO,gIs,iJ];exact hQ _ ⟨none,_,rfl,rfl,h.w,h.z,h.b,rfl,by simp⟩
 rintro _ ⟨q,s',rfl,I,a5,a3,a4,a6,a2⟩;refine aZ (λρ=>ρ=[some (skD .own ns {s' with dn:=s'.dn++[.join x y st q]}),some (.str x),some (.str y),some (.int st),some (rO r),some (.int k),some (ktD (.join x y st q))]) (λQ hQ=>?_) ?_
 .have hkt:=An (.join x y st q)
  have Z:aW (nD .own s'.dn) [dnD (.join x y st q)]=some (nD .own (s'.dn++[.join x y st q]),.non):=by
   simp![nD,aW,Zc];rw[YZ (by rw[I];omega),Zq];rfl
  simp[aQ,iV,bJ,iu,w_ite,lR,dq,bZ,fV,sIf,m5,eO,iG,fO,eU,jw,nY,sFz,jW,gf,jA,tgN,tgT,aN,b_,iw,tpN,tpT,b7,mJ,aq,eC,aK,ak,eAp,eUp,lC,dG,ee2,fj,mO,e2,e1,eB,eeB,jt,ql,eOr,lV,nO,mq,eTT,isB,lr,itS,itE,nT,cX,gG,iB,eSl,uO,o_,mY,fJ,fu,eMt,uR,eIo,objs,ir,b8,clean,aD,aB,au,aA,bV,bY,view,cL,mkV,mkF,fz,fzL,fzo,fY,mkO,fnP,fnI,en0,outs,gP,eY,obC,truth,sEx,aF,aO,aG,bO,pf4,hkt];rw[show D.tup [.tup [.str "join",.str x,.str y,.int st],ktD (.join x y st q)]=dnD (.join x y st q)from rfl,us4 ⟨by simp[au,(qP _).1],by simp[aA,(qP _).2.1]⟩ Z,aQ];exact hQ _ rfl
 rintro _ rfl;have hO:Ok ns {s' with dn:=s'.dn++[.join x y st q]}:=by
  refine⟨a5,a3,a4,?_,λd hd=>?_,by rw[show(Sk.t _)=s'.t from rfl,a6];exact h.t,h.l,by simp[I];omega⟩
  .simp![aeP,I,h.d,a2]
   cases q<;>rfl
  .rcases YC.mp hd with z|z
   .exact h.n d (I▸z)
   .rw[ZM.mp z];exact⟨F,V⟩
 cases r with
 |none=>
  simp_arith[sEx,aF,aO,aG,rO,gIs,iJ,bO];exact .inr ⟨"joined",k,q,_,rfl,by decide,by simp[I],hO⟩
 |some v=>
  simp_arith[sEx,aF,aO,aG,rO,gIs,iJ,bO];exact .inr ⟨"known",k,q,_,rfl,by decide,by simp[I],hO⟩
theorem Bk.front(h:Bk ns (bs++[b])):Bk ns bs where
 nd:=by have:=h.nd;rw[Zq]at this;exact(YX.mp this).1
 ok:=λi c hi=>by
  have Y:=(List.getElem?_eq_some_iff.mp hi).1;obtain⟨q,O,D⟩:=h.ok i c (by rw[Zo Y];exact hi);refine⟨q,O,λj e F V=>D j e ?_ V⟩;rw[Zo (List.getElem?_eq_some_iff.mp F).1];exact F
theorem Yg(nd:((bs++[b]).map (·.1)).Nodup):yc (bD .own (bs++[b])) [.str b.1]=some (bD .own bs,.non):=by
 have hi:(bs++[b])[bs.length]? =some b:=by simp
 have I:=Ka nd (i:=bs.length) (x:=b.1) (by rw[List.getElem?_map,hi];rfl);simp![bD,yc,du,YF,I];rw[YZ (by simp)];have e1:(((bs++[b]).map (·.1)).map (Zj:Str->Key)).eraseIdx bs.length=(bs.map (·.1)).map Zj:=by
  rw[Zq,Zq,aaZ (by simp)];simp
 have e2:((bs++[b]).map bvD).eraseIdx bs.length=bs.map bvD:=by
  rw[Zq,aaZ (by simp)];simp
 rw[e1,e2]
def Uh(ns:List Str)(s:Sk)(bs:List Bh)(x:Str)(q:D×List D):Prop:=∃zs:List Int,q=(.non,[skD .own ns {s with bs:=bs,zs:=zs},.str x])/\zs.length=ns.length
theorem Ku(U:Bk ns (bs++[b]))(B:s.bs=bs++[b])(J:s.zs.length=ns.length)(Y:ns.length<=20):Wp (cO [skD .own ns s,.str b.1]) (Uh ns s bs b.1):=by
 have hi:(bs++[b])[bs.length]? =some b:=by simp
 obtain⟨q,O,_⟩:=U.ok _ _ hi;have F:=VG (m:=.bro) U.nd hi;obtain⟨z,i1⟩:=Jz (m:=.bro) J q;obtain⟨zs,q1,q2⟩:=XR (g:=λi j=>i-j) (vs:=s.zs) (v:=z) O Y J;simp_arith![cO,fnI];refine aZ (λρ=>ρ=[some (skD .own ns s),some (.str b.1),some (.str b.2.1),some (.int b.2.2)]) (λQ D=>?_) ?_
 .simp_arith[sEx,aF,aO,aG,mC,gf2,B,F,bvD]
  exact D _ rfl
 rintro _ rfl;refine aZ (λρ=>ρ=[some (skD .own ns {s with zs:=zs}),some (.str b.1),some (.str b.2.1),some (.int b.2.2)]) (λQ D=>?_) ?_
 .simp[aQ,iV,bJ,iu,w_ite,lR,dq,bZ,fV,sIf,m5,eO,iG,fO,eU,jw,nY,sFz,jW,gf,jA,tgN,tgT,aN,b_,iw,tpN,tpT,b7,mJ,aq,eC,aK,ak,eAp,eUp,lC,dG,ee2,fj,mO,e2,e1,eB,eeB,jt,ql,eOr,lV,nO,mq,eTT,isB,lr,itS,itE,nT,cX,gG,iB,eSl,uO,o_,mY,fJ,fu,eMt,uR,eIo,objs,ir,b8,clean,aD,aB,au,aA,bV,bY,view,cL,mkV,mkF,fz,fzL,fzo,fY,mkO,fnP,fnI,en0,outs,gP,eY,obC,truth,sEx,aF,aO,aG,wz,pf3,mC,gf3,i1]
  rw[us3 ⟨rfl,rfl⟩ q2,aQ];exact D _ rfl
 rintro _ rfl;have hd:=Yg U.nd;rw[←B]at hd;simp[aQ,iV,bJ,iu,w_ite,lR,dq,bZ,fV,sIf,m5,eO,iG,fO,eU,jw,nY,sFz,jW,gf,jA,tgN,tgT,aN,b_,iw,tpN,tpT,b7,mJ,aq,eC,aK,ak,eAp,eUp,lC,dG,ee2,fj,mO,e2,e1,eB,eeB,jt,ql,eOr,lV,nO,mq,eTT,isB,lr,itS,itE,nT,cX,gG,iB,eSl,uO,o_,mY,fJ,fu,eMt,uR,eIo,objs,ir,b8,clean,aD,aB,au,aA,bV,bY,view,cL,mkV,mkF,fz,fzL,fzo,fY,mkO,fnP,fnI,en0,outs,gP,eY,obC,truth,sEx,aF,aO,aG,Mm,pf2];rw[us2 (s:={s with zs:=zs}) ⟨rfl,rfl⟩ hd,aQ];simp_arith[sEx,aF,aO,aG];exact⟨zs,rfl,by rw[q1];exact J⟩
def Bc(ns:List Str)(s:Sk)(q:D×List D):Prop:=∃(v:D)(s':Sk),q=(v,[skD .own ns s'])/\s'.dn=s.dn.dropLast/\Ok ns s'
theorem Ok.back{s':Sk}(h:Ok ns s)(hd:s.dn=s'.dn++[d])(B:s'.ws.length=ns.length)(J:s'.zs.length=ns.length)(U:Bk ns s'.bs)(q:s'.t=s.t)(V:s'.dn.filterMap hgO=s'.bs.map (·.1)):Ok ns s':=
 ⟨B,J,U,V,λe V=>h.n e (by rw[hd];simp[V]),by rw[q];exact h.t,h.l,by have:=h.m;rw[hd]at this;simp at this;omega⟩
theorem T_(h:Ok ns s):Wp (cH [skD .own ns s]) (Bc ns s):=by
 rcases ac_ s.dn with hn|⟨dn,d,hd⟩
 .simp_arith[cH,sEx,aF,aO,aG,mC,gf4,nD,hn,eG,eq_int]
  exact⟨.non,s,rfl,by simp[hn],h⟩
 .rw[ada]at hd
  simp_arith![cH,fnI];refine aZ (λρ=>ρ=[some (skD .own ns s),none,none]) 1.21 ?_
  .simp_arith[sEx,aF,aO,aG,mC,gf4,nD,hd,eG,eq_int]
   split
   .omega
   .exact U _ rfl
  rintro _ rfl;obtain⟨Z,B,c3,_⟩:=l_ d;obtain⟨I,D,k3,_⟩:=An d;refine aZ (λρ=>ρ=[some (skD .own ns {s with dn:=dn}),some (dcD d),some (ktD d)]) 1.21 ?_
  .have hop:vP (nD .own s.dn) []=some (nD .own dn,dnD d):=by
    simp[nD,vP,hd]
   simp[aQ,iV,bJ,iu,w_ite,lR,dq,bZ,fV,sIf,m5,eO,iG,fO,eU,jw,nY,sFz,jW,gf,jA,tgN,tgT,aN,b_,iw,tpN,tpT,b7,mJ,aq,eC,aK,ak,eAp,eUp,lC,dG,ee2,fj,mO,e2,e1,eB,eeB,jt,ql,eOr,lV,nO,mq,eTT,isB,lr,itS,itE,nT,cX,gG,iB,eSl,uO,o_,mY,fJ,fu,eMt,uR,eIo,objs,ir,b8,clean,aD,aB,au,aA,bV,bY,view,cL,mkV,mkF,fz,fzL,fzo,fY,mkO,fnP,fnI,en0,outs,gP,eY,obC,truth,sEx,aF,aO,aG,jA,pf4];rw[us4 ⟨rfl,rfl⟩ hop,aQ];simp_arith[sEx,aF,aO,aG,dnD,Z,B,I,D];exact U _ rfl
  rintro _ rfl;have O:=h.d;rw[hd,aeP]at O;have V:∀s':Sk,s'.dn=dn->Ok ns s'->Bc ns s (dcD d,[skD .own ns s']):=λs' e o=>⟨_,s',rfl,by rw[e,hd];simp,o⟩;cases d with
  |weigh a n o=>
   have Y:a∈ns:=h.n (.weigh a n o) (by rw[hd];simp);obtain⟨vs,q1,q2⟩:=Vp (vs:=s.ws) (v:=o) Y h.l;have F:Ok ns {s with dn:=dn,ws:=vs}:=h.back (s':={s with dn:=dn,ws:=vs}) hd (by rw[q1];exact h.w) h.z h.b rfl (by simpa[hgO,aaG]using O);refine aZ (λρ=>ρ=[some (skD .own ns {s with dn:=dn,ws:=vs}),some (dcD (.weigh a n o)),some (ktD (.weigh a n o))]) 1.21 ?_
   .simp[aQ,iV,bJ,iu,w_ite,lR,dq,bZ,fV,sIf,m5,eO,iG,fO,eU,jw,nY,sFz,jW,gf,jA,tgN,tgT,aN,b_,iw,tpN,tpT,b7,mJ,aq,eC,aK,ak,eAp,eUp,lC,dG,ee2,fj,mO,e2,e1,eB,eeB,jt,ql,eOr,lV,nO,mq,eTT,isB,lr,itS,itE,nT,cX,gG,iB,eSl,uO,o_,mY,fJ,fu,eMt,uR,eIo,objs,ir,b8,clean,aD,aB,au,aA,bV,bY,view,cL,mkV,mkF,fz,fzL,fzo,fY,mkO,fnP,fnI,en0,outs,gP,eY,obC,truth,sEx,aF,aO,aG,dcD,ktD,gIx,atI,ixN,eq_str,pf1]
    rw[us1 (s:={s with dn:=dn}) ⟨rfl,rfl⟩ q2,aQ];exact U _ rfl
   rintro _ rfl;simp_arith[sEx,aF,aO,aG,dcD];exact V _ rfl F
  |join a b st q=>
   cases q with
   |none=>
    have F:Ok ns {s with dn:=dn}:=h.back (s':={s with dn:=dn}) hd h.w h.z h.b rfl (by simpa[hgO,aaG]using O);refine aZ (λρ=>ρ=[some (skD .own ns {s with dn:=dn}),some (dcD (.join a b st none)),some (ktD (.join a b st none))]) 1.21 ?_
    .simp[aQ,iV,bJ,iu,w_ite,lR,dq,bZ,fV,sIf,m5,eO,iG,fO,eU,jw,nY,sFz,jW,gf,jA,tgN,tgT,aN,b_,iw,tpN,tpT,b7,mJ,aq,eC,aK,ak,eAp,eUp,lC,dG,ee2,fj,mO,e2,e1,eB,eeB,jt,ql,eOr,lV,nO,mq,eTT,isB,lr,itS,itE,nT,cX,gG,iB,eSl,uO,o_,mY,fJ,fu,eMt,uR,eIo,objs,ir,b8,clean,aD,aB,au,aA,bV,bY,view,cL,mkV,mkF,fz,fzL,fzo,fY,mkO,fnP,fnI,en0,outs,gP,eY,obC,truth,sEx,aF,aO,aG,dcD,ktD,gIx,atI,ixN,eq_str,nM,iJ]
     rw[Zi (by decide)];exact U _ rfl
    rintro _ rfl;simp_arith[sEx,aF,aO,aG,dcD];exact V _ rfl F
   |some x=>
    have a0:dn.filterMap hgO++[x]=s.bs.map (·.1):=by simpa[hgO,aaG]using O
    rcases ac_ s.bs with a2|⟨bs,bh,a1⟩
    .rw[a2]at a0;simp at a0
    rw[ada]at a1;rw[a1,Zq]at a0;obtain⟨N,f2⟩:=aeb a0 rfl;obtain rfl:x=bh.1:=by simpa using f2
    have hB:Bk ns (bs++[bh]):=a1▸h.b;refine aZ (λρ=>∃zs:List Int,zs.length=ns.length/\ρ=[some (skD .own ns {s with dn:=dn,bs:=bs,zs:=zs}),some (dcD (.join a b st (some bh.1))),some (ktD (.join a b st (some bh.1)))]) 1.21 ?_
    .simp[aQ,iV,bJ,iu,w_ite,lR,dq,bZ,fV,sIf,m5,eO,iG,fO,eU,jw,nY,sFz,jW,gf,jA,tgN,tgT,aN,b_,iw,tpN,tpT,b7,mJ,aq,eC,aK,ak,eAp,eUp,lC,dG,ee2,fj,mO,e2,e1,eB,eeB,jt,ql,eOr,lV,nO,mq,eTT,isB,lr,itS,itE,nT,cX,gG,iB,eSl,uO,o_,mY,fJ,fu,eMt,uR,eIo,objs,ir,b8,clean,aD,aB,au,aA,bV,bY,view,cL,mkV,mkF,fz,fzL,fzo,fY,mkO,fnP,fnI,en0,outs,gP,eY,obC,truth,sEx,aF,aO,aG,dcD,ktD,gIx,atI,ixN,eq_str,nM,iJ,qg,uY (m:=.own) (by decide) (show eV j_ "unhang"=none by decide)]
     rw[Zi (by decide)];refine Wp.mono (Ku (s:={s with dn:=dn}) hB a1 h.z h.l) ?_;rintro _ ⟨zs,rfl,J⟩;simp_arith[sEx,aF,aO,aG];exact U _ ⟨zs,J,rfl⟩
    rintro _ ⟨zs,J,rfl⟩;have F:Ok ns {s with dn:=dn,bs:=bs,zs:=zs}:=h.back (s':={s with dn:=dn,bs:=bs,zs:=zs}) hd h.w J hB.front rfl N;simp_arith[sEx,aF,aO,aG,dcD];exact V _ rfl F
def Wg(ns:List Str)(s:Sk)(a:Str)(n:Int)(q:D×List D):Prop:=∃(v:D)(o:Int)(s':Sk),q=(v,[skD .own ns s',.str a,.int n])/\s'.dn=s.dn++[.weigh a n o]/\Ok ns s'
theorem QD{a:Str}{n:Int}(h:Ok ns s)(Y:a∈ns)(N:s.dn.length<1000):Wp (dh [skD .own ns s,.str a,.int n]) (Wg ns s a n):=by
 simp_arith![dh,fnI];refine aZ (λρ=>ρ=[some (skD .own ns s),some (.str a),some (.int n)]) 1.21 ?_
 .simp_arith[sEx,aF,aO,aG,mC,gf1,Qy,RV Y,bB]
  exact U _ rfl
 rintro _ rfl;obtain⟨o,i1⟩:=Jz (m:=.bro) h.w Y;refine aZ (λρ=>ρ=[some (skD .own ns {s with dn:=s.dn++[.weigh a n o]}),some (.str a),some (.int n)]) 1.21 ?_
 .have hop:aW (nD .own s.dn) [dnD (.weigh a n o)]=some (nD .own (s.dn++[.weigh a n o]),.non):=by
   simp![nD,aW,Zc];rw[YZ 1.11,Zq];rfl
  simp[aQ,iV,bJ,iu,w_ite,lR,dq,bZ,fV,sIf,m5,eO,iG,fO,eU,jw,nY,sFz,jW,gf,jA,tgN,tgT,aN,b_,iw,tpN,tpT,b7,mJ,aq,eC,aK,ak,eAp,eUp,lC,dG,ee2,fj,mO,e2,e1,eB,eeB,jt,ql,eOr,lV,nO,mq,eTT,isB,lr,itS,itE,nT,cX,gG,iB,eSl,uO,o_,mY,fJ,fu,eMt,uR,eIo,objs,ir,b8,clean,aD,aB,au,aA,bV,bY,view,cL,mkV,mkF,fz,fzL,fzo,fY,mkO,fnP,fnI,en0,outs,gP,eY,obC,truth,sEx,aF,aO,aG,bO,pf4,mC,gf1,i1];rw[show D.tup [.tup [.str "weigh",.str a,.int n],.int o]=dnD (.weigh a n o)from rfl,us4 ⟨rfl,rfl⟩ hop,aQ];exact U _ rfl
 rintro _ rfl;obtain⟨vs,q1,q2⟩:=Vp (vs:=s.ws) (v:=n) Y h.l;simp[aQ,iV,bJ,iu,w_ite,lR,dq,bZ,fV,sIf,m5,eO,iG,fO,eU,jw,nY,sFz,jW,gf,jA,tgN,tgT,aN,b_,iw,tpN,tpT,b7,mJ,aq,eC,aK,ak,eAp,eUp,lC,dG,ee2,fj,mO,e2,e1,eB,eeB,jt,ql,eOr,lV,nO,mq,eTT,isB,lr,itS,itE,nT,cX,gG,iB,eSl,uO,o_,mY,fJ,fu,eMt,uR,eIo,objs,ir,b8,clean,aD,aB,au,aA,bV,bY,view,cL,mkV,mkF,fz,fzL,fzo,fY,mkO,fnP,fnI,en0,outs,gP,eY,obC,truth,sEx,aF,aO,aG,pf1];rw[us1 (s:={s with dn:=s.dn++[.weigh a n o]}) ⟨rfl,rfl⟩ q2,aQ];simp_arith[sEx,aF,aO,aG];refine⟨.non,o,_,rfl,rfl,by rw[show(Sk.ws _)=vs from rfl,q1];exact h.w,h.z,h.b,?_,λd hd=>?_,h.t,h.l,by simp;omega⟩
 .simpa[hgO,aaG]using h.d
 .rcases YC.mp hd with z|z
  .exact h.n d z
  .rw[ZM.mp z];exact Y
def Pl(e:D):Prop:=fz e=e/\fzo e=e/\(∀b,view b e=e)/\aD e=true/\aB e=true
theorem oR{f:D->D}(h:∀e∈ds,f e=e):ds.map f=ds:=by
 conv=>rhs;rw[←aez ds]
 exact ZD h
theorem Pl.ofL(h:∀e∈ds,Pl e):fzL ds=ds/\fY ds=ds/\(∀b,cL b ds=ds)/\au ds=true/\aA ds=true:=
 ⟨by rw[g_,oR λe V=>(h e V).1],by rw[iI,oR λe V=>(h e V).2.1],λb=>by rw[cN,oR λe V=>(h e V).2.2.1 b],bI λe V=>(h e V).2.2.2.1,bG λe V=>(h e V).2.2.2.2⟩
theorem SX{a b:Bool}:gNe (.bl a) (.bl b)=some (.bl (!(a==b))):=by
 unfold gNe;rw[YZ ⟨rfl,rfl,.sc (.bl a b)⟩];simp[dt,eqD]
theorem Yl:bQ [.lst .frz es,.tup [.ty "list",.ty "tuple"]]=some (.bl true)/\bQ [.lst .frz es,.ty "list"]=some (.bl true)/\bQ [.lst .frz es,.ty "tuple"]=some (.bl false)/\bQ [.lst .frz es,.ty "bool"]=some (.bl false)/\gIs (.lst .frz es) .non=some (.bl false):=⟨rfl,rfl,rfl,rfl,rfl⟩
theorem X6:bQ [.tup es,.tup [.ty "list",.ty "tuple"]]=some (.bl true)/\bQ [.tup es,.ty "list"]=some (.bl false)/\bQ [.tup es,.ty "tuple"]=some (.bl true)/\bQ [.tup es,.ty "bool"]=some (.bl false)/\gIs (.tup es) .non=some (.bl false):=⟨rfl,rfl,rfl,rfl,rfl⟩
theorem Yv:bQ [.str x,.tup [.ty "list",.ty "tuple"]]=some (.bl false)/\bQ [.str x,.ty "str"]=some (.bl true)/\bQ [.str x,.ty "bool"]=some (.bl false)/\gIs (.str x) .non=some (.bl false):=⟨rfl,rfl,rfl,rfl⟩
theorem Yu{x:Int}:bQ [.int x,.tup [.ty "list",.ty "tuple"]]=some (.bl false)/\bQ [.int x,.ty "str"]=some (.bl false)/\bQ [.int x,.ty "int"]=some (.bl true)/\bQ [.int x,.ty "bool"]=some (.bl false)/\gIs (.int x) .non=some (.bl false):=⟨rfl,rfl,rfl,rfl,rfl⟩
theorem Vw{Fr:List D->Option D}:aU Fr [.str x,.str x]=some (.bl true):=by
 apply Wp.eq;simp_arith[aU,sEx,aF,aO,aG,bO,Yv,eq_str]
theorem VF{Fr:List D->Option D}{x:Int}:aU Fr [.int x,.int x]=some (.bl true):=by
 apply Wp.eq;simp_arith[aU,sEx,aF,aO,aG,bO,Yu,eq_int,Jc]
theorem tL:∀es:List D,zO es es=es.map λe=>.tup [e,e]
 |[]=>rfl
 |e::r=>by have:=tL r;unfold zO at this⊢;simp[this]
theorem Fq{Fr:List D->Option D}:∀{es:List D},(∀e∈es,Pl e/\Fr [e,e]=some (.bl true))->gQ (tpT 2 (aN (tpN 0) (aN (tpN 1) b_))) eTT (eAp (b8 Fr) (ak 1.16 (ak 1.19 aK))) [none,none] (es.map λe=>.tup [e,e])=some (es.map λ_=>.bl true)
 |[],_=>rfl
 |e::r,h=>by
  obtain⟨⟨N,I,J,V,q⟩,h2⟩:=h e (by simp);rw[YL,gQ,Fq λx F=>h x (by simp[F])];simp[tpT,aN,tpN,b_,eTT,eAp,b8,ak,aK,aq,J,fzL,N,h2,au,aA,V,q,clean,aD,aB]
theorem KJ:∀l:List D,HJ [.lst .own (l.map λ_=>D.bl true)]=some (.bl true):=λl=>by
 have h:∀l:List D,DX (l.map λ_=>.bl true)=some (l.map λ_=>true):=λl=>by induction l<;>simp_all [DX]
 simp[HJ,h]
theorem TQ{Fr:List D->Option D}(h:∀e∈es,Pl e/\Fr [e,e]=some (.bl true))(Y:es.length<=1000):aU Fr [.lst .frz es,.lst .frz es]=some (.bl true):=by
 obtain⟨O,B,F,q,I⟩:=Pl.ofL λe V=>(h e V).1;have J:=Fq h;apply Wp.eq;simp_arith[aU,sEx,aF,aO,aG,bO,eG,Yl,eq_int,SX,Jk,itZ,FQ,B,F,q,I,tL,J];refine⟨by omega,?_⟩;rw[KJ es,aQ];simp[aD,aB]
theorem Tq{Fr:List D->Option D}(h:∀e∈es,Pl e/\Fr [e,e]=some (.bl true))(Y:es.length<=1000):aU Fr [.tup es,.tup es]=some (.bl true):=by
 obtain⟨O,B,F,q,I⟩:=Pl.ofL λe V=>(h e V).1;have J:=Fq h;apply Wp.eq;simp_arith[aU,sEx,aF,aO,aG,bO,eG,X6,eq_int,SX,Jk,O,B,F,q,I,tL,J];refine⟨by omega,?_⟩;rw[KJ es,aQ];simp[aD,aB]
theorem Yn:Pl (.str x):=⟨rfl,rfl,λ_=>rfl,rfl,rfl⟩
theorem Yx{x:Int}:Pl (.int x):=⟨rfl,rfl,λ_=>rfl,rfl,rfl⟩
theorem Nb(h:∀e∈es,∃J:List D,e= .tup J/\J.length<=4/\∀a∈J,(∃x,a= .str x)∨∃i,a= .int i)(U:es.length<=1000):cR [.lst .frz es,.lst .frz es]=some (.bl true):=by
 refine TQ (λe V=>?_) U;obtain⟨J,rfl,h1,h2⟩:=h e V;have N:∀a∈J,Pl a:=λa Y=>by rcases h2 a Y with⟨x,rfl⟩|⟨i,rfl⟩;exact Yn;exact Yx
 obtain⟨O,B,F,q,I⟩:=Pl.ofL N;refine⟨⟨by rw[fz,O],by rw[fzo,B],λb=>by rw[view,F],by rw[aD,q],by rw[aB,I]⟩,Tq (λa Y=>⟨N a Y,?_⟩) 1.11⟩;rcases h2 a Y with⟨x,rfl⟩|⟨i,rfl⟩
 .exact Vw
 .exact VF
theorem Wv(l:List iH):fzL (l.map dcD)=l.map dcD:=by rw[g_,YW];exact ZD λd _=>(l_ d).2.2.2.1
theorem K3(b:Bool)(l:List iH):cL b (l.map dcD)=l.map dcD:=by rw[cN,YW];exact ZD λd _=>(l_ d).2.2.1 b
theorem XQ(l:List iH):fY (l.map dcD)=l.map dcD:=by rw[iI,YW];exact ZD λd _=>(l_ d).2.2.2.2.1
theorem Pb{l:List iH}(h:l.length<=1000):cR [.lst .frz (l.map dcD),.lst .frz (l.map dcD)]=some (.bl true):=Nb (λe V=>by
 obtain⟨d,_,rfl⟩:=Y_.mp V;cases d with
 |join a b s h=>exact⟨_,rfl,by simp,by simp⟩
 |weigh a n o=>exact⟨_,rfl,by simp,by simp⟩) (by simpa using h)
theorem Q7{l:List Jt}(h:l.length<=1000):cR [.lst .frz (l.map jD),.lst .frz (l.map jD)]=some (.bl true):=Nb (λe V=>by
 obtain⟨d,_,rfl⟩:=Y_.mp V;exact⟨_,rfl,by simp,by simp⟩) (by simpa using h)
theorem Wo(ns:List Str)(s:Sk):fz (skD .frz ns s)=skD .frz ns s:=by simp[skD,wD,bD,nD,fz,fzL,vh,S9,Sq,mkF]
theorem Wi(ns:List Str)(s:Sk):aD (skD .frz ns s)=true/\aB (skD .frz ns s)=true:=by simp[skD,wD,bD,nD,aD,aB,au,aA,rR,rQ,Sx,R8,Hm,Gw]
theorem Sg:∀I:List (List Str),bA (I.map (fL .own))=true
 |[]=>rfl
 |r::t=>by
  have J:∀l:List Str,bA (l.map D.str)=true:=λl=>by induction l<;>simp_all [bA,bB]
  rw[YL,bA,Sg t];simp[fL,bB,J]
theorem T8(h:Ok ns s)(nd:ns.Nodup):∃I:List (List Str),dB "Stack" "all_classes" bc (skD .bro ns s) []=some (.lst .own (I.map (fL .own)))/\I.length<=ns.length:=by
 have Y:=h.l;obtain⟨_,e,I,rfl,O⟩:=W0 (N:=.lst .frz (ns.map D.str)) (J:=.lst .frz ((s.dn.filterMap jtO).map jD)) (ns:=ns) (js:=s.dn.filterMap jtO) (NS.lst 1.11) (JJ.lst _) nd (λj F=>by
  obtain⟨d,hd,e⟩:=aco.mp F;have:=h.n d hd;cases d with
  |join a b st g=>cases e;exact this
  |weigh a n o=>cases e) 1.11 (aau (acw _ _) h.m)
 refine⟨I,?_,O⟩;have B:wN [wD .frz ns s.ws]=some (.lst .own (ns.map D.str)):=by
  simp![wN,wD,Zc];rw[YZ 1.11,YW];rfl
 have V:=vR (ns:=ns) h.m;have q:bc [skD .frz ns s]=some (.lst .own (I.map (fL .own))):=by
  apply Wp.eq;simp_arith[bc,sEx,aF,aO,aG,uG,Wo,Wi,gf1,B,dB,uY (m:=.frz) (by decide) (show eV j_ "standing"=none by decide),V,iQ,w6,cC,cB,oh,oE,e,nbL,noL]
 simp![dB,uY (m:=.bro) (by decide) (show eV j_ "all_classes"=none by decide),Zy,b8,fzL,J7,q,YF,bB,Sg];simp
theorem GQ:∀ns:List Str,dtL (ns.map D.str)=ns.map Dt.str
 |[]=>rfl
 |x::r=>by simp[dtL,dt,GQ r]
theorem R1:∀I:List (List Str),oU (I.map (fL .own))=true/\eqL (dtL (I.map (fL .own))) (dtL (I.map (fL .own)))=true/\∀p∈(dtL (I.map (fL .own))).zip (dtL (I.map (fL .own))),UT p.1 p.2
 |[]=>⟨rfl,rfl,by simp[dtL]⟩
 |r::t=>by
  obtain⟨h1,h2,B⟩:=R1 t;have e1:∀l:List Str,eqL (l.map Dt.str) (l.map Dt.str)=true:=λl=>by induction l<;>simp_all [eqL,eqD]
  have e2:∀l:List Str,∀p∈(l.map Dt.str).zip (l.map Dt.str),Sc p.1 p.2:=λl=>by
   induction l with
   |nil=>simp
   |cons x r O=>
    intro p N;rcases YJ.mp (by simpa using N)with z|z
    .rw[z];exact .str x x
    .exact O p z
  refine⟨by simp[oU,fL,tG,tK,h1],?_,λp N=>?_⟩
  .simp![YL,dtL,eqL,h2,adF,fL,dt,GQ,eqD,e1]
  .simp![YL,dtL,List.zip_cons_cons,YJ]at N
   rcases N with z|z
   .rw[z];exact⟨_,_,by rw[fL,dt,GQ],by rw[fL,dt,GQ],e2 r⟩
   .exact B p z
theorem Xv{I:List (List Str)}:gEq (.lst .own (I.map (fL .own))) (.lst .own (I.map (fL .own)))=some (.bl true):=by
 obtain⟨h1,h2,B⟩:=R1 I;unfold gEq;rw[YZ ⟨by rw[tG];exact h1,by rw[tG];exact h1,by rw[dt];exact .deepL B⟩];rw[dt,eqD,h2]
def LwP(S:D)(ns:List Str)(t:Int)(ks:List Key)(ds:List D)(H:D)(s:Sk)(a b:Int)(Z Y q F J O I:Option D):En:=[some S,some (tp a b),some (.lst .own (ns.map D.str)),some (.int t),some (.dct .own ks ds),some H,some (skD .own ns s),some (.lst .own (s.dn.map dcD)),Z,Y,q,F,J,O,I]
def LwI(S:D)(ns:List Str)(t:Int)(ks:List Key)(ds:List D)(H:D)(k:Nat)(ρ:En):Prop:=∃(s:Sk)(a b:Int)(Z Y q F J O I:Option D),ρ=LwP S ns t ks ds H s a b Z Y q F J O I/\Ok ns s/\s.dn.length<=k/\0<=a
def LxI(S:D)(ns:List Str)(t:Int)(ks:List Key)(ds:List D)(H:D)(s:Sk)(a b:Int)(k:Nat)(ρ:En):Prop:=∃(Z Y q F J O I:Option D),ρ=LwP S ns t ks ds H s a b Z Y q F J O I
theorem Q5{l:List Str}:gNe (.lst m (l.map D.str)) (.lst .own [])=some (.bl (!l.isEmpty)):=by
 unfold gNe;rw[YZ ⟨by rw[tG];exact tK l,rfl,.lst (by simp[dtL,dt])⟩];cases l with
 |nil=>rfl
 |cons j r=>rfl
theorem QS:∀l:List iH,gQ (tpN 0) (eB (e2 gEq (e2 gIx 1.16 (eC (.int 0))) (eC (.str "join")))) (eSl 1.16 (fu (eC (.int 1))) fJ) [none] (l.map dcD)=some ((l.filterMap jtO).map jD):=λl=>by
 rw[←Dl]
 induction l with
 |nil=>rfl
 |cons d r O=>
  obtain⟨Z,B,J,_⟩:=l_ d;rw[YL,gQ,O];cases F:isJ d with
  |true=>simp[tpN,eB,isB,e2,eC,aq,eSl,fJ,fu,o_,J,Hv,F,eq_str,SN F,aaL]
  |false=>simp[tpN,eB,isB,e2,eC,aq,J,Hv,F,eq_str,aaL,show ¬(("weigh":Str)="join")by decide]
theorem Q3{S:D}{H:D}{a b:Int}{Z Y q F J O I:Option D}(h:Ok ns s)(U:∀ρ,LxI S ns t ks ds H s a b 2 ρ->Q (.nx ρ)) :
  Wp (jw (lr (ak (eC (.int 2)) aK)) (tgN 12) (a_ (dq (eMt (dB "Stack" "deeds" bW) (aq true 6) aK) (tgN 13))
  (a_ (dq (eMt (dB "Stack" "standing" aX) (aq true 6) aK) (tgN 14))
  (a_ (sIf (lV (jt (eAp (b8 cR) (ak (aq false 13) (ak (aq false 7) aK))))) (eO (eC (.bl false))) eU)
  (a_ (sIf (lV (jt (eAp (b8 cR) (ak (aq false 14) (ak (gG [none] (itS (aq false 7)) (tpN 0) (eB (e2 gEq (e2 gIx 1.16 (eC (.int 0))) (eC (.str "join")))) (eSl 1.16 (fu (eC (.int 1))) fJ)) aK))))) (eO (eC (.bl false))) eU)
  (a_ (gf aW 13 (b7 13) (ak (eAp bO (ak (eC (.str "join")) (ak (eC (.str "more")) (ak (eC (.str "more")) (ak (eC (.int 0)) aK))))) aK))
  (a_ (gf il 13 (b7 13) aK)
  (gf nJ 14 (b7 14) aK))))))) (LwP S ns t ks ds H s a b Z Y q F J O I)) Q:=by
 have N:=h.m;have hd:=Rq (ns:=ns) N;have V:=wF (ns:=ns) N;have a1:=acw jtO s.dn;simp[jw,lr,ak,aK,eC,bJ,aQ,w_ite];refine tY (LxI S ns t ks ds H s a b) ⟨_,_,_,_,_,_,_,rfl⟩ ?_ (λρ a0=>U ρ ?_)
 .rintro k d ρ hk ⟨Z,Y,q,F,J,O,I,rfl⟩
  obtain⟨a2,rfl⟩:=F_ hk;simp![LwP,tgN,clean,aD,aB,ae7,Zy,aQ,abo,ady];refine aZ (λρ=>ρ=LwP S ns t ks ds H s a b Z Y q F (some (.int k)) (some (.lst .own (s.dn.map dcD))) I) 1.21 ?_
  .simp_arith[sEx,aF,aO,aG,mC,hd,Cv,BL]
   exact U _ rfl
  rintro _ rfl;refine aZ (λρ=>ρ=LwP S ns t ks ds H s a b Z Y q F (some (.int k)) (some (.lst .own (s.dn.map dcD))) (some (.lst .own ((s.dn.filterMap jtO).map jD)))) 1.21 ?_
  .simp_arith[sEx,aF,aO,aG,LwP,mC,V,oh,oE]
   exact U _ rfl
  rintro _ rfl;refine aZ (λρ=>ρ=LwP S ns t ks ds H s a b Z Y q F (some (.int k)) (some (.lst .own (s.dn.map dcD))) (some (.lst .own ((s.dn.filterMap jtO).map jD)))) 1.21 ?_
  .simp_arith[sEx,aF,aO,aG,LwP,K3,Wv,Cv,BL,Pb N,bB]
   exact U _ rfl
  rintro _ rfl;refine aZ (λρ=>ρ=LwP S ns t ks ds H s a b Z Y q F (some (.int k)) (some (.lst .own (s.dn.map dcD))) (some (.lst .own ((s.dn.filterMap jtO).map jD)))) 1.21 ?_
  .have hc:=QS s.dn
   have B:=Q7 (l:=s.dn.filterMap jtO) 1.11;simp![eSl]at hc;simp_arith[sEx,aF,aO,aG,LwP,K3,XQ,yJ,w6,oh,oE,Cv,BL,hc,B,bB];exact⟨by omega,U _ rfl⟩
  rintro _ rfl;refine aZ (λρ=>∃l:List D,ρ=LwP S ns t ks ds H s a b Z Y q F (some (.int k)) (some (.lst .own l)) (some (.lst .own ((s.dn.filterMap jtO).map jD)))) 1.21 ?_
  .simp_arith[sEx,aF,aO,aG,LwP,bO,aW]
   exact⟨by omega,U _ ⟨_,rfl⟩⟩
  rintro _ ⟨l,rfl⟩;refine aZ (λρ=>∃l:List D,ρ=LwP S ns t ks ds H s a b Z Y q F (some (.int k)) (some (.lst .own l)) (some (.lst .own ((s.dn.filterMap jtO).map jD)))) 1.21 ?_
  .simp_arith[sEx,aF,aO,aG,LwP,il]
   exact U _ ⟨_,rfl⟩
  rintro _ ⟨l',rfl⟩;simp_arith[sEx,aF,aO,aG,LwP,nJ];exact⟨_,_,_,_,_,_,_,rfl⟩
 .rw[Hi]at a0
  exact a0
variable{f:En->Option (List D)}
theorem Yk{j:Int}(h:f ρ=some [.int j])(h1: -(2 ^ 62)<=j)(h2:j<2 ^ 62):lr f ρ=some (true,n6 0 j.toNat):=by
 unfold lr;rw[h];simp![YF];rw[YZ ⟨h1,h2⟩]
theorem Tv(h:f ρ=some [.int n])(hn:n<=100):lr f ρ=some (true,n6 0 n):=by
 have h1:(n:Int)<=100:=by omega
 have:=Yk h (adf (by decide) (Int.natCast_nonneg n)) (Int.lt_of_le_of_lt h1 (by decide));rw[acI]at this;exact this
theorem UW:cutD ds none (some (-1))=ds.dropLast:=by
 rcases ac_ ds with rfl|⟨l,d,rfl⟩
 .rfl
 .rw[ada,Ko];simp
theorem Lz(zs:List Int)(J:zs.length<=63):nA [.lst .scr (zs.map D.int)]=some (.bl true):=by
 apply Wp.eq;have S0:∀b,view b (D.lst .scr (zs.map D.int))= .lst .scr (zs.map D.int):=λb=>by cases b<;>simp[view,pU,mkV]
 have S1:fz (D.lst .scr (zs.map D.int))= .lst .scr (zs.map D.int):=by simp[fz,vh,mkF]
 have S2:aD (D.lst .scr (zs.map D.int))=true/\aB (D.lst .scr (zs.map D.int))=true:=by simp[aD,aB,rR,rQ]
 have S3:eG [.lst .scr (zs.map D.int)]=some (.int zs.length):=by simp[eG]
 have a7:∀(k:Int)(Q:D->Prop),0<=k->k<=100->(∀a b,0<=a->Q (tp a b))->Wp (dH [.lst .scr (zs.map D.int),.int k]) Q:=λk Q h1 h2 U=>Wp.mono (T6 h1 h2) λd ⟨a,b,e,h⟩=>e▸U a b h;generalize hS:D.lst .scr (zs.map D.int)=S at S0 S1 S2 S3 a7;simp_arith![nA,fnP];refine aZ (λρ=>∃a b:Int,0<=a/\ρ=[some S,some (tp a b),none,none,none,none,none,none,none,none,none,none,none,none,none]) 1.21 ?_
 .simp_arith[sEx,aF,aO,aG,S0,S1,S2]
  refine a7 0 _ 1.11 1.11 λa b Y=>?_;simp[aD,aB,au,aA,aQ];exact U _ ⟨a,b,Y,rfl⟩
 rintro _ ⟨a,b,Y,rfl⟩;refine aZ (λρ=>∃(ns:List Str)(a b:Int),(∀x∈ns,x∈lA)/\ns.Nodup/\ns.length<=20/\0<=a/\ρ=[some S,some (tp a b),some (.lst .own (ns.map D.str)),none,none,none,none,none,none,none,none,none,none,none,none]) 1.21 ?_
 .simp_arith[sEx,aF,aO,aG]
  refine Wp.mono (QC Y) ?_;rintro _ ⟨ns,a',b',rfl,h1,h2,h3,Z⟩;simp_arith[sEx,aF,aO,aG,cC,cB];exact U _ ⟨ns,a',b',h1,h2,h3,Z,rfl⟩
 clear Y a b;rintro _ ⟨ns,a,b,hn,nd,hl,Y,rfl⟩;refine aZ (λρ=>∃(t a b:Int),0<=t/\t<=1000/\0<=a/\ρ=[some S,some (tp a b),some (.lst .own (ns.map D.str)),some (.int t),none,none,none,none,none,none,none,none,none,none,none]) 1.21 ?_
 .simp_arith[sEx,aF,aO,aG]
  refine Wp.mono (Uv Y) ?_;rintro _ ⟨t,a',b',rfl,h1,h2,h3⟩;simp_arith[sEx,aF,aO,aG];exact U _ ⟨t,a',b',h1,h2,h3,rfl⟩
 clear Y a b;rintro _ ⟨t,a,b,t1,t2,Y,rfl⟩;refine aZ (λρ=>∃(ks:List Key)(ds:List D)(a b:Int),Dm ns ks ds/\0<=a/\ρ=[some S,some (tp a b),some (.lst .own (ns.map D.str)),some (.int t),some (.dct .own ks ds),none,none,none,none,none,none,none,none,none,none]) 1.21 ?_
 .simp_arith[sEx,aF,aO,aG,cA,iQ,cB,cC]
  refine Wp.mono (Rr Y hl) ?_;rintro _ ⟨ks,ds,a',b',rfl,h1,h2⟩;have c1:aD (D.dct .own ks ds)=true/\aB (D.dct .own ks ds)=true:=by
   simp[aD,aB,bI λd hd=>by obtain⟨i,rfl⟩:=h1.1 d hd;rfl,bG λd hd=>by obtain⟨i,rfl⟩:=h1.1 d hd;rfl]
  have c2:bB (D.dct .own ks ds)=true:=by
   have:∀l:List D,(∀e∈l,∃i:Int,e= .int i)->bA l=true:=λl=>by
    induction l with
    |nil=>intro _;rfl
    |cons x r ih=>intro h;obtain⟨i,rfl⟩:=h x (by simp);rw[bA,ih λe V=>h e (by simp[V])];rfl
   simp[bB,this ds h1.1]
  have b3:au ds=true/\aA ds=true:=by simpa[aD,aB]using c1
  have b2:bA ds=true:=by simpa[bB]using c2
  simp_arith[sEx,aF,aO,aG,b3,b2,bA,bB];exact U _ ⟨ks,ds,a',b',h1,h2,rfl⟩
 clear Y a b;rintro _ ⟨ks,ds,a,b,hD,Y,rfl⟩;refine aZ (λρ=>ρ=[some S,some (tp a b),some (.lst .own (ns.map D.str)),some (.int t),some (.dct .own ks ds),some (.lst .own (ns.map D.str)),none,none,none,none,none,none,none,none,none]) 1.21 ?_
 .simp_arith[sEx,aF,aO,aG,cA,GZ,cC,cB]
  exact U _ rfl
 rintro _ rfl;refine aZ (λρ=>ρ=[some S,some (tp a b),some (.lst .own (ns.map D.str)),some (.int t),some (.dct .own ks ds),some (.lst .own (ns.map D.str)),some (skD .own ns (sk0 t ns)),none,none,none,none,none,none,none,none]) 1.21 ?_
 .simp_arith[sEx,aF,aO,aG,cA,T3 hn nd hl,Ys]
  exact U _ rfl
 rintro _ rfl;refine aZ (λρ=>∃B:List Str,B.length<=20/\ρ=[some S,some (tp a b),some (.lst .own (ns.map D.str)),some (.int t),some (.dct .own ks ds),some (.lst .own (B.map D.str)),some (skD .own ns (sk0 t ns)),none,none,none,none,none,none,none,none]) 1.21 ?_
 .simp_arith[sEx,aF,aO,aG,il]
  exact U _ ⟨ns.reverse,by simpa using hl,by simp⟩
 rintro _ ⟨B,c8,rfl⟩;refine aZ (λρ=>∃H:D,ρ=[some S,some (tp a b),some (.lst .own (ns.map D.str)),some (.int t),some (.dct .own ks ds),some H,some (skD .own ns (sk0 t ns)),none,none,none,none,none,none,none,none]) 1.21 ?_
 .simp_arith[sEx,aF,aO,aG,aW]
  exact⟨by omega,U _ ⟨_,rfl⟩⟩
 rintro _ ⟨H,rfl⟩;have c4:Ok ns (sk0 t ns):=⟨by simp[sk0],by simp[sk0],⟨by simp[sk0],λi b hi=>by simp[sk0]at hi⟩,rfl,λd hd=>by simp[sk0]at hd,⟨t1,t2⟩,hl,by simp[sk0]⟩;refine aZ (LwI S ns t ks ds H 0) 1.21 ?_
 .simp_arith[sEx,aF,aO,aG,dY]
  exact U _ ⟨sk0 t ns,a,b,_,_,_,_,_,_,_,rfl,c4,by simp[sk0],Y⟩
 clear Y a b;rintro _ ⟨s,a,b,x8,x9,a4,F,a3,a0,a2,rfl,hO,hm,Y⟩;refine aZ (LwI S ns t ks ds H 40) 1.21 ?_
 .obtain⟨N,hN,hN2,hN3⟩:∃N:Nat,(10+(if(zs.length:Int)<30 then(zs.length:Int)else 30))*(if(!ns.isEmpty)=true then 1 else 0)=(N:Int)/\N<=40/\(N≠0->ns≠[]):=by
   cases ns with
   |nil=>exact⟨0,by simp,by omega,by simp⟩
   |cons x r=>
    refine⟨(10+(if(zs.length:Int)<30 then(zs.length:Int)else 30)).toNat,?_,?_,by simp⟩
    .simp
     split<;>omega
    .split<;>omega
  have O:lr (ak (e2 lE (e2 fQ (eC (.int 10)) (eAp j7 (ak (eC (.int 30)) (ak (eAp eG (ak 1.16 aK)) aK)))) (eAp qe (ak (e2 gNe (aq false 2) (eAp dY aK)) aK))) aK) (LwP S ns t ks ds H s a b x8 x9 a4 F a3 a0 a2)=some (true,n6 0 N):=Tv (by
   rw[←hN];simp[LwP,ak,aK,eAp,e2,eC,aq,S0,S3,j7,fQ,dY,view,cA,Q5,qe,lE];rw[YZ (.inl ⟨by split<;>omega,by split<;>omega⟩)];rfl) 1.11
  simp![jw,O,YF];refine tY (LwI S ns t ks ds H) ⟨s,a,b,x8,x9,a4,F,a3,a0,a2,rfl,hO,hm,Y⟩ ?_ (λρ a9=>U ρ ?_)
  .clear O hm hO Y x8 x9 a4 F a3 a0 a2 a b s U
   rintro k d ρ I ⟨s,a,b,x8,x9,a4,F,a3,a0,a2,rfl,hO,hm,Y⟩;obtain⟨c7,rfl⟩:=F_ I;have b8:=hN3 1.11;simp![LwP,tgN,clean,aD,aB,ae7,Zy,aQ,abo,ady];refine aZ (λρ=>∃a b:Int,0<=a/\ρ=LwP S ns t ks ds H s a b (some (.int k)) x9 a4 F a3 a0 a2) 1.21 ?_
   .simp_arith[sEx,aF,aO,aG,S0,S1,S2,fQ]
    refine a7 _ _ 1.11 1.11 λa b Y=>?_;simp[aD,aB,au,aA,aQ];exact U _ ⟨a,b,Y,rfl⟩
   clear Y a b;rintro _ ⟨a,b,Y,rfl⟩;refine aZ (λρ=>∃(w a b:Int),0<=a/\ρ=LwP S ns t ks ds H s a b (some (.int k)) (some (.int w)) a4 F a3 a0 a2) 1.21 ?_
   .simp_arith[sEx,aF,aO,aG,LwP]
    refine ji Y 1.11 1.11 λr a1 b1 p1 q1 s1=>?_;simp_arith[sEx,aF,aO,aG];exact U _ ⟨r,a1,b1,s1,rfl⟩
   clear Y a b;rintro _ ⟨w,a,b,Y,rfl⟩;have b5:cL false ds=ds/\fzL ds=ds/\au ds=true/\aA ds=true:=by
    refine⟨?_,?_,bI λd hd=>by obtain⟨i,rfl⟩:=hD.1 d hd;rfl,bG λd hd=>by obtain⟨i,rfl⟩:=hD.1 d hd;rfl⟩
    .rw[cN];exact oR λd hd=>by obtain⟨i,rfl⟩:=hD.1 d hd;rfl
    .rw[g_];exact oR λd hd=>by obtain⟨i,rfl⟩:=hD.1 d hd;rfl
   refine aZ (λρ=>∃(j:Jt)(a b:Int),j.1∈ns/\j.2.1∈ns/\0<=a/\ρ=LwP S ns t ks ds H s a b (some (.int k)) (some (.int w)) (some (jD j)) F a3 a0 a2) 1.21 ?_
   .simp_arith[sEx,aF,aO,aG,LwP,cA,iQ,cC,cB,b5]
    refine Wp.mono (Js Y b8 hl ⟨t1,t2⟩ hD) ?_;rintro _ ⟨j,a',b',rfl,j1,j2,a5⟩;simp_arith[sEx,aF,aO,aG,jD,bB,bA];exact U _ ⟨j,a',b',j1,j2,a5,rfl⟩
   clear Y a b;rintro _ ⟨j,a,b,j1,j2,Y,rfl⟩;have a8:s.dn.length<1000:=by omega
   refine aZ (λρ=>∃(s':Sk)(a b:Int)(F:Option D),0<=a/\Ok ns s'/\s'.dn.length<=k+1/\ρ=LwP S ns t ks ds H s' a b (some (.int k)) (some (.int w)) (some (jD j)) F a3 a0 a2) 1.21 ?_
   .by_cases w0:w=0
    .subst w0
     simp_arith[sEx,aF,aO,aG,LwP,eq_int,qg,uY (m:=.own) (by decide) (show eV j_ "back"=none by decide)];refine Wp.mono (T_ hO) ?_;rintro _ ⟨v,s',rfl,e,o⟩;simp_arith[sEx,aF,aO,aG,K3,iC,gSl,UW,←List.map_dropLast,Cv,BL];rw[←e];exact U _ ⟨s',a,b,F,Y,o,by rw[e,aeW];omega,rfl⟩
    by_cases w1:w=1
    .subst w1
     simp_arith[sEx,aF,aO,aG,LwP,eq_int];refine Wp.mono (Lr Y) ?_;rintro _ ⟨n,a',b',rfl,_,a5⟩;simp_arith[sEx,aF,aO,aG,jD,gIx,atI,ixN,qg,uY (m:=.own) (by decide) (show eV j_ "weigh"=none by decide)];refine Wp.mono (QD hO j2 a8) ?_;rintro _ ⟨v,o,s',rfl,e,ok⟩;simp_arith[sEx,aF,aO,aG,bO,aW];refine⟨by omega,?_⟩;rw[show List.map dcD s.dn++[D.tup [.str "weigh",.str j.2.1,.int n]]=s'.dn.map dcD by rw[e,Zq];rfl];exact U _ ⟨s',a',b',_,a5,ok,by rw[e];simp;omega,rfl⟩
    .simp_arith[sEx,aF,aO,aG,LwP,eq_int,w0,w1,jD,gIx,atI,ixN,qg,uY (m:=.own) (by decide) (show eV j_ "join"=none by decide)]
     refine Wp.mono (T9 hO j1 j2 a8) ?_;rintro _ (⟨v,lk,rfl⟩|⟨wd,kk,q,s',rfl,hw,e,ok⟩)
     .have a6:Ok ns {s with lk:=lk}:=⟨hO.w,hO.z,hO.b,hO.d,hO.n,hO.t,hO.l,hO.m⟩
      simp_arith[sEx,aF,aO,aG,gIx,atI,ixN,ne_str];exact U _ ⟨_,a,b,F,Y,a6,by show s.dn.length<=k+1;omega,rfl⟩
     .simp_arith[sEx,aF,aO,aG,gIx,atI,ixN,ne_str,hw,bO,fQ,aW]
      refine⟨by omega,?_⟩;rw[show List.map dcD s.dn++[D.tup [.str "join",.str j.1,.str j.2.1,.int j.2.2]]=s'.dn.map dcD by rw[e,Zq];rfl];exact U _ ⟨s',a,b,F,Y,ok,by rw[e];simp;omega,rfl⟩
   rintro _ ⟨s',a',b',c3,a5,a6,b0,rfl⟩;exact Q3 a6 λρ ⟨z8,z9,c0,b9,b4,b6,b7,e⟩=>⟨s',a',b',z8,z9,c0,b9,b4,b6,b7,e,a6,b0,a5⟩
  .rw[Hi]at a9
   obtain⟨s,a,b,x8,x9,a4,F,a3,a0,a2,rfl,hO,hm,Y⟩:=a9;exact⟨s,a,b,x8,x9,a4,F,a3,a0,a2,rfl,hO,by omega,Y⟩
 rintro _ ⟨s',a',b',y8,y9,c5,c3,d0,c9,c6,rfl,a6,b0,a5⟩;obtain⟨rs,g1,g2⟩:=T8 a6 nd;simp_arith[sEx,aF,aO,aG,LwP,mC,g1,Xv,eG,cA,gLe];omega
def top(i:Nat):Stmt:=adR.main.body.getD i (.Pass ⟨0,0,0,0⟩)
local macro_rules
 |`(tactic|trivial)=>`(tactic|exact⟨rfl,by decide +kernel,by decide +kernel,by decide +kernel,rfl,by decide +kernel⟩)
open PySem.W (Frag nsIn fnOf keepIn codeIn mg_of mg_none_of)
abbrev nl0:List Str:=["self"]
abbrev nl1:List Str:=["_law_found","_law_due"]
abbrev nl2:List Str:=["_law_tape_here"]
abbrev nl3:List Str:=["names","joinings"]
abbrev nl4:List Str:=["turn","weights","behind","sizes","done","looked"]
abbrev nl5:List Str:=["self","one","other","step"]
abbrev nl6:List Str:=["self","names","turn"]
abbrev nl7:List Str:=["self","chain"]
abbrev nl8:List Str:=["_law_tape_here","_law_names_here"]
abbrev nl9:List Str:=["thing"]
abbrev Iv:List Str:=["self","name","n"]
abbrev HF:List Str:=["self","name"]
abbrev Nq:List Str:=["there","thing","place"]
abbrev Ml:List Str:=["self","hung"]
abbrev K_:List Str:=["there","name"]
abbrev JN:List Str:=["turn","n"]
abbrev Km:List Str:=["self","one","other"]
abbrev O1:List Str:=["_law_script","_law_k"]
abbrev Rm:List Str:=["_law_tape_here","_law_many"]
abbrev Rx:List Str:=["_law_tape_here","_law_names_here","_law_marks_here","_law_turn_here"]
abbrev PQ:List Str:=["deed","kept"]
noncomputable abbrev QG:List Str:=["leading","start"]
abbrev Qp:List Str:=["_law_script"]
abbrev Ws:List Str:=["_law_name","_law_tape_here"]
abbrev V7:List Str:=["names","joinings","leading","number","one","other","step"]
abbrev Wu:List Str:=["_law_script","_law_tape_here","_law_names_here","_law_turn_here","_law_marks_here","_law_handed","_law_held","_law_done","_law_k","_law_way","_law_joining_here","_law_n","_law_again","_law_told","_law_stand"]
abbrev ob0:Nat->Bool:=λi=>i==0
abbrev jb(P:Zr)(w:World)(K:Frag)(mg:Str->Option Value)(base:Heap):Prop:=Cal P w K mg base 1 "_law_draw" Rm (spI ⟨K,mg⟩ ob0 ob0 aP)
abbrev m_(P:Zr)(w:World)(K:Frag)(mg:Str->Option Value)(base:Heap):Prop:=Cal P w K mg base 2 "_law_far" nl2 (spI ⟨K,mg⟩ ob0 ob0 dX)
abbrev yj(P:Zr)(w:World)(K:Frag)(mg:Str->Option Value)(base:Heap):Prop:=Cal P w K mg base 1 "is_name" nl9 (spP ⟨K,mg⟩ jj)
abbrev um(P:Zr)(w:World)(K:Frag)(mg:Str->Option Value)(base:Heap):Prop:=Cal P w K mg base 2 "check_new" Nq (spP ⟨K,mg⟩ fD)
abbrev qF(P:Zr)(w:World)(K:Frag)(mg:Str->Option Value)(base:Heap):Prop:=Cal P w K mg base 3 "check_names" ["things"] (spP ⟨K,mg⟩ eE)
abbrev oK(P:Zr)(w:World)(K:Frag)(mg:Str->Option Value)(base:Heap):Prop:=Cal P w K mg base 1 "ends_by_name" nl3 (spP ⟨K,mg⟩ dI)
abbrev uy(P:Zr)(w:World)(K:Frag)(mg:Str->Option Value)(base:Heap):Prop:=Cal P w K mg base 1 "ways_from" QG (spP ⟨K,mg⟩ fP)
abbrev GD(P:Zr)(w:World)(K:Frag)(mg:Str->Option Value)(base:Heap):Prop:=Cal P w K mg base 2 "trees" nl3 (spP ⟨K,mg⟩ jf)
abbrev yS(P:Zr)(w:World)(K:Frag)(mg:Str->Option Value)(base:Heap):Prop:=Cal P w K mg base 3 "classes" nl3 (spP ⟨K,mg⟩ gW)
abbrev jJ(P:Zr)(w:World)(K:Frag)(mg:Str->Option Value)(base:Heap):Prop:=Cal P w K mg base 1 "check_there" K_ (spP ⟨K,mg⟩ bU)
abbrev t8(P:Zr)(w:World)(K:Frag)(mg:Str->Option Value)(base:Heap):Prop:=Cal P w K mg base 1 "counted" JN (spP ⟨K,mg⟩ eF)
abbrev uF(P:Zr)(w:World)(K:Frag)(mg:Str->Option Value)(base:Heap):Prop:=Cal P w K mg base 1 "_law_tape" O1 (spP ⟨K,mg⟩ dH)
abbrev rP(P:Zr)(w:World)(K:Frag)(mg:Str->Option Value)(base:Heap):Prop:=Cal P w K mg base 2 "_law_names" nl2 (spI ⟨K,mg⟩ ob0 ob0 fH)
abbrev uL(P:Zr)(w:World)(K:Frag)(mg:Str->Option Value)(base:Heap):Prop:=Cal P w K mg base 2 "_law_turn" nl2 (spI ⟨K,mg⟩ ob0 ob0 gk)
abbrev rK(P:Zr)(w:World)(K:Frag)(mg:Str->Option Value)(base:Heap):Prop:=Cal P w K mg base 3 "_law_marks" nl8 (spI ⟨K,mg⟩ ob0 ob0 fU)
abbrev pB(P:Zr)(w:World)(K:Frag)(mg:Str->Option Value)(base:Heap):Prop:=Cal P w K mg base 3 "_law_joining" Rx (spI ⟨K,mg⟩ ob0 ob0 d_)
abbrev uC(P:Zr)(w:World)(K:Frag)(mg:Str->Option Value)(base:Heap):Prop:=Cal P w K mg base 4 "_law_same" nl1 (spP ⟨K,mg⟩ cR)
noncomputable abbrev jq:Stmt:=top 22
noncomputable abbrev jH:Stmt:=top 23
noncomputable abbrev iY:Stmt:=top 24
noncomputable abbrev jz:Stmt:=top 25
noncomputable abbrev kW:Stmt:=top 26
noncomputable abbrev gV:Stmt:=top 28
noncomputable abbrev ju:Stmt:=top 8
noncomputable abbrev i_:Stmt:=top 9
noncomputable abbrev gq:Stmt:=top 10
noncomputable abbrev cD:Stmt:=inClass (top 20) 0
noncomputable abbrev gB:Stmt:=top 27
noncomputable abbrev fG:Stmt:=inClass (top 20) 3
noncomputable abbrev ig:Stmt:=inClass (top 20) 5
noncomputable abbrev eZ:Stmt:=inClass (top 20) 6
noncomputable abbrev cY:Stmt:=inClass (top 20) 7
noncomputable abbrev d9:Stmt:=top 15
noncomputable abbrev iZ:Stmt:=top 16
noncomputable abbrev pP:Stmt:=top 17
noncomputable abbrev jB:Stmt:=top 18
noncomputable abbrev cP:Stmt:=inClass (top 20) 14
noncomputable abbrev gn:Stmt:=top 11
noncomputable abbrev gA:Stmt:=inClass (top 20) 4
noncomputable abbrev iW:Stmt:=top 29
noncomputable abbrev kO:Stmt:=top 13
noncomputable abbrev gm:Stmt:=inClass (top 20) 8
noncomputable abbrev dU:Stmt:=inClass (top 20) 9
noncomputable abbrev gw:Stmt:=inClass (top 20) 10
noncomputable abbrev h_:Stmt:=inClass (top 20) 2
noncomputable abbrev gZ:Stmt:=inClass (top 20) 1
noncomputable abbrev qu:Stmt:=top 30
structure Blt(mg:Str->Option Value):Prop where
 abs:mg "abs"=none
 all:mg "all"=none
 bool_:mg "bool"=none
 dict:mg "dict"=none
 enumerate:mg "enumerate"=none
 int_:mg "int"=none
 isinstance:mg "isinstance"=none
 len:mg "len"=none
 list_:mg "list"=none
 max:mg "max"=none
 min:mg "min"=none
 range:mg "range"=none
 set_:mg "set"=none
 sorted:mg "sorted"=none
 str_:mg "str"=none
 sum:mg "sum"=none
 tuple:mg "tuple"=none
 zip:mg "zip"=none
variable{A:ZW}
theorem aR(r:gO k A):A.units+1<cLine:=by have:=r.units;omega
theorem Gy(r:gO k A):A.units+2<cLine:=by have:=r.units;omega
section
variable{P:Program}{w:World}{K:Frag}{mg:Str->Option Value}{base:Heap}
theorem uB:bF ["_law_script","_law_k","_law_cell","_law_digits"] O1 (aC jq):=⟨rfl,rfl,rfl,by decide +kernel,rfl,by decide +kernel,by decide +kernel⟩
theorem Di{f:Addr}{fd:ZC}(F:Fun K "_law_tape" "_law_tape" jq f fd)(B:Blt mg):dJ P w K mg base CX0 1 f fd O1 (spP ⟨K,mg⟩ dH):=by
 have nd:∀_:Unit,_:=λ_=>uB.nd;refine okP (k:=0) (ob:=(λi=>false)) (Pr:=λ_=>false) F uB λZ A outer s H E O=>?_;exact(az (cI 2 nd aJ)
  (az (dg (bR Lg 1.20 (bj iM (λ_=>rfl) (λ_=>B.len) aby (aa 1.23 ao))) (aL (cI 2 nd (dm 1.17 1.23 1.20))) cg)
  (az (cI 3 nd (cQ qQ (bj Gf (λ_=>rfl) (λ_=>B.abs) boot_abs (aa (aj false 2) ao)) (pY Ft (λ_=>rfl) (λ_=>B.int_) boot_int (aa (lX Xf (bj Gf (λ_=>rfl) (λ_=>B.abs) boot_abs (aa (aj false 2) ao)) (cQ sU aJ aJ)) ao))))
  (aL (bT (nF (aa (aj false 3) (aa (cQ pq (cQ qQ (cQ pq (cQ iR (cQ iR (aj false 2) (cQ qQ aJ 1.20)) aJ) aJ) aJ) aJ) ao))))))))
theorem ux:bF ["_law_tape_here","_law_many","_law_found","_law_once"] Rm (aC jH):=⟨rfl,rfl,rfl,by decide +kernel,rfl,by decide +kernel,by decide +kernel⟩
theorem Bm{f:Addr}{fd:ZC}(F:Fun K "_law_draw" "_law_draw" jH f fd)(B:Blt mg):dJ P w K mg base CX0 1 f fd Rm (spI ⟨K,mg⟩ ob0 ob0 aP):=by
 have nd:∀_:Unit,_:=λ_=>ux.nd;refine okI (k:=0) (ob:=ob0) (pr:=ob0) F ux λZ A outer s H E O=>?_;exact(az (dg (bR Sd (dm 1.17 (aj true 0) aJ) aJ) (az (cI 2 nd (cQ pq (dm 1.17 (aj true 0) aJ) 1.20))
  (az (nG (cQ zy (dm 1.17 (aj true 0) aJ) 1.20) (pK (pR (λ_=>aR O)) (bH 0) aJ))
  (aL (jN 2)))) cg)
  (az (nG (cQ pq (cQ iR (cQ qQ (dm 1.17 (aj true 0) aJ) aJ) aJ) aJ) (pK (pR (λ_=>aR O)) (bH 0) aJ))
  (az (cI 3 nd (cQ zy (dm 1.17 (aj true 0) aJ) aJ))
  (aL (bT (cQ pq (cQ zy (cQ pq (cQ qQ (aj false 3) (cQ iR (cQ pq (aj false 3) aJ) aJ)) aJ) aJ) 1.20))))))
theorem rM:bF ["_law_tape_here","_law_some","_law_way","_law_many","_law_turn_here"] nl2 (aC iY):=⟨rfl,rfl,rfl,by decide +kernel,rfl,by decide +kernel,by decide +kernel⟩
theorem Al{f:Addr}{fd:ZC}(F:Fun K "_law_names" "_law_names" iY f fd)(B:Blt mg)(I:jb P w K mg base):dJ P w K mg base CX0 2 f fd nl2 (spI ⟨K,mg⟩ ob0 ob0 fH):=by
 have nd:∀_:Unit,_:=λ_=>rM.nd;refine okI (k:=1) (ob:=ob0) (pr:=ob0) F rM λZ A outer s H E O=>?_;exact(az (cI 1 nd (WR Jv PySem.F.plainAttrs_str PySem.F.slot_str_split PySem.F.type_str_split gY (aa gY ao)))
  (az (cW 2 nd 1.24)
  (az (cW 3 nd (ph iR (cu aJ) 1.24))
  (az (dg (bR 1.22 (aj false 2) aJ) (aL (cW 3 nd (ph iR (cu aJ) 1.24))) cg)
  (az (dg (bR 1.22 (aj false 2) aJ) (aL (cW 3 nd 1.24)) cg)
  (az (cW 4 nd 1.24)
  (aL (bT (jX slb (cQ iR (jX slb 1.20 (jZ (aj false 4)) jR) (jX slb 1.20 jR (jZ (aj false 4)))) jR (jZ (aj false 3)))))))))))
theorem ur:bF nl2 nl2 (aC jz):=⟨rfl,rfl,rfl,by decide +kernel,rfl,by decide +kernel,by decide +kernel⟩
theorem Ca{f:Addr}{fd:ZC}(F:Fun K "_law_turn" "_law_turn" jz f fd)(B:Blt mg)(I:jb P w K mg base):dJ P w K mg base CX0 2 f fd nl2 (spI ⟨K,mg⟩ ob0 ob0 gk):=by
 have nd:∀_:Unit,_:=λ_=>ur.nd;refine okI (k:=1) (ob:=ob0) (pr:=ob0) F ur λZ A outer s H E O=>?_;exact(aL (qZ (vH 1.17 (cu (nF (aa aJ (aa aJ (aa aJ (aa aJ (aa aJ (aa aJ (aa aJ (aa aJ ao)))))))))) 1.24)))
theorem vX:bF nl2 nl2 (aC kW):=⟨rfl,rfl,rfl,by decide +kernel,rfl,by decide +kernel,by decide +kernel⟩
theorem Fb{f:Addr}{fd:ZC}(F:Fun K "_law_far" "_law_far" kW f fd)(B:Blt mg)(I:jb P w K mg base):dJ P w K mg base CX0 2 f fd nl2 (spI ⟨K,mg⟩ ob0 ob0 dX):=by
 have nd:∀_:Unit,_:=λ_=>vX.nd;refine okI (k:=1) (ob:=ob0) (pr:=ob0) F vX λZ A outer s H E O=>?_;exact(az (zJ (xf 1.22 1.24 (cu aJ)) (aL (qZ (vH 1.17 (PK (kJ (cu (cQ sU aJ aJ)) (kJ (cu (nW j5 (cQ sU aJ aJ))) (kJ (ph qT (cu (cQ qT (cQ sU aJ aJ) aJ)) 1.24) (bM (aa aJ ao)))))) 1.24))) cg)
  (aL (qZ (ph qT 1.24 (cu aJ)))))
theorem sI:bF nl8 nl8 (aC gV):=⟨rfl,rfl,rfl,by decide +kernel,rfl,by decide +kernel,by decide +kernel⟩
def uW:Scope:={kind:=.function,names:=[(".0",.local),("_law_name",.local),("_law_far",.globalImplicit),("_law_tape_here",.free)],isGenerator:=false,isCoroutine:=false}
theorem wJ:(Ws:List Str).Nodup:=by decide +kernel
theorem wO:dZ (aC gV) nl8 Ws uW [none,some 0]:=by trivial
theorem zG{f:Addr}{fd:ZC}(F:Fun K "_law_marks" "_law_marks" gV f fd)(B:Blt mg)(q:m_ P w K mg base):dJ P w K mg base CX0 3 f fd nl8 (spI ⟨K,mg⟩ ob0 ob0 fU):=by
 have nd:∀_:Unit,_:=λ_=>sI.nd;refine okI (k:=2) (ob:=ob0) (pr:=ob0) F sI λZ A outer s H E O=>?_;exact(aL (qZ (DY (Mt (λ_=>rfl)) (λ_=>rfl) (λ_=>B.dict) boot_dict (kJ (K8 [none,some 0] ob0 (λ_=>rfl) (λ_=>rfl) (λ_=>wO) (PP rfl) (jg rfl) (je 1.20) (Ip 0 (λ_=>wJ)) jk (Rv (kJ (cu 1.23) (kJ (eQ [1] (λ_=>q) 1.10 (cU 1 (cT (bM ao)))) (bM ao))))) (bM ao)))))
theorem wI:bF nl9 nl9 (aC ju):=⟨rfl,rfl,rfl,by decide +kernel,rfl,by decide +kernel,by decide +kernel⟩
def xU:Scope:={kind:=.function,names:=[(".0",.local),("sign",.local),("LETTERS",.globalImplicit)],isGenerator:=false,isCoroutine:=false}
theorem zN:(["sign"]:List Str).Nodup:=by decide +kernel
theorem zj:dZ (aC ju) nl9 ["sign"] xU [none]:=by trivial
theorem Em{f:Addr}{fd:ZC}(F:Fun K "is_name" "is_name" ju f fd)(B:Blt mg)(q:Glb mg "LETTERS" (.str "abcdefghijklmnopqrstuvwxyz"))(D:Glb mg "LONGEST" (.int 8)):dJ P w K mg base CX0 1 f fd nl9 (spP ⟨K,mg⟩ jj):=by
 have nd:∀_:Unit,_:=λ_=>wI.nd;refine okP (k:=0) (ob:=(λi=>false)) (Pr:=λ_=>false) F wI λZ A outer s H E O=>?_;exact(az (dg (vo (lF (bj dF (λ_=>rfl) (λ_=>B.isinstance) aas (aa 1.23 (aa (mW (λ_=>rfl) (λ_=>B.str_) boot_str) ao))))) (aL (bT CT)) cg)
  (az (dg (Gj (Ey (bR Lg (bj iM (λ_=>rfl) (λ_=>B.len) aby (aa 1.23 ao)) aJ) (zB (bR Sd (bj iM (λ_=>rfl) (λ_=>B.len) aby (aa 1.23 ao)) (LR D))))) (aL (bT CT)) cg)
  (aL (bT (bj (Hh (λ_=>rfl)) (λ_=>rfl) (λ_=>B.all) boot_all (aa (m9 [none] ob0 (λ_=>rfl) (λ_=>rfl) (λ_=>zj) (jg rfl) (Qj 1.23) (dO 0 (λ_=>zN)) jk (lX (Ln (λ_=>aR O)) 1.23 (Lp q))) ao))))))
theorem rB:bF Nq Nq (aC i_):=⟨rfl,rfl,rfl,by decide +kernel,rfl,by decide +kernel,by decide +kernel⟩
theorem Ab{f:Addr}{fd:ZC}(F:Fun K "check_new" "check_new" i_ f fd)(B:Blt mg)(q:yj P w K mg base):dJ P w K mg base CX0 2 f fd Nq (spP ⟨K,mg⟩ fD):=by
 have nd:∀_:Unit,_:=λ_=>rB.nd;refine okP (k:=1) (ob:=(λi=>false)) (Pr:=λ_=>false) F rB λZ A outer s H E O=>?_;exact(aL (dg (Gj (Ey (vo (lF (gF (λ_=>q) 1.10 (aa 1.20 ao)))) (zB (bR (Ln (λ_=>aR O)) 1.20 1.23)))) (aL yp) cg))
theorem oZ:bF ["things","place","thing"] ["things"] (aC gq):=⟨rfl,rfl,rfl,by decide +kernel,rfl,by decide +kernel,by decide +kernel⟩
theorem wU{f:Addr}{fd:ZC}(F:Fun K "check_names" "check_names" gq f fd)(B:Blt mg)(q:um P w K mg base):dJ P w K mg base CX0 3 f fd ["things"] (spP ⟨K,mg⟩ eE):=by
 have nd:∀_:Unit,_:=λ_=>oZ.nd;refine okP (k:=2) (ob:=(λi=>false)) (Pr:=λ_=>false) F oZ λZ A outer s H E O=>?_;exact(aL (pQ (λ_=>aba) (λ_=>rfl) (Dh (λ_=>rfl) (λ_=>B.enumerate) (aa 1.23 ao)) (p7 (λ_=>rfl) (dz (dM 1 nd) (dz (dM 2 nd) mH))) (aL (nH (cu (gF (λ_=>q) 1.10 (aa (jX slb 1.23 jR (jZ 1.20)) (aa (aj false 2) (aa 1.20 ao)))))))))
theorem lL:bF nl6 nl6 (aC cD):=⟨rfl,rfl,rfl,by decide +kernel,rfl,by decide +kernel,by decide +kernel⟩
def oG:Scope:={kind:=.function,names:=[(".0",.local),("name",.local)],isGenerator:=false,isCoroutine:=false}
theorem qm:(["name"]:List Str).Nodup:=by decide +kernel
theorem qj:dZ (aC cD) nl6 ["name"] oG [none]:=by trivial
def o6:Scope:={kind:=.function,names:=[(".0",.local),("name",.local)],isGenerator:=false,isCoroutine:=false}
theorem qi:(["name"]:List Str).Nodup:=by decide +kernel
theorem qp:dZ (aC cD) nl6 ["name"] o6 [none]:=by trivial
theorem sE{f:Addr}{fd:ZC}(F:Fun K "__init__" "Stack.__init__" cD f fd)(B:Blt mg)(q:qF P w K mg base)(D:Kla K mg "Stack" nl4):dJ P w K mg base CX0 4 f fd nl6 (spI ⟨K,mg⟩ ob0 ob0 bN):=by
 have nd:∀_:Unit,_:=λ_=>lL.nd;refine okI (k:=3) (ob:=ob0) (pr:=ob0) F lL λZ A outer s H E O=>?_;exact(az (nH (cu (gF (λ_=>q) 1.10 (aa 1.20 ao))))
  (az (lH D (cu (aj false 2)) (bH 0))
  (az (lH D (cu (BW [none] ob0 (λ_=>rfl) (λ_=>rfl) (λ_=>qj) (jg rfl) (je 1.20) (dO 0 (λ_=>qm)) jk 1.23 aJ)) (bH 0))
  (az (lH D (cu Fy) (bH 0))
  (az (lH D (cu (BW [none] ob0 (λ_=>rfl) (λ_=>rfl) (λ_=>qp) (jg rfl) (je 1.20) (dO 0 (λ_=>qi)) jk 1.23 aJ)) (bH 0))
  (az (lH D (cu (nF ao)) (bH 0))
  (aL (lH D (cu aJ) (bH 0)))))))))
theorem pH:bF ["_law_tape_here","_law_names_here","_law_marks_here","_law_turn_here","_law_one","_law_other","_law_step"] Rx (aC gB):=⟨rfl,rfl,rfl,by decide +kernel,rfl,by decide +kernel,by decide +kernel⟩
theorem wy{f:Addr}{fd:ZC}(F:Fun K "_law_joining" "_law_joining" gB f fd)(B:Blt mg)(I:jb P w K mg base)(q:m_ P w K mg base):dJ P w K mg base CX0 3 f fd Rx (spI ⟨K,mg⟩ ob0 ob0 d_):=by
 have nd:∀_:Unit,_:=λ_=>pH.nd;refine okI (k:=2) (ob:=ob0) (pr:=ob0) F pH λZ A outer s H E O=>?_;exact(az (cW 4 nd (vH 1.17 (cu 1.20) (eQ [0] (λ_=>I) 1.10 (cU 0 (cT (bM (aa (bj iM (λ_=>rfl) (λ_=>B.len) aby (aa 1.20 ao)) ao)))))))
  (az (cW 5 nd (vH 1.17 (cu 1.20) (eQ [0] (λ_=>I) 1.10 (cU 0 (cT (bM (aa (bj iM (λ_=>rfl) (λ_=>B.len) aby (aa 1.20 ao)) ao)))))))
  (az (cW 6 nd (ph iR (cu (cQ qT (dm 1.17 (aj false 2) (aj false 5)) (dm 1.17 (aj false 2) (aj false 4)))) (ph qQ (cu (aj false 3)) (ph qT 1.24 (cu aJ)))))
  (az (zJ (xf 1.22 1.24 (cu aJ)) (aL (cW 6 nd (ph iR (cu (aj false 6)) (eQ [0] (λ_=>q) 1.10 (cU 0 (cT (bM ao))))))) cg)
  (aL (bT (gR (aa (aj false 4) (aa (aj false 5) (aa (bj (MP (λ_=>rfl)) (λ_=>rfl) (λ_=>B.max) boot_max (aa (nW j5 (cQ sU aJ aJ)) (aa (bj (Cw (λ_=>rfl)) (λ_=>rfl) (λ_=>B.min) boot_min (aa (cQ sU aJ aJ) (aa (aj false 6) ao))) ao))) ao))))))))))
theorem nQ:bF ["self","hung","head","gap"] Ml (aC fG):=⟨rfl,rfl,rfl,by decide +kernel,rfl,by decide +kernel,by decide +kernel⟩
theorem uX{f:Addr}{fd:ZC}(F:Fun K "unhang" "Stack.unhang" fG f fd)(B:Blt mg)(D:Kla K mg "Stack" nl4):dJ P w K mg base CX0 1 f fd Ml (spI ⟨K,mg⟩ ob0 ob0 cO):=by
 have nd:∀_:Unit,_:=λ_=>nQ.nd;refine okI (k:=0) (ob:=ob0) (pr:=ob0) F nQ λZ A outer s H E O=>?_;exact(az (nG (dm 1.17 (gh D (aj true 0)) 1.20) (p7 (λ_=>rfl) (dz (dM 2 nd) (dz (dM 3 nd) mH))))
  (az (Bt (λ_=>Vo) Uq (λ_=>aR O) (kh D (bH 0)) (aj false 2) (dm 1.17 (gh D (aj true 0)) 1.20))
  (aL (RW (kh D (bH 0)) 1.20))))
theorem qD:bF ["self","deed","kept"] nl0 (aC ig):=⟨rfl,rfl,rfl,by decide +kernel,rfl,by decide +kernel,by decide +kernel⟩
theorem xW{f:Addr}{fd:ZC}(F:Fun K "back" "Stack.back" ig f fd)(B:Blt mg)(q:iD P w K mg base 1 "Stack" "unhang" Ml (spI ⟨K,mg⟩ ob0 ob0 cO))(D:Kla K mg "Stack" nl4):dJ P w K mg base CX0 2 f fd nl0 (spI ⟨K,mg⟩ ob0 ob0 cH):=by
 have nd:∀_:Unit,_:=λ_=>qD.nd;refine okI (k:=1) (ob:=ob0) (pr:=ob0) F qD λZ A outer s H E O=>?_;exact(az (dg (bR 1.22 (bj iM (λ_=>rfl) (λ_=>B.len) aby (aa (gh D (aj true 0)) ao)) aJ) (aL (bT m6)) cg)
  (az (Kr (NB Rp Zu aeQ aeR (kh D (bH 0))) (p7 (λ_=>rfl) (dz (dM 1 nd) (dz (dM 2 nd) mH))))
  (az (dg (bR 1.22 (dm 1.17 1.20 aJ) gY) (aL (nG (aj false 2) (pK (pR (λ_=>aR O)) (kh D (bH 0)) (dm 1.17 1.20 aJ)))) (aL (dg (bR Bd (aj false 2) m6) (aL (nH (oJ 0 (λ_=>q) 1.10 (bM (aa (aj false 2) ao))))) cg)))
  (aL (jN 1)))))
theorem oY:bF nl0 nl0 (aC eZ):=⟨rfl,rfl,rfl,by decide +kernel,rfl,by decide +kernel,by decide +kernel⟩
def rT:Scope:={kind:=.function,names:=[(".0",.local),("deed",.local),("kept",.local)],isGenerator:=false,isCoroutine:=false}
theorem mG:(PQ:List Str).Nodup:=by decide +kernel
theorem ue:dZ (aC eZ) nl0 PQ rT [none,none]:=by trivial
theorem v9{f:Addr}{fd:ZC}(F:Fun K "deeds" "Stack.deeds" eZ f fd)(B:Blt mg)(D:Kla K mg "Stack" nl4):dJ P w K mg base CX0 1 f fd nl0 (spP ⟨K,mg⟩ bW):=by
 have nd:∀_:Unit,_:=λ_=>oY.nd;refine okP (k:=0) (ob:=(λi=>false)) (Pr:=λ_=>false) F oY λZ A outer s H E O=>?_;exact(aL (bT (m9 [none,none] (λi=>i==0||i==1) (λ_=>rfl) (λ_=>rfl) (λ_=>ue) (jg rfl) (je (gh D 1.23)) (wg (λ_=>rfl) (jG (dO 0 (λ_=>mG)) (jG (dO 1 (λ_=>mG)) ug))) jk 1.23)))
theorem lK:bF nl0 nl0 (aC cY):=⟨rfl,rfl,rfl,by decide +kernel,rfl,by decide +kernel,by decide +kernel⟩
def oW:Scope:={kind:=.function,names:=[(".0",.local),("deed",.local),("kept",.local)],isGenerator:=false,isCoroutine:=false}
theorem j8:(PQ:List Str).Nodup:=by decide +kernel
theorem qt:dZ (aC cY) nl0 PQ oW [none,none]:=by trivial
theorem qX{f:Addr}{fd:ZC}(F:Fun K "standing" "Stack.standing" cY f fd)(B:Blt mg)(D:Kla K mg "Stack" nl4):dJ P w K mg base CX0 1 f fd nl0 (spP ⟨K,mg⟩ aX):=by
 have nd:∀_:Unit,_:=λ_=>lK.nd;refine okP (k:=0) (ob:=(λi=>false)) (Pr:=λ_=>false) F lK λZ A outer s H E O=>?_;exact(aL (bT (m9 [none,none] (λi=>i==0||i==1) (λ_=>rfl) (λ_=>rfl) (λ_=>qt) (jg rfl) (je (gh D 1.23)) (wg (λ_=>rfl) (jG (dO 0 (λ_=>j8)) (jG (dO 1 (λ_=>j8)) ug))) (Bx (bR 1.22 (dm 1.17 1.23 aJ) gY)) (jX slb 1.23 (jZ aJ) jR))))
theorem nR:bF V7 nl3 (aC d9):=⟨rfl,rfl,rfl,by decide +kernel,rfl,by decide +kernel,by decide +kernel⟩
def qM:Scope:={kind:=.function,names:=[(".0",.local),("name",.local)],isGenerator:=false,isCoroutine:=false}
theorem sG:(["name"]:List Str).Nodup:=by decide +kernel
theorem sr:dZ (aC d9) V7 ["name"] qM [none]:=by trivial
theorem uZ{f:Addr}{fd:ZC}(F:Fun K "ends_by_name" "ends_by_name" d9 f fd)(B:Blt mg):dJ P w K mg base CX0 1 f fd nl3 (spP ⟨K,mg⟩ dI):=by
 have nd:∀_:Unit,_:=λ_=>nR.nd;refine okP (k:=0) (ob:=(λi=>false)) (Pr:=λ_=>false) F nR λZ A outer s H E O=>?_;exact(az (JS 2 [none] ob0 nd (λ_=>rfl) (λ_=>rfl) (λ_=>sr) (jg rfl) (je 1.23) (dO 0 (λ_=>sG)) jk 1.23 (nF ao))
  (az (pQ (λ_=>aba) (λ_=>rfl) (Dh (λ_=>rfl) (λ_=>B.enumerate) (aa 1.20 ao)) (p7 (λ_=>rfl) (dz (dM 3 nd) (dz (p7 (λ_=>rfl) (dz (dM 4 nd) (dz (dM 5 nd) (dz (dM 6 nd) mH)))) mH))) (az (iK dR Zu ZS ZV (Gh (λ_=>aR O) (bH 2) (aj false 4)) (aa (gR (aa (aj false 3) (aa aJ (aa (aj false 5) ao)))) ao))
  (aL (iK dR Zu ZS ZV (Gh (λ_=>aR O) (bH 2) (aj false 5)) (aa (gR (aa (aj false 3) (aa (nW j5 aJ) (aa (aj false 4) ao)))) ao)))))
  (aL (jN 2))))
theorem rm:bF ["leading","start","ways","waiting","name","number","side","end"] QG (aC iZ):=⟨rfl,rfl,rfl,by decide +kernel,rfl,by decide +kernel,by decide +kernel⟩
theorem zm{f:Addr}{fd:ZC}(F:Fun K "ways_from" "ways_from" iZ f fd)(B:Blt mg):dJ P w K mg base CX0 1 f fd QG (spP ⟨K,mg⟩ fP):=by
 have nd:∀_:Unit,_:=λ_=>rm.nd;refine okP (k:=0) (ob:=(λi=>i==3)) (Pr:=λ_=>false) F rm λZ A outer s H E O=>?_;exact(az (cI 2 nd (O9 (IK 1.20 (gR ao) Oj)))
  (az (cI 3 nd (nF (aa 1.20 ao)))
  (az (yU 1000000 (λ_=>aba) (Az (lF (aj true 3))) (az (cW 4 nd (Rb Jw Zu aeQ aeR (bH 3) (aa aJ ao)))
  (aL (pQ (λ_=>aba) (λ_=>rfl) (je (dm 1.17 1.23 (aj false 4))) (p7 (λ_=>rfl) (dz (dM 5 nd) (dz (dM 6 nd) (dz (dM 7 nd) mH)))) (aL (dg (bR (wB (λ_=>aR O)) (aj false 7) (aj false 2)) (az (nG (cQ iR (dm 1.17 (aj false 2) (aj false 4)) (gR (aa (gR (aa (aj false 5) (aa (aj false 6) ao))) ao))) (pK (pR (λ_=>aR O)) (bH 2) (aj false 7)))
  (aL (iK dR Zu ZS ZV (bH 3) (aa (aj false 7) ao)))) cg))))))
  (aL (jN 2)))))
theorem Bq:bF ["names","joinings","leading","placed","found","name","ways"] nl3 (aC pP):=⟨rfl,rfl,rfl,by decide +kernel,rfl,by decide +kernel,by decide +kernel⟩
theorem N_{f:Addr}{fd:ZC}(F:Fun K "trees" "trees" pP f fd)(B:Blt mg)(q:oK P w K mg base)(D:uy P w K mg base):dJ P w K mg base CX0 2 f fd nl3 (spP ⟨K,mg⟩ jf):=by
 have nd:∀_:Unit,_:=λ_=>Bq.nd;refine okP (k:=1) (ob:=(λi=>false)) (Pr:=λ_=>false) F Bq λZ A outer s H E O=>?_;exact(az (cI 2 nd (gF (λ_=>q) 1.10 (aa 1.23 (aa 1.20 ao))))
  (az (cI 3 nd Fy)
  (az (cI 4 nd (nF ao))
  (az (pQ (λ_=>aba) (λ_=>rfl) (je (bj (uE _ (λ_=>rfl) (Gy O) (λ_=>rfl)) (λ_=>rfl) (λ_=>B.sorted) boot_sorted (aa 1.23 ao))) (dM 5 nd) (aL (dg (bR (wB (λ_=>aR O)) (aj false 5) (aj false 3)) (az (cI 6 nd (gF (λ_=>D) 1.10 (aa (aj false 2) (aa (aj false 5) ao))))
  (az (V4 6 (iK (Ds (λ_=>rfl)) PySem.F.plainAttrs_dict PySem.F.slot_dict_update PySem.F.type_dict_update (bH 3) (aa (aj false 6) ao)))
  (aL (iK dR Zu ZS ZV (bH 4) (aa (aj false 6) ao))))) cg)))
  (aL (jN 4))))))
theorem wX:bF nl3 nl3 (aC jB):=⟨rfl,rfl,rfl,by decide +kernel,rfl,by decide +kernel,by decide +kernel⟩
def xN:Scope:={kind:=.function,names:=[(".0",.local),("ways",.local),("sorted",.globalImplicit)],isGenerator:=false,isCoroutine:=false}
theorem Ao:(["ways"]:List Str).Nodup:=by decide +kernel
theorem zr:dZ (aC jB) nl3 ["ways"] xN [none]:=by trivial
theorem Fi{f:Addr}{fd:ZC}(F:Fun K "classes" "classes" jB f fd)(B:Blt mg)(q:GD P w K mg base):dJ P w K mg base CX0 3 f fd nl3 (spP ⟨K,mg⟩ gW):=by
 have nd:∀_:Unit,_:=λ_=>wX.nd;refine okP (k:=2) (ob:=(λi=>false)) (Pr:=λ_=>false) F wX λZ A outer s H E O=>?_;exact(aL (bT (m9 [none] ob0 (λ_=>rfl) (λ_=>rfl) (λ_=>zr) (jg rfl) (je (gF (λ_=>q) 1.10 (aa 1.23 (aa 1.20 ao)))) (dO 0 (λ_=>Ao)) jk (bj (Cg _ (λ_=>rfl) (Gy O) (λ_=>rfl)) (λ_=>rfl) (λ_=>B.sorted) boot_sorted (aa 1.23 ao)))))
theorem jO:bF nl0 nl0 (aC cP):=⟨rfl,rfl,rfl,by decide +kernel,rfl,by decide +kernel,by decide +kernel⟩
theorem pF{f:Addr}{fd:ZC}(F:Fun K "all_classes" "Stack.all_classes" cP f fd)(B:Blt mg)(q:yS P w K mg base)(J:iD P w K mg base 1 "Stack" "standing" nl0 (spP ⟨K,mg⟩ aX))(D:Kla K mg "Stack" nl4):dJ P w K mg base CX0 4 f fd nl0 (spP ⟨K,mg⟩ bc):=by
 have nd:∀_:Unit,_:=λ_=>jO.nd;refine okP (k:=3) (ob:=(λi=>false)) (Pr:=λ_=>false) F jO λZ A outer s H E O=>?_;exact(aL (bT (gF (λ_=>q) 1.10 (aa (pY (Iu (λ_=>rfl)) (λ_=>rfl) (λ_=>B.list_) aeo (aa (gh D 1.23) ao)) (aa (k_ (λ_=>J) 1.10 1.23) ao)))))
theorem pA:bF K_ K_ (aC gn):=⟨rfl,rfl,rfl,by decide +kernel,rfl,by decide +kernel,by decide +kernel⟩
theorem vJ{f:Addr}{fd:ZC}(F:Fun K "check_there" "check_there" gn f fd)(B:Blt mg):dJ P w K mg base CX0 1 f fd K_ (spP ⟨K,mg⟩ bU):=by
 have nd:∀_:Unit,_:=λ_=>pA.nd;refine okP (k:=0) (ob:=(λi=>false)) (Pr:=λ_=>false) F pA λZ A outer s H E O=>?_;exact(aL (dg (bR (wB (λ_=>aR O)) 1.20 1.23) (aL yp) cg))
theorem oN:bF Iv Iv (aC gA):=⟨rfl,rfl,rfl,by decide +kernel,rfl,by decide +kernel,by decide +kernel⟩
theorem xg{f:Addr}{fd:ZC}(F:Fun K "weigh" "Stack.weigh" gA f fd)(B:Blt mg)(N:jJ P w K mg base)(D:Kla K mg "Stack" nl4):dJ P w K mg base CX0 2 f fd Iv (spI ⟨K,mg⟩ ob0 ob0 dh):=by
 have nd:∀_:Unit,_:=λ_=>oN.nd;refine okI (k:=1) (ob:=ob0) (pr:=ob0) F oN λZ A outer s H E O=>?_;exact(az (nH (cu (gF (λ_=>N) 1.10 (aa (gh D (aj true 0)) (aa 1.20 ao)))))
  (az (iK dR Zu ZS ZV (kh D (bH 0)) (aa (gR (aa (gR (aa gY (aa 1.20 (aa (aj false 2) ao)))) (aa (dm 1.17 (gh D (aj true 0)) 1.20) ao))) ao))
  (aL (nG (aj false 2) (pK (pR (λ_=>aR O)) (kh D (bH 0)) 1.20)))))
theorem ul:bF nl1 nl1 (aC iW):=⟨rfl,rfl,rfl,by decide +kernel,rfl,by decide +kernel,by decide +kernel⟩
def wC:Scope:={kind:=.function,names:=[(".0",.local),("_law_one",.local),("_law_other",.local),("_law_same",.globalImplicit)],isGenerator:=false,isCoroutine:=false}
theorem qy:(["_law_one","_law_other"]:List Str).Nodup:=by decide +kernel
theorem xT:dZ (aC iW) nl1 ["_law_one","_law_other"] wC [none,none]:=by trivial
theorem lQ{f:Addr}{fd:ZC}{n:Nat}{Frec:List D->Option D}(F:Fun K "_law_same" "_law_same" iW f fd)(B:Blt mg)(N:Cal P w K mg base (0+n) "_law_same" nl1 (spP ⟨K,mg⟩ Frec)):dJ P w K mg base CX0 (0+n+1) f fd nl1 (spP ⟨K,mg⟩ (aU Frec)):=by
 have nd:∀_:Unit,_:=λ_=>ul.nd;refine okP (k:=0+n) (ob:=(λi=>false)) (Pr:=λ_=>false) F ul λZ A outer s H E O=>?_;exact(az (dg (bR FT 1.20 m6) (aL (bT (lX FT 1.23 m6))) cg)
  (az (dg (lF (bj dF (λ_=>rfl) (λ_=>B.isinstance) aas (aa 1.20 (aa (mW (λ_=>rfl) (λ_=>B.bool_) boot_bool) ao)))) (aL (bT (ud (bj dF (λ_=>rfl) (λ_=>B.isinstance) aas (aa 1.23 (aa (mW (λ_=>rfl) (λ_=>B.bool_) boot_bool) ao))) (vG (lX 1.22 1.23 1.20))))) cg)
  (az (dg (lF (bj dF (λ_=>rfl) (λ_=>B.isinstance) aas (aa 1.20 (aa (gR (aa (mW (λ_=>rfl) (λ_=>B.list_) aeo) (aa (mW (λ_=>rfl) (λ_=>B.tuple) boot_tuple) ao))) ao)))) (az (dg (Gj (Ey (bR (yz _ (λ_=>rfl) O.units) (bj dF (λ_=>rfl) (λ_=>B.isinstance) aas (aa 1.23 (aa (mW (λ_=>rfl) (λ_=>B.list_) aeo) ao))) (bj dF (λ_=>rfl) (λ_=>B.isinstance) aas (aa 1.20 (aa (mW (λ_=>rfl) (λ_=>B.list_) aeo) ao)))) (zB (bR (yz _ (λ_=>rfl) O.units) (bj dF (λ_=>rfl) (λ_=>B.isinstance) aas (aa 1.23 (aa (mW (λ_=>rfl) (λ_=>B.tuple) boot_tuple) ao))) (bj dF (λ_=>rfl) (λ_=>B.isinstance) aas (aa 1.20 (aa (mW (λ_=>rfl) (λ_=>B.tuple) boot_tuple) ao))))))) (aL (bT CT)) cg)
  (aL (bT (ud (lX 1.22 (bj iM (λ_=>rfl) (λ_=>B.len) aby (aa 1.23 ao)) (bj iM (λ_=>rfl) (λ_=>B.len) aby (aa 1.20 ao))) (vG (bj (Hh (λ_=>rfl)) (λ_=>rfl) (λ_=>B.all) boot_all (aa (m9 [none,none] (λi=>i==0||i==1) (λ_=>rfl) (λ_=>rfl) (λ_=>xT) (jg rfl) (M9 (λ_=>rfl) (λ_=>B.zip) (aa 1.23 (aa 1.20 ao))) (wg (λ_=>rfl) (jG (dO 0 (λ_=>qy)) (jG (dO 1 (λ_=>qy)) ug))) jk (gF (λ_=>N) (λ_=>O.mono 1.11) (aa 1.23 (aa 1.20 ao)))) ao))))))) cg)
  (az (dg (lF (bj dF (λ_=>rfl) (λ_=>B.isinstance) aas (aa 1.20 (aa (mW (λ_=>rfl) (λ_=>B.str_) boot_str) ao)))) (aL (bT (ud (bj dF (λ_=>rfl) (λ_=>B.isinstance) aas (aa 1.23 (aa (mW (λ_=>rfl) (λ_=>B.str_) boot_str) ao))) (vG (lX 1.22 1.23 1.20))))) cg)
  (aL (bT (ud (bj dF (λ_=>rfl) (λ_=>B.isinstance) aas (aa 1.23 (aa (mW (λ_=>rfl) (λ_=>B.int_) boot_int) ao))) (ud (Ug (bj dF (λ_=>rfl) (λ_=>B.isinstance) aas (aa 1.23 (aa (mW (λ_=>rfl) (λ_=>B.bool_) boot_bool) ao)))) (vG (lX 1.22 1.23 1.20))))))))))
theorem xm:bF JN JN (aC kO):=⟨rfl,rfl,rfl,by decide +kernel,rfl,by decide +kernel,by decide +kernel⟩
theorem Ex{f:Addr}{fd:ZC}(F:Fun K "counted" "counted" kO f fd)(B:Blt mg):dJ P w K mg base CX0 1 f fd JN (spP ⟨K,mg⟩ eF):=by
 have nd:∀_:Unit,_:=λ_=>xm.nd;refine okP (k:=0) (ob:=(λi=>false)) (Pr:=λ_=>false) F xm λZ A outer s H E O=>?_;exact(az (dg (bR 1.22 1.23 aJ) (aL (jN 1)) cg)
  (aL (bT (cQ pq 1.20 1.23))))
theorem ou:bF ["self","name","chain"] HF (aC gm):=⟨rfl,rfl,rfl,by decide +kernel,rfl,by decide +kernel,by decide +kernel⟩
theorem xj{f:Addr}{fd:ZC}(F:Fun K "chain" "Stack.chain" gm f fd)(B:Blt mg)(N:jJ P w K mg base)(D:Kla K mg "Stack" nl4):dJ P w K mg base CX0 2 f fd HF (spP ⟨K,mg⟩ bz):=by
 have nd:∀_:Unit,_:=λ_=>ou.nd;refine okP (k:=1) (ob:=(λi=>false)) (Pr:=λ_=>false) F ou λZ A outer s H E O=>?_;exact(az (nH (cu (gF (λ_=>N) 1.10 (aa (gh D 1.23) (aa 1.20 ao)))))
  (az (cI 2 nd (nF (aa 1.20 ao)))
  (az (yU 1000000 (λ_=>aba) (Az (bR (Ln (λ_=>aR O)) (dm 1.17 (aj false 2) (nW j5 aJ)) (gh D 1.23))) (aL (iK dR Zu ZS ZV (bH 2) (aa (dm 1.17 (dm 1.17 (gh D 1.23) (dm 1.17 (aj false 2) (nW j5 aJ))) aJ) ao))))
  (aL (jN 2)))))
theorem nZ:bF nl7 nl7 (aC dU):=⟨rfl,rfl,rfl,by decide +kernel,rfl,by decide +kernel,by decide +kernel⟩
def qO:Scope:={kind:=.function,names:=[(".0",.local),("name",.local),("self",.free)],isGenerator:=false,isCoroutine:=false}
theorem rA:(["name","self"]:List Str).Nodup:=by decide +kernel
theorem rJ:dZ (aC dU) nl7 ["name","self"] qO [none,some 0]:=by trivial
theorem uP{f:Addr}{fd:ZC}(F:Fun K "offset" "Stack.offset" dU f fd)(B:Blt mg)(D:Kla K mg "Stack" nl4):dJ P w K mg base CX0 1 f fd nl7 (spP ⟨K,mg⟩ bw):=by
 have nd:∀_:Unit,_:=λ_=>nZ.nd;refine okP (k:=0) (ob:=(λi=>false)) (Pr:=λ_=>false) F nZ λZ A outer s H E O=>?_;exact(aL (bT (bj (Pu (λ_=>rfl)) (λ_=>rfl) (λ_=>B.sum) boot_sum (aa (m9 [none,some 0] ob0 (λ_=>rfl) (λ_=>rfl) (λ_=>rJ) (jg rfl) (je (jX slb 1.20 jR (jZ (nW j5 aJ)))) (dO 0 (λ_=>rA)) jk (dm 1.17 (dm 1.17 (gh D 1.20) 1.23) aJ)) ao))))
theorem oA:bF ["self","one","other","here","there"] Km (aC gw):=⟨rfl,rfl,rfl,by decide +kernel,rfl,by decide +kernel,by decide +kernel⟩
theorem vK{f:Addr}{fd:ZC}(F:Fun K "steps" "Stack.steps" gw f fd)(B:Blt mg)(N:jJ P w K mg base)(I:t8 P w K mg base)(q:iD P w K mg base 2 "Stack" "chain" HF (spP ⟨K,mg⟩ bz))(U:iD P w K mg base 1 "Stack" "offset" nl7 (spP ⟨K,mg⟩ bw))(D:Kla K mg "Stack" nl4):dJ P w K mg base CX0 3 f fd Km (spI ⟨K,mg⟩ ob0 ob0 cZ):=by
 have nd:∀_:Unit,_:=λ_=>oA.nd;refine okI (k:=2) (ob:=ob0) (pr:=ob0) F oA λZ A outer s H E O=>?_;exact(az (nH (cu (gF (λ_=>N) 1.10 (aa (gh D (aj true 0)) (aa 1.20 ao)))))
  (az (nH (cu (gF (λ_=>N) 1.10 (aa (gh D (aj true 0)) (aa (aj false 2) ao)))))
  (az (dg (bR 1.22 1.20 (aj false 2)) (az (lH D (cu aJ) (bH 0))
  (aL (bT aJ))) cg)
  (az (Af 3 4 (λ_=>rfl) nd (aa (lJ (λ_=>q) 1.10 (aj true 0) (aa 1.20 ao)) (aa (lJ (λ_=>q) 1.10 (aj true 0) (aa (aj false 2) ao)) ao)))
  (az (lH D (cu (Ie (λ_=>rfl) (λ_=>B.len) (λ_=>B.set_) (aa (cQ iR (aj false 3) (aj false 4)) ao))) (bH 0))
  (az (dg (bR (yz _ (λ_=>rfl) O.units) (dm 1.17 (aj false 3) (nW j5 aJ)) (dm 1.17 (aj false 4) (nW j5 aJ))) (aL (bT m6)) cg)
  (aL (bT (gF (λ_=>I) 1.10 (aa (gh D (aj true 0)) (aa (cQ qT (lJ (λ_=>U) 1.10 (aj true 0) (aa (aj false 4) ao)) (lJ (λ_=>U) 1.10 (aj true 0) (aa (aj false 3) ao))) ao)))))))))))
theorem qw:bF ["self","one","other","step","here","there","gap","head","hung"] nl5 (aC h_):=⟨rfl,rfl,rfl,by decide +kernel,rfl,by decide +kernel,by decide +kernel⟩
theorem xP{f:Addr}{fd:ZC}(F:Fun K "hang" "Stack.hang" h_ f fd)(B:Blt mg)(q:iD P w K mg base 2 "Stack" "chain" HF (spP ⟨K,mg⟩ bz))(U:iD P w K mg base 1 "Stack" "offset" nl7 (spP ⟨K,mg⟩ bw))(D:Kla K mg "Stack" nl4):dJ P w K mg base CX0 3 f fd nl5 (spI ⟨K,mg⟩ ob0 ob0 dD):=by
 have nd:∀_:Unit,_:=λ_=>qw.nd;refine okI (k:=2) (ob:=ob0) (pr:=ob0) F qw λZ A outer s H E O=>?_;exact(az (Af 4 5 (λ_=>rfl) nd (aa (lJ (λ_=>q) 1.10 (aj true 0) (aa 1.20 ao)) (aa (lJ (λ_=>q) 1.10 (aj true 0) (aa (aj false 2) ao)) ao)))
  (az (cI 6 nd (cQ qT (cQ iR (lJ (λ_=>U) 1.10 (aj true 0) (aa (aj false 4) ao)) (aj false 3)) (lJ (λ_=>U) 1.10 (aj true 0) (aa (aj false 5) ao))))
  (az (Af 7 8 (λ_=>rfl) nd (aa (dm 1.17 (aj false 4) (nW j5 aJ)) (aa (dm 1.17 (aj false 5) (nW j5 aJ)) ao)))
  (az (dg (bR Lg (dm 1.17 (gh D (aj true 0)) (aj false 7)) (dm 1.17 (gh D (aj true 0)) (aj false 8))) (aL (KY 7 8 6 (λ_=>rfl) nd (aa (aj false 8) (aa (aj false 7) (aa (nW j5 (aj false 6)) ao))))) cg)
  (az (nG (gR (aa (aj false 7) (aa (aj false 6) ao))) (pK (pR (λ_=>aR O)) (kh D (bH 0)) (aj false 8)))
  (az (Bt (λ_=>UJ) Tp (λ_=>aR O) (kh D (bH 0)) (aj false 7) (dm 1.17 (gh D (aj true 0)) (aj false 8)))
  (aL (jN 8))))))))
theorem qC:bF ["self","one","other","step","known","n","hung"] nl5 (aC gZ):=⟨rfl,rfl,rfl,by decide +kernel,rfl,by decide +kernel,by decide +kernel⟩
theorem xK{f:Addr}{fd:ZC}(F:Fun K "join" "Stack.join" gZ f fd)(B:Blt mg)(q:iD P w K mg base 3 "Stack" "steps" Km (spI ⟨K,mg⟩ ob0 ob0 cZ))(J:iD P w K mg base 1 "Stack" "standing" nl0 (spP ⟨K,mg⟩ aX))(N:iD P w K mg base 3 "Stack" "hang" nl5 (spI ⟨K,mg⟩ ob0 ob0 dD))(I:t8 P w K mg base)(D:Kla K mg "Stack" nl4):dJ P w K mg base CX0 4 f fd nl5 (spI ⟨K,mg⟩ ob0 ob0 dw):=by
 have nd:∀_:Unit,_:=λ_=>qC.nd;refine okI (k:=3) (ob:=ob0) (pr:=ob0) F qC λZ A outer s H E O=>?_;exact(az (cW 4 nd (oJ 0 (λ_=>q) 1.10 (bM (aa 1.20 (aa (aj false 2) ao)))))
  (az (dg (Gj (Rn (bR Bd (aj false 4) m6) (J1 (bR (yz _ (λ_=>rfl) O.units) (aj false 4) (gF (λ_=>I) 1.10 (aa (gh D (aj true 0)) (aa (aj false 3) ao))))))) (aL (bT (gR (aa gY (aa (aj false 4) ao))))) cg)
  (az (cI 5 nd (bj iM (λ_=>rfl) (λ_=>B.len) aby (aa (k_ (λ_=>J) 1.10 (aj true 0)) ao)))
  (az (cW 6 nd (QM (Az (bR FT (aj false 4) m6)) (oJ 0 (λ_=>N) 1.10 (bM (aa 1.20 (aa (aj false 2) (aa (aj false 3) ao))))) (cu m6)))
  (az (iK dR Zu ZS ZV (kh D (bH 0)) (aa (gR (aa (gR (aa gY (aa 1.20 (aa (aj false 2) (aa (aj false 3) ao))))) (aa (aj false 6) ao))) ao))
  (aL (bT (gR (aa (V2 (bR FT (aj false 4) m6) gY gY) (aa (aj false 5) ao))))))))))
theorem MF:bF Wu Qp (aC qu):=⟨rfl,rfl,rfl,by decide +kernel,rfl,by decide +kernel,by decide +kernel⟩
def HH:Scope:={kind:=.function,names:=[(".0",.local),("_law_deed",.local)],isGenerator:=false,isCoroutine:=false}
theorem Kc:(["_law_deed"]:List Str).Nodup:=by decide +kernel
theorem Ni:dZ (aC qu) Wu ["_law_deed"] HH [none]:=by trivial
theorem U5{f:Addr}{fd:ZC}(F:Fun K "law" "law" qu f fd)(B:Blt mg)(a0:uF P w K mg base)(a5:rP P w K mg base)(a6:uL P w K mg base)(a4:rK P w K mg base)(D:KMk P w K mg base 4 "Stack" nl6 (spI ⟨K,mg⟩ ob0 ob0 bN))(I:jb P w K mg base)(a1:pB P w K mg base)(a3:iD P w K mg base 2 "Stack" "back" nl0 (spI ⟨K,mg⟩ ob0 ob0 cH))(U:iD P w K mg base 1 "Stack" "deeds" nl0 (spP ⟨K,mg⟩ bW))(J:iD P w K mg base 1 "Stack" "standing" nl0 (spP ⟨K,mg⟩ aX))(V:iD P w K mg base 4 "Stack" "all_classes" nl0 (spP ⟨K,mg⟩ bc))(q:m_ P w K mg base)(Y:iD P w K mg base 2 "Stack" "weigh" Iv (spI ⟨K,mg⟩ ob0 ob0 dh))(N:uC P w K mg base)(a2:iD P w K mg base 4 "Stack" "join" nl5 (spI ⟨K,mg⟩ ob0 ob0 dw)):dJ P w K mg base CX0 6 f fd Qp (spP ⟨K,mg⟩ nA):=by
 have nd:∀_:Unit,_:=λ_=>MF.nd;refine okP (k:=5) (ob:=(λi=>i==1||i==6)) (Pr:=λ_=>false) F MF λZ A outer s H E O=>?_;exact(az (cI 1 nd (gF (λ_=>a0) 1.10 (aa 1.23 (aa aJ ao))))
  (az (cW 2 nd (eQ [1] (λ_=>a5) 1.10 (cU 1 (cT (bM ao)))))
  (az (cW 3 nd (eQ [1] (λ_=>a6) 1.10 (cU 1 (cT (bM ao)))))
  (az (cW 4 nd (eQ [1] (λ_=>a4) 1.10 (cU 1 (cT (bM (aa (aj false 2) ao))))))
  (az (cI 5 nd (pY Oc (λ_=>rfl) (λ_=>B.list_) aeo (aa (aj false 2) ao)))
  (az (cI 6 nd (Rz (λ_=>D) () 1.10 (aa (aj false 5) (aa (aj false 3) ao))))
  (az (ww ut Zu adS adT (bH 5))
  (az (iK dR Zu ZS ZV (bH 5) (aa gY ao))
  (az (cI 7 nd (nF ao))
  (az (pQ (λ_=>aba) (λ_=>rfl) (K7 (λ_=>rfl) (λ_=>B.range) (aa (cQ qQ (cQ iR aJ (bj (Cw (λ_=>rfl)) (λ_=>rfl) (λ_=>B.min) boot_min (aa aJ (aa (bj iM (λ_=>rfl) (λ_=>B.len) aby (aa 1.23 ao)) ao)))) (pY Ft (λ_=>rfl) (λ_=>B.int_) boot_int (aa (lX (yz _ (λ_=>rfl) O.units) (aj false 2) (nF ao)) ao))) ao)) (dM 8 nd) (az (cI 1 nd (gF (λ_=>a0) 1.10 (aa 1.23 (aa (cQ iR (aj false 8) aJ) ao))))
  (az (cW 9 nd (eQ [1] (λ_=>I) 1.10 (cU 1 (cT (bM (aa aJ ao))))))
  (az (cW 10 nd (eQ [1] (λ_=>a1) 1.10 (cU 1 (cT (bM (aa (aj false 2) (aa (aj false 4) (aa (aj false 3) ao))))))))
  (az (dg (bR 1.22 (aj false 9) aJ) (az (nH (Jp 6 (λ_=>a3) 1.10))
  (aL (cI 7 nd (jX slb (aj false 7) jR (jZ (nW j5 aJ)))))) (aL (dg (bR 1.22 (aj false 9) aJ) (az (cW 11 nd (eQ [1] (λ_=>q) 1.10 (cU 1 (cT (bM ao)))))
  (az (nH (oJ 6 (λ_=>Y) 1.10 (bM (aa (dm 1.17 (aj false 10) aJ) (aa (aj false 11) ao)))))
  (aL (iK dR Zu ZS ZV (bH 7) (aa (gR (aa gY (aa (dm 1.17 (aj false 10) aJ) (aa (aj false 11) ao)))) ao))))) (aL (zJ (xf (yz _ (λ_=>rfl) O.units) (vH 1.17 (oJ 6 (λ_=>a2) 1.10 (bM (aa (dm 1.17 (aj false 10) aJ) (aa (dm 1.17 (aj false 10) aJ) (aa (dm 1.17 (aj false 10) aJ) ao))))) (cu aJ)) (cu gY)) (aL (iK dR Zu ZS ZV (bH 7) (aa (cQ iR (gR (aa gY ao)) (aj false 10)) ao))) cg)))))
  (aL (pQ (λ_=>aba) (λ_=>rfl) (K7 (λ_=>rfl) (λ_=>B.range) (aa aJ ao)) (dM 12 nd) (az (cI 13 nd (k_ (λ_=>U) 1.10 (aj true 6)))
  (az (cI 14 nd (k_ (λ_=>J) 1.10 (aj true 6)))
  (az (dg (vo (lF (gF (λ_=>N) 1.10 (aa (aj false 13) (aa (aj false 7) ao))))) (aL (bT CT)) cg)
  (az (dg (vo (lF (gF (λ_=>N) 1.10 (aa (aj false 14) (aa (m9 [none] ob0 (λ_=>rfl) (λ_=>rfl) (λ_=>Ni) (jg rfl) (je (aj false 7)) (dO 0 (λ_=>Kc)) (Bx (bR 1.22 (dm 1.17 1.23 aJ) gY)) (jX slb 1.23 (jZ aJ) jR)) ao))))) (aL (bT CT)) cg)
  (az (iK dR Zu ZS ZV (bH 13) (aa (gR (aa gY (aa gY (aa gY (aa aJ ao))))) ao))
  (az (ww ut Zu adS adT (bH 13))
  (aL (ww Jj Zu PySem.F.slot_list_clear PySem.F.type_list_clear (bH 14))))))))))))))))
  (aL (bT (ud (lX 1.22 (k_ (λ_=>V) 1.10 (aj true 6)) (k_ (λ_=>V) 1.10 (aj true 6))) (vG (lX WN (bj iM (λ_=>rfl) (λ_=>B.len) aby (aa (k_ (λ_=>V) 1.10 (aj true 6)) ao)) (bj iM (λ_=>rfl) (λ_=>B.len) aby (aa (aj false 2) ao)))))))))))))))))
end
theorem Cu:∀ns:List Int,aH G H W (ns.map D.int) (ns.map V.int) []
 |[]=>.nil
 |x::r=>aH.cons (M:=[]) (M':=[]) cV (Cu r)
theorem Va{K:Frag}{ns:List Int}{Q:VK}{E:XK}(Y:ns.length<=63)(B:SqL K H a (ns.map V.int))(q:∀H',Q (.bl true) H'):spP ⟨K,mg⟩ nA [.ref a] H Q E:=by
 refine⟨[.lst .scr (ns.map D.int)],λ_=>False,?_,?_,?_,λ_ z=>z.elim,.bl true,Lz ns Y,λv H' L s r F nd c=>?_⟩
 .refine aH.one (M:=[]) ?_
  rw[Rep];refine⟨a,_,[],rfl,Cu ns,?_,rfl,rfl⟩;rcases B with z|z
  .exact .inl ⟨z,⟨λz=>z,λz=>z,λz=>z⟩⟩
  .exact .inr ⟨_,rfl,z⟩
 .simp[au,aD,bI (ds:=ns.map D.int) (by simp[aD])]
 .simp[aA,aB,bG (ds:=ns.map D.int) (by simp[aB])]
 .rw[(wL r).1];exact q H'
variable{P:List Value->Prop}
theorem un1(h:∀q,P [q]):∀us:List Value,us.length=1->P us
 |[q],_=>h q
theorem un2(h:∀q F,P [q,F]):∀us:List Value,us.length=2->P us
 |[q,F],_=>h q F
theorem un3(h:∀q F Z,P [q,F,Z]):∀us:List Value,us.length=3->P us
 |[q,F,Z],_=>h q F Z
theorem un4(h:∀q F Z U,P [q,F,Z,U]):∀us:List Value,us.length=4->P us
 |[q,F,Z,U],_=>h q F Z U
def Ob(K:Frag):Sp:=λvs H Q _=>∃(a:Addr)(ns:List Int),vs=[.ref a]/\SqL K H a (ns.map V.int)/\ns.length<=63/\∀H',Q (.bl true) H'
variable{l:ael}
theorem all_mk{K:Frag}{fa f1 f2 f3 f4 f5 f6 f7 f8 f9 h3 n3 h9 h8 g9 h5 n0 n1 m6 n2 h7 m8 g6 m7 m9 g8 h6 h0 g7 h4 m5 C1:Addr}(X:K.In h)(G:h.Ns Zd mg)(P2:mg "law"=some (.ref fa))
  {U4 V2 P6 Z6 R3 an3 od4 V7 od5 X6 T8 M5 U6 N0 od8 S0 X7 an9 G5 x8 K1 n8 w9 y4 C8 o1 H6 w8 o9 C4 A0 C3 x2 E7 q3 r6 H3 B3 t7 H8 B1 D6 w3 n4 I4 L2 n6 J1 z0 u5 t9 w4 s4 o2 t2 t0 s3 D0 o5 i8:Option Addr} {sl1 S8 sl3 X4 P5 V4 U8 sl8 U3 L5 K0 G2 D1 q5 A8 w5 o0 E2 u0 A3 L1 t1 n9 q7 x5 o3 I3 E9 x6 q9:Array (Option Value)} {R1 kV1 W3 M7 J4 R8 oc2 V1 U7 P0 D2 N8 N7 Z5 M0 T2 D5 X5 P7 W9 X3 M8 o4 V9 L7 Q6 Z1 N9 x3 ct5 R2 kV6 N6 pm6 J9 ct6 O0 L9 N5 pm7 y2 V3 W8 Z0 L8 S7 D4 P4 T5 W1 R0 Q2 r2 Z3 B2 s9 o7 t6 i0 t3 B9 w0 q6 I7 m3 A5 x7 B7 y3 p0 m1 B6 A7 D9 C6 J8 m4 G6 p8 y8 D3 s6 j9 L3 G4 o6 p6 C0 m0 A4 r9 q4 E6 B0 j2 u2 v2 K4 E3 p9 j3 F0 D7 E5 A6 r8 i5 w2 K3 r4 B4 G1 m2 u1 v5 n7 v6 I1 i6 p5 w1 A2 u6 G8 j7 s2 s7 C2 E8 E4 l0 u9 C7 K8 q8 y7 i9 p7 v0 y0 p3 x9 k0 w6 J7 H9 I8 J3 i3 s1 G0 G9 u3 x0 j5 r1 L0 v4 n5 r0 j8 G3 I2 t5 y5 J5 j4 H7 r5 y6 r3 E0 j0 K5 v7 i4 j6 j1 g4 i7:Value} {V0 X8:Tok}
  (F:nsIn K Zd "_law_tape"=some (some (.ref f1)))
  (l1:K.lookup f1=some ⟨R1,U4,.func (fnOf "_law_tape" "_law_tape" (bC jq) (bx jq) (aC jq) .none kV1 W3 M7 V2 J4 R8),sl1⟩) (Z:codeIn K J4 "_law_tape"=true) (k1:keepIn K (.ref f1)=true)
  (a2:nsIn K Zd "_law_draw"=some (some (.ref f2)))
  (l2:K.lookup f2=some ⟨oc2,P6,.func (fnOf "_law_draw" "_law_draw" (bC jH) (bx jH) (aC jH) .none V1 U7 P0 Z6 D2 N8),S8⟩) (c2:codeIn K D2 "_law_draw"=true) (k2:keepIn K (.ref f2)=true)
  (a3:nsIn K Zd "_law_names"=some (some (.ref f3)))
  (l3:K.lookup f3=some ⟨N7,R3,.func (fnOf "_law_names" "_law_names" (bC iY) (bx iY) (aC iY) .none Z5 M0 T2 an3 D5 X5),sl3⟩) (c3:codeIn K D5 "_law_names"=true) (k3:keepIn K (.ref f3)=true)
  (a4:nsIn K Zd "_law_turn"=some (some (.ref f4)))
  (l4:K.lookup f4=some ⟨P7,od4,.func (fnOf "_law_turn" "_law_turn" (bC jz) (bx jz) (aC jz) .none W9 X3 M8 V7 o4 V9),X4⟩) (c4:codeIn K o4 "_law_turn"=true) (k4:keepIn K (.ref f4)=true)
  (a5:nsIn K Zd "_law_far"=some (some (.ref f5)))
  (l5:K.lookup f5=some ⟨L7,od5,.func (fnOf "_law_far" "_law_far" (bC kW) (bx kW) (aC kW) .none Q6 Z1 N9 X6 x3 ct5),P5⟩) (c5:codeIn K x3 "_law_far"=true) (k5:keepIn K (.ref f5)=true)
  (a6:nsIn K Zd "_law_marks"=some (some (.ref f6)))
  (l6:K.lookup f6=some ⟨R2,T8,.func (fnOf "_law_marks" "_law_marks" (bC gV) (bx gV) (aC gV) .none kV6 N6 pm6 M5 J9 ct6),V4⟩) (c6:codeIn K J9 "_law_marks"=true) (k6:keepIn K (.ref f6)=true)
  (a7:nsIn K Zd "is_name"=some (some (.ref f7)))
  (l7:K.lookup f7=some ⟨O0,U6,.func (fnOf "is_name" "is_name" (bC ju) (bx ju) (aC ju) .none L9 N5 pm7 N0 y2 V3),U8⟩) (c7:codeIn K y2 "is_name"=true) (k7:keepIn K (.ref f7)=true)
  (a8:nsIn K Zd "check_new"=some (some (.ref f8)))
  (l8:K.lookup f8=some ⟨W8,od8,.func (fnOf "check_new" "check_new" (bC i_) (bx i_) (aC i_) .none Z0 L8 S7 S0 D4 P4),sl8⟩) (c8:codeIn K D4 "check_new"=true) (k8:keepIn K (.ref f8)=true)
  (a9:nsIn K Zd "check_names"=some (some (.ref f9)))
  (l9:K.lookup f9=some ⟨T5,X7,.func (fnOf "check_names" "check_names" (bC gq) (bx gq) (aC gq) .none W1 R0 Q2 an9 r2 Z3),U3⟩) (c9:codeIn K r2 "check_names"=true) (k9:keepIn K (.ref f9)=true)
  (Q7:Zm K (.ref C1) "__init__"=some (some (.ref h3))) (Q3:aaq K (.ref h3)=true)
  (V8:K.lookup h3=some ⟨B2,G5,.func (fnOf "__init__" "Stack.__init__" (bC cD) (bx cD) (aC cD) .none s9 o7 t6 x8 i0 t3),L5⟩) (N2:codeIn K i0 "Stack.__init__"=true) (k10:keepIn K (.ref h3)=true)
  (V6:nsIn K Zd "_law_joining"=some (some (.ref n3)))
  (M4:K.lookup n3=some ⟨B9,K1,.func (fnOf "_law_joining" "_law_joining" (bC gB) (bx gB) (aC gB) .none w0 q6 I7 n8 m3 A5),K0⟩) (c11:codeIn K m3 "_law_joining"=true) (u8:keepIn K (.ref n3)=true)
  (Y5:Zm K (.ref C1) "unhang"=some (some (.ref h9))) (Y6:aaq K (.ref h9)=true)
  (X2:K.lookup h9=some ⟨x7,w9,.func (fnOf "unhang" "Stack.unhang" (bC fG) (bx fG) (aC fG) .none B7 y3 p0 y4 m1 B6),G2⟩) (T9:codeIn K m1 "Stack.unhang"=true) (s8:keepIn K (.ref h9)=true)
  (N3:Zm K (.ref C1) "back"=some (some (.ref h8))) (S3:aaq K (.ref h8)=true)
  (U2:K.lookup h8=some ⟨A7,C8,.func (fnOf "back" "Stack.back" (bC ig) (bx ig) (aC ig) .none D9 C6 J8 o1 m4 G6),D1⟩) (Q8:codeIn K m4 "Stack.back"=true) (A9:keepIn K (.ref h8)=true)
  (a14:Zm K (.ref C1) "deeds"=some (some (.ref g9))) (Q0:aaq K (.ref g9)=true)
  (O5:K.lookup g9=some ⟨p8,H6,.func (fnOf "deeds" "Stack.deeds" (bC eZ) (bx eZ) (aC eZ) .none y8 D3 s6 w8 j9 L3),q5⟩) (c14:codeIn K j9 "Stack.deeds"=true) (s0:keepIn K (.ref g9)=true)
  (M1:Zm K (.ref C1) "standing"=some (some (.ref h5))) (Z2:aaq K (.ref h5)=true)
  (T6:K.lookup h5=some ⟨G4,o9,.func (fnOf "standing" "Stack.standing" (bC cY) (bx cY) (aC cY) .none o6 p6 C0 C4 m0 A4),A8⟩) (P8:codeIn K m0 "Stack.standing"=true) (K6:keepIn K (.ref h5)=true)
  (R4:nsIn K Zd "ends_by_name"=some (some (.ref n0)))
  (P1:K.lookup n0=some ⟨r9,A0,.func (fnOf "ends_by_name" "ends_by_name" (bC d9) (bx d9) (aC d9) .none q4 E6 B0 C3 j2 u2),w5⟩) (R7:codeIn K j2 "ends_by_name"=true) (o8:keepIn K (.ref n0)=true)
  (Y4:nsIn K Zd "ways_from"=some (some (.ref n1)))
  (T7:K.lookup n1=some ⟨v2,x2,.func (fnOf "ways_from" "ways_from" (bC iZ) (bx iZ) (aC iZ) .none K4 E3 p9 E7 j3 F0),o0⟩) (R5:codeIn K j3 "ways_from"=true) (H0:keepIn K (.ref n1)=true)
  (a18:nsIn K Zd "trees"=some (some (.ref m6)))
  (O7:K.lookup m6=some ⟨D7,q3,.func (fnOf "trees" "trees" (bC pP) (bx pP) (aC pP) .none E5 A6 r8 r6 i5 w2),E2⟩) (X9:codeIn K i5 "trees"=true) (K7:keepIn K (.ref m6)=true)
  (T1:nsIn K Zd "classes"=some (some (.ref n2)))
  (Z9:K.lookup n2=some ⟨K3,H3,.func (fnOf "classes" "classes" (bC jB) (bx jB) (aC jB) .none r4 B4 G1 B3 m2 u1),u0⟩) (Z8:codeIn K m2 "classes"=true) (J6:keepIn K (.ref n2)=true)
  (S9:Zm K (.ref C1) "all_classes"=some (some (.ref h7))) (X1:aaq K (.ref h7)=true)
  (W7:K.lookup h7=some ⟨v5,t7,.func (fnOf "all_classes" "Stack.all_classes" (bC cP) (bx cP) (aC cP) .none n7 v6 I1 H8 i6 p5),A3⟩) (Q5:codeIn K i6 "Stack.all_classes"=true) (G7:keepIn K (.ref h7)=true)
  (Q1:nsIn K Zd "check_there"=some (some (.ref m8)))
  (l21:K.lookup m8=some ⟨w1,B1,.func (fnOf "check_there" "check_there" (bC gn) (bx gn) (aC gn) .none A2 u6 G8 D6 j7 s2),L1⟩) (N4:codeIn K j7 "check_there"=true) (K9:keepIn K (.ref m8)=true)
  (M9:Zm K (.ref C1) "weigh"=some (some (.ref g6))) (O9:aaq K (.ref g6)=true)
  (R9:K.lookup g6=some ⟨s7,w3,.func (fnOf "weigh" "Stack.weigh" (bC gA) (bx gA) (aC gA) .none C2 E8 E4 n4 l0 u9),t1⟩) (X0:codeIn K l0 "Stack.weigh"=true) (s5:keepIn K (.ref g6)=true)
  (g3:nsIn K Zd "_law_same"=some (some (.ref m7)))
  (W5:K.lookup m7=some ⟨C7,I4,.func (fnOf "_law_same" "_law_same" (bC iW) (bx iW) (aC iW) .none K8 q8 y7 L2 i9 p7),n9⟩) (P3:codeIn K i9 "_law_same"=true) (g0:keepIn K (.ref m7)=true)
  (Z4:nsIn K Zd "counted"=some (some (.ref m9)))
  (S4:K.lookup m9=some ⟨v0,n6,.func (fnOf "counted" "counted" (bC kO) (bx kO) (aC kO) .none y0 p3 x9 J1 k0 w6),q7⟩) (U9:codeIn K k0 "counted"=true) (B5:keepIn K (.ref m9)=true)
  (Y7:Zm K (.ref C1) "chain"=some (some (.ref g8))) (N1:aaq K (.ref g8)=true)
  (W2:K.lookup g8=some ⟨J7,z0,.func (fnOf "chain" "Stack.chain" (bC gm) (bx gm) (aC gm) .none H9 I8 J3 u5 i3 s1),x5⟩) (W0:codeIn K i3 "Stack.chain"=true) (D8:keepIn K (.ref g8)=true)
  (Y0:Zm K (.ref C1) "offset"=some (some (.ref h6))) (T0:aaq K (.ref h6)=true)
  (l26:K.lookup h6=some ⟨G0,t9,.func (fnOf "offset" "Stack.offset" (bC dU) (bx dU) (aC dU) .none G9 u3 x0 w4 j5 r1),o3⟩) (S5:codeIn K j5 "Stack.offset"=true) (I5:keepIn K (.ref h6)=true)
  (Y8:Zm K (.ref C1) "steps"=some (some (.ref h0))) (R6:aaq K (.ref h0)=true)
  (Z7:K.lookup h0=some ⟨L0,s4,.func (fnOf "steps" "Stack.steps" (bC gw) (bx gw) (aC gw) .none v4 n5 r0 o2 j8 G3),I3⟩) (Y1:codeIn K j8 "Stack.steps"=true) (u7:keepIn K (.ref h0)=true)
  (W4:Zm K (.ref C1) "hang"=some (some (.ref g7))) (T3:aaq K (.ref g7)=true)
  (T4:K.lookup g7=some ⟨I2,t2,.func (fnOf "hang" "Stack.hang" (bC h_) (bx h_) (aC h_) .none t5 y5 J5 t0 j4 H7),E9⟩) (O4:codeIn K j4 "Stack.hang"=true) (E1:keepIn K (.ref g7)=true)
  (Q4:Zm K (.ref C1) "join"=some (some (.ref h4))) (i29:aaq K (.ref h4)=true)
  (Y9:K.lookup h4=some ⟨r5,s3,.func (fnOf "join" "Stack.join" (bC gZ) (bx gZ) (aC gZ) .none y6 r3 E0 D0 j0 K5),x6⟩) (c29:codeIn K j0 "Stack.join"=true) (y1:keepIn K (.ref h4)=true)
  (M6:nsIn K Zd "law"=some (some (.ref m5)))
  (S6:K.lookup m5=some ⟨v7,o5,.func (fnOf "law" "law" (bC qu) (bx qu) (aC qu) .none i4 j6 j1 i8 g4 i7),q9⟩) (Y2:codeIn K g4 "law"=true) (M2:keepIn K (.ref m5)=true)
  (b2:nsIn K Zd "Stack"=some (some (.ref C1))) (P9:ab_ K C1 Str.empty=true) (M3:acF K C1=true) (U0:adK K C1=true) (sa1:Zm K (.ref C1) "__setattr__"=some (some (.builtin "object.__setattr__"))) (mk1:aej K C1=true) (O2:keepIn K (.ref C1)=true)
  (J0:Zm K (.ref C1) "turn"=some none)
  (I0:Zm K (.ref C1) "weights"=some none)
  (L4:Zm K (.ref C1) "behind"=some none)
  (C9:Zm K (.ref C1) "sizes"=some none)
  (A1:Zm K (.ref C1) "done"=some none)
  (t4:Zm K (.ref C1) "looked"=some none)
  (O:nsIn K Zd "LETTERS"=some (some (.str "abcdefghijklmnopqrstuvwxyz" V0)))
  (g2:nsIn K Zd "LONGEST"=some (some (.int 8 X8)))
  (z1:nsIn K Zd "abs"=some none)
  (z2:nsIn K Zd "all"=some none)
  (z3:nsIn K Zd "bool"=some none)
  (z4:nsIn K Zd "dict"=some none)
  (z5:nsIn K Zd "enumerate"=some none)
  (z6:nsIn K Zd "int"=some none)
  (z7:nsIn K Zd "isinstance"=some none)
  (z8:nsIn K Zd "len"=some none)
  (z9:nsIn K Zd "list"=some none)
  (Y3:nsIn K Zd "max"=some none)
  (W6:nsIn K Zd "min"=some none)
  (O6:nsIn K Zd "range"=some none)
  (z13:nsIn K Zd "set"=some none)
  (O8:nsIn K Zd "sorted"=some none)
  (U1:nsIn K Zd "str"=some none)
  (O3:nsIn K Zd "sum"=some none)
  (V5:nsIn K Zd "tuple"=some none)
  (Q9:nsIn K Zd "zip"=some none) :
  ∃fd:ZC,(∀(s:zb)(v:Value),aeC s fd ⟨[v],[]⟩ [("_law_script",v)])/\∀base:Heap,K.In base->base.Ns Zd mg->dJ l.prog w K mg base CX0 6 fa fd Qp (Ob K):=by
 have e:=P2.symm.trans (mg_of X G M6);cases e;have B:Blt mg:=⟨mg_none_of X G z1,mg_none_of X G z2,mg_none_of X G z3,mg_none_of X G z4,mg_none_of X G z5,mg_none_of X G z6,mg_none_of X G z7,mg_none_of X G z8,mg_none_of X G z9,mg_none_of X G Y3,mg_none_of X G W6,mg_none_of X G O6,mg_none_of X G z13,mg_none_of X G O8,mg_none_of X G U1,mg_none_of X G O3,mg_none_of X G V5,mg_none_of X G Q9⟩;have b3:Cls K C1:=⟨P9,M3,U0,sa1⟩;have D:Kla K mg "Stack" nl4:=⟨C1,mg_of X G b2,b3,abb.mpr ⟨J0,abb.mpr ⟨I0,abb.mpr ⟨L4,abb.mpr ⟨C9,abb.mpr ⟨A1,abb.mpr ⟨t4,List.forall_mem_nil _⟩⟩⟩⟩⟩⟩⟩;have e7:Glb mg "LETTERS" (.str "abcdefghijklmnopqrstuvwxyz"):=⟨_,mg_of X G O,⟨_,rfl⟩⟩;have e9:Glb mg "LONGEST" (.int 8):=⟨_,mg_of X G g2,⟨_,rfl⟩⟩;have F1:=cG (st:=jq) l1 Z k1;have F2:=cG (st:=jH) l2 c2 k2;have F3:=cG (st:=iY) l3 c3 k3;have F4:=cG (st:=jz) l4 c4 k4;have F5:=cG (st:=kW) l5 c5 k5;have F6:=cG (st:=gV) l6 c6 k6;have F7:=cG (st:=ju) l7 c7 k7;have F8:=cG (st:=i_) l8 c8 k8;have F9:=cG (st:=gq) l9 c9 k9;have L6:=cG (st:=cD) V8 N2 k10;have p4:=cG (st:=gB) M4 c11 u8;have I6:=cG (st:=fG) X2 T9 s8;have v1:=cG (st:=ig) U2 Q8 A9;have u4:=cG (st:=eZ) O5 c14 s0;have r7:=cG (st:=cY) T6 P8 K6;have C5:=cG (st:=d9) P1 R7 o8;have I9:=cG (st:=iZ) T7 R5 H0;have y9:=cG (st:=pP) O7 X9 K7;have v8:=cG (st:=jB) Z9 Z8 J6;have K2:=cG (st:=cP) W7 Q5 G7;have J2:=cG (st:=gn) l21 N4 K9;have x4:=cG (st:=gA) R9 X0 s5;have e2:=cG (st:=iW) W5 P3 g0;have q0:=cG (st:=kO) S4 U9 B5;have H4:=cG (st:=gm) W2 W0 D8;have H5:=cG (st:=dU) l26 S5 I5;have v3:=cG (st:=gw) Z7 Y1 u7;have B8:=cG (st:=h_) T4 O4 E1;have w7:=cG (st:=gZ) Y9 c29 y1;have F30:=cG (st:=qu) S6 Y2 M2;refine⟨fnOf "law" "law" (bC qu) (bx qu) (aC qu) .none i4 j6 j1 i8 g4 i7,λs v=>.of_eq rfl,λbase _ _=>?_⟩;have e4:uF l.prog w K mg base:=⟨_,_,Di F1 B,mg_of X G F,k1,F1.binds (ps:=O1) λ_ _ _ _ _ _=>un2 λ_ _=>rfl⟩;have I:jb l.prog w K mg base:=⟨_,_,Bm F2 B,mg_of X G a2,k2,F2.binds (ps:=Rm) λ_ _ _ _ _ _=>un2 λ_ _=>rfl⟩;have e3:rP l.prog w K mg base:=⟨_,_,Al F3 B I,mg_of X G a3,k3,F3.binds (ps:=nl2) λ_ _ _ _ _ _=>un1 λ_=>rfl⟩;have e5:uL l.prog w K mg base:=⟨_,_,Ca F4 B I,mg_of X G a4,k4,F4.binds (ps:=nl2) λ_ _ _ _ _ _=>un1 λ_=>rfl⟩;have b0:m_ l.prog w K mg base:=⟨_,_,Fb F5 B I,mg_of X G a5,k5,F5.binds (ps:=nl2) λ_ _ _ _ _ _=>un1 λ_=>rfl⟩;have e0:rK l.prog w K mg base:=⟨_,_,zG F6 B b0,mg_of X G a6,k6,F6.binds (ps:=nl8) λ_ _ _ _ _ _=>un2 λ_ _=>rfl⟩;have e8:yj l.prog w K mg base:=⟨_,_,Em F7 B e7 e9,mg_of X G a7,k7,F7.binds (ps:=nl9) λ_ _ _ _ _ _=>un1 λ_=>rfl⟩;have d8:um l.prog w K mg base:=⟨_,_,Ab F8 B e8,mg_of X G a8,k8,F8.binds (ps:=Nq) λ_ _ _ _ _ _=>un3 λ_ _ _=>rfl⟩;have b7:qF l.prog w K mg base:=⟨_,_,wU F9 B d8,mg_of X G a9,k9,F9.binds (ps:=["things"]) λ_ _ _ _ _ _=>un1 λ_=>rfl⟩;have b1:KMk l.prog w K mg base 4 "Stack" nl6 (spI ⟨K,mg⟩ ob0 ob0 bN):=⟨C1,_,_,mg_of X G b2,⟨mk1,Q7,Q3,O2⟩,sE L6 B b7 D,L6.binds (ps:=nl6) λ_ _ _ _ _ _=>un3 λ_ _ _=>rfl⟩;have d0:pB l.prog w K mg base:=⟨_,_,wy p4 B I b0,mg_of X G V6,u8,p4.binds (ps:=Rx) λ_ _ _ _ _ _=>un4 λ_ _ _ _=>rfl⟩;have b5:iD l.prog w K mg base 1 "Stack" "unhang" Ml (spI ⟨K,mg⟩ ob0 ob0 cO):=⟨C1,_,_,mg_of X G b2,b3,⟨Y5,Y6,s8⟩,uX I6 B D,I6.binds (ps:=Ml) λ_ _ _ _ _ _=>un2 λ_ _=>rfl⟩;have d1:iD l.prog w K mg base 2 "Stack" "back" nl0 (spI ⟨K,mg⟩ ob0 ob0 cH):=⟨C1,_,_,mg_of X G b2,b3,⟨N3,S3,A9⟩,xW v1 B b5 D,v1.binds (ps:=nl0) λ_ _ _ _ _ _=>un1 λ_=>rfl⟩;have c0:iD l.prog w K mg base 1 "Stack" "deeds" nl0 (spP ⟨K,mg⟩ bW):=⟨C1,_,_,mg_of X G b2,b3,⟨a14,Q0,s0⟩,v9 u4 B D,u4.binds (ps:=nl0) λ_ _ _ _ _ _=>un1 λ_=>rfl⟩;have J:iD l.prog w K mg base 1 "Stack" "standing" nl0 (spP ⟨K,mg⟩ aX):=⟨C1,_,_,mg_of X G b2,b3,⟨M1,Z2,K6⟩,qX r7 B D,r7.binds (ps:=nl0) λ_ _ _ _ _ _=>un1 λ_=>rfl⟩;have b4:oK l.prog w K mg base:=⟨_,_,uZ C5 B,mg_of X G R4,o8,C5.binds (ps:=nl3) λ_ _ _ _ _ _=>un2 λ_ _=>rfl⟩;have e1:uy l.prog w K mg base:=⟨_,_,zm I9 B,mg_of X G Y4,H0,I9.binds (ps:=QG) λ_ _ _ _ _ _=>un2 λ_ _=>rfl⟩;have g5:GD l.prog w K mg base:=⟨_,_,N_ y9 B b4 e1,mg_of X G a18,K7,y9.binds (ps:=nl3) λ_ _ _ _ _ _=>un2 λ_ _=>rfl⟩;have f0:yS l.prog w K mg base:=⟨_,_,Fi v8 B g5,mg_of X G T1,J6,v8.binds (ps:=nl3) λ_ _ _ _ _ _=>un2 λ_ _=>rfl⟩;have V:iD l.prog w K mg base 4 "Stack" "all_classes" nl0 (spP ⟨K,mg⟩ bc):=⟨C1,_,_,mg_of X G b2,b3,⟨S9,X1,G7⟩,pF K2 B f0 J D,K2.binds (ps:=nl0) λ_ _ _ _ _ _=>un1 λ_=>rfl⟩;have N:jJ l.prog w K mg base:=⟨_,_,vJ J2 B,mg_of X G Q1,K9,J2.binds (ps:=K_) λ_ _ _ _ _ _=>un2 λ_ _=>rfl⟩;have b6:iD l.prog w K mg base 2 "Stack" "weigh" Iv (spI ⟨K,mg⟩ ob0 ob0 dh):=⟨C1,_,_,mg_of X G b2,b3,⟨M9,O9,s5⟩,xg x4 B N D,x4.binds (ps:=Iv) λ_ _ _ _ _ _=>un3 λ_ _ _=>rfl⟩;have d2:Cal l.prog w K mg base (0+0) "_law_same" nl1 (spP ⟨K,mg⟩ (λ_=>none)):=⟨_,_,Ks,mg_of X G g3,g0,e2.binds (ps:=nl1) λ_ _ _ _ _ _=>un2 λ_ _=>rfl⟩;have d6:Cal l.prog w K mg base (0+1) "_law_same" nl1 (spP ⟨K,mg⟩ (aU (λ_=>none))):=⟨_,_,lQ (n:=0) e2 B  d2,mg_of X G g3,g0,e2.binds (ps:=nl1) λ_ _ _ _ _ _=>un2 λ_ _=>rfl⟩;have d7:Cal l.prog w K mg base (0+2) "_law_same" nl1 (spP ⟨K,mg⟩ (aU (aU (λ_=>none)))):=⟨_,_,lQ (n:=1) e2 B  d6,mg_of X G g3,g0,e2.binds (ps:=nl1) λ_ _ _ _ _ _=>un2 λ_ _=>rfl⟩;have d4:Cal l.prog w K mg base (0+3) "_law_same" nl1 (spP ⟨K,mg⟩ (aU (aU (aU (λ_=>none))))):=⟨_,_,lQ (n:=2) e2 B  d7,mg_of X G g3,g0,e2.binds (ps:=nl1) λ_ _ _ _ _ _=>un2 λ_ _=>rfl⟩;have e6:uC l.prog w K mg base:=⟨_,_,lQ (n:=3) e2 B  d4,mg_of X G g3,g0,e2.binds (ps:=nl1) λ_ _ _ _ _ _=>un2 λ_ _=>rfl⟩;have b8:t8 l.prog w K mg base:=⟨_,_,Ex q0 B,mg_of X G Z4,B5,q0.binds (ps:=JN) λ_ _ _ _ _ _=>un2 λ_ _=>rfl⟩;have a0:iD l.prog w K mg base 2 "Stack" "chain" HF (spP ⟨K,mg⟩ bz):=⟨C1,_,_,mg_of X G b2,b3,⟨Y7,N1,D8⟩,xj H4 B N D,H4.binds (ps:=HF) λ_ _ _ _ _ _=>un2 λ_ _=>rfl⟩;have U:iD l.prog w K mg base 1 "Stack" "offset" nl7 (spP ⟨K,mg⟩ bw):=⟨C1,_,_,mg_of X G b2,b3,⟨Y0,T0,I5⟩,uP H5 B D,H5.binds (ps:=nl7) λ_ _ _ _ _ _=>un2 λ_ _=>rfl⟩;have b9:iD l.prog w K mg base 3 "Stack" "steps" Km (spI ⟨K,mg⟩ ob0 ob0 cZ):=⟨C1,_,_,mg_of X G b2,b3,⟨Y8,R6,u7⟩,vK v3 B N b8 a0 U D,v3.binds (ps:=Km) λ_ _ _ _ _ _=>un3 λ_ _ _=>rfl⟩;have d5:iD l.prog w K mg base 3 "Stack" "hang" nl5 (spI ⟨K,mg⟩ ob0 ob0 dD):=⟨C1,_,_,mg_of X G b2,b3,⟨W4,T3,E1⟩,xP B8 B a0 U D,B8.binds (ps:=nl5) λ_ _ _ _ _ _=>un4 λ_ _ _ _=>rfl⟩;have d3:iD l.prog w K mg base 4 "Stack" "join" nl5 (spI ⟨K,mg⟩ ob0 ob0 dw):=⟨C1,_,_,mg_of X G b2,b3,⟨Q4,i29,y1⟩,xK w7 B b9 J d5 b8 D,w7.binds (ps:=nl5) λ_ _ _ _ _ _=>un4 λ_ _ _ _=>rfl⟩;exact dJ.imp (U5 F30 B e4 e3 e5 e0 b1 I d0 d1 c0 J V b0 b6 e6 d3) λvs H Q E ⟨a,ns,e,hS,Y,q⟩=>by subst e;exact Va Y hS q
theorem walk{q:Zr}{J:(Str->Option Value)->Heap->Prop}{I:World->Heap->Prop}{d:DefRec}{K:Params->Frag}(hn:l.most=some 63)(B:d.params.defaults=[])
  (O:∀(w:World)(h:Heap),I w h->(K w.params).In h)
  (F:∀(w:World)(mg:Str->Option Value)(fa:Addr)(h:Heap),(K w.params).In h->h.Ns Zd mg->mg d.name=some (.ref fa)->
   ∃fd:ZC,(∀(s:zb)(u:Value),aeC s fd ⟨[u],[]⟩ [("_law_script",u)])/\∀base:Heap,(K w.params).In base->base.Ns Zd mg->dJ l.prog w (K w.params) mg base CX0 6 fa fd Qp (Ob (K w.params))) :
  agi q N J I l.row.toRowW d [] (λf vs=>af7 f vs):=
 L2.walk_of (n:=63) (k:=6) (x:="_law_script") (CX:=λ_=>CX0) (sp:=λw=>Ob (K w.params)) hn (by decide) B ⟨rfl,by decide,by decide,rfl⟩ O F (λ_ _ a ns Y _ D=>⟨a,ns,rfl,D,Y,λ_=>rfl⟩) λ_ _ _ _ _ z=>z
end Jb
end
namespace PySem.W.Fast
def tw16012861379258125278:=0
def tw1549048468242235347:=0
def tw3746161049707402916:=0
def tw17217490670367897672:=0
def tw5177912673841326852:=0
def tw10769176493478247705:=0
def tw13440091607829967098:=0
def tw17217396972454244810:=0
def tw12751961246446957625:=0
def tw260565265028700844:=0
def tw10229538316114790091:=0
def tw8216221682194325041:=0
def tw9054036012305505900:=0
def tw9563881208478497315:=0
def tw12524497321037705045:=0
def tw2026275312789486838:=0
def tw17387404185021376843:=0
def tw12064998132120694149:=0
def tw12066993840823446672:=0
def tw12066287471039295252:=0
def tw5726627013616311816:=0
def tw11842173020894103640:=0
def tw16837844585367433659:=0
def tw15050870537813087657:=0
def tw4069724703843485593:=0
def tw4309782701427012793:=0
def tw645257805528543547:=0
def tw9630833975151597701:=0
def tw15550859735930573747:=0
def tw4788900875455858901:=0
def tw4848502579170586905:=0
def tw5035679950164202646:=0
def tw4913816780832748012:=0
def tw4247316430394897182:=0
def tw8978122935762758825:=0
def tw12716002184355735405:=0
def tw5058663532364205627:=0
def tw11966705586850666591:=0
def tw1567015580805285254:=0
def tw7231077619091596455:=0
def tw10129107890878346788:=0
def tw7996203943950731215:=0
def tw1456989041606176674:=0
def tw3580384968820440772:=0
def tw12390651248125219993:=0
def tw17741336766785488473:=0
def tw5462115312789909334:=0
def tw8839503054160595244:=0
def tw4974708040618596894:=0
def tw7510793616587202612:=0
def tw14582796495654288448:=0
def tw12819452365133029893:=0
def tw11710800668966516340:=0
def tw13048366208459497023:=0
def tw15595353459685451448:=0
def tw4149993013821081060:=0
def tw12163940445389054270:=0
def tw2910689043647346636:=0
def tw1490504626738048816:=0
def tw6529295654609870391:=0
def tw1466812945437716925:=0
def tw615780038996574847:=0
def tw3635180262754212261:=0
def tw8558855252509422565:=0
def tw9253419272744975167:=0
def tw3599153678818616208:=0
def tw17703951330744411140:=0
def tw519301016465985918:=0
def tw9778447854712669895:=0
def tw4176205138179177314:=0
def tw8436497474651397242:=0
def tw12623889589799935582:=0
def tw14012453025671788787:=0
def tw6819013334095746436:=0
def tw14676401612940942457:=0
def tw10433697602013777358:=0
def tw3822603284539591688:=0
def tw8502014186705694827:=0
def tw3414169177559394576:=0
def tw11863522174712686446:=0
def tw16252685836401767269:=0
def tw9907961775321834744:=0
def tw11478525400764622326:=0
def tw13700063654446056200:=0
def tw7197524685070709521:=0
def tw4769757766566663225:=0
def tw18192791429124705760:=0
def tw4771372950294613562:=0
def tw8017331183416901419:=0
def tw774622337469780104:=0
def tw10057309421058967001:=0
def tw9676263023371524697:=0
def tw6983476988250289799:=0
def tw8325638361875934206:=0
def tw1656241426764474502:=0
def tw4590089471104244216:=0
def tw8770791618275226810:=0
def tw15046496121961927169:=0
def tw13335777412059425053:=0
def tw838924101633598053:=0
def tw2382776261787735800:=0
def tw13406563381155559259:=0
def tw4367915521251076089:=0
def tw2523404525061492788:=0
def tw3684634630068988444:=0
def tw13289383617462845984:=0
def tw10918505846472583224:=0
def tw8274831197164857087:=0
def tw11540443385515507647:=0
def tw16482834882013962233:=0
def tw14717084962513077829:=0
def tw9092227666654801778:=0
def tw7935681594105776752:=0
def tw18124636057989152408:=0
def tw12801329935667690540:=0
def tw14097286716071218748:=0
def tw3477084243419183841:=0
def tw3036520207894706149:=0
def tw6522553468727921963:=0
def tw7015118859582281436:=0
def tw15465669712446767693:=0
def tw6490019675235708740:=0
def tw13758987020870409287:=0
def tw13586249768342311904:=0
def tw4564837533022844989:=0
def tw2763065403881952562:=0
def tw10583151026414710320:=0
def tw13412377913460152367:=0
def tw12442299224479330881:=0
def tw10366938281855999406:=0
def tw10672352645824949119:=0
def tw14722736288506410489:=0
def tw17323029852215043419:=0
def tw15003790740434997475:=0
def tw6068682228010872543:=0
def tw15538111544430224188:=0
def tw14483169736969548974:=0
def tw741551810008228502:=0
def tw3100220412350979778:=0
def tw4473939342361844420:=0
def tw2185294932810464655:=0
def tw4287291242869630545:=0
def tw7106708236160764111:=0
def tw13670307756102668921:=0
def tw16387527189551609378:=0
def tw1320577034101440127:=0
def tw11270546926273187901:=0
def tw18173165461674298295:=0
def tw13399245798258173638:=0
def tw5680901982133938636:=0
def tw15520753367836976127:=0
def tw13885824685830757887:=0
def tw16226629296403409867:=0
def tw7672495222119925896:=0
def tw11963039493644086423:=0
def tw12425758533602478865:=0
def tw5193961556535703713:=0
def tw727076018720384191:=0
def tw4970093056946069324:=0
def tw3039676505113769937:=0
def tw13543203585759364695:=0
def tw9340540807813645799:=0
def tw13784434470776720436:=0
def tw18213468344159934636:=0
def tw15800282108045209022:=0
def tw9889691610971813220:=0
def tw9605058785691631240:=0
def tw4477944767629347094:=0
def tw2134979750694317053:=0
def tw2927558200311806636:=0
def tw3287943376758894580:=0
def tw7449257508297166832:=0
def tw6566367865462746149:=0
def tw3949292601506103129:=0
def tw2357510549883230929:=0
def tw5334410621017389356:=0
def tw14814698936624509752:=0
def tw4510937677181095295:=0
def tw12887503533865313253:=0
def tw6893626173387644096:=0
def tw7986071384006595895:=0
def tw3141869108289883648:=0
def tw17176349473022504270:=0
def tw11227404406529006721:=0
def tw10384175507391295700:=0
def tw10624916867242473813:=0
def tw11624407155839629259:=0
def tw17973656663505582040:=0
def tw5919682620546389744:=0
def tw11012876774608998737:=0
def tw13548954589509387224:=0
def tw16608313135527936830:=0
def tw6508871278458391091:=0
def tw13501143405172852857:=0
def tw9789329972771336999:=0
def tw10832654151028702138:=0
def tw8883598618814450677:=0
def tw3918540196874723385:=0
def tw1669221380585993036:=0
def tw5653107903191787168:=0
def tw8099602127284525485:=0
def tw5383336476236866941:=0
def tw16358687151818850279:=0
def tw7383436189487041563:=0
def tw11200558867810659206:=0
def tw204860429074969731:=0
def tw16215036459752686448:=0
def tw12388227963142859333:=0
def tw13631591229483869263:=0
def tw12046347747194918628:=0
def tw4409046265194089382:=0
def tw16862770952340170835:=0
def tw12811275982187431586:=0
def tw6071675216687056426:=0
def tw15978338359064437914:=0
def tw3542232736640852287:=0
def tw13814090025283938050:=0
def tw4432232642347442257:=0
def tw2675782278119174202:=0
def tw15513248225652977122:=0
def tw6589304733731855740:=0
def tw1830330949343784168:=0
def tw4432351087921740546:=0
def tw1583423498296017286:=0
def tw17254894110233120765:=0
def tw8581506986071403184:=0
def tw10257608516612015439:=0
def tw11985180046015833685:=0
def tw11998436012299823016:=0
def tw3541417109084347300:=0
def tw5322258850109923021:=0
def tw9532010544350728726:=0
def tw15400237502255408344:=0
def tw8629008615445677770:=0
def tw3611447138115211795:=0
def tw16519104572378877177:=0
def tw18114400034049400177:=0
def tw1876915211218094817:=0
def tw16919165671137606334:=0
def tw11883899366356739763:=0
def tw10007184421459251520:=0
def tw5876393143003997224:=0
def tw9558718065592006992:=0
def tw11534754732856824649:=0
def tw7543854812495994751:=0
def tw18181340091031012897:=0
def tw1728740146224884527:=0
def tw15725611893260292935:=0
def tw5573618385249482856:=0
def tw5224396895467113540:=0
def tw17000947359249641138:=0
def tw8170738516141505125:=0
def tw13693866586732908096:=0
def tw10617209529950464390:=0
def tw6533740400760552710:=0
def tw3460142117953160093:=0
def tw12582153722616913497:=0
def tw5353337307651633178:=0
def tw7810527836700955035:=0
def tw3566579239094522197:=0
def tw5104447755242348378:=0
def tw3817553698284928793:=0
def tw3745648187849600130:=0
def tw6934982993804963880:=0
def tw13989642958431027515:=0
def tw17548634405210815739:=0
def tw1927302375528697852:=0
def tw2016006771627057479:=0
def tw12003084491540243935:=0
def tw1034773194448332683:=0
def tw14358251543981281673:=0
def tw7166213001308627273:=0
def tw14404501783016332849:=0
def tw3368056207366976206:=0
def tw12832972649544408791:=0
def tw1134516564554141083:=0
def tw8227611398486994906:=0
def tw2788520363663822687:=0
def tw18393610320411072613:=0
def tw1855776138739324517:=0
def tw853820360820310310:=0
def tw9403070191191129366:=0
def tw13466304920461500665:=0
def tw6305160327532844785:=0
def tw10419912474106272663:=0
def tw6456159499832001179:=0
def tw8810273324791384140:=0
def tw16396412934878472515:=0
def tw2627177651506102282:=0
def tw1447151580129611661:=0
def tw6135164639346157020:=0
def tw12580633053960775878:=0
def tw18237151030930421858:=0
def tw12565070906099165154:=0
def tw8387104803127958930:=0
def tw14872890576892359316:=0
def tw13590294924815110281:=0
def tw13073458971912659592:=0
def tw431599610663146936:=0
def tw1502896092817943508:=0
def tw8952212612785440048:=0
def tw3795289895106914394:=0
def tw17327339995311699702:=0
def tw13325598771704574490:=0
def tw13904691794815302016:=0
def tw1440577701720107248:=0
def tw17385120476200307910:=0
def tw15251495266332485360:=0
def tw17575536548416947706:=0
def tw1601526197364536819:=0
def tw5977550527526705786:=0
def tw14999871709516493269:=0
def tw5463466577557821190:=0
def tw2169571136702017380:=0
def tw7467476134692698104:=0
def tw15935226510384808014:=0
def tw10969659059479637169:=0
def tw15471918996313352539:=0
def tw10120827865146304904:=0
def tw6711635902524633747:=0
def tw10844209012026516732:=0
def tw13533189601542197669:=0
def tw15645827413558539333:=0
def tw15896602615737295186:=0
def tw8746721594448451921:=0
def tw15847070661789438756:=0
def tw18390186335521755632:=0
def tw3161792644206865209:=0
def tw3131686691147351446:=0
def tw16006542908335861577:=0
def tw17727644296970068466:=0
def tw9333895166199699903:=0
def tw12076244085366404770:=0
def tw4671922012884979553:=0
def tw5440335086094675550:=0
def tw17094680612350073977:=0
def tw6530100054674820799:=0
def tw5591889582588936723:=0
def tw17068275818805454119:=0
def tw13248465459404025504:=0
def tw4675103654221622249:=0
def tw2260994078489630969:=0
def tw9998710397924518738:=0
def tw3528639306550544331:=0
def tw9828402511304170468:=0
def tw13689709177550214193:=0
def tw17413304630495359465:=0
def tw14904912595131665041:=0
def tw7454802684818218261:=0
def tw4601370600446568810:=0
def tw1859478987306824806:=0
def tw1453916251331694363:=0
def tw15210559862636839454:=0
def tw1658272307822261914:=0
def tw8911255156845112687:=0
def tw16458445588774564992:=0
def tw6955451696087439169:=0
end PySem.W.Fast
open PySem PySem.W PyProof.Rows
set_option maxRecDepth 100000 in
set_option maxHeartbeats 0 in
theorem PySem.Challenge.cw_joinback_k27_deeds_and_standing_holds : PySem.Challenge.rw_joinback_k27_deeds_and_standing.Holds := by
 w_on;o_law;k_head;(case hw=>w_witness2)
 k_fill
 refine Jb.walk (l:=PySem.Challenge.rw_joinback_k27_deeds_and_standing) rfl rfl (λw h Y=>PySem.W.kIn_of Y) ?F
 case F=>
  intro w mg fa h KX G hmg;refine' Jb.all_mk KX G hmg ?_ ?_ ?_ ?_ ?_ ?_ ?_ ?_ ?_ ?_ ?_ ?_ ?_ ?_ ?_ ?_ ?_ ?_ ?_ ?_ ?_ ?_ ?_ ?_ ?_ ?_ ?_ ?_ ?_ ?_ ?_ ?_ ?_ ?_ ?_ ?_ ?_ ?_ ?_ ?_ ?_ ?_ ?_ ?_ ?_ ?_ ?_ ?_ ?_ ?_ ?_ ?_ ?_ ?_ ?_ ?_ ?_ ?_ ?_ ?_ ?_ ?_ ?_ ?_ ?_ ?_ ?_ ?_ ?_ ?_ ?_ ?_ ?_ ?_ ?_ ?_ ?_ ?_ ?_ ?_ ?_ ?_ ?_ ?_ ?_ ?_ ?_ ?_ ?_ ?_ ?_ ?_ ?_ ?_ ?_ ?_ ?_ ?_ ?_ ?_ ?_ ?_ ?_ ?_ ?_ ?_ ?_ ?_ ?_ ?_ ?_ ?_ ?_ ?_ ?_ ?_ ?_ ?_ ?_ ?_ ?_ ?_ ?_ ?_ ?_ ?_ ?_ ?_ ?_ ?_ ?_ ?_ ?_ ?_ ?_ ?_ ?_ ?_ ?_ ?_ ?_ ?_ ?_ ?_ ?_ ?_ ?_ ?_ ?_ ?_ ?_ ?_ ?_ ?_ ?_ ?_ ?_ ?_ ?_ ?_ ?_ ?_ ?_ ?_ ?_
  any_goals k_is
  any_goals k_is
