import PyProof.Rows.All
import Wide.All
import OpenK.AllK
import Wide.FinOn
import Lean
import PyProof.EqAt
import PyProof.EqKinds
import PyProof.TupleCall
import KE.KDictList
import KE.KMinBuiltin
import KE.KSortTup
import PyProof.AttrMissHeap
import PyProof.NeKinds
import PyProof.Rows.CallKwBuiltin
import PyProof.StrWalks
import PyProof.TupleIter
import PyProof.TupleOfSeq
import PySem.Challenge.RW_joinback_k23_classes
set_option Elab.async false
set_option linter.all false
set_option compiler.extract_closed false
set_option genSizeOf false
set_option maxRecDepth 100000
set_option hygiene false
set_option hygiene false
local macro_rules
 |`($n:scientific)=>do
  let some s:=[("1.12","model X.prog X.w"),("1.13","model prog w"),("1.14","ns.map D.str"),("1.17","aq false 1"),("1.19","aq false 0"),("1.21","aj false 1"),("1.23","bO X N' scope C B H fp"),("1.24","aj false 0"),("1.28","obC cap ob"),("1.31","plus M Fr"),("1.34","Option Nat"),("1.35","aq false 2"),("1.36","aj false 2"),("1.42","adj js js.length"),("1.46","bO X N' scope C a0 H fp"),("1.49","aq false 3"),("1.56","aj false 3"),("1.60","aq false 4"),("1.61","aj false 4"),("1.63","EP X pins σ Q")].lookup n.raw[0].getAtomVal|Lean.Macro.throwUnsupported
  let f (x:String):Lean.Term:=if x.front.isDigit then Lean.Syntax.mkNumLit x else Lean.mkIdent x.toName
  let l:=s.splitOn " "
  return Lean.Syntax.mkApp (f l.head!) (l.tail.map f).toArray
local macro_rules
 |`(1.10)=>`((λ_=>O.mono (by decide)))
 |`(1.11)=>`((by omega))
set_option hygiene true
local macro_rules
 |`(tactic|simp![$x,*]$[$l:location]?)=>`(tactic|simp only[$x,*]$[$l:location]?)
set_option hygiene true
open Lean.Parser.Command Lean.Parser.Term in
local macro_rules
 |`(command|def $i:declId $s:optDeclSig := $v)=>`(command|noncomputable def $i $s := $v)
 |`(command|def $i:declId $s:optDeclSig $[$a:matchAlt]*)=>`(command|noncomputable def $i $s:optDeclSig $[$a:matchAlt]*)
section
def ZV:=@if_pos
def Z1:=@if_neg
def aaa:=@decide_eq_false
def aab:=@if_true
def aaE:=@decide_eq_true
def aaN:=@if_false
def aa0:=@decide_eq_true_eq
def aba:=@beq_eq_false_iff_ne
def acw:=@of_decide_eq_true
open PySem renaming wpAny_bind->gD,Shared->Pr,wpAny_pure->ZD,starEach->ZK,sizeLine->ZM,Program->aae,FuncData->aai,compareOp->aaA,Around->aaC,backTo->aaH,mainGlobals->aaI,wpAny_newObj_type->aaL,attributeBase->aaR,assignEach->aaT,wpAny_holding->aaW,wpAny_mono->aaY,binaryOp->aa3,foldedSetIterable->aa8,holding->abi,codeAny_builtin->abk,bootBuiltins->abm,keywordEach->abo,wpAny_Call_Name_kw->abu,mem_of_lookup->abI,sysModules->abM,swapsWith->abS,wpAny_passesOwn->abW,codeAny->abX,valueAt->abY,swapsWithSole->ab0,boot_len->ab2,backToKw->ab_,wpAny_callSpecial?_slot->ach,wpAny_standAt->aci,swappedStores->acj,wpAny_truthy_bool->acs,wpAny_pyIter_list->acu,codeAny_mono->acy,IsPart->acz,Keyword->acB
open PySem renaming bindName->acH,wpAny_rule->acI,codeAny_call_builtin->acL,plainId_quiet->acP,sizeLine_eq->acS,sliceBounds->acT,letOwnedTupleGo->acV,assign->acX,rawInt->acY,getMethod->acZ,wpAny_typeOf->ac3,tupleKind_room_in1->ac4,wpAny_comprehension_free->ac5,standAt->ac7,wpAny_bindName->ac8,PlainAttrs->ac9,call_meets->ac_,wpAny_pyIter_enum->adk,wpAny_pyNext_list_item->adl,wpAny_field->adn,assignInOrder->adq,behindInMarks->adt,NameKind->adw,wpAny_pyNext_list_end->adA,wpAny_execs_nil->adE,getItem->adM,wpAny_of_eq->adQ,wpAny_letOwnedTupleGo_enum->ad1,callerA->aee,Paired->aef,Operator->aeg,noFill_tuple_add->aeh,wpAny_call_entry->aei,call_meetsIn->aej,wpAny_isInstance->ael,callWith->aer,wpAny_Call_method0_late->aeu,tupleKind->aez,exec_Assign_arm->aeA,wpAny_throw->aeJ
open PySem renaming unsupported->aeK,isTrue->aeO,setItem->aeP,pyIter->aeQ,Result->aeR,BindsTo->aeS,typeOf->aeU,stored->aeV,newList->aeW,builtinLookup_eq_fast->aeY,wpAny_seqItems->aeZ,wpAny_notOrdered_dict->ae0,dictSetDefault->ae4,wpAny_load->ae_,bindArgs->afa,wpAny_newFunctionEnv->afg,attributeErrorLeaves->afh,seq_tuple_add->afo,evalArgs_none->afu,wpAny_dictSet_pairs->afw,Within->afD,PassesOwn->afF,concat_meets->afK,seqIndex_neg->afL,scanBound->afN,list_append->afX,seqIndex_of->af1,call->agi,Fin->agr,holding->agw
open Option renaming bind_some->Hq,map_some->aaw,isSome_iff_exists->ac0,isSome_map->ad8,map_eq_some_iff->aeH,getD_none->af7,getD_some->agb
open List renaming mem_append_right->W2,mem_append->Zy,map_cons->ZF,mem_map->ZG,mem_append_left->ZJ,length_map->ZL,mem_cons->ZR,map_append->ZW,map_map->ZX,nodup_append->ZZ,getElem?_eq_getElem->Z0,mem_of_getElem?->Z2,length_cons->Z3,mem_singleton->Z7,nodup_cons->Z8,map->Z9,cons_append->Z_,getElem?_append_left->aad,mem_cons_of_mem->aaf,map_congr_left->aah,mem_iff_getElem?->aak,getElem?_cons_succ->aam,findIdx?_eq_some_iff_getElem->aan,map_nil->aao,nodup_nil->aap,length_nil->aaq,getElem?_cons_zero->aau,mem_cons_self->aav,replicate->aax,range->aaz,getElem?_append_right->aaB,length_append->aaP,set_cons_succ->aaZ,getD_eq_getElem?_getD->aa7,append_assoc->aa_,findIdx?_eq_none_iff->abd,length_take->abe,Sublist->abg,Perm->abh,pairwise_map->abj
open List renaming eraseIdx_append_of_length_le->abp,mem_range->abt,findIdx?_cons->abw,set_cons_zero->abx,sublist_append_right->aby,getElem?_eq_none_iff->abz,mem_filter->abB,find?_cons->abE,getElem?_inj->abG,filter_cons->abJ,drop_length->abK,getElem_mem->abL,getElem?_set_self->abN,length->abP,getElem_cons_drop->abQ,pairwise_cons->abV,sublist_append_left->acd,take_length->acf,of_mem_zip->ack,lookup->acp,take_of_length_le->acr,getElem?_set->acv,length_filter_le->acC,set_append_right->acE,perm_append_comm->acF,length_drop->acK,any_eq_true->acM,all_cons->acO,Pairwise->acQ,exists_cons_of_ne_nil->acR,drop_eq_getElem_cons->acW,reverse_cons->adi,drop_eq_nil_of_le->ado,any_cons->adu,map_take->adv,nil_sublist->adx,countP_cons->ady,take_append_drop->adB,getElem?_eq_none->adC,eraseIdxIfInBounds_toArray->adD
open List renaming filterMap_cons->adI,mem_filterMap->adR,set_comm->adZ,ext_getElem?->ad9,take_add_one->ad_,mem_of_find?_eq_some->aec,lookup_cons->aek,set_eq_of_length_le->aem,all_eq_true->aen,zip->aeo,map_fst_zip->aep,not_mem_nil->aeq,mem_flatMap->aes,getElem?_replicate->aet,eraseIdx_cons_succ->aev,range_succ_eq_map->aeI,map_id->aeM,filter_eq_nil_iff->aeN,drop_zero->ae1,eraseIdx_sublist->ae2,eq_nil_or_concat->ae6,concat_eq_append->ae7,length_dropLast->afd,getElem?_of_mem->afi,mem_of_mem_take->afm,getElem?_range->afx,getElem_of_mem->afz,length_pos_iff->afA,toArray->afO,find?_eq_none->afR,take_sublist->afW,getElem_inj->af2,mem_reverse->aga,map_snd_zip->agd,append_inj'->agh
open PySem.Heap renaming get?_push_of_some->Zz,lt_size->ZP,get?_push_size->Z6,size_push->aaX,get?_update_other->abn,SameBut->ab9,get?_update_self->acA,get?_update_ne->afy,size_update->af9
open PySem.W renaming Frag->ZC,findIn->aaK,kia_one->aa1,emptyDict->aa9,instObj->abA,keepIn->acx,plainGet->acJ,fnOf->ac1,hasDictIn->ade,kitx_list->adf,kitx_dict->adg,isFn->adF,makesIn->adG,plainGet_of->adJ,lookIn->adK,kitOne->adL,kitAny->adN,callWith_K->adT,methodObj->ad4,plainOver->ad6,takerIn->aeB,OpenLaw->aeD,cellsFrom_some->aeF,codeIn->aeT,methodCall_KW->ae5,kitx_float->afG,kitx_tuple->afH,kitx_none->afU,kitx_bool->afV,handedIn->af3,kitx_int->af4,kitx_str->af5,kitx_own->af6,kas_kind->agc,kdl_dict->age,kdl_call->agf,WalkO->agu
open Nat renaming le_refl->ZQ,lt_of_lt_of_le->Z4,ne_of_lt->Z5,lt_irrefl->aaV,le_trans->aa5,lt_succ_self->abr,ne_of_gt->abC,zero_le->abO,lt_succ_of_lt->ab3,le_of_lt->ab8,sub_self->acb,lt_or_ge->acg,zero_add->acD,le_succ->adP,succ_ne_self->af_,min_eq_right->agg,min_eq_left->agl
open Sum renaming inr->ZS,inl->aed
open PySem.Value renaming ref->aac,none->aaF,type->ab5,int->ab7,str->acG,bool->aea,float->aeE,isStrOf->agt
open PySem.F renaming plainAttrs_list->aag,slot_list_append->aar,type_list_append->aas,slot_tuple_iterator_next->aa6,slot_list_getattribute->aca,called_set->ace,args_tuple_add_2->ac2,entry_tuple_add->ada,slot_tuple_add->adm,args_tuple_iterator_next_1->adO,entry_tuple_iterator_next->adV,slot_dict_delitem->aeb,plainAttrs_dict->aey,slot_list_pop->ae8,type_list_pop->ae9,args_list_append_2->afc,entry_list_append->afv,slot_list_append->afM,slot_dict_values->afP,plain_list_iadd->af0
open Bool renaming false_eq_true->aaj,and_eq_true->aal,false_ne_true->aat,eq_iff_iff->aco,and_self->ad3,and_eq_true_iff->afe,not_true->afq,or_eq_true->agj,and_assoc->agn,and_false->ago
open Ne renaming symm->aay
open Option.some renaming inj->aaD,injEq->abF
open PySem.Builtin.Str renaming occurrences->aaG,strKind->acU,partsBetween->ac6
open True renaming intro->aaJ
open PySem.Builtin.Slice renaming sliceAdjust->aaM,slicePlaces->aaO,sliceApplied->ab1
open Or renaming inr->aaQ,inl->abf
open PySem.PassesOwn renaming never->aaS
open PyProof.Rows renaming slot_tuple_getitem->aaU,callWith_type1->aa2,boot_isinstance->abl,assignInOrder_cons->abT,envOfC->acN,boot_sorted->adp,AllBare->adz,boot_list->adW,assignInOrder_nil->ad5,subscriptTail_builtinR->aeG,mirror_perm->aeL,seqObj->ae3,boot_tuple->afn,entry_tuple_getitem->aft,IntsAre->afS
open PySem.Around renaming under_plainId->aa4,under->afI
open Array renaming length_toList->abb,getElem?_toList->abv,getD_eq_getD_getElem?->abU,getElem_toList->afj,toArray_toList->afl
open False renaming elim->abq
open PySem.Builtin.Tuple renaming tupleExact->abD,tupleItemsOf->ad0
open Function renaming comp->abH
open Int renaming le_refl->abR,toNat_natCast->adh,le_trans->adH,emod_lt_of_pos->afQ,emod_nonneg->agk
open ForInStep renaming yield->abZ
open List.Sublist renaming refl->ab4
open PySem.Builtin.SmallTypes renaming nextOf->ab6,stopIteration->ad2,ownedTupleFields->afT,newRecord->agm
open PySem.Obj renaming mapSeq->acn,data_mapFields->adU,isFreed_of_fields->aeX,data_mapDictKeys->afk,cls_mapFields->afY
open PySem.Calls renaming callWith_builtin->acq,spliced_cons->adS,Name_function_global->adY,spliced_nil->ad7,evalArgs_plain->afb
open PyProof.Rows.F renaming plain_set_update_loop->adb,entry_set_update_loop->aex
open PySem.Paired renaming length->adX
open PySem.Builtin.Dict renaming updateFrom->aew
open PySem.Heap.DictOf renaming new->aeC
open PySem.NameKind renaming free->afp
open Prod.mk renaming injEq->afr
open PySem.Challenge renaming pw_joinback_k23_classes->afs
open PySem.SeqAt.EqAt renaming int_str->afB,str_int->afC,same->ags
open PySem.Flow renaming next->afE
open PySem.Code renaming isFrame->afJ
open List.Perm renaming mem_iff->afZ,refl->agq
open PySem.IsL renaming update->af8
open PySem.Builtin.Frozenset renaming updateFrom->agp
open PySem.Shared renaming TypeIs->agv
open PySem
variable{XP:(Str->Option Value)->Heap->Prop}{a it f C dx sl:Addr}{A:Around}{osl:Array (Option Value)}{g':Array GenState}{p:Array Nat}{items:Array Value}{b:Bool}{op:CmpOp}{d:DefRec}{d':Drawn}{env:Env}{e c tg value elt target:Expr}{h h' base:Heap}{g:Int->Int->Int}{pins:List (Addr×Obj)}{ks rs:List (List Str)}{J:List (Option Expr)}{ch M fp L:List Addr}{outer:List Env}{es ifs elts:List Expr}{js:List Nat}{body:List Stmt}{N ns ps l r I N' acc xs ys fl pre:List Str}{us its:List Value}{t' i j n tk x1 i0:Nat}{ob pr:Nat->Bool}{tn:Nat->Heap->Prop}{ρ:Nat->Int}{o:Obj}{pos pos' px py tpos apos p2 cpos pos2 p1:Pos}{s' B:Pr}{prog:Program}{scope:Scope}{s:Shared}{x y name m qual Z:Str}{vs:Str->Int}{mA mg:Str->Option Value}{q:Str->Option adw}{R:Str->Str}{T:String}{κ α β ι:Type}{u v z oc:Value}{RR:Value->Addr->aeR->Pr->Prop}{Q:Value->Pr->Prop}{E:Value->Shared->Prop}{w:World}{YP:World->Heap->Prop}{P:aae}{fd:aai}{pl:ι->Sem Bool}
namespace L2
open PySem PySem.Spec PyProof.Rows
abbrev Key:=Sum Int Str
def uf:Key->Value->Bool
 |.inl k,v=>Value.isInt k v
 |.inr x,v=>agt x v
def Zt(w:World):Key->Int
 |.inl k=>hashInt k
 |.inr x=>hashStr w x
theorem du:∀{k:Key}{v:Value},uf k v=true->(∃i t,k=aed i/\v=ab7 i t)∨(∃x t,k=ZS x/\v=acG x t)
 |.inl i,v,h=>by
  obtain⟨t,e⟩:=Value.isInt_shape (k:=i) (v:=v) h;exact .inl ⟨i,t,rfl,e⟩
 |.inr x,v,h=>by
  obtain⟨t,e⟩:=Value.isStrOf_shape (x:=x) (v:=v) h;exact .inr ⟨x,t,rfl,e⟩
theorem Jx(i:Int)(t:Tok):uf (.inl i) (.int i t)=true:=by simp[uf,Value.isInt]
theorem IV(x:Str)(t:Tok):uf (.inr x) (.str x t)=true:=by simp[uf,agt]
theorem Ux(a b:Int):decide ((aed a:Key)=aed b)=(a==b):=by
 by_cases e:a=b
 .subst e;simp
 .have h:¬(aed a:Key)=aed b:=λq=>e (Sum.inl.inj q)
  rw[aaa h];exact(aba.mpr e).symm
theorem Vg(a b:Str):decide ((ZS a:Key)=ZS b)=decide (a=b):=by
 by_cases e:a=b
 .subst e;simp
 .have h:¬(ZS a:Key)=ZS b:=λq=>e (Sum.inr.inj q)
  rw[aaa h,aaa e]
theorem U_(a:Int)(b:Str):decide ((aed a:Key)=ZS b)=false:=aaa (λq=>nomatch q)
theorem U6(a:Str)(b:Int):decide ((ZS a:Key)=aed b)=false:=aaa (λq=>nomatch q)
noncomputable def bG(prog:aae)(w:World):PySem.KeyKind prog w Key where
 is:=uf
 hash:=Zt w
 inj:=λv a b Y U=>by
  rcases du Y with⟨i,t,rfl,rfl⟩|⟨x,t,rfl,rfl⟩
  .rcases du U with⟨j,u,rfl,e⟩|⟨y,u,rfl,e⟩
   .injection e with e1 _;rw[e1]
   .exact nomatch e
  .rcases du U with⟨j,u,rfl,e⟩|⟨y,u,rfl,e⟩
   .exact nomatch e
   .injection e with e1 _;rw[e1]
 byValue:=λk v h=>by
  rcases du h with⟨i,t,rfl,rfl⟩|⟨x,t,rfl,rfl⟩<;>rfl
 pyHash:=λZ h=>by
  rcases du Z with⟨i,t,rfl,rfl⟩|⟨x,t,rfl,rfl⟩
  .exact wpAny_pyHash_int h
  .exact wpAny_pyHash_str h
 eqBool:=λJ Z h=>by
  rcases du J with⟨i,t,rfl,rfl⟩|⟨x,t,rfl,rfl⟩
  .rcases du Z with⟨j,u,rfl,rfl⟩|⟨y,u,rfl,rfl⟩
   .rw[Ux]at h;exact wpAny_eqBool_int h
   .rw[U_]at h;exact afB i t y u _ _ _ _ h
  .rcases du Z with⟨j,u,rfl,rfl⟩|⟨y,u,rfl,rfl⟩
   .rw[U6]at h;exact afC x t j u _ _ _ _ h
   .rw[Vg]at h;exact wpAny_eqBool_str h
 «strs»:=λk x t v h=>by
  rcases du h with⟨i,u,rfl,e⟩|⟨y,u,rfl,e⟩
  .exact nomatch e
  .injection e with e1 _
   subst e1;cases v<;>rfl
theorem Bt(prog:aae)(w:World)(i:Int)(t:Tok):(bG prog w).is (.inl i) (.int i t)=true:=Jx i t
theorem Ds(prog:aae)(w:World)(x:Str)(t:Tok):(bG prog w).is (.inr x) (.str x t)=true:=IV x t
inductive V where
 |non|bl (b:Bool)|int (i:Int)|str (x:Str)|byt (b:Array UInt8)|flt (b:UInt64)|ref (a:Addr)|ty (n:String)
 deriving DecidableEq
def RelV:V->Value->Prop
 |.non,u=>u=aaF
 |.bl b,u=>u=aea b
 |.int i,u=>∃t,u=ab7 i t
 |.str x,u=>∃t,u=acG x t
 |.byt b,u=>∃t,u=Value.bytes b t
 |.flt b,u=>∃t,u=aeE b t
 |.ref a,u=>u=aac a
 |.ty n,u=>u=ab5 n
noncomputable abbrev Vals:List V->List Value->Prop:=aef RelV
variable{xs:List V}
theorem Vals.length(r:Vals xs us):xs.length=us.length:=adX r
theorem Vals.get:∀{xs:List V}{us:List Value}{i:Nat}{x:V},Vals xs us->xs[i]? =some x->∃u,us[i]? =some u/\RelV x u
 |_,_,_,_,.nil,e=>by simp at e
 |_,_,0,_,.cons r _,e=>by simp at e;subst e;exact⟨_,rfl,r⟩
 |_,_,i+1,x,.cons _ t,e=>by
  obtain⟨u,h1,h2⟩:=Vals.get (i:=i) (x:=x) t (by simpa using e);exact⟨u,by simpa using h1,h2⟩
theorem Vals.set{x:V}(r:RelV x u):∀{xs:List V}{us:List Value}(i:Nat),Vals xs us->Vals (xs.set i x) (us.set i u)
 |_,_,_,.nil=>.nil
 |_,_,0,.cons _ t=>.cons r t
 |_,_,i+1,.cons q t=>.cons q (Vals.set r i t)
theorem Vals.append:∀{xs ys:List V}{us J:List Value},Vals xs us->Vals ys J->Vals (xs++ys) (us++J)
 |_,_,_,_,.nil,s=>s
 |_,_,_,_,.cons r t,s=>.cons r (Vals.append t s)
theorem Vals.take:∀{xs:List V}{us:List Value}(n:Nat),Vals xs us->Vals (xs.take n) (us.take n)
 |_,_,0,_=>.nil
 |_,_,_+1,.nil=>.nil
 |_,_,n+1,.cons r t=>.cons r (Vals.take n t)
theorem Vals.drop:∀{xs:List V}{us:List Value}(n:Nat),Vals xs us->Vals (xs.drop n) (us.drop n)
 |_,_,0,r=>r
 |_,_,_+1,.nil=>.nil
 |_,_,n+1,.cons _ t=>Vals.drop n t
def mJ:Option V->Option Value->Prop
 |some v,some u=>RelV v u
 |none,none=>True
 |_,_=>False
def KV:List (κ×V)->List (κ×Value)->Prop:=aef λ(p:κ×V)(q:κ×Value)=>p.1=q.1/\RelV p.2 q.2
def kV:Key->V
 |.inl i=>.int i
 |.inr x=>.str x
inductive HO where
 |lst (xs:List V)
 |tup (xs:List V)
 |dK (kvs:List (Key×V))|dT (kvs:List (List Key×V))
 |set (S:Int->Bool) (n:Nat)
 |ins (C dx:Addr) (fs:List (Str×V))
 |own (x:Addr)
 |xd (fs:List (Str×V))
 |met (f x:Addr)
 |rng (lo hi:Int)
 |frz (o:Obj) (u:HO)
 |tbl (ps:Array Value)
 |ext (φ:Heap->Prop)
abbrev Hp:=Addr->Option HO
def upd(H:Hp)(a:Addr)(o:HO):Hp:=λb=>if b=a then some o else H b
variable{H:Hp}{o:HO}
theorem aZ:upd H a o a=some o:=by unfold upd;rw[ZV rfl]
variable{b:Addr}
theorem aQ(h:b≠a):upd H a o b=H b:=by unfold upd;rw[Z1 h]
theorem Gz{u:HO}:upd (upd H a o) a u=upd H a u:=by
 funext b;unfold upd;split<;>rfl
theorem GQ{u:HO}(h:H a=some o)(h':H b=some u)(d:o≠u):a≠b:=by
 intro e;subst e;rw[h]at h';exact d (aaD h')
theorem aV(h:H a=some o)(h':H b=none):a≠b:=by
 intro e;subst e;rw[h]at h';cases h'
def oh(h:Heap)(a:Addr)(items:Array Value):Prop:=∃o,h.get? a=some o/\o.cls= .type "tuple"/\∃n,o.data= .seq items n/\o.dict=none
theorem oh.new(h:Heap)(items:Array Value):oh (h.push {cls:=.type "tuple",data:=.seq items}) h.objs.size items:=⟨_,Z6 _ rfl,rfl,_,rfl,rfl⟩
theorem oh.t(x:oh h a items):IsTup h a items:=let⟨o,e,c,n,d,_⟩:=x;⟨o,e,c,n,d⟩
section
variable(P:Program)(w:World)
def cM(H:Hp)(h:Heap)(a:Addr):HO->Prop
 |.lst xs=>xs.length<=ZM/\∃(its:List Value)(n:Nat),Vals xs its/\h.get? a=some {cls:=.type "list",data:=.seq its.toArray n}
 |.tup xs=>xs.length<=ZM/\∃its:List Value,Vals xs its/\oh h a its.toArray
 |.dK kvs=>kvs.length<=ZM/\(a==abM)=false/\∃vs,KV kvs vs/\h.DictOf (bG P w) a vs
 |.dT kvs=>kvs.length<=ZM/\(a==abM)=false/\∃xs:List (List Key×Addr×Value),
  aef (λ(p:List Key×V)(q:List Key×Addr×Value)=>p.1=q.1/\H q.2.1=some (.tup (p.1.map kV))/\RelV p.2 q.2.2) kvs xs/\
  ∃o es ep,h.get? a=some o/\o.ExactDict/\o.data= .dict es ep/\es.toList=xs.map (entryOfKey (aez (bG P w)))/\(xs.map (·.1)).Nodup
 |.set S n=>h.SetOf (intKind P w) a S n
 |.ins C dx fs=>H dx=some (.own a)/\fs.length<=1000/\dx≠a/\h.get? a=some (abA C dx)/\
  ∃mA,h.Ns1 dx mA/\(∀f,mJ (fs.lookup f) (mA f))/\afD mA (fs.map (·.1))
 |.own _=>∃o,h.get? a=some o
 |.xd fs=>∃mA,h.Ns1 a mA/\∀f,mJ (fs.lookup f) (mA f)
 |.rng lo hi=>∃t u v,h.get? a=some {cls:=.type "range",data:=.fields #[.int lo t,.int hi u,.int 1 v]}
 |.frz o u=>h.get? a=some o/\cM H h a u
 |.tbl ps=>h.get? a=some {cls:=.none,data:=.fields ps}
 |.met f x=>h.get? a=some (ad4 (.ref f) (.ref x))
 |.ext F=>F h/\(∃o,h.get? a=some o)/\∀h1 h2:Heap,F h1->(∀o,h1.get? a=some o->h2.get? a=some o)->F h2
def HOk(H:Hp)(h:Heap):Prop:=∀a o,H a=some o->cM P w H h a o
end
variable{P:Program}
theorem cM.lt(x:cM P w H h a o):a<h.objs.size:=by
 cases o with
 |lst xs=>obtain⟨_,_,_,_,e⟩:=x;exact ZP e
 |tup xs=>obtain⟨_,_,_,p⟩:=x;exact p.t.lt
 |dK kvs=>obtain⟨_,_,_,_,o,_,_,e,_⟩:=x;exact ZP e
 |dT kvs=>obtain⟨_,_,_,_,o,_,_,e,_⟩:=x;exact ZP e
 |set S n=>obtain⟨o,_,_,_,e,_⟩:=x;exact ZP e
 |ins C dx fs=>obtain⟨_,_,_,e,_⟩:=x;exact ZP e
 |own y=>obtain⟨_,e⟩:=x;exact ZP e
 |xd fs=>obtain⟨_,⟨_,_,_,e,_⟩,_⟩:=x;exact ZP e
 |rng lo hi=>obtain⟨_,_,_,e⟩:=x;exact ZP e
 |frz ob u=>obtain⟨e,_⟩:=x;exact ZP e
 |tbl ps=>exact ZP (show h.get? a=some _ from x)
 |met f y=>exact ZP (show h.get? a=some _ from x)
 |ext F=>obtain⟨_,⟨_,e⟩,_⟩:=x;exact ZP e
theorem Paired.mapP{F G:α->β->Prop}:∀{l₁:List α}{l₂:List β},aef F l₁ l₂->(∀a b,F a b->G a b)->aef G l₁ l₂
 |_,_,.nil,_=>.nil
 |_,_,.cons r t,f=>.cons (f _ _ r) (Paired.mapP t f)
variable{H':Hp}
theorem cM.stay(x:cM P w H h a o)(k:∀b u,(b=a∨H b=some (.own a))->h.get? b=some u->h'.get? b=some u)
  (B:∀b,H b=some (.own a)->H' b=some (.own a)) (Y:∀b xs,H b=some (.tup xs)->H' b=some (.tup xs)):cM P w H' h' a o:=by
 induction o with
 |lst xs=>obtain⟨z,its,n,r,e⟩:=x;exact⟨z,its,n,r,k _ _ (.inl rfl) e⟩
 |tup xs=>obtain⟨z,its,r,ob,e,c⟩:=x;exact⟨z,its,r,ob,k _ _ (.inl rfl) e,c⟩
 |dK kvs=>obtain⟨z,y,vs,r,ob,es,ep,e,c⟩:=x;exact⟨z,y,vs,r,ob,es,ep,k _ _ (.inl rfl) e,c⟩
 |dT kvs=>
  obtain⟨z,y,xs,r,ob,es,ep,e,c⟩:=x;exact⟨z,y,xs,Paired.mapP r λp q z=>⟨z.1,Y _ _ z.2.1,z.2.2⟩,ob,es,ep,k _ _ (.inl rfl) e,c⟩
 |set S n=>obtain⟨ob,es,ep,t,e,c⟩:=x;exact⟨ob,es,ep,t,k _ _ (.inl rfl) e,c⟩
 |ins C dx fs=>
  obtain⟨d,z,D,e,mA,⟨od,es,ep,e2,c⟩,r⟩:=x;exact⟨B _ d,z,D,k _ _ (.inl rfl) e,mA,⟨od,es,ep,k _ _ (.inr d) e2,c⟩,r⟩
 |own y=>obtain⟨ob,e⟩:=x;exact⟨ob,k _ _ (.inl rfl) e⟩
 |xd fs=>obtain⟨mA,⟨od,es,ep,e,c⟩,r⟩:=x;exact⟨mA,⟨od,es,ep,k _ _ (.inl rfl) e,c⟩,r⟩
 |rng lo hi=>obtain⟨t,u,v,e⟩:=x;exact⟨t,u,v,k _ _ (.inl rfl) e⟩
 |frz ob u I=>obtain⟨e,q⟩:=x;exact⟨k _ _ (.inl rfl) e,I q⟩
 |tbl ps=>
  have e:h.get? a=some {cls:=.none,data:=.fields ps}:=x;show h'.get? a=some {cls:=.none,data:=.fields ps};exact k a _ (.inl rfl) e
 |met f y=>
  have e:h.get? a=some (ad4 (.ref f) (.ref y)):=x;show h'.get? a=some (ad4 (.ref f) (.ref y));exact k a _ (.inl rfl) e
 |ext F=>obtain⟨p,⟨o,e⟩,st⟩:=x;exact⟨st _ _ p λo q=>k _ _ (.inl rfl) q,⟨o,k _ _ (.inl rfl) e⟩,st⟩
theorem HOk.lt(x:HOk P w H h)(e:H a=some o):a<h.objs.size:=(x a o e).lt
theorem HOk.fresh(x:HOk P w H h)(e:h.objs.size<=a):H a=none:=by
 cases q:H a with
 |none=>rfl
 |some u=>exact absurd (Z4 (x.lt q) e) (aaV _)
theorem HOk.kept(x:HOk P w H h)(k:∀b u,h.get? b=some u->h'.get? b=some u):HOk P w H h':=λa o e=>
 (x a o e).stay (λb u _ q=>k b u q) (λ_ q=>q) λ_ _ q=>q
theorem HOk.laid(x:HOk P w H h)(k:∀b u,h.get? b=some u->h'.get? b=some u)(F:h.objs.size<=a)(new:cM P w (upd H a o) h' a o):HOk P w (upd H a o) h':=λb u e=>by
 have hn:=x.fresh F;by_cases U:b=a
 .subst U;rw[aZ]at e;cases e;exact new
 .rw[aQ U]at e
  exact(x b u e).stay (λc v _ q=>k c v q) (λc q=>by rw[aQ (aV q hn)];exact q) λc xs q=>by rw[aQ (aV q hn)];exact q
def Rd(H:Hp)(a:Addr)(u:HO):Prop:=H a=some u∨∃o,H a=some (.frz o u)
theorem Rd.ok{P:aae}{u:HO}(r:Rd H a u)(x:HOk P w H h):cM P w H h a u:=by
 rcases r with r|⟨o,r⟩
 .exact x a u r
 .obtain⟨_,q⟩:=x a _ r
  exact q
def Mut:Option HO->Prop
 |some (.lst _)=>True
 |some (.dK _)=>True
 |some (.dT _)=>True
 |some (.set _ _)=>True
 |some (.ins _ _ _)=>True
 |some (.ext _)=>True
 |_=>False
variable{x e:Addr}{o':HO}
theorem HOk.write(ok:HOk P w H h)(mu:Mut (H x))(V:e=x∨H e=some (.own x))(k:∀b u,b≠e->h.get? b=some u->h'.get? b=some u)(D:∃u,h'.get? e=some u)
  (new:cM P w (upd H x o') h' x o'):HOk P w (upd H x o') h':=λb u q=>by
 have F:∀c y,H c=some (.own y)->c≠x:=λc y r z=>by subst z;rw[r]at mu;exact mu
 have I:∀c xs,H c=some (.tup xs)->c≠x:=λc xs r z=>by subst z;rw[r]at mu;exact mu
 by_cases U:b=x
 .subst U;rw[aZ]at q;cases q;exact new
 .rw[aQ U]at q
  by_cases B:b=e
  .have q':H b=some (.own x):=by
    rcases V with z|z
    .exact absurd (B.trans z) U
    .rw[B];exact z
   rw[q]at q';cases q';obtain⟨v,J⟩:=D;exact⟨v,by rw[B];exact J⟩
  .refine(ok b u q).stay (λc v Z r=>k c v ?_ r) (λc r=>by rw[aQ (F c b r)];exact r) λc xs r=>by rw[aQ (I c xs r)];exact r
   rcases Z with rfl|Z
   .exact B
   .rintro rfl
    rcases V with z|z
    .exact F c b Z z
    .rw[Z]at z;cases z;exact U rfl
structure Un(fs ex:List Addr)(H H':Hp)(h h':Heap):Prop where
 keep:∀b o,h.get? b=some o->H b=none->b∉fs->b∉ex->h'.get? b=some o
 slot:∀b o,h.get? b=some o->H b=none->b∈fs->b∉ex->∃sl,h'.get? b=some {o with slots:=sl}
 free:∀b o,h.get? b=some o->H b=none->b∉ex->H' b=none
 there:∀b o,h.get? b=some o->b∉ex->∃o',h'.get? b=some o'
 tups:∀b xs,H b=some (.tup xs)->H' b=some (.tup xs)
 frzs:∀b o u,H b=some (.frz o u)->H' b=some (.frz o u)
 tbls:∀b ps,H b=some (.tbl ps)->∃more,H' b=some (.tbl (ps++more))
section
variable{fs fs' ex ex':List Addr}{H H1 H2:Hp}{h h1 h2 h':Heap}{a x e:Addr}{o:HO}
theorem Un.any(u:Un fs ex H H1 h h1){b:Addr}{ob:Obj}(q:h.get? b=some ob)(n:H b=none)(J:b∉ex):∃sl,h1.get? b=some {ob with slots:=sl}:=by
 by_cases U:b∈fs
 .exact u.slot b ob q n U J
 .exact⟨ob.slots,u.keep b ob q n U J⟩
theorem Un.kept(k:∀b u,h.get? b=some u->h'.get? b=some u):Un fs ex H H h h':=
 ⟨λb ob q _ _ _=>k b ob q,λb ob q _ _ _=>⟨ob.slots,k b ob q⟩,λ_ _ _ n _=>n,λb ob q _=>⟨ob,k b ob q⟩,λ_ _ q=>q,λ_ _ _ q=>q,λ_ ps q=>⟨#[],by rw[q];simp⟩⟩
theorem Un.refl:Un fs ex H H h h:=Un.kept λ_ _ q=>q
theorem Un.laid(k:∀b u,h.get? b=some u->h'.get? b=some u)(F:h.objs.size<=a)(hn:H a=none):Un fs ex H (upd H a o) h h' where
 keep:=λb u q _ _ _=>k b u q
 slot:=λb u q _ _ _=>⟨u.slots,k b u q⟩
 free:=λb u q n _=>by rw[aQ (Z5 (Z4 (ZP q) F))];exact n
 there:=λb u q _=>⟨u,k b u q⟩
 tups:=λb xs q=>by rw[aQ (aV q hn)];exact q
 frzs:=λb u xs q=>by rw[aQ (aV q hn)];exact q
 tbls:=λb ps q=>⟨#[],by rw[aQ (aV q hn),q];simp⟩
theorem Un.write(mu:Mut (H x))(V:e=x∨H e=some (.own x))(k:∀b u,b≠e->h.get? b=some u->h'.get? b=some u)(D:∃u,h'.get? e=some u):Un fs ex H (upd H x o) h h':=by
 have J:∀b,H b=none->b≠x:=λb n z=>by subst z;rw[n]at mu;exact mu
 have U:∀b,H b=none->b≠e:=λb n z=>by
  subst z;rcases V with r|r
  .exact J b n r
  .rw[n]at r;cases r
 have F:∀b u,H b=some u->¬Mut (some u)->b≠x:=λb u q Z z=>by subst z;rw[q]at mu;exact Z mu
 refine⟨λb u q n _ _=>k b u (U b n) q,λb u q n _ _=>⟨u.slots,k b u (U b n) q⟩,λb u q n _=>by rw[aQ (J b n)];exact n,λb u q _=>?_,
  λb xs q=>by rw[aQ (F b _ q λz=>z)];exact q,λb u xs q=>by rw[aQ (F b _ q λz=>z)];exact q,λb ps q=>⟨#[],by rw[aQ (F b _ q λz=>z),q];simp⟩⟩
 by_cases B:b=e
 .subst B;exact D
 .exact⟨u,k b u B q⟩
end
def trk(h:Heap)(H:Hp):List Addr:=(aaz h.objs.size).filter λa=>(H a).isSome
def zb(h:Heap)(H:Hp):Heap:=PySem.W.hideAll h (trk h H)
theorem HX(h:Heap)(H:Hp):(zb h H).objs.size=h.objs.size:=PySem.W.hideAll_size _ _
variable{o:Obj}
theorem J2(e:h.get? b=some o)(n:H b=none):(zb h H).get? b=some o:=
 PySem.W.hideAll_get _ e λJ=>by
  have q:(H b).isSome=true:=(abB.mp J).2;rw[n]at q;simp at q
theorem Rn(e:(zb h H).get? b=some o):h.get? b=some o/\H b=none:=by
 have Y:h.get? b=some o:=PySem.W.of_hideAll (trk h H) e;refine⟨Y,?_⟩;cases q:H b with
 |none=>rfl
 |some x=>
  have J:b∈trk h H:=abB.mpr ⟨abt.mpr (ZP Y),by simp[q]⟩;have z:(zb h H).get? b=none:=PySem.W.hideAll_none (trk h H) J;rw[z]at e;cases e
def PN(g h:Heap)(L:Addr):List (Addr×Obj):=(aaz h.objs.size).filterMap λa=>if a=L∨(g.get? a).isSome=true then none else(h.get? a).map λo=>(a,o)
def rest(g h:Heap)(L d:Addr):List (Addr×Obj):=(PN g h L).filter λp=>decide (p.1≠d)
structure Mod(K:PySem.W.Frag)(mg:Str->Option Value)(base:Heap):Prop where
 kin:K.In base
 glob:base.Ns aaI mg
 blt:∃mb,base.Ns builtinsNs mb/\∀x:Str,x≠"__name__"->mb x=abm x
 nolimit:base.NoLimit
structure Cx where
 prog:aae
 w:World
 K:ZC
 mg:Str->Option Value
 base:Heap
 A:aaC
 N:List Str
 s₀:Pr
 H₀:Hp
 env:Env
 outer:List Env
 stack:List Env
 ex:List Addr
 fn:Str->Bool
 calm:Bool
 pn:List (Addr×Obj)
 xe:Value->Pr->Prop
def frs(l:List Env):List Addr:=l.filterMap (·.frame)
noncomputable abbrev Cx.fs(X:Cx):List Addr:=frs X.outer
def Vis(z:Scope)(x:Str):Prop:=z.names.lookup x=some .local∨z.names.lookup x=some .cell∨z.names.lookup x=some .free
def Loc(z:Scope)(x:Str):Prop:=z.names.lookup x=some .local∨z.names.lookup x=some .cell
def Look(env:Env)(h:Heap)(m:Str->Option Value)(x:Str)(u:Value):Prop:=
 (env.kindOf x=some .local/\m x=some u)∨((env.kindOf x=some .cell∨env.kindOf x=some .free)/\∃c,env.cells.lookup x=some c/\h.IsCell c (some u))
structure Cx.Ok(X:Cx):Prop where
 mod:Mod X.K X.mg X.base
 kind:X.env.scope.kind= .function
 glob:X.env.globals=aaI
 blt:X.env.builtins=builtinsNs
 above:X.s₀.heap.objs.size<=X.env.locals
 inj:∀x y c,X.env.cells.lookup x=some c->X.env.cells.lookup y=some c->x=y
 has:∀x,(X.env.kindOf x=some .cell∨X.env.kindOf x=some .free)->∃c,X.env.cells.lookup x=some c
 cab:∀x c,X.fn x=true->X.env.cells.lookup x=some c->X.s₀.heap.objs.size<=c
 hd:X.calm=true->X.A.handled=none
 frames:X.A.frames=some X.stack
 stk:X.stack=X.outer∨(X.stack=X.env::X.outer/\X.env.frame=some X.env.locals)
 exf:∀b∈X.ex,b≠X.env.locals/\∀x c,X.env.cells.lookup x=some c->c≠b
 bs:∀b o,X.base.get? b=some o->X.s₀.heap.get? b=some o/\X.H₀ b=none
 bsz:X.base.objs.size<=X.s₀.heap.objs.size
 noex:∀b o,X.base.get? b=some o->b∉X.ex
 exfs:∀b∈X.ex,b∉X.fs
 funs:X.s₀.heap.FunFrames X.base X.outer
 frf:∀b∈X.fs,X.H₀ b=none
structure Inv(X:Cx)(pins:List (Addr×Obj))(σ:List (Option V))(H:Hp)(s:Shared):Prop where
 ok:X.Ok
 os:s.os=X.s₀.os
 bare:adz s.gens
 base:Un X.fs X.ex X.H₀ H X.s₀.heap s.heap
 loc:∃m,s.heap.Ns X.env.locals m/\∀(i:Nat)(x:Str)(v:V),X.N[i]? =some x->σ[i]? =some (some v)->Vis X.env.scope x->∃u,RelV v u/\Look X.env s.heap m x u
 cell:∀x c,X.env.cells.lookup x=some c->∃v,s.heap.IsCell c v
 free:H X.env.locals=none
 freeC:∀x c,X.env.cells.lookup x=some c->H c=none
 pin:∀p∈X.pn++pins,s.heap.get? p.1=some p.2/\H p.1=none/\p.1≠X.env.locals/\p.1∉X.fs/\∀v,p.2.data≠.cell v
 hok:HOk X.prog X.w H s.heap
 len:σ.length=X.N.length
variable{X:Cx}
theorem Cx.Ok.nofr(ok:X.Ok)(e:X.base.get? b=some o):b∉X.fs:=λU=>by
 have:=(ok.funs.mem U).1;rw[e]at this;cases this
variable{σ:List (Option V)}
theorem Inv.bs(I:Inv X pins σ H s):∀b o,X.base.get? b=some o->s.heap.get? b=some o/\H b=none:=λb o e=>
 ⟨I.base.keep b o (I.ok.bs b o e).1 (I.ok.bs b o e).2 (I.ok.nofr e) (I.ok.noex b o e),I.base.free b o (I.ok.bs b o e).1 (I.ok.bs b o e).2 (I.ok.noex b o e)⟩
theorem Inv.bk(I:Inv X pins σ H s):∀b o,X.base.get? b=some o->s.heap.get? b=some o:=λb o e=>(I.bs b o e).1
theorem Inv.mod(I:Inv X pins σ H s):Mod X.K X.mg X.base:=I.ok.mod
theorem Inv.kIn(I:Inv X pins σ H s):X.K.In s.heap:=I.ok.mod.kin.keeps I.bk
theorem Inv.lt(I:Inv X pins σ H s):X.env.locals<s.heap.objs.size:=let⟨_,hn,_⟩:=I.loc;hn.lt
theorem Inv.sz(I:Inv X pins σ H s):X.s₀.heap.objs.size<=s.heap.objs.size:=aa5 I.ok.above (ab8 I.lt)
theorem Inv.nofs(I:Inv X pins σ H s)(h:s.heap.objs.size<=a):a∉X.fs:=λU=>by
 obtain⟨_,o,B,_⟩:=I.ok.funs.mem U;exact absurd (Z4 (ZP B) (aa5 I.sz h)) (aaV _)
theorem Inv.cne(I:Inv X pins σ H s):∀x c,X.env.cells.lookup x=some c->c≠X.env.locals:=λx c e z=>by
 obtain⟨v,o,B,hd⟩:=I.cell x c e;obtain⟨m,⟨o',es,ep,Y,D,_⟩,_⟩:=I.loc;rw[z,Y]at B;cases B;rw[D]at hd;cases hd
theorem Inv.funs(I:Inv X pins σ H s):s.heap.FunFrames X.base X.outer:=by
 have all:∀(l:List Env),(∀b∈frs l,b∈X.fs)->X.s₀.heap.FunFrames X.base l->s.heap.FunFrames X.base l:=by
  intro l
  induction l with
  |nil=>intro _ _;trivial
  |cons env r F=>
   intro B Y;obtain⟨J,⟨L,o,D,hn,q,hd⟩,O⟩:=Y;have V:L∈X.fs:=B L (by unfold frs;rw[adI,D];exact aav);obtain⟨sl,e⟩:=I.base.slot L o q (I.ok.frf L V) V λz=>I.ok.exfs L z V;exact⟨J,⟨L,_,D,hn,e,hd⟩,F (λb U=>B b (by unfold frs;rw[adI,D];exact aaf _ U)) O⟩
 exact all X.outer (λ_ U=>U) I.ok.funs
theorem Inv.stack(I:Inv X pins σ H s):s.heap.FunFrames X.base X.stack:=by
 rcases I.ok.stk with e|⟨e,D⟩
 .rw[e];exact I.funs
 .rw[e]
  obtain⟨m,hn,_⟩:=I.loc;refine .cons (by rw[I.ok.kind];decide) D hn ?_ I.funs;exact Heap.get?_none_of_le (aa5 I.ok.bsz I.ok.above)
theorem Inv.stkSub(I:Inv X pins σ H s):∀b∈frs X.stack,b∈X.env.locals::X.fs:=λb U=>by
 rcases I.ok.stk with e|⟨e,D⟩
 .rw[e]at U;exact aaf _ U
 .rw[e]at U
  unfold frs at U;rw[adI,D]at U;exact U
theorem Inv.stkFree(I:Inv X pins σ H s):∀b∈frs X.stack,H b=none:=λb U=>by
 rcases ZR.mp (I.stkSub b U)with e|U
 .rw[e];exact I.free
 .obtain⟨_,o,ho,_⟩:=I.ok.funs.mem U
  exact I.base.free b o ho (I.ok.frf b U) λz=>I.ok.exfs b z U
theorem Inv.step(I:Inv X pins σ H s)
  (D:∀b∈ch,(b∈X.ex∨X.s₀.heap.objs.size<=b)/\b≠X.env.locals/\(∀x c,X.env.cells.lookup x=some c->c≠b)/\∀p∈X.pn++pins,p.1≠b)
  (keep:∀b o,b≠X.env.locals->b∉X.fs->b∉ch->s.heap.get? b=some o->H b=none->h'.get? b=some o)
  (slot:∀b o,b≠X.env.locals->b∈X.fs->b∉ch->s.heap.get? b=some o->H b=none->∃sl,h'.get? b=some {o with slots:=sl}) (free:∀b o,b∉ch->s.heap.get? b=some o->H b=none->H' b=none)
  (there:∀b o,b∉ch->s.heap.get? b=some o->∃o',h'.get? b=some o')
  (tups:∀b xs,H b=some (.tup xs)->H' b=some (.tup xs)) (frzs:∀b o u,H b=some (.frz o u)->H' b=some (.frz o u)) (tbls:∀b ps,H b=some (.tbl ps)->∃more,H' b=some (.tbl (ps++more)))
  (ns:∀m,s.heap.Ns X.env.locals m->h'.Ns X.env.locals m) (hok:HOk X.prog X.w H' h') (hg:adz g') :
  Inv X pins σ H' {s with heap:=h',gens:=g',drawn:=d',toks:=t'}:=by
 have a1:∀b o,X.s₀.heap.get? b=some o->b≠X.env.locals:=λb o e=>Z5 (Z4 (ZP e) I.ok.above);have a0:∀b o,X.s₀.heap.get? b=some o->b∉X.ex->b∉ch:=λb o e J U=>by
  rcases(D b U).1 with z|z
  .exact J z
  .exact absurd (Z4 (ZP e) z) (aaV _)
 have O:∀x c,X.env.cells.lookup x=some c->∀v,s.heap.IsCell c v->h'.IsCell c v:=λx c e v ⟨o,B,hd⟩=>by
  have Y:c∉ch:=λz=>(D c z).2.2.1 x c e rfl;by_cases Z:c∈X.fs
  .obtain⟨sl,q⟩:=slot c o (I.cne x c e) Z Y B (I.freeC x c e)
   exact⟨_,q,hd⟩
  .exact⟨o,keep c o (I.cne x c e) Z Y B (I.freeC x c e),hd⟩
 refine⟨I.ok,I.os,hg,⟨λb o e n U J=>?_,λb o e n U J=>?_,λb o e n J=>?_,λb o e J=>?_,λb xs e=>tups b xs (I.base.tups b xs e),λb o xs e=>frzs b o xs (I.base.frzs b o xs e),λb ps e=>?_⟩,?_,λx c e=>?_,?_,λx c e=>?_,λp F=>?_,hok,I.len⟩
 .exact keep b o (a1 b o e) U (a0 b o e J) (I.base.keep b o e n U J) (I.base.free b o e n J)
 .obtain⟨sl,e1⟩:=I.base.slot b o e n U J
  obtain⟨a2,e2⟩:=slot b _ (a1 b o e) U (a0 b o e J) e1 (I.base.free b o e n J);exact⟨a2,e2⟩
 .obtain⟨o',e1⟩:=I.base.there b o e J
  exact free b o' (a0 b o e J) e1 (I.base.free b o e n J)
 .obtain⟨o',e1⟩:=I.base.there b o e J
  exact there b o' (a0 b o e J) e1
 .obtain⟨m1,e1⟩:=I.base.tbls b ps e
  obtain⟨V,e2⟩:=tbls b _ e1;exact⟨m1++V,by rw[e2,Array.append_assoc]⟩
 .obtain⟨m,hn,hl⟩:=I.loc
  refine⟨m,ns m hn,λi x v e1 e2 e3=>?_⟩;obtain⟨u,r,l⟩:=hl i x v e1 e2 e3;refine⟨u,r,?_⟩;rcases l with l|⟨k,c,e,z⟩
  .exact .inl l
  .exact .inr ⟨k,c,e,O x c e _ z⟩
 .obtain⟨v,z⟩:=I.cell x c e
  exact⟨v,O x c e v z⟩
 .obtain⟨m,⟨o,_,_,B,_⟩,_⟩:=I.loc
  exact free _ o (λz=>(D _ z).2.1 rfl) B I.free
 .obtain⟨v,o,B,hd⟩:=I.cell x c e
  exact free c o (λz=>(D c z).2.2.1 x c e rfl) B (I.freeC x c e)
 .obtain⟨e,n,ne,nf,d⟩:=I.pin p F
  have Y:p.1∉ch:=λz=>(D p.1 z).2.2.2 p F rfl;exact⟨keep p.1 p.2 ne nf Y e n,free p.1 p.2 Y e n,ne,nf,d⟩
theorem Inv.un(I:Inv X pins σ H s)(u:Un X.fs [] H H' s.heap h')(hok:HOk X.prog X.w H' h'):Inv X pins σ H' {s with heap:=h',toks:=t'}:=by
 obtain⟨m,⟨o,es,ep,B,r⟩,_⟩:=id I.loc;obtain⟨sl,V⟩:=u.any B I.free (by simp);exact I.step (g':=s.gens) (d':=s.drawn) (ch:=[]) (λ_ z=>nomatch z) (λb o _ U _ e n=>u.keep b o e n U (by simp)) (λb o _ U _ e n=>u.slot b o e n U (by simp)) (λb o _ e n=>u.free b o e n (by simp)) (λb o _ e=>u.there b o e (by simp)) u.tups u.frzs u.tbls (λD J=>by
  obtain⟨o',O,q,Y,F⟩:=J;rw[B]at Y;cases Y;exact⟨_,O,q,V,F⟩) hok I.bare
theorem Inv.call(I:Inv X pins σ H s)(u:Un (frs X.stack) ch H H' s.heap h')(hok:HOk X.prog X.w H' h')(q:adz g')
  (D:∀b∈ch,(b∈X.ex∨X.s₀.heap.objs.size<=b)/\b≠X.env.locals/\(∀x c,X.env.cells.lookup x=some c->c≠b)/\∀p∈X.pn++pins,p.1≠b) :
  Inv X pins σ H' {s with heap:=h',gens:=g',drawn:=d',toks:=t'}:=by
 obtain⟨m,⟨o,es,ep,B,r⟩,_⟩:=id I.loc;obtain⟨sl,V⟩:=u.any B I.free λz=>(D _ z).2.1 rfl;exact I.step (ch:=ch) D (λb o V U Z e n=>u.keep b o e n (λz=>(ZR.mp (I.stkSub b z)).elim V U) Z) (λb o _ _ Z e n=>u.any e n Z) (λb o Z e n=>u.free b o e n Z) (λb o Z e=>u.there b o e Z) u.tups u.frzs u.tbls (λm' J=>by
  obtain⟨o',O,a0,Y,F⟩:=J;rw[B]at Y;cases Y;exact⟨_,O,a0,V,F⟩) hok q
theorem Inv.turned(I:Inv X pins σ H s)(k:∀b o,b≠it->s.heap.get? b=some o->h'.get? b=some o)(hn:H it=none)(V:it≠X.env.locals)
  (h1:it∈X.ex∨X.s₀.heap.objs.size<=it) (h2:∀x c,X.env.cells.lookup x=some c->c≠it) (D:∀p∈X.pn++pins,p.1≠it):Inv X pins σ H {s with heap:=h',toks:=t'}:=by
 have B:∀b u,H b=some u->b≠it:=λb u e z=>by rw[z,hn]at e;cases e
 refine I.step (g':=s.gens) (d':=s.drawn) (ch:=[it]) (λb U=>?_) (λb o _ _ Z e _=>k b o (λz=>Z (by simp[z])) e) (λb o _ _ Z e _=>⟨o.slots,k b o (λz=>Z (by simp[z])) e⟩) (λ_ _ _ _ n=>n)
  (λb o Z e=>⟨o,k b o (λz=>Z (by simp[z])) e⟩) (λ_ _ e=>e) (λ_ _ _ e=>e) (λb ps e=>⟨#[],by rw[e];simp⟩) (λm J=>?_) (λb u e=>?_) I.bare
 .have e:b=it:=by simpa using U
  subst e;exact⟨h1,V,h2,D⟩
 .obtain⟨o,es,ep,ho,r⟩:=J
  exact⟨o,es,ep,k _ o (aay V) ho,r⟩
 .refine(I.hok b u e).stay (λc v Z q=>k c v ?_ q) (λ_ q=>q) λ_ _ q=>q
  rcases Z with z|z
  .rw[z];exact B b u e
  .exact B c _ z
theorem Inv.tok(I:Inv X pins σ H s)(t:Nat):Inv X pins σ H {s with toks:=t}:=I.un (h':=s.heap) (t':=t) Un.refl I.hok
theorem Inv.kept(I:Inv X pins σ H s)(k:∀b u,s.heap.get? b=some u->h'.get? b=some u):Inv X pins σ H {s with heap:=h',toks:=t'}:=I.un (Un.kept k) (I.hok.kept k)
theorem Inv.laid{o:HO}(I:Inv X pins σ H s)(k:∀b u,s.heap.get? b=some u->h'.get? b=some u)(F:s.heap.objs.size<=a)(new:cM X.prog X.w (upd H a o) h' a o) :
 Inv X pins σ (upd H a o) {s with heap:=h',toks:=t'}:=I.un (Un.laid k F (I.hok.fresh F)) (I.hok.laid k F new)
theorem Inv.write{o:HO}(I:Inv X pins σ H s)(mu:Mut (H x))(V:e=x∨H e=some (.own x))(k:∀b u,b≠e->s.heap.get? b=some u->h'.get? b=some u)(D:∃u,h'.get? e=some u)
 (new:cM X.prog X.w (upd H x o) h' x o):Inv X pins σ (upd H x o) {s with heap:=h',toks:=t'}:=I.un (Un.write mu V k D) (I.hok.write mu V k D new)
theorem Inv.weak{Y:List (Option V)}(I:Inv X pins σ H s)(O:Y.length=σ.length)(w:∀(i:Nat) v,Y[i]? =some (some v)->σ[i]? =some (some v)):Inv X pins Y H s:=
 ⟨I.ok,I.os,I.bare,I.base,let⟨m,hn,hl'⟩:=I.loc;⟨m,hn,λi x v e1 e2 B=>hl' i x v e1 (w i v e2) B⟩,I.cell,I.free,I.freeC,I.pin,I.hok,O.trans I.len⟩
theorem Inv.pins_of{q:List (Addr×Obj)}(I:Inv X pins σ H s)(h:∀p∈q,s.heap.get? p.1=some p.2/\H p.1=none/\p.1≠X.env.locals/\p.1∉X.fs/\∀v,p.2.data≠.cell v):Inv X q σ H s:=
 ⟨I.ok,I.os,I.bare,I.base,I.loc,I.cell,I.free,I.freeC,λp F=>(Zy.mp F).elim (λz=>I.pin p (ZJ _ z)) (h p),I.hok,I.len⟩
variable{x:Str}
theorem Bu(U:N.Nodup)(a:N[i]? =some x)(b:N[j]? =some x):i=j:=by
 obtain⟨h1,e1⟩:=List.getElem?_eq_some_iff.mp a;obtain⟨h2,e2⟩:=List.getElem?_eq_some_iff.mp b;exact(af2 U).mp (e1.trans e2.symm)
variable{M:Model}{A:aaC}{E:Value->Pr->Prop}{v:V}{Q:Unit->Pr->Prop}
theorem Jd(I:Inv X pins σ H s)(hN:X.N.Nodup)(hi:X.N[i]? =some x)(J:Loc X.env.scope x)(r:RelV v u)
  (h:∀s',Inv X pins (σ.set i (some v)) H s'->(∃a,ab9 a s.heap s'.heap/\(a=X.env.locals∨X.env.cells.lookup x=some a))->Q () s') (D:X.fn x=true∨X.env.scope.names.lookup x=some .local:=by first|exact .inl rfl|exact .inr rfl|assumption):wpAny M A (storeName X.env x u) Q E s:=by
 obtain⟨m,hn,O⟩:=id I.loc;have a5:(X.env.scope.kind== .class||(X.env.scope.kind== .module&&X.env.locals !=X.env.globals))=false:=by rw[I.ok.kind];rfl
 have a2:i<σ.length:=by rw[I.len];exact(List.getElem?_eq_some_iff.mp hi).1
 have cne:=I.cne;have a0:∀{a:Addr}{h':Heap},(∃o,s.heap.get? a=some o/\H a=none)->ab9 a s.heap h'->HOk X.prog X.w H h':=λ{a h'} Y B b ob e=>by
  obtain⟨_,_,a1⟩:=Y;refine(I.hok b ob e).stay (λc w' Z q=>(B.2 c ?_).trans q) (λ_ q=>q) λ_ _ q=>q;rintro rfl;rcases Z with rfl|Z
  .rw[a1]at e;cases e
  .rw[a1]at Z;cases Z
 rcases J with hk|hk
 .refine wpAny_storeName_local hk hn (λh' a8 B=>?_) a5
  obtain⟨oL,_,_,a7,_⟩:=id hn;refine h _ ⟨I.ok,I.os,I.bare,⟨λb o e n U J=>?_,λb o e n U J=>?_,I.base.free,λb o e J=>?_,I.base.tups,I.base.frzs,I.base.tbls⟩,⟨_,a8,λj y v' e1 e2 e3=>?_⟩,λy c e=>?_,I.free,I.freeC,λp F=>?_,a0 ⟨oL,a7,I.free⟩ B,by simpa using I.len⟩ ⟨_,B,.inl rfl⟩
  .exact(B.2 b (Z5 (Z4 (ZP e) I.ok.above))).trans (I.base.keep b o e n U J)
  .obtain⟨sl,e1⟩:=I.base.slot b o e n U J
   exact⟨sl,(B.2 b (Z5 (Z4 (ZP e) I.ok.above))).trans e1⟩
  .obtain⟨o',e1⟩:=I.base.there b o e J
   exact⟨o',(B.2 b (Z5 (Z4 (ZP e) I.ok.above))).trans e1⟩
  .by_cases hj:j=i
   .subst hj
    rw[hi]at e1;cases e1;rw[abN a2]at e2;cases e2;exact⟨u,r,.inl ⟨hk,by simp⟩⟩
   .rw[List.getElem?_set_ne (aay hj)]at e2
    obtain⟨u',r',q⟩:=O j y v' e1 e2 e3;refine⟨u',r',?_⟩;rcases q with⟨k,e⟩|⟨k,c,e,z⟩
    .refine .inl ⟨k,?_⟩
     have:y≠x:=λe=>hj (Bu hN e1 (e▸hi));simp[this,e]
    .exact .inr ⟨k,c,e,z.sameBut B (cne y c e)⟩
  .obtain⟨w',z⟩:=I.cell y c e
   exact⟨w',z.sameBut B (cne y c e)⟩
  .obtain⟨e,n,ne,nf,d⟩:=I.pin p F
   exact⟨(B.2 p.1 ne).trans e,n,ne,nf,d⟩
 .have hfn:X.fn x=true:=by
   rcases D with z|z
   .exact z
   .rw[z]at hk;cases hk
  obtain⟨c,Z⟩:=I.ok.has x (.inl hk);obtain⟨w',z⟩:=I.cell x c Z;refine wpAny_storeName_cell I.ok.kind hk Z z (λh' a3 B=>?_);obtain⟨oc,a4,a6⟩:=id z;refine h {s with heap:=h'} ⟨I.ok,I.os,I.bare,⟨λb o e n U J=>?_,λb o e n U J=>?_,I.base.free,λb o e J=>?_,I.base.tups,I.base.frzs,I.base.tbls⟩,⟨m,hn.sameBut B (aay (cne x c Z)),λj y v' e1 e2 e3=>?_⟩,λy c' e=>?_,I.free,I.freeC,λp F=>?_,a0 ⟨oc,a4,I.freeC x c Z⟩ B,by simpa using I.len⟩ ⟨c,B,.inr Z⟩
  .exact(B.2 b (Z5 (Z4 (ZP e) (I.ok.cab x c hfn Z)))).trans (I.base.keep b o e n U J)
  .obtain⟨sl,e1⟩:=I.base.slot b o e n U J
   exact⟨sl,(B.2 b (Z5 (Z4 (ZP e) (I.ok.cab x c hfn Z)))).trans e1⟩
  .obtain⟨o',e1⟩:=I.base.there b o e J
   exact⟨o',(B.2 b (Z5 (Z4 (ZP e) (I.ok.cab x c hfn Z)))).trans e1⟩
  .by_cases hj:j=i
   .subst hj
    rw[hi]at e1;cases e1;rw[abN a2]at e2;cases e2;exact⟨u,r,.inr ⟨.inl hk,c,Z,a3⟩⟩
   .rw[List.getElem?_set_ne (aay hj)]at e2
    obtain⟨u',r',q⟩:=O j y v' e1 e2 e3;refine⟨u',r',?_⟩;rcases q with q|⟨k,c',e,z'⟩
    .exact .inl q
    .refine .inr ⟨k,c',e,z'.sameBut B ?_⟩
     rintro rfl;exact hj (Bu hN e1 (I.ok.inj _ _ _ e Z▸hi))
  .by_cases hcc:c'=c
   .subst hcc;exact⟨_,a3⟩
   .obtain⟨w2,z2⟩:=I.cell y c' e
    exact⟨w2,z2.sameBut B hcc⟩
  .obtain⟨e,n,ne,nf,d⟩:=I.pin p F
   refine⟨(B.2 p.1 ?_).trans e,n,ne,nf,d⟩;intro q;rw[q,a4]at e;have q':oc=p.2:=aaD e;exact d w' (by rw[←q'];exact a6)
theorem jt(I:Inv X pins σ H s)(U:X.N.Nodup)(hi:X.N[i]? =some x)(J:Loc X.env.scope x)(r:RelV v u)
  (h:∀s',Inv X pins (σ.set i (some v)) H s'->Q () s') (D:X.fn x=true∨X.env.scope.names.lookup x=some .local:=by first|exact .inl rfl|exact .inr rfl|assumption):wpAny M A (storeName X.env x u) Q E s:=
 Jd I U hi J r (λs' q _=>h s' q) D
theorem Inv.call'(I:Inv X pins σ H s)(B:s'.os=s.os)(u:Un (frs X.stack) ch H H' s.heap s'.heap)(hok:HOk X.prog X.w H' s'.heap)(q:adz s'.gens)
  (D:∀b∈ch,(b∈X.ex∨X.s₀.heap.objs.size<=b)/\b≠X.env.locals/\(∀x c,X.env.cells.lookup x=some c->c≠b)/\∀p∈X.pn++pins,p.1≠b):Inv X pins σ H' s':=by
 obtain⟨h',g',d',t',o'⟩:=s';have e:o'=s.os:=B;subst e;exact I.call (g':=g') (t':=t') (d':=d') u hok q D
abbrev XK:=Value->Option Addr->Hp->Prop
abbrev St:=List (Option V)
abbrev VK:=V->Hp->Prop
abbrev TE:=St->Hp->VK->Prop
abbrev TT:=St->Hp->(Bool->Hp->Prop)->Prop
abbrev TA:=St->Hp->(List V->Hp->Prop)->Prop
structure Ends where
 nx:St->Hp->Prop
 rt:VK
 bk:St->Hp->Prop:=λ_ _=>False
 ct:St->Hp->Prop:=λ_ _=>False
abbrev TS:=Ends->St->Hp->Prop
def EP(X:Cx)(pins:List (Addr×Obj))(σ:St)(Q:VK)(u:Value)(s':Pr):Prop:=∃v H',Inv X pins σ H' s'/\RelV v u/\Q v H'
def TP(X:Cx)(pins:List (Addr×Obj))(σ:St)(Q:Bool->Hp->Prop)(b:Bool)(s':Pr):Prop:=∃H',Inv X pins σ H' s'/\Q b H'
def AP(X:Cx)(pins:List (Addr×Obj))(σ:St)(Q:List V->Hp->Prop)(us:List Value)(s':Pr):Prop:=∃vs H',Inv X pins σ H' s'/\Vals vs us/\Q vs H'
def SP(X:Cx)(pins:List (Addr×Obj))(D:Ends)(f:Flow)(s':Pr):Prop:=
 match f with
 |.next=>∃Y H',Inv X pins Y H' s'/\D.nx Y H'
 |.brk=>∃Y H',Inv X pins Y H' s'/\D.bk Y H'
 |.cont=>∃Y H',Inv X pins Y H' s'/\D.ct Y H'
 |.ret u=>∃v Y H',Inv X pins Y H' s'/\RelV v u/\D.rt v H'
def PE(X:Cx)(e:Expr)(t:TE):Prop:=
 ∀(pins:List (Addr×Obj))(s:Pr)(σ:St)(H:Hp)(Q:VK),Inv X pins σ H s->t σ H Q->wpAny 1.12 X.A (eval e X.env) 1.63 X.xe s
def PT(X:Cx)(e:Expr)(t:TT):Prop:=
 ∀(pins:List (Addr×Obj))(s:Pr)(σ:St)(H:Hp)(Q:Bool->Hp->Prop),Inv X pins σ H s->t σ H Q->wpAny 1.12 X.A (aeO e X.env (eval e X.env)) (TP X pins σ Q) X.xe s
def PW(X:Cx)(e:Expr)(t:TT):Prop:=
 ∀(q:Sem Value)(pins:List (Addr×Obj))(s:Pr)(σ:St)(H:Hp)(Q:Bool->Hp->Prop),Inv X pins σ H s->t σ H Q->wpAny 1.12 X.A (aeO e X.env q) (TP X pins σ Q) X.xe s
variable{e:Expr}
theorem PW.pt{t:TT}(h:PW X e t):PT X e t:=h _
def PA(X:Cx)(es:List Expr)(t:TA):Prop:=
 ∀(pos:Pos)(pins:List (Addr×Obj))(s:Pr)(σ:St)(H:Hp)(Q:List V->Hp->Prop),Inv X pins σ H s->t σ H Q->wpAny 1.12 X.A (spliced (aaH pos (ZK es X.env))) (AP X pins σ Q) X.xe s
def PS(X:Cx)(st:Stmt)(t:TS):Prop:=
 ∀(pins:List (Addr×Obj))(s:Pr)(σ:St)(H:Hp)(D:Ends),Inv X pins σ H s->t D σ H->wpAny 1.12 X.A (exec st X.env) (SP X pins D) X.xe s
def PSs(X:Cx)(st:List Stmt)(t:TS):Prop:=
 ∀(pins:List (Addr×Obj))(s:Pr)(σ:St)(H:Hp)(D:Ends),Inv X pins σ H s->t D σ H->wpAny 1.12 X.A (execs st X.env) (SP X pins D) X.xe s
theorem thn{t:Sem α}{Q J:α->Pr->Prop}{s:Pr}(h:wpAny M A t Q E s)(U:∀a s,Q a s->J a s):wpAny M A t J E s:=aaY h U λ_ _ x=>x
section
variable{X:Cx}
def Di(i:Nat):TE:=λσ H Q=>∃v,σ[i]? =some (some v)/\Q v H
def tC(v:V):TE:=λ_ H Q=>Q v H
theorem Nf{i:Nat}{x:Str}{pos:Pos}(U:X.N[i]? =some x)(F:Vis X.env.scope x)(hd:(x==("__debug__":Str))=false:=by decide)(z:(x==("__classdict__":Str))=false:=by decide):PE X (.Name x pos) (Di i):=by
 intro pins s σ H Q I h;obtain⟨v,e,h⟩:=h;obtain⟨m,hn,O⟩:=I.loc;obtain⟨u,r,l⟩:=O i x v U e F;have D:EP X pins σ Q u s:=⟨v,H,I,r,h⟩;rcases l with⟨B,J⟩|⟨B,c,Z,q⟩
 .exact wpAny_Name (wpAny_loadName_local I.ok.kind B hn J D) hd
 .rcases B with B|B
  .exact wpAny_Name (wpAny_loadName_cell I.ok.kind B Z q D) hd
  .exact wpAny_Name (wpAny_loadName_free I.ok.kind B Z q D z) hd
theorem V_{i j pos}:PE X (.Constant (.int i) j pos) (tC (.int i)):=λ_ _ _ H _ I h=>wpAny_Constant_int ⟨.int i,H,I.tok _,⟨_,rfl⟩,h⟩
theorem Yp{b j pos}:PE X (.Constant (.bool b) j pos) (tC (.bl b)):=λ_ _ _ H _ I h=>Constant_bool ⟨.bl b,H,I,rfl,h⟩
theorem Vn{j pos}:PE X (.Constant .none j pos) (tC .non):=λ_ _ _ H _ I h=>Constant_none ⟨.non,H,I,rfl,h⟩
theorem Uv{x j pos}:PE X (.Constant (.str x) j pos) (tC (.str x)):=λ_ _ _ H _ I h=>Calls.Constant_str ⟨.str x,H,I.tok _,⟨_,rfl⟩,h⟩
def Gl(X:Cx)(x:Str):Prop:=X.env.kindOf x=some .globalImplicit
theorem Ag{E:Value->Pr->Prop}{pins:List (Addr×Obj)}{s:Pr}{σ:St}{H:Hp}{x:Str}{u:Value}{pos:Pos}{Q:Value->Pr->Prop}(I:Inv X pins σ H s)(q:Gl X x)(J:X.mg x=some u)(h:Q u s)
  (hd:(x==("__debug__":Str))=false:=by decide):wpAny 1.12 X.A (eval (.Name x pos) X.env) Q E s:=
 adY I.ok.kind q (Calls.loadGlobal_global (by rw[I.ok.glob];exact I.mod.glob.keeps I.bk) J h) hd
theorem mG{E:Value->Pr->Prop}{pins:List (Addr×Obj)}{s:Pr}{σ:St}{H:Hp}{x:Str}{u:Value}{pos:Pos}{Q:Value->Pr->Prop}(I:Inv X pins σ H s)(q:Gl X x)(J:X.mg x=none)(Z:abm x=some u)(h:Q u s)
  (hn:x≠"__name__":=by decide) (hd:(x==("__debug__":Str))=false:=by decide):wpAny 1.12 X.A (eval (.Name x pos) X.env) Q E s:=by
 obtain⟨z,h1,h2⟩:=I.mod.blt;exact adY I.ok.kind q (Calls.loadGlobal_builtin (by rw[I.ok.glob];exact I.mod.glob.keeps I.bk) J (by rw[I.ok.blt];exact h1.keeps I.bk) ((h2 x hn).trans Z) h) hd
theorem HQ{x:Str}{v:V}{u:Value}{pos:Pos}(q:Gl X x)(J:X.mg x=some u)(r:RelV v u)(hd:(x==("__debug__":Str))=false:=by decide):PE X (.Name x pos) (tC v):=
 λ_ _ _ H _ I h=>Ag I q J ⟨v,H,I,r,h⟩ hd
theorem QM{x:Str}{v:V}{u:Value}{pos:Pos}(q:Gl X x)(J:X.mg x=none)(Z:abm x=some u)(r:RelV v u)(hn:x≠"__name__":=by decide)(hd:(x==("__debug__":Str))=false:=by decide):PE X (.Name x pos) (tC v):=
 λ_ _ _ H _ I h=>mG I q J Z ⟨v,H,I,r,h⟩ hn hd
variable{a b:Expr}{ta tb:TE}{pos:Pos}
variable{tA tB':TT}{rest:List Expr}
def Yx(t u:TT):TT:=λσ H Q=>t σ H λc H1=>if c=true then u σ H1 Q else Q false H1
def tOr(t u:TT):TT:=λσ H Q=>t σ H λc H1=>if c=true then Q true H1 else u σ H1 Q
def Xq(t:TT):TT:=λσ H Q=>t σ H λc H1=>Q (!c) H1
theorem RC(Y:PT X a tA):PW X (.BoolOp .And [a] pos) tA:=by
 intro q pins s σ H Q I h;refine isTrue_and (thn (Y pins s σ H Q I h) λc F e=>?_);cases c with
 |true=>exact isTrue_and_nil e
 |false=>exact e
theorem Uq(Y:PT X a tA):PW X (.BoolOp .Or [a] pos) tA:=by
 intro q pins s σ H Q I h;refine isTrue_or (thn (Y pins s σ H Q I h) λc F e=>?_);cases c with
 |false=>exact isTrue_or_nil e
 |true=>exact e
theorem Vd(Y:PT X a tA)(U:PW X (.BoolOp .And (b::rest) pos) tB'):PW X (.BoolOp .And (a::b::rest) pos) (Yx tA tB'):=by
 intro q pins s σ H Q I h;refine isTrue_and (thn (Y pins s σ H _ I h) λc F ⟨H1,z,q1⟩=>?_);cases c with
 |true=>exact U q pins F σ H1 Q z q1
 |false=>exact⟨H1,z,q1⟩
theorem Yg(Y:PT X a tA)(U:PW X (.BoolOp .Or (b::rest) pos) tB'):PW X (.BoolOp .Or (a::b::rest) pos) (tOr tA tB'):=by
 intro q pins s σ H Q I h;refine isTrue_or (thn (Y pins s σ H _ I h) λc F ⟨H1,z,q1⟩=>?_);cases c with
 |true=>exact⟨H1,z,q1⟩
 |false=>exact U q pins F σ H1 Q z q1
theorem Wu(Y:PT X a tA):PT X (.UnaryOp .Not a pos) (Xq tA):=by
 intro pins s σ H Q I h;exact isTrue_not (Y pins s σ H (λc H1=>Q (!c) H1) I h)
def TV(ta tb:TE):TE:=λσ H Q=>ta σ H λx H1=>∃c,x= .bl c/\if c=true then tb σ H1 Q else Q (.bl false) H1
theorem Wg{op}{t:TE}(h:PE X a t):PE X (.BoolOp op [a] pos) t:=λpins s σ H Q I B=>BoolOp_one (h pins s σ H Q I B)
theorem Wa(Y:PE X a ta)(U:PE X (.BoolOp .And (b::rest) pos) tb):PE X (.BoolOp .And (a::b::rest) pos) (TV ta tb):=by
 intro pins s σ H Q I h;refine BoolOp_and (thn (Y pins s σ H _ I h) λv F ⟨x,H1,z,Z,q1⟩=>?_);obtain⟨c,rfl,q1⟩:=q1;cases Z;refine acs ?_;cases c with
 |true=>exact U pins F σ H1 Q z q1
 |false=>exact⟨.bl false,H1,z,rfl,q1⟩
def tIf(t:TT)(ta tb:TE):TE:=λσ H Q=>t σ H λc H1=>if c=true then ta σ H1 Q else tb σ H1 Q
theorem Cz{c:Expr}(Z:PT X c tA)(Y:PE X a ta)(U:PE X b tb):PE X (.IfExp c a b pos) (tIf tA ta tb):=by
 intro pins s σ H Q I h;refine wpAny_IfExp (thn (Z pins s σ H _ I h) λd F ⟨H1,z,q1⟩=>?_);cases d with
 |true=>exact Y pins F σ H1 Q z q1
 |false=>exact U pins F σ H1 Q z q1
end
def SqL(K:ZC)(H:Hp)(a:Addr)(xs:List V):Prop:=
 Rd H a (.lst xs)∨
  ∃(o:Obj)(its:Array Value)(n:Nat),K.lookup a=some o/\o.cls= .type "list"/\o.dict=none/\o.data= .seq its n/\its.size<=ZM/\Vals xs its.toList
def SqT(K:ZC)(H:Hp)(a:Addr)(xs:List V):Prop:=
 Rd H a (.tup xs)∨
  ∃(o:Obj)(its:Array Value)(n:Nat),K.lookup a=some o/\o.cls= .type "tuple"/\o.data= .seq its n/\its.size<=ZM/\Vals xs its.toList
def Zm:Value->Option V
 |.none=>some .non
 |.bool b=>some (.bl b)
 |.int i _=>some (.int i)
 |.str x _=>some (.str x)
 |.bytes b _=>some (.byt b)
 |.float b _=>some (.flt b)
 |.ref a=>some (.ref a)
 |.type n=>some (.ty n)
 |_=>none
theorem RelV.abs{x:V}(r:RelV x u):Zm u=some x:=by
 cases x with
 |non=>cases r;rfl
 |bl _=>cases r;rfl
 |int _=>obtain⟨t,rfl⟩:=r;rfl
 |str _=>obtain⟨t,rfl⟩:=r;rfl
 |byt _=>obtain⟨t,rfl⟩:=r;rfl
 |flt _=>obtain⟨t,rfl⟩:=r;rfl
 |ref _=>cases r;rfl
 |ty _=>cases r;rfl
theorem RelV.inj{x y:V}(r:RelV x u)(q:RelV y u):x=y:=aaD (r.abs.symm.trans q.abs)
theorem Vals.inj:∀{xs ys:List V}{us:List Value},Vals xs us->Vals ys us->xs=ys
 |_,_,_,.nil,.nil=>rfl
 |_,_,_,.cons r t,.cons r' t'=>by rw[r.inj r',Vals.inj t t']
theorem SqL.of{K:ZC}(h:H a=some (.lst xs)):SqL K H a xs:=.inl (.inl h)
theorem SqT.of{K:ZC}(h:H a=some (.tup xs)):SqT K H a xs:=.inl (.inl h)
variable{σ:St}
theorem Inv.list(I:Inv X pins σ H s)(h:SqL X.K H a xs):∃its:List Value,Vals xs its/\PlainL s.heap a its.toArray/\xs.length<=ZM:=by
 rcases h with h|⟨o,its,n,q,Z,hd,B,hz,r⟩
 .obtain⟨z,its,n,r,e⟩:=h.ok I.hok
  exact⟨its,r,⟨_,n,e,rfl,rfl,rfl⟩,z⟩
 .refine⟨its.toList,r,⟨o,n,I.kIn a o q,Z,hd,by simpa using B⟩,?_⟩
  have e:=r.length;simp![abb]at e;omega
theorem Inv.tuple(I:Inv X pins σ H s)(h:SqT X.K H a xs):∃its:List Value,Vals xs its/\IsTup s.heap a its.toArray/\xs.length<=ZM:=by
 rcases h with h|⟨o,its,n,q,Z,B,hz,r⟩
 .obtain⟨z,its,r,p⟩:=h.ok I.hok
  exact⟨its,r,p.t,z⟩
 .refine⟨its.toList,r,⟨o,I.kIn a o q,Z,n,by simpa using B⟩,?_⟩
  have e:=r.length;simp![abb]at e;omega
variable{ys:List V}
theorem Inv.list_inj(I:Inv X pins σ H s)(h:SqL X.K H a xs)(h':SqL X.K H a ys):xs=ys:=by
 obtain⟨its,r,⟨o,n,e,_,_,d⟩,_⟩:=I.list h;obtain⟨its',F,⟨o',z,Y,_,_,d'⟩,_⟩:=I.list h';rw[e]at Y;cases Y;rw[d]at d';injection d' with d1 _;have:its=its':=by simpa using congrArg Array.toList d1
 subst this;exact r.inj F
theorem Inv.tuple_inj(I:Inv X pins σ H s)(h:SqT X.K H a xs)(h':SqT X.K H a ys):xs=ys:=by
 obtain⟨its,r,⟨o,e,_,n,d⟩,_⟩:=I.tuple h;obtain⟨its',F,⟨o',Y,_,z,d'⟩,_⟩:=I.tuple h';rw[e]at Y;cases Y;rw[d]at d';injection d' with d1 _;have:its=its':=by simpa using congrArg Array.toList d1
 subst this;exact r.inj F
abbrev Cx.wish(X:Cx)(E:Value->Pr->Prop):Cx:={X with xe:=E}
abbrev Cx.nox(X:Cx):Cx:=X.wish λ_ _=>False
theorem Cx.Ok.wish(ok:X.Ok)(E:Value->Pr->Prop):(X.wish E).Ok:=
 ⟨ok.mod,ok.kind,ok.glob,ok.blt,ok.above,ok.inj,ok.has,ok.cab,ok.hd,ok.frames,ok.stk,ok.exf,ok.bs,ok.bsz,ok.noex,ok.exfs,ok.funs,ok.frf⟩
theorem Cx.Ok.unwish(ok:(X.wish E).Ok):X.Ok:=
 ⟨ok.mod,ok.kind,ok.glob,ok.blt,ok.above,ok.inj,ok.has,ok.cab,ok.hd,ok.frames,ok.stk,ok.exf,ok.bs,ok.bsz,ok.noex,ok.exfs,ok.funs,ok.frf⟩
theorem Inv.wish(I:Inv X pins σ H s)(E:Value->Pr->Prop):Inv (X.wish E) pins σ H s:=⟨I.ok.wish E,I.os,I.bare,I.base,I.loc,I.cell,I.free,I.freeC,I.pin,I.hok,I.len⟩
variable{E:Value->Shared->Prop}
theorem Inv.unwish(I:Inv (X.wish E) pins σ H s):Inv X pins σ H s:=⟨I.ok.unwish,I.os,I.bare,I.base,I.loc,I.cell,I.free,I.freeC,I.pin,I.hok,I.len⟩
theorem SP.unwish{D:Ends}{f:Flow}(h:SP (X.wish E) pins D f s'):SP X pins D f s':=by
 cases f with
 |next=>obtain⟨Y,H',I,q⟩:=h;exact⟨Y,H',I.unwish,q⟩
 |brk=>obtain⟨Y,H',I,q⟩:=h;exact⟨Y,H',I.unwish,q⟩
 |cont=>obtain⟨Y,H',I,q⟩:=h;exact⟨Y,H',I.unwish,q⟩
 |ret u=>obtain⟨v,Y,H',I,r,q⟩:=h;exact⟨v,Y,H',I.unwish,r,q⟩
theorem PSs.nox{st:List Stmt}{t:TS}(h:PSs X.nox st t):PSs X st t:=λpins s σ H D I B=>
 aaY (h pins s σ H D (I.wish _) B) (λ_ _ q=>q.unwish) λ_ _ z=>abq z
section
variable{X:Cx}{st:Stmt}{rest:List Stmt}{t u:TS}{e:Expr}{te:TE}{pos:Pos}
def T7:TS:=λD σ H=>D.nx σ H
def W6(t u:TS):TS:=λD σ H=>t {D with nx:=u D} σ H
theorem Q7:PSs X [] T7:=λ_ _ σ H _ I h=>adE ⟨σ,H,I,h⟩
theorem K3(h1:PS X st t)(h2:PSs X rest u):PSs X (st::rest) (W6 t u):=by
 intro pins s σ H D I h;refine wpAny_execs_cons (thn (h1 pins s σ H {D with nx:=u D} I h) λf F q=>?_);cases f with
 |next=>
  obtain⟨Y,H',J,q⟩:=q;exact h2 pins F Y H' D J q
 |ret v=>exact q
 |brk=>exact q
 |cont=>exact q
theorem PK(h1:PS X st t):PSs X [st] t:=by
 intro pins s σ H D I h;refine wpAny_execs_cons (thn (h1 pins s σ H D I h) λf F q=>?_);cases f with
 |next=>exact adE q
 |ret v=>exact q
 |brk=>exact q
 |cont=>exact q
theorem Inv.quiet{pins:List (Addr×Obj)}{σ:St}{H:Hp}{s:Pr}(I:Inv X pins σ H s):interactive X.env=false:=by simp[interactive,I.ok.kind]
def Ht(te:TE):TS:=λD σ H=>te σ H λ_ H1=>D.nx σ H1
theorem uT(V:PE X e te)(B:abS e none pos.line X.env=pure false:=by rfl):PS X (.Expr e pos) (Ht te):=by
 intro pins s σ H D I h;exact wpAny_Expr_any (thn (V pins s σ H _ I h) λv F ⟨x,H1,z,Z,q1⟩=>⟨σ,H1,z,q1⟩) I.quiet B
def R8(te:TE):TS:=λD σ H=>te σ H D.rt
theorem zc(V:PE X e te):PS X (.Return (some e) pos) (R8 te):=by
 intro pins s σ H D I h;exact wpAny_Return_some (thn (V pins s σ H _ I h) λv F ⟨x,H1,z,Z,q1⟩=>⟨x,σ,H1,z,Z,q1⟩)
def Yu(c:TT)(t u:TS):TS:=λD σ H=>c σ H λb H1=>if b=true then t D σ H1 else u D σ H1
theorem Ub{c:Expr}{a b:List Stmt}{tc:TT}(Z:PT X c tc)(Y:PSs X a t)(U:PSs X b u):PS X (.If c a b pos) (Yu tc t u):=by
 intro pins s σ H D I h;refine wpAny_If (thn (Z pins s σ H _ I h) λd F ⟨H1,z,q1⟩=>?_);cases d with
 |true=>exact Y pins F σ H1 D z q1
 |false=>exact U pins F σ H1 D z q1
def Vp:TS:=λ_ _ _=>False
theorem Kl:PS X st Vp:=λ_ _ _ _ _ _ h=>h.elim
end
abbrev TG:=V->St->Hp->(St->Hp->Prop)->Prop
abbrev TGs:=List V->St->Hp->(St->Hp->Prop)->Prop
def PG(X:Cx)(target:Expr)(t:TG):Prop:=
 ∀(pins:List (Addr×Obj))(s:Pr)(σ:St)(H:Hp)(v:V)(u:Value)(Q:St->Hp->Prop),Inv X pins σ H s->RelV v u->t v σ H Q->
  wpAny 1.12 X.A (acX target X.env u) (λ_ s'=>∃Y H',Inv X pins Y H' s'/\Q Y H') X.xe s
def PGs(X:Cx)(q:List Expr)(t:TGs):Prop:=
 ∀(pins:List (Addr×Obj))(s:Pr)(σ:St)(H:Hp)(vs:List V)(us:List Value)(Q:St->Hp->Prop),Inv X pins σ H s->Vals vs us->t vs σ H Q->
  wpAny 1.12 X.A (adq ((aaT q X.env).map (·.2)) us) (λ_ s'=>∃Y H',Inv X pins Y H' s'/\Q Y H') X.xe s
abbrev Ib:=V->V->V->Hp->(Hp->Prop)->Prop
def PX(X:Cx)(t:Ib):Prop:=
 ∀(pins:List (Addr×Obj))(s:Pr)(σ:St)(H:Hp)(o i v:V)(U q u:Value)(Q:Hp->Prop),Inv X pins σ H s->RelV o U->RelV i q->RelV v u->t o i v H Q->
  wpAny 1.12 X.A (aeP U q u) (λ_ s'=>∃H',Inv X pins σ H' s'/\Q H') X.xe s
def yH(i:Nat):TG:=λv σ H Q=>Q (σ.set i (some v)) H
theorem zy(U:X.N.Nodup)(hi:X.N[i]? =some x)(J:Loc X.env.scope x)(D:X.fn x=true∨X.env.scope.names.lookup x=some .local:=by first|exact .inl rfl|exact .inr rfl|assumption):PG X (.Name x pos) (yH i):=by
 intro pins s σ H v u Q I r h;exact wpAny_assign_Name (jt I U hi J r (λs' q=>⟨_,H,q,h⟩) D)
def QV:TGs:=λvs σ H Q=>vs=[]/\Q σ H
def J9(t:TG)(u:TGs):TGs:=λvs σ H Q=>∃v r,vs=v::r/\t v σ H λY H'=>u r Y H' Q
theorem GZ:PGs X [] QV:=by
 intro pins s σ H vs us Q I r h;obtain⟨e,h⟩:=h;subst e;cases r;exact ad5 ⟨σ,H,I,h⟩
theorem BZ{t:TG}{u:TGs}(h1:PG X e t)(h2:PGs X es u)
  (B:(aaT (e::es) X.env).map (·.2)=acX e X.env::(aaT es X.env).map (·.2):=by rfl):PGs X (e::es) (J9 t u):=by
 intro pins s σ H vs us Q I r h;obtain⟨v,q,e1,h⟩:=h;subst e1;cases r with
 |cons r rr=>
  rw[B];refine abT (thn (h1 pins s σ H _ _ _ I r h) λ_ F ⟨U,H1,z,q1⟩=>?_);exact h2 pins F U H1 _ _ Q z rr q1
def Wi(K:ZC)(n:Nat)(t:TGs):TG:=λv σ H Q=>∃a xs,v= .ref a/\SqT K H a xs/\xs.length=n/\t xs σ H Q
variable{k:Nat}
theorem Np{t:TGs}(Z:X.calm=true)(h:PGs X es t)
  (hn:(aaT es X.env).length=n:=by rfl) (V:(aaT es X.env).findIdx? (·.1)=none:=by rfl):PG X (.Tuple es k pos) (Wi X.K n t):=by
 intro pins s σ H v u Q I r B;obtain⟨a,xs,e1,Y,O,B⟩:=B;subst e1;cases r;obtain⟨its,F,q,hz⟩:=I.tuple Y;refine assign_Tuple_tuple (I.ok.hd Z) q (by simp[hn,←O,F.length]) V λh' J=>?_;have z:Inv X pins σ H {s with heap:=h'}:=I.kept (t':=s.toks) λb o e=>J b o (Z5 (ZP e)) e;exact h pins _ σ H xs _ Q z (by simpa using F) B
def iY(to q:TE)(t:Ib):TG:=λv σ H Q=>to σ H λo H1=>q σ H1 λi H2=>t o i v H2 λB=>Q σ B
theorem V9{o i:Expr}{to ti:TE}{t:Ib}(ho:PE X o to)(hi:PE X i ti)(B:PX X t)
  (Y:∀v,acX (.Subscript o i pos) X.env v=(do
   let U ←abi [v] (eval o X.env)
   let q ←abi [v,U] (eval i X.env)
   ac7 pos
   abi [v,U,q] (aeP U q v)
   release [v,U,q] []):=by intro _;rfl):PG X (.Subscript o i pos) (iY to ti t):=by
 intro pins s σ H v u Q I r h;rw[Y];refine gD (aaW (thn (ho pins s σ H _ I h) λU F ⟨x,H1,z,Z,q1⟩=>?_));refine gD (aaW (thn (hi pins F σ H1 _ z q1) λq O ⟨y,H2,D,J,q2⟩=>?_));refine gD (aci (gD (aaW (thn (B pins O σ H2 x y v U q u _ D Z J r q2) λ_ s3 ⟨H3,V,q3⟩=>?_))));exact wpAny_release ⟨σ,H3,V,q3⟩
def QL(te:TE)(g:TG):TS:=λD σ H=>te σ H λx H1=>g x σ H1 D.nx
variable{te:TE}
theorem Ls{g:TG}(V:PE X e te)(J:PG X tg g)(B:ab0 [tg] e pos.line X.env=pure false:=by rfl)(U:acj [tg] e X.env=pure none:=by rfl)
  (h1:(aaT [tg] X.env).map (·.2)=[acX tg X.env]:=by rfl):PS X (.Assign [tg] e pos) (QL te g):=by
 intro pins s σ H D I h;refine wpAny_Assign_stores (thn (V pins s σ H _ I h) λv F ⟨x,H1,z,Z,q1⟩=>?_) B U;rw[h1];exact thn (J pins F σ H1 x v _ z Z q1) λ_ O q=>q
theorem JN(U:X.N.Nodup)(hi:X.N[i]? =some x)(J:Loc X.env.scope x)(V:PE X e te)(B:abS e (some (.Name x pos')) pos.line X.env=pure false:=by rfl)(Y:X.fn x=true∨X.env.scope.names.lookup x=some .local:=by first|exact .inl rfl|exact .inr rfl|assumption) :
  PS X (.Assign [.Name x pos'] e pos) (QL te (yH i)):=by
 intro pins s σ H D I h;refine wpAny_Assign_Name (thn (V pins s σ H _ I h) λv F ⟨y,H1,z,Z,q1⟩=>?_) B;exact jt z U hi J Z (λO q=>⟨_,H1,q,q1⟩) Y
def Yb(i j:Nat)(ta:TA):TS:=λD σ H=>ta σ H λvs H1=>∃v w,vs=[v,w]/\D.nx ((σ.set i (some v)).set j (some w)) H1
variable{a:Expr}{ta:TA}
theorem Ue{b:Expr}{pt:Pos}{kt k2 pt2}(Z:X.calm=true)(U:X.N.Nodup)(hi:X.N[i]? =some x)(hj:X.N[j]? =some y)(a1:i≠j)
  (J:X.env.scope.names.lookup x=some .local) (V:X.env.scope.names.lookup y=some .local) (Y:PA X [a,b] ta)
  (hw:acj [.Tuple [.Name x px,.Name y py] kt pt] (.Tuple [a,b] k2 pt2) X.env=pure (some [x,y]))
  (B:ab0 [.Tuple [.Name x px,.Name y py] kt pt] (.Tuple [a,b] k2 pt2) pos.line X.env=pure false:=by rfl) :
  PS X (.Assign [.Tuple [.Name x px,.Name y py] kt pt] (.Tuple [a,b] k2 pt2) pos) (Yb i j ta):=by
 intro pins s σ H D I h;rw[aeA];refine gD (aci ?_);rw[B];refine gD (ZD ?_);rw[Z1 (by decide)];refine gD (Tuple_ (thn (Y _ pins s σ H _ I h) λus F ⟨vs,H1,z,r1,q1⟩=>?_));obtain⟨v,w,e1,q1⟩:=q1;subst e1;obtain⟨u1,u2,rfl,rv,a0⟩:∃u1 u2,us=[u1,u2]/\RelV v u1/\RelV w u2:=by
  cases r1 with
  |cons p q=>
   cases q with
   |cons p' q'=>
    cases q';exact⟨_,_,rfl,p,p'⟩
 refine aaL ?_ (by show 2<=ZM;decide);have I2:Inv X pins σ H1 {F with heap:=F.heap.push {cls:=.type "tuple",data:=.seq [u1,u2].toArray}}:=z.kept (t':=F.toks) λb o e=>Zz _ e;rw[hw];refine gD (ZD ?_);show wpAny 1.12 X.A (do rule "assign.swapped-stores";let items ←unpackItems (.ref F.heap.objs.size) 2 none;adq [λv=>acH X.env y v,λv=>acH X.env x v] items.reverse;pure afE) _ _ _;refine gD (acI (gD (unpackItems_tuple (items:=#[u1,u2]) (I.ok.hd Z) (IsTup.new F.heap _) λh' a2=>?_)));have I3:=I2.kept (h':=h') (t':=F.toks) λb o e=>a2 b o (Z5 (ZP e)) e;show wpAny _ _ (adq [λv=>acH X.env y v,λv=>acH X.env x v] [u2,u1] >>=λ_=>pure afE) _ _ _;refine gD (abT (ac8 (jt I3 U hj (.inl V) a0 (λO I4=>?_) (.inr V))));refine abT (ac8 (jt I4 U hi (.inl J) rv (λs3 I5=>ad5 (ZD ?_)) (.inr J)));rw[adZ _ _ (aay a1)]at I5;exact⟨_,H1,I5,q1⟩
def O4(c:TT)(tb:TS):TS:=λD σ H=>∃W:Nat->St->Hp->Prop,(∃m,W m σ H)/\∀m σ H,W m σ H->
 c σ H λb H1=>if b=true then ∃N:St->Hp->Prop,(∀Y H',N Y H'->∃I,I<m/\W I Y H')/\tb {D with nx:=N,ct:=N,bk:=D.nx} σ H1 else D.nx σ H1
variable{tb:TS}
theorem Nj{tc:TT}(hp:afF 1.12 X.A X.env X.xe)(Z:PT X c tc)(U:PSs X body tb):PS X (.While c body [] pos) (O4 tc tb):=by
 intro pins s σ H D I h;obtain⟨W,⟨m0,w0⟩,a2⟩:=h;refine wpAny_While (codeAny_whileLoop (λn s'=>∃Y H',Inv X pins Y H' s'/\W n Y H') ?_ m0 ⟨σ,H,I,w0⟩);rintro n F ⟨a1,H1,z,w1⟩;refine abW hp (thn (Z pins F a1 H1 _ z (a2 n a1 H1 w1)) λb O ⟨H2,I2,q2⟩=>?_);cases b with
 |true=>
  obtain⟨N,hN,q2⟩:=q2;rw[ZV rfl];refine abW hp (thn (U pins O a1 H2 _ I2 q2) λf s3 q3=>?_);cases f with
  |next=>
   obtain⟨a0,B,V,q⟩:=q3;obtain⟨m',J,w3⟩:=hN a0 B q;exact⟨m',J,a0,B,V,w3⟩
  |cont=>
   obtain⟨a0,B,V,q⟩:=q3;obtain⟨m',J,w3⟩:=hN a0 B q;exact⟨m',J,a0,B,V,w3⟩
  |brk=>exact q3
  |ret v=>exact q3
 |false=>
  rw[Z1 aat];exact adE ⟨a1,H2,I2,q2⟩
structure It where
 go:Nat->Hp->Prop
 yld:Nat->Hp->V->Hp->Prop
 stop:Nat->Hp->Prop
def lB(X:Cx)(pins:List (Addr×Obj))(H:Hp)(b:Addr):Prop:=
 H b=none/\b≠X.env.locals/\b∉X.fs/\(b∈X.ex∨X.s₀.heap.objs.size<=b)/\(∀x c,X.env.cells.lookup x=some c->c≠b)/\∀p∈X.pn++pins,p.1≠b
variable{s:Pr}
theorem Inv.fpOk(I:Inv X pins σ H s)(U:s.heap.objs.size<=b)(hn:H' b=none):lB X pins H' b:=by
 refine⟨hn,abC (Z4 I.lt U),I.nofs U,.inr (aa5 I.sz U),λx c e z=>?_,λp F z=>?_⟩
 .obtain⟨v,q⟩:=I.cell x c e
  exact absurd (Z4 q.lt (by rw[z];exact U)) (aaV _)
 .exact absurd (Z4 (ZP (I.pin p F).1) (by rw[z];exact U)) (aaV _)
structure Turn(P:Program)(w:World)(K:PySem.W.Frag)(tg:Expr)(J:It)(fp:List Addr)(it:Addr)(tn:Nat->Heap->Prop):Prop where
 mem:it∈fp
 obj:∀i h,tn i h->∀b∈fp,∃o,h.get? b=some o/\∀v,o.data≠.cell v
 keep:∀i h h',tn i h->(∀b∈fp,∀o,h.get? b=some o->h'.get? b=some o)->tn i h'
 item:∀(X:Cx),X.prog=P->X.w=w->X.K=K->X.calm=true->∀(i:Nat)(pins:List (Addr×Obj))(s:Pr)(σ:St)(H:Hp)(E:Value->Pr->Prop),Inv X pins σ H s->(∀b∈fp,lB X pins H b)->tn i s.heap->J.go i H->
  wpAny (model P w) X.A (pyNext (.ref it)) (λr s1=>∃u,r=some u/\
   wpAny (model P w) X.A (acV tg (.ref it) u) (λ_ s2=>∃x H',Inv X pins σ H' s2/\RelV x u/\J.yld i H x H'/\tn (i+1) s2.heap/\∀b∈fp,H' b=none) E s1) E s
 done:∀(X:Cx),X.prog=P->X.w=w->X.K=K->X.calm=true->∀(i:Nat)(pins:List (Addr×Obj))(s:Pr)(σ:St)(H:Hp)(E:Value->Pr->Prop),Inv X pins σ H s->(∀b∈fp,lB X pins H b)->tn i s.heap->J.stop i H->
  wpAny (model P w) X.A (pyNext (.ref it)) (λr s1=>r=none/\Inv X pins σ H s1) E s
 self:∀(A:aaC)(i:Nat)(s:Pr)(Q:Value->Pr->Prop)(E:Value->Pr->Prop),tn i s.heap->Q (.ref it) s->wpAny (model P w) A (aeQ (.ref it)) Q E s
abbrev TI:=St->Hp->(It->Hp->Prop)->Prop
def PIE(X:Cx)(pins:List (Addr×Obj))(σ:St)(tg:Expr)(R:It->Hp->Prop)(z:Value)(O:Pr):Prop:=
 ∃(it:Addr)(fp:List Addr)(q:Nat->Heap->Prop)(J:It)(H':Hp),z= .ref it/\Inv X pins σ H' O/\Turn X.prog X.w X.K tg J fp it q/\q 0 O.heap/\(∀b∈fp,lB X pins H' b)/\R J H'
def PI(X:Cx)(tg iter:Expr)(wi:TI):Prop:=
 ∀(pins:List (Addr×Obj))(s:Pr)(σ:St)(H:Hp)(R:It->Hp->Prop),Inv X pins σ H s->wi σ H R->
  wpAny 1.12 X.A (eval iter X.env) (λv F=>wpAny 1.12 X.A (aeQ v) (PIE X pins σ tg R) X.xe F) X.xe s
theorem Gw   {E:Value->Pr->Prop}      {n:String} {vs:Array Value}  (B:s.heap.get? it=some o) (Z:o.cls = .type n) (hd:o.data = .fields vs)
    (hn:["enumerate", "zip", "dict_itemiterator", "dict_reverseitemiterator", "odict_iterator", "itertools.zip_longest", "itertools.pairwise"].contains n=false) (U:Q () s):wpAny M A (acV tg (.ref it) u) Q E s:=by
  unfold acV
  cases tg <;> first
    | exact ZD U
    | (cases u <;> first
        | exact ZD U
        | (refine gD (ae_ B ?_)
           rw [Z,hd]
           show wpAny M A (if (["enumerate", "zip", "dict_itemiterator", "dict_reverseitemiterator", "odict_iterator", "itertools.zip_longest", "itertools.pairwise"].contains n && vs[0]? == some (acY _))=true then _ else _) Q E s
           rw [Z1 (by intro h; rw [hn,Bool.false_and] at h; cases h)]
           exact ZD U))
def Itl(K:ZC)(a:Addr):It:=
 ⟨λi H=>∃xs x,SqL K H a xs/\xs[i]? =some x,λi H x H'=>H'=H/\∀xs,SqL K H a xs->xs[i]? =some x,λi H=>∃xs,SqL K H a xs/\xs.length<=i⟩
def Itt(K:ZC)(a:Addr):It:=
 ⟨λi H=>∃xs x,SqT K H a xs/\xs[i]? =some x,λi H x H'=>H'=H/\∀xs,SqT K H a xs->xs[i]? =some x,λi H=>∃xs,SqT K H a xs/\xs.length<=i⟩
def Itr(lo:Int)(n:Nat):It:=⟨λi _=>i<n,λi H x H'=>H'=H/\x= .int (lo+i),λi _=>n<=i⟩
variable{P:aae}
theorem JG{K:ZC}(a it:Addr):Turn P w K tg (Itl K a) [it] it (λi h=>h.IsListIter it a i)where
 mem:=by simp
 obj:=λi h st b U=>by
  have e:b=it:=by simpa using U
  subst e;obtain⟨o,e,c,d⟩:=st;exact⟨o,e,λv z=>by rw[d]at z;cases z⟩
 keep:=λi h h' st k=>st.at λo e=>k it (by simp) o e
 item:=by
  intro X hP B hK Z i pins s σ H E I D st q;subst hP B hK;obtain⟨xs,x,Y,J⟩:=q;obtain⟨its,F,p,hz⟩:=I.list Y;obtain⟨u,hu,ru⟩:=F.get J;obtain⟨f0,f1,f2,f3,f4,f5⟩:=D it (by simp);refine adl st p.isList (x:=u) (by simpa using hu) λh' a0 sb=>?_;have I1:Inv X pins σ H {s with heap:=h'}:=I.turned (t':=s.toks) (λb o U e=>(sb.2 b U).trans e) f0 f1 f3 f4 f5;obtain⟨o,e,c,d⟩:=id a0;exact⟨u,rfl,Gw (s:={s with heap:=h'}) e c d (by decide) ⟨x,H,I1,ru,⟨rfl,λys V=>by rw[I.list_inj V Y];exact J⟩,a0,λb U=>(D b U).1⟩⟩
 done:=by
  intro X hP B hK Z i pins s σ H E I D st q;subst hP B hK;obtain⟨xs,Y,J⟩:=q;obtain⟨its,F,p,hz⟩:=I.list Y;obtain⟨f0,f1,f2,f3,f4,f5⟩:=D it (by simp);have O:=F.length;exact adA (I.ok.hd Z) st p.isList (by simp;omega) λh' eb=>⟨rfl,I.turned (t':=s.toks) (λb o U e=>eb b o U e) f0 f1 f3 f4 f5⟩
 self:=λ_ _ _ _ _ st h=>wpAny_pyIter_listiter st h
theorem Fx{K:ZC}(a it:Addr):Turn P w K tg (Itt K a) [it] it (λi h=>h.IsTupleIter it a i)where
 mem:=by simp
 obj:=λi h st b U=>by
  have e:b=it:=by simpa using U
  subst e;obtain⟨o,e,c,d⟩:=st;exact⟨o,e,λv z=>by rw[d]at z;cases z⟩
 keep:=λi h h' st k=>st.at λo e=>k it (by simp) o e
 item:=by
  intro X hP B hK Z i pins s σ H E I D st q;subst hP B hK;obtain⟨xs,x,Y,J⟩:=q;obtain⟨its,F,p,hz⟩:=I.tuple Y;obtain⟨u,hu,ru⟩:=F.get J;obtain⟨f0,f1,f2,f3,f4,f5⟩:=D it (by simp);refine wpAny_pyNext_tuple_item st (show s.heap.IsTuple a its.toArray from p) (x:=u) (by simpa using hu) λh' a0 sb=>?_;have I1:Inv X pins σ H {s with heap:=h'}:=I.turned (t':=s.toks) (λb o U e=>(sb.2 b U).trans e) f0 f1 f3 f4 f5;obtain⟨o,e,c,d⟩:=id a0;exact⟨u,rfl,Gw (s:={s with heap:=h'}) e c d (by decide) ⟨x,H,I1,ru,⟨rfl,λys V=>by rw[I.tuple_inj V Y];exact J⟩,a0,λb U=>(D b U).1⟩⟩
 done:=by
  intro X hP B hK Z i pins s σ H E I D st q;subst hP B hK;obtain⟨xs,Y,J⟩:=q;obtain⟨its,F,p,hz⟩:=I.tuple Y;obtain⟨f0,f1,f2,f3,f4,f5⟩:=D it (by simp);have O:=F.length;exact wpAny_pyNext_tuple_end (I.ok.hd Z) st (show s.heap.IsTuple a its.toArray from p) (by simp;omega) λh' eb=>⟨rfl,I.turned (t':=s.toks) (λb o U e=>eb b o U e) f0 f1 f3 f4 f5⟩
 self:=λ_ _ _ _ _ st h=>wpAny_pyIter_tupleiter st h
theorem FP{K:ZC}(it:Addr)(lo:Int)(n:Nat):Turn P w K tg (Itr lo n) [it] it (λi h=>IsRangeIter h it (lo+(i:Nat)*1) ((n:Int)-(i:Nat)) 1)where
 mem:=by simp
 obj:=λi h st b U=>by
  have e:b=it:=by simpa using U
  subst e;exact⟨_,st,λv z=>by
   have z':Data.fields _=Data.cell v:=z;cases z'⟩
 keep:=λi h h' st k=>k it (by simp) _ st
 item:=by
  intro X J B F Z i pins s σ H E I D st q;subst J B F;obtain⟨f0,V,f2,O,f4,f5⟩:=D it (by simp);have W:=Walks.range (prog:=X.prog) (w:=X.w) (I.ok.hd Z) it lo 1 n;refine W.item i s _ _ q st λv h' tk hv Y kk=>?_;obtain⟨t,rfl⟩:=hv;have I1:Inv X pins σ H {s with heap:=h',toks:=tk}:=I.turned (λb o U e=>kk b o (by simpa using U) e) f0 V O f4 f5;refine⟨_,rfl,Gw (s:={s with heap:=h',toks:=tk}) (n:="range_iterator") Y rfl rfl (by decide) ⟨.int (lo+i),H,I1,⟨t,?_⟩,⟨rfl,rfl⟩,Y,λb U=>(D b U).1⟩⟩;rw[Int.mul_one]
 done:=by
  intro X J B F Z i pins s σ H E I D st q;subst J B F;obtain⟨f0,V,f2,O,f4,f5⟩:=D it (by simp);exact wpAny_pyNext_range_end (I.ok.hd Z) st (by have:n<=i:=q;omega) λh' eb=>⟨rfl,I.turned (t':=s.toks) (λb o U e=>eb b o U e) f0 V O f4 f5⟩
 self:=λ_ _ _ _ _ st h=>wpAny_pyIter_rangeiter st h
theorem O2{R:It->Hp->Prop}{E:Value->Pr->Prop}{lo hi:Int}{t u v:Tok}(I:Inv X pins σ H s)(h1: -(2 ^ 62)<=lo)(h2:lo<2 ^ 62)(Z: -(2 ^ 62)<=hi)(V:hi<2 ^ 62)
  (q:R (Itr lo (hi-lo).toNat) H):wpAny 1.12 X.A (aeQ (.ref s.heap.objs.size)) (PIE X pins σ tg R) E {s with heap:=s.heap.push {cls:=.type "range",data:=.fields #[.int lo t,.int hi u,.int 1 v]},toks:=tk}:=by
 refine wpAny_pyIter_range (IsRange.new ..) (small_one h1 h2 Z V) ?_;have z:Inv X pins σ H {s with heap:=s.heap.push {cls:=.type "range",data:=.fields #[.int lo t,.int hi u,.int 1 v]},toks:=tk}:=I.kept λb o e=>Zz _ e;refine⟨(s.heap.push {cls:=.type "range",data:=.fields #[.int lo t,.int hi u,.int 1 v]}).objs.size,[(s.heap.push {cls:=.type "range",data:=.fields #[.int lo t,.int hi u,.int 1 v]}).objs.size],_,_,H,rfl,
  z.kept (t':=tk) λb o e=>Zz _ e,FP _ lo (hi-lo).toNat,?_,λb U=>?_,q⟩
 .have e1:lo+((0:Nat):Int)*1=lo:=by simp
  have e2:(((hi-lo).toNat:Nat):Int)-((0:Nat):Int)=Builtin.Range.rangeSize lo hi 1:=by rw[rangeSize_one];split<;>omega
  show IsRangeIter _ _ (lo+((0:Nat):Int)*1) ((((hi-lo).toNat:Nat):Int)-((0:Nat):Int)) 1;rw[e1,e2];exact Z6 _ rfl
 .have e:b=(s.heap.push {cls:=.type "range",data:=.fields #[.int lo t,.int hi u,.int 1 v]}).objs.size:=by simpa using U
  subst e;exact z.fpOk (ZQ _) (z.hok.fresh (ZQ _))
def SX(ta:TA):TI:=λσ H R=>ta σ H λvs H1=>∃j:Int,vs=[.int j]/\-(2 ^ 62)<=j/\j<2 ^ 62/\R (Itr 0 j.toNat) H1
theorem JF{p:Pos}(D:Gl X "range")(J:X.mg "range"=none)(Y:PA X [a] ta)(B:ZK [a] X.env=[(false,eval a X.env)]:=by rfl):PI X tg (.Call (.Name "range" p) [a] [] pos) (SX ta):=by
 intro pins s σ H R I h;refine Call_ (mG I D J boot_range (aa2 (thn (Y pos pins s σ H _ I h) λus F ⟨vs,H1,z,Z,q1⟩=>?_) B rfl));obtain⟨j,e,q1,q2,q⟩:=q1;subst e;cases Z with
 |cons r rr=>
  cases rr;obtain⟨t,rfl⟩:=r;exact call_range_1 (O2 z 1.11 1.11 q1 q2 (by simpa using q))
def YL(wi:TI)(g:TG)(tb:TS):TS:=λD σ H=>wi σ H λJ H1=>∃W:Nat->Nat->St->Hp->Prop,(∃m,W 0 m σ H1)/\∀i m σ H,W i m σ H->
 (J.stop i H/\D.nx σ H)∨(J.go i H/\∃N:St->Hp->Prop,(∀Y H',N Y H'->∃I,I<m/\W (i+1) I Y H')/\∀x H',J.yld i H x H'->g x σ H' λσ2 H2=>tb {D with nx:=N,ct:=N,bk:=D.nx} σ2 H2)
def lE(fp:List Addr)(h:Heap):List (Addr×Obj):=fp.filterMap λb=>(h.get? b).map λo=>(b,o)
theorem d7(U:b∈fp)(e:h.get? b=some o):(b,o)∈lE fp h:=adR.mpr ⟨b,U,by rw[e];rfl⟩
theorem tG{p:Addr×Obj}(F:p∈lE fp h):p.1∈fp/\h.get? p.1=some p.2:=by
 obtain⟨b,U,e⟩:=adR.mp F;cases q:h.get? b with
 |none=>rw[q]at e;cases e
 |some o=>
  rw[q]at e;have Y:(b,o)=p:=aaD e;subst Y;exact⟨U,q⟩
theorem Inv.pinned(I:Inv X pins σ H s)(D:∀b∈fp,lB X pins H b)(B:∀b∈fp,∃o,s.heap.get? b=some o/\∀v,o.data≠.cell v):Inv X (pins++lE fp s.heap) σ H s:=
 I.pins_of λp F=>(Zy.mp F).elim (λz=>I.pin p (W2 _ z)) λz=>by
  obtain⟨U,e⟩:=tG z;obtain⟨J,V,q,_⟩:=D p.1 U;obtain⟨o,Y,d⟩:=B p.1 U;rw[e]at Y;cases Y;exact⟨e,J,V,q,d⟩
theorem Inv.unpinned{pl:List (Addr×Obj)}(I:Inv X (pins++pl) σ H s):Inv X pins σ H s:=I.pins_of λp F=>I.pin p (W2 _ (ZJ _ F))
theorem Va{iter:Expr}{wi:TI}{g:TG}(hp:afF 1.12 X.A X.env X.xe)(Z:X.calm=true)(hi:PI X tg iter wi)(q:PG X tg g)(U:PSs X body tb)
  (B:∀x,aa8 iter X.env x=pure x:=by intro _;rfl):PS X (.For tg iter body [] pos) (YL wi g tb):=by
 intro pins s σ H D I h;refine wpAny_For (thn (hi pins s σ H _ I h) λv F h1=>thn h1 λb2 s2 h2=>?_) B;obtain⟨it,fp,tn,J,H2,e,I2,T,a9,f2,W,⟨m0,w0⟩,a5⟩:=h2;subst e;have a3:∀{H':Hp},(∀b∈fp,H' b=none)->∀b∈fp,lB X pins H' b:=λhn b U=>⟨hn b U,(f2 b U).2⟩;refine codeAny_forLoop_any (λn s'=>∃i Y H',Inv X pins Y H' s'/\tn i s'.heap/\(∀b∈fp,H' b=none)/\W i n Y H') ?_ m0 ⟨0,σ,H2,I2,a9,λb U=>(f2 b U).1,w0⟩;rintro n z ⟨i,a2,H3,I3,a7,a6,w3⟩;rcases a5 i n a2 H3 w3 with⟨stop,qn⟩|⟨go,N,hN,step⟩
 .refine abW hp (thn (T.done X rfl rfl rfl Z i pins z a2 H3 X.xe I3 (a3 a6) a7 stop) λr s4 ⟨O,I4⟩=>?_)
  subst O;exact adE ⟨a2,H3,I4,qn⟩
 .refine abW hp (thn (T.item X rfl rfl rfl Z i pins z a2 H3 X.xe I3 (a3 a6) a7 go) λr s4 ⟨u,O,V⟩=>?_)
  subst O;refine abW hp (thn V λ_ s5 ⟨x,H5,I5,r5,y5,a4,b1⟩=>?_);have b0:=I5.pinned (a3 b1) (T.obj _ _ a4);refine abW hp (thn (q _ s5 a2 H5 x u _ b0 r5 (step x H5 y5)) λ_ s6 ⟨a8,H6,I6,q6⟩=>?_);refine abW hp (thn (U _ s6 a8 H6 _ I6 q6) λf s7 q7=>?_);have a1:∀{a0:St}{H7:Hp},Inv X (pins++lE fp s5.heap) a0 H7 s7->N a0 H7->∃m,m<n/\∃i Y H',Inv X pins Y H' s7/\tn i s7.heap/\(∀b∈fp,H' b=none)/\W i m Y H':=λ{a0 H7} I7 n7=>by
   obtain⟨m',hm,w7⟩:=hN a0 H7 n7;refine⟨m',hm,i+1,a0,H7,I7.unpinned,T.keep _ _ _ a4 λb U o e=>(I7.pin (b,o) (W2 _ (W2 _ (d7 U e)))).1,λb U=>?_,w7⟩;obtain⟨o,e,d⟩:=T.obj _ _ a4 b U;exact(I7.pin (b,o) (W2 _ (W2 _ (d7 U e)))).2.1
  cases f with
  |next=>obtain⟨a0,H7,I7,n7⟩:=q7;exact a1 I7 n7
  |cont=>obtain⟨a0,H7,I7,n7⟩:=q7;exact a1 I7 n7
  |brk=>obtain⟨a0,H7,I7,q7⟩:=q7;exact⟨a0,H7,I7.unpinned,q7⟩
  |ret v=>obtain⟨x7,a0,H7,I7,r7,q7⟩:=q7;exact⟨x7,a0,H7,I7.unpinned,r7,q7⟩
abbrev R2:=V->V->Hp->VK->Prop
def OpR(X:Cx)(f:Value->Value->Sem Value)(r:R2):Prop:=
 ∀(pins:List (Addr×Obj))(s:Pr)(σ:St)(H:Hp)(x y:V)(v u:Value)(Q:VK),Inv X pins σ H s->RelV x v->RelV y u->r x y H Q->
  wpAny 1.12 X.A (f v u) 1.63 X.xe s
def UnR(X:Cx)(f:Value->Sem Value)(r:V->Hp->VK->Prop):Prop:=
 ∀(pins:List (Addr×Obj))(s:Pr)(σ:St)(H:Hp)(x:V)(v:Value)(Q:VK),Inv X pins σ H s->RelV x v->r x H Q->
  wpAny 1.12 X.A (f v) 1.63 X.xe s
def fZ(X:Cx)(f:Value)(r:List V->Hp->VK->Prop):Prop:=
 ∀(pins:List (Addr×Obj))(s:Pr)(σ:St)(H:Hp)(xs:List V)(us:List Value)(Q:VK),Inv X pins σ H s->Vals xs us->r xs H Q->
  wpAny 1.12 X.A (call f us) 1.63 X.xe s
def Zj(X:Cx)(r:V->Hp->(Bool->Hp->Prop)->Prop):Prop:=
 ∀(pins:List (Addr×Obj))(s:Pr)(σ:St)(H:Hp)(x:V)(v:Value)(Q:Bool->Hp->Prop),Inv X pins σ H s->RelV x v->r x H Q->
  wpAny 1.12 X.A (truthy v) (TP X pins σ Q) X.xe s
def tOp(r:R2)(ta tb:TE):TE:=λσ H Q=>ta σ H λx H1=>tb σ H1 λy H2=>r x y H2 Q
def tUn(r:V->Hp->VK->Prop)(ta:TE):TE:=λσ H Q=>ta σ H λx H1=>r x H1 Q
def rI(C:Int->Int->Prop)(g:Int->Int->V):R2:=λx y H Q=>∃i j,x= .int i/\y= .int j/\C i j/\Q (g i j) H
def rI0(g:Int->Int->V):R2:=λx y H Q=>∃i j,x= .int i/\y= .int j/\Q (g i j) H
def rU(g:Int->V):V->Hp->VK->Prop:=λx H Q=>∃i,x= .int i/\Q (g i) H
variable{b:Expr}{f:Value->Value->Sem Value}{ta tb:TE}
theorem WF(Y:PE X a ta)(U:PE X b tb){R:V->V->Hp->Prop}(I:Inv X pins σ H s)
  (h:ta σ H λx H1=>tb σ H1 λy H2=>R x y H2) {Q:Value->Pr->Prop} 
  (hf:∀v u O x y H2,Inv X pins σ H2 O->RelV x v->RelV y u->R x y H2->wpAny 1.12 X.A (f v u) Q X.xe O) :
  wpAny 1.12 X.A (eval a X.env) (λv D=>wpAny 1.12 X.A (eval b X.env) (λu B=>wpAny 1.12 X.A (f v u) Q X.xe B) X.xe D) X.xe s:=by
 refine thn (Y pins s σ H _ I h) λv F ⟨x,H1,z,Z,q1⟩=>?_;refine thn (U pins F σ H1 _ z q1) λu O ⟨y,H2,q,J,q2⟩=>?_;exact hf v u O x y H2 q Z J q2
variable{r:R2}
theorem T4{op:aeg}(B:OpR X (aa3 op) r)(Y:PE X a ta)(U:PE X b tb):PE X (.BinOp a op b pos) (tOp r ta tb):=by
 intro pins s σ H Q I h;exact wpAny_BinOp (WF Y U I h λv u O x y H2 D rx z q=>B pins O σ H2 x y v u Q D rx z q)
theorem Xy{op:UnaryOp}{r:V->Hp->VK->Prop}(B:UnR X (unaryOp op) r)(Y:PE X a ta):PE X (.UnaryOp op a pos) (tUn r ta):=by
 intro pins s σ H Q I h;exact UnaryOp_ (thn (Y pins s σ H _ I h) λv F ⟨x,H1,z,Z,q1⟩=>B pins F σ H1 x v Q z Z q1)
theorem opI{C:Int->Int->Prop}
  (z:∀(i j:Int)(t u:Tok)(s:Pr)(Q:Value->Pr->Prop)(E:Value->Pr->Prop),C i j->Q (.int (g i j) s.toks) {s with toks:=s.toks+1}->wpAny 1.12 X.A (f (.int i t) (.int j u)) Q E s) :
  OpR X f (rI C λi j=>.int (g i j)):=by
 intro pins s σ H x y v u Q I rx U h;obtain⟨i,j,rfl,rfl,Z,q⟩:=h;obtain⟨t,rfl⟩:=rx;obtain⟨t',rfl⟩:=U;exact z i j t t' s _ _ Z ⟨.int (g i j),H,I.tok _,⟨_,rfl⟩,q⟩
theorem Yh
  (z:∀(i j:Int)(t u:Tok)(s:Pr)(Q:Value->Pr->Prop)(E:Value->Pr->Prop),Q (.int (g i j) s.toks) {s with toks:=s.toks+1}->wpAny 1.12 X.A (f (.int i t) (.int j u)) Q E s) :
  OpR X f (rI0 λi j=>.int (g i j)):=by
 intro pins s σ H x y v u Q I rx U h;obtain⟨i,j,rfl,rfl,q⟩:=h;obtain⟨t,rfl⟩:=rx;obtain⟨t',rfl⟩:=U;exact z i j t t' s _ _ ⟨.int (g i j),H,I.tok _,⟨_,rfl⟩,q⟩
theorem U4{g:Int->Int->Bool}
  (z:∀(i j:Int)(t u:Tok)(s:Pr)(Q:Value->Pr->Prop)(E:Value->Pr->Prop),Q (.bool (g i j)) s->wpAny 1.12 X.A (f (.int i t) (.int j u)) Q E s) :
  OpR X f (rI0 λi j=>.bl (g i j)):=by
 intro pins s σ H x y v u Q I rx U h;obtain⟨i,j,rfl,rfl,q⟩:=h;obtain⟨t,rfl⟩:=rx;obtain⟨t',rfl⟩:=U;exact z i j t t' s _ _ ⟨.bl (g i j),H,I,rfl,q⟩
def Y5(i j:Int):Prop:=0<=j/\j<=1000000/\i.natAbs<2 ^ 64
def V1(i j:Int):Prop:=(-(2 ^ 64)<i/\i<2 ^ 64)∨(-(2 ^ 64)<j/\j<2 ^ 64)
theorem V1.ok{i j:Int}(h:V1 i j):IntMulOk i j:=by
 rcases h with⟨h1,h2⟩|⟨h1,h2⟩
 .exact .of_left (intBits_le_64 h1 h2)
 .exact .of_right (intBits_le_64 h1 h2)
theorem VD:OpR X (aa3 .Add) (rI0 λi j=>.int (i+j)):=Yh λ_ _ _ _ _ _ _ q=>add_int q
theorem U3:OpR X (aa3 .Sub) (rI0 λi j=>.int (i-j)):=Yh λ_ _ _ _ _ _ _ q=>sub_int q
theorem V4:OpR X (aa3 .Mult) (rI V1 λi j=>.int (i*j)):=opI λ_ _ _ _ _ _ _ Z q=>mul_int q Z.ok
theorem Vh:OpR X (aa3 .Mod) (rI (λ_ j=>0<j) λi j=>.int (i % j)):=opI λi j _ _ _ _ _ Z q=>by
 have h1:(0:Int)<j:=Z;exact mod_int' 1.11 (by rw[Int.fmod_eq_emod_of_nonneg i 1.11];exact q)
theorem V2:OpR X (aa3 .Pow) (rI Y5 λi j=>.int (i ^ j.toNat)):=opI λ_ _ _ _ _ _ _ Z q=>pow_int_small Z.1 Z.2.1 Z.2.2 q
theorem unI{f:Value->Sem Value}{g:Int->Int}
  (z:∀(i:Int)(t:Tok)(s:Pr)(Q:Value->Pr->Prop)(E:Value->Pr->Prop),Q (.int (g i) s.toks) {s with toks:=s.toks+1}->wpAny 1.12 X.A (f (.int i t)) Q E s) :
  UnR X f (rU λi=>.int (g i)):=by
 intro pins s σ H x v Q I rx h;obtain⟨i,rfl,q⟩:=h;obtain⟨t,rfl⟩:=rx;exact z i t s _ _ ⟨.int (g i),H,I.tok _,⟨_,rfl⟩,q⟩
theorem Vi:UnR X (unaryOp .USub) (rU λi=>.int (-i)):=unI λ_ _ _ _ _ q=>neg_int q
theorem zQ{Q:VK}{k F:Bool}(I:Inv X pins σ H s)(q:Q (.bl k) H)(e:k=F):EP X pins σ Q (.bool F) s:=by
 subst e;exact⟨.bl k,H,I,rfl,q⟩
theorem Yt:OpR X (aaA .Lt) (rI0 λi j=>.bl (decide (i<j))):=U4 λ_ _ _ _ _ _ _ q=>lt_int q
theorem Xz:OpR X (aaA .Gt) (rI0 λi j=>.bl (decide (j<i))):=U4 λ_ _ _ _ _ _ _ q=>gt_int q
theorem YQ:OpR X (aaA .GtE) (rI0 λi j=>.bl (decide (j<=i))):=U4 λ_ _ _ _ _ _ _ q=>ge_int q
theorem H_:OpR X (aaA .Lt) (λx y H Q=>∃i j,x= .str i/\y= .str j/\Q (.bl (decide (i.cps.toList<j.cps.toList))) H):=by
 intro pins s σ H x y v u Q I rx U h;obtain⟨i,j,rfl,rfl,q⟩:=h;obtain⟨t,rfl⟩:=rx;obtain⟨t',rfl⟩:=U;exact lt_str (zQ I q rfl)
theorem Je:OpR X (aaA .In) (λx y H Q=>∃i j,x= .str i/\y= .str j/\Q (.bl (!(aaG j i 0 j.length 1).isEmpty)) H):=by
 intro pins s σ H x y v u Q I rx U h;obtain⟨i,j,rfl,rfl,q⟩:=h;obtain⟨t,rfl⟩:=rx;obtain⟨t',rfl⟩:=U;exact in_str (zQ I q rfl)
theorem Vy:OpR X (aaA .Is) (λx y H Q=>y= .non/\Q (.bl (decide (x= .non))) H):=by
 intro pins s σ H x y v u Q I rx U h;obtain⟨rfl,q⟩:=h;cases U;refine is_none_gen (zQ I q ?_);cases x<;>first
  |(cases rx;rfl)
  |(obtain⟨t,rfl⟩:=rx;rfl)
theorem Pz:OpR X (aaA .IsNot) (λx y H Q=>y= .non/\Q (.bl (!decide (x= .non))) H):=by
 intro pins s σ H x y v u Q I rx U h;obtain⟨rfl,q⟩:=h;cases U;refine isnot_none_gen (zQ I q ?_);cases x<;>first
  |(cases rx;rfl)
  |(obtain⟨t,rfl⟩:=rx;rfl)
theorem RB(B:OpR X (aaA op) r)(Y:PE X a ta)(U:PE X b tb)(J:adt op b=false):PE X (.Compare a [op] [b] pos) (tOp r ta tb):=by
 intro pins s σ H Q I h;exact wpAny_Compare1 (WF Y U I h λv u O x y H2 D rx z q=>B pins O σ H2 x y v u Q D rx z q) J
def N8(t:TE):TT:=λσ H Q=>t σ H λx H'=>∃k,x= .bl k/\Q k H'
theorem Hl(B:OpR X (aaA op) r)(Y:PE X a ta)(U:PE X b tb)(J:adt op b=false):PT X (.Compare a [op] [b] pos) (N8 (tOp r ta tb)):=by
 intro pins s σ H Q I h;refine wpAny_isTrue_Compare1 (thn (Y pins s σ H _ I h) λv F ⟨x,H1,I1,Z,q1⟩=>thn (U pins F σ H1 _ I1 q1) λu O ⟨y,H2,D,r2,q2⟩=>
  thn (B pins O σ H2 x y v u _ D Z r2 q2) λc s3 ⟨z,q,V,r3,k,e,q3⟩=>?_) J
 subst e;cases r3;exact acs ⟨q,V,q3⟩
def Qh(K:ZC)(x:V)(H:Hp)(k:Bool):Prop:=
 match x with
 |.non=>k=false
 |.bl b=>k=b
 |.int i=>k=(i !=0)
 |.str y=>y.length<=ZM/\k=((y.length:Int)!=0)
 |.byt y=>y.size<=ZM/\k=((y.size:Int)!=0)
 |.ref p=>(∃xs,SqL K H p xs/\k= !xs.isEmpty)∨(∃xs,SqT K H p xs/\k= !xs.isEmpty)∨∃kvs,H p=some (.dK kvs)/\k= !kvs.isEmpty
 |_=>False
theorem Ec{kvs:List (κ×V)}{vs:List (κ×Value)}(r:KV kvs vs):(!vs.isEmpty)= !kvs.isEmpty:=by
 cases r<;>rfl
theorem wB(r:Vals xs its):(!its.toArray.isEmpty)= !xs.isEmpty:=by
 cases r<;>simp
theorem p7:(ZM:Nat)<2 ^ 63:=by rw[acS];decide
theorem Ul:Zj X (λx H Q=>∃k,Qh X.K x H k/\Q k H):=by
 intro pins s σ H x v Q I rx h;obtain⟨k,e,q⟩:=h;have O:=p7;have B:ZM=16777216:=acS;cases x with
 |non=>
  cases rx;have Y:k=false:=e;subst Y;exact truthy_none ⟨H,I,q⟩
 |bl b=>
  cases rx;have Y:k=b:=e;subst Y;exact acs ⟨H,I,q⟩
 |int i=>
  obtain⟨t,rfl⟩:=rx;have Y:k=(i !=0):=e;subst Y;exact PySem.P.truthy_int ⟨H,I,q⟩
 |str y=>
  obtain⟨t,rfl⟩:=rx;obtain⟨V,Y⟩:y.length<=ZM/\k=((y.length:Int)!=0):=e;subst Y;exact PySem.P.truthy_str 1.11 ⟨H,I.tok _,q⟩
 |byt y=>
  obtain⟨t,rfl⟩:=rx;obtain⟨V,Y⟩:y.size<=ZM/\k=((y.size:Int)!=0):=e;subst Y;exact PySem.W.truthy_bytes 1.11 ⟨H,I.tok _,q⟩
 |ref p=>
  cases rx;have Y:(∃xs,SqL X.K H p xs/\k= !xs.isEmpty)∨(∃xs,SqT X.K H p xs/\k= !xs.isEmpty)∨∃kvs,H p=some (.dK kvs)/\k= !kvs.isEmpty:=e;rcases Y with⟨xs,J,Y⟩|⟨xs,J,Y⟩|⟨kvs,J,Y⟩
  .subst Y
   obtain⟨its,r,pl,hz⟩:=I.list J;have z:=r.length;exact wpAny_truthy_list pl.isList (by simp![List.size_toArray];omega) ⟨H,I.tok _,by rw[wB r];exact q⟩
  .subst Y
   obtain⟨its,r,pl,hz⟩:=I.tuple J;have z:=r.length;exact truthy_tuple pl (by simp![List.size_toArray];omega) ⟨H,I.tok _,by rw[wB r];exact q⟩
  .subst Y
   obtain⟨hz,D,vs,r,m⟩:kvs.length<=ZM/\(p==abM)=false/\∃vs,KV kvs vs/\s.heap.DictOf (bG X.prog X.w) p vs:=I.hok p _ J;have z:kvs.length=vs.length:=adX r;exact wpAny_truthy_dict D m 1.11 ⟨H,I.tok _,by rw[Ec r];exact q⟩
 |_=>exact(show False from e).elim
theorem Kv(Y:PE X a ta)(V:∀q,aeO a X.env q=(do let v ←q;ac7 a.pos;abi [v] (truthy v))) :
  PT X a (λσ H Q=>ta σ H λx H'=>∃k,Qh X.K x H' k/\Q k H'):=by
 intro pins s σ H Q I h;exact isTrue_plain (thn (Y pins s σ H _ I h) λv F ⟨x,H1,z,Z,q1⟩=>Ul pins F σ H1 x v Q z Z q1) (V _)
theorem Fw:OpR X (aa3 .Add) (λx y H Q=>∃i j,x= .str i/\y= .str j/\i.length+j.length<=ZM/\Q (.str (i++j)) H):=by
 intro pins s σ H x y v u Q I rx U h;obtain⟨i,j,rfl,rfl,hz,q⟩:=h;obtain⟨t,rfl⟩:=rx;obtain⟨t',rfl⟩:=U;exact add_str (λt' tk=>⟨.str (i++j),H,I.tok _,⟨_,rfl⟩,q⟩) hz
theorem vals1{x:V}(r:Vals [x] us):∃u,us=[u]/\RelV x u:=by
 cases r with
 |cons Z J=>cases J;exact⟨_,rfl,Z⟩
theorem vals2{x y:V}(r:Vals [x,y] us):∃u z,us=[u,z]/\RelV x u/\RelV y z:=by
 cases r with
 |cons Z J=>
  cases J with
  |cons U q=>cases q;exact⟨_,_,rfl,Z,U⟩
theorem Oa:fZ X (.builtin "abs") (λxs H Q=>∃i,xs=[.int i]/\Q (.int (if i<0 then -i else i)) H):=by
 intro pins s σ H xs us Q I r h;obtain⟨i,rfl,q⟩:=h;obtain⟨u,rfl,t,rfl⟩:=vals1 r;exact call_abs_int λu tk=>⟨.int (if i<0 then -i else i),H,I.tok _,⟨_,rfl⟩,q⟩
theorem Ia(Z:X.calm=true):fZ X (.builtin "max") (λxs H Q=>∃i j,xs=[.int i,.int j]/\Q (.int (if j>i then j else i)) H):=by
 intro pins s σ H xs us Q I r h;obtain⟨i,j,rfl,q⟩:=h;obtain⟨u,V,rfl,⟨t,rfl⟩,⟨t',rfl⟩⟩:=vals2 r;refine max_two_ints (I.ok.hd Z) λh' tk k=>⟨_,H,I.kept k,?_,q⟩;by_cases F:j>i
 .rw[ZV F,ZV F];exact⟨_,rfl⟩
 .rw[Z1 F,Z1 F];exact⟨_,rfl⟩
theorem Ii(Z:X.calm=true):fZ X (.builtin "min") (λxs H Q=>∃i j,xs=[.int i,.int j]/\Q (.int (if j<i then j else i)) H):=by
 intro pins s σ H xs us Q I r h;obtain⟨i,j,rfl,q⟩:=h;obtain⟨u,V,rfl,⟨t,rfl⟩,⟨t',rfl⟩⟩:=vals2 r;refine min_two_ints (I.ok.hd Z) λh' tk k=>⟨_,H,I.kept k,?_,q⟩;by_cases F:j<i
 .rw[ZV F,ZV F];exact⟨_,rfl⟩
 .rw[Z1 F,Z1 F];exact⟨_,rfl⟩
theorem Iu:fZ X (.type "int") (λxs H Q=>(∃i,xs=[.int i]/\Q (.int i) H)∨∃k,xs=[.bl k]/\Q (.int (if k then 1 else 0)) H):=by
 intro pins s σ H xs us Q I r h;rcases h with⟨i,rfl,q⟩|⟨k,rfl,q⟩
 .obtain⟨u,rfl,t,rfl⟩:=vals1 r
  exact call_int_int ⟨.int i,H,I,⟨_,rfl⟩,q⟩
 .obtain⟨u,rfl,r1⟩:=vals1 r
  cases r1;exact call_int_bool ⟨.int (if k then 1 else 0),H,I.tok _,⟨_,rfl⟩,q⟩
structure Eg(h:Heap)(x dx C:Addr)(mA:Str->Option Value):Prop where
 obj:h.get? x=some (abA C dx)
 ns:h.Ns1 dx mA
 ne:dx≠x
theorem Jz(n:h.Ns1 dx mA):∃od,h.get? dx=some od/\∀name,adK name od=some (mA name):=by
 obtain⟨o,es,ep,B,hd,I,_,J⟩:=n;refine⟨o,B,λname=>?_⟩;have e:=J name;unfold nsFind findBy at e;rw[←Array.find?_toList]at e;unfold adK;rw[hd];dsimp only;split
 .rename_i y q
  rw[q]at e;exact congrArg some e
 .rename_i q
  rw[q]at e;have a:es.toList.any (·.refKey)=false:=by
   rw[List.any_eq_false];intro y V;obtain⟨z,t,O⟩:=I y (Array.mem_toList_iff.mp V);simp[DictEntry.refKey,O]
  have Z:¬es.toList.any (·.refKey)=true:=by rw[a];exact aat
  rw[Z1 Z];exact congrArg some e
theorem Eg.look{x:Addr}(I:Eg h x dx C mA):∃od,PySem.W.InstAt h x (abA C dx) C (some od)/\∀name,adK name od=some (mA name):=
 let⟨od,ho,hl⟩:=Jz I.ns
 ⟨od,⟨I.obj,rfl,rfl,ho⟩,hl⟩
section
variable{prog:Program}{w:World}{A:Around}{E:Value->Shared->Prop}{s:Shared}{K:PySem.W.Frag}{x dx C f:Addr}{mA:Str->Option Value}{name:Str}{v:Value}
theorem RZ{D:Bool}{Q:Value->Pr->Prop}(X:K.In s.heap)(I:Eg s.heap x dx C mA)(q:acJ K C name=true)(z:ade K C=true)
  (Y:aaK K (.ref C) name=some none) (Z:mA name=some v) (B:af3 v=true) (h:Q v {s with toks:=s.toks+1}) :
  wpAny 1.13 A (getAttr (.ref x) name D) Q E s:=by
 obtain⟨od,J,O⟩:=I.look;exact PySem.W.get_value X J (adJ q).1 (PySem.W.findObj_own z Y rfl (by rw[O,Z])) B h
theorem NB{pl:Sem Bool}{Q:Value×List Value->Pr->Prop}(X:K.In s.heap)(I:Eg s.heap x dx C mA)(q:acJ K C name=true)
  (D:aaK K (.ref C) name=some (some (.ref f))) (Y:adF K (.ref f)=true) (Z:mA name=none) (h:Q (.ref f,[.ref x]) s) :
  wpAny 1.13 A (acZ (.ref x) name pl) Q E s:=by
 obtain⟨od,J,O⟩:=I.look;exact PySem.W.method_fn X J (adJ q).1 (adJ q).2 D (beq_iff_eq.mp Y) (by show(adK name od).map (·.isSome)=some false;rw[O,Z];rfl) h
theorem Rg{ns:List Str}{Q:Unit->Pr->Prop}(X:K.In s.heap)(I:Eg s.heap x dx C mA)
  (B:aaK K (.ref C) "__setattr__"=some (some (.builtin "object.__setattr__"))) (F:ad6 K C=true) (Y:aeB K C name=some none) (z:ade K C=true)
  (hw:afD mA ns) (hsz:ns.length<=ZM)
  (h:∀h',Eg h' x dx C (λy=>if y=name then some v else mA y)->ab9 dx s.heap h'->Q () {s with heap:=h',toks:=s.toks+2}) :
  wpAny 1.13 A (setAttr (.ref x) name v) Q E s:=by
 obtain⟨od,J,O⟩:=I.look;refine PySem.W.set_plain X J B (PySem.W.osa_open (s:={s with toks:=s.toks+1}) (r:=none) X J F Y λb=>?_);obtain⟨cd,Z,D⟩:=PySem.W.any_some z;have hx:s.heap.get? x=some ⟨.ref C,some dx,.plain,#[]⟩:=I.obj;refine gD (ZD (gD (gD (wpAny_loadPart hx (gD (PySem.W.Looks.here (s:={s with toks:=s.toks+1}) (PySem.W.looks_clsIn X Z) ?_))))));rw[D];refine ZD (a:=some dx) (gD (ZD (gD ?_)));refine wpAny_nsSet1 (s:={s with toks:=s.toks+1}) I.ns λh' q U=>?_;obtain⟨oD,a2,a3,a1,a0,V⟩:=q.count (PySem.Within.cons name v hw);refine gD (wpAny_lookBehind a1 (by rw[a0];exact pastItsLine_dict (aa5 V (by rw[Z3];omega))) ?_);exact ZD (h _ ⟨(U.2 _ (aay I.ne)).trans I.obj,q,I.ne⟩ U)
theorem Ld{R:aeR->Pr->Prop}{vs:List Value}{q:List (Str×Value)}(X:K.In s.heap)(J:adG K C=true)
  (hi:aaK K (.ref C) "__init__"=some (some (.ref f))) (D:PySem.W.typeIn K (.ref f)=some (.type "function"))
  (h:abX 1.13 (A.under (.builtin "type.__call__" ⟨.ref C::vs,q⟩)) (.call (.ref f) ⟨.ref (s.heap.objs.size+1)::vs,q⟩) (PySem.W.InitBack (s.heap.objs.size+1) R)
   {s with heap:=(s.heap.push aa9).push (abA C s.heap.objs.size)}) :
  abX 1.13 A (.call (.ref C) ⟨vs,q⟩) R s:=by
 obtain⟨z,g,d,t,os⟩:=s;exact PySem.W.make_core (PySem.W.makes_of X J) (PySem.W.looks_findIn X hi) (λself=>PySem.W.bind_fn X self D) (.inl rfl) h
end
def jW(f:Str)(v:V):List (Str×V)->List (Str×V)
 |[]=>[(f,v)]
 |(g,x)::r=>if g=f then(g,v)::r else(g,x)::jW f v r
theorem ue(f g:Str)(v:V):∀fs:List (Str×V),(jW f v fs).lookup g=if g=f then some v else fs.lookup g
 |[]=>by
  show acp g [(f,v)]=_;by_cases h:g=f
  .have hb:(g==f)=true:=beq_iff_eq.mpr h
   simp![acp,hb,ZV h]
  .have hb:(g==f)=false:=aba.mpr h
   simp![acp,hb,Z1 h]
 |(k,x)::r=>by
  have B:=ue f g v r;rw[show jW f v ((k,x)::r)=(if k=f then(k,v)::r else(k,x)::jW f v r)from rfl];by_cases I:k=f
  .rw[ZV I]
   by_cases h:g=k
   .have hb:(g==k)=true:=beq_iff_eq.mpr h
    simp![acp,hb,ZV (h.trans I)]
   .have hb:(g==k)=false:=aba.mpr h
    simp![acp,hb,Z1 (λe:g=f=>h (e.trans I.symm))]
  .rw[Z1 I]
   by_cases h:g=k
   .have hb:(g==k)=true:=beq_iff_eq.mpr h
    simp![acp,hb,Z1 (λe:g=f=>I (h.symm.trans e))]
   .have hb:(g==k)=false:=aba.mpr h
    simp![acp,hb];exact B
theorem sY(f:Str)(v:V):∀fs:List (Str×V),f∈(jW f v fs).map (·.1)/\∀g,g∈fs.map (·.1)->g∈(jW f v fs).map (·.1)
 |[]=>⟨by simp[jW],λg h=>by simp at h⟩
 |(k,x)::r=>by
  obtain⟨q,z⟩:=sY f v r;rw[show jW f v ((k,x)::r)=(if k=f then(k,v)::r else(k,x)::jW f v r)from rfl];by_cases I:k=f
  .rw[ZV I]
   subst I;exact⟨by simp,λg h=>by simpa using h⟩
  .rw[Z1 I]
   refine⟨?_,λg h=>?_⟩
   .rw[ZF]
    exact aaf _ q
   .rw[ZF]at h⊢
    rcases ZR.mp h with e|e
    .exact ZR.mpr (.inl e)
    .exact aaf _ (z g e)
theorem tV(f:Str)(v:V):∀fs:List (Str×V),(jW f v fs).length<=fs.length+1
 |[]=>by simp[jW]
 |(k,x)::r=>by
  have B:=tV f v r;rw[show jW f v ((k,x)::r)=(if k=f then(k,v)::r else(k,x)::jW f v r)from rfl];by_cases I:k=f
  .rw[ZV I,Z3,Z3];omega
  .rw[Z1 I,Z3,Z3];omega
variable{o:Option Value}
theorem mJ.some_of(r:mJ (some v) o):∃u,o=some u/\RelV v u:=by
 cases o with
 |none=>exact(show False from r).elim
 |some u=>exact⟨u,rfl,r⟩
theorem mJ.none_of(r:mJ none o):o=none:=by
 cases o with
 |none=>rfl
 |some u=>exact(show False from r).elim
theorem Ir(r:RelV v u):af3 u=true:=by
 cases v with
 |non=>cases (show u=aaF from r);rfl
 |bl b=>cases (show u=aea b from r);rfl
 |int i=>obtain⟨t,e⟩:=(show ∃t,u=ab7 i t from r);cases e;rfl
 |str x=>obtain⟨t,e⟩:=(show ∃t,u=acG x t from r);cases e;rfl
 |byt b=>obtain⟨t,e⟩:=(show ∃t,u=Value.bytes b t from r);cases e;rfl
 |flt b=>obtain⟨t,e⟩:=(show ∃t,u=aeE b t from r);cases e;rfl
 |ref a=>cases (show u=aac a from r);rfl
 |ty n=>cases (show u=ab5 n from r);rfl
section
variable{P:Program}{w:World}{H H':Hp}{h h':Heap}{a C dx:Addr}{fs fs':List (Str×V)}
theorem rM(hok:HOk P w H h)(e:H a=some (.ins C dx fs)):∃mA,Eg h a dx C mA/\(∀f,mJ (fs.lookup f) (mA f))/\afD mA (fs.map (·.1))/\fs.length<=1000/\H dx=some (.own a):=by
 obtain⟨d,z,D,ob,mA,n,r,q⟩:=(show cM P w H h a (.ins C dx fs)from hok a _ e);exact⟨mA,⟨ob,n,D⟩,r,q,z,d⟩
end
structure Cls(K:PySem.W.Frag)(C:Addr):Prop where
 pg:acJ K C Str.empty=true
 hd:ade K C=true
 po:ad6 K C=true
 sa:aaK K (.ref C) "__setattr__"=some (some (.builtin "object.__setattr__"))
theorem Cls.get{K:ZC}(c:Cls K C)(f:Str):acJ K C f=true:=c.pg
def kh(K:ZC)(C:Addr)(f:Str):Prop:=aaK K (.ref C) f=some none
variable{f:Str}
theorem kh.taker{K:ZC}(n:kh K C f):aeB K C f=some none:=by
 unfold aeB;rw[show aaK K (.ref C) f=some none from n];rfl
structure Meth(K:PySem.W.Frag)(C:Addr)(m:Str)(f:Addr):Prop where
 at_:aaK K (.ref C) m=some (some (.ref f))
 fn:adF K (.ref f)=true
 kp:acx K (.ref f)=true
section
variable{X:Cx}{pins:List (Addr×Obj)}{σ:St}{H:Hp}{s:Shared}{a C dx:Addr}{fs:List (Str×V)}{f:Str}{v:V}{A:Around}{E:Value->Shared->Prop}
theorem FZ{b:Bool}{Q:Value->Pr->Prop}(I:Inv X pins σ H s)(e:H a=some (.ins C dx fs))(c:Cls X.K C)(n:kh X.K C f)(l:fs.lookup f=some v)
  (h:∀u s',Inv X pins σ H s'->RelV v u->Q u s'):wpAny 1.12 A (getAttr (.ref a) f b) Q E s:=by
 obtain⟨mA,O,r,_,_,_⟩:=rM I.hok e;obtain⟨u,J,B⟩:=mJ.some_of (v:=v) (o:=mA f) (by rw[←l];exact r f);exact RZ I.kIn O (c.get f) c.hd n J (Ir B) (h u _ (I.tok _) B)
theorem vd{m:Str}{g:Addr}{pl:Sem Bool}{Q:Value×List Value->Pr->Prop}(I:Inv X pins σ H s)(e:H a=some (.ins C dx fs))(c:Cls X.K C)(k:Meth X.K C m g)(l:fs.lookup m=none)
  (h:Q (.ref g,[.ref a]) s):wpAny 1.12 A (acZ (.ref a) m pl) Q E s:=by
 obtain⟨mA,O,r,_,_,_⟩:=rM I.hok e;have hn:mA m=none:=mJ.none_of (by rw[←l];exact r m);exact NB I.kIn O (c.get m) k.at_ k.fn hn h
theorem Ed{y:V}{u:Value}{Q:Unit->Pr->Prop}(I:Inv X pins σ H s)(e:H a=some (.ins C dx fs))(c:Cls X.K C)(n:kh X.K C f)(Z:fs.length<1000)(J:RelV y u)
  (h:∀s',Inv X pins σ (upd H a (.ins C dx (jW f y fs))) s'->Q () s'):wpAny 1.12 A (setAttr (.ref a) f u) Q E s:=by
 obtain⟨mA,O,r,wi,_,B⟩:=rM I.hok e;have hz:(fs.map (·.1)).length<=ZM:=by rw[ZL,acS];omega
 refine Rg I.kIn O c.sa c.po n.taker c.hd wi hz λh' F D=>h _ ?_;have hd:∃o,h'.get? dx=some o:=let⟨o,_,_,e',_⟩:=F.ns;⟨o,e'⟩;refine I.write (x:=a) (e:=dx) (by rw[e];exact aaJ) (.inr B) (λb q U z=>(D.2 b U).trans z) hd ?_;refine⟨by rw[aQ O.ne];exact B,?_,O.ne,F.obj,_,F.ns,λg=>?_,λg Y=>?_⟩
 .have:=tV f y fs;omega
 .show mJ ((jW f y fs).lookup g) (if g=f then some u else mA g)
  rw[ue];by_cases q:g=f
  .rw[ZV q,ZV q];exact J
  .rw[Z1 q,Z1 q];exact r g
 .by_cases q:g=f
  .rw[q];exact(sY f y fs).1
  .refine(sY f y fs).2 g (wi g λz=>Y ?_)
   show(if g=f then some u else mA g)=none;rw[Z1 q];exact z
theorem Inv.made(I:Inv X pins σ H s):Inv X pins σ (upd (upd H s.heap.objs.size (.own (s.heap.objs.size+1))) (s.heap.objs.size+1) (.ins C s.heap.objs.size []))
  {s with heap:=(s.heap.push aa9).push (abA C s.heap.objs.size)}:=by
 have e1:(s.heap.push aa9).get? s.heap.objs.size=some aa9:=Z6 s.heap rfl;have e2:((s.heap.push aa9).push (abA C s.heap.objs.size)).get? (s.heap.objs.size+1)=some (abA C s.heap.objs.size):=by
  have:=Z6 (s.heap.push aa9) (o:=abA C s.heap.objs.size) rfl;rwa[aaX]at this
 have B:(s.heap.push aa9).Ns s.heap.objs.size (λ_=>none):=⟨aa9,#[],_,e1,rfl,(λe V=>absurd V (by simp)),λ_=>rfl⟩;have z:=I.laid (a:=s.heap.objs.size) (o:=.own (s.heap.objs.size+1)) (h':=s.heap.push aa9) (t':=s.toks) (λb u q=>Zz _ q) (ZQ _) ⟨_,e1⟩;refine z.laid (a:=s.heap.objs.size+1) (o:=.ins C s.heap.objs.size []) (t':=s.toks) (λb u q=>Zz _ q) (Nat.le_of_eq (aaX _ _)) ?_;have D:s.heap.objs.size≠s.heap.objs.size+1:=Z5 (abr _);refine⟨by rw[aQ D,aZ],abO _,D,e2,λ_=>none,(Heap.Ns1.of_empty B).at λo q=>Zz _ q,λ_=>aaJ,λy F=>absurd rfl F⟩
theorem R3{prog:aae}{w:World}{env:Env}{e:Expr}{f:Str}{pos:Pos}{s:Pr}{Q:Value->Pr->Prop}(U:aaR e f env (eval e env)=eval e env)
  (h:wpAny 1.13 A (eval e env) (λo D=>wpAny 1.13 A (getAttr o f true) Q E D) E s):wpAny 1.13 A (eval (.Attribute e f pos) env) Q E s:=
 Attribute_any_ h (by rw[arm_eval_Attribute,U])
end
def Xc(K:ZC)(ta:TE)(f:Str):TE:=λσ H Q=>ta σ H λx H1=>∃a C dx fs v,x= .ref a/\H1 a=some (.ins C dx fs)/\Cls K C/\kh K C f/\fs.lookup f=some v/\Q v H1
def Y0(K:ZC)(ta tv:TE)(f:Str):TS:=λD σ H=>tv σ H λy H1=>ta σ H1 λx H2=>∃a C dx fs,x= .ref a/\H2 a=some (.ins C dx fs)/\Cls K C/\kh K C f/\fs.length<1000/\
 D.nx σ (upd H2 a (.ins C dx (jW f y fs)))
def Sw(X:Cx)(op:aeg)(rd:V->V->Hp->VK->Prop):Prop:=
 ∀(pins:List (Addr×Obj))(s:Pr)(σ:St)(H:Hp)(x y:V)(u v:Value)(Q:VK),Inv X pins σ H s->RelV x u->RelV y v->rd x y H Q->wpAny 1.12 X.A (inplaceOp op u v) 1.63 X.xe s
theorem Mg(V:PE X e ta)(U:aaR e f X.env (eval e X.env)=eval e X.env):PE X (.Attribute e f pos) (Xc X.K ta f):=by
 intro pins s σ H Q I h;refine R3 U (thn (V pins s σ H _ I h) λu F ⟨x,H1,z,rx,a,C,dx,fs,v,ex,Z,c,n,l,q⟩=>?_);subst ex;obtain rfl:u=aac a:=rx;exact FZ z Z c n l λJ O D B=>⟨v,H1,D,B,q⟩
variable{o:Expr}{tv:TE}
theorem Wf(Y:PE X o ta)(Z:PE X value tv)(B:abS value (some (.Attribute o f pos')) pos.line X.env=pure false):PS X (.Assign [.Attribute o f pos'] value pos) (Y0 X.K ta tv f):=by
 intro pins s σ H D I h;refine plainObj_wpAny_Assign_Attribute (thn (Z pins s σ H _ I h) λu F ⟨y,H1,z,U,q⟩=>thn (Y pins F σ H1 _ z q) λov O ⟨x,H2,J,rx,a,C,dx,fs,ex,ea,c,n,l,q2⟩=>?_) B;subst ex;obtain rfl:ov=aac a:=rx;exact Ed J ea c n l U λs3 V=>⟨σ,_,V,q2⟩
def Yr:V->V->Hp->VK->Prop:=λx y H Q=>∃i j,x= .int i/\y= .int j/\Q (.int (i+j)) H
def Yk:V->V->Hp->VK->Prop:=λx y H Q=>∃i j,x= .int i/\y= .int j/\Q (.int (i-j)) H
theorem Wx:Sw X .Add Yr:=by
 rintro pins s σ H x y u v Q I rx U ⟨i,j,rfl,rfl,q⟩;obtain⟨t,rfl⟩:=(show ∃t,u=ab7 i t from rx);obtain⟨t',rfl⟩:=(show ∃t',v=ab7 j t' from U);exact PyProof.Rows.iadd_int ⟨.int (i+j),H,I.tok _,⟨_,rfl⟩,q⟩
theorem Ww:Sw X .Sub Yk:=by
 rintro pins s σ H x y u v Q I rx U ⟨i,j,rfl,rfl,q⟩;obtain⟨t,rfl⟩:=(show ∃t,u=ab7 i t from rx);obtain⟨t',rfl⟩:=(show ∃t',v=ab7 j t' from U);exact PyProof.Rows.isub_int ⟨.int (i-j),H,I.tok _,⟨_,rfl⟩,q⟩
inductive nu(K:PySem.W.Frag)(H:Hp):V->Value->Prop where
 |non:nu K H .non (.type "NoneType")
 |bl (x:Bool):nu K H (.bl x) (.type "bool")
 |int (i:Int):nu K H (.int i) (.type "int")
 |str (x:Str):nu K H (.str x) (.type "str")
 |flt (x:UInt64):nu K H (.flt x) (.type "float")
 |lst {a:Addr} {xs:List V} (e:H a=some (.lst xs)):nu K H (.ref a) (.type "list")
 |frz {a:Addr} {o:Obj} {xs:List V} (e:H a=some (.frz o (.lst xs))):nu K H (.ref a) (.type "list")
 |tup {a:Addr} {xs:List V} (e:H a=some (.tup xs)):nu K H (.ref a) (.type "tuple")
 |dK {a:Addr} {kvs:List (Key×V)} (e:H a=some (.dK kvs)):nu K H (.ref a) (.type "dict")
 |dT {a:Addr} {kvs:List (List Key×V)} (e:H a=some (.dT kvs)):nu K H (.ref a) (.type "dict")
 |ins {a C dx:Addr} {fs:List (Str×V)} (e:H a=some (.ins C dx fs)) (cl:Cls K C) (ha:aaK K (.ref C) "__class__"=some (some (.builtin "object.__class__")))
  (hn:PySem.W.specialIn K (.builtin "object.__class__") "__get__"=some (some (.builtin "getset_descriptor.__get__"))) (htk:PySem.W.takesIn K (.builtin "object.__class__")=some true)
  (hm:PySem.W.mroIn K C (.type "object")=some true):nu K H (.ref a) (.ref C)
variable{b:Bool}{s:Shared}{A:Around}{Q:Value->Shared->Prop}{c:Value}
theorem Il{x:V}{t:Value}(I:Inv X pins σ H s)(rx:RelV x u)(ty:nu X.K H x t)(e:adL X.K t c=some b)(h:∀tk,Q (.bool b) {s with toks:=tk}) :
  wpAny 1.12 A (call (.builtin "isinstance") [u,c]) Q E s:=by
 cases ty with
 |non=>cases (show u=aaF from rx);exact aa1 afU I.kIn aaJ e (λz=>nomatch z) h
 |bl y=>cases (show u=aea y from rx);exact aa1 afV I.kIn aaJ e (λz=>nomatch z) h
 |int i=>obtain⟨t,q⟩:=(show ∃t,u=ab7 i t from rx);cases q;exact aa1 af4 I.kIn aaJ e (λz=>nomatch z) h
 |str y=>obtain⟨t,q⟩:=(show ∃t,u=acG y t from rx);cases q;exact aa1 af5 I.kIn aaJ e (λz=>nomatch z) h
 |flt y=>obtain⟨t,q⟩:=(show ∃t,u=aeE y t from rx);cases q;exact aa1 afG I.kIn aaJ e (λz=>nomatch z) h
 |@lst a xs Z=>
  cases (show u=aac a from rx);obtain⟨_,_,n,_,h1⟩:=(show cM X.prog X.w H s.heap a (.lst xs)from I.hok a _ Z);exact aa1 adf I.kIn ⟨_,h1,rfl⟩ e (λz=>nomatch z) h
 |@frz a ob xs Z=>
  cases (show u=aac a from rx);obtain⟨_,_,_,n,_,h1⟩:=(show cM X.prog X.w H s.heap a (.frz ob (.lst xs))from I.hok a _ Z);exact aa1 adf I.kIn ⟨_,h1,rfl⟩ e (λz=>nomatch z) h
 |@tup a xs Z=>
  cases (show u=aac a from rx);obtain⟨_,_,_,p⟩:=(show cM X.prog X.w H s.heap a (.tup xs)from I.hok a _ Z);obtain⟨o,h1,h2,_⟩:=p;exact aa1 afH I.kIn ⟨o,h1,h2⟩ e (λz=>nomatch z) h
 |@dK a kvs Z=>
  cases (show u=aac a from rx);obtain⟨_,_,vs,_,p⟩:=(show cM X.prog X.w H s.heap a (.dK kvs)from I.hok a _ Z);obtain⟨o,es,ep,h1,h2,_⟩:=p;exact aa1 adg I.kIn ⟨o,h1,h2.1⟩ e (λz=>nomatch z) h
 |@dT a kvs Z=>
  cases (show u=aac a from rx);obtain⟨_,_,xs,_,o,es,ep,h1,h2,_⟩:=(show cM X.prog X.w H s.heap a (.dT kvs)from I.hok a _ Z);exact aa1 adg I.kIn ⟨o,h1,h2.1⟩ e (λz=>nomatch z) h
 |@ins a C dx fs Z cl Y hn B D=>
  cases (show u=aac a from rx);obtain⟨mA,O,_⟩:=rM I.hok Z;obtain⟨od,J,_⟩:=O.look;exact aa1 (af6 (cl.get _) cl.hd Y hn B D) I.kIn J e (λz=>nomatch z) h
structure gq(k:Nat)(A:Around):Prop where
 hd:A.handled=none
 dp:A.depth+3*k+5<recursionLimit
 un:A.units+16*k+200<cLine
 gd:A.guards=some []
variable{A:aaC}
theorem gq.mono(r:gq k A)(h:j<=k):gq j A:=⟨r.hd,by have:=r.dp;omega,by have:=r.un;omega,r.gd⟩
theorem gq.deeper(r:gq (k+1) A)(env:Env):gq k (A.deeper env):=
 ⟨r.hd,by have:=r.dp;show A.depth+1+3*k+5<_;omega,by have:=r.un;show A.units+3+16*k+200<_;omega,r.gd⟩
theorem DR{q:List (Str×Value)}:(A.under (.builtin "type.__call__" ⟨.ref C::us,q⟩)).depth=A.depth+1:=by
 first|rfl|simp[afI,Code.weight,Code.isCreation,Code.isGuard,Code.isCaller,Code.frames,afJ,guardIds]
theorem Em{q:List (Str×Value)}:(A.under (.builtin "type.__call__" ⟨.ref C::us,q⟩)).units=A.units+1:=by
 first|rfl|simp[afI,Code.cUnits,Code.frames,afJ]
theorem gq.make(r:gq (k+1) A)(C:Addr)(us:List Value)(q:List (Str×Value)):gq k (A.under (.builtin "type.__call__" ⟨.ref C::us,q⟩)):=
 ⟨r.hd,by have:=r.dp;rw[DR];omega,by have:=r.un;rw[Em];omega,(by first|exact r.gd|(show pushGuards _ A.guards=_;rw[r.gd];rfl))⟩
theorem gq.depth(r:gq k A):A.depth<recursionLimit:=by have:=r.dp;omega
theorem gq.units(r:gq k A):A.units+64<cLine:=by have:=r.un;omega
def Q8:TA:=λ_ H Q=>Q [] H
def Cw(ta:TE)(q:TA):TA:=λσ H Q=>ta σ H λx H1=>q σ H1 λxs H2=>Q (x::xs) H2
section
variable{X:Cx}{e:Expr}{es:List Expr}{te:TE}{t:TA}{pos:Pos}
theorem NP:PA X [] Q8:=λ_ _ _ _ H Q I h=>ad7 ⟨[],H,I,.nil,h⟩
theorem uL(Y:PE X e te)(O:PA X es t)(B:ZK (e::es) X.env=(false,eval e X.env)::ZK es X.env:=by rfl):PA X (e::es) (Cw te t):=by
 intro pos pins s σ H Q I h;rw[B];show wpAny _ _ (spliced ((false,eval e X.env)::aaH pos (ZK es X.env))) _ _ s;refine adS (thn (Y pins s σ H _ I h) λu F ⟨x,H1,z,Z,q1⟩=>?_);exact thn (O pos pins F σ H1 _ z q1) λus q ⟨xs,H2,D,J,q2⟩=>⟨x::xs,H2,D,.cons Z J,q2⟩
def Zv(t:TA):TE:=λσ H Q=>t σ H λxs H1=>xs.length<=ZM/\∀p,H1 p=none->Q (.ref p) (upd H1 p (.tup xs))
def Y_(t:TA):TE:=λσ H Q=>t σ H λxs H1=>xs.length<=ZM/\∀p,H1 p=none->Q (.ref p) (upd H1 p (.lst xs))
theorem Le{x1}(h:PA X es t):PE X (.Tuple es x1 pos) (Zv t):=by
 intro pins s σ H Q I Y;refine wpAny_Tuple_spliced (thn (h pos pins s σ H _ I Y) λus F ⟨xs,H1,B,r,z,q⟩=>⟨by rw[←r.length];exact z,?_⟩);have D:H1 F.heap.objs.size=none:=B.hok.fresh (ZQ _);refine⟨.ref F.heap.objs.size,upd H1 F.heap.objs.size (.tup xs),B.laid (t':=F.toks) (λb u e=>Zz _ e) (ZQ _) ?_,rfl,q _ D⟩;exact⟨z,us,r,⟨_,Z6 _ rfl,rfl,_,rfl,rfl⟩⟩
theorem Ka(h:PA X es t):PE X (.List es pos) (Y_ t):=by
 intro pins s σ H Q I Y;refine wpAny_List_spliced (thn (h pos pins s σ H _ I Y) λus F ⟨xs,H1,B,r,z,q⟩=>⟨by rw[←r.length];exact z,?_⟩);have D:H1 F.heap.objs.size=none:=B.hok.fresh (ZQ _);refine⟨.ref F.heap.objs.size,upd H1 F.heap.objs.size (.lst xs),B.laid (t':=F.toks) (λb u e=>Zz _ e) (ZQ _) ?_,rfl,q _ D⟩;exact⟨z,us,0,r,Z6 _ rfl⟩
end
abbrev Sp:=List V->Hp->VK->XK->Prop
abbrev CXT:=List Env->Hp->Pr->XK->Value->Pr->Prop
structure Ef(P:Program)(w:World)(K:PySem.W.Frag)(mg:Str->Option Value)(base:Heap)(A:Around)(outer:List Env)(s:Shared)(H:Hp):Prop where
 frames:A.frames=some outer
 mod:Mod K mg base
 bs:∀b o,base.get? b=some o->s.heap.get? b=some o/\H b=none
 bsz:base.objs.size<=s.heap.objs.size
 funs:s.heap.FunFrames base outer
 frf:∀b∈frs outer,H b=none
 hok:HOk P w H s.heap
 bare:adz s.gens
def CE(outer:List Env)(P:aae)(w:World)(H:Hp)(s:Pr)(Q:VK)(u:Value)(s':Pr):Prop:=
 ∃v H',s'.os=s.os/\adz s'.gens/\Un (frs outer) [] H H' s.heap s'.heap/\HOk P w H' s'.heap/\RelV v u/\Q v H'
def CR(CX:CXT)(outer:List Env)(P:aae)(w:World)(H:Hp)(s:Pr)(Q:VK)(E:XK)(r:aeR)(s':Pr):Prop:=
 match r with
 |.ok (.ret u)=>CE outer P w H s Q u s'
 |.ok _=>False
 |.error e=>CX outer H s E e s'
structure cR(P:Program)(w:World)(K:PySem.W.Frag)(mg:Str->Option Value)(base:Heap)(CX:CXT)(k:Nat)(f:Addr)(fd:FuncData)(ps:List Str)(sp:Sp):Prop where
 len:∀vs H Q E,sp vs H Q E->vs.length=ps.length
 run:∀(A:aaC)(outer:List Env)(s:Pr)(H:Hp)(args:Args)(us:List Value)(vs:List V)(Q:VK)(E:XK),gq k A->Ef P w K mg base A outer s H->aeS s fd args (ps.zip us)->Vals vs us->sp vs H Q E->
  abX (model P w) A (.call (.ref f) args) (CR CX outer P w H s Q E) s
variable{f:Addr}{CX:CXT}
theorem cR.imp{K:ZC}{sp z:Sp}(F:cR P w K mg base CX k f fd ps sp)
  (h:∀vs H Q E,z vs H Q E->sp vs H Q E):cR P w K mg base CX k f fd ps z:=
 ⟨λvs H Q E q=>F.len vs H Q E (h _ _ _ _ q),λA outer s H args us vs Q E O V U Z B=>F.run A outer s H args us vs Q E O V U Z (h _ _ _ _ B)⟩
theorem Ef.make{K:ZC}{s:Pr}(e:Ef P w K mg base A outer s H)(C:Addr)(us:List Value)(q:List (Str×Value)) :
 Ef P w K mg base (A.under (.builtin "type.__call__" ⟨.ref C::us,q⟩)) outer s H:=⟨by first|exact e.frames|(simpa[afI,Code.envs,afJ,pushEnvs]using e.frames),e.mod,e.bs,e.bsz,e.funs,e.frf,e.hok,e.bare⟩
theorem Inv.env0(I:Inv X pins σ H s):Ef X.prog X.w X.K X.mg X.base X.A X.stack s H:=
 ⟨I.ok.frames,I.ok.mod,I.bs,aa5 I.ok.bsz I.sz,I.stack,I.stkFree,I.hok,I.bare⟩
variable{s':Shared}
theorem Inv.after{Q:VK}(I:Inv X pins σ H s)(h:CE X.stack X.prog X.w H s Q u s'):EP X pins σ Q u s':=by
 obtain⟨v,H',os,bare,un,hok,r,q⟩:=h;obtain⟨D,g,d,t,B⟩:=s';obtain rfl:B=s.os:=os;exact⟨v,H',I.call (h':=D) (g':=g) (d':=d) (t':=t) (ch:=[]) un hok bare (λb z=>absurd z (by simp)),r,q⟩
def Uc(sp:Sp)(dvs:List V)(E:XK)(t:TA):TE:=λσ H Q=>t σ H λvs H1=>sp (vs++dvs) H1 Q E
def XJ(C:Addr)(sp:Sp)(dvs:List V)(E:XK)(t:TA):TE:=λσ H Q=>t σ H λvs H1=>∀x dx,H1 x=none->H1 dx=none->dx≠x->
 sp (.ref x::(vs++dvs)) (upd (upd H1 dx (.own x)) x (.ins C dx [])) (λv H2=>v= .non/\Q (.ref x) H2) E
def Binds(K:ZC)(fd:aai)(ps:List Str)(ds:List Value):Prop:=
 ∀(s:Pr)(us:List Value),K.In s.heap->(us++ds).length=ps.length->aeS s fd ⟨us,[]⟩ (ps.zip (us++ds))
theorem Binds.all{K:ZC}(h:∀us:List Value,us.length=ps.length->afa fd ⟨us,[]⟩=pure (ps.zip us)):Binds K fd ps []:=λs us _ O=>by
 rw[List.append_nil]at O⊢;exact .of_eq (h us O)
def wJ(CX:CXT)(X:Cx)(E:XK):Prop:=∀(pins:List (Addr×Obj))(σ:St)(H:Hp)(s:Pr)(e:Value)(s':Pr),Inv X pins σ H s->CX X.stack H s E e s'->X.xe e s'
section
variable{X:Cx}{CX:CXT}{k:Nat}{f C:Addr}{fd:FuncData}{ps:List Str}{sp:Sp}{dvs:List V}{ds:List Value}{E:XK}{x m:Str}{p pos apos:Pos}{e o:Expr}{es:List Expr}{ta:TE}{t:TA}
theorem EY{pins:List (Addr×Obj)}{σ:St}{H:Hp}{s:Pr}{Q:VK}{us:List Value}{vs:List V}(F:cR X.prog X.w X.K X.mg X.base CX k f fd ps sp)(O:gq k X.A)(U:Binds X.K fd ps ds)(hd:Vals dvs ds)(J:wJ CX X E)
  (I:Inv X pins σ H s) (r:Vals vs us) (h:sp (vs++dvs) H Q E):wpAny 1.12 X.A (call (.ref f) us) 1.63 X.xe s:=by
 have q:Vals (vs++dvs) (us++ds):=r.append hd;have z:(us++ds).length=ps.length:=by rw[←q.length];exact F.len _ _ _ _ h
 refine wpAny_call (acy (F.run X.A X.stack s H ⟨us,[]⟩ (us++ds) (vs++dvs) Q E O I.env0 (U s us I.kIn z) q h) λr s' Y=>?_);cases r with
 |error e=>exact J pins σ H s e s' I Y
 |ok fl=>
  cases fl with
  |ret u=>exact I.after Y
  |next=>exact abq Y
  |brk=>exact abq Y
  |cont=>exact abq Y
theorem QX(F:cR X.prog X.w X.K X.mg X.base CX k f fd ps sp)(O:gq k X.A)(hg:Gl X x)(hm:X.mg x=some (.ref f))(Z:acx X.K (.ref f)=true)(U:Binds X.K fd ps ds)(hd:Vals dvs ds)(J:wJ CX X E)
  (Y:PA X (e::es) t) (D:(x==("__debug__":Str))=false:=by decide) (V:ZK (e::es) X.env=(false,eval e X.env)::ZK es X.env:=by rfl) (B:(aaH pos (ZK es X.env)).any (·.1)=false:=by rfl) :
  PE X (.Call (.Name x p) (e::es) [] pos) (Uc sp dvs E t):=by
 intro pins s σ H Q I h;refine abu (Ag I hg hm ?_ D);refine adT (h₀:=X.base) I.ok.mod.kin Z (thn (Y pos pins s σ H _ I h) λus s1 ⟨vs,H1,z,r,q⟩=>⟨z.kIn,?_⟩) V B;exact EY F O U hd J z r q
structure Mk(K:PySem.W.Frag)(C f:Addr):Prop where
 makes:adG K C=true
 init:aaK K (.ref C) "__init__"=some (some (.ref f))
 fn:adF K (.ref f)=true
 kp:acx K (.ref C)=true
theorem Ow{pins:List (Addr×Obj)}{σ:St}{H:Hp}{s:Pr}{Q:VK}{us:List Value}{vs:List V}(M:Mk X.K C f)(F:cR X.prog X.w X.K X.mg X.base CX k f fd ps sp)(O:gq (k+1) X.A)(U:Binds X.K fd ps ds)(hd:Vals dvs ds)
  (J:wJ CX X E) (I:Inv X pins σ H s) (r:Vals vs us)
  (h:∀x dx,H x=none->H dx=none->dx≠x->sp (.ref x::(vs++dvs)) (upd (upd H dx (.own x)) x (.ins C dx [])) (λv H2=>v= .non/\Q (.ref x) H2) E) :
  wpAny 1.12 X.A (call (.ref C) us) 1.63 X.xe s:=by
 have Y:=h (s.heap.objs.size+1) s.heap.objs.size (I.hok.fresh (adP _)) (I.hok.fresh (ZQ _)) (Z5 (abr _));have D:=Inv.made (C:=C) I;have z:Vals (V.ref (s.heap.objs.size+1)::(vs++dvs)) (aac (s.heap.objs.size+1)::(us++ds)):=.cons rfl (r.append hd);have hl:(aac (s.heap.objs.size+1)::us++ds).length=ps.length:=by
  have e:=z.length;rw[F.len _ _ _ _ Y]at e;exact e.symm
 refine wpAny_call (Ld (f:=f) I.kIn M.makes M.init (beq_iff_eq.mp M.fn) (acy (F.run _ X.stack _ _ ⟨aac (s.heap.objs.size+1)::us,[]⟩ (aac (s.heap.objs.size+1)::(us++ds)) _ _ E (O.make C us [])
  (D.env0.make C us []) (U _ (aac (s.heap.objs.size+1)::us) D.kIn hl) z Y) λr s' q=>?_))
 cases r with
 |error e=>exact J pins σ _ _ e s' D q
 |ok fl=>
  cases fl with
  |ret u=>
   obtain⟨v,H',Z,B,ev,q3⟩:=D.after q;subst ev;exact⟨B,⟨V.ref (s.heap.objs.size+1),H',Z,rfl,q3⟩⟩
  |next=>exact abq q
  |brk=>exact abq q
  |cont=>exact abq q
theorem Sh(M:Mk X.K C f)(F:cR X.prog X.w X.K X.mg X.base CX k f fd ps sp)(O:gq (k+1) X.A)(hg:Gl X x)(Z:X.mg x=some (.ref C))(U:Binds X.K fd ps ds)(hd:Vals dvs ds)(J:wJ CX X E)
  (Y:PA X (e::es) t) (D:(x==("__debug__":Str))=false:=by decide) (V:ZK (e::es) X.env=(false,eval e X.env)::ZK es X.env:=by rfl) (B:(aaH pos (ZK es X.env)).any (·.1)=false:=by rfl) :
  PE X (.Call (.Name x p) (e::es) [] pos) (XJ C sp dvs E t):=by
 intro pins s σ H Q I h;refine abu (Ag I hg Z ?_ D);refine adT (h₀:=X.base) I.ok.mod.kin M.kp (thn (Y pos pins s σ H _ I h) λus s1 ⟨vs,H1,z,r,q⟩=>⟨z.kIn,?_⟩) V B;exact Ow M F O U hd J z r q
end
structure bx(N P:List Str)(sc:Scope):Prop where
 kind:sc.kind= .function
 co:sc.isCoroutine=false
 gen:sc.isGenerator=false
 nd:N.Nodup
 pre:N.take P.length=P
 par:∀x∈P,sc.names.lookup x=some .local∨sc.names.lookup x=some .cell
 nofree:∀y∈sc.names,y.2≠.free
theorem yl:∀{binds:List (Str×Value)}{m:Str->Option Value},(∀v,(x,v)∉binds)->bindL q binds m x=m x
 |[],_,_=>rfl
 |(n,v)::r,m,h=>by
  unfold bindL;rw[yl λw B=>h w (aaf _ B)];split
  .have:x≠n:=by rintro rfl;exact h v aav
   simp[this]
  .rfl
theorem yg:∀{binds:List (Str×Value)}{m:Str->Option Value},(∀v,(x,v)∉binds)->bindC q binds m x=m x
 |[],_,_=>rfl
 |(n,v)::r,m,h=>by
  unfold bindC;rw[yg λw B=>h w (aaf _ B)];split
  .rfl
  .have:x≠n:=by rintro rfl;exact h v aav
   simp[this]
variable{v:Value}
theorem ye{q:Str->Option adw}{x:Str}{v:Value}:∀{P:List Str}{vs:List Value}{i:Nat}{m:Str->Option Value},P.Nodup->P[i]? =some x->vs[i]? =some v->q x=some .local->
  bindL q (P.zip vs) m x=some v
 |[],_,_,_,_,h,_,_=>by simp at h
 |_::_,[],_,_,_,_,h,_=>by simp at h
 |p::P,w::vs,0,m,nd,h1,h2,hk=>by
  simp at h1 h2;subst h1;subst h2;show bindL q ((p,w)::P.zip vs) m p=_;unfold bindL;rw[yl λv Z=>(Z8.mp nd).1 (ack Z).1,ZV hk];simp
 |p::P,w::vs,i+1,m,nd,h1,h2,hk=>by
  show bindL q ((p,w)::P.zip vs) m x=_;unfold bindL;exact ye (i:=i) (Z8.mp nd).2 (by simpa using h1) (by simpa using h2) hk
theorem xT{q:Str->Option adw}{x:Str}{v:Value}:∀{P:List Str}{vs:List Value}{i:Nat}{m:Str->Option Value},P.Nodup->P[i]? =some x->vs[i]? =some v->q x≠some .local->
  bindC q (P.zip vs) m x=some v
 |[],_,_,_,_,h,_,_=>by simp at h
 |_::_,[],_,_,_,_,h,_=>by simp at h
 |p::P,w::vs,0,m,nd,h1,h2,hk=>by
  simp at h1 h2;subst h1;subst h2;show bindC q ((p,w)::P.zip vs) m p=_;unfold bindC;rw[yg λv Z=>(Z8.mp nd).1 (ack Z).1,Z1 hk];simp
 |p::P,w::vs,i+1,m,nd,h1,h2,hk=>by
  show bindC q ((p,w)::P.zip vs) m x=_;unfold bindC;exact xT (i:=i) (Z8.mp nd).2 (by simpa using h1) (by simpa using h2) hk
def start(N:List Str)(vs:List V):St:=vs.map some++aax (N.length-vs.length) none
noncomputable def xJ(CX:CXT)(P:aae)(w:World)(K:ZC)(mg:Str->Option Value)(base:Heap)(N:List Str)(qual:Str)(scope:Scope)(f:Addr)(D:Value)(A:aaC)(outer:List Env)(s:Pr)(H:Hp)(E:XK):Cx where
 prog:=P
 w:=w
 K:=K
 mg:=mg
 base:=base
 A:=A.deeper (acN qual scope s.heap.objs.size f D)
 N:=N
 s₀:=s
 H₀:=H
 env:=acN qual scope s.heap.objs.size f D
 outer:=outer
 stack:=acN qual scope s.heap.objs.size f D::outer
 ex:=[]
 calm:=true
 fn:=λ_=>true
 pn:=[]
 xe:=λe s'=>wpAny (model P w) (A.deeper (acN qual scope s.heap.objs.size f D)) (leaving (acN qual scope s.heap.objs.size f D) e) (λ_ q=>CX outer H s E e q) (λY q=>CX outer H s E Y q) s'
theorem Ci{z:Scope}(h:z.names.lookup x=some .cell):∃c,(cellsFrom n z.names []).lookup x=some c:=by
 have q:=aeF z.names n [] (.inl h);exact ac0.mp q
theorem Ij{K:ZC}{D:Value}{s F:Pr}{E:XK}{vs:List V}
  (S:bx N ps scope) (hd:A.handled=none) (e0:Ef P w K mg base A outer s H) (O:vs.length=ps.length) (r:Vals vs us)
  (x:InCallC s s.heap.objs.size (bindL (acN qual scope s.heap.objs.size f D).kindOf (ps.zip us) λ_=>none) (cellsFrom (s.heap.objs.size+1) scope.names []) (bindC (acN qual scope s.heap.objs.size f D).kindOf (ps.zip us) λ_=>none) F) :
  Inv (xJ CX P w K mg base N qual scope f D A outer s H E) [] (start N vs) H F:=by
 have B:ps.length<=N.length:=by have:=congrArg abP S.pre;rw[abe]at this;omega
 obtain⟨h1,tk,rfl,I⟩:=x.done;have U:∀b:Addr,b∉(xJ CX P w K mg base N qual scope f D A outer s H E).ex:=λb z=>absurd (show b∈([]:List Addr)from z) (by simp);refine⟨⟨e0.mod,S.kind,rfl,rfl,ZQ _,λy z c h1 h2=>?_,λy hy=>?_,λy c _ h=>?_,λ_=>hd,Around.frames_deeper e0.frames,.inr ⟨rfl,rfl⟩,λb z=>absurd z (U b),e0.bs,e0.bsz,λb _ _=>U b,λb z=>absurd z (U b),e0.funs,e0.frf⟩,
  rfl,e0.bare,Un.kept I,⟨_,x.toInCall.ns,λi y v h1 h2 Z=>?_⟩,λy c h=>⟨_,x.cell y c h⟩,e0.hok.fresh (ZQ _),λy c h=>?_,λp hp=>absurd (show p∈([]:List (Addr×Obj))from hp) (by simp),e0.hok.kept I,?_⟩
 .exact name_of_addr x.apart (abI h1) (abI h2)
 .have hy:scope.names.lookup y=some .cell∨scope.names.lookup y=some .free:=hy
  rcases hy with hy|hy
  .exact Ci hy
  .exact absurd rfl (S.nofree _ (abI hy))
 .exact ab8 (x.above y c (abI h))
 .have hi:i<vs.length:=by
   unfold start at h2;by_cases hi:i<vs.length
   .exact hi
   .rw[aaB (by simpa using hi)]at h2
    rw[aet]at h2;split at h2<;>cases h2
  have Y:vs[i]? =some v:=by
   unfold start at h2;rw[aad (by simpa using hi),List.getElem?_map]at h2;cases e:vs[i]? with
   |none=>rw[e]at h2;cases h2
   |some a=>rw[e]at h2;cases h2;rfl
  obtain⟨u,J,rv⟩:=r.get Y;have hp:ps[i]? =some y:=by
   rw[←S.pre,List.getElem?_take_of_lt 1.11];exact h1
  have a0:ps.Nodup:=by rw[←S.pre];exact S.nd.sublist (afW _ _)
  refine⟨u,rv,?_⟩;rcases S.par y (Z2 hp)with k|k
  .exact .inl ⟨k,ye a0 hp J k⟩
  .obtain⟨c,e⟩:=Ci (n:=s.heap.objs.size+1) k
   refine .inr ⟨.inl k,c,e,?_⟩;have q:=x.cell y c e;rw[xT a0 hp J (by show scope.names.lookup y≠_;rw[k];decide)]at q;exact q
 .exact e0.hok.fresh (ab8 (x.above y c (abI h)))
 .unfold start
  show _=N.length;rw[aaP,ZL,List.length_replicate];omega
theorem XH{K:ZC}{a0:Arguments}{dV kV doc pm cdv ct:Value}{an od:Option Addr}
    {sp:Sp} (lk:K.lookup f=some ⟨oc,od,.func (ac1 name qual a0 body scope dV kV doc pm an cdv ct),osl⟩) (z:aeT K cdv qual=true) (S:bx N ps scope)
  (len:∀vs H Q E,sp vs H Q E->vs.length=ps.length)
  (a2:∀(A:aaC)(outer:List Env)(s:Pr)(H:Hp)(vs:List V)(Q:VK)(E:XK),gq k (A.deeper (acN qual scope s.heap.objs.size f cdv))->sp vs H Q E->
   ∃t,PSs (xJ CX P w K mg base N qual scope f cdv A outer s H E) body t/\t {nx:=λ_ H'=>Q .non H',rt:=Q} (start N vs) H) :
  cR P w K mg base CX (k+1) f (ac1 name qual a0 body scope dV kV doc pm an cdv ct) ps sp:=by
 refine⟨len,λA outer s H args us vs Q E O Z U r a3=>?_⟩;have hl:=len _ _ _ _ a3;have KX:K.In s.heap:=Z.mod.kin.keeps λb o e=>(Z.bs b o e).1;have a4:s.heap.NoLimit:=Z.mod.nolimit.keeps λb o e=>(Z.bs b o e).1;have a1:∀y∈ps.zip us,scope.names.lookup y.1=some .local∨(scope.names.lookup y.1=some .cell/\((cellsFrom (s.heap.objs.size+1) scope.names []).lookup y.1).isSome=true):=λ⟨n,v⟩ hy=>by
  rcases S.par n (ack hy).1 with q|q
  .exact .inl q
  .exact .inr ⟨q,aeF _ _ _ (.inl q)⟩
 refine codeAny_call_function O.depth (KX _ _ lk) rfl S.co S.gen rfl (PySem.W.codeRec_of KX z) (U _ _ _ _ ?_);refine wpAny_newFunctionEnv_cells S.kind a1 λenv he F x=>?_;subst he;refine⟨a4.keeps x.toInCall.keep,codeAny_func ?_⟩;obtain⟨t,ht,hq⟩:=a2 A outer s H vs Q E (O.deeper _) a3;have I:Inv (xJ CX P w K mg base N qual scope f cdv A outer s H E) [] (start N vs) H F:=Ij S O.hd Z hl r x;refine aaY (ht [] F (start N vs) H _ I hq) (λfl s' B=>?_) λe s' B=>B;have D:∀{Y:St}{H':Hp}{v:V}{u:Value},Inv (xJ CX P w K mg base N qual scope f cdv A outer s H E) [] Y H' s'->RelV v u->Q v H'->CE outer P w H s Q u s':=
  λ{Y H' v u} J rv q=>⟨v,H',J.os,J.bare,J.base,J.hok,rv,q⟩
 cases fl with
 |ret u=>
  obtain⟨v,Y,H',J,rv,q⟩:=B;exact D J rv q
 |next=>
  obtain⟨Y,H',J,q⟩:=B;exact D (v:=V.non) (u:=aaF) J rfl q
 |brk=>
  obtain⟨_,_,_,q⟩:=B;exact abq q
 |cont=>
  obtain⟨_,_,_,q⟩:=B;exact abq q
section
variable{X:Cx}{x:Str}{p pos:Pos}{e:Expr}{es:List Expr}{t:TA}{id T:String}{r:List V->Hp->VK->Prop}
def tCB(r:List V->Hp->VK->Prop)(t:TA):TE:=λσ H Q=>t σ H λvs H1=>r vs H1 Q
theorem CP(Z:fZ X (.builtin id) r)(q:Gl X x)(J:X.mg x=none)(O:abm x=some (.builtin id))(Y:PA X (e::es) t)(hn:x≠"__name__":=by decide)(D:(x==("__debug__":Str))=false:=by decide)
  (V:ZK (e::es) X.env=(false,eval e X.env)::ZK es X.env:=by rfl) (B:(aaH pos (ZK es X.env)).any (·.1)=false:=by rfl):PE X (.Call (.Name x p) (e::es) [] pos) (tCB r t):=by
 intro pins s σ H Q I h;refine abu (mG I q J O ?_ hn D);exact PyProof.Rows.callWith_builtin1 (thn (Y pos pins s σ H _ I h) λus F ⟨vs,H1,z,U,q1⟩=>Z pins F σ H1 vs us Q z U q1) V B
theorem yr(Z:fZ X (.type T) r)(q:Gl X x)(J:X.mg x=none)(O:abm x=some (.type T))(Y:PA X (e::es) t)(hn:x≠"__name__":=by decide)(D:(x==("__debug__":Str))=false:=by decide)
  (V:ZK (e::es) X.env=(false,eval e X.env)::ZK es X.env:=by rfl) (B:(aaH pos (ZK es X.env)).any (·.1)=false:=by rfl):PE X (.Call (.Name x p) (e::es) [] pos) (tCB r t):=by
 intro pins s σ H Q I h;refine abu (mG I q J O ?_ hn D);exact aa2 (thn (Y pos pins s σ H _ I h) λus F ⟨vs,H1,z,U,q1⟩=>Z pins F σ H1 vs us Q z U q1) V B
end
end L2
namespace HT
open PySem PyProof.Rows
theorem cat_tup{t b:Addr}{vs J:List Value}(Y:IsTup s.heap t vs.toArray)(U:IsTup s.heap b J.toArray)(hv:vs≠[])
  (h1:J=[]->Q (.ref t) s) (h2:J≠[]->Q (.ref s.heap.objs.size) {s with heap:=s.heap.push {cls:=.type "tuple",data:=.seq (vs++J).toArray}})
  (hsz:vs.length+J.length<=ZM):wpAny 1.13 A (aa3 .Add (.ref t) (.ref b)) Q E s:=by
 obtain⟨⟨cls,D,data,sl⟩,B,Z,n,hd⟩:=id Y;obtain⟨⟨a2,q,a1,I⟩,z,O,V,a0⟩:=id U;simp only at Z hd O a0;subst Z hd O a0;have e:vs.toArray++J.toArray=(vs++J).toArray:=by simp
 by_cases hw:J=[]
 .exact afK ⟨_,B,rfl⟩ ⟨_,z,rfl⟩ aeh afo adm ada (ac2 _ _)
   (tuple_addW1 t b vs.toArray J.toArray n V D q sl I (by simpa using hv) (by simp[hw])) ⟨B,z,h1 hw⟩
 .refine afK ⟨_,B,rfl⟩ ⟨_,z,rfl⟩ aeh afo adm ada (ac2 _ _)
   (tuple_addW2 t b vs.toArray J.toArray n V D q sl I (by simpa using hv) (by simpa using hw) (by rw[List.size_toArray,List.size_toArray];exact hsz)) ⟨B,z,?_⟩
  rw[e];exact h2 hw
def sIx(n d:Nat):Option Int->Nat
 |none=>d
 |some v=>if v<0 then(v+(n:Int)).toNat else min v.toNat n
theorem sIx_none(n d:Nat):sIx n d none=d:=rfl
theorem sIx_nat(n d k:Nat):sIx n d (some (k:Int))=min k n:=by
 show(if(k:Int)<0 then((k:Int)+(n:Int)).toNat else min (k:Int).toNat n)=min k n;rw[Z1 1.11,adh]
theorem WK(n d:Nat)(hd:d<=n)(o:Option Int):sIx n d o<=n:=by
 cases o with
 |none=>exact hd
 |some v=>
  show(if v<0 then(v+(n:Int)).toNat else min v.toNat n)<=n;by_cases Z:v<0
  .rw[ZV Z];omega
  .rw[Z1 Z];exact Nat.min_le_right _ _
theorem Hw(v:Int)(n d:Nat):(if v<0 then max (v+(n:Int)) 0 else min v (n:Int))=((sIx n d (some v):Nat):Int):=by
 show(if v<0 then max (v+(n:Int)) 0 else min v (n:Int))=(((if v<0 then(v+(n:Int)).toNat else min v.toNat n):Nat):Int);by_cases Z:v<0
 .simp![ZV Z];omega
 .simp![Z1 Z];omega
theorem adjust_gen(lo hi:Option Int)(n:Nat):aaM lo hi 1 (n:Int)=(((sIx n 0 lo:Nat):Int),((sIx n n hi:Nat):Int)):=by
 have h1:¬((1:Int)<0):=by omega
 unfold aaM;simp![h1,aaN];refine Prod.ext ?_ ?_
 .cases lo with
  |none=>rfl
  |some v=>exact Hw v n 0
 .cases hi with
  |none=>rfl
  |some v=>exact Hw v n n
theorem places_gen(i j:Nat):aaO (i:Int) (j:Int) 1=j-i:=by
 unfold aaO;have h1:(1:Int)>0:=by omega
 simp![h1,aab,Int.ediv_one];split<;>omega
theorem slicePart_{o:Option Int}{Q:Option Int->Pr->Prop}(p:acz v o)(h:Q o s):wpAny 1.13 A (Builtin.Slice.slicePartIndex v) Q E s:=by
 cases p with
 |none=>exact slicePart_none h
 |int i t=>exact slicePart_int h
theorem sZ{vl U:Value}{lo hi:Option Int}{Q:Int×Int×Nat->Pr->Prop}(B:s.heap.IsSliceOf sl vl U .none)(pl:acz vl lo)(V:acz U hi)
  (h:Q (((sIx n 0 lo:Nat):Int),1,sIx n n hi-sIx n 0 lo) s):wpAny 1.13 A (ab1 (.ref sl) (pure (n:Int))) Q E s:=by
 obtain⟨os,D,J,O⟩:=id B;unfold ab1 Builtin.Slice.sliceFields;refine gD (gD (adn D O (x:=vl) rfl (gD (adn D O (x:=U) rfl (gD (adn D O (x:=.none) rfl (ZD ?_)))))));refine gD (slicePart_none ?_);show wpAny _ _ (if((1:Int)==0)=true then _ else _) _ _ s;rw[Z1 (by decide)];refine gD (slicePart_ pl (gD (slicePart_ V (gD (ZD ?_)))));show wpAny _ _ (match aaM lo hi 1 (n:Int)with|(lo,hi)=>pure (lo,(1:Int),aaO lo hi 1)) _ _ s;rw[adjust_gen lo hi n];show wpAny _ _ (pure (((sIx n 0 lo:Nat):Int),(1:Int),aaO ((sIx n 0 lo:Nat):Int) ((sIx n n hi:Nat):Int) 1)) _ _ s;rw[places_gen];exact ZD h
theorem Ks(xs:Array Value)(i k:Nat):((aaz k).filterMap λ(m:Nat)=>xs[((i:Int)+(m:Int)*1).toNat]?).toArray=((xs.toList.drop i).take k).toArray:=by
 have e:(λ(m:Nat)=>xs[((i:Int)+(m:Int)*1).toNat]?)=λm=>xs[i+m]?:=by
  funext m;have:((i:Int)+(m:Int)*1).toNat=i+m:=by omega
  rw[this]
 rw[e];have:=pick_run xs i k;rw[List.filterMap_map]at this;have e2:((λx=>xs[x]?)∘λx=>i+x)=λm=>xs[i+m]?:=rfl;rw[e2]at this;rw[this]
theorem getItem_tuple_cut{t:Addr}{vl U:Value}{lo hi:Option Int}(Y:IsTup s.heap t items)(B:s.heap.IsSliceOf sl vl U .none)(pl:acz vl lo)(V:acz U hi)
  (hw:¬(sIx items.size 0 lo=0/\sIx items.size items.size hi=items.size))
  (h:Q (.ref s.heap.objs.size) {s with heap:=s.heap.push {cls:=.type "tuple",data:=.seq ((items.toList.drop (sIx items.size 0 lo)).take (sIx items.size items.size hi-sIx items.size 0 lo)).toArray}})
  (hsz:items.size<=ZM):wpAny 1.13 A (adM (.ref t) (.ref sl)) Q E s:=by
 have z:sizeOk (.seq ((items.toList.drop (sIx items.size 0 lo)).take (sIx items.size items.size hi-sIx items.size 0 lo)).toArray):=by
  show((items.toList.drop (sIx items.size 0 lo)).take (sIx items.size items.size hi-sIx items.size 0 lo)).toArray.size<=ZM;rw[List.size_toArray,abe,acK,abb];omega
 have F:sIx items.size items.size hi<=items.size:=WK _ _ (ZQ _) hi;obtain⟨os,D,J,O⟩:=id B;have Z:s.TypeIs (.ref sl) "slice":=⟨os,D,J⟩;unfold adM
 try with_reducible refine aaW ?_
 first|refine gD (ZD ?_)|skip
 refine gD (wpAny_sequenceKey Y.typeIs (by decide) ?_);refine gD (ach (name:=Str.ofString "__getitem__") Y.typeIs aaU
  (aei aaU Y.typeIs aft ?_ (args_tuple_getitem _ _)))
 show wpAny _ _ (ad0 (.ref t) >>=_) _ _ s;refine gD (tupleItemsOf_ Y ?_);refine gD (ac3 Z ?_);rw[ZV (by decide)];refine gD (sZ B pl V ?_);have I:¬((((sIx items.size 0 lo:Nat):Int)==0&&(1:Int)==1&&(sIx items.size items.size hi-sIx items.size 0 lo)==items.size)=true):=by
  intro q;rw[aal,aal]at q;have q1:((sIx items.size 0 lo:Nat):Int)=0:=eq_of_beq q.1.1;have q2:sIx items.size items.size hi-sIx items.size 0 lo=items.size:=eq_of_beq q.2;exact hw ⟨by omega,by omega⟩
 show wpAny _ _ (if(((sIx items.size 0 lo:Nat):Int)==0&&(1:Int)==1&&(sIx items.size items.size hi-sIx items.size 0 lo)==items.size)=true then _ else _) _ _ s;rw[Z1 I,Ks]
 first
  |exact gD (m:=abD _) (aaL (ZD ⟨_,rfl,ZD h⟩) z)
  |exact gD (m:=abD _) (aaL (gD (ZD (ZD ⟨_,rfl,ZD h⟩))) z)
  |exact gD (gD (m:=abD _) (aaL (ZD (ZD ⟨_,rfl,ZD h⟩)) z))
  |exact gD (gD (m:=abD _) (aaL (ZD ⟨_,rfl,ZD h⟩) z))
end HT
namespace L2
open PySem PySem.Spec PyProof.Rows
abbrev TO:=St->Hp->(Option Int->Hp->Prop)->Prop
def PO(X:Cx)(e:Option Expr)(t:TO):Prop:=
 ∀(pins:List (Addr×Obj))(s:Pr)(σ:St)(H:Hp)(Q:Option Int->Hp->Prop),Inv X pins σ H s->t σ H Q->
  wpAny 1.12 X.A (evalPart e X.env) (λu s'=>∃o H',Inv X pins σ H' s'/\acz u o/\Q o H') X.xe s
def RK:TO:=λ_ H Q=>Q none H
def Yw(t:TE):TO:=λσ H Q=>t σ H λx H1=>∃i,x= .int i/\Q (some i) H1
section
variable{X:Cx}{e:Expr}{te:TE}{lo hi:Option Expr}{tl th:TO}{pos p2:Pos}
theorem Rr:PO X none RK:=by
 intro pins s σ H Q I h;rw[evalPart_none];exact ZD ⟨none,H,I,.none,h⟩
theorem R_(h:PE X e te):PO X (some e) (Yw te):=by
 intro pins s σ H Q I B;rw[evalPart_some];refine thn (h pins s σ H _ I B) λu F ⟨x,H1,z,Z,q1⟩=>?_;obtain⟨i,rfl,q⟩:=q1;obtain⟨t,rfl⟩:=Z;exact⟨some i,H1,z,.int i t,q⟩
def SlR(X:Cx)(r:V->Option Int->Option Int->Hp->VK->Prop):Prop:=
 ∀(pins:List (Addr×Obj))(s:Pr)(σ:St)(H:Hp)(x:V)(v vl U:Value)(lo hi:Option Int)(sl:Addr)(Q:VK),Inv X pins σ H s->RelV x v->s.heap.IsSliceOf sl vl U .none->acz vl lo->acz U hi->r x lo hi H Q->
  ∃T id,typeLookup (.type T) "__getitem__"=pure (some (.builtin id))/\s.TypeIs v T/\wpAny 1.12 X.A (adM v (.ref sl)) 1.63 X.xe s
theorem SlR.or{r F:V->Option Int->Option Int->Hp->VK->Prop}(h:SlR X r)(h':SlR X F):SlR X (λx lo hi H Q=>r x lo hi H Q∨F x lo hi H Q):=by
 intro pins s σ H x v vl U lo hi sl Q I rx B pl z q;rcases q with q|q
 .exact h pins s σ H x v vl U lo hi sl Q I rx B pl z q
 .exact h' pins s σ H x v vl U lo hi sl Q I rx B pl z q
def tSl(r:V->Option Int->Option Int->Hp->VK->Prop)(te:TE)(tl th:TO):TE:=λσ H Q=>te σ H λx H1=>tl σ H1 λl H2=>th σ H2 λu B=>r x l u B Q
theorem Lg{r:V->Option Int->Option Int->Hp->VK->Prop}(O:SlR X r)(he:PE X e te)(hl:PO X lo tl)(J:PO X hi th):PE X (.Subscript e (.Slice lo hi none p2) pos) (tSl r te tl th):=by
 intro pins s σ H Q I h;refine Subscript_ (thn (he pins s σ H _ I h) λv F ⟨x,H1,z,Z,q1⟩=>?_);refine wpAny_Slice (thn (hl pins F σ H1 _ z q1) λvl s2 ⟨l,H2,D,pl,q2⟩=>thn (J pins s2 σ H2 _ D q2) λU s3 ⟨u,B,I3,pu,q3⟩=>?_);rw[evalPart_none];refine ZD ?_;have I4:Inv X pins σ B {s3 with heap:=s3.heap.push {cls:=.type "slice",data:=.fields #[vl,U,.none]}}:=I3.kept (t':=s3.toks) λb ob q=>Zz _ q;obtain⟨T,id,hT,Y,hg⟩:=O pins {s3 with heap:=s3.heap.push {cls:=.type "slice",data:=.fields #[vl,U,.none]}} σ B x v vl U l u s3.heap.objs.size Q I4 Z (Heap.IsSliceOf.new ..) pl pu q3;show wpAny 1.12 X.A (subscriptTail e (.Slice lo hi none p2) v (.ref s3.heap.objs.size)) 1.63 X.xe {s3 with heap:=s3.heap.push {cls:=.type "slice",data:=.fields #[vl,U,.none]}};exact tail_any (ops:=[.ref s3.heap.objs.size,v]) Y hT hg (by with_unfolding_all rfl)
def vA(xs:List V)(lo hi:Option Int):List V:=(xs.drop (HT.sIx xs.length 0 lo)).take (HT.sIx xs.length xs.length hi-HT.sIx xs.length 0 lo)
theorem tU(xs:List V)(lo hi:Option Int):(vA xs lo hi).length<=xs.length:=by
 unfold vA;rw[abe,acK];omega
def Y8(K:ZC):V->Option Int->Option Int->Hp->VK->Prop:=λx lo hi H Q=>∃a xs,x= .ref a/\SqT K H a xs/\
 ¬(HT.sIx xs.length 0 lo=0/\HT.sIx xs.length xs.length hi=xs.length)/\∀p,H p=none->Q (.ref p) (upd H p (.tup (vA xs lo hi)))
theorem Vj:SlR X (Y8 X.K):=by
 intro pins s σ H x v vl U lo hi sl Q I rx B pl V h;obtain⟨a,xs,rfl,J,D,q⟩:=h;cases rx;obtain⟨its,r,Y,hz⟩:=I.tuple J;have z:its.toArray.size=xs.length:=by rw[List.size_toArray];exact r.length.symm
 refine⟨"tuple",_,aaU.lookup,Y.typeIs,?_⟩;refine HT.getItem_tuple_cut Y B pl V (by rw[z];exact D) ?_ (by rw[z];exact hz);rw[z];refine⟨.ref s.heap.objs.size,_,I.laid (t':=s.toks) (o:=.tup (vA xs lo hi)) (λb ob q=>Zz _ q) (ZQ _) ?_,rfl,q _ (I.hok.fresh (ZQ _))⟩;exact⟨aa5 (tU xs lo hi) hz,_,(r.drop (HT.sIx xs.length 0 lo)).take (HT.sIx xs.length xs.length hi-HT.sIx xs.length 0 lo),oh.new _ _⟩
def WQ(K:ZC):R2:=λx y H Q=>∃a b xs ys,x= .ref a/\y= .ref b/\SqT K H a xs/\SqT K H b ys/\xs≠[]/\xs.length+ys.length<=ZM/\
 (ys=[]->Q (.ref a) H)/\(ys≠[]->∀p,H p=none->Q (.ref p) (upd H p (.tup (xs++ys))))
theorem Vals.nil_iff{xs:List V}{us:List Value}(r:Vals xs us):us=[]↔xs=[]:=by
 cases r with
 |nil=>simp
 |cons _ _=>simp
theorem PJ:OpR X (aa3 .Add) (WQ X.K):=by
 intro pins s σ H x y v u Q I rx F h;obtain⟨a,b,xs,ys,rfl,rfl,Y,U,J,hz,q1,q2⟩:=h;cases rx;cases F;obtain⟨its,Z,p1,_⟩:=I.tuple Y;obtain⟨D,B,p2,_⟩:=I.tuple U;refine HT.cat_tup p1 p2 (λz=>J (Z.nil_iff.mp z)) (λz=>⟨.ref a,H,I,rfl,q1 (B.nil_iff.mp z)⟩) (λz=>?_) (by rw[←Z.length,←B.length];exact hz);refine⟨.ref s.heap.objs.size,_,I.laid (t':=s.toks) (o:=.tup (xs++ys)) (λb ob q=>Zz _ q) (ZQ _) ?_,rfl,q2 (λw=>z (B.nil_iff.mpr w)) _ (I.hok.fresh (ZQ _))⟩;exact⟨by rw[aaP];exact hz,_,Z.append B,oh.new _ _⟩
end
def ixN(n:Nat)(i:Int):Option Nat:=if 0<=i then(if i<n then some i.toNat else none)else if -(n:Int)<=i then some (i+n).toNat else none
def atI(xs:List α)(i:Int):Option α:=(ixN xs.length i).bind λj=>xs[j]?
variable{i:Int}
theorem zG(h:ixN n i=some j):seqIndex? i n=some j/\j<n/\-(n:Int)<=i/\i<n:=by
 unfold ixN at h;by_cases Y:0<=i
 .rw[ZV Y]at h
  by_cases h1:i<n
  .rw[ZV h1]at h
   have e:i.toNat=j:=aaD h;exact⟨by rw[af1 Y h1,e],by omega,by omega,h1⟩
  .rw[Z1 h1]at h;cases h
 .rw[Z1 Y]at h
  by_cases h1: -(n:Int)<=i
  .rw[ZV h1]at h
   have e:(i+n).toNat=j:=aaD h;exact⟨by rw[afL 1.11 h1,e],by omega,h1,by omega⟩
  .rw[Z1 h1]at h;cases h
theorem Ai{xs:List α}{v:α}(h:atI xs i=some v):∃j,seqIndex? i xs.length=some j/\xs[j]? =some v/\j<xs.length/\-(xs.length:Int)<=i/\i<xs.length:=by
 unfold atI at h;cases e:ixN xs.length i with
 |none=>rw[e]at h;cases h
 |some j=>
  rw[e]at h;obtain⟨h1,h2,Z,V⟩:=zG e;exact⟨j,h1,h,h2,Z,V⟩
def uI(b:Expr):Prop:=∀o i,subscripted b false o i=operate [o,i] (adM o i)
def IxR(X:Cx)(r:R2):Prop:=
 ∀(value D:Expr)(pins:List (Addr×Obj))(s:Pr)(σ:St)(H:Hp)(x y:V)(v u:Value)(Q:VK),Inv X pins σ H s->RelV x v->RelV y u->r x y H Q->
  subscripted D false v u=operate [v,u] (adM v u)->wpAny 1.12 X.A (subscriptTail value D v u) 1.63 X.xe s
def MtR(X:Cx)(id:String)(r:V->List V->Hp->VK->Prop):Prop:=
 ∀(pins:List (Addr×Obj))(s:Pr)(σ:St)(H:Hp)(x:V)(xs:List V)(v:Value)(us:List Value)(Q:VK),Inv X pins σ H s->RelV x v->Vals xs us->r x xs H Q->
  wpAny 1.12 X.A (call (.builtin id) (v::us)) 1.63 X.xe s
section
variable{X:Cx}{a b:Expr}{ta tb:TE}{pos:Pos}
theorem IxR.or{r F:R2}(h:IxR X r)(h':IxR X F):IxR X (λx y H Q=>r x y H Q∨F x y H Q):=by
 intro value D pins s σ H x y v u Q I rx U q B;rcases q with q|q
 .exact h value D pins s σ H x y v u Q I rx U q B
 .exact h' value D pins s σ H x y v u Q I rx U q B
theorem JW{r:R2}(O:IxR X r)(Y:PE X a ta)(U:PE X b tb)(B:uI b):PE X (.Subscript a b pos) (tOp r ta tb):=by
 intro pins s σ H Q I h;exact Subscript_ (WF Y U I h λv u F x y H2 D rx z q=>O a b pins F σ H2 x y v u Q D rx z q (B _ _))
def W7(K:ZC):R2:=λx y H Q=>∃p xs i v,x= .ref p/\y= .int i/\SqL K H p xs/\atI xs i=some v/\Q v H
def X_(K:ZC):R2:=λx y H Q=>∃p xs i v,x= .ref p/\y= .int i/\SqT K H p xs/\atI xs i=some v/\Q v H
def X5:R2:=λx y H Q=>∃z i c,x= .str z/\y= .int i/\z.length<=ZM/\atI z.cps.toList i=some c/\Q (.str ⟨#[c]⟩) H
theorem Qw:IxR X (W7 X.K):=by
 intro value a0 pins s σ H x y v u Q I rx U h B;obtain⟨p,xs,i,z,rfl,rfl,Y,V,q⟩:=h;cases rx;obtain⟨t,rfl⟩:=U;obtain⟨its,r,pl,hz⟩:=I.list Y;obtain⟨j,h1,h2,Z,h4,J⟩:=Ai V;obtain⟨w,F,a1⟩:=r.get h2;have O:=r.length;have hn:=p7;have D:EP X pins σ Q w s:=⟨z,H,I,a1,q⟩;by_cases h0:0<=i
 .have hj:i.toNat=j:=by
   rw[af1 h0 J]at h1;exact aaD h1
  exact item_listR pl.isList h0 1.11 (by rw[hj];simpa using F) D B
 .have hj:(i+(its.toArray.size:Int)).toNat=j:=by
   rw[afL 1.11 h4]at h1;rw[List.size_toArray,←O];exact aaD h1
  exact aeG (x:=w) pl.isList.typeIs slot_list_getitem.lookup
   (wpAny_getItem_list_neg (Q:=λr s'=>r=w/\EP X pins σ Q r s') pl.isList 1.11 (by rw[List.size_toArray]<;>omega) 1.11 (by rw[hj];simpa using F) ⟨rfl,D⟩) B
theorem Wc:IxR X (X_ X.K):=by
 intro value a0 pins s σ H x y v u Q I rx U h B;obtain⟨p,xs,i,z,rfl,rfl,Y,V,q⟩:=h;cases rx;obtain⟨t,rfl⟩:=U;obtain⟨its,r,pl,hz⟩:=I.tuple Y;obtain⟨j,h1,h2,Z,h4,J⟩:=Ai V;obtain⟨w,F,a1⟩:=r.get h2;have O:=r.length;have hn:=p7;have D:EP X pins σ Q w s:=⟨z,H,I,a1,q⟩;exact aeG (x:=w) pl.typeIs slot_tuple_getitem.lookup
  (getItem_tuple (j:=j) (Q:=λr s'=>r=w/\EP X pins σ Q r s') pl 1.11 1.11 (by rw[List.size_toArray,←O];exact h1) (by simpa using F) ⟨rfl,D⟩) B
theorem Vs:IxR X X5:=by
 intro value D pins s σ H x y v u Q I rx U h B;obtain⟨z,i,c,rfl,rfl,hz,V,q⟩:=h;obtain⟨t,rfl⟩:=rx;obtain⟨t',rfl⟩:=U;obtain⟨j,h1,h2,Z,F,J⟩:=Ai V;have O:z.cps.toList.length=z.length:=by simp[Str.length]
 rw[O]at h1 F J;have hn:=p7;exact tail_any (typeIs_str s z t) slot_str_getitem.lookup (getItem_str (c:=c) (by
  have e1:decide (i< -(2 ^ 63:Int))=false:=aaa 1.11;have e2:decide (i>=2 ^ 63)=false:=aaa 1.11;rw[e1,e2,Bool.or_false]) (by rw[h1];simpa using h2) ⟨.str ⟨#[c]⟩,H,I.tok _,⟨_,rfl⟩,q⟩) B
def rIx(K:ZC):R2:=λx y H Q=>W7 K x y H Q∨X_ K x y H Q∨X5 x y H Q
theorem Vv:IxR X (rIx X.K):=Qw.or (Wc.or Vs)
theorem FW(its:List Value)(n j:Nat)(u:Value):acn (·.setIfInBounds j u) {cls:=.type "list",data:=.seq its.toArray n}={cls:=.type "list",data:=.seq (its.set j u).toArray n}:=by
 simp[acn]
theorem Inv.lst{pins:List (Addr×Obj)}{σ:St}{H:Hp}{s:Pr}{p:Addr}{xs:List V}(I:Inv X pins σ H s)(h:H p=some (.lst xs)) :
  ∃(its:List Value)(n:Nat),Vals xs its/\s.heap.get? p=some {cls:=.type "list",data:=.seq its.toArray n}/\xs.length<=ZM:=by
 obtain⟨z,its,n,r,e⟩:=I.hok p _ h;exact⟨its,n,r,e,z⟩
theorem Inv.lstUpd{pins:List (Addr×Obj)}{σ:St}{H:Hp}{s:Pr}{p:Addr}{xs ys:List V}{its its':List Value}{n z:Nat}{f:Obj->Obj}(I:Inv X pins σ H s)(h:H p=some (.lst xs))
  (B:s.heap.get? p=some {cls:=.type "list",data:=.seq its.toArray n}) (D:f {cls:=.type "list",data:=.seq its.toArray n}={cls:=.type "list",data:=.seq its'.toArray z}) (r:Vals ys its') (hz:ys.length<=ZM) (t:Nat) :
  Inv X pins σ (upd H p (.lst ys)) {s with heap:=s.heap.update p f,toks:=t}:=by
 have e:(s.heap.update p f).get? p=some {cls:=.type "list",data:=.seq its'.toArray z}:=by
  rw[acA f B (by rw[D]<;>rfl),D]
 refine I.write (x:=p) (e:=p) (by rw[h];trivial) (.inl rfl) (λb u U q=>(abn _ _ (aay U)).trans q) ⟨_,e⟩ ?_;exact⟨hz,its',z,r,e⟩
def S7:V->V->V->Hp->(Hp->Prop)->Prop:=λo i v H Q=>∃p xs k j,o= .ref p/\i= .int k/\H p=some (.lst xs)/\ixN xs.length k=some j/\Q (upd H p (.lst (xs.set j v)))
theorem set_list:PX X S7:=by
 intro pins s σ H o i v U iv u Q I D ri z h;obtain⟨p,xs,k,j,rfl,rfl,F,hj,q⟩:=h;cases D;obtain⟨t,rfl⟩:=ri;obtain⟨its,n,r,B,hz⟩:=I.lst F;obtain⟨h1,h2,Z,V⟩:=zG hj;have O:=r.length;have hn:=p7;have J:Inv X pins σ (upd H p (.lst (xs.set j v))) {s with heap:=s.heap.update p (acn (·.setIfInBounds j u))}:=
  I.lstUpd F B (FW its n j u) (r.set z j) (by rw[List.length_set];exact hz) s.toks
 by_cases Y:0<=k
 .have hk:k.toNat=j:=by
   rw[af1 Y V]at h1;exact aaD h1
  exact PySem.W.ki_setAt B Y 1.11 (by rw[List.size_toArray,←O];exact V) (by rw[hk];exact⟨_,J,q⟩)
 .have hk:(k+(its.toArray.size:Int)).toNat=j:=by
   rw[afL 1.11 Z]at h1;rw[List.size_toArray,←O];exact aaD h1
  exact PySem.W.ki_setBack B 1.11 (by rw[List.size_toArray,←O];exact Z) 1.11 (by rw[hk];exact⟨_,J,q⟩)
theorem zV(lo hi:Option Int)(n:Nat):(acT lo hi none n).1=((HT.sIx n 0 lo:Nat):Int)/\(acT lo hi none n).2.1=((HT.sIx n n hi:Nat):Int)/\(acT lo hi none n).2.2=1:=by
 refine⟨?_,?_,rfl⟩
 .cases lo with
  |none=>simp[acT,HT.sIx]
  |some i=>
   simp![acT,HT.sIx,af7,show(1:Int)>0 by decide,aab];by_cases h:i<0
   .simp![h,aab]<;>omega
   .simp![h,aaN]<;>omega
 .cases hi with
  |none=>simp[acT,HT.sIx]
  |some i=>
   simp![acT,HT.sIx,af7,show(1:Int)>0 by decide,aab];by_cases h:i<0
   .simp![h,aab]<;>omega
   .simp![h,aaN]<;>omega
theorem xK(its:List Value)(lo hi:Option Int):slicePick its.toArray lo hi none=((its.drop (HT.sIx its.length 0 lo)).take (HT.sIx its.length its.length hi-HT.sIx its.length 0 lo)).toArray:=by
 obtain⟨h1,h2,Z⟩:=zV lo hi its.toArray.size;unfold slicePick;rw[h1,h2,Z];simp![sliceRange_one,pick_run,List.size_toArray]<;>rfl
def W_(K:ZC):V->Option Int->Option Int->Hp->VK->Prop:=λx lo hi H Q=>∃a xs,x= .ref a/\SqL K H a xs/\∀p,H p=none->Q (.ref p) (upd H p (.lst (vA xs lo hi)))
theorem QS:SlR X (W_ X.K):=by
 intro pins s σ H x v vl U lo hi sl Q I rx B pl V h;obtain⟨a,xs,rfl,J,q⟩:=h;cases rx;obtain⟨its,r,Y,hz⟩:=I.list J;have z:=r.length;refine⟨"list",_,slot_list_getitem.lookup,Y.isList.typeIs,?_⟩;refine wpAny_getItem_list_slice Y.isList B pl V .none (by simp) ?_ (by rw[List.size_toArray]<;>omega);rw[xK,←z];refine⟨.ref s.heap.objs.size,_,I.laid (t':=s.toks) (o:=.lst (vA xs lo hi)) (λb ob q=>Zz _ q) (ZQ _) ?_,rfl,q _ (I.hok.fresh (ZQ _))⟩;exact⟨aa5 (tU xs lo hi) hz,_,0,(r.drop (HT.sIx xs.length 0 lo)).take (HT.sIx xs.length xs.length hi-HT.sIx xs.length 0 lo),Z6 _ rfl⟩
def m6:V->Bool
 |.non=>true
 |.bl _=>true
 |.int _=>true
 |.str _=>true
 |_=>false
def eqV:V->V->Bool
 |.non,.non=>true
 |.bl a,.bl b=>a==b
 |.bl a,.int b=>(if a then 1 else 0)==b
 |.int a,.bl b=>a==(if b then 1 else 0)
 |.int a,.int b=>a==b
 |.str a,.str b=>a==b
 |_,_=>false
theorem Vq{A:aaC}{s:Pr}{y x:V}{u v:Value}(U:RelV y u)(rx:RelV x v)(I:m6 y=true)(Z:m6 x=true):SeqAt.EqAt A s u v (eqV y x):=by
 cases y with
 |non=>
  cases U;cases x with
  |non=>cases rx;exact SeqAt.EqAt.same _
  |bl b=>cases rx;exact SeqAt.EqAt.none_bool b
  |int b=>obtain⟨t,rfl⟩:=rx;exact SeqAt.EqAt.none_int b t
  |str b=>obtain⟨t,rfl⟩:=rx;exact SeqAt.EqAt.none_str b t
  |_=>exact absurd (show false=true from Z) aat
 |bl a=>
  cases U;cases x with
  |non=>cases rx;exact SeqAt.EqAt.bool_none a
  |bl b=>cases rx;exact SeqAt.EqAt.bool_bool a b
  |int b=>obtain⟨t,rfl⟩:=rx;exact SeqAt.EqAt.bool_int a b t
  |str b=>obtain⟨t,rfl⟩:=rx;exact SeqAt.EqAt.bool_str a b t
  |_=>exact absurd (show false=true from Z) aat
 |int a=>
  obtain⟨t',rfl⟩:=U;cases x with
  |non=>cases rx;exact SeqAt.EqAt.int_none a t'
  |bl b=>cases rx;exact SeqAt.EqAt.int_bool a t' b
  |int b=>obtain⟨t,rfl⟩:=rx;exact SeqAt.EqAt.int_int a t' b t
  |str b=>obtain⟨t,rfl⟩:=rx;exact afB a t' b t
  |_=>exact absurd (show false=true from Z) aat
 |str a=>
  obtain⟨t',rfl⟩:=U;cases x with
  |non=>cases rx;exact SeqAt.EqAt.str_none a t'
  |bl b=>cases rx;exact SeqAt.EqAt.str_bool a t' b
  |int b=>obtain⟨t,rfl⟩:=rx;exact afC a t' b t
  |str b=>obtain⟨t,rfl⟩:=rx;exact SeqAt.EqAt.str_str a t' b t
  |_=>exact absurd (show false=true from Z) aat
 |_=>exact absurd (show false=true from I) aat
def eqU(x:V)(u:Value):Bool:=match u with
 |.none=>eqV .non x
 |.bool b=>eqV (.bl b) x
 |.int i _=>eqV (.int i) x
 |.str z _=>eqV (.str z) x
 |_=>false
theorem Ob{x y:V}{u:Value}(r:RelV y u)(f:m6 y=true):eqU x u=eqV y x:=by
 cases y with
 |non=>cases r;rfl
 |bl b=>cases r;rfl
 |int i=>obtain⟨t,rfl⟩:=r;rfl
 |str z=>obtain⟨t,rfl⟩:=r;rfl
 |_=>exact absurd (show false=true from f) aat
theorem rn{x:V}:∀{xs:List V}{us:List Value},Vals xs us->xs.all m6=true->us.any (eqU x)=xs.any λy=>eqV y x
 |_,_,.nil,_=>rfl
 |y::xs,u::us,.cons r t,f=>by
  rw[acO,aal]at f;rw[adu,adu,Ob r f.1,rn t f.2]
theorem oU{A:aaC}{s:Pr}{x:V}{v:Value}(rx:RelV x v)(Z:m6 x=true):∀{xs:List V}{us:List Value},Vals xs us->xs.all m6=true->∀u∈us,SeqAt.EqAt A s u v (eqU x u)
 |_,_,.nil,_=>λu J=>by cases J
 |y::xs,u::us,.cons r t,f=>λz J=>by
  rw[acO,aal]at f;rcases ZR.mp J with rfl|J
  .rw[Ob r f.1];exact Vq r rx f.1 Z
  .exact oU rx Z t f.2 z J
def inV(x:V)(xs:List V):Bool:=xs.any λy=>eqV y x
def rIn(K:ZC)(q:Bool):R2:=λx y H Q=>∃p xs,y= .ref p/\(SqL K H p xs∨SqT K H p xs)/\m6 x=true/\xs.all m6=true/\Q (.bl (if q then !inV x xs else inV x xs)) H
theorem Ja:OpR X (aaA .In) (rIn X.K false):=by
 intro pins s σ H x y v u Q I rx U h;obtain⟨p,xs,rfl,Y,Z,fs,q⟩:=h;cases U;rcases Y with Y|Y
 .obtain⟨its,r,pl,hz⟩:=I.list Y
  refine SeqAt.in_listAt (eqU x) pl.isList (λw B=>oU rx Z r fs w (by simpa using B)) ⟨.bl _,H,I,rfl,?_⟩;rw[show its.toArray.any (eqU x)=its.any (eqU x)by simp,rn r fs];exact q
 .obtain⟨its,r,pl,hz⟩:=I.tuple Y
  refine SeqAt.in_tupleAt (eqU x) pl (λw B=>oU rx Z r fs w (by simpa using B)) ⟨.bl _,H,I,rfl,?_⟩;rw[show its.toArray.any (eqU x)=its.any (eqU x)by simp,rn r fs];exact q
theorem Ah:OpR X (aaA .NotIn) (rIn X.K true):=by
 intro pins s σ H x y v u Q I rx U h;obtain⟨p,xs,rfl,Y,Z,fs,q⟩:=h;cases U;rcases Y with Y|Y
 .obtain⟨its,r,pl,hz⟩:=I.list Y
  refine SeqAt.notIn_listAt (eqU x) pl.isList (λw B=>oU rx Z r fs w (by simpa using B)) ⟨.bl _,H,I,rfl,?_⟩;rw[show its.toArray.any (eqU x)=its.any (eqU x)by simp,rn r fs];exact q
 .obtain⟨its,r,pl,hz⟩:=I.tuple Y
  refine SeqAt.notIn_tupleAt (eqU x) pl (λw B=>oU rx Z r fs w (by simpa using B)) ⟨.bl _,H,I,rfl,?_⟩;rw[show its.toArray.any (eqU x)=its.any (eqU x)by simp,rn r fs];exact q
theorem zE:OpR X (aaA .NotIn) (λx y H Q=>∃i j,x= .str i/\y= .str j/\Q (.bl (!(!(aaG j i 0 j.length 1).isEmpty))) H):=by
 intro pins s σ H x y v u Q I rx U h;obtain⟨i,j,rfl,rfl,q⟩:=h;obtain⟨t,rfl⟩:=rx;obtain⟨t',rfl⟩:=U;exact notIn_str ⟨.bl _,H,I,rfl,q⟩
theorem zp:fZ X (.builtin "len") (λxs H Q=>∃p ys,xs=[.ref p]/\(SqL X.K H p ys∨SqT X.K H p ys)/\Q (.int ys.length) H):=by
 intro pins s σ H xs us Q I r h;obtain⟨p,ys,rfl,Y,q⟩:=h;obtain⟨u,rfl,rx⟩:=vals1 r;cases rx;have hn:=p7;rcases Y with Y|Y
 .obtain⟨its,r',pl,hz⟩:=I.list Y
  have z:=r'.length;exact Calls.call_len_list pl.isList (by simp![List.size_toArray]<;>omega) ⟨.int ys.length,H,I.tok _,⟨s.toks+1,by rw[List.size_toArray,z]⟩,q⟩
 .obtain⟨its,r',pl,hz⟩:=I.tuple Y
  have z:=r'.length;exact len_tuple pl (by simp![List.size_toArray]<;>omega) ⟨.int ys.length,H,I.tok _,⟨s.toks+1,by rw[List.size_toArray,z]⟩,q⟩
theorem zU:fZ X (.builtin "len") (λxs H Q=>∃z,xs=[.str z]/\z.length<=ZM/\Q (.int z.length) H):=by
 intro pins s σ H xs us Q I r h;obtain⟨z,rfl,hz,q⟩:=h;obtain⟨u,rfl,t,rfl⟩:=vals1 r;have hn:=p7;exact len_str 1.11 ⟨.int z.length,H,I.tok _,⟨_,rfl⟩,q⟩
theorem xP:fZ X (.type "tuple") (λxs H Q=>∃p ys,xs=[.ref p]/\((SqL X.K H p ys/\∀l,H l=none->Q (.ref l) (upd H l (.tup ys)))∨(SqT X.K H p ys/\Q (.ref p) H))):=by
 intro pins s σ H xs us Q I r h;obtain⟨p,ys,rfl,h⟩:=h;obtain⟨u,rfl,rx⟩:=vals1 r;cases rx;rcases h with⟨Y,q⟩|⟨Y,q⟩
 .obtain⟨its,r',pl,hz⟩:=I.list Y
  have B:=r'.length;refine call_tuple_list pl.isList (λh' kp=>?_) (by simp![List.size_toArray]<;>omega);have z:Inv X pins σ H {s with heap:=h'}:=I.kept (t':=s.toks) kp;have D:Inv X pins σ (upd H h'.objs.size (.tup ys)) {s with heap:=h'.push {cls:=.type "tuple",data:=.seq its.toArray}}:=
   z.laid (t':=s.toks) (λb o e=>Zz _ e) (ZQ _) (show cM X.prog X.w _ _ _ (.tup ys)from⟨hz,its,r',oh.new _ _⟩)
  exact⟨.ref h'.objs.size,_,D,rfl,q _ (z.hok.fresh (ZQ _))⟩
 .obtain⟨its,r',pl,hz⟩:=I.tuple Y
  exact call_tuple_same pl ⟨.ref p,H,I,rfl,q⟩
def tyV(K:ZC)(T:String)(x:V)(H:Hp):Prop:=match x with
 |.str _=>T="str"
 |.int _=>T="int"
 |.ref p=>(T="list"/\∃xs,SqL K H p xs)∨(T="tuple"/\∃o,K.lookup p=some o/\o.cls= .type "tuple"/\o.dict=none)∨
  (T="dict"/\((∃kvs,H p=some (.dK kvs))∨∃kvs,H p=some (.dT kvs)))∨(T="set"/\∃S n,H p=some (.set S n))
 |_=>False
theorem M5{pins:List (Addr×Obj)}{σ:St}{H:Hp}{s:Pr}{T:String}{x:V}{v:Value}(I:Inv X pins σ H s)(r:RelV x v)(ty:tyV X.K T x H) :
  s.TypeIs v T/\∀a,v= .ref a->∃ob,s.heap.get? a=some ob/\ob.dict=none:=by
 cases x with
 |str z=>
  obtain⟨t,rfl⟩:=r;cases (show T="str" from ty);exact⟨typeIs_str s z t,λ_ e=>nomatch e⟩
 |int i=>
  obtain⟨t,rfl⟩:=r;cases (show T="int" from ty);exact⟨typeIs_int s i t,λ_ e=>nomatch e⟩
 |ref p=>
  cases r;rcases ty with⟨rfl,xs,Y⟩|⟨rfl,o,q,Z,hd⟩|⟨rfl,q⟩|⟨rfl,S,n,q⟩
  .obtain⟨its,_,pl,_⟩:=I.list Y
   refine⟨pl.isList.typeIs,λa e=>?_⟩;cases e;obtain⟨o,n,e,c,hd,_⟩:=pl;exact⟨o,e,hd⟩
  .refine⟨⟨o,I.kIn p o q,Z⟩,λa e=>?_⟩
   cases e;exact⟨o,I.kIn _ o q,hd⟩
  .have z:∃o,s.heap.get? p=some o/\o.ExactDict:=by
    rcases q with⟨kvs,q⟩|⟨kvs,q⟩
    .obtain⟨_,_,_,_,o,_,_,e,ex,_⟩:=I.hok p _ q
     exact⟨o,e,ex⟩
    .obtain⟨_,_,_,_,o,_,_,e,ex,_⟩:=I.hok p _ q
     exact⟨o,e,ex⟩
   obtain⟨o,e,ex⟩:=z;refine⟨⟨o,e,ex.1⟩,λa e2=>?_⟩;cases e2;exact⟨o,e,ex.2.1⟩
  .obtain⟨o,_,_,_,e,ex,_⟩:=I.hok p _ q
   refine⟨⟨o,e,ex.1⟩,λa e2=>?_⟩;cases e2;exact⟨o,e,ex.2.1⟩
 |_=>exact abq ty
def Zu(K:ZC)(T:String)(r:V->List V->Hp->VK->Prop)(to:TE):TE:=λσ H Q=>to σ H λx H1=>tyV K T x H1/\r x [] H1 Q
def tBM(K:ZC)(T:String)(r:V->List V->Hp->VK->Prop)(to:TE)(t:TA):TE:=λσ H Q=>to σ H λx H1=>tyV K T x H1/\t σ H1 λxs H2=>r x xs H2 Q
variable{o e:Expr}{es:List Expr}{to:TE}{t:TA}{name:Str}{apos cpos:Pos}{T id:String}{r:V->List V->Hp->VK->Prop}
theorem Oj(D:ac9 T)(slot:Slot T name id)(O:aeU (.builtin id)=pure (.type "method_descriptor"))(J:MtR X id r)(B:PE X o to)
  (U:aaR o name X.env (eval o X.env)=eval o X.env:=by rfl) (q:(apos.endLine==cpos.line)=true:=by rfl):PE X (.Call (.Attribute o name apos) [] [] cpos) (Zu X.K T r to):=by
 intro pins s σ H Q I h;refine aeu U q (thn (B pins s σ H _ I h) λv F ⟨x,H1,z,Z,ty,q1⟩=>?_);obtain⟨h1,h2⟩:=M5 z Z ty;exact⟨T,id,D,slot,O,h1,h2,acq rfl (afu (J pins F σ H1 x [] v [] Q z Z .nil q1))⟩
theorem Bg(pa:ac9 T)(slot:Slot T name id)(a1:aeU (.builtin id)=pure (.type "method_descriptor"))(J:MtR X id r)(ho:PE X o to)(Y:PA X (e::es) t)
  (U:aaR o name X.env (eval o X.env)=eval o X.env:=by rfl)
  (a0:((aaH cpos (ZK (e::es) X.env)).all (λx=>!x.1)&&(ab_ cpos (abo [] X.env)).all (λx=>x.1.isSome)
   &&decide ((e::es).length+([]:List acB).length+(if([]:List acB).isEmpty then 0 else 1)<30))=true:=by rfl)
  (q:(apos.endLine==cpos.line)=true:=by rfl) (B:ZK (e::es) X.env=(false,eval e X.env)::ZK es X.env:=by rfl) (V:(aaH cpos (ZK es X.env)).any (·.1)=false:=by rfl) :
  PE X (.Call (.Attribute o name apos) (e::es) [] cpos) (tBM X.K T r to t):=by
 intro pins s σ H Q I h;refine wpAny_Call_method_late U a0 q rfl (thn (ho pins s σ H _ I h) λv F ⟨x,H1,z,Z,ty,q1⟩=>?_);obtain⟨h1,h2⟩:=M5 z Z ty;refine⟨T,id,pa,slot,a1,h1,h2,?_⟩;have hA:=Y cpos pins F σ H1 _ z q1;rw[B]at hA⊢;refine acq (by show(false||(aaH cpos (ZK es X.env)).any (·.1))=false;rw[V]<;>rfl) (afb ?_);exact thn hA λus O ⟨vs,H2,D,r2,q2⟩=>J pins O σ H2 x vs v us Q D Z r2 q2
end
def MtM(X:Cx)(id:String)(r:V->List V->Hp->VK->Prop):Prop:=
 ∀(pins:List (Addr×Obj))(s:Pr)(σ:St)(H:Hp)(x:V)(xs:List V)(v:Value)(us:List Value)(Q:VK),Inv X pins σ H s->RelV x v->Vals xs us->r x xs H Q->
  wpAny 1.12 X.A (call (.builtin id) (v::us)) 1.63 X.xe s
theorem Vals.one:∀{x:V}{us:List Value},Vals [x] us->∃u,us=[u]/\RelV x u
 |_,_,.cons r .nil=>⟨_,rfl,r⟩
theorem Vals.two:∀{x y:V}{us:List Value},Vals [x,y] us->∃u v,us=[u,v]/\RelV x u/\RelV y v
 |_,_,_,.cons r (.cons q .nil)=>⟨_,_,rfl,r,q⟩
theorem Vals.zero:∀{us:List Value},Vals [] us->us=[]
 |_,.nil=>rfl
variable{xs:List V}
theorem Vals.dropLast(h:Vals xs us):Vals xs.dropLast us.dropLast:=by
 induction h with
 |nil=>exact .nil
 |cons r t B=>
  cases t with
  |nil=>exact .nil
  |cons q t'=>exact .cons r B
theorem Vals.eraseIdx:∀{xs:List V}{us:List Value}(i:Nat),Vals xs us->Vals (xs.eraseIdx i) (us.eraseIdx i)
 |_,_,_,.nil=>.nil
 |_,_,0,.cons _ t=>t
 |_,_,i+1,.cons r t=>.cons r (Vals.eraseIdx i t)
theorem Vals.reverse(h:Vals xs us):Vals xs.reverse us.reverse:=by
 induction h with
 |nil=>exact .nil
 |cons r t B=>rw[adi,adi];exact Vals.append B (.cons r .nil)
theorem qj(l:List α):l.eraseIdx (l.length-1)=l.dropLast:=by
 induction l with
 |nil=>rfl
 |cons a r B=>
  cases r with
  |nil=>rfl
  |cons b r=>
   have e:(a::b::r).length-1=((b::r).length-1)+1:=by
    have h1:(a::b::r).length=r.length+2:=rfl;have h2:(b::r).length=r.length+1:=rfl;omega
   rw[e,aev,B]
   all_goals rfl
theorem yh:∀(l:List α)(i:Nat),(l.eraseIdx i).length<=l.length
 |[],_=>ZQ _
 |_::_,0=>adP _
 |_::r,i+1=>Nat.succ_le_succ (yh r i)
variable{X:Cx}{σ:St}{H:Hp}{l:Addr}{ys:List V}
theorem Inv.lset{its':List Value}{f:Array Value->Array Value}(I:Inv X pins σ H s)(z:H l=some (.lst xs))
  (e:s.heap.get? l=some {cls:=.type "list",data:=.seq its.toArray n}) (D:f its.toArray=its'.toArray) (Z:Vals ys its') (hz:ys.length<=ZM) :
  Inv X pins σ (upd H l (.lst ys)) {s with heap:=s.heap.update l (acn f),toks:=t'}:=by
 have q:=af8 e f;rw[D]at q;refine I.write (x:=l) (e:=l) (by rw[z];exact trivial) (.inl rfl) (λB u U J=>(abn s.heap (acn f) (aay U)).trans J) ⟨_,q⟩ ?_;exact⟨hz,its',_,Z,q⟩
theorem Inv.lnew(I:Inv X pins σ H s)(Z:Vals ys its)(hz:ys.length<=ZM) :
  Inv X pins σ (upd H s.heap.objs.size (.lst ys)) {s with heap:=s.heap.push {cls:=.type "list",data:=.seq its.toArray},toks:=t'}:=
 I.laid (λ_ _ q=>Zz _ q) (ZQ _) ⟨hz,its,0,Z,Z6 _ rfl⟩
theorem Inv.fresh(I:Inv X pins σ H s):H s.heap.objs.size=none:=I.hok.fresh (ZQ _)
theorem Inv.lstM(I:Inv X pins σ H s)(D:H l=some (.lst xs)):xs.length<=ZM/\∃(its:List Value)(n:Nat),Vals xs its/\xs.length=its.length/\s.heap.get? l=some {cls:=.type "list",data:=.seq its.toArray n}:=by
 obtain⟨z,its,n,r,e⟩:=I.hok l _ D;exact⟨z,its,n,r,r.length,e⟩
def qG:V->List V->Hp->VK->Prop:=λx vs H Q=>∃l xs y,x= .ref l/\vs=[y]/\H l=some (.lst xs)/\xs.length<ZM/\Q .non (upd H l (.lst (xs++[y])))
theorem yo:MtM X "list.append" qG:=by
 intro pins s σ H x vs v us Q I rx J h;obtain⟨l,xs,y,rfl,rfl,D,hz,q⟩:=h;cases rx;obtain⟨u,rfl,B⟩:=J.one;obtain⟨z,its,n,r,O,e⟩:=I.lstM D;refine ac_ afM ⟨_,e,rfl⟩ afv (afc _ _) (afX l its.toArray n u (by rw[List.size_toArray];omega)) ⟨e,?_⟩;refine⟨.non,_,I.lset (its':=its++[u]) D e (by simp) (r.append (.cons B .nil)) ?_,rfl,q⟩;rw[aaP,List.length_singleton];omega
def WW:V->List V->Hp->VK->Prop:=λx vs H Q=>∃l xs y,x= .ref l/\vs=[]/\H l=some (.lst xs)/\xs[xs.length-1]? =some y/\Q y (upd H l (.lst xs.dropLast))
theorem Wh:MtM X "list.pop" WW:=by
 intro pins s σ H x vs v us Q I rx Z h;obtain⟨l,xs,y,rfl,rfl,D,V,q⟩:=h;cases rx;have U:=Z.zero;subst U;obtain⟨z,its,n,r,O,e⟩:=I.lstM D;obtain⟨u,J,B⟩:=r.get V;have Y:its.toArray[its.toArray.size-1]? =some u:=by
  show its.toArray[its.length-1]? =some u;rw[←abv,←O];exact J
 refine ac_ F.slot_list_pop ⟨_,e,rfl⟩ F.entry_list_pop (F.args_list_pop_1 _) (MeetsSeq.list_pop_last l its.toArray n u Y (by rw[List.size_toArray];omega)) ⟨e,?_⟩;refine⟨y,_,I.lset (its':=its.dropLast) D e ?_ r.dropLast ?_,B,q⟩
 .show its.toArray.eraseIdxIfInBounds (its.toArray.size-1)=its.dropLast.toArray
  rw[List.size_toArray,adD,qj]
 .rw[afd]
  omega
def KJ:V->List V->Hp->VK->Prop:=λx vs H Q=>∃l xs i k y,x= .ref l/\vs=[.int i]/\H l=some (.lst xs)/\-(2 ^ 63)<=i/\i<2 ^ 63/\seqIndex? i xs.length=some k/\xs[k]? =some y/\Q y (upd H l (.lst (xs.eraseIdx k)))
theorem Nq:MtM X "list.pop" KJ:=by
 intro pins s σ H x vs v us Q I rx J h;obtain⟨l,xs,i,k,y,rfl,rfl,D,h1,h2,U,V,q⟩:=h;cases rx;obtain⟨u,rfl,Z⟩:=J.one;obtain⟨t,rfl⟩:=Z;obtain⟨z,its,n,r,O,e⟩:=I.lstM D;obtain⟨w,B,Y⟩:=r.get V;refine ac_ F.slot_list_pop ⟨_,e,rfl⟩ F.entry_list_pop (F.args_list_pop_2 _ _)
  (MeetsSeq.list_pop_at l its.toArray n i t k w (fitsIndex_both h1 h2) (by rw[List.size_toArray,←O];exact U) (by rw[←abv];exact B) (by rw[List.size_toArray];omega)) ⟨e,?_⟩
 refine⟨y,_,I.lset (its':=its.eraseIdx k) D e ?_ (r.eraseIdx k) ?_,Y,q⟩
 .show its.toArray.eraseIdxIfInBounds k=(its.eraseIdx k).toArray
  rw[adD]
 .have:=yh xs k
  omega
def BV:V->List V->Hp->VK->Prop:=λx vs H Q=>∃l xs,x= .ref l/\vs=[]/\H l=some (.lst xs)/\Q .non (upd H l (.lst xs.reverse))
theorem Eh:MtM X "list.reverse" BV:=by
 intro pins s σ H x vs v us Q I rx B h;obtain⟨l,xs,rfl,rfl,D,q⟩:=h;cases rx;have U:=B.zero;subst U;obtain⟨z,its,n,r,O,e⟩:=I.lstM D;refine ac_ F.slot_list_reverse ⟨_,e,rfl⟩ F.entry_list_reverse (F.args_list_reverse_1 _) (AutoSeq1.list_reverse_list_0 l its.toArray n (by rw[List.size_toArray];omega)) ⟨e,?_⟩;refine⟨.non,_,I.lset (its':=its.reverse) D e (by simp) r.reverse ?_,rfl,q⟩;rw[List.length_reverse];omega
def Xn:R2:=λx y H Q=>∃l b xs zs,x= .ref l/\y= .ref b/\H l=some (.lst xs)/\H b=some (.lst zs)/\xs.length+zs.length<=ZM/\∀p,H p=none->Q (.ref p) (upd H p (.lst (xs++zs)))
theorem Wz:OpR X (aa3 .Add) Xn:=by
 intro pins s σ H x y v u Q I rx U h;obtain⟨l,b,xs,zs,rfl,rfl,F,B,hz,q⟩:=h;cases rx;cases U;obtain⟨z,its,n,r,O,e⟩:=I.lstM F;obtain⟨z2,D,V,J,Y,e2⟩:=I.lstM B;refine PySem.P.add_list e e2 ?_ (by rw[List.size_toArray,List.size_toArray];omega);have Z:its.toArray++D.toArray=(its++D).toArray:=by simp
 rw[Z];exact⟨.ref _,_,I.lnew (t':=s.toks) (r.append J) (by rw[aaP];omega),rfl,q _ I.fresh⟩
section
variable{κ:Type}[DecidableEq κ]
def iQ(kvs:List (κ×V))(k:κ):Option V:=(kvs.find? λF=>decide (F.1=k)).map (·.2)
def putK(kvs:List (κ×V))(k:κ)(v:V):List (κ×V):=
 if(kvs.any λF=>decide (F.1=k))=true then kvs.map (λF=>if F.1=k then(F.1,v)else F)else kvs++[(k,v)]
def rN(kvs:List (κ×V))(k:κ):List (κ×V):=kvs.filter λF=>decide (F.1≠k)
theorem vy{p:κ×V}{r:List (κ×V)}{k:κ}(e:p.1=k):iQ (p::r) k=some p.2:=by simp[iQ,abE,e]
theorem wO{p:κ×V}{r:List (κ×V)}{k:κ}(e:¬p.1=k):iQ (p::r) k=iQ r k:=by simp[iQ,abE,e]
theorem wz(k:κ):∀kvs:List (κ×V),(kvs.any λF=>decide (F.1=k))=(iQ kvs k).isSome
 |[]=>rfl
 |p::r=>by
  rw[adu];by_cases e:p.1=k
  .simp![vy e,aaE e,Bool.true_or,Option.isSome_some]
  .rw[wO e,aaa e,Bool.false_or];exact wz k r
theorem gM(kvs:List (κ×V))(k:κ)(v:V):(putK kvs k v).length<=kvs.length+1:=by
 unfold putK;split
 .rw[ZL];omega
 .rw[aaP,Z3,aaq];omega
theorem lW{kvs:List (κ×V)}{k:κ}(v:V)(h:iQ kvs k=none):putK kvs k v=kvs++[(k,v)]:=by
 unfold putK;rw[wz,h];exact Z1 (by decide)
theorem mJ.isSome_eq{o:Option V}{u:Option Value}(r:mJ o u):o.isSome=u.isSome:=by
 cases o with
 |none=>cases u with
  |none=>rfl
  |some _=>exact(show False from r).elim
 |some _=>cases u with
  |none=>exact(show False from r).elim
  |some _=>rfl
theorem KV.val{kvs:List (κ×V)}{vs:List (κ×Value)}(r:KV kvs vs)(k:κ):mJ (iQ kvs k) (abY vs k):=by
 unfold KV at r
 induction r with
 |nil=>exact aaJ
 |@cons p q ps D h t B=>
  obtain⟨h1,h2⟩:=h;by_cases e:p.1=k
  .have e':q.1=k:=h1.symm.trans e
   have b:abY (q::D) k=some q.2:=by simp[abY,abE,e']
   rw[vy e,b];exact h2
  .have e':¬q.1=k:=λz=>e (h1.trans z)
   have b:abY (q::D) k=abY D k:=by simp[abY,abE,e']
   rw[wO e,b];exact B
theorem KV.any{kvs:List (κ×V)}{vs:List (κ×Value)}(r:KV kvs vs)(k:κ):(kvs.any λF=>decide (F.1=k))=vs.any λF=>decide (F.1=k):=by
 unfold KV at r
 induction r with
 |nil=>rfl
 |cons h t B=>rw[adu,adu,B,h.1]
theorem KV.repl{kvs:List (κ×V)}{vs:List (κ×Value)}(r:KV kvs vs)(k:κ){y:V}{u:Value}(U:RelV y u) :
  KV (kvs.map λF=>if F.1=k then(F.1,y)else F) (vs.map λF=>if F.1=k then(F.1,u)else F):=by
 unfold KV at r⊢
 induction r with
 |nil=>exact .nil
 |@cons p q ps D h t B=>
  rw[ZF,ZF];refine .cons ?_ B;obtain⟨h1,h2⟩:=h;by_cases e:p.1=k
  .rw[ZV e,ZV (h1.symm.trans e)];exact⟨h1,U⟩
  .rw[Z1 e,Z1 (λz=>e (h1.trans z))];exact⟨h1,h2⟩
theorem KV.put{kvs:List (κ×V)}{vs:List (κ×Value)}(r:KV kvs vs)(k:κ){y:V}{u:Value}(U:RelV y u):KV (putK kvs k y) (aeV vs k u):=by
 unfold putK aeV;rw[r.any k];by_cases e:(vs.any λF=>decide (F.1=k))=true
 .rw[ZV e,ZV e];exact r.repl k U
 .rw[Z1 e,Z1 e];exact Paired.snoc r ⟨rfl,U⟩
theorem KV.drop{kvs:List (κ×V)}{vs:List (κ×Value)}(r:KV kvs vs)(k:κ):KV (rN kvs k) (without vs k):=by
 unfold KV at r⊢;unfold rN without
 induction r with
 |nil=>exact .nil
 |@cons p q ps D h t B=>
  obtain⟨h1,h2⟩:=h;rw[abJ,abJ];by_cases e:p.1=k
  .have a:¬decide (p.1≠k)=true:=by simp[e]
   have b:¬decide (q.1≠k)=true:=by simp[h1.symm.trans e]
   rw[Z1 a,Z1 b];exact B
  .have e':¬q.1=k:=λz=>e (h1.trans z)
   have a:decide (p.1≠k)=true:=by simp[e]
   have b:decide (q.1≠k)=true:=by simp[e']
   rw[ZV a,ZV b];exact .cons ⟨h1,h2⟩ B
theorem KV.length{kvs:List (κ×V)}{vs:List (κ×Value)}(r:KV kvs vs):kvs.length=vs.length:=adX r
theorem O3(kvs:List (κ×V))(k:κ):(rN kvs k).length<=kvs.length:=acC _ _
end
theorem m_{k:Key}(r:RelV (kV k) u):(bG P w).is k u=true:=by
 cases k with
 |inl i=>obtain⟨t,e⟩:=(show ∃t,u=ab7 i t from r);subst e;exact Bt P w i t
 |inr x=>obtain⟨t,e⟩:=(show ∃t,u=acG x t from r);subst e;exact Ds P w x t
theorem yu:∀{ks:List Key}{us:List Value},Vals (ks.map kV) us->ItemsAre (bG P w) ks us
 |[],_,r=>by rw[aao]at r;cases r;exact .nil
 |k::ks,_,r=>by
  rw[ZF]at r;cases r with
  |cons h t=>exact .cons (m_ h) (yu t)
noncomputable abbrev KT(H:Hp):List (List Key×V)->List (List Key×Addr×Value)->Prop:=aef λp q=>p.1=q.1/\H q.2.1=some (.tup (p.1.map kV))/\RelV p.2 q.2.2
variable{xs:List (List Key×Addr×Value)}{kvs:List (List Key×V)}
theorem KT.val(r:KT H kvs xs)(k:List Key):mJ (iQ kvs k) ((atKey xs k).map (·.2)):=by
 induction r with
 |nil=>exact aaJ
 |@cons p q ps D h t B=>
  obtain⟨h1,_,h2⟩:=h;by_cases e:p.1=k
  .have e':q.1=k:=h1.symm.trans e
   have b:atKey (q::D) k=some q.2:=by simp[atKey,abE,e']
   rw[vy e,b];exact h2
  .have e':¬q.1=k:=λz=>e (h1.trans z)
   have b:atKey (q::D) k=atKey D k:=by simp[atKey,abE,e']
   rw[wO e,b];exact B
variable{y:V}
theorem KT.repl(r:KT H kvs xs)(k:List Key)(U:RelV y u) :
  KT H (kvs.map λF=>if F.1=k then(F.1,y)else F) (xs.map (putAt k u)):=by
 induction r with
 |nil=>exact .nil
 |@cons p q ps D h t B=>
  rw[ZF,ZF];refine .cons ?_ B;obtain⟨h1,h2,Z⟩:=h;unfold putAt;by_cases e:p.1=k
  .rw[ZV e,ZV (h1.symm.trans e)];exact⟨h1,h2,U⟩
  .rw[Z1 e,Z1 (λz=>e (h1.trans z))];exact⟨h1,h2,Z⟩
theorem KT.put(r:KT H kvs xs)(k:List Key){b:Addr}(U:H b=some (.tup (k.map kV)))(z:RelV y u) :
  KT H (putK kvs k y) (storedH xs k b u):=by
 have e:(kvs.any λF=>decide (F.1=k))=(atKey xs k).isSome:=by
  rw[wz,(r.val k).isSome_eq,ad8]
 unfold putK storedH;rw[e];by_cases q:(atKey xs k).isSome=true
 .rw[ZV q,ZV q];exact r.repl k z
 .rw[Z1 q,Z1 q];exact Paired.snoc r ⟨rfl,U,z⟩
variable{H':Hp}
theorem KT.keeps(r:KT H kvs xs)(Y:∀b ys,H b=some (.tup ys)->H' b=some (.tup ys)):KT H' kvs xs:=
 Paired.mapP r λ_ _ z=>⟨z.1,Y _ _ z.2.1,z.2.2⟩
variable{P:Program}
theorem Tv{u:HO}(ok:HOk P w H h)(e:Rd H a u):cM P w H h a u:=e.ok ok
theorem rC{kvs:List (Key×V)}(ok:HOk P w H h)(e:Rd H a (.dK kvs)):kvs.length<=ZM/\(a==abM)=false/\∃vs,KV kvs vs/\h.DictOf (bG P w) a vs:=
 show cM P w H h a (.dK kvs)from Tv ok e
theorem uX{kvs:List (Key×V)}(ok:HOk P w H h)(e:H a=some (.dK kvs)):kvs.length<=ZM/\(a==abM)=false/\∃vs,KV kvs vs/\h.DictOf (bG P w) a vs:=rC ok (.inl e)
theorem uZ{ks:List Key}(ok:HOk P w H h)(e:H a=some (.tup (ks.map kV))):(aez (bG P w)).is h ks a:=by
 obtain⟨_,its,r,o,h1,h2,n,Z⟩:=(show cM P w H h a (.tup (ks.map kV))from ok a _ e);exact⟨o,its.toArray,n,h1,h2,Z.1,by simpa using yu r⟩
theorem Dz(ok:HOk P w H h)(e:Rd H a (.dT kvs)):kvs.length<=ZM/\(a==abM)=false/\
  ∃xs,KT H kvs xs/\h.DictOfH (aez (bG P w)) a xs:=by
 obtain⟨z,y,xs,r,o,es,ep,h1,h2,Z,I,F⟩:=(show cM P w H h a (.dT kvs)from Tv ok e);refine⟨z,y,xs,r,o,es,ep,h1,h2,Z,I,λx J=>?_,F⟩;have all:∀{l:List (List Key×V)}{m:List (List Key×Addr×Value)},KT H l m->∀x∈m,(aez (bG P w)).is h x.1 x.2.1:=by
  intro l m q
  induction q with
  |nil=>intro x J;exact nomatch J
  |@cons p q ps D Y t B=>
   intro x J;rcases ZR.mp J with e|J
   .subst e
    exact uZ ok (by rw[←Y.1];exact Y.2.1)
   .exact B x J
 exact all r x J
theorem XC(ok:HOk P w H h)(e:H a=some (.dT kvs)):kvs.length<=ZM/\(a==abM)=false/\
 ∃xs,KT H kvs xs/\h.DictOfH (aez (bG P w)) a xs:=Dz ok (.inl e)
def qu(H:Hp)(a:Addr)(y:V)(r:Option V):Prop:=
 (∃kvs k,Rd H a (.dK kvs)/\y=kV k/\r=iQ kvs k)∨∃kvs k b,Rd H a (.dT kvs)/\y= .ref b/\H b=some (.tup (k.map kV))/\r=iQ kvs k
def I_(H:Hp)(a:Addr)(y v:V)(H':Hp):Prop:=
 (∃kvs k,H a=some (.dK kvs)/\y=kV k/\kvs.length<ZM/\H'=upd H a (.dK (putK kvs k v)))∨
 ∃kvs k b,H a=some (.dT kvs)/\y= .ref b/\H b=some (.tup (k.map kV))/\kvs.length<ZM/\H'=upd H a (.dT (putK kvs k v))
variable{kvs:List (Key×V)}
theorem qu.k{k:Key}(e:H a=some (.dK kvs)):qu H a (kV k) (iQ kvs k):=.inl ⟨kvs,k,.inl e,rfl,rfl⟩
variable{v:V}
theorem I_.k{k:Key}(e:H a=some (.dK kvs))(O:kvs.length<ZM):I_ H a (kV k) v (upd H a (.dK (putK kvs k v))):=.inl ⟨kvs,k,e,rfl,O,rfl⟩
theorem Inv.big(I:Inv X pins σ H s):abM<s.heap.objs.size:=by
 have h:aaI<s.heap.objs.size:=(I.mod.glob.keeps I.bk).lt;exact Nat.lt_trans (by decide) h
theorem yE(J:A.units+1<cLine)(I:Inv X pins σ H s)(g:qu H a y (some v))(U:RelV y u)(h:∀V s',Inv X pins σ H s'->RelV v V->Q V s') :
  wpAny 1.12 A (adM (.ref a) u) Q E s:=by
 rcases g with⟨kvs,k,e,O,l⟩|⟨kvs,k,b,e,O,Z,l⟩
 .subst O
  obtain⟨z,hd,vs,rel,D⟩:=rC I.hok e;obtain⟨V,B,Y⟩:=mJ.some_of (v:=v) (o:=abY vs k) (by rw[l];exact rel.val k);exact wpAny_getItem_of (m_ U) D.mapOf B (h V _ (I.tok _) Y)
 .subst O
  cases (show u=aac b from U);obtain⟨z,hd,xs,rel,D⟩:=Dz I.hok e;obtain⟨V,B,Y⟩:=mJ.some_of (v:=v) (o:=(atKey xs k).map (·.2)) (by rw[l];exact rel.val k);obtain⟨p,F,q⟩:=aeH.mp B;refine wpAny_getItem_heap (ac4 J) (uZ I.hok Z) D F ?_;rw[q];exact h V _ (I.tok _) Y
variable{o:Option V}
theorem Zq(J:A.units+1<cLine)(I:Inv X pins σ H s)(g:qu H a y o)(U:RelV y u)(h:∀s',Inv X pins σ H s'->Q (.bool o.isSome) s') :
  wpAny 1.12 A (aaA .In u (.ref a)) Q E s:=by
 rcases g with⟨kvs,k,e,O,l⟩|⟨kvs,k,b,e,O,B,l⟩
 .subst O
  obtain⟨z,hd,vs,rel,D⟩:=rC I.hok e;refine wpAny_in_of (m_ U) hd D.mapOf ?_;rw[←(rel.val k).isSome_eq,←l];exact h _ (I.tok _)
 .subst O
  cases (show u=aac b from U);obtain⟨z,hd,xs,rel,D⟩:=Dz I.hok e;refine wpAny_in_heap (ac4 J) (uZ I.hok B) hd D ?_;have q:=(rel.val k).isSome_eq;rw[ad8]at q;rw[←q,←l];exact h _ (I.tok _)
theorem Rt(J:A.units+1<cLine)(I:Inv X pins σ H s)(g:qu H a y o)(U:RelV y u)(h:∀s',Inv X pins σ H s'->Q (.bool (!o.isSome)) s') :
  wpAny 1.12 A (aaA .NotIn u (.ref a)) Q E s:=by
 rcases g with⟨kvs,k,e,O,l⟩|⟨kvs,k,b,e,O,B,l⟩
 .subst O
  obtain⟨z,hd,vs,rel,D⟩:=rC I.hok e;refine wpAny_notIn_of (m_ U) hd D.mapOf ?_;rw[←(rel.val k).isSome_eq,←l];exact h _ (I.tok _)
 .subst O
  cases (show u=aac b from U);obtain⟨z,hd,xs,rel,D⟩:=Dz I.hok e;refine wpAny_notIn_heap (ac4 J) (uZ I.hok B) hd D ?_;have q:=(rel.val k).isSome_eq;rw[ad8]at q;rw[←q,←l];exact h _ (I.tok _)
theorem mY{ob:HO}(I:Inv X pins σ H s)(mu:Mut (H a))(B:ab9 a s.heap h')(V:∃q,h'.get? a=some q)(new:cM X.prog X.w (upd H a ob) h' a ob) :
  Inv X pins σ (upd H a ob) {s with heap:=h',toks:=t'}:=
 I.write (x:=a) (e:=a) mu (.inl rfl) (λb q U z=>(B.2 b U).trans z) V new
variable{P:aae}
theorem tL{vs:List (Key×Value)}(z:kvs.length<=ZM)(hd:(a==abM)=false)(rel:KV kvs vs)(D:h'.DictOf (bG P w) a vs) :
 cM P w H' h' a (.dK kvs):=⟨z,hd,vs,rel,D⟩
variable{r:Value}
theorem xZ{Q:Unit->Pr->Prop}(J:A.units+1<cLine)(I:Inv X pins σ H s)(g:I_ H a y v H')(U:RelV y u)(F:RelV v r)(h:∀s',Inv X pins σ H' s'->Q () s') :
  wpAny 1.12 A (aeP (.ref a) u r) Q E s:=by
 rcases g with⟨kvs,k,e,ey,l,eH⟩|⟨kvs,k,b,e,ey,eb,l,eH⟩
 .subst ey eH
  obtain⟨z,hd,vs,rel,D⟩:=uX I.hok e;have hz:vs.length<=ZM:=by rw[←rel.length];exact z
  have O:(putK kvs k v).length<=ZM:=by have:=gM kvs k v;omega
  refine wpAny_setItem_pairs (hsz:=hz) (m_ U) D λh' a0 B=>h _ ?_;have V:∃q,h'.get? a=some q:=let⟨q,_,_,Y,_⟩:=a0;⟨q,Y⟩;exact mY I (by rw[e];exact aaJ) B V (tL O hd (rel.put k F) a0)
 .subst ey eH
  cases (show u=aac b from U);obtain⟨z,hd,xs,rel,D⟩:=XC I.hok e;have hz:xs.length<=ZM:=by rw[←adX rel];exact z
  have O:(putK kvs k v).length<=ZM:=by have:=gM kvs k v;omega
  refine wpAny_setItem_heap (hsz:=hz) (ac4 J) (uZ I.hok eb) D λh' a0 B=>h _ ?_;obtain⟨q,es,ep,Y,h2,Z,h4,_,h5⟩:=a0;refine mY I (by rw[e];exact aaJ) B ⟨q,Y⟩ ⟨O,hd,_,(rel.put k eb F).keeps λc ys ec=>?_,q,es,ep,Y,h2,Z,h4,h5⟩;rw[aQ (GQ ec e (λz=>nomatch z))];exact ec
section
variable{X:Cx}{pins:List (Addr×Obj)}{σ:St}{H:Hp}{s:Shared}{a:Addr}{kvs:List (Key×V)}{k:Key}{u:Value}{A:Around}{E:Value->Shared->Prop}
theorem Ig{Q:Unit->Pr->Prop}(I:Inv X pins σ H s)(e:H a=some (.dK kvs))(U:RelV (kV k) u)(l:(iQ kvs k).isSome=true)(h:∀s',Inv X pins σ (upd H a (.dK (rN kvs k))) s'->Q () s') :
  wpAny 1.12 A (delItem (.ref a) u) Q E s:=by
 obtain⟨z,hd,vs,rel,D⟩:=uX I.hok e;refine wpAny_delItem_slot D.typeIs (by decide) aeb
  (aej aeb D.typeIs PySem.F.entry_dict_delitem (PySem.F.args_dict_delitem_2 _ _) (meets_dict_delitem_pairs (bG X.prog X.w) a (m_ U)) ⟨vs,D,by rw[←rel.length];exact z,by rw[←(rel.val k).isSome_eq];exact l,λh' Z B=>h _ ?_⟩)
 have V:∃q,h'.get? a=some q:=let⟨q,_,_,hq,_⟩:=Z;⟨q,hq⟩;exact mY I (by rw[e];exact aaJ) B V (tL (aa5 (O3 kvs k) z) hd (rel.drop k) Z)
theorem YM{Q:Value->Pr->Prop}(I:Inv X pins σ H s)(e:Rd H a (.dK kvs))(h:∀t s',Inv X pins σ H s'->Q (.int kvs.length t) s'):wpAny 1.12 A (call (.builtin "len") [.ref a]) Q E s:=by
 obtain⟨z,hd,vs,rel,D⟩:=rC I.hok e;refine call_len_dict hd D (by rw[←rel.length];rw[acS]at z;omega) ?_;rw[←rel.length];exact h _ _ (I.tok _)
end
theorem Cr{s:Pr}(I:Inv X pins σ H s)(g:qu H a y o):s.TypeIs (.ref a) "dict":=by
 rcases g with⟨kvs,k,e,_,_⟩|⟨kvs,k,b,e,_,_,_⟩
 .obtain⟨_,_,vs,_,dd⟩:=rC I.hok e
  exact dd.typeIs
 .obtain⟨_,_,xs,_,dd⟩:=Dz I.hok e
  exact dd.typeIs
def T3(td ty tv:TE)(rd:V->V->Hp->VK->Prop):TS:=λD σ H=>td σ H λx H1=>ty σ H1 λy H2=>∃a v,x= .ref a/\qu H2 a y (some v)/\
 tv σ H2 λU B=>rd v U B λz O=>∃q,I_ O a y z q/\D.nx σ q
def T6(td ty:TE):TS:=λD σ H=>td σ H λx H1=>ty σ H1 λy H2=>∃a kvs k,x= .ref a/\H2 a=some (.dK kvs)/\y=kV k/\(iQ kvs k).isSome=true/\D.nx σ (upd H2 a (.dK (rN kvs k)))
variable{i o:Expr}{td ty tv:TE}
theorem PP{op:aeg}{rd:V->V->Hp->VK->Prop}(J:X.A.units+1<cLine)(B:PE X o td)(hi:PE X i ty)(Z:PE X value tv)(a0:Sw X op rd)
  (Y:∀ov iv new,augStore i ov iv new=(do abi [new,ov,iv] (aeP ov iv new);release [new,ov,iv] [];pure .next)):PS X (.AugAssign (.Subscript o i tpos) op value pos) (T3 td ty tv rd):=by
 intro pins s σ H D I h;refine wpAny_AugAssign_SubscriptAny (thn (B pins s σ H _ I h) λu F ⟨x,H1,I1,rx,q1⟩=>thn (hi pins F σ H1 _ I1 q1) λiv O ⟨y,H2,I2,U,a,v,ex,g,q2⟩=>?_) Y;subst ex;obtain rfl:u=aac a:=rx;refine yE J I2 g U λw' s3 I3 a2=>thn (Z pins s3 σ H2 _ I3 q2) λw2 q ⟨y2,H3,I4,a1,q3⟩=>thn (a0 pins q σ H3 v y2 w' w2 _ I4 a2 a1 q3) λw3 s5 ⟨z,H4,I5,rz,H5,g5,q4⟩=>?_;exact xZ J I5 g5 U rz λs6 I6=>⟨σ,H5,I6,q4⟩
theorem RW(B:PE X o td)(hi:PE X i ty):PS X (.Delete [.Subscript o i tpos] pos) (T6 td ty):=by
 intro pins s σ H D I h;refine wpAny_Delete (wpAny_deleteEach_cons (wpAny_delete_Subscript (thn (B pins s σ H _ I h) λu F ⟨x,H1,z,rx,q1⟩=>thn (hi pins F σ H1 _ z q1) λq O ⟨y,H2,J,U,a,kvs,k,ex,e,Y,l,q2⟩=>?_)));subst ex Y;obtain rfl:u=aac a:=rx;exact Ig J e U l λZ V=>wpAny_deleteEach_nil ⟨σ,_,V,q2⟩
theorem vh(h:Heap)(U:abM<h.objs.size):cM P w H (h.push {cls:=.type "dict",data:=.dict #[]}) h.objs.size (.dK []):=
 ⟨abO _,aba.mpr (aay (Z5 U)),[],.nil,aeC h⟩
def VG:TE:=λ_ H Q=>∀p,H p=none->Q (.ref p) (upd H p (.dK []))
theorem J7:PE X (.Dict [] [] pos) VG:=λpins s σ H Q I h=>
 wpAny_Dict_empty ⟨.ref s.heap.objs.size,_,I.laid (a:=s.heap.objs.size) (o:=.dK []) (t':=s.toks) (λ_ _ q=>Zz _ q) (ZQ _) (vh s.heap I.big),rfl,h _ (I.hok.fresh (ZQ _))⟩
def yW:List (TE×TE)->St->Hp->(List (V×V)->Hp->Prop)->Prop
 |[],_,H,Q=>Q [] H
 |(tk,tv)::r,σ,H,Q=>tk σ H λx H1=>tv σ H1 λy H2=>yW r σ H2 λps B=>Q ((x,y)::ps) B
noncomputable abbrev VV:List (V×V)->List (Value×Value)->Prop:=aef λp q=>RelV p.1 q.1/\RelV p.2 q.2
def PPs(X:Cx)(pos:Pos)(J:List (Option Expr))(F:List Expr)(q:List (TE×TE)):Prop:=
 ∀(pins:List (Addr×Obj))(s:Pr)(σ:St)(H:Hp)(Q:List (V×V)->Hp->Prop),Inv X pins σ H s->yW q σ H Q->
  wpAny 1.12 X.A (evalPairs (pairTrees J F X.env pos)) (λvs s'=>∃ps H',Inv X pins σ H' s'/\VV ps vs/\Q ps H') X.xe s
theorem Q9:PPs X pos [] [] []:=λpins s σ H Q I h=>pairTrees_nil_walk ⟨[],H,I,.nil,h⟩
theorem Kg{k v:Expr}{ks:List (Option Expr)}{vs:List Expr}{tk:TE}{q:List (TE×TE)}(hk:PE X k tk)(Z:PE X v tv)(O:PPs X pos ks vs q) :
  PPs X pos (some k::ks) (v::vs) ((tk,tv)::q):=λpins s σ H Q I h=>
 pairTrees_cons_walk (thn (hk pins s σ H _ I h) λu F ⟨x,H1,z,rx,q1⟩=>thn (Z pins F σ H1 _ z q1) λw2 Y ⟨y,H2,D,U,q2⟩=>
  thn (O pins Y σ H2 _ D q2) λJ s3 ⟨ps,B,V,rel,q3⟩=>⟨(x,y)::ps,B,V,.cons ⟨rx,U⟩ rel,q3⟩)
def oK(kvs more:List (Key×V)):List (Key×V):=more.foldl (λacc F=>putK acc F.1 F.2) kvs
theorem KV.merge:∀{more:List (Key×V)}{rs:List (Key×Value)}{kvs:List (Key×V)}{vs:List (Key×Value)},KV more rs->KV kvs vs->KV (oK kvs more) (merged vs rs):=by
 intro more rs kvs vs r;unfold KV at r
 induction r generalizing kvs vs with
 |nil=>intro q;exact q
 |@cons p q ps D h t B=>
  intro z;have e:KV (putK kvs p.1 p.2) (aeV vs q.1 q.2):=by
   have:=z.put p.1 h.2;rw[←h.1];exact this
  exact B e
theorem pU:∀(more kvs:List (Key×V)),(oK kvs more).length<=kvs.length+more.length
 |[],kvs=>by show kvs.length<=kvs.length+0;omega
 |p::r,kvs=>by
  have h1:=pU r (putK kvs p.1 p.2);have h2:=gM kvs p.1 p.2;show(oK (putK kvs p.1 p.2) r).length<=_;rw[Z3];omega
theorem vX{P:aae}{w:World}:∀{kvs:List (Key×V)}{J:List (Value×Value)},VV (kvs.map λF=>(kV F.1,F.2)) J->∃rs,Carries (bG P w) J rs/\KV kvs rs
 |[],_,r=>by rw[aao]at r;cases r;exact⟨[],aaJ,.nil⟩
 |p::kvs,_,r=>by
  rw[ZF]at r;cases r with
  |@cons a b z bs h t=>
   obtain⟨rs,c,q⟩:=vX (P:=P) (w:=w) t;obtain⟨B,D⟩:=b;exact⟨(p.1,D)::rs,⟨m_ h.1,rfl,c⟩,.cons ⟨rfl,h.2⟩ q⟩
def SM(q:List (TE×TE)):TE:=λσ H Q=>∀p,H p=none->yW q σ (upd H p (.dK [])) λps H2=>H2 p=some (.dK [])/\∃kvs:List (Key×V),ps=kvs.map (λF=>(kV F.1,F.2))/\kvs.length<=15/\Q (.ref p) (upd H2 p (.dK (oK [] kvs)))
theorem Ry{F:List Expr}{a0:List (TE×TE)}(h:PPs X pos J F a0)(U:J.all (·.isSome)=true)(O:J.length=F.length)(Y:J≠[])
  (a1:J.length<=15):PE X (.Dict J F pos) (SM a0):=by
 intro pins s σ H Q I q;have hn:=I.hok.fresh (ZQ s.heap.objs.size);have I1:=I.laid (a:=s.heap.objs.size) (o:=.dK []) (h':=s.heap.push {cls:=.type "dict",data:=.dict #[]}) (t':=s.toks) (λ_ _ q=>Zz _ q) (ZQ _) (vh s.heap I.big);refine wpAny_Dict_walk (knd:=bG X.prog X.w) U O Y a1 (thn (h pins _ σ _ _ I1 (q _ hn)) λws s2 ⟨ps,H2,D,rel,e,kvs,ep,lk,q2⟩=>?_);subst ep;obtain⟨rs,c,rk⟩:=vX (P:=X.prog) (w:=X.w) rel;obtain⟨z,hd,a2,r0,dd⟩:=uX D.hok e;cases r0;refine⟨rs,c,dd,λh' Z B=>⟨.ref s.heap.objs.size,_,?_,rfl,q2⟩⟩;have hz:(oK [] kvs).length<=ZM:=by
  have h1:=pU kvs [];rw[aaq]at h1;rw[acS];omega
 have V:∃q,h'.get? s.heap.objs.size=some q:=let⟨q,_,_,hq,_⟩:=Z;⟨q,hq⟩;exact mY D (by rw[e];exact aaJ) B V (tL hz hd (rk.merge .nil) Z)
end L2
namespace Att
open PySem PySem.W PySem.Calls PyProof.Rows
variable{P:Params}
theorem uD:∀(ns:List Int)(vs:List Value),WellAll P h vs (ns.map WData.int)->afS vs ns:=by
 intro ns
 induction ns with
 |nil=>
  intro vs w;rw[aao]at w;cases w;exact .nil
 |cons n ns B=>
  intro vs w;rw[ZF]at w;cases w with
  |cons a b=>
   cases a;exact .cons _ _ (B _ b)
variable{l:OpenLaw}
theorem JK(hn:l.most=some n){args:List WData}{I:List Value}
  (Y:l.row.toRowW.claim.pre args=true) (F:WellAll P h I args) :
  ∃a vs ns,I=[aac a]/\args=[WData.list (ns.map WData.int)]/\h.get? a=some {cls:=.type "list",data:=.seq vs.toArray}/\afS vs ns/\ns.length<=n:=by
 have a0:WShape.hasAll [] args [.list .int]=true:=(pre_splitW Y).1;have Z:l.pre.holds [] {args:=args}=true:=(pre_splitW Y).2;obtain⟨d,r,rfl,h1,h2⟩:=hasAllW_cons a0;obtain rfl:=hasAllW_nil h2;obtain⟨xs,rfl,h3⟩:=hasW_list h1;obtain⟨ns,rfl⟩:=items_int h3;have z:ns.length<=n:=by
  unfold OpenLaw.pre at Z;have V:(WTm.not (.lt (.lit (.int (n:Int))) (.len (.arg 0)))).holds [] {args:=[.list (ns.map .int)]}=true:=by
   have V:=(holds_andW Z).1;rw[hn]at V;exact V
  have J:=condW_of V (w_not (w_lt w_lit (w_len_list (w_arg rfl))));rw[ZL]at J;refine Nat.le_of_not_lt λq=>?_;have q':(n:Int)<((ns.length:Nat):Int):=by omega
  first
   |(rw[aaE q']at J;exact absurd J (by decide))
   |(simp at J;omega)
 cases F with
 |cons D O=>
  cases O;cases D with
  |list B U=>exact⟨_,_,ns,rfl,rfl,B,uD ns _ U,z⟩
theorem Jw(l:OpenLaw)(args:List WData):l.row.toRowW.claim.post args (.bool true) args=true:=
 postW_of (r:=l.row.toRowW) (X:=(true==true))
  (show WShape.has [] (.bool true) .bool=true by first|rfl|decide|simp[WShape.has,WShape.arms,WShape.armsAll])
  (show(WTm.eq .res (.lit (.bool true))).value [] {args:=args,res:=some (.bool true),after:=args}=some (.bool (true==true))from w_eq_bool (w_res rfl) w_lit) rfl
theorem attach_call{q:aae}
  (hn:l.most=some n) (a3:d.params.defaults=[])
  (call:∀(w:World)(s₀ D:Pr)(mg mb:Str->Option Value)(fa:Addr)(o:Obj)(pm cd doc:Value)(a:Addr)(vs:List Value)(ns:List Int),
   Ground q I [] XP w s₀ mg mb D.heap->YP w D.heap->
   D.heap.get? fa=some o->o.data= .func (docDef d.name d.params d.body d.scope pm cd doc)->D.heap.CodeRec cd d.name->mg d.name=some (.ref fa)->
   D.heap.get? a=some {cls:=.type "list",data:=.seq vs.toArray}->afS vs ns->ns.length<=n->D.gens= #[]->
   abX (model l.prog w) aee (.call (.ref fa) ⟨[.ref a],[]⟩) (λr s'=>r= .ok (.ret (.bool true))/\OldK D.heap s'.heap/\s'.os=D.os/\adz s'.gens) D) :
  WalkO q I XP YP l.row.toRowW d [] (λf vs=>agi f vs):=by
 intro w s₀ D mg mb G Y fa o pm cd doc dV kV B hd a5 U a2 hg args a6 as a0 a7 O a4 a8;obtain rfl:dV= .none:=Dflts.none U a3;obtain rfl:kV= .none:=Dflts.noKw U;obtain⟨a,vs,ns,rfl,rfl,a1,F,z⟩:=JK hn a0 a4;refine enter_call (acy (call w s₀ D mg mb fa o pm cd doc a vs ns G Y B (fd_plain hd) a5 a2 a1 F z hg) λr s' hq=>?_);obtain⟨rfl,h2,Z,V⟩:=hq;exact⟨.inl ⟨.bool true,.bool true,[],rfl,λ_=>rfl,.bool true,Jw l _,λ_=>⟨List.Pairwise.nil,λ_ J=>(nomatch J)⟩⟩,h2,Z,V⟩
end Att
namespace L2
open PySem PySem.Spec PyProof.Rows
theorem xY:∀{vs:List Value}{ns:List Int},afS vs ns->Vals (ns.map V.int) vs
 |_,_,.nil=>.nil
 |_,_,.cons n t h=>.cons ⟨t,rfl⟩ (xY h)
def Only(H:Hp):Prop:=∀b,H b=none∨∃o xs,H b=some (.frz o (.lst xs))
theorem KQ{K:ZC}{mb:Str->Option Value}{CX:CXT}{k:Nat}{fa:Addr}{sp:Sp}{D:Pr}{vs:List Value}{ns:List Int}
  (KX:K.In D.heap) (J:D.heap.Ns aaI mg) (U:D.heap.Ns builtinsNs mb) (b0:∀x:Str,x≠"__name__"->mb x=abm x) (a7:D.heap.NoLimit) (hg:D.gens= #[])
  (Y:D.heap.get? a=some {cls:=.type "list",data:=.seq vs.toArray}) (hi:afS vs ns) (hl:ns.length<=ZM) (O:gq k aee)
  (F:∀base:Heap,K.In base->base.Ns aaI mg->cR P w K mg base CX k fa fd [x] sp) (a3:∀(s:Pr)(u:Value),aeS s fd ⟨[u],[]⟩ [(x,u)])
  (a8:∀H:Hp,Only H->SqL K H a (ns.map V.int)->sp [.ref a] H (λv _=>v= .bl true) λ_ _ _=>False)
  (b1:∀H e s',CX [] H D (λ_ _ _=>False) e s'->False) :
  abX (model P w) aee (.call (.ref fa) ⟨[.ref a],[]⟩) (λr s'=>r= .ok (.ret (.bool true))/\OldK D.heap s'.heap/\s'.os=D.os/\adz s'.gens) D:=by
 have rv:=xY hi;have a6:=hi.length;have a2:∀H:Hp,Only H->SqL K H a (ns.map V.int)->HOk P w H D.heap->(∀b,H b≠none->b=a)->(H a≠none->K.lookup a=none)->
   abX (model P w) aee (.call (.ref fa) ⟨[.ref a],[]⟩) (λr s'=>r= .ok (.ret (.bool true))/\OldK D.heap s'.heap/\s'.os=D.os/\adz s'.gens) D:=by
  intro H hO hS hok hA hK;have a0:∀{b:Addr}{o:Obj},D.heap.get? b=some o->H b=none->(zb D.heap H).get? b=some o:=λe n=>J2 e n;have a9:∀{b:Addr}{o:Obj}{es:Array DictEntry}{ep:Nat},D.heap.get? b=some o->o.data= .dict es ep->H b=none:=λ{b o es ep} e d=>by
   cases q:H b with
   |none=>rfl
   |some u=>
    have e':b=a:=hA b (by rw[q];simp);subst e';rw[Y]at e;cases e;have d':Data.seq vs.toArray _=Data.dict es ep:=d;cases d'
  have a1:∀{b:Addr}{m:Str->Option Value},D.heap.Ns b m->(zb D.heap H).Ns b m:=λ{b m}⟨o,es,ep,e,d,r⟩=>⟨o,es,ep,a0 e (a9 e d),d,r⟩;have a5:K.In (zb D.heap H):=λb o e=>a0 (KX b o e) (by
   cases q:H b with
   |none=>rfl
   |some u=>
    have e':b=a:=hA b (by rw[q];simp);subst e';rw[hK (by rw[q];simp)]at e;cases e)
  have hM:Mod K mg (zb D.heap H):=⟨a5,a1 J,⟨mb,a1 U,b0⟩,let⟨mc,h1,h2⟩:=a7;⟨mc,a1 h1,h2⟩⟩;have Z:Ef P w K mg (zb D.heap H) aee [] D H:=⟨rfl,hM,λb o e=>Rn e,Nat.le_of_eq (HX _ _),trivial,λb U=>absurd (show b∈([]:List Addr)from U) (by simp),hok,.of_eq hg⟩;refine acy ((F _ a5 (a1 J)).run aee [] D H ⟨[.ref a],[]⟩ [.ref a] [.ref a] _ _ O Z (a3 D (.ref a)) (.cons rfl .nil) (a8 H hO hS)) λr s' h=>?_;cases r with
  |error e=>exact(b1 H e s' h).elim
  |ok fl=>
   cases fl with
   |next=>exact abq h
   |brk=>exact abq h
   |cont=>exact abq h
   |ret u=>
    obtain⟨v,H',os,bare,un,a4,r',q⟩:=h;have B:v= .bl true:=q;subst B;obtain rfl:u=aea true:=r';refine⟨rfl,OldK.of_keep λb o e=>?_,os,bare⟩;cases q:H b with
    |none=>exact un.keep b o e q (by intro z;exact absurd (show b∈([]:List Addr)from z) (by simp)) (by simp)
    |some u=>
     rcases hO b with z|⟨ob,xs,z⟩
     .rw[q]at z;cases z
     .have z2:=un.frzs b ob _ z
      obtain⟨e1,_⟩:=hok b _ z;obtain⟨e2,_⟩:=a4 b _ z2;rw[e]at e1;cases e1;exact e2
 cases I:K.lookup a with
 |some o=>
  have e:=KX a o I;rw[Y]at e;cases e;refine a2 (λ_=>none) (λ_=>.inl rfl) (.inr ⟨_,vs.toArray,_,I,rfl,rfl,rfl,by rw[List.size_toArray,a6];exact hl,by simpa using rv⟩) (λb u z=>by have z':(none:Option HO)=some u:=z;cases z') (λb z=>absurd rfl z) λz=>absurd rfl z
 |none=>
  refine a2 (λb=>if b=a then some (.frz {cls:=.type "list",data:=.seq vs.toArray} (.lst (ns.map V.int)))else none) (λb=>?_) (.inl (.inr ⟨{cls:=.type "list",data:=.seq vs.toArray},ZV rfl⟩)) (λb u z=>?_) (λb z=>?_) λ_=>I
  .by_cases U:b=a
   .exact .inr ⟨_,_,ZV U⟩
   .exact .inl (Z1 U)
  .by_cases U:b=a
   .have z':=(ZV U).symm.trans z
    cases z';subst U;exact⟨Y,by rw[ZL];exact hl,vs,_,rv,Y⟩
   .have z':=(Z1 U).symm.trans z
    cases z'
  .by_cases U:b=a
   .exact U
   .exact absurd (Z1 U) z
theorem walk_of{l:aeD}{k:Nat}{q:aae}{K:Params->ZC}{CX:World->CXT}{sp:World->Sp}
  (hn:l.most=some n) (a4:n<=ZM) (a3:d.params.defaults=[]) (O:gq k aee)
  (hY:∀(w:World)(h:Heap),YP w h->(K w.params).In h)
  (F:∀(w:World)(mg:Str->Option Value)(fa:Addr)(h:Heap),(K w.params).In h->h.Ns aaI mg->mg d.name=some (.ref fa)->
   ∃fd:aai,(∀(s:Pr)(u:Value),aeS s fd ⟨[u],[]⟩ [(x,u)])/\
    ∀base:Heap,(K w.params).In base->base.Ns aaI mg->cR l.prog w (K w.params) mg base (CX w) k fa fd [x] (sp w))
  (Z:∀(w:World)(H:Hp)(a:Addr)(ns:List Int),ns.length<=n->Only H->SqL (K w.params) H a (ns.map V.int)->sp w [.ref a] H (λv _=>v= .bl true) λ_ _ _=>False)
  (a5:∀(w:World)(H:Hp)(s:Pr)(e:Value)(s':Pr),CX w [] H s (λ_ _ _=>False) e s'->False) :
  agu q I XP YP l.row.toRowW d [] (λf vs=>agi f vs):=by
 refine Att.attach_call hn a3 λw s₀ D mg mb fa o pm cd doc a vs ns G Y B hd a6 a2 a1 a0 z hg=>?_;have KX:=hY w _ Y;obtain⟨fd,U,J⟩:=F w mg fa _ KX G.T.g a2;exact KQ KX G.T.g G.T.b G.T.builtins G.T.nolimit hg a1 a0 (aa5 z a4) O J U (λH hO hS=>Z w H a ns z hO hS) λH e s'=>a5 w H D e s'
def inClass(s:Stmt)(j:Nat):Stmt:=match s with
 |.ClassDef _ _ _ body _ _ _ _ _ _ _=>body.getD j (.Pass ⟨0,0,0,0⟩)
 |_=>.Pass ⟨0,0,0,0⟩
def jH(s:Stmt):Arguments:=match s with
 |.FunctionDef _ a _ _ _ _ _ _ _ _=>a
 |_=>{posonlyargs:=[],args:=[],vararg:=none,kwonlyargs:=[],kw_defaults:=[],kwarg:=none,defaults:=[]}
def gJ(s:Stmt):List Stmt:=match s with
 |.FunctionDef _ _ b _ _ _ _ _ _ _=>b
 |_=>[]
def aK(s:Stmt):Scope:=match s with
 |.FunctionDef _ _ _ _ _ _ z _ _ _=>z
 |_=>{kind:=.function,names:=[],isGenerator:=false,isCoroutine:=false}
abbrev CX0:CXT:=λ_ _ _ _ _ _=>False
abbrev E0:XK:=λ_ _ _=>False
variable{X:Cx}
theorem GP:wJ CX0 X E0:=λ_ _ _ _ _ _ _ h=>h.elim
structure Fun(K:PySem.W.Frag)(x qual:Str)(st:Stmt)(f:Addr)(fd:FuncData):Prop where
 ex:∃(oc:Value)(od:Option Addr)(kV doc pm:Value)(an:Option Addr)(cdv ct:Value)(osl:Array (Option Value)),
  fd=ac1 x qual (jH st) (gJ st) (aK st) .none kV doc pm an cdv ct/\K.lookup f=some ⟨oc,od,.func fd,osl⟩/\aeT K cdv qual=true
 kp:acx K (.ref f)=true
section
variable{P:Program}{w:World}{K:PySem.W.Frag}{mg:Str->Option Value}{base:Heap}
theorem Fun.ok{x qual:Str}{st:Stmt}{f:Addr}{fd:aai}{N ps:List Str}{k:Nat}{sp:Sp}(F:Fun K x qual st f fd)(S:bx N ps (aK st))(len:∀vs H Q E,sp vs H Q E->vs.length=ps.length)
  (B:∀(cdv:Value)(A:aaC)(outer:List Env)(s:Pr)(H:Hp)(vs:List V)(Q:VK)(E:XK),gq k (A.deeper (acN qual (aK st) s.heap.objs.size f cdv))->sp vs H Q E->
   ∃t,PSs (xJ CX0 P w K mg base N qual (aK st) f cdv A outer s H E).nox (gJ st) t/\t {nx:=λ_ H'=>Q .non H',rt:=Q} (start N vs) H):cR P w K mg base CX0 (k+1) f fd ps sp:=by
 obtain⟨oc,od,kV,doc,pm,an,cdv,ct,osl,rfl,lk,z⟩:=F.ex;refine XH lk z S len λA outer s H vs Q E O Z=>?_;obtain⟨t,h,q⟩:=B cdv A outer s H vs Q E O Z;exact⟨t,h.nox,q⟩
theorem Fun.binds{x qual:Str}{st:Stmt}{f:Addr}{fd:aai}{ps:List Str}(F:Fun K x qual st f fd)
  (h:∀(kV doc pm:Value)(an:Option Addr)(cdv ct:Value)(us:List Value),us.length=ps.length->afa (ac1 x qual (jH st) (gJ st) (aK st) .none kV doc pm an cdv ct) ⟨us,[]⟩=pure (ps.zip us)):Binds K fd ps []:=by
 obtain⟨oc,od,kV,doc,pm,an,cdv,ct,osl,rfl,lk,z⟩:=F.ex;exact .all (h kV doc pm an cdv ct)
theorem OJ{x qual:Str}{st:Stmt}{f:Addr}{oc:Value}{od an:Option Addr}{osl:Array (Option Value)}{kV doc pm cdv ct:Value}(l:K.lookup f=some ⟨oc,od,.func (ac1 x qual (jH st) (gJ st) (aK st) .none kV doc pm an cdv ct),osl⟩)
 (c:aeT K cdv qual=true) (k:acx K (.ref f)=true):Fun K x qual st f (ac1 x qual (jH st) (gJ st) (aK st) .none kV doc pm an cdv ct):=⟨⟨oc,od,kV,doc,pm,an,cdv,ct,osl,rfl,l,c⟩,k⟩
end
theorem pv(i:Nat)(U:X.N[i]? =some x:=by rfl)(Z:Vis X.env.scope x:=by first|exact abf rfl|exact aaQ (abf rfl)|exact aaQ (aaQ rfl))(hd:(x==("__debug__":Str))=false:=by decide)
 (z:(x==("__classdict__":Str))=false:=by decide):PE X (.Name x pos) (Di i):=Nf U Z hd z
theorem u_{A B:Prop}(h:B):if false=true then A else B:=by
 rw[Z1 aat];exact h
theorem sI{A B:Prop}(h:A):if true=true then A else B:=by
 rw[ZV rfl];exact h
def Same(H H':Hp):Prop:=∀b o,H b=some o->H' b=some o
theorem Same.refl(H:Hp):Same H H:=λ_ _ h=>h
theorem Same.trans{H H1 H2:Hp}(a:Same H H1)(b:Same H1 H2):Same H H2:=λc o h=>b c o (a c o h)
theorem Same.free{H H':Hp}(e:Same H H'){l:Addr}(h:H' l=Option.none):H l=Option.none:=by
 cases q:H l with
 |none=>rfl
 |some o=>
  rw[e l o q]at h;cases h
theorem JC:fZ X (.builtin "len") (λxs H Q=>∃a kvs,xs=[V.ref a]/\H a=some (.dK kvs)/\Q (.int kvs.length) H):=by
 intro pins s σ H xs us Q I r h;obtain⟨a,kvs,rfl,Y,q⟩:=h;obtain⟨u,rfl,B⟩:=vals1 r;cases B;exact YM I (.inl Y) λt s' J=>⟨.int kvs.length,H,J,⟨t,rfl⟩,q⟩
end L2
set_option maxHeartbeats 4000000
namespace Jb
open PySem PySem.Spec PyProof.Rows L2
structure Cal(P:Program)(w:World)(K:PySem.W.Frag)(mg:Str->Option Value)(base:Heap)(k:Nat)(x:Str)(ps:List Str)(sp:Sp):Prop where
 ex:∃f fd,cR P w K mg base CX0 k f fd ps sp/\mg x=some (.ref f)/\acx K (.ref f)=true/\Binds K fd ps []
variable{X:Cx}{t:TA}{p:Pos}{k:Nat}
theorem Ms{sp:Sp}(C:Cal X.prog X.w X.K X.mg X.base k x ps sp)(O:gq k X.A)(q:Gl X x)(Y:PA X (e::es) t)
  (z:(x==("__debug__":Str))=false:=by decide) (V:ZK (e::es) X.env=(false,eval e X.env)::ZK es X.env:=by rfl) (B:(aaH pos (ZK es X.env)).any (·.1)=false:=by rfl) :
  PE X (.Call (.Name x p) (e::es) [] pos) (Uc sp [] E0 t):=by
 obtain⟨f,fd,F,J,I,U⟩:=C.ex;exact QX F O q J I U .nil GP Y z V B
theorem YD{n:String}(q:Gl X x)(J:X.mg x=none)(Z:abm x=some (.type n))(hn:x≠"__name__":=by decide)(hd:(x==("__debug__":Str))=false:=by decide):PE X (.Name x pos) (tC (.ty n)):=
 QM q J Z rfl hn hd
def W9(_ j:Int):Prop:=0<j/\j<18446744073709551616
theorem L_:OpR X (aa3 .FloorDiv) (rI W9 λi j=>.int (i / j)):=opI λi j _ _ _ _ _ Z q=>by
 have h1:(0:Int)<j:=Z.1;have h2:j<18446744073709551616:=Z.2;have z:j.natAbs<2 ^ 64:=by omega
 have V:j.natAbs≠0:=by omega
 have J:j.natAbs.log2<64:=(Nat.log2_lt V).mpr z;exact floordiv_int 1.11 (by rw[Int.fdiv_eq_ediv_of_nonneg i 1.11];exact q) (.inl (PyProof.noPylong_of_log2 1.11))
variable{b:Expr}
theorem Ay:fZ X (.builtin "isinstance") (λxs H Q=>∃x n t b,xs=[x,.ty n]/\nu X.K H x t/\adL X.K t (.type n)=some b/\Q (.bl b) H):=by
 intro pins s σ H xs us Q I r h;obtain⟨x,n,t,b,rfl,ty,e,q⟩:=h;obtain⟨u,V,rfl,Z,J⟩:=vals2 r;cases J;exact Il I Z ty e λtk=>⟨.bl b,H,I.tok tk,rfl,q⟩
variable{H:Hp}
theorem Same.new{q:Addr}{o:HO}(h:H q=none):Same H (L2.upd H q o):=λb u e=>by rw[aQ (aV e h)];exact e
theorem FJ{l:List α}{f:α->β->Sem (ForInStep β)}(g:β->α->β):∀(q:β),(∀x∈l,∀c,f x c=pure (.yield (g c x)))->forIn l q f=pure (l.foldl g q):=by
 induction l with
 |nil=>intro q _;rfl
 |cons x r B=>
  intro q h;rw[List.forIn_cons,h x aav q];show(pure (abZ (g q x)) >>=_)=_;rw[pure_bind];exact B (g q x) λy V c=>h y (aaf _ V) c
def pW(env:Env)(q:List (Str×Addr))(y:Str×adw):List (Str×Addr):=if y.2== .free then(y.1,(env.cells.lookup y.1).getD 0)::q else q
def qy(scope:Scope)(env:Env):List (Str×Addr):=scope.names.foldl (pW env) []
theorem lD(h:∀y∈scope.names,y.2= .free->∃c,env.cells.lookup y.1=some c):closureFor scope env=pure (qy scope env):=by
 unfold closureFor;dsimp only;rw[FJ (pW env) [] λy V c=>?_]
 .rw[pure_bind]
  rfl
 .obtain⟨n,k⟩:=y
  unfold pW;dsimp only;by_cases I:(k==afp)=true
  .rw[ZV I,ZV I]
   obtain⟨a,Y⟩:=h (n,k) V (by simpa using I);have Y:env.cells.lookup n=some a:=Y;unfold cellOf;rw[Y];rfl
  .rw[Z1 I,Z1 I]
theorem yt(R:Str->Addr->Prop):∀(l:List (Str×adw))(acc:List (Str×Addr)),(∀x c,acc.lookup x=some c->R x c)->(∀y∈l,y.2= .free->R y.1 ((env.cells.lookup y.1).getD 0))->
  ∀x c,(l.foldl (pW env) acc).lookup x=some c->R x c
 |[],acc,h,_=>h
 |y::r,acc,h,hy=>by
  refine yt R r (pW env acc y) (λx c e=>?_) λz hz=>hy z (aaf _ hz);unfold pW at e;split at e
  .rename_i hk
   rw[aek]at e;cases J:(x==y.1)with
   |true=>
    rw[J]at e;have ex:x=y.1:=by simpa using J
    cases e;rw[ex];exact hy y aav (by simpa using hk)
   |false=>
    rw[J]at e;exact h x c e
  .exact h x c e
theorem sJ{env:Env}:∀(l:List (Str×adw))(acc:List (Str×Addr))(x:Str),((∃c,acc.lookup x=some c)∨(x,afp)∈l)->∃c,(l.foldl (pW env) acc).lookup x=some c
 |[],acc,x,h=>by
  rcases h with h|h
  .exact h
  .cases h
 |y::r,acc,x,h=>by
  refine sJ r (pW env acc y) x ?_;rcases h with⟨c,h⟩|h
  .left
   unfold pW;split
   .rw[aek]
    cases J:(x==y.1)with
    |true=>exact⟨_,rfl⟩
    |false=>exact⟨c,h⟩
   .exact⟨c,h⟩
  .rcases ZR.mp h with e|e
   .left
    unfold pW;subst e;rw[ZV (by rfl),aek,show(x==x)=true by simp];exact⟨_,rfl⟩
   .exact .inr e
def bO(X:Cx)(N':List Str)(scope:Scope)(C:Addr)(B:Pr)(q:Hp)(fp:List Addr):Cx:=
 {X with N:=N',s₀:=B,H₀:=q,env:=compEnvC scope (qy scope X.env) C X.env,outer:=X.stack,stack:=X.stack,ex:=fp,fn:=λ_=>false,pn:=[],xe:=λ_ _=>False}
def gH(cap:List 1.34)(σ:L2.St):L2.St:=cap.map λo=>o.bind λj=>(σ[j]?).bind id
structure eG(sc:Scope)(N N':List Str)(scope:Scope)(cap:List (Option Nat)):Prop where
 kind:scope.kind= .function
 nocell:∀y∈scope.names,y.2≠.cell
 nm:∀y∈scope.names,y.2= .local->scope.names.lookup y.1=some .local
 free:∀y∈scope.names,y.2= .free->sc.names.lookup y.1=some .cell∨sc.names.lookup y.1=some .free
 len:cap.length=N'.length
 cap:∀i∈aaz cap.length,∀j∈aaz N.length,cap[i]? =some (some j)->N[j]? =N'[i]?/\∀x∈N'[i]?,scope.names.lookup x=some .free
theorem nJ{l:List (Str×α)}{k:α}(h:l.lookup x=some k):(x,k)∈l:=abI h
theorem rB{k:adw}(I:(relabel scope env).names.lookup x=some k)(B:k= .cell∨k= .free)(D:∀y∈scope.names,y.2≠.cell):(x,afp)∈scope.names:=by
 have h:=nJ I;obtain⟨⟨n,q⟩,J,e⟩:=ZG.mp h;dsimp only at e;split at e
 .rename_i hc
  cases e;have:q= .free:=by
   have:=(afe.mp (afe.mp hc).1).1;simpa using this
  subst this;exact J
 .cases e
  rcases B with z|z
  .subst z;exact absurd rfl (D _ J)
  .subst z;exact J
variable{σ:L2.St}{cap:List (Option Nat)}
theorem jl(I:Inv X pins σ H s)(O:eG X.env.scope X.N N' scope cap){c:Addr}(h:(qy scope X.env).lookup x=some c):X.env.cells.lookup x=some c:=by
 refine yt (λx c=>X.env.cells.lookup x=some c) scope.names [] (λx c e=>by simp at e) (λy V q=>?_) x c h;obtain⟨c,e⟩:=I.ok.has y.1 (O.free y V q);rw[e];rfl
theorem RG(I:Inv X pins σ H s)(O:eG X.env.scope X.N N' scope cap)(D:∀b∈fp,lB X pins H b)(Z:∀b∈fp,b<s.heap.objs.size)(F:s.heap.objs.size<=C):(bO X N' scope C s H fp).Ok where
 mod:=I.ok.mod
 kind:=O.kind
 glob:=I.ok.glob
 blt:=I.ok.blt
 above:=F
 inj:=λx y c h1 h2=>I.ok.inj x y c (jl I O h1) (jl I O h2)
 has:=λx h=>by
  refine sJ scope.names [] x (.inr ?_);rcases h with h|h
  .exact rB h (.inl rfl) O.nocell
  .exact rB h (.inr rfl) O.nocell
 cab:=λx c h _=>by cases h
 hd:=I.ok.hd
 frames:=I.ok.frames
 stk:=.inl rfl
 exf:=λb U=>⟨Z5 (Z4 (Z b U) F),λx c e=>(D b U).2.2.2.2.1 x c (jl I O e)⟩
 bs:=I.bs
 bsz:=aa5 I.ok.bsz I.sz
 noex:=λb o e U=>by
  rcases(D b U).2.2.2.1 with z|z
  .exact I.ok.noex b o e z
  .exact absurd (Z4 (ZP (I.ok.bs b o e).1) z) (aaV _)
 exfs:=λb U z=>by
  rcases ZR.mp (I.stkSub b z)with q|q
  .exact(D b U).2.1 q
  .exact(D b U).2.2.1 q
 funs:=I.stack
 frf:=I.stkFree
theorem Bq{V:Heap}{D:Addr}(I:Inv X pins σ H s)(O:eG X.env.scope X.N N' scope cap)(hf:∀b∈fp,lB X pins H b)(b2:∀b∈fp,b<s.heap.objs.size)
  (hC:s.heap.objs.size<=C) (hD:s.heap.objs.size<=D) (a9:D≠C) (a0:∀b u,s.heap.get? b=some u->V.get? b=some u) {m:Str->Option Value} (b1:V.Ns C m) (b3:V.get? D=some o) (a8:∀v,o.data≠.cell v) :
  Inv (bO X N' scope C s H fp) [(D,o)] (gH cap σ) H {s with heap:=V,toks:=tk}where
 ok:=RG I O hf b2 hC
 os:=rfl
 bare:=I.bare
 base:=Un.kept a0
 loc:=by
  refine⟨m,b1,λi x v e1 e2 B=>?_⟩;have e1:N'[i]? =some x:=e1;unfold gH at e2;rw[List.getElem?_map]at e2;cases Z:cap[i]? with
  |none=>rw[Z]at e2;cases e2
  |some q=>
   rw[Z]at e2;cases q with
   |none=>cases e2
   |some j=>
    have e2:(σ[j]?).bind id=some v:=aaD e2;have a3:σ[j]? =some (some v):=by
     cases z:σ[j]? with
     |none=>rw[z]at e2;cases e2
     |some y=>
      rw[z]at e2;have:y=some v:=e2;rw[this]
    have hi:i<cap.length:=(List.getElem?_eq_some_iff.mp Z).1;have hj:j<X.N.length:=by
     have:=(List.getElem?_eq_some_iff.mp a3).1;rw[I.len]at this;exact this
    obtain⟨Y,c2⟩:=O.cap i (abt.mpr hi) j (abt.mpr hj) Z;have a4:scope.names.lookup x=some .free:=c2 x (by rw[e1];rfl);have hN:X.N[j]? =some x:=Y.trans e1;have a1:=nJ a4;have a5:Vis X.env.scope x:=(O.free _ a1 rfl).elim (λz=>.inr (.inl z)) λz=>.inr (.inr z);obtain⟨m0,_,hl⟩:=I.loc;obtain⟨u,r,lk⟩:=hl j x v hN a3 a5;refine⟨u,r,?_⟩;rcases lk with⟨k,_⟩|⟨_,c,ec,a2⟩
    .have k:X.env.scope.names.lookup x=some .local:=k
     rcases O.free _ a1 rfl with z|z
     .rw[k]at z;cases z
     .rw[k]at z;cases z
    .right
     obtain⟨c',a7⟩:=sJ (env:=X.env) scope.names [] x (.inr a1);have a6:=jl I O a7;rw[ec]at a6;cases a6;refine⟨?_,c,a7,?_⟩
     .have B:Vis (relabel scope X.env) x:=B
      rcases B with B|B|B
      .exfalso
       have J:=nJ B;obtain⟨⟨n,q⟩,b0,e⟩:=ZG.mp J;dsimp only at e;split at e
       .cases e
       .cases e
        have:=O.nm _ b0 rfl;rw[a4]at this;cases this
      .exact .inl B
      .exact .inr B
     .obtain⟨oc,h1,h2⟩:=a2
      exact⟨oc,a0 _ _ h1,h2⟩
 cell:=λx c e=>by
  obtain⟨v,oc,h1,h2⟩:=I.cell x c (jl I O e);exact⟨v,oc,a0 _ _ h1,h2⟩
 free:=I.hok.fresh hC
 freeC:=λx c e=>I.freeC x c (jl I O e)
 pin:=λp F=>by
  have e:p=(D,o):=by simpa[bO]using F
  subst e;refine⟨b3,I.hok.fresh hD,a9,λz=>?_,a8⟩;obtain⟨b,U,e⟩:=adR.mp z;have hz:D∈X.env.locals::X.fs:=I.stkSub D z;rcases ZR.mp hz with q|q
  .exact absurd (Z4 (by rw[q];exact I.lt) hD) (aaV _)
  .exact I.nofs hD q
 hok:=I.hok.kept a0
 len:=by
  unfold gH;rw[ZL];exact O.len
abbrev NoX:Value->Pr->Prop:=λ_ _=>False
variable{R:Result->Shared->Prop}
theorem zj{iter:Expr}{it acc:Value}(I:Nat->Pr->Prop)
  (z:∀n s,I n s->wpAny 1.13 A (pyNext it) (λr D=>match r with
   |none=>R (.ok .next) D
   |some v=>wpAny 1.13 A (acV target it v) (λ_ O=>wpAny 1.13 A (acX target env v) (λ_ B=>
    wpAny 1.13 A (forIn ifs true λc r=>if r=true then do let ok ←aeO c env (eval c env);pure (abZ ok)else pure (abZ r)) (λok q=>
     if ok=true then wpAny 1.13 A (eval elt env) (λx J=>wpAny 1.13 A (call (.builtin "list.append") [acc,x]) (λ_ Z=>∃m,m<n/\I m Z) NoX J) NoX q
     else ∃m,m<n/\I m q) NoX B) NoX O) NoX D) NoX s)
  (n:Nat) (h:I n s):abX 1.13 A (.compLoop (.ListComp elt [⟨target,iter,ifs,0⟩] scope pos) 0 it acc env) R s:=by
 refine codeAny_loop rfl I (λn s U=>?_) n h;show wpAny _ A ((compTurn (.ListComp elt [⟨target,iter,ifs,0⟩] scope pos) 0 it acc env).onRaise (λx=>do noteFrame x env;theTreesLotGoes x)) _ _ s;refine wpAny_noted ?_;rw[compTurn_list];refine gD (aci (gD (aaY (z n s U) (λr D V=>?_) λ_ _ h'=>h'.elim)));cases r with
 |none=>exact ZD V
 |some v=>
  refine gD (aaY V (λ_ O F=>?_) λ_ _ h'=>h'.elim);refine gD (aaY F (λ_ B a0=>gD (aaY a0 (λok q Y=>?_) λ_ _ h'=>h'.elim)) λ_ _ h'=>h'.elim);cases ok with
  |false=>exact ZD ⟨rfl,Y⟩
  |true=>
   exact gD (gD (aaY Y (λx J a2=>gD (aaY a2 (λ_ Z a1=>ZD (ZD ⟨rfl,a1⟩)) λ_ _ h'=>h'.elim)) λ_ _ h'=>h'.elim))
def PTs(X:Cx)(ifs:List Expr)(t:TT):Prop:=
 ∀(pins:List (Addr×Obj))(s:Pr)(σ:L2.St)(H:Hp)(Q:Bool->Hp->Prop),Inv X pins σ H s->t σ H Q->
  wpAny 1.12 X.A (forIn ifs true λc r=>if r=true then do let ok ←aeO c X.env (eval c X.env);pure (abZ ok)else pure (abZ r)) (TP X pins σ Q) X.xe s
def Xp:TT:=λ_ H Q=>Q true H
theorem Rf:PTs X [] Xp:=λ_ _ _ H _ I h=>wpAny_tests_nil ⟨H,I,h⟩
theorem Ru{t:TT}(h:PT X c t):PTs X [c] t:=λpins s σ H Q I q=>wpAny_tests_one (h pins s σ H Q I q)
def Kp(σ q:L2.St):Prop:=∀(i:Nat) v,σ[i]? =some (some v)->q[i]? =some (some v)
def TJ(J:It)(H:Hp)(g:TG)(tt:TT)(te:TE)(σ:L2.St)(Q:List V->Hp->Prop):Prop:=
 ∃W:Nat->Nat->List V->Hp->Prop,(∃m,W 0 m [] H)/\∀i m ys H,W i m ys H->
  (J.stop i H/\Q ys H)∨(J.go i H/\ys.length<ZM/\∃N:List V->Hp->Prop,(∀F H',N F H'->∃I,I<m/\W (i+1) I F H')/\
   ∀x H',J.yld i H x H'->g x σ H' λσ2 H2=>Kp σ σ2/\tt σ2 H2 λb B=>if b=true then te σ2 B λv O=>N (ys++[v]) O else N ys B)
def Nb(cap:List 1.34)(wi:TI)(g:TG)(tt:TT)(te:TE):TE:=λσ H Q=>wi σ H λJ H1=>
 TJ J H1 g tt te (gH cap σ) λys H2=>ys.length<=ZM/\∀D,H2 D=none->Q (.ref D) (upd H2 D (.lst ys))
section
variable{X:Cx}{elt target iter:Expr}{ifs:List Expr}{scope:Scope}{pos:Pos}{N':List Str}{cap:List (Option Nat)}{wi:TI}{g:TG}{tt:TT}{te:TE}
def lobj(its:List Value)(n:Nat):Obj:={cls:=.type "list",data:=.seq its.toArray n}
theorem Eu{pins:List (Addr×Obj)}{σ:L2.St}{H:Hp}{B:Pr}{it:Addr}{fp:List Addr}{tn:Nat->Heap->Prop}{J:It}{Q:List V->Hp->Prop}{RR:Value->Addr->aeR->Pr->Prop}{E:Value->Pr->Prop}
  (Z:X.calm=true) (O:eG X.env.scope X.N N' scope cap) (I:Inv X pins σ H B) (T:Turn X.prog X.w X.K target J fp it tn) (st:tn 0 B.heap) (f2:∀b∈fp,lB X pins H b)
  (hg:∀C,PG 1.23 target g) (ht:∀C,PTs 1.23 ifs tt) (he:∀C,PE 1.23 elt te) (cw:TJ J H g tt te (gH cap σ) Q)
  (c5:∀(D C:Addr)(s':Pr)(H':Hp)(ys:List V)(its:List Value)(n:Nat)(Y:L2.St),B.heap.objs.size<=D->B.heap.objs.size<=C->D≠C->Inv 1.23 [(D,lobj its n)] Y H' s'->Vals ys its->Q ys H'->
   RR (.ref D) C (.ok .next) s') :
  wpAny 1.12 X.A (aeW []) (λacc c1=>wpAny 1.12 X.A (newFunctionEnv scope X.env.globals (qy scope X.env) [] X.env.qual none .none (some X.env)) (λb1 c0=>
   abX 1.12 X.A (.compStart (.ListComp elt [⟨target,iter,ifs,0⟩] scope pos) 0 (.ref it) acc {b1 with scope:=relabel scope X.env}) (RR acc b1.locals) c0) E c1) E B:=by
 refine aaL (afg O.nocell (by intro y hy;simp at hy) (λa2 a1 a0=>?_) O.kind);dsimp only at a1 a0⊢;generalize b2:B.heap.push {cls:=.type "list",dict:=none,data:=.seq ([]:List Value).toArray}=H2 at a1 a0⊢;have hC:H2.objs.size=B.heap.objs.size+1:=by rw[←b2,aaX]
 have a6:B.heap.objs.size≠H2.objs.size:=by rw[hC];exact Z5 (abr _)
 have a5:B.heap.objs.size<=H2.objs.size:=by rw[hC];exact adP _
 have b6:∀b o,B.heap.get? b=some o->a2.get? b=some o:=λb o e=>a0.extBut b o (by rw[hC];exact Z5 (ab3 (ZP e))) (Zz _ (b2▸Zz _ e));have b5:a2.get? B.heap.objs.size=some (lobj [] 0):=a0.extBut _ _ a6 (Zz _ (b2▸Z6 _ rfl));have a9:∀b∈fp,b<B.heap.objs.size:=λb U=>by
  obtain⟨o,e,_⟩:=T.obj 0 _ st b U;exact ZP e
 have I1:=Bq (tk:=B.toks+([]:List (Str×Value)).length) I O f2 a9 a5 (ZQ _) a6 b6 a1 b5 (λv z=>by cases z);have b8:tn 0 a2:=T.keep _ _ _ st λb _ o e=>b6 b o e;obtain⟨W,⟨m0,w0⟩,b3⟩:=cw;generalize hD:B.heap.objs.size=D at *
 generalize c7:H2.objs.size=C at *
 have a8:∀{H':Hp}{o:Obj},(∀b∈fp,H' b=none)->∀b∈fp,lB 1.23 [(D,o)] H' b:=λ{H' o} hn b U=>by
  refine⟨hn b U,Z5 (Z4 (a9 b U) a5),I1.ok.exfs b U,.inl U,(I1.ok.exf b U).2,λp hp=>?_⟩;have e:p=(D,o):=by simpa[bO]using hp
  subst e;exact abC (a9 b U)
 have b0:abX 1.12 X.A (.compLoop (.ListComp elt [⟨target,iter,ifs,0⟩] scope pos) 0 (.ref it) (.ref D) (compEnvC scope (qy scope X.env) C X.env)) (RR (.ref D) C) {B with heap:=a2,toks:=B.toks+([]:List (Str×Value)).length}:=by
  refine zj (λn s'=>∃i ys its k H',Inv 1.23 [(D,lobj its k)] (gH cap σ) H' s'/\Vals ys its/\tn i s'.heap/\(∀b∈fp,H' b=none)/\W i n ys H') ?_ m0 ⟨0,[],[],0,H,I1,.nil,b8,λb U=>(f2 b U).1,w0⟩;rintro n s3 ⟨i,ys,its,k,H3,I3,rv,b7,b4,w3⟩;rcases b3 i n ys H3 w3 with⟨stop,qn⟩|⟨go,hsz,N,hN,step⟩
  .refine thn (T.done 1.23 rfl rfl rfl Z i _ s3 _ H3 NoX I3 (a8 b4) b7 stop) λr s4 ⟨hr,I4⟩=>?_
   subst hr;exact c5 D C s4 H3 ys its k _ (ZQ _) a5 a6 I4 rv qn
  .refine thn (T.item 1.23 rfl rfl rfl Z i _ s3 _ H3 NoX I3 (a8 b4) b7 go) λr s4 ⟨u,hr,h4⟩=>?_
   subst hr;refine thn h4 λ_ s5 ⟨x,H5,I5,r5,y5,a7,c4⟩=>?_;have c6:=I5.pinned (a8 c4) (T.obj _ _ a7);refine thn (hg C _ s5 _ H5 x u _ c6 r5 (step x H5 y5)) λ_ s6 ⟨a3,H6,I6,c2,q6⟩=>?_;refine thn (ht C _ s6 a3 H6 _ I6 q6) λok s7 ⟨H7,I7,q7⟩=>?_;have a4:∀{s':Pr}{H':Hp}{Y:L2.St},Inv 1.23 ([(D,lobj its k)]++lE fp s5.heap) Y H' s'->tn (i+1) s'.heap/\∀b∈fp,H' b=none:=λ{s' H' Y} Ix=>by
    refine⟨T.keep _ _ _ a7 λb U o e=>(Ix.pin (b,o) (W2 _ (W2 _ (d7 U e)))).1,λb U=>?_⟩;obtain⟨o,e,d⟩:=T.obj _ _ a7 b U;exact(Ix.pin (b,o) (W2 _ (W2 _ (d7 U e)))).2.1
   have b9:(gH cap σ).length=a3.length:=by rw[I6.len,I1.len]
   cases ok with
   |false=>
    have n7:N ys H7:=by simpa using q7
    obtain⟨m',hm,w7⟩:=hN _ _ n7;exact⟨m',hm,i+1,ys,its,k,H7,I7.unpinned.weak b9 c2,rv,(a4 I7).1,(a4 I7).2,w7⟩
   |true=>
    have q7:te a3 H7 λv H4=>N (ys++[v]) H4:=by simpa using q7
    refine thn (he C _ s7 a3 H7 _ I7 q7) λu8 s8 ⟨v,H8,I8,r8,n8⟩=>?_;obtain⟨eD,nD,_,c3,_⟩:=I8.pin (D,lobj its k) (W2 _ (ZJ _ aav));have lv:=rv.length;refine ac_ afM ⟨_,eD,rfl⟩ afv (afc _ _) (afX D its.toArray k u8 (by rw[List.size_toArray];omega)) ⟨eD,?_⟩;obtain⟨m',hm,w8⟩:=hN _ _ n8;obtain⟨k',eN⟩:∃k',(s8.heap.update D (acn (·.push u8))).get? D=some (lobj (its++[u8]) k'):=by
     have q:=af8 eD (·.push u8);dsimp only at q;rw[List.push_toArray]at q;exact⟨_,q⟩
    have I9:Inv 1.23 (lE fp s5.heap) a3 H8 {s8 with heap:=s8.heap.update D (acn (·.push u8))}:=by
     refine Inv.turned (it:=D) (t':=s8.toks) (I8.pins_of λp hp=>I8.pin p (W2 _ (W2 _ hp))) (λb o U e=>(abn s8.heap (acn _) (aay U)).trans e) nD a6 (.inr (by rw[←hD];exact ZQ _)) (λx c e z=>?_) (λp hp z=>?_)
     .obtain⟨vc,oc,h1,_⟩:=I.cell x c (jl I O e)
      have hh:=ZP h1;rw[z,hD]at hh;exact aaV _ hh
     .have hp:p∈lE fp s5.heap:=hp
      have hh:=a9 p.1 (tG hp).1;rw[z]at hh;exact aaV _ hh
    refine⟨m',hm,i+1,ys++[v],its++[u8],k',H8,(I9.weak b9 c2).pins_of (λp hp=>?_),rv.append (.cons r8 .nil),?_,λb U=>?_,w8⟩
    .have e:p=(D,lobj (its++[u8]) k'):=Z7.mp hp
     rw[e];exact⟨eN,nD,a6,c3,λv z=>by cases z⟩
    .exact T.keep _ _ _ a7 λb U o e=>(I9.pin (b,o) (W2 _ (d7 U e))).1
    .obtain⟨o,e,d⟩:=T.obj _ _ a7 b U
     exact(I9.pin (b,o) (W2 _ (d7 U e))).2.1
 exact codeAny_compStart_list b0 (T.self _ 0 _ _ _ b8 b0)
theorem Ha(hx:X.xe=NoX)(Z:X.calm=true)(O:eG X.env.scope X.N N' scope cap)(hi:PI X target iter wi)
  (hg:∀C a0 H fp,PG 1.46 target g) (ht:∀C a0 H fp,PTs 1.46 ifs tt) (V:∀C a0 H fp,PE 1.46 elt te)
  (B:∀x,aa8 iter X.env x=pure x:=by intro _;rfl):PE X (.ListComp elt [⟨target,iter,ifs,0⟩] scope pos) (Nb cap wi g tt te):=by
 intro pins s σ H Q I h;rw[eval_ListComp];refine ac5 (use:=none) rfl B (lD λy hy hk=>I.ok.has y.1 (O.free y hy hk)) O.kind O.nm (thn (hi pins s σ H _ I h) λv F h1=>thn h1 λa5 s2 h2=>?_);obtain⟨it,fp,tn,J,H2,e,I2,T,a1,f2,cw⟩:=h2;subst e;refine Eu (RR:=λacc C=>compPost 1.12 X.A X.xe none 1.63 acc C) Z O I2 T a1 f2 (λC=>hg C _ _ _) (λC=>ht C _ _ _) (λC=>V C _ _ _) cw ?_;intro D C s' H' ys its n Y hD hC a3 I' rv q;obtain⟨hz,q⟩:=q;obtain⟨m,a4,_⟩:=I'.loc;refine⟨m,a4,λh' sb=>?_⟩;obtain⟨eD,nD,_,a6,_⟩:=I'.pin (D,lobj its n) (W2 _ aav);have a2:Inv X pins σ (upd H' D (.lst ys)) {s' with heap:=h'}:=by
  refine I2.call' (ch:=fp) I'.os ?_ ?_ I'.bare (λb U=>⟨(f2 b U).2.2.2.1,(f2 b U).2.1,(f2 b U).2.2.2.2.1,(f2 b U).2.2.2.2.2⟩)
  .have ne:∀b o,s2.heap.get? b=some o->b≠C/\b≠D:=λb o e=>⟨Z5 (Z4 (ZP e) hC),Z5 (Z4 (ZP e) hD)⟩
   refine⟨λb o e n U V=>sb.extBut b o (ne b o e).1 (I'.base.keep b o e n U V),λb o e n U V=>?_,λb o e n V=>?_,λb o e V=>?_,λb xs e=>?_,λb o u e=>?_,λb ps e=>?_⟩
   .obtain⟨sl,e1⟩:=I'.base.slot b o e n U V
    exact⟨sl,sb.extBut b _ (ne b o e).1 e1⟩
   .rw[aQ (ne b o e).2]
    exact I'.base.free b o e n V
   .obtain⟨o',e1⟩:=I'.base.there b o e V
    exact⟨o',sb.extBut b _ (ne b o e).1 e1⟩
   .have e1:=I'.base.tups b xs e
    rw[aQ (aV e1 nD)];exact e1
   .have e1:=I'.base.frzs b o u e
    rw[aQ (aV e1 nD)];exact e1
   .obtain⟨more,e1⟩:=I'.base.tbls b ps e
    refine⟨more,?_⟩;rw[aQ (aV e1 nD)];exact e1
  .intro b u e
   by_cases U:b=D
   .subst U
    rw[aZ]at e;cases e;exact⟨hz,its,n,rv,sb.extBut _ _ a3 eD⟩
   .rw[aQ U]at e
    have nC:∀b u,H' b=some u->b≠C:=λb u e z=>by
     have hf:H' C=none:=I'.free;rw[z,hf]at e;cases e
    refine(I'.hok b u e).stay (λc v Z q=>sb.extBut c v ?_ q) (λc q=>by rw[aQ (aV q nD)];exact q) λc xs q=>by rw[aQ (aV q nD)];exact q
    rcases Z with z|z
    .rw[z]
     exact nC b u e
    .exact nC c _ z
 exact⟨.ref D,_,a2,rfl,q D nD⟩
end
theorem Ve{x:V}{t:Value}(I:Inv X pins σ H s)(rx:RelV x u)(ty:nu X.K H x t):∃U,PySem.W.KitX X.K u t U/\U s.heap/\u≠.builtin "__main__.__loader__#opaque":=by
 cases ty with
 |non=>cases (show u=aaF from rx);exact⟨_,afU,aaJ,λz=>nomatch z⟩
 |bl y=>cases (show u=aea y from rx);exact⟨_,afV,aaJ,λz=>nomatch z⟩
 |int i=>obtain⟨t,q⟩:=(show ∃t,u=ab7 i t from rx);cases q;exact⟨_,af4,aaJ,λz=>nomatch z⟩
 |str y=>obtain⟨t,q⟩:=(show ∃t,u=acG y t from rx);cases q;exact⟨_,af5,aaJ,λz=>nomatch z⟩
 |flt y=>obtain⟨t,q⟩:=(show ∃t,u=aeE y t from rx);cases q;exact⟨_,afG,aaJ,λz=>nomatch z⟩
 |@lst a xs Z=>
  cases (show u=aac a from rx);obtain⟨_,_,n,_,h1⟩:=(show cM X.prog X.w H s.heap a (.lst xs)from I.hok a _ Z);exact⟨_,adf,⟨_,h1,rfl⟩,λz=>nomatch z⟩
 |@frz a ob xs Z=>
  cases (show u=aac a from rx);obtain⟨_,_,_,n,_,h1⟩:=(show cM X.prog X.w H s.heap a (.frz ob (.lst xs))from I.hok a _ Z);exact⟨_,adf,⟨_,h1,rfl⟩,λz=>nomatch z⟩
 |@tup a xs Z=>
  cases (show u=aac a from rx);obtain⟨_,_,_,p⟩:=(show cM X.prog X.w H s.heap a (.tup xs)from I.hok a _ Z);obtain⟨o,h1,h2,_⟩:=p;exact⟨_,afH,⟨o,h1,h2⟩,λz=>nomatch z⟩
 |@dK a kvs Z=>
  cases (show u=aac a from rx);obtain⟨_,_,vs,_,p⟩:=(show cM X.prog X.w H s.heap a (.dK kvs)from I.hok a _ Z);obtain⟨o,es,ep,h1,h2,_⟩:=p;exact⟨_,adg,⟨o,h1,h2.1⟩,λz=>nomatch z⟩
 |@dT a kvs Z=>
  cases (show u=aac a from rx);obtain⟨_,_,xs,_,o,es,ep,h1,h2,_⟩:=(show cM X.prog X.w H s.heap a (.dT kvs)from I.hok a _ Z);exact⟨_,adg,⟨o,h1,h2.1⟩,λz=>nomatch z⟩
 |@ins a C dx fs Z cl Y hn B D=>
  cases (show u=aac a from rx);obtain⟨mA,O,_⟩:=rM I.hok Z;obtain⟨od,J,_⟩:=O.look;exact⟨_,af6 (cl.get _) cl.hd Y hn B D,J,λz=>nomatch z⟩
theorem HF:∀{z:List String}{us:List Value},Vals (z.map V.ty) us->us=z.map ab5
 |[],_,.nil=>rfl
 |t::r,_,.cons h q=>by cases (show _=ab5 t from h);rw[HF q];rfl
theorem zu:fZ X (.builtin "isinstance") (λxs H Q=>∃x tp z t b,xs=[x,.ref tp]/\H tp=some (.tup (Z9 V.ty z))/\nu X.K H x t/\adN X.K t (z.map ab5)=some b/\Q (.bl b) H):=by
 intro pins s σ H xs us Q I r h;obtain⟨x,tp,z,t,b,rfl,B,ty,e,q⟩:=h;obtain⟨u,w',rfl,Y,J⟩:=vals2 r;cases J;obtain⟨U,Z,hz,hn⟩:=Ve I Y ty;obtain⟨_,its,F,o,h1,h2,n,O,_⟩:=(show cM X.prog X.w H s.heap tp (.tup (z.map V.ty))from I.hok tp _ B);rw[HF F]at O;obtain⟨cls,D,data,sl⟩:=o;cases h2;cases O;exact PySem.W.kia_tup Z I.kIn hz h1 e hn λtk=>⟨.bl b,H,I.tok tk,rfl,q⟩
theorem yx:∀(tk:Nat)(l:List Str),Vals (l.map V.str) (strsFrom tk l)
 |_,[]=>.nil
 |tk,x::r=>.cons ⟨_,rfl⟩ (yx (tk+1) r)
def Ws:V->List V->Hp->VK->Prop:=λx vs H Q=>∃(a b:Str)(l:List Str),x= .str a/\vs=[.str b]/\(decide (a.length<b.length)||decide (acU a<acU b))=false/\(b.length==0)=false/\
 (aaG a b 0 a.length (a.length+1)).isEmpty=false/\a.length<=ZM/\ac6 a (aaG a b 0 a.length (a.length+1)) b.length=l/\l.length<=ZM/\
 ∀p,H p=none->Q (.ref p) (upd H p (.lst (l.map V.str)))
theorem KN:MtR X "str.split" Ws:=by
 intro pins s σ H x vs v us Q I rx O h;obtain⟨a,b,l,rfl,rfl,Y,z,B,J,rfl,D,q⟩:=h;obtain⟨t,rfl⟩:=rx;obtain⟨u,rfl,t',rfl⟩:=O.one;refine ac_ F.slot_str_split (typeIs_str s a t) F.entry_str_split (F.args_str_split_2 _ _) (meets_str_split_sep a b t t' Y z B J D) ?_;exact⟨.ref s.heap.objs.size,_,I.lnew (yx _ _) (by rw[ZL];exact D),rfl,q _ I.fresh⟩
set_option genSizeOf true in
inductive Dt where
 |non|bl (b:Bool)|int (i:Int)|str (x:Str)|lst (ds:List Dt)|tup (ds:List Dt)
mutual
noncomputable def eqD:Dt->Dt->Bool
 |.non,.non=>true
 |.bl a,.bl b=>a==b
 |.int a,.int b=>a==b
 |.bl a,.int b=>(if a then 1 else 0)==b
 |.int a,.bl b=>a==(if b then 1 else 0)
 |.str a,.str b=>a==b
 |.lst a,.lst b=>eqL a b
 |.tup a,.tup b=>eqL a b
 |_,_=>false
noncomputable def eqL:List Dt->List Dt->Bool
 |[],[]=>true
 |a::r,b::q=>eqD a b&&eqL r q
 |_,_=>false
end
mutual
noncomputable def Brs(K:ZC)(H:Hp):Dt->V->Prop
 |.non,v=>v= .non
 |.bl b,v=>v= .bl b
 |.int i,v=>v= .int i
 |.str x,v=>v= .str x
 |.lst ds,v=>∃a xs,v= .ref a/\SqL K H a xs/\jJ K H ds xs
 |.tup ds,v=>∃a xs,v= .ref a/\SqT K H a xs/\jJ K H ds xs
noncomputable def jJ(K:ZC)(H:Hp):List Dt->List V->Prop
 |[],xs=>xs=[]
 |d::r,xs=>∃x ys,xs=x::ys/\Brs K H d x/\jJ K H r ys
end
theorem jJ.length{K:ZC}:∀{ds:List Dt}{xs:List V},jJ K H ds xs->ds.length=xs.length
 |[],xs,h=>by
  have h:xs=[]:=by simpa[jJ]using h
  rw[h];rfl
 |d::r,xs,h=>by
  obtain⟨x,ys,rfl,_,h⟩:=(by simpa[jJ]using h:∃x ys,xs=x::ys/\Brs K H d x/\jJ K H r ys);simp[jJ.length h]
theorem yZ:∀{ds es:List Dt},ds.length≠es.length->eqL ds es=false
 |[],[],h=>absurd rfl h
 |[],_::_,_=>by simp[eqL]
 |_::_,[],_=>by simp[eqL]
 |d::r,e::q,h=>by
  have:r.length≠q.length:=by simpa using h
  simp[eqL,yZ this]
def eqJ(ds es:List Dt)(j:Nat):Bool:=eqD (ds.getD j .non) (es.getD j .non)
theorem Aa:∀{ds es:List Dt},ds.length=es.length->(aaz ds.length).all (eqJ ds es)=eqL ds es
 |[],[],_=>by simp[eqL]
 |[],_::_,h=>by simp at h
 |_::_,[],h=>by simp at h
 |d::r,e::q,h=>by
  have h':r.length=q.length:=by simpa using h
  have B:=Aa h';rw[Z3,aeI,acO,List.all_map,eqL];congr 1
theorem ut{vl U vs:Value}{lo hi st:Option Int}{Q:Int×Int×Nat->Pr->Prop}(B:s.heap.IsSliceOf sl vl U vs)(pl:acz vl lo)(V:acz U hi)(ps:acz vs st)(Y:st.getD 1≠0)
  (h:Q ((aaM lo hi (st.getD 1) (n:Int)).1,st.getD 1,aaO (aaM lo hi (st.getD 1) (n:Int)).1 (aaM lo hi (st.getD 1) (n:Int)).2 (st.getD 1)) s) :
  wpAny 1.13 A (ab1 (.ref sl) (pure (n:Int))) Q E s:=by
 obtain⟨os,D,J,O⟩:=id B;unfold ab1;refine gD (gD (adn D O (x:=vl) rfl (gD (adn D O (x:=U) rfl (gD (adn D O (x:=vs) rfl (ZD ?_)))))));refine gD (HT.slicePart_ ps ?_);have h1:(st.getD 1==0)=false:=by simpa using Y
 simp![h1,aaj,aaN,pure_bind];exact gD (HT.slicePart_ pl (gD (HT.slicePart_ V (ZD h))))
def tX(xs:List α)(l st:Int)(k:Nat):List α:=(aaz k).filterMap λ(m:Nat)=>xs[(l+(m:Int)*st).toNat]?
theorem rZ{t:Addr}{items:List Value}{vl U vs:Value}{lo hi st:Option Int}(Y:IsTup s.heap t items.toArray)(B:s.heap.IsSliceOf sl vl U vs)(pl:acz vl lo)(V:acz U hi)(ps:acz vs st)(I:st.getD 1≠0)
  {l h':Int} (ea:aaM lo hi (st.getD 1) (items.length:Int)=(l,h'))  (F:aaO l h' (st.getD 1)=k)
  (hw:(l=0/\st.getD 1=1/\k=items.length)->Q (.ref t) s)
  (hn:¬(l=0/\st.getD 1=1/\k=items.length)->Q (.ref s.heap.objs.size) {s with heap:=s.heap.push {cls:=.type "tuple",data:=.seq (tX items l (st.getD 1) k).toArray}})
  (hsz:(tX items l (st.getD 1) k).length<=ZM):wpAny 1.13 A (adM (.ref t) (.ref sl)) Q E s:=by
 have z:sizeOk (.seq (tX items l (st.getD 1) k).toArray):=by
  show(tX items l (st.getD 1) k).toArray.size<=ZM;rw[List.size_toArray];exact hsz
 obtain⟨os,D,J,O⟩:=id B;have q:s.TypeIs (.ref sl) "slice":=⟨os,D,J⟩;unfold adM
 try with_reducible refine aaW ?_
 first|refine gD (ZD ?_)|skip
 refine gD (wpAny_sequenceKey Y.typeIs (by decide) ?_);refine gD (ach (name:=Str.ofString "__getitem__") Y.typeIs aaU
  (aei aaU Y.typeIs aft ?_ (args_tuple_getitem _ _)))
 show wpAny _ _ (ad0 (.ref t) >>=_) _ _ s;refine gD (tupleItemsOf_ Y ?_);refine gD (ac3 q ?_);rw[ZV (by decide)];rw[List.size_toArray];refine gD (ut B pl V ps I ?_);rw[ea,F];dsimp only;by_cases Z:(l=0/\st.getD 1=1/\k=items.length)
 .rw[ZV (by simp[Z])]
  refine gD ?_;unfold Builtin.Tuple.tupleIsExact;refine gD (ac3 Y.typeIs (ZD ?_));rw[ZV (by decide)];exact gD (acI (ZD ⟨_,rfl,ZD (hw Z)⟩))
 .rw[Z1 (by simpa using Z)]
  have e:(List.filterMap (λ(k:Nat)=>items.toArray[(l+(k:Int)*st.getD 1).toNat]?) (aaz k)).toArray=(tX items l (st.getD 1) k).toArray:=by
   unfold tX;simp
  rw[e];exact gD (m:=abD _) (aaL (ZD ⟨_,rfl,ZD (hn Z)⟩) z)
theorem Nx(xs:List α)(l st:Int)(k:Nat):(tX xs l st k).length<=k:=by
 unfold tX;have:=List.length_filterMap_le (λ(m:Nat)=>xs[(l+(m:Int)*st).toNat]?) (aaz k);rw[List.length_range]at this;exact this
def XD(K:ZC):V->Option Int->Option Int->Hp->VK->Prop:=λx lo hi H Q=>∃a xs,x= .ref a/\SqT K H a xs/\(vA xs lo hi=xs->Q (.ref a) H)/\∀p,H p=none->Q (.ref p) (upd H p (.tup (vA xs lo hi)))
theorem Uo:SlR X (XD X.K):=by
 intro pins s σ H x v vl U lo hi sl Q I rx B pl V h;obtain⟨a,xs,rfl,J,q1,q2⟩:=h;by_cases q:(HT.sIx xs.length 0 lo=0/\HT.sIx xs.length xs.length hi=xs.length)
 .have rx0:=rx
  cases rx;obtain⟨its,r,Y,hz⟩:=I.tuple J;have z:=r.length;refine⟨"tuple",_,aaU.lookup,Y.typeIs,?_⟩;have e1:aaM lo hi ((none:Option Int).getD 1) (its.length:Int)=(((0:Nat):Int),((xs.length:Nat):Int)):=by
   have e1:=HT.adjust_gen lo hi its.length;rw[←z,q.1,q.2]at e1;rw[←z];exact e1
  refine rZ (items:=its) (st:=none) Y B pl V .none (by decide) e1 rfl (λ_=>?_) (λZ=>?_) ?_
  .refine⟨.ref a,H,I,rfl,q1 ?_⟩
   unfold vA;rw[q.1,q.2];simp
  .refine absurd ⟨rfl,rfl,?_⟩ Z
   show aaO ((0:Nat):Int) ((xs.length:Nat):Int) 1=its.length;rw[HT.places_gen];omega
  .refine aa5 (Nx _ _ _ _) ?_
   show aaO ((0:Nat):Int) ((xs.length:Nat):Int) 1<=ZM;rw[HT.places_gen];omega
 .exact Vj pins s σ H _ v vl U lo hi sl Q I rx B pl V ⟨a,xs,rfl,J,q,q2⟩
def M6(K:ZC):R2:=λx y H Q=>∃a b xs ys,x= .ref a/\y= .ref b/\SqT K H a xs/\SqT K H b ys/\xs.length+ys.length<=ZM/\
 (xs=[]->Q (.ref b) H)/\(xs≠[]->ys=[]->Q (.ref a) H)/\(xs≠[]->ys≠[]->∀p,H p=none->Q (.ref p) (upd H p (.tup (xs++ys))))
theorem Oe:OpR X (aa3 .Add) (M6 X.K):=by
 intro pins s σ H x y v u Q I rx ry h;obtain⟨a,b,xs,ys,rfl,rfl,Y,U,hz,q0,q1,q2⟩:=h;by_cases J:xs=[]
 .cases rx
  cases ry;obtain⟨its,r1,p1,_⟩:=I.tuple Y;obtain⟨a0,r2,p2,_⟩:=I.tuple U;obtain⟨⟨cls,D,data,sl⟩,B,Z,n,hd⟩:=id p1;obtain⟨⟨a4,q,a3,a2⟩,z,O,V,a1⟩:=id p2;simp only at Z hd O a1;subst Z hd O a1;exact afK ⟨_,B,rfl⟩ ⟨_,z,rfl⟩ aeh afo adm ada (ac2 _ _)
   (tuple_addW0 a b its.toArray a0.toArray n V D q sl a2 (by rw[r1.nil_iff.mpr J];rfl)) ⟨B,z,⟨.ref b,H,I,rfl,q0 J⟩⟩
 .exact PJ pins s σ H _ _ v u Q I rx ry ⟨a,b,xs,ys,rfl,rfl,Y,U,J,hz,q1 J,q2 J⟩
theorem wC{p:Addr}{o:HO}(I:Inv X pins σ H s)(D:∀b∈fp,lB X pins H b)(keep:∀b u,b∉fp->s.heap.get? b=some u->h'.get? b=some u)(F:s.heap.objs.size<=p)
  (new:cM X.prog X.w (upd H p o) h' p o):Inv X pins σ (upd H p o) {s with heap:=h',toks:=t'}:=by
 have hn:H p=none:=I.hok.fresh F;have B:∀b u,H b=some u->b∉fp:=λb u e U=>by rw[(D b U).1]at e;cases e
 have O:∀b u,s.heap.get? b=some u->b≠p:=λb u e=>Z5 (Z4 (ZP e) F);refine I.step (g':=s.gens) (d':=s.drawn) (ch:=fp) (λb U=>⟨(D b U).2.2.2.1,(D b U).2.1,(D b U).2.2.2.2.1,(D b U).2.2.2.2.2⟩) (λb u _ _ Z e _=>keep b u Z e) (λb u _ _ Z e _=>⟨u.slots,keep b u Z e⟩)
  (λb u _ e n=>by rw[aQ (O b u e)];exact n) (λb u Z e=>⟨u,keep b u Z e⟩) (λb xs e=>by rw[aQ (aV e hn)];exact e) (λb ob u e=>by rw[aQ (aV e hn)];exact e)
  (λb ps e=>⟨#[],by rw[aQ (aV e hn),e];simp⟩) (λm J=>?_) (λb u e=>?_) I.bare
 .obtain⟨ob,es,ep,ho,r⟩:=J
  exact⟨ob,es,ep,keep _ ob (λz=>(D _ z).2.1 rfl) ho,r⟩
 .by_cases U:b=p
  .subst U
   rw[aZ]at e;cases e;exact new
  .rw[aQ U]at e
   refine(I.hok b u e).stay (λc v Z q=>keep c v ?_ q) (λc q=>by rw[aQ (aV q hn)];exact q) λc xs q=>by rw[aQ (aV q hn)];exact q
   rcases Z with z|z
   .rw[z]
    exact B b u e
   .exact B c _ z
theorem lZ(I:Inv X pins σ H s)(D:∀b∈fp,lB X pins H b)(keep:∀b u,b∉fp->s.heap.get? b=some u->h'.get? b=some u):Inv X pins σ H {s with heap:=h',toks:=t'}:=by
 have B:∀b u,H b=some u->b∉fp:=λb u e U=>by rw[(D b U).1]at e;cases e
 refine I.step (g':=s.gens) (d':=s.drawn) (ch:=fp) (λb U=>⟨(D b U).2.2.2.1,(D b U).2.1,(D b U).2.2.2.2.1,(D b U).2.2.2.2.2⟩) (λb u _ _ Z e _=>keep b u Z e) (λb u _ _ Z e _=>⟨u.slots,keep b u Z e⟩)
  (λb u _ e n=>n) (λb u Z e=>⟨u,keep b u Z e⟩) (λb xs e=>e) (λb ob u e=>e) (λb ps e=>⟨#[],by rw[e];simp⟩) (λm J=>?_) (λb u e=>?_) I.bare
 .obtain⟨ob,es,ep,ho,r⟩:=J
  exact⟨ob,es,ep,keep _ ob (λz=>(D _ z).2.1 rfl) ho,r⟩
 .refine(I.hok b u e).stay (λc v Z q=>keep c v ?_ q) (λc q=>q) λc xs q=>q
  rcases Z with z|z
  .rw[z]
   exact B b u e
  .exact B c _ z
def Ite(K:ZC)(a:Addr):It:=
 ⟨λi H=>∃xs x,SqL K H a xs/\xs[i]? =some x,λi H x H'=>∃p v,H p=none/\x= .ref p/\(∀xs,SqL K H a xs->xs[i]? =some v)/\H'=upd H p (.tup [.int i,v]),λi H=>∃xs,SqL K H a xs/\xs.length<=i⟩
theorem Ie{K:ZC}{x1}(a e it:Addr)(a3:e≠it) :
  Turn P w K (.Tuple elts x1 pos) (Ite K a) [e,it] e (λi h=>(∃a0,IsEnum h e it (i:Int) a0)/\h.IsListIter it a i)where
 mem:=by simp
 obj:=λi h st b U=>by
  obtain⟨⟨a0,V⟩,o,B,c,d⟩:=st;rcases ZR.mp U with z|z
  .subst z
   exact⟨_,V,λv z=>by cases z⟩
  .have z:b=it:=by simpa using z
   subst z;exact⟨o,B,λv z=>by rw[d]at z;cases z⟩
 keep:=λi h h' st k=>by
  obtain⟨⟨a0,V⟩,a1⟩:=st;exact⟨⟨a0,k e (by simp) _ V⟩,a1.at λo q=>k it (by simp) o q⟩
 item:=by
  intro X hP hw hK Z i pins s σ H E I D st hg;subst hP hw hK;obtain⟨xs,x,Y,J⟩:=hg;obtain⟨its,F,p,hz⟩:=I.list Y;obtain⟨u,hu,ru⟩:=F.get J;obtain⟨⟨a0,V⟩,a1⟩:=st;refine wpAny_pyNext_enum_item V a1 p.isList (x:=u) (by simpa using hu) a3 λh1 b0 a4 a9 b1 k1=>?_;refine⟨.ref s.heap.objs.size,rfl,ad1 b0 λh2 a7 a2=>?_⟩;have a8:e<s.heap.objs.size:=ZP V;have a5:s.heap.objs.size≠e:=abC a8;have a6:h2.get? s.heap.objs.size=some {cls:=.type "tuple",data:=.seq #[.int i s.toks,u]}:=a2.extBut _ _ a5 a9;have I2:Inv X pins σ (upd H s.heap.objs.size (.tup [.int i,x])) {s with heap:=h2,toks:=s.toks+1}:=by
   refine wC (fp:=[e,it]) (t':=s.toks+1) I D (λb o U q=>?_) (ZQ _) ?_
   .have n1:b≠e:=λz=>U (by simp[z])
    have n2:b≠it:=λz=>U (by simp[z]);exact a2.extBut b o n1 (k1 b o n1 n2 q)
   .exact⟨by show 2<=ZM;decide,[.int i s.toks,u],.cons ⟨_,rfl⟩ (.cons ru .nil),_,a6,rfl,_,rfl,rfl⟩
  refine⟨.ref s.heap.objs.size,upd H s.heap.objs.size (.tup [.int i,x]),I2,rfl,⟨_,x,I.hok.fresh (ZQ _),rfl,λys hy=>by rw[I.list_inj hy Y];exact J,rfl⟩,?_,λb U=>?_⟩
  .refine⟨⟨u,?_⟩,a4.extBut a2.extBut (aay a3)⟩
   have e1:(((i+1:Nat)):Int)=(i:Int)+1:=by omega
   rw[e1];exact a7
  .rw[aQ]
   .exact(D b U).1
   .intro z
    rw[z]at U;rcases ZR.mp U with q|q
    .exact a5 q
    .have q:s.heap.objs.size=it:=by simpa using q
     obtain⟨o,B,_⟩:=a1;exact absurd (ZP B) (by rw[q];exact aaV _)
 done:=by
  intro X hP hw hK Z i pins s σ H E I D st hg;subst hP hw hK;obtain⟨xs,Y,J⟩:=hg;obtain⟨its,F,p,hz⟩:=I.list Y;obtain⟨⟨a0,V⟩,a1⟩:=st;have O:=F.length;refine wpAny_pyNext_enum_end (I.ok.hd Z) V a1 p.isList (by simp;omega) λh1 eb=>⟨rfl,?_⟩;exact lZ (fp:=[e,it]) (t':=s.toks) I D λb o U q=>eb b o (λz=>U (by simp[z])) q
 self:=λA i s Q E st h=>by
  obtain⟨⟨a0,V⟩,_⟩:=st;exact adk V h
end Jb
namespace PySem
theorem F.first_AttributeError:((Manifest.find? "AttributeError").elim false λt=>t.mro.contains "StopIteration"||t.mro.contains "SystemExit")=false:=by decide +kernel
theorem F.sub_AttributeError:isSubtype (.type "AttributeError") (.type "AttributeError")=pure true:=by rw[isSubtype_type];kernel_rfl
section
variable{prog:Program}{w:World}{A:Around}{E:Value->Shared->Prop}
theorem uA{α:Type}{o:Value}{name B:Str}{Q:α->Pr->Prop}{h:Heap}{g:Array GenState}{d:Drawn}{t:Nat}{os:OsState}(z:A.handled=none)(J:B.length<=ZM)
  (Y:∀h' tk e,(∀b u,h.get? b=some u->h'.get? b=some u)->(∃U,h'.get? e=some U/\U.cls= .type "AttributeError")->E (.ref e) ⟨h',g,d,tk,os⟩):wpAny 1.13 A (raiseAttrError o name B:Sem α) Q E ⟨h,g,d,t,os⟩:=by
 unfold raiseAttrError;refine gD (wpAny_mkStr (gD ?_) J);unfold newExc newTuple;refine gD (aaL ?_);refine gD (m:=firstArgMember _ _) (adQ (a:=aaF) (by simp![firstArgMember,F.first_AttributeError];rfl) ?_);refine aaL ?_;refine gD (wpAny_mkText (gD ?_));dsimp only;generalize a0:h.push {cls:=.type "tuple",dict:=none,data:=.seq [acG B t].toArray}=H1;generalize D:({cls:=.type "AttributeError",dict:=none,data:=.fields (#[.ref h.objs.size,.none,.none,.none,.bool false,.none]++ownMembersOf (.type "AttributeError") [acG B t])}:Obj)=ob;have V:(H1.push ob).get? H1.objs.size=some ob:=Z6 _ (by subst D;rfl);have hT:(⟨H1.push ob,g,d,t+1+1,os⟩:Pr).TypeIs (.ref H1.objs.size) "AttributeError":=⟨_,V,by subst D;rfl⟩;have f1:=F.sub_AttributeError;have I:∀b u,h.get? b=some u->(H1.push ob).get? b=some u:=λb u e=>Zz _ (a0▸Zz _ e);have q:ob.cls= .type "AttributeError":=by subst D;rfl
 obtain⟨vs,O,a1,a2⟩:∃vs,ob.data= .fields vs/\vs[6]? =some unsetMember/\vs[7]? =some unsetMember:=by subst D;exact⟨_,rfl,rfl,rfl⟩
 unfold noteAttr;dsimp only;refine gD ?_;unfold lacksNameAndObj;refine gD (ael hT f1 ?_);simp![afq,aaj,aaN];refine gD (ae_ V ?_);rw[O];dsimp only;rw[a1,a2];show wpAny 1.13 A (pure true) _ _ _;refine ZD ?_;rw[ZV rfl];refine gD (acI (gD (ac3 hT ?_)));dsimp only;unfold layMembers;refine gD (ae_ V ?_);rw[O];dsimp only;refine wpAny_update V ?_;unfold raiseNew;refine gD (wpAny_handled ?_);rw[z];dsimp only;have Z:h.objs.size<H1.objs.size:=by rw[←a0,aaX];exact abr _
 refine aeJ (Y _ _ _ (λb u e=>?_) ⟨_,acA _ V (aeX (adU O _)),(afY ..).trans q⟩);exact(abn (H1.push ob) _ (aay (Z5 (Nat.lt_trans (ZP e) Z)))).trans (I b u e)
theorem F.lk_list_keys:typeLookup (.type "list") "keys"=pure none:=by rw[typeLookup_type,aeY];kernel_rfl
theorem F.lk_list_getattr:typeLookup (.type "list") "__getattr__"=pure none:=by rw[typeLookup_type,aeY];kernel_rfl
variable{h:Heap}{g:Array GenState}{d:Drawn}{t:Nat}{os:OsState}{a:Addr}{items:Array Value}{n:Nat}
def DW(E:Value->Pr->Prop)(h:Heap)(g:Array GenState)(d:Drawn)(os:OsState):Prop:=∀h' tk e,(∀b u,h.get? b=some u->h'.get? b=some u)->(∃U,h'.get? e=some U/\U.cls= .type "AttributeError")->E (.ref e) ⟨h',g,d,tk,os⟩
theorem uC{tk:Tok}{Q:Fin->Pr->Prop}(z:A.handled=none)(J:h.get? a=some {cls:=.type "list",data:=.seq items n})(Y:DW E h g d os) :
  wpAny 1.13 A (Builtin.«object.__getattribute__» ⟨[.ref a,.str "keys" tk],[]⟩) Q E ⟨h,g,d,t,os⟩:=by
 have V:(⟨h,g,d,t,os⟩:Pr).TypeIs (.ref a) "list":=⟨_,J,rfl⟩;have q:=F.lk_list_keys
 repeat(any_goals(first|assumption|wp_step))
 exact uA z (by decide +kernel) Y
theorem wL{tk:Tok}{R:aeR->Pr->Prop}(z:A.handled=none)(J:h.get? a=some {cls:=.type "list",data:=.seq items n})(Y:DW (λe s=>R (.error e) s) h g d os) :
  abX 1.13 A (.call (.builtin "list.__getattribute__") ⟨[.ref a,.str "keys" tk],[]⟩) R ⟨h,g,d,t,os⟩:=
 acL aca.plain F.entry_list_ga (aca.check _ _ _ _ _ _ _ _ (show(⟨h,g,d,t,os⟩:Pr).TypeIs (.ref a) "list" from⟨_,J,rfl⟩) (F.args_list_getattribute_2 _ _) (uC z J Y))
theorem zJ{tk:Tok}{Q:Value->Pr->Prop}(z:A.handled=none)(J:h.get? a=some {cls:=.type "list",data:=.seq items n})(Y:DW E h g d os):wpAny 1.13 A (getAttrBy (.ref a) (.str "keys" tk) false) Q E ⟨h,g,d,t,os⟩:=by
 have hT:(⟨h,g,d,t,os⟩:Pr).TypeIs (.ref a) "list":=⟨_,J,rfl⟩;have B:=aca.lookup;have O:=aca.bind (.ref a)
 repeat(any_goals(first|assumption|wp_step))
 refine wL z J λh' D e I V=>?_;obtain⟨U,a0,q⟩:=id V;have Z:(⟨h',g,d,D,os⟩:Pr).TypeIs (.ref e) "AttributeError":=⟨U,a0,q⟩;dsimp only;unfold getattributeRaised;refine gD (ael Z F.sub_AttributeError ?_);rw[ZV rfl];refine gD (adQ (show hookBehind (.type "list") none=pure none from F.lk_list_getattr) ?_);show wpAny 1.13 A (afh (.ref a) (.str "keys" tk) (.ref e) false false) Q E ⟨h',g,d,D,os⟩;unfold afh;dsimp only;rw[ZV (show(!false)=true from rfl)]
 first|exact aeJ (Y h' D e I V)|exact gD (aeJ (Y h' D e I V))
theorem vY{Q:Option Value->Pr->Prop}(z:A.handled=none)(J:h.get? a=some {cls:=.type "list",data:=.seq items n})
  (Y:∀h' tk,(∀b u,h.get? b=some u->h'.get? b=some u)->Q none ⟨h',g,d,tk,os⟩):wpAny 1.13 A (getAttr? (.ref a) "keys") Q E ⟨h,g,d,t,os⟩:=by
 unfold getAttr? getAttrBy?;refine gD (wpAny_mkText (gD (wpAny_attempt (zJ z J λh' D e I V=>?_))));obtain⟨U,B,q⟩:=id V;have Z:(⟨h',g,d,D,os⟩:Pr).TypeIs (.ref e) "AttributeError":=⟨U,B,q⟩;dsimp only;refine gD (ael Z F.sub_AttributeError ?_);rw[ZV rfl];exact ZD (Y h' D I)
end
namespace F
theorem entry_dict_update_loop:entryFor table "dict.update.loop"=some Builtin.«dict.update.loop»:=entryFor_of_tree (by kernel_rfl)
theorem plain_dict_update_loop:plainId "dict.update.loop"=true:=by decide +kernel
end F
end PySem
namespace Jb
open PySem PySem.Spec PyProof.Rows L2
def putAll(kvs:List (Key×V))(prs:List (Key×V)):List (Key×V):=prs.foldl (λacc F=>putK acc F.1 F.2) kvs
theorem wQ:∀(prs kvs:List (Key×V)),(putAll kvs prs).length<=kvs.length+prs.length
 |[],kvs=>by simp[putAll]
 |p::r,kvs=>by
  have h1:=wQ r (putK kvs p.1 p.2);have h2:=gM kvs p.1 p.2;have e:putAll kvs (p::r)=putAll (putK kvs p.1 p.2) r:=rfl;rw[e,Z3];omega
variable{X:Cx}{σ:L2.St}
theorem Jo{D l:Addr}{xs:List V}{prs:List (Key×V)}{R:aeR->Pr->Prop}(hh:A.handled=none)(a3:prs.length=xs.length):∀(m i:Nat)(kvs:List (Key×V))(H:Hp)(s:Pr),xs.length-i=m->i<=xs.length->
  Inv X pins σ H s->H D=some (.dK kvs)->SqL X.K H l xs->lB X pins H it->s.heap.IsListIter it l i->(∀(j:Nat)(k:Key)(v:V),prs[j]? =some (k,v)->∃p:Addr,xs[j]? =some (V.ref p)/\H p=some (.tup [kV k,v]))->kvs.length+m<=100000->
  (∀s',Inv X pins σ (upd H D (.dK (putAll kvs (prs.drop i)))) s'->R (.ok (.ret .none)) s')->abX 1.12 A (.builtin "dict.update.loop" ⟨[.ref D,.ref it,acY i,.none],[]⟩) R s:=by
 intro m
 induction m with
 |zero=>
  intro i kvs H s hm hi I hD Y hf a0 hp hz k;have e:i=xs.length:=by omega
  subst e;obtain⟨its,rv,p,_⟩:=I.list Y;have O:=rv.length;refine abk F.entry_dict_update_loop ?_;rw[aa4 F.plain_dict_update_loop _];unfold Builtin.«dict.update.loop»;dsimp only;refine gD (adA (show A.in1.handled=none from hh) a0 p.isList (by simp;omega) λh' eb=>?_);dsimp only;have I1:Inv X pins σ H {s with heap:=h'}:=lZ (fp:=[it]) (t':=s.toks) I (λb U=>by rw[Z7.mp U];exact hf) λb o U q=>eb b o (λz=>U (by simp[z])) q;have e1:prs.drop xs.length=[]:=by rw[←a3,abK]
  have k1:=k _ (by
   rw[e1];show Inv X pins σ (upd H D (.dK kvs)) {s with heap:=h'};have:upd H D (.dK kvs)=H:=by
    funext b;unfold upd;split
    .rename_i z
     rw[z,hD]
    .rfl
   rw[this];exact I1)
  show wpAny 1.12 A.in1 (Builtin.Dict.addKeywords D [] >>=λ_=>ret .none) _ _ _;exact gD (ZD (ZD k1))
 |succ m B=>
  intro i kvs H s hm hi I hD Y hf a0 hp hz k;have Z:i<xs.length:=by omega
  obtain⟨its,rv,p,_⟩:=I.list Y;have O:=rv.length;have a5:i<prs.length:=by omega
  obtain⟨t,ht,hT⟩:=hp i prs[i].1 prs[i].2 (by rw[Z0 a5]);obtain⟨u,J,ru⟩:=rv.get ht;cases ru;refine abk F.entry_dict_update_loop ?_;rw[aa4 F.plain_dict_update_loop _];unfold Builtin.«dict.update.loop»;dsimp only;refine gD (adl a0 p.isList (x:=.ref t) (by simpa using J) λh1 a4 a8=>?_);dsimp only;have I1:Inv X pins σ H {s with heap:=h1}:=lZ (fp:=[it]) (t':=s.toks) I (λb U=>by rw[Z7.mp U];exact hf) λb o U q=>(a8.2 b (λz=>U (by simp[z]))).trans q;obtain⟨_,b4,rj,oj,ej,cj,nj,dj,_⟩:=(show cM X.prog X.w H h1 t (.tup [kV prs[i].1,prs[i].2])from I1.hok t _ hT);obtain⟨ku,vu,rfl,rk,b0⟩:=vals2 rj;have b1:(({s with heap:=h1}:Pr)).TypeIs (.ref t) "tuple":=⟨oj,ej,cj⟩;refine gD (aaW (gD (wpAny_tryCatch ?_)));unfold Builtin.Dict.pairItems;refine gD (ac3 b1 ?_);rw[ZV (by decide)];refine gD (aeZ ej dj (ZD ?_));show wpAny 1.12 A.in1 (abi [ku,vu] (dictSet D ku vu)) _ _ _;obtain⟨z,hd,vs,rel,dd⟩:=uX I1.hok hD;have a9:vs.length<=ZM:=by rw[←rel.length];exact z
  have b5:200000<=ZM:=by decide
  have a7:(putK kvs prs[i].1 prs[i].2).length<=ZM:=by have:=gM kvs prs[i].1 prs[i].2;omega
  refine aaW (afw (hsz:=a9) (m_ rk) dd λh2 a6 a1=>?_);have I2:Inv X pins σ (upd H D (.dK (putK kvs prs[i].1 prs[i].2))) {s with heap:=h2,toks:=s.toks+1}:=by
   have he:∃q,h2.get? D=some q:=let⟨q,_,_,Y,_⟩:=a6;⟨q,Y⟩;exact mY (s:=({s with heap:=h1}:Pr)) (t':=s.toks+1) I1 (by rw[hD];exact aaJ) a1 he (tL a7 hd (rel.put prs[i].1 b0) a6)
  have b2:∀p ys,H p=some (.tup ys)->p≠D:=λp ys e=>GQ e hD (by intro z;cases z);have a2:it≠D:=λz=>by have:=hf.1;rw[z,hD]at this;cases this
  show wpAny 1.12 A.in1 (again (.builtin "dict.update.loop" ⟨[.ref D,.ref it,acY ((i:Int)+1),.none],[]⟩)) _ _ _;refine ZD ⟨acP F.plain_dict_update_loop _,?_⟩;have ei:((i:Int)+1)=((i+1:Nat):Int):=by omega
  rw[ei];have b3:=gM kvs prs[i].1 prs[i].2;refine B (i+1) (putK kvs prs[i].1 prs[i].2) _ _ 1.11 Z I2 aZ ?_ ?_ (a4.extBut a1.extBut a2) ?_ 1.11 (λs' I'=>k s' ?_)
  .rcases Y with(Y|⟨o,Y⟩)|Y
   .exact .inl (.inl (by rw[aQ (GQ Y hD (by intro z;cases z))];exact Y))
   .exact .inl (.inr ⟨o,by rw[aQ (GQ Y hD (by intro z;cases z))];exact Y⟩)
   .exact .inr Y
  .exact⟨by rw[aQ a2];exact hf.1,hf.2⟩
  .intro j kk vv e
   obtain⟨p,h1,h2⟩:=hp j kk vv e;exact⟨p,h1,by rw[aQ (b2 p _ h2)];exact h2⟩
  .rw[Gz]at I'
   rw[acW a5];exact I'
theorem uv(Z:X.calm=true):fZ X (.type "dict") (λxs H Q=>∃l ys prs,xs=[.ref l]/\H l=some (.lst ys)/\abP prs=abP ys/\abP prs<=50000/\
  (∀(j:Nat)(k:Key)(v:V),prs[j]? =some (k,v)->∃p:Addr,ys[j]? =some (V.ref p)/\H p=some (.tup [kV k,v]))/\∀D,H D=none->Q (.ref D) (upd H D (.dK (putAll [] prs)))):=by
 intro pins s σ H xs us Q I r h;obtain⟨l,ys,prs,rfl,O,a4,hsz,hp,q⟩:=h;obtain⟨u,rfl,B⟩:=vals1 r;cases B;have hh:X.A.handled=none:=I.ok.hd Z;refine callType_codes (Q₁:=λobj a1=>obj= .ref s.heap.objs.size/\a1={s with heap:=s.heap.push {cls:=.type "dict",data:=.dict #[]}}) F.kt_called_dict (F.kt_typeCall_dict_1 _) F.entry_dict_init (kt_code_dict_new _ ⟨rfl,rfl⟩) ?_;rintro obj a1 ⟨rfl,rfl⟩;have a2:H s.heap.objs.size=none:=I.fresh;have I1:Inv X pins σ (upd H s.heap.objs.size (.dK [])) {s with heap:=s.heap.push {cls:=.type "dict",data:=.dict #[]}}:=I.laid (t':=s.toks) (λ_ _ z=>Zz _ z) (ZQ _) (vh s.heap I.big);have U:(s.heap.push {cls:=.type "dict",data:=.dict #[]}).DictOf (bG X.prog X.w) s.heap.objs.size []:=aeC s.heap;have nl:l≠s.heap.objs.size:=aV O a2;have Y:(upd H s.heap.objs.size (.dK [])) l=some (.lst ys):=by rw[aQ nl];exact O
 obtain⟨_,its,n,rv,el⟩:=(show cM X.prog X.w _ _ l (.lst ys)from I1.hok l _ Y);have a6:({s with heap:=s.heap.push {cls:=.type "dict",data:=.dict #[]}}:Pr).TypeIs (.ref l) "list":=⟨_,el,rfl⟩;refine⟨U.typeIs,F.args_dict_init_2 _ _,?_⟩;unfold Builtin.«dict.__init__»;refine gD ?_;unfold Builtin.Dict.selfAndRest;refine gD (ae0 U.typeIs ?_);show wpAny _ _ (pure (s.heap.objs.size,[aac l])) _ _ _;refine ZD ?_;show wpAny _ _ (aew "dict.__init__" s.heap.objs.size (.ref l) [] .none) _ _ _;unfold aew;refine gD (ac3 a6 ?_);rw[ZV (by decide)];refine gD (vY (show X.A.in1.in1.handled=none from hh) el λh2 a0 a3=>?_);rw[ZV (by rfl)];have I2:Inv X pins σ (upd H s.heap.objs.size (.dK [])) {s with heap:=h2,toks:=a0}:=I1.kept (t':=a0) a3;obtain⟨a7,a8,p2,_⟩:=I2.list (SqL.of Y);refine gD (acI (gD (acu p2.isList ?_)));have I3:Inv X pins σ (upd H s.heap.objs.size (.dK [])) {s with heap:=h2.push {cls:=.type "list_iterator",data:=.fields #[.ref l,.int 0 0]},toks:=a0}:=I2.kept (t':=a0) λb o e=>Zz _ e;have a5:lB X pins (upd H s.heap.objs.size (.dK [])) h2.objs.size:=I2.fpOk (ZQ _) (I2.hok.fresh (ZQ _));refine ZD ⟨acP F.plain_dict_update_loop _,?_⟩;refine Jo (A:=X.A.in1) (l:=l) (xs:=ys) (prs:=prs) hh a4 ys.length 0 [] _ _ rfl (abO _) I3 aZ (SqL.of Y) a5 ⟨_,Z6 _ rfl,rfl,rfl⟩ ?_ (by simp;omega) λs' J=>?_
 .intro j k v e
  obtain⟨p,h1,h2⟩:=hp j k v e;exact⟨p,h1,by rw[aQ (aV h2 a2)];exact h2⟩
 .rw[Gz,ae1]at J
  exact⟨rfl,.ref _,_,J,rfl,q _ a2⟩
variable{R:Result->Shared->Prop}
theorem xF{kx vx iter:Expr}{it:Value}{D:Addr}(I:Nat->Pr->Prop)
  (z:∀n s,I n s->wpAny 1.13 A (pyNext it) (λr a0=>match r with
   |none=>R (.ok .next) a0
   |some v=>wpAny 1.13 A (acV target it v) (λ_ O=>wpAny 1.13 A (acX target env v) (λ_ B=>
    wpAny 1.13 A (forIn ifs true λc r=>if r=true then do let ok ←aeO c env (eval c env);pure (abZ ok)else pure (abZ r)) (λok q=>
     if ok=true then wpAny 1.13 A (eval kx env) (λF J=>wpAny 1.13 A (eval vx env) (λvv Z=>wpAny 1.13 A (dictSet D F vv) (λ_ a1=>∃m,m<n/\I m a1) NoX Z) NoX J) NoX q
     else ∃m,m<n/\I m q) NoX B) NoX O) NoX a0) NoX s)
  (n:Nat) (h:I n s):abX 1.13 A (.compLoop (.DictComp kx vx [⟨target,iter,ifs,0⟩] scope pos) 0 it (.ref D) env) R s:=by
 refine codeAny_loop rfl I (λn s U=>?_) n h;show wpAny _ A ((compTurn (.DictComp kx vx [⟨target,iter,ifs,0⟩] scope pos) 0 it (.ref D) env).onRaise (λx=>do noteFrame x env;theTreesLotGoes x)) _ _ s;refine wpAny_noted ?_;rw[compTurn_dict];refine gD (aci (gD (aaY (z n s U) (λr a0 V=>?_) λ_ _ h'=>h'.elim)));cases r with
 |none=>exact ZD V
 |some v=>
  refine gD (aaY V (λ_ O a2=>?_) λ_ _ h'=>h'.elim);refine gD (aaY a2 (λ_ B a4=>gD (aaY a4 (λok q Y=>?_) λ_ _ h'=>h'.elim)) λ_ _ h'=>h'.elim);cases ok with
  |false=>exact ZD ⟨rfl,Y⟩
  |true=>
   exact gD (gD (aaY Y (λF J a6=>gD (aaW (aaY a6 (λvv Z a5=>gD (aci (aaW (aaY a5 (λ_ a1 a3=>ZD ⟨rfl,a3⟩) λ_ _ h'=>h'.elim)))) λ_ _ h'=>h'.elim))) λ_ _ h'=>h'.elim))
def Lq(J:It)(H:Hp)(g:TG)(tt:TT)(tk tv:TE)(σ:L2.St)(Q:List (Key×V)->Hp->Prop):Prop:=
 ∃W:Nat->Nat->List (Key×V)->Hp->Prop,(∃m,W 0 m [] H)/\∀i m ys H,W i m ys H->
  (J.stop i H/\Q ys H)∨(J.go i H/\ys.length<ZM/\∃N:List (Key×V)->Hp->Prop,(∀F H',N F H'->∃I,I<m/\W (i+1) I F H')/\
   ∀x H',J.yld i H x H'->g x σ H' λσ2 H2=>Kp σ σ2/\tt σ2 H2 λb B=>if b=true then tk σ2 B λx O=>∃k,x=kV k/\tv σ2 O λv q=>N (putK ys k v) q else N ys B)
def Et(cap:List 1.34)(wi:TI)(g:TG)(tt:TT)(tk tv:TE):TE:=λσ H Q=>wi σ H λJ H1=>
 Lq J H1 g tt tk tv (gH cap σ) λys H2=>ys.length<=ZM/\∀D,H2 D=none->Q (.ref D) (upd H2 D (.dK ys))
section
variable{X:Cx}{kx vx target iter:Expr}{ifs:List Expr}{scope:Scope}{pos:Pos}{N':List Str}{cap:List (Option Nat)}{wi:TI}{g:TG}{tt:TT}{tk tv:TE}
structure DO(P:Program)(w:World)(vs:List (Key×Value))(o:Obj):Prop where
 ex:o.ExactDict
 es:∃es ep,o.data= .dict es ep/\KeysOf (bG P w) es/\Pairs (bG P w) es.toList vs/\(vs.map (·.1)).Nodup
theorem DO.at{P:aae}{w:World}{vs:List (Key×Value)}{o:Obj}(d:DO P w vs o){h:Heap}{a:Addr}(e:h.get? a=some o):h.DictOf (bG P w) a vs:=let⟨es,ep,h1,h2,h3,h4⟩:=d.es;⟨o,es,ep,e,d.ex,h1,h2,h3,h4⟩
theorem DO.of{P:aae}{w:World}{vs:List (Key×Value)}{h:Heap}{a:Addr}(d:h.DictOf (bG P w) a vs):∃o,h.get? a=some o/\DO P w vs o:=let⟨o,es,ep,e,x,h1,h2,h3,h4⟩:=d;⟨o,e,⟨x,es,ep,h1,h2,h3,h4⟩⟩
theorem DO.nc{P:aae}{w:World}{vs:List (Key×Value)}{o:Obj}(d:DO P w vs o):∀v,o.data≠.cell v:=λv z=>by
 obtain⟨es,ep,h1,_⟩:=d.es;rw[h1]at z;cases z
theorem tY{pins:List (Addr×Obj)}{σ:L2.St}{H:Hp}{B:Pr}{it:Addr}{fp:List Addr}{tn:Nat->Heap->Prop}{J:It}{Q:List (Key×V)->Hp->Prop}{RR:Value->Addr->aeR->Pr->Prop}{E:Value->Pr->Prop}
  (Z:X.calm=true) (O:eG X.env.scope X.N N' scope cap) (I:Inv X pins σ H B) (T:Turn X.prog X.w X.K target J fp it tn) (st:tn 0 B.heap) (f2:∀b∈fp,lB X pins H b)
  (q:∀C,PG 1.23 target g) (ht:∀C,PTs 1.23 ifs tt) (hk:∀C,PE 1.23 kx tk) (he:∀C,PE 1.23 vx tv) (cw:Lq J H g tt tk tv (gH cap σ) Q)
  (d4:∀(D C:Addr)(s':Pr)(H':Hp)(ys:List (Key×V))(its:List (Key×Value))(o:Obj)(Y:L2.St),B.heap.objs.size<=D->B.heap.objs.size<=C->D≠C->Inv 1.23 [(D,o)] Y H' s'->KV ys its->DO X.prog X.w its o->Q ys H'->
   RR (.ref D) C (.ok .next) s') :
  wpAny 1.12 X.A newDict (λacc c3=>wpAny 1.12 X.A (newFunctionEnv scope X.env.globals (qy scope X.env) [] X.env.qual none .none (some X.env)) (λb1 c2=>
   abX 1.12 X.A (.compStart (.DictComp kx vx [⟨target,iter,ifs,0⟩] scope pos) 0 (.ref it) acc {b1 with scope:=relabel scope X.env}) (RR acc b1.locals) c2) E c3) E B:=by
 refine aaL (afg O.nocell (by intro y hy;simp at hy) (λa3 a1 a0=>?_) O.kind);dsimp only at a1 a0⊢;generalize b2:B.heap.push {cls:=.type "dict",dict:=none,data:=.dict #[]}=H2 at a1 a0⊢;have hC:H2.objs.size=B.heap.objs.size+1:=by rw[←b2,aaX]
 have a6:B.heap.objs.size≠H2.objs.size:=by rw[hC];exact Z5 (abr _)
 have a5:B.heap.objs.size<=H2.objs.size:=by rw[hC];exact adP _
 have b8:∀b o,B.heap.get? b=some o->a3.get? b=some o:=λb o e=>a0.extBut b o (by rw[hC];exact Z5 (ab3 (ZP e))) (Zz _ (b2▸Zz _ e));have b6:H2.DictOf (bG X.prog X.w) B.heap.objs.size []:=b2▸aeC B.heap;obtain⟨o0,d3,c4⟩:=DO.of b6;have b7:a3.get? B.heap.objs.size=some o0:=a0.extBut _ _ a6 (Zz _ d3);have a9:∀b∈fp,b<B.heap.objs.size:=λb U=>by
  obtain⟨o,e,_⟩:=T.obj 0 _ st b U;exact ZP e
 have I1:=Bq (tk:=B.toks+([]:List (Str×Value)).length) I O f2 a9 a5 (ZQ _) a6 b8 a1 b7 c4.nc;have c0:tn 0 a3:=T.keep _ _ _ st λb _ o e=>b8 b o e;obtain⟨W,⟨m0,w0⟩,b3⟩:=cw;generalize hD:B.heap.objs.size=D at *
 generalize d9:H2.objs.size=C at *
 have a8:∀{H':Hp}{o:Obj},(∀b∈fp,H' b=none)->∀b∈fp,lB 1.23 [(D,o)] H' b:=λ{H' o} hn b U=>by
  refine⟨hn b U,Z5 (Z4 (a9 b U) a5),I1.ok.exfs b U,.inl U,(I1.ok.exf b U).2,λp F=>?_⟩;have e:p=(D,o):=by simpa[bO]using F
  subst e;exact abC (a9 b U)
 have b0:abX 1.12 X.A (.compLoop (.DictComp kx vx [⟨target,iter,ifs,0⟩] scope pos) 0 (.ref it) (.ref D) (compEnvC scope (qy scope X.env) C X.env)) (RR (.ref D) C) {B with heap:=a3,toks:=B.toks+([]:List (Str×Value)).length}:=by
  refine xF (λn s'=>∃i ys its k H',Inv 1.23 [(D,k)] (gH cap σ) H' s'/\(KV ys its/\DO X.prog X.w its k)/\tn i s'.heap/\(∀b∈fp,H' b=none)/\W i n ys H') ?_ m0 ⟨0,[],[],o0,H,I1,⟨.nil,c4⟩,c0,λb U=>(f2 b U).1,w0⟩;rintro n s3 ⟨i,ys,its,k,H3,I3,⟨rv,dk⟩,b9,b5,w3⟩;rcases b3 i n ys H3 w3 with⟨stop,qn⟩|⟨go,hsz,N,hN,step⟩
  .refine thn (T.done 1.23 rfl rfl rfl Z i _ s3 _ H3 NoX I3 (a8 b5) b9 stop) λr s4 ⟨hr,I4⟩=>?_
   subst hr;exact d4 D C s4 H3 ys its k _ (ZQ _) a5 a6 I4 rv dk qn
  .refine thn (T.item 1.23 rfl rfl rfl Z i _ s3 _ H3 NoX I3 (a8 b5) b9 go) λr s4 ⟨u,hr,h4⟩=>?_
   subst hr;refine thn h4 λ_ s5 ⟨x,H5,I5,r5,y5,a7,d1⟩=>?_;have d6:=I5.pinned (a8 d1) (T.obj _ _ a7);refine thn (q C _ s5 _ H5 x u _ d6 r5 (step x H5 y5)) λ_ s6 ⟨a2,H6,I6,c5,q6⟩=>?_;refine thn (ht C _ s6 a2 H6 _ I6 q6) λok s7 ⟨H7,I7,q7⟩=>?_;have a4:∀{s':Pr}{H':Hp}{Y:L2.St},Inv 1.23 ([(D,k)]++lE fp s5.heap) Y H' s'->tn (i+1) s'.heap/\∀b∈fp,H' b=none:=λ{s' H' Y} Ix=>by
    refine⟨T.keep _ _ _ a7 λb U o e=>(Ix.pin (b,o) (W2 _ (W2 _ (d7 U e)))).1,λb U=>?_⟩;obtain⟨o,e,d⟩:=T.obj _ _ a7 b U;exact(Ix.pin (b,o) (W2 _ (W2 _ (d7 U e)))).2.1
   have c1:(gH cap σ).length=a2.length:=by rw[I6.len,I1.len]
   cases ok with
   |false=>
    have n7:N ys H7:=by simpa using q7
    obtain⟨m',hm,w7⟩:=hN _ _ n7;exact⟨m',hm,i+1,ys,its,k,H7,I7.unpinned.weak c1 c5,⟨rv,dk⟩,(a4 I7).1,(a4 I7).2,w7⟩
   |true=>
    have q7:tk a2 H7 λx H4=>∃k',x=kV k'/\tv a2 H4 λv H5=>N (putK ys k' v) H5:=by simpa using q7
    refine thn (hk C _ s7 a2 H7 _ I7 q7) λuk d8 ⟨xk,c6,d0,c9,kk,ek,c8⟩=>?_;subst ek;refine thn (he C _ d8 a2 c6 _ d0 c8) λu8 s8 ⟨v,H8,I8,r8,n8⟩=>?_;obtain⟨eD,nD,_,c7,_⟩:=I8.pin (D,k) (W2 _ (ZJ _ aav));have lv:=rv.length;refine afw (m_ c9) (dk.at eD) (λh9 d2 d5=>?_) 1.11;obtain⟨m',hm,w8⟩:=hN _ _ n8;obtain⟨o9,eN,b4⟩:=DO.of d2;have I9:Inv 1.23 (lE fp s5.heap) a2 H8 {s8 with heap:=h9,toks:=s8.toks+1}:=by
     refine Inv.turned (it:=D) (t':=s8.toks+1) (I8.pins_of λp F=>I8.pin p (W2 _ (W2 _ F))) (λb o U e=>d5.extBut b o U e) nD a6 (.inr (by rw[←hD];exact ZQ _)) (λx c e z=>?_) (λp F z=>?_)
     .obtain⟨vc,oc,h1,_⟩:=I.cell x c (jl I O e)
      have hh:=ZP h1;rw[z,hD]at hh;exact aaV _ hh
     .have F:p∈lE fp s5.heap:=F
      have hh:=a9 p.1 (tG F).1;rw[z]at hh;exact aaV _ hh
    refine⟨m',hm,i+1,putK ys kk v,aeV its kk u8,o9,H8,(I9.weak c1 c5).pins_of (λp F=>?_),⟨rv.put kk r8,b4⟩,?_,λb U=>?_,w8⟩
    .have e:p=(D,o9):=Z7.mp F
     rw[e];exact⟨eN,nD,a6,c7,b4.nc⟩
    .exact T.keep _ _ _ a7 λb U o e=>(I9.pin (b,o) (W2 _ (d7 U e))).1
    .obtain⟨o,e,d⟩:=T.obj _ _ a7 b U
     exact(I9.pin (b,o) (W2 _ (d7 U e))).2.1
 exact codeAny_compStart_dict b0 (T.self _ 0 _ _ _ c0 b0)
theorem Nt(hx:X.xe=NoX)(Z:X.calm=true)(O:eG X.env.scope X.N N' scope cap)(hi:PI X target iter wi)
  (hg:∀C a0 H fp,PG 1.46 target g) (ht:∀C a0 H fp,PTs 1.46 ifs tt) (hk:∀C a0 H fp,PE 1.46 kx tk) (V:∀C a0 H fp,PE 1.46 vx tv)
  (B:∀x,aa8 iter X.env x=pure x:=by intro _;rfl):PE X (.DictComp kx vx [⟨target,iter,ifs,0⟩] scope pos) (Et cap wi g tt tk tv):=by
 intro pins s σ H Q I h;rw[arm_eval_DictComp];dsimp only;refine ac5 (use:=none) rfl B (lD λy hy hk=>I.ok.has y.1 (O.free y hy hk)) O.kind O.nm (thn (hi pins s σ H _ I h) λv F h1=>thn h1 λa5 s2 h2=>?_);obtain⟨it,fp,tn,J,H2,e,I2,T,a1,f2,cw⟩:=h2;subst e;refine tY (RR:=λacc C=>compPost 1.12 X.A X.xe none 1.63 acc C) Z O I2 T a1 f2 (λC=>hg C _ _ _) (λC=>ht C _ _ _) (λC=>hk C _ _ _) (λC=>V C _ _ _) cw ?_;intro D C s' H' ys its o Y hD hC a3 I' rv dk q;obtain⟨hz,q⟩:=q;obtain⟨m,a4,_⟩:=I'.loc;refine⟨m,a4,λh' sb=>?_⟩;obtain⟨eD,nD,_,a6,_⟩:=I'.pin (D,o) (W2 _ aav);have a2:Inv X pins σ (upd H' D (.dK ys)) {s' with heap:=h'}:=by
  refine I2.call' (ch:=fp) I'.os ?_ ?_ I'.bare (λb U=>⟨(f2 b U).2.2.2.1,(f2 b U).2.1,(f2 b U).2.2.2.2.1,(f2 b U).2.2.2.2.2⟩)
  .have ne:∀b o,s2.heap.get? b=some o->b≠C/\b≠D:=λb o e=>⟨Z5 (Z4 (ZP e) hC),Z5 (Z4 (ZP e) hD)⟩
   refine⟨λb o e n U V=>sb.extBut b o (ne b o e).1 (I'.base.keep b o e n U V),λb o e n U V=>?_,λb o e n V=>?_,λb o e V=>?_,λb xs e=>?_,λb o u e=>?_,λb ps e=>?_⟩
   .obtain⟨sl,e1⟩:=I'.base.slot b o e n U V
    exact⟨sl,sb.extBut b _ (ne b o e).1 e1⟩
   .rw[aQ (ne b o e).2]
    exact I'.base.free b o e n V
   .obtain⟨o',e1⟩:=I'.base.there b o e V
    exact⟨o',sb.extBut b _ (ne b o e).1 e1⟩
   .have e1:=I'.base.tups b xs e
    rw[aQ (aV e1 nD)];exact e1
   .have e1:=I'.base.frzs b o u e
    rw[aQ (aV e1 nD)];exact e1
   .obtain⟨more,e1⟩:=I'.base.tbls b ps e
    refine⟨more,?_⟩;rw[aQ (aV e1 nD)];exact e1
  .intro b u e
   by_cases U:b=D
   .subst U
    rw[aZ]at e;cases e;exact⟨hz,aba.mpr (aay (Z5 (Z4 I2.big hD))),its,rv,dk.at (sb.extBut _ _ a3 eD)⟩
   .rw[aQ U]at e
    have nC:∀b u,H' b=some u->b≠C:=λb u e z=>by
     have hf:H' C=none:=I'.free;rw[z,hf]at e;cases e
    refine(I'.hok b u e).stay (λc v Z q=>sb.extBut c v ?_ q) (λc q=>by rw[aQ (aV q nD)];exact q) λc xs q=>by rw[aQ (aV q nD)];exact q
    rcases Z with z|z
    .rw[z]
     exact nC b u e
    .exact nC c _ z
 exact⟨.ref D,_,a2,rfl,q D nD⟩
end
theorem oY{F:α->β->Prop}:∀{xs:List α}{ys:List β},aef F xs ys->∀{i:Nat}{a:α}{b:β},xs[i]? =some a->ys[i]? =some b->F a b
 |_,_,.nil,i,a,b,h,_=>by simp at h
 |_,_,.cons p r,0,a,b,h1,h2=>by cases h1;cases h2;exact p
 |_,_,.cons p r,i+1,a,b,h1,h2=>oY r (i:=i) (by simpa using h1) (by simpa using h2)
theorem J3{Y:L2.St}{H2 H':Hp}{O:Pr}{D:Addr}{ob:HO}(I2:Inv X pins σ H2 O)(B:∀b∈fp,lB X pins H2 b)
  (hD:O.heap.objs.size<=D) (F:O.heap.objs.size<=C) (I:D≠C) (J:Inv (bO X N' scope C O H2 fp) [(D,o)] Y H' s') (new:∀h',h'.get? D=some o->cM X.prog X.w (upd H' D ob) h' D ob)
  (h':Heap) (sb:ab9 C s'.heap h'):Inv X pins σ (upd H' D ob) {s' with heap:=h'}:=by
 obtain⟨eD,nD,_,a0,_⟩:=J.pin (D,o) (W2 _ aav);refine I2.call' (ch:=fp) J.os ?_ ?_ J.bare (λb U=>⟨(B b U).2.2.2.1,(B b U).2.1,(B b U).2.2.2.2.1,(B b U).2.2.2.2.2⟩)
 .have ne:∀b o,O.heap.get? b=some o->b≠C/\b≠D:=λb o e=>⟨Z5 (Z4 (ZP e) F),Z5 (Z4 (ZP e) hD)⟩
  refine⟨λb o e n U V=>sb.extBut b o (ne b o e).1 (J.base.keep b o e n U V),λb o e n U V=>?_,λb o e n V=>?_,λb o e V=>?_,λb xs e=>?_,λb o u e=>?_,λb ps e=>?_⟩
  .obtain⟨sl,e1⟩:=J.base.slot b o e n U V
   exact⟨sl,sb.extBut b _ (ne b o e).1 e1⟩
  .rw[aQ (ne b o e).2]
   exact J.base.free b o e n V
  .obtain⟨o',e1⟩:=J.base.there b o e V
   exact⟨o',sb.extBut b _ (ne b o e).1 e1⟩
  .have e1:=J.base.tups b xs e
   rw[aQ (aV e1 nD)];exact e1
  .have e1:=J.base.frzs b o u e
   rw[aQ (aV e1 nD)];exact e1
  .obtain⟨more,e1⟩:=J.base.tbls b ps e
   refine⟨more,?_⟩;rw[aQ (aV e1 nD)];exact e1
 .intro b u e
  by_cases U:b=D
  .subst U
   rw[aZ]at e;cases e;exact new h' (sb.extBut _ _ I eD)
  .rw[aQ U]at e
   have nC:∀b u,H' b=some u->b≠C:=λb u e z=>by
    have hf:H' C=none:=J.free;rw[z,hf]at e;cases e
   refine(J.hok b u e).stay (λc v Z q=>sb.extBut c v ?_ q) (λc q=>by rw[aQ (aV q nD)];exact q) λc xs q=>by rw[aQ (aV q nD)];exact q
   rcases Z with z|z
   .rw[z]
    exact nC b u e
   .exact nC c _ z
section
variable{X:Cx}{elt kx vx target iter:Expr}{ifs:List Expr}{scope:Scope}{pos pos' pos2:Pos}{N':List Str}{cap:List (Option Nat)}{wi:TI}{g:TG}{tt:TT}{te tk tv:TE}
theorem Q6{pins:List (Addr×Obj)}{σ Y:L2.St}{H2 H':Hp}{O s':Pr}{fp:List Addr}{D C:Addr}{o:Obj}{ob:HO}{i:Nat}{x:Str}{Dn:Ends}(I2:Inv X pins σ H2 O)(B:∀b∈fp,lB X pins H2 b)
  (hD:O.heap.objs.size<=D) (F:O.heap.objs.size<=C) (I:D≠C) (I':Inv (bO X N' scope C O H2 fp) [(D,o)] Y H' s') (new:∀h',h'.get? D=some o->cM X.prog X.w (upd H' D ob) h' D ob)
  (hN:X.N.Nodup) (hi:X.N[i]? =some x) (J:Loc X.env.scope x) (hf:X.fn x=true∨X.env.scope.names.lookup x=some .local) (q:Dn.nx (σ.set i (some (.ref D))) (upd H' D ob)) :
  wpAny 1.12 X.A (assignAll (.ref D) ((aaT [.Name x pos'] X.env).map (·.2))) (λ_ a0=>∃m,a0.heap.Ns C m/\∀h',ab9 C a0.heap h'->SP X pins Dn .next {a0 with heap:=h'}) X.xe s':=by
 have I3:Inv X pins σ (upd H' D ob) s':=J3 I2 B hD F I I' new s'.heap ⟨rfl,λ_ _=>rfl⟩;obtain⟨m,a1,_⟩:=I'.loc;obtain⟨a4,nD,_,a5,_⟩:=I'.pin (D,o) (W2 _ aav);have a1:s'.heap.Ns C m:=a1;have a2:upd H' D ob C=none:=by
  rw[aQ (aay I)];exact I'.free
 obtain⟨f0,V,a3,f3,f4,f5⟩:=I2.fpOk F (I2.hok.fresh F);have fC:lB X pins (upd H' D ob) C:=⟨a2,V,a3,f3,f4,f5⟩;obtain⟨oC,es,ep,gC,dC,k1,k2⟩:=a1;have I4:=I3.pinned (fp:=[C]) (λb U=>by rw[Z7.mp U];exact fC) λb U=>⟨oC,by rw[Z7.mp U];exact gC,λv z=>by rw[dC]at z;cases z⟩;have Z:assignAll (.ref D) ((aaT [.Name x pos'] X.env).map (·.2))=acX (.Name x pos') X.env (.ref D):=by
  unfold assignAll;simp[aaT]
 rw[Z];refine wpAny_assign_Name (jt I4 hN hi J (v:=.ref D) rfl (λa0 I5=>⟨m,?_,λh' sb=>?_⟩) hf)
 .exact⟨oC,es,ep,(I5.pin (C,oC) (W2 _ (W2 _ (d7 (Z7.mpr rfl) gC)))).1,dC,k1,k2⟩
 .exact⟨_,_,I5.unpinned.turned (t':=a0.toks) (λb o U e=>sb.extBut b o U e) a2 V f3 f4 f5,q⟩
theorem Qm{i:Nat}{x:Str}(hx:X.xe=NoX)(Z:X.calm=true)(U:X.N.Nodup)(hi:X.N[i]? =some x)(hl:Loc X.env.scope x)(O:eG X.env.scope X.N N' scope cap)(a1:PI X target iter wi)
  (hg:∀C a0 H fp,PG 1.46 target g) (ht:∀C a0 H fp,PTs 1.46 ifs tt) (hk:∀C a0 H fp,PE 1.46 kx tk) (V:∀C a0 H fp,PE 1.46 vx tv)
  (hw:abS (.DictComp kx vx [⟨target,iter,ifs,0⟩] scope pos) (some (.Name x pos')) pos2.line X.env=pure true:=by rfl) (B:∀x,aa8 iter X.env x=pure x:=by intro _;rfl)
  (hf:X.fn x=true∨X.env.scope.names.lookup x=some .local:=by first|exact .inl rfl|exact .inr rfl|assumption):PS X (.Assign [.Name x pos'] (.DictComp kx vx [⟨target,iter,ifs,0⟩] scope pos) pos2) (QL (Et cap wi g tt tk tv) (yH i)):=by
 intro pins s σ H Dn I h;rw[aeA];refine gD (aci ?_);rw[show ab0 [.Name x pos'] (.DictComp kx vx [⟨target,iter,ifs,0⟩] scope pos) pos2.line X.env=pure true from hw];refine gD (ZD ?_);rw[ZV rfl,arm_evalThenUse_DictComp];refine gD (gD (ac5 (use:=some _) rfl B (lD λy hy hk=>I.ok.has y.1 (O.free y hy hk)) O.kind O.nm (thn (a1 pins s σ H _ I h) λv F h1=>thn h1 λa3 s2 h2=>?_)));obtain⟨it,fp,tn,J,H2,e,I2,T,z,f2,cw⟩:=h2;subst e;refine tY (RR:=λacc C=>compPost 1.12 X.A X.xe (some _) _ acc C) Z O I2 T z f2 (λC=>hg C _ _ _) (λC=>ht C _ _ _) (λC=>hk C _ _ _) (λC=>V C _ _ _) cw ?_;intro D C s' H' ys its o Y hD hC a2 I' rv dk q;obtain⟨hz,q⟩:=q;have nD:=(I'.pin (D,o) (W2 _ aav)).2.1;refine thn (Q6 (ob:=.dK ys) (Dn:=Dn) (pos':=pos') I2 f2 hD hC a2 I' (λh' e=>⟨hz,aba.mpr (aay (Z5 (Z4 I2.big hD))),its,rv,dk.at e⟩) U hi hl hf (q D nD)) λ_ a4 ⟨m,h1,h2⟩=>⟨m,h1,λh' sb=>ZD (ZD (h2 h' sb))⟩
end
theorem yD:∀(more:List (Key×V)){kvs:List (Key×V)}{vs z:List (Key×Value)},KV kvs vs->KV more z->KV (putAll kvs more) (merged vs z)
 |[],kvs,vs,_,r,.nil=>r
 |p::m,kvs,vs,_::z,r,.cons h q=>by
  have e1:putAll kvs (p::m)=putAll (putK kvs p.1 p.2) m:=rfl;rw[e1];have:=yD m (r.put p.1 h.2) q;rw[h.1]at this;rw[h.1];exact this
end Jb
namespace PySem
open PySem.Builtin PySem.Builtin.SmallTypes
def zH(id:String):Builtin:=λargs=>do
 let x ←slotArgs "__next__" 0 args
 match x with
 |(self,snd)=>do
  let seq ←field self 0
  let q:Unit->Sem agr:=λ_=>do
   let y ←field self 1
   match y with
   |ab7 i tok=>do
    let z ←seqItems? seq
    match z with
    |some xs=>
     match xs[i.toNat]? with
     |some v=>do
      setField self 1 (acY (i+1))
      ret v
     |none=>do
      rule (toString id++toString ".end")
      setField self 0 aaF
      ad2
    |_=>aeK (toString "internal:"++toString id)
   |_=>aeK (toString "internal:"++toString id)
  if(seq==aaF)=true then do
   rule (toString id++toString ".ended")
   let r ←ad2
   q r
  else q ()
theorem uc:Builtin.«tuple_iterator.__next__»=zH "tuple_iterator.__next__":=rfl
section
variable{prog:Program}{w:World}{A:Around}{E:Value->Shared->Prop}{it t:Addr}{i:Nat}{items:Array Value}{h:Heap}{g:Array GenState}{d:Drawn}{tk:Nat}{os:OsState}
theorem qX{x:Value}{Q:Value->Pr->Prop}(st:h.IsTupleIter it t i)(p:h.IsTuple t items)(J:items[i]? =some x)
  (Y:∀h',h'.IsTupleIter it t (i+1)->ab9 it h h'->Q x ⟨h',g,d,tk,os⟩):wpAny 1.13 A (ab6 (.ref it)) Q E ⟨h,g,d,tk,os⟩:=by
 have V:(⟨h,g,d,tk,os⟩:Pr).TypeIs (.ref it) "tuple_iterator":=st.typeIs;unfold ab6;refine gD (ach V aa6 ?_);obtain⟨o,B,Z,hd⟩:=st;obtain⟨D,h1,h2,n,q⟩:=p
 repeat(any_goals(first|assumption|wp_step))
 refine acL aa6.plain adV (aa6.check _ _ _ _ _ _ _ _ V (adO _) ?_);rw[uc];unfold zH
 repeat(any_goals(first|assumption|wp_step))
 rw[hd];refine ZD (ZD ?_);show wpAny _ _ (if(aac t==aaF)=true then _ else _) _ _ _;rw[show(aac t==aaF)=false from rfl,Z1 aat]
 repeat(any_goals(first|assumption|wp_step))
 rw[hd];refine ZD (ZD ?_);show wpAny _ _ (seqItems? (aac t) >>=_) _ _ _;refine gD (aeZ h1 q ?_);dsimp only;have hi:(i:Int).toNat=i:=adh i;rw[hi,J];dsimp only;refine gD (wpAny_setField B hd (by show 1<2;decide) ?_);refine ZD ?_;dsimp only;refine ZD (Y _ ?_ ⟨af9 ..,λb U=>abn h _ (aay U)⟩);refine⟨_,acA _ B (aeX (adU hd _)),(afY ..).trans Z,?_⟩;rw[adU hd];have e1:(((i+1:Nat)):Int)=(i:Int)+1:=by omega
 rw[e1];rfl
theorem NZ{α:Type}{Q:α->Pr->Prop}(z:A.handled=none)
  (Y:∀h' e,(∀b o,h.get? b=some o->h'.get? b=some o)->(∃o,h'.get? e=some o/\o.cls= .type "StopIteration")->E (.ref e) ⟨h',g,d,tk,os⟩):wpAny 1.13 A (ad2:Sem α) Q E ⟨h,g,d,tk,os⟩:=by
 unfold ad2
 repeat(any_goals(first|assumption|wp_step))
 unfold raiseNew;refine gD (wpAny_handled ?_);rw[z];dsimp only;exact aeJ (Y _ _ (λb o e=>Zz _ (Zz _ e)) ⟨_,Z6 _ rfl,rfl⟩)
theorem lY{Q:Value->Pr->Prop}(z:A.handled=none)(st:h.IsTupleIter it t i)(p:h.IsTuple t items)(J:items[i]? =none)
  (Y:∀h' e,Heap.ExtBut it h h'->(∃o,h'.get? e=some o/\o.cls= .type "StopIteration")->E (.ref e) ⟨h',g,d,tk,os⟩):wpAny 1.13 A (ab6 (.ref it)) Q E ⟨h,g,d,tk,os⟩:=by
 have O:(⟨h,g,d,tk,os⟩:Pr).TypeIs (.ref it) "tuple_iterator":=st.typeIs;unfold ab6;refine gD (ach O aa6 ?_);obtain⟨o,B,Z,hd⟩:=st;obtain⟨D,h1,h2,n,h3⟩:=p
 repeat(any_goals(first|assumption|wp_step))
 refine acL aa6.plain adV (aa6.check _ _ _ _ _ _ _ _ O (adO _) ?_);rw[uc];unfold zH
 repeat(any_goals(first|assumption|wp_step))
 rw[hd];refine ZD (ZD ?_);show wpAny _ _ (if(aac t==aaF)=true then _ else _) _ _ _;rw[show(aac t==aaF)=false from rfl,Z1 aat]
 repeat(any_goals(first|assumption|wp_step))
 rw[hd];refine ZD (ZD ?_);show wpAny _ _ (seqItems? (aac t) >>=_) _ _ _;refine gD (aeZ h1 h3 ?_);dsimp only;have hi:(i:Int).toNat=i:=adh i;rw[hi,J];dsimp only;refine gD (acI ?_);refine gD (wpAny_setField B hd (by show 0<2;decide) ?_);refine NZ (show A.in1.handled=none from z) λh' e I V=>?_;exact Y h' e (λb ob U q=>I b ob ((abn h _ (aay U)).trans q)) V
theorem Draws.tuple(z:A.handled=none)(it t:Addr)(Z:t≠it)(items:Array Value):Draws prog w A it [it,t] items.size (λi v=>items[i]? =some v) λi h=>h.IsTupleIter it t i/\h.IsTuple t items where
 live:=λi h st=>let⟨o,ho,_⟩:=st.1;⟨o,ho⟩
 frame:=λi h h' st k=>⟨st.1.at λo e=>k it (by simp) o e,let⟨o,h1,h2⟩:=st.2;⟨o,k t (by simp) o h1,h2⟩⟩
 item:=λi s Q E hi st k=>by
  obtain⟨h,g,d,tk,os⟩:=s;refine qX st.1 st.2 (x:=items[i]) (by simp[hi]) λh' Y D=>k _ h' tk (by simp[hi]) ⟨Y,?_⟩ D;obtain⟨o,h1,h2⟩:=st.2;exact⟨o,(D.2 t Z).trans h1,h2⟩
 done:=λs Q E st k=>by
  obtain⟨h,g,d,tk,os⟩:=s;exact lY z st.1 st.2 (by simp) λh' e B V=>k h' e B V
theorem Draws.tupleEnd(z:A.handled=none)(it t:Addr)(i:Nat)(items:Array Value)(J:items[i]? =none):Draws prog w A it [it,t] i (λ_ _=>False) λj h=>j=i/\h.IsTupleIter it t i/\h.IsTuple t items where
 live:=λj h st=>let⟨o,ho,_⟩:=st.2.1;⟨o,ho⟩
 frame:=λj h h' st k=>⟨st.1,st.2.1.at λo e=>k it (by simp) o e,let⟨o,h1,h2⟩:=st.2.2;⟨o,k t (by simp) o h1,h2⟩⟩
 item:=λj s Q E F st k=>absurd st.1 (Z5 F)
 done:=λs Q E st k=>by
  obtain⟨h,g,d,tk,os⟩:=s;exact lY z st.2.1 st.2.2 J λh' e B V=>k h' e B V
theorem vV{Q:agr->Pr->Prop}(F:h.IsTuple t items)
  (Y:Q (.done (.ret (.ref (h.objs.size+1)))) ⟨(h.push {cls:=.type "tuple_iterator",data:=.fields #[.ref t,.int 0 0]}).push {cls:=.type "enumerate",data:=.fields #[.none,.bool false,.ref h.objs.size,acY 0,.none,.none]},g,d,tk,os⟩) :
  wpAny 1.13 A (Builtin.«enumerate.__new__» ⟨[.type "enumerate",.ref t],[]⟩) Q E ⟨h,g,d,tk,os⟩:=by
 have V:=sub_enumerate
 repeat(any_goals(first|assumption|wp_step))
 refine wpAny_stack λst _ _ _=>?_;refine ZD ?_;have q:wpAny 1.13 A (do let it ←aeQ (.ref t);let r ←agm (ab5 "enumerate") (afT++[it,acY 0,aaF,aaF]);ret r) Q E ⟨h,g,d,tk,os⟩:=by
  refine gD (wpAny_pyIter_tuple F ?_)
  repeat(any_goals(first|assumption|wp_step))
  rw[aaX];exact Y
 dsimp only;split
 .split
  .refine gD (adQ (a:=(aac t,none)) (by rfl) ?_)
   exact q
  .refine gD (adQ (a:=(aac t,none)) (by rfl) ?_)
   exact q
 .rw[Z1 (by decide)]
  refine gD (adQ (a:=(aac t,none)) (by rfl) ?_);exact q
theorem oO{Q:Value->Pr->Prop}(q:h.IsTuple t items)
  (Y:∀h',IsEnum h' (h.objs.size+1) h.objs.size 0 .none->h'.IsTupleIter h.objs.size t 0->h'.objs.size=h.objs.size+2->(∀b o,h.get? b=some o->h'.get? b=some o)->Q (.ref (h.objs.size+1)) ⟨h',g,d,tk,os⟩) :
  wpAny 1.13 A (call (.type "enumerate") [.ref t]) Q E ⟨h,g,d,tk,os⟩:=by
 have e1:((h.push {cls:=.type "tuple_iterator",data:=.fields #[.ref t,.int 0 0]}).push {cls:=.type "enumerate",data:=.fields #[.none,.bool false,.ref h.objs.size,acY 0,.none,.none]}).get? (h.objs.size+1)=some {cls:=.type "enumerate",data:=.fields #[.none,.bool false,.ref h.objs.size,acY 0,.none,.none]}:=by
  rw[←aaX h {cls:=.type "tuple_iterator",data:=.fields #[.ref t,.int 0 0]}];exact Z6 _ rfl
 refine callType_newIn F.called_enumerate (by decide) (F.typeCall_enumerate_1 _) (F.newCall_enumerate_1 _) (λobj=>F.args_object_init_2 _ _) F.entry_enumerate_new (S:=λO R s'=>s'=⟨h,g,d,tk,os⟩/\R (.ok (.ret (.ref (h.objs.size+1)))) ⟨(h.push {cls:=.type "tuple_iterator",data:=.fields #[.ref t,.int 0 0]}).push {cls:=.type "enumerate",data:=.fields #[.none,.bool false,.ref h.objs.size,acY 0,.none,.none]},g,d,tk,os⟩) ?_ ⟨rfl,⟨⟨_,e1,rfl⟩,Y _ e1 ⟨_,Zz _ (Z6 _ rfl),rfl,rfl⟩ (by rw[aaX,aaX]) λb o e=>Zz _ (Zz _ e)⟩⟩;rintro O R s' ⟨rfl,B⟩;exact vV q B
end
end PySem
namespace Jb
open PySem PySem.Spec PyProof.Rows L2
def YJ(K:ZC)(a:Addr):It:=
 ⟨λi H=>∃xs x,SqT K H a xs/\xs[i]? =some x,λi H x H'=>∃p v,H p=none/\x= .ref p/\(∀xs,SqT K H a xs->xs[i]? =some v)/\H'=upd H p (.tup [.int i,v]),λi H=>∃xs,SqT K H a xs/\xs.length<=i⟩
theorem El{K:ZC}{x1}(a e it:Addr)(a3:e≠it)(a6:e≠a)(b3:it≠a) :
  Turn P w K (.Tuple elts x1 pos) (YJ K a) [e,it] e (λi h=>(∃a0,IsEnum h e it (i:Int) a0)/\h.IsTupleIter it a i)where
 mem:=by simp
 obj:=λi h st b U=>by
  obtain⟨⟨a0,V⟩,o,B,c,d⟩:=st;rcases ZR.mp U with z|z
  .subst z
   exact⟨_,V,λv z=>by cases z⟩
  .have z:b=it:=by simpa using z
   subst z;exact⟨o,B,λv z=>by rw[d]at z;cases z⟩
 keep:=λi h h' st k=>by
  obtain⟨⟨a0,V⟩,a1⟩:=st;exact⟨⟨a0,k e (by simp) _ V⟩,a1.at λo q=>k it (by simp) o q⟩
 item:=by
  intro X hP hw hK Z i pins s σ H E I D st hg;subst hP hw hK;obtain⟨xs,x,Y,J⟩:=hg;obtain⟨its,F,p,hz⟩:=I.tuple Y;obtain⟨u,hu,ru⟩:=F.get J;obtain⟨⟨a0,V⟩,a1⟩:=st;have a7:i<its.toArray.size:=by simp;exact(List.getElem?_eq_some_iff.mp hu).1
  have p':s.heap.IsTuple a its.toArray:=p;refine wpAny_pyNext_enum_itemD (Draws.tuple (show X.A.in1.handled=none from I.ok.hd Z) it a (aay b3) its.toArray) V ⟨a1,p'⟩ a7 a3 (λz=>by rcases ZR.mp z with q|q;exact a3 q;exact a6 (Z7.mp q)) λy h1 tk hy b2 a4 b1 b4 k1=>?_;have ey:y=u:=by
   have:its[i]? =some y:=by simpa using hy
   rw[hu]at this;exact(aaD this).symm
  subst ey;refine⟨.ref s.heap.objs.size,rfl,ad1 b2 λh2 a9 a2=>?_⟩;have b0:e<s.heap.objs.size:=ZP V;have a5:s.heap.objs.size≠e:=abC b0;have a8:h2.get? s.heap.objs.size=some {cls:=.type "tuple",data:=.seq #[.int i tk,y]}:=a2.extBut _ _ a5 b1;have I2:Inv X pins σ (upd H s.heap.objs.size (.tup [.int i,x])) {s with heap:=h2,toks:=tk+1}:=by
   refine wC (fp:=[e,it]) (t':=tk+1) I D (λb o U q=>?_) (ZQ _) ?_
   .have n1:b≠e:=λz=>U (by simp[z])
    have n2:b≠it:=λz=>U (by simp[z]);exact a2.extBut b o n1 (k1 b o n1 n2 q)
   .exact⟨by show 2<=ZM;decide,[.int i tk,y],.cons ⟨_,rfl⟩ (.cons ru .nil),_,a8,rfl,_,rfl,rfl⟩
  refine⟨.ref s.heap.objs.size,upd H s.heap.objs.size (.tup [.int i,x]),I2,rfl,⟨_,x,I.hok.fresh (ZQ _),rfl,λys hy=>by rw[I.tuple_inj hy Y];exact J,rfl⟩,?_,λb U=>?_⟩
  .refine⟨⟨y,?_⟩,a4.1.extBut a2.extBut (aay a3)⟩
   have e1:(((i+1:Nat)):Int)=(i:Int)+1:=by omega
   rw[e1];exact a9
  .rw[aQ]
   .exact(D b U).1
   .intro z
    rw[z]at U;rcases ZR.mp U with q|q
    .exact a5 q
    .have q:s.heap.objs.size=it:=by simpa using q
     obtain⟨o,B,_⟩:=a1;exact absurd (ZP B) (by rw[q];exact aaV _)
 done:=by
  intro X hP hw hK Z i pins s σ H E I D st hg;subst hP hw hK;obtain⟨xs,Y,J⟩:=hg;obtain⟨its,F,p,hz⟩:=I.tuple Y;obtain⟨⟨a0,V⟩,a1⟩:=st;have O:=F.length;have p':s.heap.IsTuple a its.toArray:=p;refine wpAny_pyNext_enum_endD (Draws.tupleEnd (show X.A.in1.handled=none from I.ok.hd Z) it a i its.toArray (by simp;omega)) V ⟨rfl,a1,p'⟩ λh1 eb=>⟨rfl,?_⟩;exact lZ (fp:=[e,it]) (t':=s.toks) I D λb o U q=>eb b o (λz=>U (by simp[z])) q
 self:=λA i s Q E st h=>by
  obtain⟨⟨a0,V⟩,_⟩:=st;exact adk V h
def Li(K:ZC)(ta:TA):TI:=λσ H R=>ta σ H λvs H1=>∃a,vs=[.ref a]/\(((∃xs,SqL K H1 a xs)/\R (Ite K a) H1)∨((∃xs,SqT K H1 a xs)/\R (YJ K a) H1))
variable{X:Cx}{p:Pos}
theorem Ko{a:Expr}{ta:TA}{x1}(hg:Gl X "enumerate")(J:X.mg "enumerate"=none)(Y:PA X [a] ta)(B:ZK [a] X.env=[(false,eval a X.env)]:=by rfl):PI X (.Tuple elts x1 tpos) (.Call (.Name "enumerate" p) [a] [] pos) (Li X.K ta):=by
 intro pins s σ H R I h;refine Call_ (mG I hg J boot_enumerate (aa2 (thn (Y pos pins s σ H _ I h) λus F ⟨vs,H1,I1,Z,q1⟩=>?_) B rfl));obtain⟨l,e,q⟩:=q1;subst e;obtain⟨u,rfl,ru⟩:=vals1 Z;cases ru;have D:∀b∈[F.heap.objs.size+1,F.heap.objs.size],lB X pins H1 b:=λb U=>by
  have a1:F.heap.objs.size<=b:=by
   rcases ZR.mp U with z|z
   .rw[z];exact adP _
   .have z:b=F.heap.objs.size:=by simpa using z
    rw[z];exact ZQ _
  exact I1.fpOk a1 (I1.hok.fresh a1)
 rcases q with⟨⟨xs,hq⟩,q⟩|⟨⟨xs,hq⟩,q⟩
 .obtain⟨its,rv,pl,hz⟩:=I1.list hq
  refine call_enumerate_list pl.isList λh1 V a0 hsz k1=>?_;have I2:Inv X pins σ H1 {F with heap:=h1}:=I1.kept (t':=F.toks) k1;refine adk V ?_;exact⟨F.heap.objs.size+1,[F.heap.objs.size+1,F.heap.objs.size],_,_,H1,rfl,I2,Ie l _ _ (af_ _),⟨⟨_,V⟩,a0⟩,D,q⟩
 .obtain⟨its,rv,pl,hz⟩:=I1.tuple hq
  have O:F.heap.IsTuple l its.toArray:=pl;have a2:l<F.heap.objs.size:=let⟨_,h1,_⟩:=O;ZP h1;obtain⟨hp,g,d,tk,os⟩:=F;refine oO O λh1 V a0 hsz k1=>?_;have I2:Inv X pins σ H1 {heap:=h1,gens:=g,drawn:=d,toks:=tk,os:=os}:=I1.kept (t':=tk) k1;refine adk V ?_;exact⟨hp.objs.size+1,[hp.objs.size+1,hp.objs.size],_,_,H1,rfl,I2,El l _ _ (af_ _) (abC (ab3 a2)) (abC a2),⟨⟨_,V⟩,a0⟩,D,q⟩
def W5(K:ZC)(te:TE):TI:=λσ H R=>te σ H λx H1=>∃a,x= .ref a/\(((∃xs,SqL K H1 a xs)/\R (Itl K a) H1)∨((∃xs,SqT K H1 a xs)/\R (Itt K a) H1))
variable{te:TE}
theorem U9(O:PE X e te):PI X tg e (W5 X.K te):=by
 intro pins s σ H R I h;refine thn (O pins s σ H _ I h) λv F ⟨x,H1,z,Z,q1⟩=>?_;obtain⟨a,ex,q⟩:=q1;subst ex;cases Z;have D:∀b∈[F.heap.objs.size],lB X pins H1 b:=λb U=>by
  rw[Z7.mp U];exact z.fpOk (ZQ _) (z.hok.fresh (ZQ _))
 rcases q with⟨⟨xs,Y⟩,q⟩|⟨⟨xs,Y⟩,q⟩
 .obtain⟨its,rv,p,hz⟩:=z.list Y
  refine acu p.isList ?_;exact⟨F.heap.objs.size,[F.heap.objs.size],_,_,H1,rfl,z.kept (t':=F.toks) λb o e=>Zz _ e,JG a _,⟨_,Z6 _ rfl,rfl,rfl⟩,D,q⟩
 .obtain⟨its,rv,p,hz⟩:=z.tuple Y
  refine wpAny_pyIter_tuple (show F.heap.IsTuple a its.toArray from p) ?_;exact⟨F.heap.objs.size,[F.heap.objs.size],_,_,H1,rfl,z.kept (t':=F.toks) λb o e=>Zz _ e,Fx a _,⟨_,Z6 _ rfl,rfl,rfl⟩,D,q⟩
inductive Mk where
 |own|frz|brw|bro|scr
 deriving DecidableEq
set_option genSizeOf true in
inductive D where
 |non|bl (b:Bool)|int (i:Int)|str (x:Str)|ty (n:String)
 |tup (ds:List D)
 |lst (m:Mk) (ds:List D)
 |dct (m:Mk) (ks:List Key) (ds:List D)
 |ins (m:Mk) (c:Str) (fs:List Str) (ds:List D)
structure Gc where
 K:ZC
 mg:Str->Option Value
structure Wn where
 n:Addr->Prop
 s:Addr->Prop
 o:Addr->Prop
def Wn.free(W:Wn)(a:Addr):Prop:=¬W.n a/\¬W.s a/\¬W.o a
def KO(K:ZC)(a:Addr)(o:HO):Prop:=∃xs,o= .lst xs/\∃(ob:Obj)(its:Array Value)(n:Nat),K.lookup a=some ob/\ob.cls= .type "list"/\ob.dict=none/\ob.data= .seq its n/\its.size<=ZM/\Vals xs its.toList
def dZ(D:Addr->HO->Prop)(H:Hp)(W:Wn)(a:Addr)(o:HO):Mk->List Addr->List Addr->Prop
 |.own,L,M=>H a=some o/\L=a::M
 |.frz,L,M=>H a=some o/\W.free a/\M=[]/\L=[]
 |.brw,L,M=>H a=some o/\W.s a/\M=[]/\L=[]
 |.bro,L,M=>H a=some o/\M=[]/\L=[]
 |.scr,L,M=>((Rd H a o/\W.free a)∨D a o)/\M=[]/\L=[]
variable{H:Hp}{W:Wn}{o:HO}{m:Mk}
theorem dZ.sub{D:Addr->HO->Prop}(h:dZ D H W a o m L M):abg M L:=by
 cases m with
 |own=>rw[h.2];exact List.sublist_cons_self a M
 |frz=>rw[h.2.2.1];exact adx L
 |brw=>rw[h.2.2.1];exact adx L
 |bro=>rw[h.2.1];exact adx L
 |scr=>rw[h.2.1];exact adx L
theorem dZ.rx{D:Addr->HO->Prop}(h:dZ D H W a o m L M):Rd H a o∨D a o:=by
 cases m with
 |own=>exact .inl (.inl h.1)
 |frz=>exact .inl (.inl h.1)
 |brw=>exact .inl (.inl h.1)
 |bro=>exact .inl (.inl h.1)
 |scr=>exact h.1.imp (λz=>z.1) id
variable{xs:List V}
theorem dZ.sq{K:ZC}(h:dZ (KO K) H W a (.lst xs) m L M):SqL K H a xs:=by
 rcases h.rx with z|⟨ys,e,z⟩
 .exact .inl z
 .cases e
  exact .inr z
variable{kvs:List (Key×V)}
theorem dZ.rdD{K:ZC}(h:dZ (KO K) H W a (.dK kvs) m L M):Rd H a (.dK kvs):=by
 rcases h.rx with z|⟨ys,e,z⟩
 .exact z
 .cases e
theorem dZ.at{D:Addr->HO->Prop}(h:dZ D H W a o m L M)(J:m≠.scr):H a=some o:=by
 cases m with
 |own=>exact h.1
 |frz=>exact h.1
 |brw=>exact h.1
 |bro=>exact h.1
 |scr=>exact absurd rfl J
mutual
noncomputable def Rep(G:Gc)(H:Hp)(W:Wn):D->V->List Addr->Prop
 |.non,v,L=>v= .non/\L=[]
 |.bl b,v,L=>v= .bl b/\L=[]
 |.int i,v,L=>v= .int i/\L=[]
 |.str x,v,L=>v= .str x/\L=[]
 |.ty n,v,L=>v= .ty n/\L=[]
 |.tup ds,v,L=>∃a xs,v= .ref a/\H a=some (.tup xs)/\aF G H W ds xs L
 |.lst m ds,v,L=>∃a xs M,v= .ref a/\aF G H W ds xs M/\dZ (KO G.K) H W a (.lst xs) m L M
 |.dct m ks ds,v,L=>∃a kvs M,v= .ref a/\(Z9 (·.1) kvs=ks/\ks.Nodup)/\aF G H W ds (Z9 (·.2) kvs) M/\dZ (KO G.K) H W a (.dK kvs) m L M
 |.ins m c fs ds,v,L=>∃a C dx kvs M,v= .ref a/\G.mg c=some (.ref C)/\Z9 (·.1) kvs=fs/\aF G H W ds (Z9 (·.2) kvs) M/\dZ (KO G.K) H W a (.ins C dx kvs) m L M
noncomputable def aF(G:Gc)(H:Hp)(W:Wn):List D->List V->List Addr->Prop
 |[],xs,L=>xs=[]/\L=[]
 |d::r,xs,L=>∃x ys M M',xs=x::ys/\L=M++M'/\Rep G H W d x M/\aF G H W r ys M'
end
variable{G:Gc}
theorem aF.nil:aF G H W [] [] []:=by simp[aF]
theorem aF.cons{d:D}{r:List D}{x:V}{ys:List V}{M M':List Addr}(h:Rep G H W d x M)(t:aF G H W r ys M'):aF G H W (d::r) (x::ys) (M++M'):=by
 rw[aF];exact⟨x,ys,M,M',rfl,rfl,h,t⟩
variable{d:D}
theorem aF.one{x:V}(h:Rep G H W d x M):aF G H W [d] [x] M:=by
 have:=aF.cons h aF.nil;rwa[List.append_nil]at this
theorem aF.inv{r:List D}(h:aF G H W (d::r) xs L):∃x ys M M',xs=x::ys/\L=M++M'/\Rep G H W d x M/\aF G H W r ys M':=by
 rw[aF]at h;exact h
theorem aF.inv0(h:aF G H W [] xs L):xs=[]/\L=[]:=by
 rw[aF]at h;exact h
theorem aF.length:∀{ds:List D}{xs:List V}{L:List Addr},aF G H W ds xs L->ds.length=xs.length
 |[],xs,L,h=>by rw[h.inv0.1];rfl
 |d::r,xs,L,h=>by
  obtain⟨x,ys,M,M',rfl,_,_,h⟩:=h.inv;simp[aF.length h]
theorem aF.append:∀{ds es:List D}{xs ys:List V}{L M:List Addr},aF G H W ds xs L->aF G H W es ys M->aF G H W (ds++es) (xs++ys) (L++M)
 |[],es,xs,ys,L,M,h,h'=>by obtain⟨rfl,rfl⟩:=h.inv0;exact h'
 |d::r,es,xs,ys,L,M,h,h'=>by
  obtain⟨x,zs,A,B,rfl,rfl,h1,h2⟩:=h.inv;rw[aa_];exact .cons h1 (aF.append h2 h')
theorem aF.split:∀{ds es:List D}{xs:List V}{L:List Addr},aF G H W (ds++es) xs L->∃ys zs A B,xs=ys++zs/\L=A++B/\aF G H W ds ys A/\aF G H W es zs B
 |[],es,xs,L,h=>⟨[],xs,[],L,rfl,rfl,.nil,h⟩
 |d::r,es,xs,L,h=>by
  obtain⟨x,zs,A,B,rfl,rfl,h1,h2⟩:=aF.inv (r:=r++es) h;obtain⟨ys,J,O,Y,rfl,rfl,Z,q⟩:=aF.split h2;exact⟨x::ys,J,A++O,Y,rfl,by rw[aa_],.cons h1 Z,q⟩
variable{ds:List D}
theorem aF.at(h:aF G H W ds xs L)(e:ds[j]? =some d) :
  ∃A B x ys zs z M Y,ds=A++d::B/\A.length=j/\xs=ys++x::zs/\ys.length=j/\L=z++(M++Y)/\aF G H W A ys z/\Rep G H W d x M/\aF G H W B zs Y:=by
 have F:j<ds.length:=(List.getElem?_eq_some_iff.mp e).1;have hd:ds=ds.take j++d::ds.drop (j+1):=by
  have:ds[j]=d:=(List.getElem?_eq_some_iff.mp e).2;rw[←this,abQ,adB]
 rw[hd]at h;obtain⟨ys,zs,A,B,rfl,rfl,h1,h2⟩:=aF.split h;obtain⟨x,J,M,M',rfl,rfl,Z,q⟩:=h2.inv;have O:(ds.take j).length=j:=by rw[abe];omega
 exact⟨_,_,x,ys,J,A,M,M',hd,O,rfl,by rw[←h1.length];exact O,rfl,h1,Z,q⟩
theorem aF.get(h:aF G H W ds xs L)(e:ds[j]? =some d):∃x M,xs[j]? =some x/\Rep G H W d x M/\abg M L:=by
 obtain⟨A,B,x,ys,zs,z,M,Y,_,_,rfl,O,rfl,_,h,_⟩:=h.at e;exact⟨x,M,by rw[aaB 1.11,O,acb];rfl,h,(acd M Y).trans (aby z _)⟩
def muO:HO->Bool
 |.lst _=>true
 |.dK _=>true
 |.ins _ _ _=>true
 |_=>false
def Mu(H:Hp)(a:Addr):Prop:=∃o,H a=some o/\muO o=true
mutual
noncomputable def aC:D->Bool
 |.tup ds=>az ds
 |.lst m ds=>m != .brw&&az ds
 |.dct m _ ds=>m != .brw&&az ds
 |.ins m _ _ ds=>m != .brw&&az ds
 |_=>true
noncomputable def az:List D->Bool
 |[]=>true
 |d::r=>aC d&&az r
end
mutual
noncomputable def aB:D->Bool
 |.tup ds=>aA ds
 |.lst m ds=>m != .bro&&aA ds
 |.dct m _ ds=>m != .bro&&aA ds
 |.ins m _ _ ds=>m != .bro&&aA ds
 |_=>true
noncomputable def aA:List D->Bool
 |[]=>true
 |d::r=>aB d&&aA r
end
def clean(d:D):Bool:=aC d&&aB d
structure Evo(H H':Hp)(W W':Wn):Prop where
 k:∀b u,H b=some u->W.free b->H' b=some u/\W'.free b
 t:∀b xs,H b=some (.tup xs)->H' b=some (.tup xs)
def O7(H H':Hp)(W W':Wn):Prop:=∀b u,H b=some u->W.s b->H' b=some u/\W'.s b
variable{H':Hp}{W':Wn}
theorem Evo.rd(e:Evo H H' W W')(h:Rd H a o)(f:W.free a):Rd H' a o/\W'.free a:=by
 rcases h with h|⟨u,h⟩
 .exact⟨.inl (e.k a _ h f).1,(e.k a _ h f).2⟩
 .exact⟨.inr ⟨u,(e.k a _ h f).1⟩,(e.k a _ h f).2⟩
theorem dZ.mono{D:Addr->HO->Prop}(e:Evo H H' W W')(h:dZ D H W a o m L M)(U:m≠.brw∨O7 H H' W W')(B:m≠.bro∨Same H H')(V:∀c∈L,∀u,H c=some u->H' c=some u):dZ D H' W' a o m L M:=by
 cases m with
 |own=>exact⟨V a (by rw[h.2];simp) o h.1,h.2⟩
 |frz=>exact⟨(e.k a o h.1 h.2.1).1,(e.k a o h.1 h.2.1).2,h.2.2⟩
 |brw=>
  have q:=(U.resolve_left λz=>z rfl) a o h.1 h.2.1;exact⟨q.1,q.2,h.2.2⟩
 |bro=>exact⟨(B.resolve_left λz=>z rfl) a o h.1,h.2⟩
 |scr=>exact⟨h.1.imp (λz=>e.rd z.1 z.2) id,h.2⟩
theorem Same.rd(s:Same H H')(h:Rd H a o):Rd H' a o:=h.imp (s _ _) λ⟨u,z⟩=>⟨u,s _ _ z⟩
mutual
theorem Rep.mono(e:Evo H H' W W'):∀{d:D}{v:V}{L:List Addr},Rep G H W d v L->(aC d=true∨O7 H H' W W')->(aB d=true∨Same H H')->(∀c∈L,∀u,H c=some u->H' c=some u)->Rep G H' W' d v L
 |.non,v,L,h,_,_,_=>by rw[Rep]at h⊢;exact h
 |.bl _,v,L,h,_,_,_=>by rw[Rep]at h⊢;exact h
 |.int _,v,L,h,_,_,_=>by rw[Rep]at h⊢;exact h
 |.str _,v,L,h,_,_,_=>by rw[Rep]at h⊢;exact h
 |.ty _,v,L,h,_,_,_=>by rw[Rep]at h⊢;exact h
 |.tup ds,v,L,h,b,o,hl=>by
  rw[Rep]at h⊢;obtain⟨a,xs,rfl,Y,O⟩:=h;exact⟨a,xs,rfl,e.t a xs Y,aF.mono e O (by simpa[aC]using b) (by simpa[aB]using o) hl⟩
 |.lst m ds,v,L,h,b,o,hl=>by
  rw[Rep]at h⊢;obtain⟨a,xs,M,rfl,O,B⟩:=h;exact⟨a,xs,M,rfl,aF.mono e O (b.imp (λz=>by simp[aC]at z;exact z.2) id) (o.imp (λz=>by simp[aB]at z;exact z.2) id) λc Z=>hl c (B.sub.subset Z),B.mono e (b.imp (λz=>by simp[aC]at z;exact z.1) id) (o.imp (λz=>by simp[aB]at z;exact z.1) id) hl⟩
 |.dct m ks ds,v,L,h,b,o,hl=>by
  rw[Rep]at h⊢;obtain⟨a,xs,M,rfl,I,O,B⟩:=h;exact⟨a,xs,M,rfl,I,aF.mono e O (b.imp (λz=>by simp[aC]at z;exact z.2) id) (o.imp (λz=>by simp[aB]at z;exact z.2) id) λc Z=>hl c (B.sub.subset Z),B.mono e (b.imp (λz=>by simp[aC]at z;exact z.1) id) (o.imp (λz=>by simp[aB]at z;exact z.1) id) hl⟩
 |.ins m c fs ds,v,L,h,b,o,hl=>by
  rw[Rep]at h⊢;obtain⟨a,C,dx,xs,M,rfl,F,I,O,B⟩:=h;exact⟨a,C,dx,xs,M,rfl,F,I,aF.mono e O (b.imp (λz=>by simp[aC]at z;exact z.2) id) (o.imp (λz=>by simp[aB]at z;exact z.2) id) λc Z=>hl c (B.sub.subset Z),B.mono e (b.imp (λz=>by simp[aC]at z;exact z.1) id) (o.imp (λz=>by simp[aB]at z;exact z.1) id) hl⟩
theorem aF.mono(e:Evo H H' W W'):∀{ds:List D}{vs:List V}{L:List Addr},aF G H W ds vs L->(az ds=true∨O7 H H' W W')->(aA ds=true∨Same H H')->(∀c∈L,∀u,H c=some u->H' c=some u)->aF G H' W' ds vs L
 |[],vs,L,h,_,_,_=>by rw[aF]at h⊢;exact h
 |d::r,vs,L,h,b,o,hl=>by
  obtain⟨x,ys,M,M',rfl,rfl,h1,h2⟩:=h.inv;exact .cons (Rep.mono e h1 (b.imp (λz=>by simp[az]at z;exact z.1) id) (o.imp (λz=>by simp[aA]at z;exact z.1) id) λb U=>hl b (ZJ _ U))
   (aF.mono e h2 (b.imp (λz=>by simp[az]at z;exact z.2) id) (o.imp (λz=>by simp[aA]at z;exact z.2) id) λb U=>hl b (W2 _ U))
end
structure Up(H H':Hp)(W W':Wn):Prop where
 s:Same H H'
 f:∀b u,H b=some u->W.free b->W'.free b
 n:∀b u,H b=some u->W.s b->W'.s b
theorem Up.evo(u:Up H H' W W'):Evo H H' W W':=⟨λb o h f=>⟨u.s b o h,u.f b o h f⟩,λb xs h=>u.s b _ h⟩
theorem Up.evoN(u:Up H H' W W'):O7 H H' W W':=λb o h f=>⟨u.s b o h,u.n b o h f⟩
theorem Up.refl:Up H H W W:=⟨Same.refl H,λ_ _ _ f=>f,λ_ _ _ f=>f⟩
variable{H2:Hp}{U:Wn}
theorem Up.trans(a:Up H H' W W')(b:Up H' H2 W' U):Up H H2 W U:=⟨a.s.trans b.s,λc u h f=>b.f c u (a.s c u h) (a.f c u h f),λc u h f=>b.n c u (a.s c u h) (a.n c u h f)⟩
variable{v:V}
theorem Rep.up(h:Rep G H W d v L)(u:Up H H' W W'):Rep G H' W' d v L:=h.mono u.evo (.inr u.evoN) (.inr u.s) λc _ o e=>u.s c o e
theorem aF.up{d:List D}{v:List V}(h:aF G H W d v L)(u:Up H H' W W'):aF G H' W' d v L:=h.mono u.evo (.inr u.evoN) (.inr u.s) λc _ o e=>u.s c o e
def Wn.add(W:Wn)(L:List Addr):Wn:=⟨λa=>a∈L∨W.n a,W.s,W.o⟩
theorem Up.add(s:Same H H')(V:∀a∈L,H a=none):Up H H' W (W.add L):=⟨s,λb u h f=>⟨λz=>z.elim (λz=>by rw[V b z]at h;cases h) f.1,f.2⟩,λb u h f=>f⟩
theorem Up.same(s:Same H H'):Up H H' W W:=⟨s,λ_ _ _ f=>f,λ_ _ _ f=>f⟩
def mkV(ob:Bool):Mk->Mk
 |.own=>if ob then .bro else .brw
 |m=>m
def mkF:Mk->Mk
 |.scr=>.scr
 |_=>.frz
mutual
noncomputable def view(ob:Bool):D->D
 |.tup ds=>.tup (cH ob ds)
 |.lst m ds=>.lst (mkV ob m) (cH ob ds)
 |.dct m ks ds=>.dct (mkV ob m) ks (cH ob ds)
 |.ins m c fs ds=>.ins (mkV ob m) c fs (cH ob ds)
 |d=>d
noncomputable def cH(ob:Bool):List D->List D
 |[]=>[]
 |d::r=>view ob d::cH ob r
end
mutual
noncomputable def fz:D->D
 |.tup ds=>.tup (fzL ds)
 |.lst m ds=>.lst (mkF m) (fzL ds)
 |.dct m ks ds=>.dct (mkF m) ks (fzL ds)
 |.ins m c fs ds=>.ins (mkF m) c fs (fzL ds)
 |d=>d
noncomputable def fzL:List D->List D
 |[]=>[]
 |d::r=>fz d::fzL r
end
theorem cP(ob:Bool):∀ds:List D,cH ob ds=ds.map (view ob)
 |[]=>rfl
 |d::r=>by rw[cH,cP ob r];rfl
theorem f9:∀ds:List D,fzL ds=ds.map fz
 |[]=>rfl
 |d::r=>by rw[fzL,f9 r];rfl
theorem dZ.view{D:Addr->HO->Prop}{ob:Bool}(hn:ob=false->∀c∈L,W.s c)(h:dZ D H W a o m L M):dZ D H W a o (mkV ob m) [] []:=by
 cases m with
 |own=>
  cases ob with
  |false=>exact⟨h.1,hn rfl a (by rw[h.2];simp),rfl,rfl⟩
  |true=>exact⟨h.1,rfl,rfl⟩
 |frz=>exact⟨h.1,h.2.1,rfl,rfl⟩
 |brw=>exact⟨h.1,h.2.1,rfl,rfl⟩
 |bro=>exact⟨h.1,rfl,rfl⟩
 |scr=>exact⟨h.1,rfl,rfl⟩
mutual
theorem Rep.view{ob:Bool}:∀{d:D}{v:V}{L:List Addr},Rep G H W d v L->(ob=false->∀c∈L,W.s c)->Rep G H W (view ob d) v []
 |.non,v,L,h,_=>by rw[Rep]at h;simp[Jb.view,Rep,h]
 |.bl _,v,L,h,_=>by rw[Rep]at h;simp[Jb.view,Rep,h]
 |.int _,v,L,h,_=>by rw[Rep]at h;simp[Jb.view,Rep,h]
 |.str _,v,L,h,_=>by rw[Rep]at h;simp[Jb.view,Rep,h]
 |.ty _,v,L,h,_=>by rw[Rep]at h;simp[Jb.view,Rep,h]
 |.tup ds,v,L,h,hn=>by
  rw[Rep]at h;rw[Jb.view,Rep];obtain⟨a,xs,rfl,Y,O⟩:=h;exact⟨a,xs,rfl,Y,aF.view O hn⟩
 |.lst m ds,v,L,h,hn=>by
  rw[Rep]at h;rw[Jb.view,Rep];obtain⟨a,xs,M,rfl,O,B⟩:=h;exact⟨a,xs,[],rfl,aF.view O λz c Z=>hn z c (B.sub.subset Z),B.view hn⟩
 |.dct m ks ds,v,L,h,hn=>by
  rw[Rep]at h;rw[Jb.view,Rep];obtain⟨a,xs,M,rfl,I,O,B⟩:=h;exact⟨a,xs,[],rfl,I,aF.view O λz c Z=>hn z c (B.sub.subset Z),B.view hn⟩
 |.ins m c fs ds,v,L,h,hn=>by
  rw[Rep]at h;rw[Jb.view,Rep];obtain⟨a,C,dx,xs,M,rfl,F,I,O,B⟩:=h;exact⟨a,C,dx,xs,[],rfl,F,I,aF.view O λz c Z=>hn z c (B.sub.subset Z),B.view hn⟩
theorem aF.view{ob:Bool}:∀{ds:List D}{vs:List V}{L:List Addr},aF G H W ds vs L->(ob=false->∀c∈L,W.s c)->aF G H W (cH ob ds) vs []
 |[],vs,L,h,_=>by obtain⟨rfl,_⟩:=h.inv0;rw[cH];exact .nil
 |d::r,vs,L,h,hn=>by
  obtain⟨x,ys,M,M',rfl,rfl,h1,h2⟩:=h.inv;rw[cH];exact .cons (M:=[]) (M':=[]) (Rep.view h1 λz c Z=>hn z c (ZJ _ Z)) (aF.view h2 λz c Z=>hn z c (W2 _ Z))
end
structure Les(H:Hp)(W W':Wn)(L:List Addr):Prop where
 f:∀a,W.free a->W'.free a
 l:∀a∈L,W'.free a
theorem Les.sub(h:Les H W W' L)(s:∀a∈M,a∈L):Les H W W' M:=⟨h.f,λa Y=>h.l a (s a Y)⟩
def pH(W:Wn):Prop:=∀a,W.free a
theorem dZ.fz{D:Addr->HO->Prop}(B:Les H W W' L)(hn:(m≠.brw/\m≠.bro)∨pH W')(h:dZ D H W a o m L M):dZ D H W' a o (mkF m) [] []:=by
 cases m with
 |own=>exact⟨h.1,B.l a (by rw[h.2];simp),rfl,rfl⟩
 |frz=>exact⟨h.1,B.f a h.2.1,rfl,rfl⟩
 |brw=>exact⟨h.1,hn.elim (λz=>absurd rfl z.1) λz=>z a,rfl,rfl⟩
 |bro=>exact⟨h.1,hn.elim (λz=>absurd rfl z.2) λz=>z a,rfl,rfl⟩
 |scr=>exact⟨h.1.imp (λz=>⟨z.1,B.f a z.2⟩) id,rfl,rfl⟩
mutual
theorem Rep.fz:∀{d:D}{v:V}{L:List Addr},Rep G H W d v L->Les H W W' L->(clean d=true∨pH W')->Rep G H W' (fz d) v []
 |.non,v,L,h,_,_=>by rw[Rep]at h;simp[Jb.fz,Rep,h]
 |.bl _,v,L,h,_,_=>by rw[Rep]at h;simp[Jb.fz,Rep,h]
 |.int _,v,L,h,_,_=>by rw[Rep]at h;simp[Jb.fz,Rep,h]
 |.str _,v,L,h,_,_=>by rw[Rep]at h;simp[Jb.fz,Rep,h]
 |.ty _,v,L,h,_,_=>by rw[Rep]at h;simp[Jb.fz,Rep,h]
 |.tup ds,v,L,h,B,c=>by
  rw[Rep]at h;rw[Jb.fz,Rep];obtain⟨a,xs,rfl,Y,O⟩:=h;exact⟨a,xs,rfl,Y,aF.fz O B (c.imp (λz=>by simpa[clean,aC,aB]using z) id)⟩
 |.lst m ds,v,L,h,he,c=>by
  rw[Rep]at h;rw[Jb.fz,Rep];obtain⟨a,xs,M,rfl,O,B⟩:=h;exact⟨a,xs,[],rfl,aF.fz O (he.sub λc Z=>B.sub.subset Z) (c.imp (λz=>by simp[clean,aC,aB]at z;exact⟨z.1.2,z.2.2⟩) id),B.fz he (c.imp (λz=>by simp[clean,aC,aB]at z;exact⟨z.1.1,z.2.1⟩) id)⟩
 |.dct m ks ds,v,L,h,he,c=>by
  rw[Rep]at h;rw[Jb.fz,Rep];obtain⟨a,xs,M,rfl,I,O,B⟩:=h;exact⟨a,xs,[],rfl,I,aF.fz O (he.sub λc Z=>B.sub.subset Z) (c.imp (λz=>by simp[clean,aC,aB]at z;exact⟨z.1.2,z.2.2⟩) id),B.fz he (c.imp (λz=>by simp[clean,aC,aB]at z;exact⟨z.1.1,z.2.1⟩) id)⟩
 |.ins m c' fs ds,v,L,h,he,c=>by
  rw[Rep]at h;rw[Jb.fz,Rep];obtain⟨a,C,dx,xs,M,rfl,F,I,O,B⟩:=h;exact⟨a,C,dx,xs,[],rfl,F,I,aF.fz O (he.sub λc Z=>B.sub.subset Z) (c.imp (λz=>by simp[clean,aC,aB]at z;exact⟨z.1.2,z.2.2⟩) id),B.fz he (c.imp (λz=>by simp[clean,aC,aB]at z;exact⟨z.1.1,z.2.1⟩) id)⟩
theorem aF.fz:∀{ds:List D}{vs:List V}{L:List Addr},aF G H W ds vs L->Les H W W' L->((az ds=true/\aA ds=true)∨pH W')->aF G H W' (fzL ds) vs []
 |[],vs,L,h,_,_=>by obtain⟨rfl,_⟩:=h.inv0;rw[fzL];exact .nil
 |d::r,vs,L,h,he,c=>by
  obtain⟨x,ys,M,M',rfl,rfl,h1,h2⟩:=h.inv;rw[fzL];exact .cons (M:=[]) (M':=[]) (Rep.fz h1 (he.sub λc Z=>ZJ _ Z) (c.imp (λz=>by simp[clean,az,aA]at z⊢;exact⟨z.1.1,z.2.1⟩) id))
   (aF.fz h2 (he.sub λc Z=>W2 _ Z) (c.imp (λz=>by simp[clean,az,aA]at z⊢;exact⟨z.1.2,z.2.2⟩) id))
end
mutual
theorem DN:∀d:D,aC (Jb.fz d)=true
 |.non=>rfl|.bl _=>rfl|.int _=>rfl|.str _=>rfl|.ty _=>rfl
 |.tup ds=>by simp[Jb.fz,aC,g_ ds]
 |.lst m ds=>by cases m<;>simp[Jb.fz,aC,g_ ds,mkF]
 |.dct m _ ds=>by cases m<;>simp[Jb.fz,aC,g_ ds,mkF]
 |.ins m _ _ ds=>by cases m<;>simp[Jb.fz,aC,g_ ds,mkF]
theorem g_:∀ds:List D,az (fzL ds)=true
 |[]=>rfl
 |d::r=>by simp[fzL,az,DN d,g_ r]
end
mutual
theorem Ba:∀d:D,aB (Jb.fz d)=true
 |.non=>rfl|.bl _=>rfl|.int _=>rfl|.str _=>rfl|.ty _=>rfl
 |.tup ds=>by simp[Jb.fz,aB,h_ ds]
 |.lst m ds=>by cases m<;>simp[Jb.fz,aB,h_ ds,mkF]
 |.dct m _ ds=>by cases m<;>simp[Jb.fz,aB,h_ ds,mkF]
 |.ins m _ _ ds=>by cases m<;>simp[Jb.fz,aB,h_ ds,mkF]
theorem h_:∀ds:List D,aA (fzL ds)=true
 |[]=>rfl
 |d::r=>by simp[fzL,aA,Ba d,h_ r]
end
theorem Ml(d:D):clean (Jb.fz d)=true:=by simp[clean,DN,Ba]
mutual
theorem Rep.dom:∀{d:D}{v:V}{L:List Addr},Rep G H W d v L->∀a∈L,Mu H a
 |.non,v,L,h=>by rw[Rep]at h;rw[h.2];simp
 |.bl _,v,L,h=>by rw[Rep]at h;rw[h.2];simp
 |.int _,v,L,h=>by rw[Rep]at h;rw[h.2];simp
 |.str _,v,L,h=>by rw[Rep]at h;rw[h.2];simp
 |.ty _,v,L,h=>by rw[Rep]at h;rw[h.2];simp
 |.tup ds,v,L,h=>by
  rw[Rep]at h;obtain⟨a,xs,rfl,Y,O⟩:=h;exact aF.dom O
 |.lst m ds,v,L,h=>by
  rw[Rep]at h;obtain⟨a,xs,M,rfl,O,B⟩:=h;intro b U;cases m with
  |own=>
   rw[B.2]at U;rcases ZR.mp U with z|z
   .rw[z];exact⟨_,B.1,rfl⟩
   .exact aF.dom O b z
  |frz=>rw[B.2.2.2]at U;cases U
  |brw=>rw[B.2.2.2]at U;cases U
  |bro=>rw[B.2.2]at U;cases U
  |scr=>rw[B.2.2]at U;cases U
 |.dct m ks ds,v,L,h=>by
  rw[Rep]at h;obtain⟨a,xs,M,rfl,I,O,B⟩:=h;intro b U;cases m with
  |own=>
   rw[B.2]at U;rcases ZR.mp U with z|z
   .rw[z];exact⟨_,B.1,rfl⟩
   .exact aF.dom O b z
  |frz=>rw[B.2.2.2]at U;cases U
  |brw=>rw[B.2.2.2]at U;cases U
  |bro=>rw[B.2.2]at U;cases U
  |scr=>rw[B.2.2]at U;cases U
 |.ins m c fs ds,v,L,h=>by
  rw[Rep]at h;obtain⟨a,C,dx,xs,M,rfl,F,I,O,B⟩:=h;intro b U;cases m with
  |own=>
   rw[B.2]at U;rcases ZR.mp U with z|z
   .rw[z];exact⟨_,B.1,rfl⟩
   .exact aF.dom O b z
  |frz=>rw[B.2.2.2]at U;cases U
  |brw=>rw[B.2.2.2]at U;cases U
  |bro=>rw[B.2.2]at U;cases U
  |scr=>rw[B.2.2]at U;cases U
theorem aF.dom:∀{ds:List D}{vs:List V}{L:List Addr},aF G H W ds vs L->∀a∈L,Mu H a
 |[],vs,L,h=>by rw[h.inv0.2];simp
 |d::r,vs,L,h=>by
  obtain⟨x,ys,M,M',rfl,rfl,h1,h2⟩:=h.inv;intro a Y;rcases Zy.mp Y with z|z
  .exact Rep.dom h1 a z
  .exact aF.dom h2 a z
end
abbrev En:=List (Option D)
abbrev Ad:=Nat->List Addr
def Rel(G:Gc)(H:Hp)(W:Wn)(ob:Nat->Bool)(ρ:En)(σ:L2.St):Prop:=∀(i:Nat)(d:D),ρ[i]? =some (some d)->∃v L,σ[i]? =some (some v)/\Rep G H W d v L/\(ob i=false->∀c∈L,W.s c)
def WOk(H:Hp)(W:Wn):Prop:=∀a,W.n a∨W.s a∨W.o a->Mu H a
variable{ρ:En}{σ:L2.St}
theorem Rel.up(r:Rel G H W ob ρ σ)(u:Up H H' W W'):Rel G H' W' ob ρ σ:=λi d e=>let⟨v,L,h1,h2,h3⟩:=r i d e;⟨v,L,h1,h2.up u,λz c Z=>let⟨o,ho,_⟩:=h2.dom c Z;u.n c o ho (h3 z c Z)⟩
theorem WOk.add(h:WOk H W)(s:Same H H')(V:∀a∈L,Mu H' a):WOk H' (W.add L):=λa Y=>by
 rcases Y with(z|z)|z
 .exact V a z
 .obtain⟨o,h1,h2⟩:=h a (.inl z);exact⟨o,s a o h1,h2⟩
 .obtain⟨o,h1,h2⟩:=h a (.inr z);exact⟨o,s a o h1,h2⟩
def wn(ob:Nat->Bool)(S:Ad)(Fr:Addr->Prop):Wn:=⟨Fr,λa=>∃i,ob i=false/\a∈S i,λa=>∃i,ob i=true/\a∈S i⟩
def inS(S:Ad)(a:Addr):Prop:=∃i,a∈S i
def inO(ob:Nat->Bool)(S:Ad)(a:Addr):Prop:=∃i,ob i=true/\a∈S i
def plus(M:List Addr)(Fr:Addr->Prop):Addr->Prop:=λa=>a∈M∨Fr a
structure Sta(G:Gc)(H:Hp)(ob:Nat->Bool)(ρ:En)(σ:L2.St)(S:Ad)(Fr:Addr->Prop):Prop where
 len:ρ.length=σ.length
 sl:∀(i:Nat)(d:D),ρ[i]? =some (some d)->∃v,σ[i]? =some (some v)/\Rep G H (wn ob S Fr) d v (S i)/\clean d=true
 em:∀i,(∀d,ρ[i]?≠some (some d))->S i=[]
 nd:∀i,(S i).Nodup
 dj:∀i j a,a∈S i->a∈S j->i=j
 fdj:∀i a,Fr a->a∉S i
 fdm:∀a,Fr a->Mu H a
section
variable{G:Gc}{H H':Hp}{ob:Nat->Bool}{ρ:En}{σ:L2.St}{S S':Ad}{Fr Fr':Addr->Prop}
theorem Sta.mu(s:Sta G H ob ρ σ S Fr){i:Nat}{a:Addr}(h:a∈S i):Mu H a:=by
 by_cases e:∃d,ρ[i]? =some (some d)
 .obtain⟨d,e⟩:=e
  obtain⟨v,_,r,_⟩:=s.sl i d e;exact r.dom a h
 .rw[s.em i λd z=>e ⟨d,z⟩]at h
  cases h
theorem Sta.wok(s:Sta G H ob ρ σ S Fr):WOk H (wn ob S Fr):=λa Y=>by
 rcases Y with z|⟨i,_,z⟩|⟨i,_,z⟩
 .exact s.fdm a z
 .exact s.mu z
 .exact s.mu z
theorem Sta.rel(s:Sta G H ob ρ σ S Fr):Rel G H (wn ob S Fr) ob ρ σ:=λi d e=>by
 obtain⟨v,h1,h2,_⟩:=s.sl i d e;exact⟨v,S i,h1,h2,λz c Z=>⟨i,z,Z⟩⟩
theorem Sta.grow(s:Sta G H ob ρ σ S Fr)(B:Same H H')(h1:∀a,Fr' a->Fr a∨(H a=none/\Mu H' a)):Sta G H' ob ρ σ S Fr' where
 len:=s.len
 sl:=λi d e=>by
  obtain⟨v,q1,q2,O⟩:=s.sl i d e;have Z:aC d=true/\aB d=true:=by simpa[clean]using O
  have I:Evo H H' (wn ob S Fr) (wn ob S Fr'):=⟨λb u h f=>⟨B b u h,⟨λz=>(h1 b z).elim f.1 (λz=>by rw[z.1]at h;cases h),f.2⟩⟩,λb xs h=>B b _ h⟩;exact⟨v,q1,q2.mono I (.inl Z.1) (.inl Z.2) λc _ u e=>B c u e,O⟩
 em:=s.em
 nd:=s.nd
 dj:=s.dj
 fdj:=λi a h z=>by
  rcases h1 a h with q|q
  .exact s.fdj i a q z
  .obtain⟨o,ho,_⟩:=s.mu z
   rw[q.1]at ho;cases ho
 fdm:=λa h=>by
  rcases h1 a h with q|q
  .obtain⟨o,ho,hm⟩:=s.fdm a q
   exact⟨o,B a o ho,hm⟩
  .exact q.2
theorem Sta.lessF(s:Sta G H ob ρ σ S Fr)(h1:∀a,Fr' a->Fr a):Sta G H ob ρ σ S Fr':=s.grow (Same.refl H) λa h=>.inl (h1 a h)
end
def RfE(G:Gc)(ob:Nat->Bool)(t:TE)(f:En->Option D):Prop:=∀(ρ:En)(d:D),f ρ=some d->∀(σ:L2.St)(H:Hp)(W:Wn),Rel G H W ob ρ σ->WOk H W->∀Q:VK,
 (∀v H' L,Same H H'->Rep G H' (W.add L) d v L->(∀a∈L,H a=none)->L.Nodup->Q v H')->t σ H Q
def RfT(G:Gc)(ob:Nat->Bool)(t:TT)(f:En->Option Bool):Prop:=∀(ρ:En)(b:Bool),f ρ=some b->∀(σ:L2.St)(H:Hp)(W:Wn),Rel G H W ob ρ σ->WOk H W->∀Q:Bool->Hp->Prop,
 (∀H',Same H H'->Q b H')->t σ H Q
def RfA(G:Gc)(ob:Nat->Bool)(t:TA)(f:En->Option (List D)):Prop:=∀(ρ:En)(ds:List D),f ρ=some ds->∀(σ:L2.St)(H:Hp)(W:Wn),Rel G H W ob ρ σ->WOk H W->∀Q:List V->Hp->Prop,
 (∀vs H' L,Same H H'->aF G H' (W.add L) ds vs L->(∀a∈L,H a=none)->L.Nodup->Q vs H')->t σ H Q
structure Eff(ob:Nat->Bool)(H H':Hp)(S S':Ad)(M:List Addr):Prop where
 kp:∀b u,H b=some u->¬inO ob S b->H' b=some u
 sn:∀i,ob i=false->S' i=S i
 gr:∀i a,ob i=true->a∈S' i->inO ob S a∨H a=none
 fm:∀a∈M,inO ob S a∨H a=none
def j5(G:Gc)(ob:Nat->Bool)(t:TE)(f:En->Option (D×En)):Prop:=∀(ρ:En)(d:D)(I:En),f ρ=some (d,I)->∀(σ:L2.St)(H:Hp)(S:Ad)(Fr:Addr->Prop),Sta G H ob ρ σ S Fr->∀Q:VK,
 (∀v H' M S',Sta G H' ob I σ S' 1.31->Rep G H' (wn ob S' 1.31) d v M->M.Nodup->Eff ob H H' S S' M->Q v H')->t σ H Q
def Iw(G:Gc)(ob:Nat->Bool)(t:TT)(f:En->Option (Bool×En)):Prop:=∀(ρ:En)(b:Bool)(I:En),f ρ=some (b,I)->∀(σ:L2.St)(H:Hp)(S:Ad)(Fr:Addr->Prop),Sta G H ob ρ σ S Fr->∀Q:Bool->Hp->Prop,
 (∀H' S',Sta G H' ob I σ S' Fr->Eff ob H H' S S' []->Q b H')->t σ H Q
def CW(G:Gc)(ob:Nat->Bool)(t:TA)(f:En->Option (List D×En)):Prop:=∀(ρ:En)(ds:List D)(I:En),f ρ=some (ds,I)->∀(σ:L2.St)(H:Hp)(S:Ad)(Fr:Addr->Prop),Sta G H ob ρ σ S Fr->∀Q:List V->Hp->Prop,
 (∀vs H' M S',Sta G H' ob I σ S' 1.31->aF G H' (wn ob S' 1.31) ds vs M->M.Nodup->Eff ob H H' S S' M->Q vs H')->t σ H Q
inductive Fl where
 |nx (ρ:En)|ret (d:D) (ρ:En)|brk (ρ:En)|cnt (ρ:En)
def Fb(P:Nat->Bool)(σ Y:L2.St):Prop:=∀i,P i=true->Y[i]? =σ[i]?
variable{P:Nat->Bool}
theorem Fb.refl:Fb P σ σ:=λ_ _=>rfl
theorem Fb.trans{U σ2:L2.St}(a:Fb P σ U)(b:Fb P U σ2):Fb P σ σ2:=λi h=>(b i h).trans (a i h)
structure Mv(P:Nat->Bool)(H H':Hp)(σ σ':L2.St)(S S':Ad)(M:List Addr):Prop where
 kp:∀b u,H b=some u->¬inS S b->b∉M->H' b=some u
 gr:∀i a,a∈S' i->inS S a∨a∈M∨H a=none
 pr:Fb P σ σ'
variable{S:Ad}
theorem Mv.trans{H1:Hp}{U σ2:L2.St}{S1 S2:Ad}(a:Mv P H H1 σ U S S1 M)(b:Mv P H1 H2 U σ2 S1 S2 []):Mv P H H2 σ σ2 S S2 M where
 kp:=λc u h n m=>b.kp c u (a.kp c u h n m) (λ⟨i,z⟩=>(a.gr i c z).elim n λz=>z.elim m λe=>by rw[h]at e;cases e) (by simp)
 gr:=λi c z=>by
  rcases b.gr i c z with⟨j,q⟩|q|q
  .exact a.gr j c q
  .cases q
  .by_cases h:inS S c
   .exact .inl h
   .by_cases hm:c∈M
    .exact .inr (.inl hm)
    .refine .inr (.inr ?_)
     cases e:H c with
     |none=>rfl
     |some u=>rw[a.kp c u e h hm]at q;cases q
 pr:=a.pr.trans b.pr
theorem Eff.mv{S':Ad}(e:Eff ob H H' S S' M):Mv P H H' σ σ S S' []where
 kp:=λb u h n _=>e.kp b u h λ⟨i,_,z⟩=>n ⟨i,z⟩
 gr:=λi a z=>by
  cases h:ob i with
  |false=>rw[e.sn i h]at z;exact .inl ⟨i,z⟩
  |true=>exact(e.gr i a h z).imp (λ⟨j,_,q⟩=>⟨j,q⟩) .inr
 pr:=.refl
def Aft(G:Gc)(ob P:Nat->Bool)(H:Hp)(σ:L2.St)(S:Ad)(Fr:Addr->Prop)(E:Ends):Fl->Prop
 |.nx I=>∀Y H' S',Sta G H' ob I Y S' Fr->Mv P H H' σ Y S S' []->E.nx Y H'
 |.brk I=>∀Y H' S',Sta G H' ob I Y S' Fr->Mv P H H' σ Y S S' []->E.bk Y H'
 |.cnt I=>∀Y H' S',Sta G H' ob I Y S' Fr->Mv P H H' σ Y S S' []->E.ct Y H'
 |.ret d I=>∀v Y H' M S',Sta G H' ob I Y S' 1.31->Rep G H' (wn ob S' 1.31) d v M->clean d=true->M.Nodup->(∀a∈M,inS S a∨H a=none)->Mv P H H' σ Y S S' []->E.rt v H'
def RfS(G:Gc)(ob P:Nat->Bool)(t:TS)(f:En->Option Fl):Prop:=∀(ρ:En)(r:Fl),f ρ=some r->∀(σ:L2.St)(H:Hp)(S:Ad)(Fr:Addr->Prop),Sta G H ob ρ σ S Fr->∀E:Ends,Aft G ob P H σ S Fr E r->t E σ H
def RfG(G:Gc)(ob P:Nat->Bool)(g:TG)(f:D->En->Option En):Prop:=∀(d:D)(ρ I:En),f d ρ=some I->∀(v:V)(σ:L2.St)(H:Hp)(S:Ad)(M:List Addr)(Fr:Addr->Prop),Sta G H ob ρ σ S 1.31->Rep G H (wn ob S 1.31) d v M->M.Nodup->(∀a∈M,¬Fr a)->
 ∀Q:L2.St->Hp->Prop,(∀Y H' S',Sta G H' ob I Y S' Fr->Mv P H H' σ Y S S' M->Q Y H')->g v σ H Q
def Zd(G:Gc)(ob P:Nat->Bool)(g:TGs)(f:List D->En->Option En):Prop:=∀(ds:List D)(ρ I:En),f ds ρ=some I->∀(vs:List V)(σ:L2.St)(H:Hp)(S:Ad)(M:List Addr)(Fr:Addr->Prop),Sta G H ob ρ σ S 1.31->aF G H (wn ob S 1.31) ds vs M->M.Nodup->(∀a∈M,¬Fr a)->
 ∀Q:L2.St->Hp->Prop,(∀Y H' S',Sta G H' ob I Y S' Fr->Mv P H H' σ Y S S' M->Q Y H')->g vs σ H Q
structure PV{ι:Type}(X:ι->Cx)(G:Gc)(ob:Nat->Bool)(e:Expr)(f:En->Option D):Prop where
 mk::(ex:∃t,(∀c,PE (X c) e t)/\RfE G ob t f)
structure PVT{ι:Type}(X:ι->Cx)(G:Gc)(ob:Nat->Bool)(e:Expr)(f:En->Option Bool):Prop where
 mk::(ex:∃t,(∀c,PT (X c) e t)/\RfT G ob t f)
structure PVW{ι:Type}(X:ι->Cx)(G:Gc)(ob:Nat->Bool)(e:Expr)(f:En->Option Bool):Prop where
 mk::(ex:∃t,(∀c,PW (X c) e t)/\RfT G ob t f)
structure PVA{ι:Type}(X:ι->Cx)(G:Gc)(ob:Nat->Bool)(es:List Expr)(f:En->Option (List D)):Prop where
 mk::(ex:∃t,(∀c,PA (X c) es t)/\RfA G ob t f)
structure PVe{ι:Type}(X:ι->Cx)(G:Gc)(ob:Nat->Bool)(e:Expr)(f:En->Option (D×En)):Prop where
 mk::(ex:∃t,(∀c,PE (X c) e t)/\j5 G ob t f)
structure Od{ι:Type}(X:ι->Cx)(G:Gc)(ob:Nat->Bool)(e:Expr)(f:En->Option (Bool×En)):Prop where
 mk::(ex:∃t,(∀c,PT (X c) e t)/\Iw G ob t f)
structure Dh{ι:Type}(X:ι->Cx)(G:Gc)(ob:Nat->Bool)(es:List Expr)(f:En->Option (List D×En)):Prop where
 mk::(ex:∃t,(∀c,PA (X c) es t)/\CW G ob t f)
structure PVS{ι:Type}(X:ι->Cx)(G:Gc)(ob P:Nat->Bool)(st:Stmt)(f:En->Option Fl):Prop where
 mk::(ex:∃t,(∀c,PS (X c) st t)/\RfS G ob P t f)
structure rA{ι:Type}(X:ι->Cx)(G:Gc)(ob P:Nat->Bool)(st:List Stmt)(f:En->Option Fl):Prop where
 mk::(ex:∃t,(∀c,PSs (X c) st t)/\RfS G ob P t f)
structure PVG{ι:Type}(X:ι->Cx)(G:Gc)(ob P:Nat->Bool)(tg:Expr)(f:D->En->Option En):Prop where
 mk::(ex:∃t,(∀c,PG (X c) tg t)/\RfG G ob P t f)
theorem fu(h1:L.Nodup)(h2:M.Nodup)(Z:∀a∈L,a∉M):(L++M).Nodup:=ZZ.mpr ⟨h1,h2,λa Y b U e=>Z a Y (e▸U)⟩
def Wn.drop(W:Wn)(L:List Addr):Wn:=⟨λa=>W.n a/\a∉L,W.s,W.o⟩
def Wn.tmp(W:Wn)(a:Addr):Prop:=W.n a/\¬W.s a/\¬W.o a
theorem WOk.tmp(w:WOk H W)(I:∀a∈L,H a=none):∀a∈L,(W.add L).tmp a:=λa Y=>by
 refine⟨.inl Y,λz=>?_,λz=>?_⟩
 .obtain⟨o,ho,_⟩:=w a (.inr (.inl z));rw[I a Y]at ho;cases ho
 .obtain⟨o,ho,_⟩:=w a (.inr (.inr z));rw[I a Y]at ho;cases ho
def Done(G:Gc)(H:Hp)(W:Wn)(J:List Addr)(d:D)(Q:VK):Prop:=∀v H' L,Same H H'->Rep G H' ((W.drop J).add L) d v L->(∀a∈L,a∈J∨H a=none)->L.Nodup->Q v H'
def OpV(G:Gc)(r:R2)(g:D->D->Option D):Prop:=∀(dx Z d:D),g dx Z=some d->∀(x y:V)(H:Hp)(W:Wn)(I Ly:List Addr),Rep G H W dx x I->Rep G H W Z y Ly->(I++Ly).Nodup->(∀a∈I++Ly,W.tmp a)->WOk H W->∀Q:VK,Done G H W (I++Ly) d Q->r x y H Q
def UnV(G:Gc)(r:V->Hp->VK->Prop)(g:D->Option D):Prop:=∀(dx d:D),g dx=some d->∀(x:V)(H:Hp)(W:Wn)(I:List Addr),Rep G H W dx x I->I.Nodup->(∀a∈I,W.tmp a)->WOk H W->∀Q:VK,Done G H W I d Q->r x H Q
def CaV(G:Gc)(r:List V->Hp->VK->Prop)(g:List D->Option D):Prop:=∀(ds:List D)(d:D),g ds=some d->∀(xs:List V)(H:Hp)(W:Wn)(J:List Addr),aF G H W ds xs J->J.Nodup->(∀a∈J,W.tmp a)->WOk H W->∀Q:VK,Done G H W J d Q->r xs H Q
def MtV(G:Gc)(r:V->List V->Hp->VK->Prop)(g:D->List D->Option D):Prop:=∀(dx:D)(ds:List D)(d:D),g dx ds=some d->∀(x:V)(xs:List V)(H:Hp)(W:Wn)(I J:List Addr),Rep G H W dx x I->aF G H W ds xs J->(I++J).Nodup->(∀a∈I++J,W.tmp a)->WOk H W->∀Q:VK,Done G H W (I++J) d Q->r x xs H Q
theorem WOk.new(w:WOk H W)(I:∀a∈L,H a=none)(h:W.n a):a∉L:=λz=>by
 obtain⟨o,B,_⟩:=w a (.inl h);rw[I a z]at B;cases B
variable{Q:VK}
theorem Done.scal{J:List Addr}(h:Done G H W J d Q)(r:∀W,Rep G H W d v []):Q v H:=h v H [] (Same.refl H) (r _) (by simp) aap
theorem _root_.L2.Same.none'(s:Same H H')(h:H' a=none):H a=none:=Same.free s h
variable{ta tb:TE}{fa fb:En->Option D}{R:V->V->Hp->Prop}
theorem RfE.two(Y:RfE G ob ta fa)(U:RfE G ob tb fb){dx Z:D}(e1:fa ρ=some dx)(e2:fb ρ=some Z)(r:Rel G H W ob ρ σ)(w:WOk H W)
  (h:∀x y H' L M,Same H H'->Rep G H' (W.add (L++M)) dx x L->Rep G H' (W.add (L++M)) Z y M->(∀a∈L++M,H a=none)->(L++M).Nodup->WOk H' (W.add (L++M))->R x y H'):ta σ H λx H1=>tb σ H1 λy H2=>R x y H2:=by
 refine Y ρ dx e1 σ H W r w _ λx H1 L F rx fx nx=>?_;have q:Up H H1 W (W.add L):=.add F fx;have w1:WOk H1 (W.add L):=w.add F rx.dom;refine U ρ Z e2 σ H1 (W.add L) (r.up q) w1 _ λy H2 M O ry I ny=>?_;have J:∀a∈L,a∉M:=λa h1 h2=>by
  obtain⟨o,B,_⟩:=rx.dom a h1;rw[I a h2]at B;cases B
 have eW:∀a,((W.add L).add M).n a↔(W.add (L++M)).n a:=λa=>by
  show(a∈M∨a∈L∨W.n a)↔(a∈L++M∨W.n a);rw[Zy];constructor
  .rintro(z|z|z)
   .exact .inl (.inr z)
   .exact .inl (.inl z)
   .exact .inr z
  .rintro((z|z)|z)
   .exact .inr (.inl z)
   .exact .inl z
   .exact .inr (.inr z)
 have a0:(W.add L).add M=W.add (L++M):=by
  show Wn.mk _ _ _=Wn.mk _ _ _;congr 1;funext a;exact propext (eW a)
 have u2:Up H1 H2 (W.add L) (W.add (L++M)):=by rw[←a0];exact .add O I
 rw[a0]at ry;refine h x y H2 L M (F.trans O) (rx.up u2) ry (λa Y=>?_) (fu nx ny J) ?_
 .rcases Zy.mp Y with z|z
  .exact fx a z
  .exact F.none' (I a z)
 .rw[←a0]
  exact w1.add O ry.dom
def aq(b:Bool)(i:Nat):En->Option D:=λρ=>match ρ[i]? with
 |some (some d)=>some (view b d)
 |_=>none
def eC(d:D):En->Option D:=λ_=>some d
theorem tB(W:Wn):W.add []=W:=by
 cases W;simp[Wn.add]
theorem VR:RfE G ob (Di i) (aq (ob i) i):=λρ d e σ H W r w Q q=>by
 unfold aq at e;split at e
 .rename_i d0 e0
  cases e;obtain⟨v,L,h1,h2,Z⟩:=r i d0 e0;refine⟨v,h1,q v H [] (Same.refl H) ?_ (by simp) aap⟩;rw[tB];exact h2.view Z
 .cases e
variable{X:ι->Cx}
theorem aj(b:Bool)(i:Nat)(U:ob i=b:=by rfl)(q:∀c,(X c).N[i]? =some x:=by intro _;rfl)(Z:∀c,Vis (X c).env.scope x:=by intro _;first|exact abf rfl|exact aaQ (abf rfl)|exact aaQ (aaQ rfl))(hd:(x==("__debug__":Str))=false:=by decide)(z:(x==("__classdict__":Str))=false:=by decide):PV X G ob (.Name x pos) (aq b i):=⟨_,λc=>pv i (q c) (Z c) hd z,by rw[←U];exact VR⟩
theorem Ep(h:∀H W,Rep G H W d v []):RfE G ob (tC v) (eC d):=λρ d' e σ H W r w Q q=>by
 cases e;exact q v H [] (Same.refl H) (h _ _) (by simp) aap
theorem aG{i j pos}:PV X G ob (.Constant (.int i) j pos) (eC (.int i)):=⟨_,λc=>V_,Ep λ_ _=>by simp[Rep]⟩
theorem DG{b j pos}:PV X G ob (.Constant (.bool b) j pos) (eC (.bl b)):=⟨_,λc=>Yp,Ep λ_ _=>by simp[Rep]⟩
theorem nG{j pos}:PV X G ob (.Constant .none j pos) (eC .non):=⟨_,λc=>Vn,Ep λ_ _=>by simp[Rep]⟩
theorem jX{x j pos}:PV X G ob (.Constant (.str x) j pos) (eC (.str x)):=⟨_,λc=>Uv,Ep λ_ _=>by simp[Rep]⟩
theorem pR{n:String}(q:∀c,Gl (X c) x)(J:∀c,(X c).mg x=none)(Z:abm x=some (.type n))(hn:x≠"__name__":=by decide)(hd:(x==("__debug__":Str))=false:=by decide):PV X G ob (.Name x pos) (eC (.ty n)):=⟨_,λc=>YD (q c) (J c) Z hn hd,Ep λ_ _=>by simp[Rep]⟩
structure OpB{ι:Type}(X:ι->Cx)(G:Gc)(f:Value->Value->Sem Value)(g:D->D->Option D):Prop where
 ex:∃r,(∀c,OpR (X c) f r)/\OpV G r g
structure UnB{ι:Type}(X:ι->Cx)(G:Gc)(f:Value->Sem Value)(g:D->Option D):Prop where
 ex:∃r,(∀c,UnR (X c) f r)/\UnV G r g
structure IxB{ι:Type}(X:ι->Cx)(G:Gc)(g:D->D->Option D):Prop where
 ex:∃r,(∀c,IxR (X c) r)/\OpV G r g
structure CaB{ι:Type}(X:ι->Cx)(G:Gc)(f:Value)(g:List D->Option D):Prop where
 ex:∃r,(∀c,fZ (X c) f r)/\CaV G r g
structure MtB{ι:Type}(X:ι->Cx)(G:Gc)(T id:String)(g:D->List D->Option D):Prop where
 ex:∃r,(∀c,MtR (X c) id r)/\MtV G r g/\∀dx ds d,g dx ds=some d->∀(x:V)(H:Hp)(W:Wn)(Lx:List Addr),Rep G H W dx x Lx->tyV G.K T x H
def e2(g:D->D->Option D)(fa fb:En->Option D):En->Option D:=λρ=>(fa ρ).bind λx=>(fb ρ).bind λy=>g x y
def e1(g:D->Option D)(fa:En->Option D):En->Option D:=λρ=>(fa ρ).bind g
variable{g:D->D->Option D}
theorem G9{r:R2}(B:OpV G r g)(Y:RfE G ob ta fa)(U:RfE G ob tb fb):RfE G ob (tOp r ta tb) (e2 g fa fb):=λρ d e σ H W rl w Q q=>by
 unfold e2 at e;cases h1:fa ρ with
 |none=>rw[h1]at e;cases e
 |some dx=>
  rw[h1]at e;cases h2:fb ρ with
  |none=>simp[h2]at e
  |some Z=>
   have e:g dx Z=some d:=by simpa[h2]using e
   refine RfE.two Y U h1 h2 rl w λx y H' L M s rx ry I nd w'=>?_;refine B dx Z d e x y H' _ L M rx ry nd (w.tmp I) w' Q λv H2 L2 O J F V=>?_;refine q v H2 L2 (s.trans O) ?_ (λa Y=>(F a Y).elim (I a) λz=>s.none' z) V;exact J.up ⟨Same.refl _,λb u U f=>⟨λz=>z.elim (λz=>f.1 (.inl z)) λz=>f.1 (.inr ⟨.inr z,WOk.new w I z⟩),f.2⟩,λ_ _ _ f=>f⟩
theorem TQ{r:V->Hp->VK->Prop}{g:D->Option D}(B:UnV G r g)(Y:RfE G ob ta fa):RfE G ob (tUn r ta) (e1 g fa):=λρ d e σ H W Z w Q q=>by
 unfold e1 at e;cases h1:fa ρ with
 |none=>rw[h1]at e;cases e
 |some dx=>
  rw[h1]at e;have e:g dx=some d:=by simpa using e
  refine Y ρ dx h1 σ H W Z w _ λx H' L s rx I nd=>?_;refine B dx d e x H' _ L rx nd (w.tmp I) (w.add s rx.dom) Q λv H2 L2 O J F n2=>?_;refine q v H2 L2 (s.trans O) ?_ (λa Y=>(F a Y).elim (I a) λz=>s.none' z) n2;exact J.up ⟨Same.refl _,λb u U f=>⟨λz=>z.elim (λz=>f.1 (.inl z)) λz=>f.1 (.inr ⟨.inr z,WOk.new w I z⟩),f.2⟩,λ_ _ _ f=>f⟩
def aD:En->Option (List D):=λ_=>some []
def ak(fa:En->Option D)(I:En->Option (List D)):En->Option (List D):=λρ=>(fa ρ).bind λx=>(I ρ).bind λxs=>some (x::xs)
theorem sV:RfA G ob Q8 aD:=λρ ds e σ H W J w Q q=>by
 cases e;exact q [] H [] (Same.refl H) .nil (by simp) aap
variable{t:TA}{I:En->Option (List D)}
theorem Rk(Y:RfE G ob ta fa)(O:RfA G ob t I):RfA G ob (Cw ta t) (ak fa I):=λρ ds e σ H W J w Q q=>by
 unfold ak at e;cases h1:fa ρ with
 |none=>rw[h1]at e;cases e
 |some dx=>
  rw[h1]at e;cases h2:I ρ with
  |none=>simp[h2]at e
  |some es=>
   have e:dx::es=ds:=by simpa[h2]using e
   subst e;refine Y ρ dx h1 σ H W J w _ λx H1 L F rx Z nx=>?_;have u1:Up H H1 W (W.add L):=.add F Z;have w1:WOk H1 (W.add L):=w.add F rx.dom;refine O ρ es h2 σ H1 (W.add L) (J.up u1) w1 _ λys H2 M s2 ry fy ny=>?_;have a0:∀a∈L,a∉M:=λa h1 h2=>by
    obtain⟨o,B,_⟩:=rx.dom a h1;rw[fy a h2]at B;cases B
   have V:Up H1 H2 (W.add L) (W.add (L++M)):=⟨s2,λb u U f=>⟨λz=>z.elim (λz=>(Zy.mp z).elim (λz=>f.1 (.inl z)) λz=>by rw[fy b z]at U;cases U) λz=>f.1 (.inr z),f.2⟩,λ_ _ _ f=>f⟩;refine q (x::ys) H2 (L++M) (F.trans s2) (.cons (rx.up V) (ry.up ⟨Same.refl _,λb u U f=>⟨λz=>?_,f.2⟩,λ_ _ _ f=>f⟩)) (λa Y=>?_) (fu nx ny a0)
   .rcases z with z|z
    .exact(Zy.mp z).elim (λz=>f.1 (.inr (.inl z))) λz=>f.1 (.inl z)
    .exact f.1 (.inr (.inr z))
   .rcases Zy.mp Y with z|z
    .exact Z a z
    .exact F.none' (fy a z)
variable{r:List V->Hp->VK->Prop}{f:En->Option (List D)}
theorem tR{g:List D->Option D}(B:CaV G r g)(h:RfA G ob t f):RfE G ob (λσ H Q=>t σ H λvs H1=>r vs H1 Q) (λρ=>(f ρ).bind g):=λρ d e σ H W Z w Q q=>by
 cases h1:f ρ with
 |none=>simp[h1]at e
 |some ds=>
  have e:g ds=some d:=by simpa[h1]using e
  refine h ρ ds h1 σ H W Z w _ λxs H' L s rx I nd=>?_;refine B ds d e xs H' _ L rx nd (w.tmp I) (w.add s rx.dom) Q λv H2 L2 O J F n2=>?_;refine q v H2 L2 (s.trans O) ?_ (λa Y=>(F a Y).elim (I a) λz=>s.none' z) n2;exact J.up ⟨Same.refl _,λb u U f=>⟨λz=>z.elim (λz=>f.1 (.inl z)) λz=>f.1 (.inr ⟨.inr z,WOk.new w I z⟩),f.2⟩,λ_ _ _ f=>f⟩
def eAp(g:List D->Option D)(f:En->Option (List D)):En->Option D:=λρ=>(f ρ).bind g
theorem M_{r:V->List V->Hp->VK->Prop}{g:D->List D->Option D}{ty:V->Hp->Prop}{to:TE}{fo:En->Option D}(B:MtV G r g)(a1:∀dx ds d,g dx ds=some d->∀(x:V)(H:Hp)(W:Wn)(I:List Addr),Rep G H W dx x I->ty x H)
  (h0:RfE G ob to fo) (h:RfA G ob t f):RfE G ob (λσ H Q=>to σ H λx H1=>ty x H1/\t σ H1 λxs H2=>r x xs H2 Q) (λρ=>(fo ρ).bind λx=>(f ρ).bind λds=>g x ds):=λρ d e σ H W J w Q q=>by
 cases h1:fo ρ with
 |none=>simp[h1]at e
 |some dx=>
  cases h2:f ρ with
  |none=>simp[h1,h2]at e
  |some ds=>
   have e:g dx ds=some d:=by simpa[h1,h2]using e
   refine h0 ρ dx h1 σ H W J w _ λx H1 L F rx Z nx=>⟨a1 dx ds d e x H1 _ L rx,?_⟩;have u1:Up H H1 W (W.add L):=.add F Z;have w1:WOk H1 (W.add L):=w.add F rx.dom;refine h ρ ds h2 σ H1 (W.add L) (J.up u1) w1 _ λys H2 M O ry fy ny=>?_;have a0:∀a∈L,a∉M:=λa h1 h2=>by
    obtain⟨o,B,_⟩:=rx.dom a h1;rw[fy a h2]at B;cases B
   have u2:Up H1 H2 (W.add L) (W.add (L++M)):=⟨O,λb u U f=>⟨λz=>z.elim (λz=>(Zy.mp z).elim (λz=>f.1 (.inl z)) λz=>by rw[fy b z]at U;cases U) λz=>f.1 (.inr z),f.2⟩,λ_ _ _ f=>f⟩;have u3:Up H2 H2 ((W.add L).add M) (W.add (L++M)):=⟨Same.refl _,λb u U f=>⟨λz=>by
    rcases z with z|z
    .exact(Zy.mp z).elim (λz=>f.1 (.inr (.inl z))) λz=>f.1 (.inl z)
    .exact f.1 (.inr (.inr z)),f.2⟩,λ_ _ _ f=>f⟩
   have w2:WOk H2 (W.add (L++M)):=w.add (F.trans O) λa Y=>(Zy.mp Y).elim (λz=>let⟨o,h,m⟩:=rx.dom a z;⟨o,O a o h,m⟩) (ry.dom a);refine B dx ds d e x ys H2 (W.add (L++M)) L M (rx.up u2) (ry.up u3) (fu nx ny a0) (w.tmp λa Y=>(Zy.mp Y).elim (Z a) λz=>F.none' (fy a z)) w2 Q λv H3 L3 s3 r3 f3 n3=>?_;refine q v H3 L3 ((F.trans O).trans s3) ?_ (λa Y=>(f3 a Y).elim (λz=>?_) λz=>(F.trans O).none' z) n3
   .exact r3.up ⟨Same.refl _,λb u U f=>⟨λz=>z.elim (λz=>f.1 (.inl z)) λz=>f.1 (.inr ⟨.inr z,WOk.new w (λa Y=>(Zy.mp Y).elim (Z a) λz=>F.none' (fy a z)) z⟩),f.2⟩,λ_ _ _ f=>f⟩
   .rcases Zy.mp z with z|z
    .exact Z a z
    .exact F.none' (fy a z)
variable{a b:Expr}
theorem cL{op:aeg}(o:OpB X G (aa3 op) g)(Y:PV X G ob a fa)(U:PV X G ob b fb):PV X G ob (.BinOp a op b pos) (e2 g fa fb):=let⟨r,o1,o2⟩:=o.ex;let⟨t,a1,a2⟩:=Y.ex;let⟨u,b1,b2⟩:=U.ex;⟨_,λc=>T4 (o1 c) (a1 c) (b1 c),G9 o2 a2 b2⟩
theorem v9(o:OpB X G (aaA op) g)(Y:PV X G ob a fa)(U:PV X G ob b fb)(J:adt op b=false:=by with_unfolding_all rfl):PV X G ob (.Compare a [op] [b] pos) (e2 g fa fb):=let⟨r,o1,o2⟩:=o.ex;let⟨t,a1,a2⟩:=Y.ex;let⟨u,b1,b2⟩:=U.ex;⟨_,λc=>RB (o1 c) (a1 c) (b1 c) J,G9 o2 a2 b2⟩
theorem m5{op:UnaryOp}{g:D->Option D}(o:UnB X G (unaryOp op) g)(Y:PV X G ob a fa):PV X G ob (.UnaryOp op a pos) (e1 g fa):=let⟨r,o1,o2⟩:=o.ex;let⟨t,a1,a2⟩:=Y.ex;⟨_,λc=>Xy (o1 c) (a1 c),TQ o2 a2⟩
theorem cZ(o:IxB X G g)(Y:PV X G ob a fa)(U:PV X G ob b fb)(B:uI b:=by exact λ_ _=>rfl):PV X G ob (.Subscript a b pos) (e2 g fa fb):=let⟨r,o1,o2⟩:=o.ex;let⟨t,a1,a2⟩:=Y.ex;let⟨u,b1,b2⟩:=U.ex;⟨_,λc=>JW (o1 c) (a1 c) (b1 c) B,G9 o2 a2 b2⟩
theorem ao:PVA X G ob [] aD:=⟨_,λc=>NP,sV⟩
theorem aa{f:En->Option D}(Y:PV X G ob e f)(O:PVA X G ob es I)(B:∀c,ZK (e::es) (X c).env=(false,eval e (X c).env)::ZK es (X c).env:=by intro _;rfl):PVA X G ob (e::es) (ak f I):=let⟨t,a1,a2⟩:=Y.ex;let⟨u,b1,b2⟩:=O.ex;⟨_,λc=>uL (a1 c) (b1 c) (B c),Rk a2 b2⟩
variable{g:List D->Option D}
theorem bf{id:String}(o:CaB X G (.builtin id) g)(q:∀c,Gl (X c) x)(J:∀c,(X c).mg x=none)(Z:abm x=some (.builtin id))(Y:PVA X G ob (e::es) f)(hn:x≠"__name__":=by decide)(z:(x==("__debug__":Str))=false:=by decide)(V:∀c,ZK (e::es) (X c).env=(false,eval e (X c).env)::ZK es (X c).env:=by intro _;rfl)(B:∀c,(aaH pos (ZK es (X c).env)).any (·.1)=false:=by intro _;rfl):PV X G ob (.Call (.Name x p) (e::es) [] pos) (eAp g f):=let⟨r,o1,o2⟩:=o.ex;let⟨t,a1,a2⟩:=Y.ex;⟨_,λc=>CP (o1 c) (q c) (J c) Z (a1 c) hn z (V c) (B c),tR o2 a2⟩
theorem oZ(o:CaB X G (.type T) g)(q:∀c,Gl (X c) x)(J:∀c,(X c).mg x=none)(Z:abm x=some (.type T))(Y:PVA X G ob (e::es) f)(hn:x≠"__name__":=by decide)(z:(x==("__debug__":Str))=false:=by decide)(V:∀c,ZK (e::es) (X c).env=(false,eval e (X c).env)::ZK es (X c).env:=by intro _;rfl)(B:∀c,(aaH pos (ZK es (X c).env)).any (·.1)=false:=by intro _;rfl):PV X G ob (.Call (.Name x p) (e::es) [] pos) (eAp g f):=let⟨r,o1,o2⟩:=o.ex;let⟨t,a1,a2⟩:=Y.ex;⟨_,λc=>yr (o1 c) (q c) (J c) Z (a1 c) hn z (V c) (B c),tR o2 a2⟩
def cG(ds:List D):Option D:=if ds.length<=1000 then some (.tup ds)else none
def dq(ds:List D):Option D:=if ds.length<=1000 then some (.lst .own ds)else none
theorem Ca(h:n<=1000):n<=ZM:=aa5 h (by decide)
theorem Hj:CaV G (λxs H Q=>xs.length<=ZM/\∀p,H p=none->Q (.ref p) (upd H p (.tup xs))) cG:=λds d e xs H W J r nd hn w Q q=>by
 unfold cG at e;split at e
 .rename_i hl
  cases e;refine⟨Ca (by rw[←r.length];exact hl),λp F=>?_⟩;have I:Same H (upd H p (.tup xs)):=Same.new F;refine q (.ref p) _ J I ?_ (λa Y=>.inl Y) nd;rw[Rep];exact⟨p,xs,rfl,aZ,r.up ⟨I,λb u U f=>⟨λz=>z.elim (λz=>f.1 (hn b z).1) λz=>f.1 z.1,f.2⟩,λ_ _ _ f=>f⟩⟩
 .cases e
theorem Hi:CaV G (λxs H Q=>xs.length<=ZM/\∀p,H p=none->Q (.ref p) (upd H p (.lst xs))) dq:=λds d e xs H W J r nd hn w Q q=>by
 unfold dq at e;split at e
 .rename_i hl
  cases e;refine⟨Ca (by rw[←r.length];exact hl),λp F=>?_⟩;have I:Same H (upd H p (.lst xs)):=Same.new F;refine q (.ref p) _ (p::J) I ?_ (λa Y=>(ZR.mp Y).elim (λz=>.inr (by rw[z];exact F)) .inl) (Z8.mpr ⟨λz=>?_,nd⟩)
  .rw[Rep]
   exact⟨p,xs,J,rfl,r.up ⟨I,λb u U f=>⟨λz=>z.elim (λz=>(ZR.mp z).elim (λz=>by rw[z,F]at U;cases U) λz=>f.1 (hn b z).1) λz=>f.1 z.1,f.2⟩,λ_ _ _ f=>f⟩,aZ,rfl⟩
  .obtain⟨o,ho,_⟩:=r.dom p z
   rw[F]at ho;cases ho
 .cases e
variable{k:Nat}
theorem ie(h:PVA X G ob es f):PV X G ob (.Tuple es k pos) (eAp cG f):=let⟨t,a1,a2⟩:=h.ex;⟨_,λc=>Le (a1 c),tR Hj a2⟩
theorem je(h:PVA X G ob es f):PV X G ob (.List es pos) (eAp dq f):=let⟨t,a1,a2⟩:=h.ex;⟨_,λc=>Ka (a1 c),tR Hi a2⟩
section
variable{G:Gc}{ob:Nat->Bool}{H H1 H2:Hp}{S S1 S2:Ad}{L M:List Addr}{ρ ρ1:En}{σ:L2.St}{Fr:Addr->Prop}
theorem Eff.refl:Eff ob H H S S []:=⟨λ_ _ h _=>h,λ_ _=>rfl,λi a h z=>.inl ⟨i,h,z⟩,by simp⟩
theorem Eff.back(e:Eff ob H H1 S S1 L){a:Addr}(h:H1 a=none):inO ob S a∨H a=none:=by
 by_cases z:inO ob S a
 .exact .inl z
 .refine .inr ?_
  cases q:H a with
  |none=>rfl
  |some u=>rw[e.kp a u q z]at h;cases h
theorem Eff.inO(e:Eff ob H H1 S S1 L){a:Addr}(h:inO ob S1 a):inO ob S a∨H a=none:=let⟨i,h1,h2⟩:=h;e.gr i a h1 h2
theorem Eff.notO(e:Eff ob H H1 S S1 L){a:Addr}{u:HO}(h:H a=some u)(n:¬Jb.inO ob S a):¬Jb.inO ob S1 a:=λz=>(e.inO z).elim n λz=>by rw[h]at z;cases z
theorem Eff.trans(a:Eff ob H H1 S S1 L)(b:Eff ob H1 H2 S1 S2 M):Eff ob H H2 S S2 (L++M)where
 kp:=λc u h n=>b.kp c u (a.kp c u h n) (a.notO h n)
 sn:=λi h=>(b.sn i h).trans (a.sn i h)
 gr:=λi c h z=>(b.gr i c h z).elim a.inO a.back
 fm:=λc Z=>(Zy.mp Z).elim (a.fm c) λz=>(b.fm c z).elim a.inO a.back
theorem Eff.same(a:Eff ob H H1 S S1 L)(s:Same H1 H2)(h:∀c∈M,c∈L∨H1 c=none):Eff ob H H2 S S1 M where
 kp:=λc u Z n=>s c u (a.kp c u Z n)
 sn:=a.sn
 gr:=a.gr
 fm:=λc Z=>(h c Z).elim (a.fm c) a.back
theorem Sta.notO(s:Sta G H ob ρ σ S Fr){a:Addr}(h:Fr a):¬inO ob S a:=λ⟨i,_,z⟩=>s.fdj i a h z
theorem Sta.tmp(s:Sta G H ob ρ σ S Fr){a:Addr}(h:Fr a):(wn ob S Fr).tmp a:=⟨h,λ⟨i,_,z⟩=>s.fdj i a h z,λ⟨i,_,z⟩=>s.fdj i a h z⟩
theorem Eff.evo(s:Sta G H ob ρ σ S Fr)(e:Eff ob H H1 S S1 M):Evo H H1 (wn ob S Fr) (wn ob S1 1.31)where
 k:=λb u h f=>⟨e.kp b u h f.2.2,λz=>z.elim (λz=>(e.fm b z).elim f.2.2 λq=>by rw[h]at q;cases q) f.1,λ⟨i,h1,h2⟩=>f.2.1 ⟨i,h1,by rw[←e.sn i h1];exact h2⟩,e.notO h f.2.2⟩
 t:=λb xs h=>by
  have D:∀u,H b=some u->muO u=false->H1 b=some u:=λu J m=>e.kp b u J λ⟨i,_,z⟩=>by
   obtain⟨o,B,F⟩:=s.mu z;rw[J]at B;cases B;rw[m]at F;cases F
  exact D _ h rfl
theorem Eff.evoN(s:Sta G H ob ρ σ S Fr)(e:Eff ob H H1 S S1 M):O7 H H1 (wn ob S Fr) (wn ob S1 1.31):=λb u h ⟨i,h1,h2⟩=>
 ⟨e.kp b u h (λ⟨j,q1,q2⟩=>by rw[s.dj i j b h2 q2,q1]at h1;cases h1),⟨i,h1,by rw[e.sn i h1];exact h2⟩⟩
theorem Eff.keepsF(s:Sta G H ob ρ σ S Fr)(e:Eff ob H H1 S S1 M){a:Addr}(h:Fr a):∀u,H a=some u->H1 a=some u:=λu J=>e.kp a u J (s.notO h)
theorem pq{L M:List Addr}:plus M (plus L Fr)=plus (L++M) Fr:=by
 funext a;simp![plus,Zy,eq_iff_iff];constructor
 .rintro(z|z|z)
  .exact .inl (.inr z)
  .exact .inl (.inl z)
  .exact .inr z
 .rintro((z|z)|z)
  .exact .inr (.inl z)
  .exact .inl z
  .exact .inr (.inr z)
theorem TY{J:List Addr}{d:D}{v:V}(s:Sta G H1 ob ρ1 σ S1 (plus L Fr))(e:Eff ob H H1 S S1 L)(I:Same H1 H2)(r:Rep G H2 (((wn ob S1 (plus L Fr)).drop L).add J) d v J)(f:∀a∈J,a∈L∨H1 a=none)(B:Sta G H ob ρ σ S Fr) :
  Sta G H2 ob ρ1 σ S1 (plus J Fr)/\Rep G H2 (wn ob S1 (plus J Fr)) d v J/\Eff ob H H2 S S1 J:=by
 refine⟨s.grow I λa h=>?_,r.up ⟨Same.refl _,λb u U q=>⟨λz=>?_,q.2⟩,λ_ _ _ q=>q⟩,e.same I f⟩
 .rcases h with h|h
  .exact(f a h).imp .inl λz=>⟨z,r.dom a h⟩
  .exact .inl (.inr h)
 .rcases z with z|z
  .exact q.1 (.inl z)
  .refine q.1 (.inr ⟨.inr z,λh=>?_⟩)
   rcases e.fm b h with y|y
   .exact B.notO z y
   .obtain⟨o,ho,_⟩:=B.fdm b z
    rw[y]at ho;cases ho
end
def eUp(f:En->Option D):En->Option (D×En):=λρ=>(f ρ).map λd=>(d,ρ)
theorem Dw{f:En->Option D}(h:RfE G ob ta f):j5 G ob ta (eUp f):=λρ d I e σ H S Fr s Q q=>by
 unfold eUp at e;cases h1:f ρ with
 |none=>rw[h1]at e;cases e
 |some d0=>
  rw[h1]at e;cases e;refine h ρ d h1 σ H _ s.rel s.wok Q λv H' L B r F nd=>?_;exact q v H' L S (s.grow B λa z=>z.elim (λz=>.inr ⟨F a z,r.dom a z⟩) .inl) r nd ⟨λb u U _=>B b u U,λ_ _=>rfl,λi a h z=>.inl ⟨i,h,z⟩,λa Y=>.inr (F a Y)⟩
def jd(f:En->Option Bool):En->Option (Bool×En):=λρ=>(f ρ).map λd=>(d,ρ)
theorem MN{t:TT}{f:En->Option Bool}(h:RfT G ob t f):Iw G ob t (jd f):=λρ d I e σ H S Fr s Q q=>by
 unfold jd at e;cases h1:f ρ with
 |none=>rw[h1]at e;cases e
 |some d0=>
  rw[h1]at e;cases e;refine h ρ d h1 σ H _ s.rel s.wok Q λH' B=>?_;exact q H' S (s.grow B λa z=>.inl z) ⟨λb u U _=>B b u U,λ_ _=>rfl,λi a h z=>.inl ⟨i,h,z⟩,by simp⟩
def dB(f:En->Option (List D)):En->Option (List D×En):=λρ=>(f ρ).map λd=>(d,ρ)
theorem zR(h:RfA G ob t f):CW G ob t (dB f):=λρ d I e σ H S Fr s Q q=>by
 unfold dB at e;cases h1:f ρ with
 |none=>rw[h1]at e;cases e
 |some d0=>
  rw[h1]at e;cases e;refine h ρ d h1 σ H _ s.rel s.wok Q λv H' L B r F nd=>?_;exact q v H' L S (s.grow B λa z=>z.elim (λz=>.inr ⟨F a z,r.dom a z⟩) .inl) r nd ⟨λb u U _=>B b u U,λ_ _=>rfl,λi a h z=>.inl ⟨i,h,z⟩,λa Y=>.inr (F a Y)⟩
theorem b_{f:En->Option D}(h:PV X G ob e f):PVe X G ob e (eUp f):=let⟨t,a1,a2⟩:=h.ex;⟨t,a1,Dw a2⟩
theorem uK{f:En->Option Bool}(h:PVT X G ob e f):Od X G ob e (jd f):=let⟨t,a1,a2⟩:=h.ex;⟨t,a1,MN a2⟩
theorem bV{e:List Expr}(h:PVA X G ob e f):Dh X G ob e (dB f):=let⟨t,a1,a2⟩:=h.ex;⟨t,a1,zR a2⟩
variable{fa fb:En->Option (D×En)}
theorem j5.two(Y:j5 G ob ta fa)(U:j5 G ob tb fb){ρ1 ρ2:En}{dx dy:D}(e1:fa ρ=some (dx,ρ1))(e2:fb ρ1=some (dy,ρ2))(J:aB dx=true){Fr:Addr->Prop}(s:Sta G H ob ρ σ S Fr)
  (h:∀x y H' L M S',Sta G H' ob ρ2 σ S' (plus (L++M) Fr)->Rep G H' (wn ob S' (plus (L++M) Fr)) dx x L->Rep G H' (wn ob S' (plus (L++M) Fr)) dy y M->(L++M).Nodup->Eff ob H H' S S' (L++M)->R x y H'):ta σ H λx H1=>tb σ H1 λy H2=>R x y H2:=by
 refine Y ρ dx ρ1 e1 σ H S Fr s _ λx H1 L S1 F rx nx f1=>?_;refine U ρ1 dy ρ2 e2 σ H1 S1 (plus L Fr) F _ λy H2 M S2 O ry q B=>?_;have I:=rx.mono (B.evo F) (.inr (B.evoN F)) (.inl J) λc Z u hu=>B.keepsF F (.inl Z) u hu;rw[pq]at O ry I;refine h x y H2 L M S2 O I ry (fu nx q λa h1 h2=>?_) (f1.trans B);rcases B.fm a h2 with z|z
 .exact F.notO (.inl h1) z
 .obtain⟨o,ho,_⟩:=rx.dom a h1
  rw[z]at ho;cases ho
def ee2(g:D->D->Option D)(fa fb:En->Option (D×En)):En->Option (D×En):=λρ=>(fa ρ).bind λp=>(fb p.2).bind λq=>if aB p.1 then(g p.1 q.1).map λd=>(d,q.2)else none
theorem DY{r:R2}{g:D->D->Option D}(B:OpV G r g)(Y:j5 G ob ta fa)(U:j5 G ob tb fb):j5 G ob (tOp r ta tb) (ee2 g fa fb):=λρ d I e σ H S Fr s Q q=>by
 unfold ee2 at e;cases h1:fa ρ with
 |none=>simp[h1]at e
 |some p=>
  obtain⟨dx,ρ1⟩:=p;cases h2:fb ρ1 with
  |none=>simp[h1,h2]at e
  |some p=>
   obtain⟨V,ρ2⟩:=p;cases J:aB dx with
   |false=>simp[h1,h2,J]at e
   |true=>
    cases Z:g dx V with
    |none=>simp[h1,h2,J,Z]at e
    |some d'=>
     obtain⟨rfl,rfl⟩:d'=d/\ρ2=I:=by simpa[h1,h2,J,Z]using e
     refine j5.two Y U h1 h2 J s λx y H' L M S' s' rx ry nd F=>?_;refine B dx V _ Z x y H' _ L M rx ry nd (λa Y=>s'.tmp (.inl Y)) s'.wok Q λv H3 L3 z r3 f3 n3=>?_;obtain⟨q1,q2,O⟩:=TY s' F z r3 f3 s;exact q v H3 L3 S' q1 q2 n3 O
def dR(fa:En->Option (D×En))(I:En->Option (List D×En)):En->Option (List D×En):=λρ=>(fa ρ).bind λp=>(I p.2).bind λq=>if aB p.1 then some (p.1::q.1,q.2)else none
theorem Oq{fr:En->Option (List D×En)}(Y:j5 G ob ta fa)(O:CW G ob t fr):CW G ob (Cw ta t) (dR fa fr):=λρ ds I e σ H S Fr s Q q=>by
 unfold dR at e;cases h1:fa ρ with
 |none=>simp[h1]at e
 |some p=>
  obtain⟨dx,ρ1⟩:=p;cases h2:fr ρ1 with
  |none=>simp[h1,h2]at e
  |some p=>
   obtain⟨es,ρ2⟩:=p;cases J:aB dx with
   |false=>simp[h1,h2,J]at e
   |true=>
    obtain⟨rfl,rfl⟩:dx::es=ds/\ρ2=I:=by simpa[h1,h2,J]using e
    refine Y ρ dx ρ1 h1 σ H S Fr s _ λx H1 L S1 F rx nx V=>?_;refine O ρ1 es _ h2 σ H1 S1 (plus L Fr) F _ λys H2 M S2 s2 U ny B=>?_;have a0:=rx.mono (B.evo F) (.inr (B.evoN F)) (.inl J) λc Z u hu=>B.keepsF F (.inl Z) u hu;rw[pq]at s2 U a0;refine q (x::ys) H2 (L++M) S2 s2 (.cons a0 U) (fu nx ny λa h1 h2=>?_) (V.trans B);rcases B.fm a h2 with z|z
    .exact F.notO (.inl h1) z
    .obtain⟨o,ho,_⟩:=rx.dom a h1
     rw[z]at ho;cases ho
def kE(g:List D->Option D)(f:En->Option (List D×En)):En->Option (D×En):=λρ=>(f ρ).bind λp=>(g p.1).map λd=>(d,p.2)
variable{f:En->Option (List D×En)}
theorem Es(B:CaV G r g)(h:CW G ob t f):j5 G ob (λσ H Q=>t σ H λvs H1=>r vs H1 Q) (kE g f):=λρ d I e σ H S Fr s Q q=>by
 unfold kE at e;cases h1:f ρ with
 |none=>simp[h1]at e
 |some p=>
  obtain⟨ds,ρ1⟩:=p;cases Z:g ds with
  |none=>simp[h1,Z]at e
  |some d'=>
   obtain⟨rfl,rfl⟩:d'=d/\ρ1=I:=by simpa[h1,Z]using e
   refine h ρ ds _ h1 σ H S Fr s _ λxs H' L S' s' rx nd F=>?_;refine B ds _ Z xs H' _ L rx nd (λa Y=>s'.tmp (.inl Y)) s'.wok Q λv H3 J z U f3 n3=>?_;obtain⟨q1,q2,O⟩:=TY s' F z U f3 s;exact q v H3 J S' q1 q2 n3 O
theorem oJ{op:aeg}{g:D->D->Option D}(o:OpB X G (aa3 op) g)(Y:PVe X G ob a fa)(U:PVe X G ob b fb):PVe X G ob (.BinOp a op b pos) (ee2 g fa fb):=let⟨r,o1,o2⟩:=o.ex;let⟨t,a1,a2⟩:=Y.ex;let⟨u,b1,b2⟩:=U.ex;⟨_,λc=>T4 (o1 c) (a1 c) (b1 c),DY o2 a2 b2⟩
theorem tO{g:D->D->Option D}(o:IxB X G g)(Y:PVe X G ob a fa)(U:PVe X G ob b fb)(B:uI b:=by exact λ_ _=>rfl):PVe X G ob (.Subscript a b pos) (ee2 g fa fb):=let⟨r,o1,o2⟩:=o.ex;let⟨t,a1,a2⟩:=Y.ex;let⟨u,b1,b2⟩:=U.ex;⟨_,λc=>JW (o1 c) (a1 c) (b1 c) B,DY o2 a2 b2⟩
theorem jQ{f:En->Option (D×En)}{I:En->Option (List D×En)}(Y:PVe X G ob e f)(O:Dh X G ob es I)(B:∀c,ZK (e::es) (X c).env=(false,eval e (X c).env)::ZK es (X c).env:=by intro _;rfl):Dh X G ob (e::es) (dR f I):=let⟨t,a1,a2⟩:=Y.ex;let⟨u,b1,b2⟩:=O.ex;⟨_,λc=>uL (a1 c) (b1 c) (B c),Oq a2 b2⟩
theorem Eo(o:CaB X G (.type T) g)(q:∀c,Gl (X c) x)(J:∀c,(X c).mg x=none)(Z:abm x=some (.type T))(Y:Dh X G ob (e::es) f)(hn:x≠"__name__":=by decide)(z:(x==("__debug__":Str))=false:=by decide)(V:∀c,ZK (e::es) (X c).env=(false,eval e (X c).env)::ZK es (X c).env:=by intro _;rfl)(B:∀c,(aaH pos (ZK es (X c).env)).any (·.1)=false:=by intro _;rfl):PVe X G ob (.Call (.Name x p) (e::es) [] pos) (kE g f):=let⟨r,o1,o2⟩:=o.ex;let⟨t,a1,a2⟩:=Y.ex;⟨_,λc=>yr (o1 c) (q c) (J c) Z (a1 c) hn z (V c) (B c),Es o2 a2⟩
theorem RD(h:Dh X G ob es f):PVe X G ob (.Tuple es k pos) (kE cG f):=let⟨t,a1,a2⟩:=h.ex;⟨_,λc=>Le (a1 c),Es Hj a2⟩
theorem Pu(h:Dh X G ob es f):PVe X G ob (.List es pos) (kE dq f):=let⟨t,a1,a2⟩:=h.ex;⟨_,λc=>Ka (a1 c),Es Hi a2⟩
def truth:D->Option Bool
 |.non=>some false
 |.bl b=>some b
 |.int i=>some (i !=0)
 |.str y=>if y.length<=ZM then some ((y.length:Int)!=0)else none
 |.lst _ ds=>some (!ds.isEmpty)
 |.tup ds=>some (!ds.isEmpty)
 |.dct m _ ds=>if m= .scr then none else some (!ds.isEmpty)
 |_=>none
theorem sW(r:aF G H W ds xs L):ds.isEmpty=xs.isEmpty:=by
 have:=r.length;cases ds<;>cases xs<;>simp_all
theorem Mm{k:Bool}(r:Rep G H W d v L)(h:truth d=some k):Qh G.K v H k:=by
 cases d with
 |non=>rw[Rep]at r;obtain⟨rfl,_⟩:=r;cases h;rfl
 |bl b=>rw[Rep]at r;obtain⟨rfl,_⟩:=r;cases h;rfl
 |int i=>rw[Rep]at r;obtain⟨rfl,_⟩:=r;cases h;rfl
 |str y=>
  rw[Rep]at r;obtain⟨rfl,_⟩:=r;simp![truth]at h;split at h
  .cases h;exact⟨‹_›,rfl⟩
  .cases h
 |ty n=>cases h
 |tup ds=>
  rw[Rep]at r;obtain⟨a,xs,rfl,Y,O⟩:=r;cases h;exact .inr (.inl ⟨xs,SqT.of Y,by rw[sW O]⟩)
 |lst m ds=>
  rw[Rep]at r;obtain⟨a,xs,M,rfl,O,B⟩:=r;cases h;exact .inl ⟨xs,B.sq,by rw[sW O]⟩
 |dct m ks ds=>
  rw[Rep]at r;obtain⟨a,kvs,M,rfl,I,O,B⟩:=r;simp![truth]at h;split at h
  .cases h
  .cases h
   refine .inr (.inr ⟨kvs,B.at ‹_›,?_⟩);rw[sW O];cases kvs<;>rfl
 |ins m c fs ds=>cases h
section
variable{ι:Type}{X:ι->Cx}{G:Gc}{ob:Nat->Bool}{a b:Expr}{pos:Pos}
def iI(f:En->Option D):En->Option Bool:=λρ=>(f ρ).bind truth
theorem Ur{ta:TE}{f:En->Option D}(h:RfE G ob ta f):RfT G ob (λσ H Q=>ta σ H λx H'=>∃k,Qh G.K x H' k/\Q k H') (iI f):=λρ k e σ H W J w Q q=>by
 unfold iI at e;cases h1:f ρ with
 |none=>simp[h1]at e
 |some d=>
  have e:truth d=some k:=by simpa[h1]using e
  exact h ρ d h1 σ H W J w _ λx H' L s r I nd=>⟨k,Mm r e,q H' s⟩
theorem lr{f:En->Option D}(h:PV X G ob a f)(V:∀c,∀q,aeO a (X c).env q=(do let v ←q;ac7 a.pos;abi [v] (truthy v)):=by intro _;intro _;rfl)(F:∀c,(X c).K=G.K:=by intro _;rfl):PVT X G ob a (iI f):=let⟨t,a1,a2⟩:=h.ex;⟨_,λc=>(by have h:=Kv (a1 c) (V c);rw[F c]at h;exact h),Ur a2⟩
def isB:D->Option Bool
 |.bl b=>some b
 |_=>none
def eB(f:En->Option D):En->Option Bool:=λρ=>(f ρ).bind isB
def eeB(f:En->Option (D×En)):En->Option (Bool×En):=λρ=>(f ρ).bind λp=>(isB p.1).map λb=>(b,p.2)
theorem uW{d:D}{k:Bool}(h:isB d=some k):d= .bl k:=by
 cases d<;>simp[isB]at h;rw[h]
theorem Y4{ta:TE}{f:En->Option D}(h:RfE G ob ta f):RfT G ob (N8 ta) (eB f):=λρ k e σ H W J w Q q=>by
 unfold eB at e;cases h1:f ρ with
 |none=>simp[h1]at e
 |some d=>
  have e:isB d=some k:=by simpa[h1]using e
  have:=uW e;subst this;refine h ρ _ h1 σ H W J w _ λx H' L s r I nd=>⟨k,?_,q H' s⟩;rw[Rep]at r;exact r.1
theorem WN{ta:TE}{f:En->Option (D×En)}(h:j5 G ob ta f):Iw G ob (N8 ta) (eeB f):=λρ k I e σ H S Fr s Q q=>by
 unfold eeB at e;cases h1:f ρ with
 |none=>simp[h1]at e
 |some p=>
  obtain⟨d,ρ1⟩:=p;cases h2:isB d with
  |none=>simp[h1,h2]at e
  |some F=>
   obtain⟨rfl,rfl⟩:F=k/\ρ1=I:=by simpa[h1,h2]using e
   have:=uW h2;subst this;refine h ρ _ _ h1 σ H S Fr s _ λx H' M S' s' r nd B=>⟨F,?_,q H' S' (s'.lessF λa z=>.inr z) (B.same (Same.refl _) (by simp))⟩;rw[Rep]at r;exact r.1
theorem bL{fa fb:En->Option D}{op:CmpOp}{g:D->D->Option D}(o:OpB X G (aaA op) g)(Y:PV X G ob a fa)(U:PV X G ob b fb)(J:adt op b=false:=by with_unfolding_all rfl):PVT X G ob (.Compare a [op] [b] pos) (eB (e2 g fa fb)):=let⟨r,o1,o2⟩:=o.ex;let⟨t,a1,a2⟩:=Y.ex;let⟨u,b1,b2⟩:=U.ex;⟨_,λc=>Hl (o1 c) (a1 c) (b1 c) J,Y4 (G9 o2 a2 b2)⟩
theorem qN{fa fb:En->Option (D×En)}{op:CmpOp}{g:D->D->Option D}(o:OpB X G (aaA op) g)(Y:PVe X G ob a fa)(U:PVe X G ob b fb)(J:adt op b=false:=by with_unfolding_all rfl):Od X G ob (.Compare a [op] [b] pos) (eeB (ee2 g fa fb)):=let⟨r,o1,o2⟩:=o.ex;let⟨t,a1,a2⟩:=Y.ex;let⟨u,b1,b2⟩:=U.ex;⟨_,λc=>Hl (o1 c) (a1 c) (b1 c) J,WN (DY o2 a2 b2)⟩
def mD(f g:En->Option Bool):En->Option Bool:=λρ=>(f ρ).bind λc=>if c then g ρ else some false
def eOr(f g:En->Option Bool):En->Option Bool:=λρ=>(f ρ).bind λc=>if c then some true else g ρ
def jL(f:En->Option Bool):En->Option Bool:=λρ=>(f ρ).map λc=>!c
def j6(f g:En->Option (Bool×En)):En->Option (Bool×En):=λρ=>(f ρ).bind λp=>if p.1 then g p.2 else some (false,p.2)
theorem Ut{t u:TT}{f g:En->Option Bool}(h:RfT G ob t f)(h':RfT G ob u g):RfT G ob (Yx t u) (mD f g):=λρ k e σ H W J w Q q=>by
 unfold mD at e;cases h1:f ρ with
 |none=>simp[h1]at e
 |some c=>
  refine h ρ c h1 σ H W J w _ λH1 F=>?_;cases c with
  |false=>
   have:false=k:=by simpa[h1]using e
   subst this;exact u_ (q H1 F)
  |true=>
   have e:g ρ=some k:=by simpa[h1]using e
   exact sI (h' ρ k e σ H1 W (J.up (Up.same F)) (λa Y=>let⟨o,z,m⟩:=w a Y;⟨o,F a o z,m⟩) Q λH2 O=>q H2 (F.trans O))
theorem Xv{t u:TT}{f g:En->Option Bool}(h:RfT G ob t f)(h':RfT G ob u g):RfT G ob (tOr t u) (eOr f g):=λρ k e σ H W J w Q q=>by
 unfold eOr at e;cases h1:f ρ with
 |none=>simp[h1]at e
 |some c=>
  refine h ρ c h1 σ H W J w _ λH1 F=>?_;cases c with
  |true=>
   have:true=k:=by simpa[h1]using e
   subst this;exact sI (q H1 F)
  |false=>
   have e:g ρ=some k:=by simpa[h1]using e
   exact u_ (h' ρ k e σ H1 W (J.up (Up.same F)) (λa Y=>let⟨o,z,m⟩:=w a Y;⟨o,F a o z,m⟩) Q λH2 O=>q H2 (F.trans O))
theorem V6{t:TT}{f:En->Option Bool}(h:RfT G ob t f):RfT G ob (Xq t) (jL f):=λρ k e σ H W J w Q q=>by
 unfold jL at e;cases h1:f ρ with
 |none=>simp[h1]at e
 |some c=>
  have:(!c)=k:=by simpa[h1]using e
  subst this;exact h ρ c h1 σ H W J w _ λH1 F=>q H1 F
variable{rest:List Expr}{fa fb:En->Option Bool}{ga gb:En->Option (Bool×En)}
theorem Ri(Y:PVT X G ob a fa)(U:PVW X G ob (.BoolOp .And (b::rest) pos) fb):PVW X G ob (.BoolOp .And (a::b::rest) pos) (mD fa fb):=let⟨t,a1,a2⟩:=Y.ex;let⟨u,b1,b2⟩:=U.ex;⟨_,λc=>Vd (a1 c) (b1 c),Ut a2 b2⟩
theorem Ge(Y:PVT X G ob a fa)(U:PVW X G ob (.BoolOp .Or (b::rest) pos) fb):PVW X G ob (.BoolOp .Or (a::b::rest) pos) (eOr fa fb):=let⟨t,a1,a2⟩:=Y.ex;let⟨u,b1,b2⟩:=U.ex;⟨_,λc=>Yg (a1 c) (b1 c),Xv a2 b2⟩
theorem K6(Y:PVT X G ob a fa):PVW X G ob (.BoolOp .And [a] pos) fa:=let⟨t,a1,a2⟩:=Y.ex;⟨_,λc=>RC (a1 c),a2⟩
theorem yV(Y:PVT X G ob a fa):PVW X G ob (.BoolOp .Or [a] pos) fa:=let⟨t,a1,a2⟩:=Y.ex;⟨_,λc=>Uq (a1 c),a2⟩
theorem Hh(h:PVW X G ob a fa):PVT X G ob a fa:=let⟨t,a1,a2⟩:=h.ex;⟨_,λc=>PW.pt (a1 c),a2⟩
theorem uN(Y:PVT X G ob a fa):PVT X G ob (.UnaryOp .Not a pos) (jL fa):=let⟨t,a1,a2⟩:=Y.ex;⟨_,λc=>Wu (a1 c),V6 a2⟩
def lV(f g:En->Option D):En->Option D:=λρ=>(f ρ).bind λx=>(isB x).bind λc=>if c then g ρ else some (.bl false)
def aW(c:En->Option Bool)(f g:En->Option D):En->Option D:=λρ=>(c ρ).bind λb=>if b then f ρ else g ρ
def aM(c:En->Option (Bool×En))(f g:En->Option (D×En)):En->Option (D×En):=λρ=>(c ρ).bind λp=>if p.1 then f p.2 else g p.2
theorem WOk.up{H H':Hp}{W:Wn}(w:WOk H W)(s:Same H H'):WOk H' W:=λa Y=>let⟨o,z,m⟩:=w a Y;⟨o,s a o z,m⟩
theorem Vk{G:Gc}{H:Hp}{W:Wn}{b:Bool}:Rep G H W (.bl b) (.bl b) []:=by rw[Rep];exact⟨rfl,rfl⟩
theorem Q4{ta tb:TE}{f g:En->Option D}(h:RfE G ob ta f)(h':RfE G ob tb g):RfE G ob (TV ta tb) (lV f g):=λρ d e σ H W J w Q q=>by
 unfold lV at e;cases h1:f ρ with
 |none=>simp[h1]at e
 |some x=>
  cases h2:isB x with
  |none=>simp[h1,h2]at e
  |some c=>
   have:=uW h2;subst this;refine h ρ _ h1 σ H W J w _ λv H1 L F r I nd=>?_;rw[Rep]at r;refine⟨c,r.1,?_⟩;cases c with
   |false=>
    have:D.bl false=d:=by simpa[h1,isB]using e
    subst this;exact u_ (q _ H1 [] F Vk (by simp) aap)
   |true=>
    have e:g ρ=some d:=by simpa[h1,isB]using e
    exact sI (h' ρ d e σ H1 W (J.up (Up.same F)) (w.up F) Q λv H2 L O r I nd=>q v H2 L (F.trans O) r (λa Y=>F.none' (I a Y)) nd)
theorem U8{t:TT}{ta tb:TE}{c:En->Option Bool}{f g:En->Option D}(Z:RfT G ob t c)(h:RfE G ob ta f)(h':RfE G ob tb g):RfE G ob (tIf t ta tb) (aW c f g):=λρ d e σ H W J w Q q=>by
 unfold aW at e;cases h1:c ρ with
 |none=>simp[h1]at e
 |some b=>
  refine Z ρ b h1 σ H W J w _ λH1 F=>?_;cases b with
  |true=>
   have e:f ρ=some d:=by simpa[h1]using e
   exact sI (h ρ d e σ H1 W (J.up (Up.same F)) (w.up F) Q λv H2 L O r I nd=>q v H2 L (F.trans O) r (λa Y=>F.none' (I a Y)) nd)
  |false=>
   have e:g ρ=some d:=by simpa[h1]using e
   exact u_ (h' ρ d e σ H1 W (J.up (Up.same F)) (w.up F) Q λv H2 L O r I nd=>q v H2 L (F.trans O) r (λa Y=>F.none' (I a Y)) nd)
theorem QG{t:TT}{ta tb:TE}{c:En->Option (Bool×En)}{f g:En->Option (D×En)}(Z:Iw G ob t c)(h:j5 G ob ta f)(h':j5 G ob tb g):j5 G ob (tIf t ta tb) (aM c f g):=λρ d I e σ H S Fr s Q q=>by
 unfold aM at e;cases h1:c ρ with
 |none=>simp[h1]at e
 |some p=>
  obtain⟨b,ρ1⟩:=p;refine Z ρ b ρ1 h1 σ H S Fr s _ λH1 S1 F V=>?_;cases b with
  |true=>
   have e:f ρ1=some (d,I):=by simpa[h1]using e
   exact sI (h ρ1 d I e σ H1 S1 Fr F Q λv H2 M S2 O r nd B=>q v H2 M S2 O r nd (V.trans B))
  |false=>
   have e:g ρ1=some (d,I):=by simpa[h1]using e
   exact u_ (h' ρ1 d I e σ H1 S1 Fr F Q λv H2 M S2 O r nd B=>q v H2 M S2 O r nd (V.trans B))
section
variable{c:Expr}{fa fb:En->Option D}{fc:En->Option Bool}
theorem M8(Y:PV X G ob a fa)(U:PV X G ob (.BoolOp .And (b::rest) pos) fb):PV X G ob (.BoolOp .And (a::b::rest) pos) (lV fa fb):=let⟨t,a1,a2⟩:=Y.ex;let⟨u,b1,b2⟩:=U.ex;⟨_,λc=>Wa (a1 c) (b1 c),Q4 a2 b2⟩
theorem Lh{op}(Y:PV X G ob a fa):PV X G ob (.BoolOp op [a] pos) fa:=let⟨t,a1,a2⟩:=Y.ex;⟨_,λc=>Wg (a1 c),a2⟩
theorem UL(Z:PVT X G ob c fc)(Y:PV X G ob a fa)(U:PV X G ob b fb):PV X G ob (.IfExp c a b pos) (aW fc fa fb):=let⟨v,c1,c2⟩:=Z.ex;let⟨t,a1,a2⟩:=Y.ex;let⟨u,b1,b2⟩:=U.ex;⟨_,λc=>Cz (c1 c) (a1 c) (b1 c),U8 c2 a2 b2⟩
theorem Rp{fa fb:En->Option (D×En)}{fc:En->Option (Bool×En)}(Z:Od X G ob c fc)(Y:PVe X G ob a fa)(U:PVe X G ob b fb):PVe X G ob (.IfExp c a b pos) (aM fc fa fb):=let⟨v,c1,c2⟩:=Z.ex;let⟨t,a1,a2⟩:=Y.ex;let⟨u,b1,b2⟩:=U.ex;⟨_,λc=>Cz (c1 c) (a1 c) (b1 c),QG c2 a2 b2⟩
end
end
section
variable{G:Gc}{ob P:Nat->Bool}{H H1 H2:Hp}{S S1 S2:Ad}{L M:List Addr}{ρ ρ1:En}{σ:L2.St}{Fr:Addr->Prop}
def gf(S:Ad)(i:Nat)(M:List Addr):Ad:=λj=>if j=i then M else S j
theorem cQ{i:Nat}:gf S i M i=M:=ZV rfl
theorem cI{i j:Nat}(h:j≠i):gf S i M j=S j:=Z1 h
theorem dN{i j:Nat}{a:Addr}(h:a∈gf S i M j):(j=i/\a∈M)∨(j≠i/\a∈S j):=by
 by_cases e:j=i
 .rw[e,cQ]at h;exact .inl ⟨e,h⟩
 .rw[cI e]at h;exact .inr ⟨e,h⟩
theorem Mv.refl:Mv P H H σ σ S S M:=⟨λ_ _ h _ _=>h,λi a z=>.inl ⟨i,z⟩,.refl⟩
theorem Sta.store{i:Nat}{d:D}{v:V}(s:Sta G H ob ρ σ S 1.31)(r:Rep G H (wn ob S 1.31) d v M)(Z:clean d=true)(nd:M.Nodup)(Y:∀a∈M,¬Fr a) :
  ∃S',Sta G H ob (ρ.set i (some d)) (σ.set i (some v)) S' Fr/\∀j a,a∈S' j->inS S a∨a∈M:=by
 by_cases hi:i<ρ.length
 .refine⟨gf S i M,⟨by simp[s.len],λj e B=>?_,λj F=>?_,λj=>?_,λj k a h1 h2=>?_,λj a h1 h2=>?_,λa h=>s.fdm a (.inr h)⟩,λj a h=>?_⟩
  .have ev:Evo H H (wn ob S 1.31) (wn ob (gf S i M) Fr):=⟨λb u h f=>⟨h,⟨λz=>f.1 (.inr z),λ⟨k,h1,h2⟩=>?_,λ⟨k,h1,h2⟩=>?_⟩⟩,λ_ _ h=>h⟩
   .by_cases e:j=i
    .subst e
     have:d=e:=by simpa[hi]using B
     have:d=e:=this;subst this;have O:j<σ.length:=by rw[←s.len];exact hi
     refine⟨v,by simp[O],?_,Z⟩;rw[cQ];have q:aC d=true/\aB d=true:=by simpa[clean]using Z
     exact r.mono ev (.inl q.1) (.inl q.2) λ_ _ _ h=>h
    .rw[List.getElem?_set_ne (aay e)]at B
     obtain⟨U,h1,h2,I⟩:=s.sl j _ B;refine⟨U,by rw[List.getElem?_set_ne (aay e)];exact h1,?_,I⟩;rw[cI e];have q:=(by simpa[clean]using I:aC _=true/\aB _=true);exact h2.mono ev (.inl q.1) (.inl q.2) λ_ _ _ h=>h
   .rcases dN h2 with⟨_,z⟩|⟨_,z⟩
    .exact f.1 (.inl z)
    .exact f.2.1 ⟨k,h1,z⟩
   .rcases dN h2 with⟨_,z⟩|⟨_,z⟩
    .exact f.1 (.inl z)
    .exact f.2.2 ⟨k,h1,z⟩
  .by_cases e:j=i
   .subst e
    exact absurd (by simp[hi]) (F d)
   .rw[cI e]
    exact s.em j λd'=>by have:=F d';rwa[List.getElem?_set_ne (aay e)]at this
  .by_cases e:j=i
   .rw[e,cQ];exact nd
   .rw[cI e];exact s.nd j
  .rcases dN h1 with⟨e1,z1⟩|⟨e1,z1⟩<;>rcases dN h2 with⟨e2,J⟩|⟨e2,J⟩
   .rw[e1,e2]
   .exact absurd J (s.fdj k a (.inl z1))
   .exact absurd z1 (s.fdj j a (.inl J))
   .exact s.dj j k a z1 J
  .rcases dN h2 with⟨_,z⟩|⟨_,z⟩
   .exact Y a z h1
   .exact s.fdj j a (.inr h1) z
  .rcases dN h with⟨_,z⟩|⟨_,z⟩
   .exact .inr z
   .exact .inl ⟨j,z⟩
 .have h1:ρ.set i (some d)=ρ:=aem 1.11
  have h2:σ.set i (some v)=σ:=aem (by rw[←s.len];omega);rw[h1,h2];exact⟨S,s.lessF λa z=>.inr z,λj a h=>.inl ⟨j,h⟩⟩
end
section
variable{ι:Type}{X:ι->Cx}{G:Gc}{ob P:Nat->Bool}
def c7:En->Option Fl:=λρ=>some (.nx ρ)
def a_(f g:En->Option Fl):En->Option Fl:=λρ=>match f ρ with
 |some (.nx ρ')=>g ρ'
 |r=>r
theorem Aft.from{G:Gc}{H H1:Hp}{σ U:L2.St}{S S1:Ad}{Fr:Addr->Prop}{E:Ends}(m:Mv P H H1 σ U S S1 []):∀{r:Fl},Aft G ob P H σ S Fr E r->Aft G ob P H1 U S1 Fr E r
 |.nx ρ',h=>λB H' S' s I=>h B H' S' s (m.trans I)
 |.brk ρ',h=>λB H' S' s I=>h B H' S' s (m.trans I)
 |.cnt ρ',h=>λB H' S' s I=>h B H' S' s (m.trans I)
 |.ret d ρ',h=>λv B H' M S' s r c n f I=>h v B H' M S' s r c n (λa Y=>by
  rcases f a Y with⟨i,z⟩|z
  .exact(m.gr i a z).elim .inl λz=>z.elim (λz=>by cases z) .inr
  .by_cases q:inS S a
   .exact .inl q
   .refine .inr ?_
    cases e:H a with
    |none=>rfl
    |some u=>rw[m.kp a u e q (by simp)]at z;cases z) (m.trans I)
theorem Rx:RfS G ob P T7 c7:=λρ r e σ H S Fr s E h=>by
 cases e;exact h σ H S s .refl
theorem QQ{t u:TS}{f g:En->Option Fl}(h1:RfS G ob P t f)(h2:RfS G ob P u g):RfS G ob P (W6 t u) (a_ f g):=λρ r e σ H S Fr s E h=>by
 unfold a_ at e;cases Z:f ρ with
 |none=>rw[Z]at e;cases e
 |some fl=>
  rw[Z]at e;refine h1 ρ fl Z σ H S Fr s _ ?_;cases fl with
  |nx I=>exact λY H' S' s' m=>h2 I r e Y H' S' Fr s' E (h.from m)
  |brk I=>cases e;exact h
  |cnt I=>cases e;exact h
  |ret d I=>cases e;exact h
theorem bN:rA X G ob P [] c7:=⟨_,λc=>Q7,Rx⟩
theorem au{st:Stmt}{rest:List Stmt}{f g:En->Option Fl}(h1:PVS X G ob P st f)(h2:rA X G ob P rest g):rA X G ob P (st::rest) (a_ f g):=let⟨t,a1,a2⟩:=h1.ex;let⟨u,b1,b2⟩:=h2.ex;⟨_,λc=>K3 (a1 c) (b1 c),QQ a2 b2⟩
theorem aJ{st:Stmt}{f:En->Option Fl}(h1:PVS X G ob P st f):rA X G ob P [st] f:=let⟨t,a1,a2⟩:=h1.ex;⟨_,λc=>PK (a1 c),a2⟩
def oE:En->Option Fl:=λ_=>none
theorem jf{st:Stmt}:PVS X G ob P st oE:=⟨_,λc=>Kl,λρ r e=>by cases e⟩
def tgN(i:Nat):D->En->Option En:=λd ρ=>if clean d then some (ρ.set i (some d))else none
theorem iW{i:Nat}(J:P i=false):RfG G ob P (yH i) (tgN i):=λd ρ I e v σ H S M Fr s r nd B Q q=>by
 unfold tgN at e;split at e
 .rename_i hc
  cases e;obtain⟨S',s',h⟩:=s.store r hc nd B (i:=i);refine q _ H S' s' ⟨λb u h _ _=>h,λj a z=>(h j a z).imp id .inl,λj F=>?_⟩;have:j≠i:=λz=>by rw[z,J]at F;cases F
  rw[List.getElem?_set_ne (aay this)]
 .cases e
def bZ:List D->En->Option En:=λds ρ=>match ds with
 |[]=>some ρ
 |_=>none
def aO(f:D->En->Option En)(g:List D->En->Option En):List D->En->Option En:=λds ρ=>match ds with
 |d::r=>(f d ρ).bind λρ1=>g r ρ1
 |[]=>none
def tgT(n:Nat)(g:List D->En->Option En):D->En->Option En:=λd ρ=>match d with
 |.tup ds=>if ds.length=n/\aA ds=true/\az ds=true then g ds ρ else none
 |_=>none
theorem JZ:Zd G ob P QV bZ:=λds ρ I e vs σ H S M Fr s r nd J Q q=>by
 cases ds with
 |nil=>
  cases e;obtain⟨rfl,rfl⟩:=r.inv0;exact⟨rfl,q σ H S (s.lessF λa z=>.inr z) .refl⟩
 |cons d r=>cases e
def Lj(G:Gc)(ob P:Nat->Bool)(g:TGs)(f:List D->En->Option En):Prop:=∀(ds:List D)(ρ I:En),az ds=true->aA ds=true->f ds ρ=some I->∀(vs:List V)(σ:L2.St)(H:Hp)(S:Ad)(M:List Addr)(Fr:Addr->Prop),Sta G H ob ρ σ S 1.31->aF G H (wn ob S 1.31) ds vs M->M.Nodup->(∀a∈M,¬Fr a)->
 ∀Q:L2.St->Hp->Prop,(∀Y H' S',Sta G H' ob I Y S' Fr->Mv P H H' σ Y S S' M->Q Y H')->g vs σ H Q
theorem vC:Lj G ob P QV bZ:=λds ρ I _ _ e=>JZ ds ρ I e
theorem jP{t:TG}{u:TGs}{f:D->En->Option En}{g:List D->En->Option En}(h1:RfG G ob P t f)(h2:Lj G ob P u g):Lj G ob P (J9 t u) (aO f g):=λds ρ I c1 c2 e vs σ H S M Fr s r nd hF Q q=>by
 cases ds with
 |nil=>cases e
 |cons d ds=>
  obtain⟨x,ys,M1,M2,rfl,rfl,J,O⟩:=r.inv;simp![az,aA,aal]at c1 c2;simp![aO]at e;cases h3:f d ρ with
  |none=>rw[h3]at e;cases e
  |some ρ1=>
   have e:g ds ρ1=some I:=by simpa[h3]using e
   have a0:=ZZ.mp nd;have a1:plus (M1++M2) Fr=plus M1 (plus M2 Fr):=by
    funext a;simp![plus,Zy,or_assoc]
   rw[a1]at s J O;refine⟨x,ys,rfl,h1 d ρ ρ1 h3 x σ H S M1 (plus M2 Fr) s J a0.1 (λa Y z=>?_) _ λa2 H1 S1 F m1=>?_⟩
   .rcases z with z|z
    .exact a0.2.2 a Y a z rfl
    .exact hF a (ZJ _ Y) z
   .have ev:Evo H H1 (wn ob S (plus M1 (plus M2 Fr))) (wn ob S1 (plus M2 Fr)):=⟨λb u U f=>?_,λb xs h=>?_⟩
    .have hr1:aF G H1 (wn ob S1 (plus M2 Fr)) ds ys M2:=O.mono ev (.inl c1.2) (.inl c2.2) λc Z u hu=>m1.kp c u hu (λ⟨i,z⟩=>s.fdj i c (.inr (.inl Z)) z) λz=>a0.2.2 c z c Z rfl
     refine h2 ds ρ1 I c1.2 c2.2 e ys a2 H1 S1 M2 Fr F hr1 a0.2.1 (λa Y=>hF a (W2 _ Y)) Q λσ2 H2 S2 s2 m2=>q σ2 H2 S2 s2 ⟨λb u U n1 V=>?_,λi a z=>?_,m1.pr.trans m2.pr⟩
     .have n3:b∉M1:=λz=>V (ZJ _ z)
      exact m2.kp b u (m1.kp b u U n1 n3) (λ⟨i,z⟩=>(m1.gr i b z).elim n1 λz=>z.elim n3 λz=>by rw[U]at z;cases z) λz=>V (W2 _ z)
     .rcases m2.gr i a z with⟨j,z⟩|z|z
      .exact(m1.gr j a z).imp id λz=>z.imp (ZJ _) id
      .exact .inr (.inl (W2 _ z))
      .by_cases q1:inS S a
       .exact .inl q1
       .by_cases q2:a∈M1
        .exact .inr (.inl (ZJ _ q2))
        .refine .inr (.inr ?_)
         cases e:H a with
         |none=>rfl
         |some u=>rw[m1.kp a u e q1 q2]at z;cases z
    .have n1:¬inS S b:=λ⟨i,z⟩=>by
      cases B:ob i with
      |false=>exact f.2.1 ⟨i,B,z⟩
      |true=>exact f.2.2 ⟨i,B,z⟩
     have V:b∉M1:=λz=>f.1 (.inl z);refine⟨m1.kp b u U n1 V,λz=>f.1 (.inr z),λ⟨i,_,z⟩=>?_,λ⟨i,_,z⟩=>?_⟩
     .exact(m1.gr i b z).elim n1 λz=>z.elim V λz=>by rw[U]at z;cases z
     .exact(m1.gr i b z).elim n1 λz=>z.elim V λz=>by rw[U]at z;cases z
    .have no:∀u,H b=some u->muO u=false->H1 b=some u:=λu hu m=>m1.kp b u hu (λ⟨i,z⟩=>by
       obtain⟨o,B,hm⟩:=s.mu z;rw[hu]at B;cases B;rw[m]at hm;cases hm) λz=>by
       obtain⟨o,B,hm⟩:=J.dom b z;rw[hu]at B;cases B;rw[m]at hm;cases hm
     exact no _ h rfl
theorem PB{n:Nat}{t:TGs}{g:List D->En->Option En}(h:Lj G ob P t g):RfG G ob P (Wi G.K n t) (tgT n g):=λd ρ I e v σ H S M Fr s r nd J Q q=>by
 cases d with
 |tup ds=>
  simp![tgT]at e;split at e
  .rename_i hl
   rw[Rep]at r;obtain⟨a,xs,rfl,Y,O⟩:=r;exact⟨a,xs,rfl,SqT.of Y,by rw[←O.length];exact hl.1,h ds ρ I hl.2.2 hl.2.1 e xs σ H S M Fr s O nd J Q q⟩
  .cases e
 |_=>cases e
structure Q3{ι:Type}(X:ι->Cx)(G:Gc)(ob P:Nat->Bool)(tg:List Expr)(f:List D->En->Option En):Prop where
 mk::(ex:∃t,(∀c,PGs (X c) tg t)/\Lj G ob P t f)
theorem b8(i:Nat){x:Str}{pos:Pos}(U:∀c,(X c).N.Nodup)(q:P i=false:=by rfl)(hi:∀c,(X c).N[i]? =some x:=by intro _;rfl)(J:∀c,Loc (X c).env.scope x:=by intro _;first|exact abf rfl|exact aaQ rfl)(D:∀c,(X c).fn x=true∨(X c).env.scope.names.lookup x=some .local:=by intro _;first|exact .inl rfl|exact .inr rfl):PVG X G ob P (.Name x pos) (tgN i):=⟨_,λc=>zy (U c) (hi c) (J c) (D c),iW q⟩
theorem jq:Q3 X G ob P [] bZ:=⟨_,λc=>GZ,vC⟩
theorem cu{e:Expr}{es:List Expr}{f:D->En->Option En}{g:List D->En->Option En}(h1:PVG X G ob P e f)(h2:Q3 X G ob P es g)(B:∀c,(aaT (e::es) (X c).env).map (·.2)=acX e (X c).env::(aaT es (X c).env).map (·.2):=by intro _;rfl):Q3 X G ob P (e::es) (aO f g):=let⟨t,a1,a2⟩:=h1.ex;let⟨u,b1,b2⟩:=h2.ex;⟨_,λc=>BZ (a1 c) (b1 c) (B c),jP a2 b2⟩
theorem lg{es:List Expr}{k n:Nat}{pos:Pos}{g:List D->En->Option En}(Z:∀c,(X c).calm=true)(h:Q3 X G ob P es g)(hn:∀c,(aaT es (X c).env).length=n:=by intro _;rfl)(V:∀c,(aaT es (X c).env).findIdx? (·.1)=none:=by intro _;rfl)(F:∀c,(X c).K=G.K:=by intro _;rfl):PVG X G ob P (.Tuple es k pos) (tgT n g):=let⟨t,a1,a2⟩:=h.ex;⟨_,λc=>(by rw[←F c];exact Np (Z c) (a1 c) (hn c) (V c)),PB a2⟩
def cz(f:En->Option D)(g:D->En->Option En):En->Option Fl:=λρ=>(f ρ).bind λd=>(g d ρ).map .nx
def bW(f:En->Option (D×En))(g:D->En->Option En):En->Option Fl:=λρ=>(f ρ).bind λp=>(g p.1 p.2).map .nx
theorem rY{Fr:Addr->Prop}:plus [] Fr=Fr:=by funext a;simp[plus]
theorem lQ{te:TE}{t:TG}{f:En->Option (D×En)}{g:D->En->Option En}(h:j5 G ob te f)(hg:RfG G ob P t g):RfS G ob P (QL te t) (bW f g):=λρ r e σ H S Fr s E q=>by
 unfold bW at e;cases h1:f ρ with
 |none=>simp[h1]at e
 |some p=>
  obtain⟨d,ρ1⟩:=p;cases h2:g d ρ1 with
  |none=>simp[h1,h2]at e
  |some ρ2=>
   have:Fl.nx ρ2=r:=by simpa[h1,h2]using e
   subst this;refine h ρ d ρ1 h1 σ H S Fr s _ λv H1 M S1 F Z nd V=>?_;have J:∀a∈M,¬Fr a:=λa Y z=>by
    rcases V.fm a Y with q|q
    .exact s.notO z q
    .obtain⟨o,B,_⟩:=s.fdm a z
     rw[q]at B;cases B
   refine hg d ρ1 ρ2 h2 v σ H1 S1 M Fr F Z nd J _ λI H' S' s' m=>q I H' S' s' ⟨λb u U O n2=>?_,λi a z=>?_,m.pr⟩
   .have hno:¬inO ob S b:=λ⟨i,_,z⟩=>O ⟨i,z⟩
    refine m.kp b u (V.kp b u U hno) (λ⟨i,z⟩=>?_) λz=>(V.fm b z).elim hno λz=>by rw[U]at z;cases z
    cases B:ob i with
    |false=>rw[V.sn i B]at z;exact O ⟨i,z⟩
    |true=>exact(V.gr i b B z).elim hno λz=>by rw[U]at z;cases z
   .rcases m.gr i a z with⟨j,z⟩|z|z
    .cases B:ob j with
     |false=>rw[V.sn j B]at z;exact .inl ⟨j,z⟩
     |true=>exact(V.gr j a B z).imp (λ⟨k,_,z⟩=>⟨k,z⟩) .inr
    .exact(V.fm a z).imp (λ⟨k,_,z⟩=>⟨k,z⟩) .inr
    .exact(V.back z).imp (λ⟨k,_,z⟩=>⟨k,z⟩) .inr
theorem Fi{f:En->Option D}{g:D->En->Option En}:bW (eUp f) g=cz f g:=by
 funext ρ;unfold bW cz eUp;cases f ρ<;>rfl
section
variable{tg e:Expr}{pos:Pos}{g:D->En->Option En}
theorem mK{f:En->Option D}(V:PV X G ob e f)(q:PVG X G ob P tg g)(B:∀c,ab0 [tg] e pos.line (X c).env=pure false:=by intro _;rfl)(z:∀c,acj [tg] e (X c).env=pure none:=by intro _;rfl)(h1:∀c,(aaT [tg] (X c).env).map (·.2)=[acX tg (X c).env]:=by intro _;rfl):PVS X G ob P (.Assign [tg] e pos) (cz f g):=let⟨t,a1,a2⟩:=V.ex;let⟨u,b1,b2⟩:=q.ex;⟨_,λc=>Ls (a1 c) (b1 c) (B c) (z c) (h1 c),by rw[←Fi];exact lQ (Dw a2) b2⟩
theorem JQ{f:En->Option (D×En)}(V:PVe X G ob e f)(q:PVG X G ob P tg g)(B:∀c,ab0 [tg] e pos.line (X c).env=pure false:=by intro _;rfl)(z:∀c,acj [tg] e (X c).env=pure none:=by intro _;rfl)(h1:∀c,(aaT [tg] (X c).env).map (·.2)=[acX tg (X c).env]:=by intro _;rfl):PVS X G ob P (.Assign [tg] e pos) (bW f g):=let⟨t,a1,a2⟩:=V.ex;let⟨u,b1,b2⟩:=q.ex;⟨_,λc=>Ls (a1 c) (b1 c) (B c) (z c) (h1 c),lQ a2 b2⟩
theorem bT(i:Nat){x:Str}{pos':Pos}{f:En->Option D}(U:∀c,(X c).N.Nodup)(V:PV X G ob e f)(z:P i=false:=by rfl)(hi:∀c,(X c).N[i]? =some x:=by intro _;rfl)(J:∀c,Loc (X c).env.scope x:=by intro _;first|exact abf rfl|exact aaQ rfl)(B:∀c,abS e (some (.Name x pos')) pos.line (X c).env=pure false:=by intro _;rfl)(q:∀c,(X c).fn x=true∨(X c).env.scope.names.lookup x=some .local:=by intro _;first|exact .inl rfl|exact .inr rfl):PVS X G ob P (.Assign [.Name x pos'] e pos) (cz f (tgN i)):=let⟨t,a1,a2⟩:=V.ex;⟨_,λc=>JN (U c) (hi c) (J c) (a1 c) (B c) (q c),by rw[←Fi];exact lQ (Dw a2) (iW z)⟩
theorem dm(i:Nat){x:Str}{pos':Pos}{f:En->Option (D×En)}(U:∀c,(X c).N.Nodup)(V:PVe X G ob e f)(z:P i=false:=by rfl)(hi:∀c,(X c).N[i]? =some x:=by intro _;rfl)(J:∀c,Loc (X c).env.scope x:=by intro _;first|exact abf rfl|exact aaQ rfl)(B:∀c,abS e (some (.Name x pos')) pos.line (X c).env=pure false:=by intro _;rfl)(q:∀c,(X c).fn x=true∨(X c).env.scope.names.lookup x=some .local:=by intro _;first|exact .inl rfl|exact .inr rfl):PVS X G ob P (.Assign [.Name x pos'] e pos) (bW f (tgN i)):=let⟨t,a1,a2⟩:=V.ex;⟨_,λc=>JN (U c) (hi c) (J c) (a1 c) (B c) (q c),lQ a2 (iW z)⟩
end
def dX(f:En->Option (List D×En))(g:List D->En->Option En):En->Option Fl:=λρ=>(f ρ).bind λp=>if az p.1/\aA p.1 then(g p.1 p.2).map .nx else none
def aL(f:En->Option (List D))(g:List D->En->Option En):En->Option Fl:=λρ=>(f ρ).bind λp=>if az p/\aA p then(g p ρ).map .nx else none
theorem Pk{f:En->Option (List D)}{g:List D->En->Option En}:dX (dB f) g=aL f g:=by
 funext ρ;unfold dX aL dB;cases f ρ<;>rfl
theorem JX{ta:TA}{i j:Nat}(hi:P i=false)(hj:P j=false){f:En->Option (List D×En)}(h:CW G ob ta f):RfS G ob P (Yb i j ta) (dX f (aO (tgN i) (aO (tgN j) bZ))):=λρ r e σ H S Fr s E q=>by
 unfold dX at e;cases h1:f ρ with
 |none=>simp[h1]at e
 |some p=>
  obtain⟨ds,ρ1⟩:=p;by_cases Z:az ds/\aA ds
  .cases h2:(aO (tgN i) (aO (tgN j) bZ)) ds ρ1 with
   |none=>simp[h1,h2,Z]at e
   |some ρ2=>
    have:Fl.nx ρ2=r:=by simpa[h1,h2,Z]using e
    subst this;refine h ρ ds ρ1 h1 σ H S Fr s _ λvs H1 M S1 F r1 nd V=>?_;have J:∀a∈M,¬Fr a:=λa Y z=>by
     rcases V.fm a Y with q|q
     .exact s.notO z q
     .obtain⟨o,B,_⟩:=s.fdm a z
      rw[q]at B;cases B
    have a0:=jP (iW (G:=G) (ob:=ob) hi) (jP (iW hj) vC) ds ρ1 ρ2 Z.1 Z.2 h2 vs σ H1 S1 M Fr F r1 nd J (λI H'=>E.nx I H') λI H' S' s' m=>q I H' S' s' ⟨λb u U O n2=>?_,λi a z=>?_,m.pr⟩
    .obtain⟨v,rr,e1,v2,r2,e2,e3,k⟩:=a0
     subst e3;exact⟨v,v2,by rw[e1,e2],k⟩
    .have hno:¬inO ob S b:=λ⟨i,_,z⟩=>O ⟨i,z⟩
     refine m.kp b u (V.kp b u U hno) (λ⟨i,z⟩=>?_) λz=>(V.fm b z).elim hno λz=>by rw[U]at z;cases z
     cases B:ob i with
     |false=>rw[V.sn i B]at z;exact O ⟨i,z⟩
     |true=>exact(V.gr i b B z).elim hno λz=>by rw[U]at z;cases z
    .rcases m.gr i a z with⟨j,z⟩|z|z
     .cases B:ob j with
      |false=>rw[V.sn j B]at z;exact .inl ⟨j,z⟩
      |true=>exact(V.gr j a B z).imp (λ⟨k,_,z⟩=>⟨k,z⟩) .inr
     .exact(V.fm a z).imp (λ⟨k,_,z⟩=>⟨k,z⟩) .inr
     .exact(V.back z).imp (λ⟨k,_,z⟩=>⟨k,z⟩) .inr
  .simp[h1,Z]at e
section
variable{x y:Str}{a b:Expr}{px py pt pos:Pos}{kt k2 pt2}
theorem Ac(i j:Nat){f:En->Option (List D)}(Z:∀c,(X c).calm=true)(U:∀c,(X c).N.Nodup)(Y:PVA X G ob [a,b] f)(q:P i=false:=by rfl)(z:P j=false:=by rfl)(hi:∀c,(X c).N[i]? =some x:=by intro _;rfl)(F:∀c,(X c).N[j]? =some y:=by intro _;rfl)(O:i≠j:=by decide)(J:∀c,(X c).env.scope.names.lookup x=some .local:=by intro _;rfl)(V:∀c,(X c).env.scope.names.lookup y=some .local:=by intro _;rfl)(I:∀c,acj [.Tuple [.Name x px,.Name y py] kt pt] (.Tuple [a,b] k2 pt2) (X c).env=pure (some [x,y]):=by intro _;rfl)(B:∀c,ab0 [.Tuple [.Name x px,.Name y py] kt pt] (.Tuple [a,b] k2 pt2) pos.line (X c).env=pure false:=by intro _;rfl) :
 PVS X G ob P (.Assign [.Tuple [.Name x px,.Name y py] kt pt] (.Tuple [a,b] k2 pt2) pos) (aL f (aO (tgN i) (aO (tgN j) bZ))):=let⟨t,a1,a2⟩:=Y.ex;⟨_,λc=>Ue (Z c) (U c) (hi c) (F c) O (J c) (V c) (a1 c) (I c) (B c),by rw[←Pk];exact JX q z (zR a2)⟩
end
def sIf(c:En->Option Bool)(f g:En->Option Fl):En->Option Fl:=λρ=>(c ρ).bind λb=>if b then f ρ else g ρ
def jm(c:En->Option (Bool×En))(f g:En->Option Fl):En->Option Fl:=λρ=>(c ρ).bind λp=>if p.1 then f p.2 else g p.2
theorem YT{c:En->Option Bool}{f g:En->Option Fl}:jm (jd c) f g=sIf c f g:=by
 funext ρ;unfold jm sIf jd;cases c ρ<;>rfl
theorem GD{tc:TT}{t u:TS}{c:En->Option (Bool×En)}{f g:En->Option Fl}(Z:Iw G ob tc c)(h1:RfS G ob P t f)(h2:RfS G ob P u g):RfS G ob P (Yu tc t u) (jm c f g):=λρ r e σ H S Fr s E q=>by
 unfold jm at e;cases z:c ρ with
 |none=>simp[z]at e
 |some p=>
  obtain⟨b,ρ1⟩:=p;refine Z ρ b ρ1 z σ H S Fr s _ λH1 S1 F V=>?_;have m:Mv P H H1 σ σ S S1 []:=V.mv;cases b with
  |true=>exact sI (h1 ρ1 r (by simpa[z]using e) σ H1 S1 Fr F E (q.from m))
  |false=>exact u_ (h2 ρ1 r (by simpa[z]using e) σ H1 S1 Fr F E (q.from m))
theorem cJ{c:Expr}{a b:List Stmt}{pos:Pos}{fc:En->Option Bool}{f g:En->Option Fl}(Z:PVT X G ob c fc)(Y:rA X G ob P a f)(U:rA X G ob P b g):PVS X G ob P (.If c a b pos) (sIf fc f g):=let⟨v,c1,c2⟩:=Z.ex;let⟨t,a1,a2⟩:=Y.ex;let⟨u,b1,b2⟩:=U.ex;⟨_,λc=>Ub (c1 c) (a1 c) (b1 c),by rw[←YT];exact GD (MN c2) a2 b2⟩
theorem uQ{c:Expr}{a b:List Stmt}{pos:Pos}{fc:En->Option (Bool×En)}{f g:En->Option Fl}(Z:Od X G ob c fc)(Y:rA X G ob P a f)(U:rA X G ob P b g):PVS X G ob P (.If c a b pos) (jm fc f g):=let⟨v,c1,c2⟩:=Z.ex;let⟨t,a1,a2⟩:=Y.ex;let⟨u,b1,b2⟩:=U.ex;⟨_,λc=>Ub (c1 c) (a1 c) (b1 c),GD c2 a2 b2⟩
def sEx(f:En->Option (D×En)):En->Option Fl:=λρ=>(f ρ).map λp=>.nx p.2
theorem Vc{te:TE}{f:En->Option (D×En)}(h:j5 G ob te f):RfS G ob P (Ht te) (sEx f):=λρ r e σ H S Fr s E q=>by
 unfold sEx at e;cases h1:f ρ with
 |none=>simp[h1]at e
 |some p=>
  obtain⟨d,ρ1⟩:=p;have:Fl.nx ρ1=r:=by simpa[h1]using e
  subst this;exact h ρ d ρ1 h1 σ H S Fr s _ λv H1 M S1 F Z nd V=>q σ H1 S1 (F.lessF λa z=>.inr z) V.mv
theorem nZ{e:Expr}{pos:Pos}{f:En->Option (D×En)}(V:PVe X G ob e f)(B:∀c,abS e none pos.line (X c).env=pure false:=by intro _;rfl):PVS X G ob P (.Expr e pos) (sEx f):=let⟨t,a1,a2⟩:=V.ex;⟨_,λc=>uT (a1 c) (B c),Vc a2⟩
def gK(f:En->Option (D×En)):En->Option Fl:=λρ=>(f ρ).bind λp=>if clean p.1 then some (.ret p.1 p.2)else none
def eF(f:En->Option D):En->Option Fl:=λρ=>(f ρ).bind λd=>if clean d then some (.ret d ρ)else none
theorem Vx{f:En->Option D}:gK (eUp f)=eF f:=by
 funext ρ;unfold gK eF eUp;cases f ρ<;>rfl
theorem By{te:TE}{f:En->Option (D×En)}(h:j5 G ob te f):RfS G ob P (R8 te) (gK f):=λρ r e σ H S Fr s E q=>by
 unfold gK at e;cases h1:f ρ with
 |none=>simp[h1]at e
 |some p=>
  obtain⟨d,ρ1⟩:=p;cases Z:clean d with
  |false=>simp[h1,Z]at e
  |true=>
   have:Fl.ret d ρ1=r:=by simpa[h1,Z]using e
   subst this;exact h ρ d ρ1 h1 σ H S Fr s _ λv H1 M S1 F B nd V=>q v σ H1 M S1 F B Z nd (λa Y=>(V.fm a Y).imp (λ⟨i,_,z⟩=>⟨i,z⟩) id) V.mv
theorem cC{e:Expr}{pos:Pos}{f:En->Option D}(V:PV X G ob e f):PVS X G ob P (.Return (some e) pos) (eF f):=let⟨t,a1,a2⟩:=V.ex;⟨_,λc=>zc (a1 c),by rw[←Vx];exact By (Dw a2)⟩
theorem qQ{e:Expr}{pos:Pos}{f:En->Option (D×En)}(V:PVe X G ob e f):PVS X G ob P (.Return (some e) pos) (gK f):=let⟨t,a1,a2⟩:=V.ex;⟨_,λc=>zc (a1 c),By a2⟩
theorem Sta.move{G:Gc}{H:Hp}{ρ:En}{σ:L2.St}{S:Ad}{Fr:Addr->Prop}{i:Nat}{d:D}(s:Sta G H ob ρ σ S Fr)(e:ρ[i]? =some (some d)) :
  ∃v,σ[i]? =some (some v)/\clean d=true/\Sta G H ob (ρ.set i none) σ (gf S i []) (plus (S i) Fr)/\Rep G H (wn ob (gf S i []) (plus (S i) Fr)) d v (S i):=by
 obtain⟨v,h1,h2,Z⟩:=s.sl i d e;have I:Evo H H (wn ob S Fr) (wn ob (gf S i []) (plus (S i) Fr)):=⟨λb u h f=>⟨h,⟨λz=>z.elim (λz=>?_) f.1,λ⟨k,q1,q2⟩=>?_,λ⟨k,q1,q2⟩=>?_⟩⟩,λ_ _ h=>h⟩
 .have q:=(by simpa[clean]using Z:aC d=true/\aB d=true)
  refine⟨v,h1,Z,⟨by simp[s.len],λj d' V=>?_,λj F=>?_,λj=>?_,λj k a q1 q2=>?_,λj a q1 q2=>?_,λa h=>?_⟩,h2.mono I (.inl q.1) (.inl q.2) λ_ _ _ h=>h⟩
  .by_cases e':j=i
   .subst e'
    rw[acv]at V;split at V
    .split at V
     .simp at V
     .cases V
    .exact absurd rfl ‹_›
   .rw[List.getElem?_set_ne (aay e')]at V
    obtain⟨B,q1,q2,O⟩:=s.sl j _ V;refine⟨B,q1,?_,O⟩;rw[cI e'];have q:=(by simpa[clean]using O:aC d'=true/\aB d'=true);exact q2.mono I (.inl q.1) (.inl q.2) λ_ _ _ h=>h
  .by_cases e':j=i
   .rw[e',cQ]
   .rw[cI e']
    exact s.em j λd'=>by have:=F d';rwa[List.getElem?_set_ne (aay e')]at this
  .by_cases e':j=i
   .rw[e',cQ];exact aap
   .rw[cI e'];exact s.nd j
  .rcases dN q1 with⟨_,z⟩|⟨_,z⟩
   .cases z
   .rcases dN q2 with⟨_,z'⟩|⟨_,z'⟩
    .cases z'
    .exact s.dj j k a z z'
  .rcases dN q2 with⟨_,z⟩|⟨n,z⟩
   .cases z
   .rcases q1 with q1|q1
    .exact n (s.dj j i a z q1)
    .exact s.fdj j a q1 z
  .rcases h with h|h
   .exact s.mu h
   .exact s.fdm a h
 .cases ho:ob i with
  |false=>exact f.2.1 ⟨i,ho,z⟩
  |true=>exact f.2.2 ⟨i,ho,z⟩
 .rcases dN q2 with⟨_,z⟩|⟨_,z⟩
  .cases z
  .exact f.2.1 ⟨k,q1,z⟩
 .rcases dN q2 with⟨_,z⟩|⟨_,z⟩
  .cases z
  .exact f.2.2 ⟨k,q1,z⟩
def dG(i:Nat):En->Option Fl:=λρ=>match ρ[i]? with
 |some (some d)=>some (.ret d (ρ.set i none))
 |_=>none
theorem K_{i:Nat}:RfS G ob P (R8 (Di i)) (dG i):=λρ r e σ H S Fr s E q=>by
 unfold dG at e;split at e
 .rename_i d h1
  cases e;obtain⟨v,h2,Z,V,J⟩:=s.move h1;exact⟨v,h2,q v σ H (S i) (gf S i []) V J Z (s.nd i) (λa Y=>.inl ⟨i,Y⟩) ⟨λ_ _ h _ _=>h,λj a z=>(dN z).elim (λz=>by cases z.2) λz=>.inl ⟨j,z.2⟩,.refl⟩⟩
 .cases e
theorem il(i:Nat){x:Str}{pos pos':Pos}(U:∀c,(X c).N[i]? =some x:=by intro _;rfl)(Z:∀c,Vis (X c).env.scope x:=by intro _;first|exact abf rfl|exact aaQ (abf rfl)|exact aaQ (aaQ rfl))(hd:(x==("__debug__":Str))=false:=by decide)(z:(x==("__classdict__":Str))=false:=by decide):PVS X G ob P (.Return (some (.Name x pos)) pos') (dG i):=⟨_,λc=>zc (pv i (U c) (Z c) hd z),K_⟩
end
def mkO:Mk->Mk
 |.own=>.frz
 |m=>m
mutual
noncomputable def fzo:D->D
 |.tup ds=>.tup (fV ds)
 |.lst m ds=>.lst (mkO m) (fV ds)
 |.dct m ks ds=>.dct (mkO m) ks (fV ds)
 |.ins m c fs ds=>.ins (mkO m) c fs (fV ds)
 |d=>d
noncomputable def fV:List D->List D
 |[]=>[]
 |d::r=>fzo d::fV r
end
theorem gR:∀ds:List D,fV ds=ds.map fzo
 |[]=>rfl
 |d::r=>by rw[fV,gR r];rfl
variable{a:Addr}
theorem dZ.fzo{D:Addr->HO->Prop}(B:Les H W W' L)(hn:∀a,W.s a->W'.s a)(h:dZ D H W a o m L M):dZ D H W' a o (mkO m) [] []:=by
 cases m with
 |own=>exact⟨h.1,B.l a (by rw[h.2];simp),rfl,rfl⟩
 |frz=>exact⟨h.1,B.f a h.2.1,rfl,rfl⟩
 |brw=>exact⟨h.1,hn a h.2.1,rfl,rfl⟩
 |bro=>exact⟨h.1,rfl,rfl⟩
 |scr=>exact⟨h.1.imp (λz=>⟨z.1,B.f a z.2⟩) id,rfl,rfl⟩
mutual
theorem Rep.fzo(hn:∀a,W.s a->W'.s a):∀{d:D}{v:V}{L:List Addr},Rep G H W d v L->Les H W W' L->Rep G H W' (fzo d) v []
 |.non,v,L,h,_=>by rw[Rep]at h;simp[Jb.fzo,Rep,h]
 |.bl _,v,L,h,_=>by rw[Rep]at h;simp[Jb.fzo,Rep,h]
 |.int _,v,L,h,_=>by rw[Rep]at h;simp[Jb.fzo,Rep,h]
 |.str _,v,L,h,_=>by rw[Rep]at h;simp[Jb.fzo,Rep,h]
 |.ty _,v,L,h,_=>by rw[Rep]at h;simp[Jb.fzo,Rep,h]
 |.tup ds,v,L,h,B=>by
  rw[Rep]at h;rw[Jb.fzo,Rep];obtain⟨a,xs,rfl,Y,O⟩:=h;exact⟨a,xs,rfl,Y,aF.fzo hn O B⟩
 |.lst m ds,v,L,h,he=>by
  rw[Rep]at h;rw[Jb.fzo,Rep];obtain⟨a,xs,M,rfl,O,B⟩:=h;exact⟨a,xs,[],rfl,aF.fzo hn O (he.sub λc Z=>B.sub.subset Z),B.fzo he hn⟩
 |.dct m ks ds,v,L,h,he=>by
  rw[Rep]at h;rw[Jb.fzo,Rep];obtain⟨a,xs,M,rfl,I,O,B⟩:=h;exact⟨a,xs,[],rfl,I,aF.fzo hn O (he.sub λc Z=>B.sub.subset Z),B.fzo he hn⟩
 |.ins m c' fs ds,v,L,h,he=>by
  rw[Rep]at h;rw[Jb.fzo,Rep];obtain⟨a,C,dx,xs,M,rfl,F,I,O,B⟩:=h;exact⟨a,C,dx,xs,[],rfl,F,I,aF.fzo hn O (he.sub λc Z=>B.sub.subset Z),B.fzo he hn⟩
theorem aF.fzo(hn:∀a,W.s a->W'.s a):∀{ds:List D}{vs:List V}{L:List Addr},aF G H W ds vs L->Les H W W' L->aF G H W' (fV ds) vs []
 |[],vs,L,h,_=>by obtain⟨rfl,_⟩:=h.inv0;rw[fV];exact .nil
 |d::r,vs,L,h,he=>by
  obtain⟨x,ys,M,M',rfl,rfl,h1,h2⟩:=h.inv;rw[fV];exact .cons (M:=[]) (M':=[]) (Rep.fzo hn h1 (he.sub λc Z=>ZJ _ Z)) (aF.fzo hn h2 (he.sub λc Z=>W2 _ Z))
end
mutual
theorem Js:∀{d:D},aC d=true->aC (Jb.fzo d)=true
 |.non,_=>rfl|.bl _,_=>rfl|.int _,_=>rfl|.str _,_=>rfl|.ty _,_=>rfl
 |.tup ds,h=>by simp[aC]at h;simp[Jb.fzo,aC,gQ h]
 |.lst m ds,h=>by simp[aC]at h;cases m<;>simp[Jb.fzo,aC,gQ h.2,mkO]<;>simp at h
 |.dct m _ ds,h=>by simp[aC]at h;cases m<;>simp[Jb.fzo,aC,gQ h.2,mkO]<;>simp at h
 |.ins m _ _ ds,h=>by simp[aC]at h;cases m<;>simp[Jb.fzo,aC,gQ h.2,mkO]<;>simp at h
theorem gQ:∀{ds:List D},az ds=true->az (fV ds)=true
 |[],_=>rfl
 |d::r,h=>by simp[az]at h;simp[fV,az,Js h.1,gQ h.2]
end
mutual
theorem Jp:∀{d:D},aB d=true->aB (Jb.fzo d)=true
 |.non,_=>rfl|.bl _,_=>rfl|.int _,_=>rfl|.str _,_=>rfl|.ty _,_=>rfl
 |.tup ds,h=>by simp[aB]at h;simp[Jb.fzo,aB,gO h]
 |.lst m ds,h=>by simp[aB]at h;cases m<;>simp[Jb.fzo,aB,gO h.2,mkO]<;>simp at h
 |.dct m _ ds,h=>by simp[aB]at h;cases m<;>simp[Jb.fzo,aB,gO h.2,mkO]<;>simp at h
 |.ins m _ _ ds,h=>by simp[aB]at h;cases m<;>simp[Jb.fzo,aB,gO h.2,mkO]<;>simp at h
theorem gO:∀{ds:List D},aA ds=true->aA (fV ds)=true
 |[],_=>rfl
 |d::r,h=>by simp[aA]at h;simp[fV,aA,Jp h.1,gO h.2]
end
structure Wk(G:Gc)(J:It)(Lt:Hp->Wn->Prop)(items:List D):Prop where
 go:∀(i:Nat)(d:D),items[i]? =some d->∀H W,Lt H W->J.go i H
 yld:∀(i:Nat)(d:D),items[i]? =some d->∀H W,Lt H W->∀x H',J.yld i H x H'->Same H H'/\Rep G H' W d x []
 stop:∀H W,Lt H W->J.stop items.length H
def LtB(b:Bool)(H:Hp)(W:Wn):Hp->Wn->Prop:=λH2 U=>if b=true then Evo H H2 W U else Up H H2 W U
variable{b:Bool}
theorem LtB.up(u:Up H H2 W U):LtB b H W H2 U:=by
 cases b with
 |true=>exact sI u.evo
 |false=>exact u_ u
def RfI(G:Gc)(ob:Nat->Bool)(wi:TI)(f:En->Option (Bool×List D)):Prop:=∀(ρ:En)(b:Bool)(items:List D),f ρ=some (b,items)->∀(σ:L2.St)(H:Hp)(W:Wn),Rel G H W ob ρ σ->WOk H W->∀R:It->Hp->Prop,
 (∀J H',Same H H'->Wk G J (LtB b H' W) items->R J H')->wi σ H R
structure PVI{ι:Type}(X:ι->Cx)(G:Gc)(ob:Nat->Bool)(tg it:Expr)(f:En->Option (Bool×List D)):Prop where
 mk::(ex:∃t,(∀c,PI (X c) tg it t)/\RfI G ob t f)
def nU(lo:Int)(n:Nat):List D:=(aaz n).map λ(k:Nat)=>D.int (lo+(k:Int))
def jB(f:En->Option (List D)):En->Option (Bool×List D):=λρ=>(f ρ).bind λds=>match ds with
 |[.int j]=>if -(2 ^ 62)<=j/\j<2 ^ 62 then some (true,nU 0 j.toNat)else none
 |_=>none
theorem Wv{q:Hp->Wn->Prop}{lo:Int}:Wk G (Itr lo n) q (nU lo n)where
 go:=λi d e H W _=>by
  have:=(List.getElem?_eq_some_iff.mp e).1;show i<n;simpa[nU]using this
 yld:=λi d e H W _ x H' h=>by
  obtain⟨rfl,rfl⟩:=h;have:d= .int (lo+(i:Int)):=by
   unfold nU at e;rw[List.getElem?_map]at e;have hi:i<n:=by
    have:=(List.getElem?_eq_some_iff.mp (show(nU lo n)[i]? =some d by unfold nU;rw[List.getElem?_map];exact e)).1;simpa[nU]using this
   rw[afx hi]at e;simpa using e.symm
  subst this;exact⟨Same.refl _,by rw[Rep];exact⟨rfl,rfl⟩⟩
 stop:=λH W _=>by
  show n<=(nU lo n).length;simp[nU]
variable{f:En->Option (List D)}
theorem V8(h:RfA G ob t f):RfI G ob (SX t) (jB f):=λρ b items e σ H W z w R q=>by
 unfold jB at e;cases h1:f ρ with
 |none=>simp[h1]at e
 |some ds=>
  rw[h1]at e;simp![Hq]at e;split at e
  .rename_i j
   split at e
   .rename_i hj
    cases e;refine h ρ _ h1 σ H W z w _ λvs H' L s r I nd=>?_;obtain⟨x,ys,M,M',rfl,_,J,V⟩:=r.inv;obtain⟨rfl,_⟩:=V.inv0;rw[Rep]at J;obtain⟨rfl,_⟩:=J;exact⟨j,rfl,hj.1,hj.2,q _ H' s Wv⟩
   .cases e
  .cases e
def b7:D->Option (Bool×List D)
 |.lst m ds=>some (clean (.lst m ds),fV ds)
 |.tup ds=>some (clean (.tup ds),fV ds)
 |_=>none
def itS(f:En->Option D):En->Option (Bool×List D):=λρ=>(f ρ).bind b7
theorem yc{D:Addr->HO->Prop}{W1 q:Wn}(h:dZ D H W1 a o m L M)(V:Les H W1 W L)(hn:W1.s a->W.s a)(U:b=true->m≠.brw/\m≠.bro)(l:LtB b H W H2 q):Rd H2 a o∨D a o:=by
 cases b with
 |false=>
  have u:Up H H2 W q:=(Z1 aat).mp l;exact h.rx.imp (Same.rd u.s) id
 |true=>
  have e:Evo H H2 W q:=(ZV rfl).mp l;cases m with
  |own=>exact .inl (.inl (e.k a o h.1 (V.l a (by rw[h.2];simp))).1)
  |frz=>exact .inl (.inl (e.k a o h.1 (V.f a h.2.1)).1)
  |brw=>exact absurd rfl (U rfl).1
  |bro=>exact absurd rfl (U rfl).2
  |scr=>exact h.1.imp (λz=>(e.rd z.1 (V.f a z.2)).1) id
theorem T9{K:ZC}(h:Rd H a (.lst xs)∨KO K a (.lst xs)):SqL K H a xs:=by
 rcases h with z|⟨ys,e,z⟩
 .exact .inl z
 .cases e
  exact .inr z
theorem LtB.rep{q:Wn}(l:LtB b H W H2 q)(U:b=true->aC d=true/\aB d=true)(r:Rep G H W d v []):Rep G H2 q d v []:=by
 cases b with
 |false=>exact r.up ((Z1 aat).mp l)
 |true=>exact r.mono ((ZV rfl).mp l) (.inl (U rfl).1) (.inl (U rfl).2) (by simp)
theorem LtB.tup{H H2:Hp}{W U:Wn}{b:Bool}{K:ZC}{a:Addr}{xs:List V}(l:LtB b H W H2 U)(h:H a=some (.tup xs)):SqT K H2 a xs:=by
 cases b with
 |false=>exact SqT.of (((Z1 aat).mp l).s a _ h)
 |true=>exact SqT.of (((ZV rfl).mp l).t a xs h)
theorem iw(h:az ds=true)(e:ds[i]? =some d):aC d=true:=by
 induction ds generalizing i with
 |nil=>simp at e
 |cons a r B=>
  simp![az,aal]at h;cases i with
  |zero=>
   have:a=d:=by simpa using e
   rw[←this];exact h.1
  |succ i=>exact B h.2 (by simpa using e)
theorem iC(h:aA ds=true)(e:ds[i]? =some d):aB d=true:=by
 induction ds generalizing i with
 |nil=>simp at e
 |cons a r B=>
  simp![aA,aal]at h;cases i with
  |zero=>
   have:a=d:=by simpa using e
   rw[←this];exact h.1
  |succ i=>exact B h.2 (by simpa using e)
structure Parts(G:Gc)(H:Hp)(W:Wn)(b:Bool)(es:List D)(xs:List V):Prop where
 r:aF G H W es xs []
 c:b=true->az es=true/\aA es=true
theorem Parts.at{G:Gc}{H H2:Hp}{W U:Wn}{b:Bool}{es:List D}{xs:List V}(p:Parts G H W b es xs)(l:LtB b H W H2 U){i:Nat}{d:D}{x:V}(e:es[i]? =some d)(J:xs[i]? =some x):Rep G H2 U d x []:=by
 obtain⟨y,M,h1,h2,Z⟩:=p.r.get e;rw[J]at h1;cases h1;have:M=[]:=by simpa using Z
 subst this;exact l.rep (λz=>⟨iw (p.c z).1 e,iC (p.c z).2 e⟩) h2
theorem Hv{es:List D}(w:WOk H W)(s:Same H H')(r:Rep G H' (W.add L) d v L)(I:∀a∈L,H a=none)(e:b7 d=some (b,es)) :
  ∃a xs,v= .ref a/\Parts G H' W b es xs/\((∀H2 U,LtB b H' W H2 U->SqL G.K H2 a xs)∨(∀H2 U,LtB b H' W H2 U->SqT G.K H2 a xs)):=by
 have free:∀a∈L,W.free a:=λa Y=>⟨λz=>?_,λz=>?_,λz=>?_⟩
 .have les:Les H' (W.add L) W L:=⟨λa f=>⟨λz=>f.1 (.inr z),f.2⟩,free⟩
  cases d with
  |lst m ds=>
   simp![b7,abF,afr]at e;obtain⟨rfl,rfl⟩:=e;rw[Rep]at r;obtain⟨a,xs,M,rfl,O,B⟩:=r;refine⟨a,xs,rfl,⟨aF.fzo (W:=W.add L) (W':=W) (λ_ z=>z) O (les.sub λc Z=>B.sub.subset Z),λz=>?_⟩,.inl λH2 U l=>T9 (yc B les (λz=>z) (λz=>?_) l)⟩
   .simp[clean,aC,aB]at z
    exact⟨gQ z.1.2,gO z.2.2⟩
   .simp[clean,aC,aB]at z
    exact⟨z.1.1,z.2.1⟩
  |tup ds=>
   simp![b7,abF,afr]at e;obtain⟨rfl,rfl⟩:=e;rw[Rep]at r;obtain⟨a,xs,rfl,q,O⟩:=r;refine⟨a,xs,rfl,⟨aF.fzo (W:=W.add L) (W':=W) (λ_ z=>z) O les,λz=>?_⟩,.inr λH2 U l=>l.tup q⟩;simp[clean,aC,aB]at z;exact⟨gQ z.1,gO z.2⟩
  |_=>simp[b7]at e
 .obtain⟨o,ho,_⟩:=w a (.inl z);rw[I a Y]at ho;cases ho
 .obtain⟨o,ho,_⟩:=w a (.inr (.inl z));rw[I a Y]at ho;cases ho
 .obtain⟨o,ho,_⟩:=w a (.inr (.inr z));rw[I a Y]at ho;cases ho
theorem aF.getV(h:aF G H W ds xs L)(e:ds[i]? =some d):∃x,xs[i]? =some x:=let⟨x,_,h,_⟩:=h.get e;⟨x,h⟩
theorem Qx{f:En->Option D}(h:RfE G ob te f):RfI G ob (W5 G.K te) (itS f):=λρ b items e σ H W J w R q=>by
 unfold itS at e;cases h1:f ρ with
 |none=>simp[h1]at e
 |some d=>
  have e:b7 d=some (b,items):=by simpa[h1]using e
  refine h ρ d h1 σ H W J w _ λv H' L s r I nd=>?_;obtain⟨a,xs,rfl,p,B⟩:=Hv w s r I e;refine⟨a,rfl,?_⟩;rcases B with B|B
  .refine .inl ⟨⟨xs,B H' W (LtB.up Up.refl)⟩,q _ H' s ⟨λi d e H2 U l=>?_,λi d e H2 U l x z y=>?_,λH2 U l=>?_⟩⟩
   .obtain⟨x,hx⟩:=p.r.getV e
    exact⟨xs,x,B H2 U l,hx⟩
   .obtain⟨rfl,y⟩:=y
    exact⟨Same.refl _,p.at l e (y xs (B _ U l))⟩
   .exact⟨xs,B H2 U l,by rw[p.r.length];exact ZQ _⟩
  .refine .inr ⟨⟨xs,B H' W (LtB.up Up.refl)⟩,q _ H' s ⟨λi d e H2 U l=>?_,λi d e H2 U l x z y=>?_,λH2 U l=>?_⟩⟩
   .obtain⟨x,hx⟩:=p.r.getV e
    exact⟨xs,x,B H2 U l,hx⟩
   .obtain⟨rfl,y⟩:=y
    exact⟨Same.refl _,p.at l e (y xs (B _ U l))⟩
   .exact⟨xs,B H2 U l,by rw[p.r.length];exact ZQ _⟩
def m8:Nat->List D->List D
 |_,[]=>[]
 |i,d::r=>.tup [.int (i:Int),d]::m8 (i+1) r
theorem lN:∀(ds:List D)(k i:Nat),(m8 k ds)[i]? =(ds[i]?).map λd=>.tup [.int ((k+i:Nat):Int),d]
 |[],k,i=>by simp[m8]
 |d::r,k,i=>by
  cases i with
  |zero=>simp[m8]
  |succ i=>
   simp![m8,aam];rw[lN r (k+1) i,show k+1+i=k+(i+1)by omega]
theorem pK:∀(ds:List D)(k:Nat),(m8 k ds).length=ds.length
 |[],k=>rfl
 |d::r,k=>by simp[m8,pK r (k+1)]
def itE(f:En->Option (List D)):En->Option (Bool×List D):=λρ=>(f ρ).bind λds=>match ds with
 |[d]=>(b7 d).map λp=>(p.1,m8 0 p.2)
 |_=>none
theorem Kw(h:RfA G ob t f):RfI G ob (Li G.K t) (itE f):=λρ b items e σ H W rl w R q=>by
 unfold itE at e;cases h1:f ρ with
 |none=>simp[h1]at e
 |some ds=>
  rw[h1]at e;simp![Hq]at e;split at e
  .rename_i d
   cases h2:b7 d with
   |none=>simp[h2]at e
   |some p=>
    obtain⟨b',es⟩:=p;obtain⟨rfl,rfl⟩:b'=b/\m8 0 es=items:=by simpa[h2]using e
    refine h ρ _ h1 σ H W rl w _ λvs H' L s r I nd=>?_;obtain⟨v,ys,M,M',rfl,rfl,hv,hy⟩:=r.inv;obtain⟨rfl,rfl⟩:=hy.inv0;rw[List.append_nil]at hv I;obtain⟨a,xs,rfl,p,B⟩:=Hv w s hv I h2;have Y:∀(i:Nat)(d':D)(z:Addr)(x:V)(H2:Hp)(U:Wn),(m8 0 es)[i]? =some d'->LtB b' H' W H2 U->H2 z=none->xs[i]? =some x->Same H2 (upd H2 z (.tup [.int i,x]))/\Rep G (upd H2 z (.tup [.int i,x])) U d' (.ref z) []:=λi d' z x H2 U e l F J=>by
     rw[lN]at e;cases Z:es[i]? with
     |none=>rw[Z]at e;cases e
     |some d0=>
      rw[Z]at e;have e:D.tup [.int (i:Int),d0]=d':=by simpa using e
      subst e;have sm:Same H2 (upd H2 z (.tup [.int i,x])):=Same.new F;refine⟨sm,?_⟩;rw[Rep];refine⟨z,_,rfl,aZ,.cons (M:=[]) (M':=[]) (by rw[Rep];exact⟨rfl,rfl⟩) (.one ((p.at l Z J).up (Up.same sm)))⟩
    refine⟨a,rfl,?_⟩;have O:∀(i:Nat)(d':D),(m8 0 es)[i]? =some d'->∃x,xs[i]? =some x:=λi d' e=>by
     rw[lN]at e;cases Z:es[i]? with
     |none=>rw[Z]at e;cases e
     |some d0=>exact p.r.getV Z
    rcases B with B|B
    .refine .inl ⟨⟨xs,B H' W (LtB.up Up.refl)⟩,q _ H' s ⟨λi d e H2 U l=>?_,λi d e H2 U l x H3 y=>?_,λH2 U l=>?_⟩⟩
     .obtain⟨x,J⟩:=O i d e
      exact⟨xs,x,B H2 U l,J⟩
     .obtain⟨z,v,F,rfl,hv,rfl⟩:=y
      exact Y i d z v H2 U e l F (hv xs (B _ U l))
     .exact⟨xs,B H2 U l,by rw[pK,p.r.length];exact ZQ _⟩
    .refine .inr ⟨⟨xs,B H' W (LtB.up Up.refl)⟩,q _ H' s ⟨λi d e H2 U l=>?_,λi d e H2 U l x H3 y=>?_,λH2 U l=>?_⟩⟩
     .obtain⟨x,J⟩:=O i d e
      exact⟨xs,x,B H2 U l,J⟩
     .obtain⟨z,v,F,rfl,hv,rfl⟩:=y
      exact Y i d z v H2 U e l F (hv xs (B _ U l))
     .exact⟨xs,B H2 U l,by rw[pK,p.r.length];exact ZQ _⟩
  .cases e
variable{a:Expr}
theorem Mf(q:∀c,Gl (X c) "range")(J:∀c,(X c).mg "range"=none)(Y:PVA X G ob [a] f)(B:∀c,ZK [a] (X c).env=[(false,eval a (X c).env)]:=by intro _;rfl):PVI X G ob tg (.Call (.Name "range" p) [a] [] pos) (jB f):=let⟨t,a1,a2⟩:=Y.ex;⟨_,λc=>JF (q c) (J c) (a1 c) (B c),V8 a2⟩
theorem gG{f:En->Option D}(Y:PV X G ob a f)(F:∀c,(X c).K=G.K:=by intro _;rfl):PVI X G ob tg a (itS f):=let⟨t,a1,a2⟩:=Y.ex;⟨_,λc=>(by rw[←F c];exact U9 (a1 c)),Qx a2⟩
theorem Cm(q:∀c,Gl (X c) "enumerate")(J:∀c,(X c).mg "enumerate"=none)(Y:PVA X G ob [a] f)(B:∀c,ZK [a] (X c).env=[(false,eval a (X c).env)]:=by intro _;rfl)(F:∀c,(X c).K=G.K:=by intro _;rfl):PVI X G ob (.Tuple elts x1 tpos) (.Call (.Name "enumerate" p) [a] [] pos) (itE f):=let⟨t,a1,a2⟩:=Y.ex;⟨_,λc=>(by rw[←F c];exact Ko (q c) (J c) (a1 c) (B c)),Kw a2⟩
def forL(tg:D->En->Option En)(body:En->Option Fl):List D->En->Option Fl
 |[],ρ=>some (.nx ρ)
 |d::r,ρ=>(tg d ρ).bind λρ1=>match body ρ1 with
  |some (.nx ρ2)=>forL tg body r ρ2
  |some (.cnt ρ2)=>forL tg body r ρ2
  |some (.brk ρ2)=>some (.nx ρ2)
  |o=>o
def iD(it:En->Option (Bool×List D))(tg:D->En->Option En)(body:En->Option Fl):En->Option Fl:=λρ=>(it ρ).bind λp=>if p.1=true then forL tg body p.2 ρ else none
theorem Mr{σ2:L2.St}{S2:Ad}{Fr:Addr->Prop}(s:Sta G H ob ρ σ S Fr)(m:Mv P H H2 σ σ2 S S2 []):Evo H H2 (wn ob S Fr) (wn ob S2 Fr)where
 k:=λb u U f=>by
  have O:¬inS S b:=λ⟨i,z⟩=>by
   cases B:ob i with
   |false=>exact f.2.1 ⟨i,B,z⟩
   |true=>exact f.2.2 ⟨i,B,z⟩
  have V:¬inS S2 b:=λ⟨i,z⟩=>(m.gr i b z).elim O λz=>z.elim (λz=>by cases z) λz=>by rw[U]at z;cases z
  exact⟨m.kp b u U O (by simp),f.1,λ⟨i,_,z⟩=>V ⟨i,z⟩,λ⟨i,_,z⟩=>V ⟨i,z⟩⟩
 t:=λb xs h=>by
  have D:∀u,H b=some u->muO u=false->H2 b=some u:=λu J mu=>m.kp b u J (λ⟨i,z⟩=>by
   obtain⟨o,B,q⟩:=s.mu z;rw[J]at B;cases B;rw[mu]at q;cases q) (by simp)
  exact D _ h rfl
variable{tg:D->En->Option En}{tb:TS}{it:En->Option (Bool×List D)}{body:En->Option Fl}
theorem Qv{wi:TI}{g:TG}(hi:RfI G ob wi it)(hg:RfG G ob P g tg)(U:RfS G ob P tb body):RfS G ob P (YL wi g tb) (iD it tg body):=λρ r e σ H S Fr s E q=>by
 unfold iD at e;cases h1:it ρ with
 |none=>simp[h1]at e
 |some p=>
  obtain⟨b,items⟩:=p;cases b with
  |false=>simp[h1]at e
  |true=>
   have e:forL tg body items ρ=some r:=by simpa[h1]using e
   refine hi ρ true items h1 σ H _ s.rel s.wok _ λJ H1 I wk=>?_;have F:Sta G H1 ob ρ σ S Fr:=s.grow I λa z=>.inl z;have m1:Mv P H H1 σ σ S S []:=⟨λb u h _ _=>I b u h,λi a z=>.inl ⟨i,z⟩,.refl⟩;have q1:=q.from m1;have a1:∀{ρ2:En}{σ2:L2.St}{H2:Hp}{S2:Ad},Mv P H1 H2 σ σ2 S S2 []->LtB true H1 (wn ob S Fr) H2 (wn ob S2 Fr):=λm=>sI (Mr F m);refine⟨λi m σ2 H2=>i+m=items.length/\∃ρ2 S2,Sta G H2 ob ρ2 σ2 S2 Fr/\Mv P H1 H2 σ σ2 S S2 []/\forL tg body (items.drop i) ρ2=some r,⟨items.length,by omega,ρ,S,F,.refl,e⟩,?_⟩;rintro i m σ2 H2 ⟨a7,ρ2,S2,O,m2,e2⟩;by_cases a3:i<items.length
   .refine .inr ⟨wk.go i items[i] (by simp[a3]) H2 _ (a1 (ρ2:=ρ2) m2),λY H'=>(i+1)+(m-1)=items.length/\∃ρ2 S2,Sta G H' ob ρ2 Y S2 Fr/\Mv P H1 H' σ Y S S2 []/\forL tg body (items.drop (i+1)) ρ2=some r,λY H' h=>⟨m-1,by omega,h⟩,λx B V=>?_⟩
    obtain⟨s3,rx⟩:=wk.yld i items[i] (by simp[a3]) H2 _ (a1 (ρ2:=ρ2) m2) x B V;rw[←abQ a3,forL]at e2;cases Z:tg items[i] ρ2 with
    |none=>simp[Z]at e2
    |some a4=>
     rw[Z]at e2;simp![Hq]at e2;have a6:Sta G B ob ρ2 σ2 S2 Fr:=O.grow s3 λa z=>.inl z;refine hg items[i] ρ2 a4 Z x σ2 B S2 [] Fr (by rw[rY];exact a6) (by rw[rY];exact rx) aap (by simp) _ λa5 H4 S4 s4 m4=>?_;have a2:Mv P H1 H4 σ a5 S S4 []:=(m2.trans (S2:=S2) ⟨λb u h _ _=>s3 b u h,λi a z=>.inl ⟨i,z⟩,.refl⟩).trans m4;cases h5:body a4 with
     |none=>rw[h5]at e2;cases e2
     |some fl=>
      rw[h5]at e2;refine U a4 fl h5 a5 H4 S4 Fr s4 _ ?_;cases fl with
      |nx a0=>exact λY H' S' s' m'=>⟨by omega,a0,S',s',a2.trans m',e2⟩
      |cnt a0=>exact λY H' S' s' m'=>⟨by omega,a0,S',s',a2.trans m',e2⟩
      |brk a0=>cases e2;exact λY H' S' s' m'=>q1 Y H' S' s' (a2.trans m')
      |ret d a0=>cases e2;exact q1.from a2
   .have hl:i=items.length:=by omega
    rw[hl,abK,forL]at e2;cases e2;subst hl;exact .inl ⟨wk.stop H2 _ (a1 (ρ2:=ρ2) m2),q1 σ2 H2 S2 O m2⟩
variable{f:En->Option Fl}
theorem jg{tg iter:Expr}{body:List Stmt}{g:D->En->Option En}(F:∀c,afF (model (X c).prog (X c).w) (X c).A (X c).env (X c).xe)(Z:∀c,(X c).calm=true)(hi:PVI X G ob tg iter it)(q:PVG X G ob P tg g)(U:rA X G ob P body f)(B:∀c,∀x,aa8 iter (X c).env x=pure x:=by intro _;intro _;rfl):PVS X G ob P (.For tg iter body [] pos) (iD it g f):=let⟨v,c1,c2⟩:=hi.ex;let⟨t,a1,a2⟩:=q.ex;let⟨u,b1,b2⟩:=U.ex;⟨_,λc=>Va (F c) (Z c) (c1 c) (a1 c) (b1 c) (B c),Qv c2 a2 b2⟩
def jE(c:En->Option (Bool×En))(body:En->Option Fl):Nat->En->Option Fl
 |0,_=>none
 |n+1,ρ=>(c ρ).bind λp=>if p.1=true then(match body p.2 with
  |some (.nx ρ2)=>jE c body n ρ2
  |some (.cnt ρ2)=>jE c body n ρ2
  |some (.brk ρ2)=>some (.nx ρ2)
  |o=>o)else some (.nx p.2)
theorem Jv{tc:TT}{c:En->Option (Bool×En)}(n:Nat)(Z:Iw G ob tc c)(U:RfS G ob P tb body):RfS G ob P (O4 tc tb) (jE c body n):=λρ r e σ H S Fr s E q=>by
 refine⟨λm σ2 H2=>∃ρ2 S2,Sta G H2 ob ρ2 σ2 S2 Fr/\Mv P H H2 σ σ2 S S2 []/\jE c body m ρ2=some r,⟨n,ρ,S,s,.refl,e⟩,?_⟩;rintro m σ2 H2 ⟨ρ2,S2,O,V,e2⟩;cases m with
 |zero=>cases e2
 |succ m=>
  rw[jE]at e2;cases h1:c ρ2 with
  |none=>simp[h1]at e2
  |some p=>
   obtain⟨b,F⟩:=p;rw[h1]at e2;simp![Hq]at e2;refine Z ρ2 b F h1 σ2 H2 S2 Fr O _ λB S3 z f3=>?_;have m3:Mv P H B σ σ2 S S3 []:=V.trans f3.mv;cases b with
   |false=>
    simp![aaj,aaN]at e2;cases e2;exact u_ (q σ2 B S3 z m3)
   |true=>
    simp![aab]at e2;refine sI ⟨λY H'=>∃ρ2 S2,Sta G H' ob ρ2 Y S2 Fr/\Mv P H H' σ Y S S2 []/\jE c body m ρ2=some r,λY H' h=>⟨m,abr m,h⟩,?_⟩;cases J:body F with
    |none=>rw[J]at e2;cases e2
    |some fl=>
     rw[J]at e2;refine U F fl J σ2 B S3 Fr z _ ?_;cases fl with
     |nx D=>exact λY H' S' s' I=>⟨D,S',s',m3.trans I,e2⟩
     |cnt D=>exact λY H' S' s' I=>⟨D,S',s',m3.trans I,e2⟩
     |brk D=>cases e2;exact λY H' S' s' I=>q Y H' S' s' (m3.trans I)
     |ret d D=>cases e2;exact q.from m3
theorem sS(n:Nat){body:List Stmt}{fc:En->Option (Bool×En)}(F:∀c,afF (model (X c).prog (X c).w) (X c).A (X c).env (X c).xe)(Z:Od X G ob c fc)(U:rA X G ob P body f):PVS X G ob P (.While c body [] pos) (jE fc f n):=let⟨v,c1,c2⟩:=Z.ex;let⟨u,b1,b2⟩:=U.ex;⟨_,λc=>Nj (F c) (c1 c) (b1 c),Jv n c2 b2⟩
def k_(i:Nat)(ρ:En):Option En:=match ρ[i]? with
 |some (some d)=>some (ρ.set i (some (fz d)))
 |_=>none
theorem Sta.freeze{I:En}{Fr:Addr->Prop}(s:Sta G H ob ρ σ S Fr)(e:k_ i ρ=some I):Sta G H ob I σ (gf S i []) Fr:=by
 unfold k_ at e;split at e
 .rename_i d h1
  cases e;obtain⟨v,h2,Z,O,J⟩:=s.move h1;have q:Sta G H ob (ρ.set i none) σ (gf S i []) Fr:=O.lessF λa z=>.inr z;have B:i<ρ.length:=(List.getElem?_eq_some_iff.mp h1).1;have D:Rep G H (wn ob (gf S i []) Fr) (fz d) v []:=by
   refine J.fz ⟨λa f=>⟨λz=>f.1 (.inr z),f.2⟩,λa Y=>⟨λz=>s.fdj i a z Y,λ⟨j,q1,q2⟩=>?_,λ⟨j,q1,q2⟩=>?_⟩⟩ (.inl Z)
   .rcases dN q2 with⟨_,z⟩|⟨n,z⟩
    .cases z
    .exact n (s.dj j i a z Y)
   .rcases dN q2 with⟨_,z⟩|⟨n,z⟩
    .cases z
    .exact n (s.dj j i a z Y)
  refine⟨by simp[s.len],λj d' V=>?_,λj F=>?_,q.nd,q.dj,q.fdj,q.fdm⟩
  .by_cases e':j=i
   .subst e'
    have:fz d=d':=by simpa[B]using V
    subst this;exact⟨v,h2,by rw[cQ];exact D,Ml d⟩
   .rw[List.getElem?_set_ne (aay e')]at V
    exact q.sl j d' (by rw[List.getElem?_set_ne (aay e')];exact V)
  .by_cases e':j=i
   .rw[e',cQ]
   .exact q.em j λd'=>by have:=F d';rw[List.getElem?_set_ne (aay e')]at this⊢;exact this
 .cases e
def sFz(i:Nat)(f:En->Option Fl):En->Option Fl:=λρ=>(k_ i ρ).bind f
theorem U5{t:TS}(h:RfS G ob P t f):RfS G ob P t (sFz i f):=λρ r e σ H S Fr s E q=>by
 unfold sFz at e;cases h1:k_ i ρ with
 |none=>simp[h1]at e
 |some ρ1=>
  have e:f ρ1=some r:=by simpa[h1]using e
  have m:Mv P H H σ σ S (gf S i []) []:=⟨λ_ _ h _ _=>h,λj a z=>(dN z).elim (λz=>by cases z.2) λz=>.inl ⟨j,z.2⟩,.refl⟩;exact h ρ1 r e σ H (gf S i []) Fr (s.freeze h1) E (q.from m)
theorem VM(i:Nat){st:Stmt}(h:PVS X G ob P st f):PVS X G ob P st (sFz i f):=let⟨t,a1,a2⟩:=h.ex;⟨t,a1,U5 a2⟩
mutual
noncomputable def bu:D->Bool
 |.tup ds=>bA ds
 |.lst m ds=>m== .own&&bA ds
 |.dct m _ ds=>m== .own&&bA ds
 |.ins m _ _ ds=>m== .own&&bA ds
 |_=>true
noncomputable def bA:List D->Bool
 |[]=>true
 |d::r=>bu d&&bA r
end
mutual
theorem Rep.own:∀{d:D}{v:V}{L:List Addr},Rep G H W d v L->bu d=true->Rep G H W' d v L
 |.non,v,L,h,_=>by rw[Rep]at h⊢;exact h
 |.bl _,v,L,h,_=>by rw[Rep]at h⊢;exact h
 |.int _,v,L,h,_=>by rw[Rep]at h⊢;exact h
 |.str _,v,L,h,_=>by rw[Rep]at h⊢;exact h
 |.ty _,v,L,h,_=>by rw[Rep]at h⊢;exact h
 |.tup ds,v,L,h,o=>by
  rw[Rep]at h⊢;obtain⟨a,xs,rfl,Y,O⟩:=h;exact⟨a,xs,rfl,Y,aF.own O (by simpa[bu]using o)⟩
 |.lst m ds,v,L,h,o=>by
  rw[Rep]at h⊢;obtain⟨a,xs,M,rfl,O,B⟩:=h;simp[bu]at o;obtain⟨rfl,o⟩:=o;exact⟨a,xs,M,rfl,aF.own O o,B⟩
 |.dct m ks ds,v,L,h,o=>by
  rw[Rep]at h⊢;obtain⟨a,xs,M,rfl,I,O,B⟩:=h;simp[bu]at o;obtain⟨rfl,o⟩:=o;exact⟨a,xs,M,rfl,I,aF.own O o,B⟩
 |.ins m c fs ds,v,L,h,o=>by
  rw[Rep]at h⊢;obtain⟨a,C,dx,xs,M,rfl,F,I,O,B⟩:=h;simp[bu]at o;obtain⟨rfl,o⟩:=o;exact⟨a,C,dx,xs,M,rfl,F,I,aF.own O o,B⟩
theorem aF.own:∀{ds:List D}{vs:List V}{L:List Addr},aF G H W ds vs L->bA ds=true->aF G H W' ds vs L
 |[],vs,L,h,_=>by rw[aF]at h⊢;exact h
 |d::r,vs,L,h,o=>by
  obtain⟨x,ys,M,M',rfl,rfl,h1,h2⟩:=h.inv;simp[bA]at o;exact .cons (Rep.own h1 o.1) (aF.own h2 o.2)
end
def W1(Fr:Addr->Prop):Wn:=⟨Fr,λ_=>False,λ_=>False⟩
def spP(G:Gc)(F:List D->Option D):Sp:=λvs H Q _=>∃(ds:List D)(Fr:Addr->Prop),aF G H (W1 Fr) ds vs []/\az ds=true/\aA ds=true/\(∀a,Fr a->Mu H a)/\∃d,F ds=some d/\
 ∀v H' L,Same H H'->Rep G H' (W1 (plus L Fr)) d v L->(∀a∈L,H a=none)->L.Nodup->clean d=true->Q v H'
def en0(n:Nat)(ds:List D):En:=ds.map some++aax (n-ds.length) none
def fnP(Z n:Nat)(body:En->Option Fl):List D->Option D:=λds=>if ds.length=Z then(body (en0 n ds)).bind λr=>match r with
 |.ret d _=>some d
 |.nx _=>some .non
 |_=>none else none
theorem Gv(h:(en0 n ds)[i]? =some (some d)):ds[i]? =some d:=by
 unfold en0 at h;by_cases hi:i<ds.length
 .rw[aad (by simpa using hi)]at h
  simpa using h
 .rw[aaB (by simpa using Nat.le_of_not_lt hi)]at h
  rw[aet]at h;split at h
  .simp at h
  .cases h
variable{vs:List V}
theorem Zb{Fr:Addr->Prop}(r:aF G H (W1 Fr) ds vs [])(Y:az ds=true)(q:aA ds=true)(fm:∀a,Fr a->Mu H a):Sta G H ob (en0 N.length ds) (L2.start N vs) (λ_=>[]) Fr where
 len:=by simp[en0,L2.start,r.length]
 sl:=λi d e=>by
  have e:=Gv e;obtain⟨x,M,h1,h2,Z⟩:=r.get e;have:M=[]:=by simpa using Z
  subst this;refine⟨x,?_,h2.up ⟨Same.refl _,λb u U f=>⟨f.1,λ⟨j,_,z⟩=>(by cases z),λ⟨j,_,z⟩=>(by cases z)⟩,λb u U f=>f.elim⟩,by simp[clean,iw Y e,iC q e]⟩;unfold L2.start;have hi:i<vs.length:=(List.getElem?_eq_some_iff.mp h1).1;rw[aad (by simpa using hi)];simp[h1]
 em:=λ_ _=>rfl
 nd:=λ_=>aap
 dj:=λi j a h=>by cases h
 fdj:=λi a _ h=>by cases h
 fdm:=fm
section
variable{P:Program}{w:World}{K:PySem.W.Frag}{mg:Str->Option Value}{base:Heap}
theorem Vr{a:Addr}:¬inS (λ_=>[]) a:=λ⟨_,z⟩=>by cases z
theorem okP{x qual:Str}{st:Stmt}{f:Addr}{fd:aai}{N ps:List Str}{k:Nat}{ob J:Nat->Bool}{body:En->Option Fl}(F:Fun K x qual st f fd)(S:bx N ps (aK st))
  (U:∀(cdv:Value)(A:aaC)(outer:List Env)(s:Pr)(H:Hp)(E:XK),gq k (A.deeper (acN qual (aK st) s.heap.objs.size f cdv))->rA (λ_:Unit=>(xJ CX0 P w K mg base N qual (aK st) f cdv A outer s H E).nox) ⟨K,mg⟩ ob J (gJ st) body) :
  cR P w K mg base CX0 (k+1) f fd ps (spP ⟨K,mg⟩ (fnP ps.length N.length body)):=by
 refine F.ok S (λvs H Q E h=>?_) (λcdv A outer s H vs Q E O h=>?_)
 .obtain⟨ds,Fr,r,_,_,_,d,e,_⟩:=h
  unfold fnP at e;split at e
  .rename_i hl
   rw[←r.length];exact hl
  .cases e
 .obtain⟨ds,Fr,r,c1,c2,fm,d,e,q⟩:=h
  obtain⟨t,B,V⟩:=(U cdv A outer s H E O).ex;refine⟨t,B (),?_⟩;unfold fnP at e;split at e
  .cases h1:body (en0 N.length ds)with
   |none=>simp[h1]at e
   |some fl=>
    rw[h1]at e;simp![Hq]at e;refine V _ fl h1 (L2.start N vs) H (λ_=>[]) Fr (Zb (ob:=ob) r c1 c2 fm) _ ?_;have D:∀{S':Ad}{M:List Addr}{b:Addr},(wn ob S' 1.31).free b->(W1 1.31).free b:=λz=>⟨z.1,id,id⟩;cases fl with
    |nx I=>
     cases e;exact λa0 H' S' s' m=>q .non H' [] (λb o h=>m.kp b o h Vr (by simp)) (by rw[Rep];exact⟨rfl,rfl⟩) (by simp) aap rfl
    |ret d' I=>
     cases e;exact λv a0 H' M S' s' r' c n f m=>q v H' M (λb o h=>m.kp b o h Vr (by simp)) (by
      have Z:=(by simpa[clean]using c:aC d=true/\aB d=true);have ev:Evo H' H' (wn ob S' 1.31) (W1 1.31):=⟨λb u h z=>⟨h,D z⟩,λ_ _ h=>h⟩;exact r'.mono ev (.inl Z.1) (.inl Z.2) λ_ _ _ h=>h) (λa Y=>(f a Y).resolve_left Vr) n c
    |brk I=>cases e
    |cnt I=>cases e
  .cases e
end
def bz(F:List D->Option D)(ds:List D):Option D:=(F (fzL ds)).bind λd=>if(az ds&&aA ds)||bu d then some d else none
theorem Dd{F:List D->Option D}{E:XK}:CaV G (λvs H Q=>spP G F (vs++[]) H Q E) (bz F):=λds d e xs H W J r nd hn w Q q=>by
 unfold bz at e;cases h1:F (fzL ds)with
 |none=>simp[h1]at e
 |some d'=>
  rw[h1]at e;simp![Hq]at e;split at e
  .rename_i hc
   cases e;rw[List.append_nil];by_cases O:az ds=true/\aA ds=true
   .refine⟨fzL ds,λa=>(W.n a∨W.s a∨W.o a)/\a∉J,r.fz ⟨λa f=>⟨λz=>z.1.elim f.1 λz=>z.elim f.2.1 f.2.2,id,id⟩,λa Y=>⟨λz=>z.2 Y,id,id⟩⟩ (.inl O),g_ ds,h_ ds,λa h=>w a h.1,d,h1,λv H' L s Z I n c=>?_⟩
    refine q v H' L s ?_ (λa Y=>.inr (I a Y)) n;have U:=(by simpa[clean]using c:aC d=true/\aB d=true);have V:∀a∈L,a∉J:=λa Y z=>by
     obtain⟨o,B,_⟩:=r.dom a z;rw[I a Y]at B;cases B
    have ev:Evo H' H' (W1 (plus L λa=>(W.n a∨W.s a∨W.o a)/\a∉J)) ((W.drop J).add L):=⟨λb u h f=>⟨h,⟨λz=>z.elim (λz=>f.1 (.inl z)) λz=>f.1 (.inr ⟨.inl z.1,z.2⟩),λz=>f.1 (.inr ⟨.inr (.inl z),λy=>?_⟩),λz=>f.1 (.inr ⟨.inr (.inr z),λy=>?_⟩)⟩⟩,λ_ _ h=>h⟩
    .exact Z.mono ev (.inl U.1) (.inl U.2) λ_ _ _ h=>h
    .exact(hn b y).2.1 z
    .exact(hn b y).2.2 z
   .have B:bu d=true:=by
     simp![agj,aal]at hc;exact hc.resolve_left O
    refine⟨fzL ds,λ_=>False,r.fz ⟨λa f=>⟨id,id,id⟩,λa Y=>⟨id,id,id⟩⟩ (.inr λa=>⟨id,id,id⟩),g_ ds,h_ ds,λa h=>h.elim,d,h1,λv H' L s Z I n c=>?_⟩;exact q v H' L s (Z.own B) (λa Y=>.inr (I a Y)) n
  .cases e
theorem dO{F:List D->Option D}{f:En->Option (List D)}(C:∀c,Cal (X c).prog (X c).w (X c).K (X c).mg (X c).base k x ps (spP G F))(O:∀c,gq k (X c).A)(Y:PVA X G ob (e::es) f)(q:∀c,Gl (X c) x:=by intro _;rfl)(z:(x==("__debug__":Str))=false:=by decide)(V:∀c,ZK (e::es) (X c).env=(false,eval e (X c).env)::ZK es (X c).env:=by intro _;rfl)(B:∀c,(aaH pos (ZK es (X c).env)).any (·.1)=false:=by intro _;rfl) :
 PV X G ob (.Call (.Name x p) (e::es) [] pos) (eAp (bz F) f):=let⟨t,a1,a2⟩:=Y.ex;⟨_,λc=>Ms (C c) (O c) (q c) (a1 c) z (V c) (B c),tR Dd a2⟩
variable{a:Addr}
theorem dZ.fz2{D:Addr->HO->Prop}(B:Les H W W' L)(U:m≠.brw∨∀a,W.s a->W'.free a)(q:m≠.bro∨pH W')(h:dZ D H W a o m L M):dZ D H W' a o (mkF m) [] []:=by
 cases m with
 |own=>exact⟨h.1,B.l a (by rw[h.2];simp),rfl,rfl⟩
 |frz=>exact⟨h.1,B.f a h.2.1,rfl,rfl⟩
 |brw=>exact⟨h.1,U.elim (λz=>absurd rfl z) λz=>z a h.2.1,rfl,rfl⟩
 |bro=>exact⟨h.1,q.elim (λz=>absurd rfl z) λz=>z a,rfl,rfl⟩
 |scr=>exact⟨h.1.imp (λz=>⟨z.1,B.f a z.2⟩) id,rfl,rfl⟩
mutual
theorem Rep.fz2:∀{d:D}{v:V}{L:List Addr},Rep G H W d v L->Les H W W' L->(aC d=true∨∀a,W.s a->W'.free a)->(aB d=true∨pH W')->Rep G H W' (fz d) v []
 |.non,v,L,h,_,_,_=>by rw[Rep]at h;simp[Jb.fz,Rep,h]
 |.bl _,v,L,h,_,_,_=>by rw[Rep]at h;simp[Jb.fz,Rep,h]
 |.int _,v,L,h,_,_,_=>by rw[Rep]at h;simp[Jb.fz,Rep,h]
 |.str _,v,L,h,_,_,_=>by rw[Rep]at h;simp[Jb.fz,Rep,h]
 |.ty _,v,L,h,_,_,_=>by rw[Rep]at h;simp[Jb.fz,Rep,h]
 |.tup ds,v,L,h,B,c,o=>by
  rw[Rep]at h;rw[Jb.fz,Rep];obtain⟨a,xs,rfl,Y,O⟩:=h;exact⟨a,xs,rfl,Y,aF.fz2 O B (by simpa[aC]using c) (by simpa[aB]using o)⟩
 |.lst m ds,v,L,h,he,c,o=>by
  rw[Rep]at h;rw[Jb.fz,Rep];obtain⟨a,xs,M,rfl,O,B⟩:=h;exact⟨a,xs,[],rfl,aF.fz2 O (he.sub λc Z=>B.sub.subset Z) (c.imp (λz=>by simp[aC]at z;exact z.2) id) (o.imp (λz=>by simp[aB]at z;exact z.2) id),B.fz2 he (c.imp (λz=>by simp[aC]at z;exact z.1) id) (o.imp (λz=>by simp[aB]at z;exact z.1) id)⟩
 |.dct m ks ds,v,L,h,he,c,o=>by
  rw[Rep]at h;rw[Jb.fz,Rep];obtain⟨a,xs,M,rfl,I,O,B⟩:=h;exact⟨a,xs,[],rfl,I,aF.fz2 O (he.sub λc Z=>B.sub.subset Z) (c.imp (λz=>by simp[aC]at z;exact z.2) id) (o.imp (λz=>by simp[aB]at z;exact z.2) id),B.fz2 he (c.imp (λz=>by simp[aC]at z;exact z.1) id) (o.imp (λz=>by simp[aB]at z;exact z.1) id)⟩
 |.ins m c' fs ds,v,L,h,he,c,o=>by
  rw[Rep]at h;rw[Jb.fz,Rep];obtain⟨a,C,dx,xs,M,rfl,F,I,O,B⟩:=h;exact⟨a,C,dx,xs,[],rfl,F,I,aF.fz2 O (he.sub λc Z=>B.sub.subset Z) (c.imp (λz=>by simp[aC]at z;exact z.2) id) (o.imp (λz=>by simp[aB]at z;exact z.2) id),B.fz2 he (c.imp (λz=>by simp[aC]at z;exact z.1) id) (o.imp (λz=>by simp[aB]at z;exact z.1) id)⟩
theorem aF.fz2:∀{ds:List D}{vs:List V}{L:List Addr},aF G H W ds vs L->Les H W W' L->(az ds=true∨∀a,W.s a->W'.free a)->(aA ds=true∨pH W')->aF G H W' (fzL ds) vs []
 |[],vs,L,h,_,_,_=>by obtain⟨rfl,_⟩:=h.inv0;rw[fzL];exact .nil
 |d::r,vs,L,h,he,c,o=>by
  obtain⟨x,ys,M,M',rfl,rfl,h1,h2⟩:=h.inv;rw[fzL];exact .cons (M:=[]) (M':=[]) (Rep.fz2 h1 (he.sub λc Z=>ZJ _ Z) (c.imp (λz=>by simp[az]at z;exact z.1) id) (o.imp (λz=>by simp[aA]at z;exact z.1) id))
   (aF.fz2 h2 (he.sub λc Z=>W2 _ Z) (c.imp (λz=>by simp[az]at z;exact z.2) id) (o.imp (λz=>by simp[aA]at z;exact z.2) id))
end
def spI(G:Gc)(ob pr:Nat->Bool)(F:List D->Option (D×List D)):Sp:=λvs H Q _=>∃(ds:List D)(S:Ad)(Fr:Addr->Prop),Sta G H ob (ds.map some) (vs.map some) S Fr/\(∀i,pr i=false->S i=[])/\∃d B,F ds=some (d,B)/\
 ∀v H' M S',Sta G H' ob (B.map some) (vs.map some) S' 1.31->Rep G H' (wn ob S' 1.31) d v M->clean d=true->M.Nodup->(∀a∈M,inS S a∨H a=none)->Mv (λ_=>false) H H' [] [] S S' []->Q v H'
def outs(pr:Nat->Bool)(ρ:En):Nat->List D->Option (List D)
 |_,[]=>some []
 |i,d::r=>(if pr i=true then(match ρ[i]? with
  |some (some e)=>some e
  |_=>none)else some d).bind λe=>(outs pr ρ (i+1) r).map λt=>e::t
def fnI(pr:Nat->Bool)(Z n:Nat)(body:En->Option Fl):List D->Option (D×List D):=λds=>if ds.length=Z then(body (en0 n ds)).bind λr=>match r with
 |.ret d ρ=>(outs pr ρ 0 ds).map λo=>(d,o)
 |.nx ρ=>(outs pr ρ 0 ds).map λo=>(.non,o)
 |_=>none else none
theorem Gg{pr:Nat->Bool}{ρ:En}:∀{ds B:List D}{k:Nat},outs pr ρ k ds=some B->B.length=ds.length/\∀i d,B[i]? =some d->(pr (k+i)=true/\ρ[k+i]? =some (some d))∨(pr (k+i)=false/\ds[i]? =some d)
 |[],B,k,e=>by
  cases e;exact⟨rfl,λi d h=>by simp at h⟩
 |d0::r,B,k,e=>by
  rw[outs]at e;cases h2:outs pr ρ (k+1) r with
  |none=>
   rw[h2]at e;simp at e
  |some t=>
   rw[h2]at e;obtain⟨J,O⟩:=Gg h2;have V:∃Z,B=Z::t/\((pr k=true/\ρ[k]? =some (some Z))∨(pr k=false/\d0=Z)):=by
    split at e
    .rename_i hp
     split at e
     .rename_i Z h0
      exact⟨Z,by simpa using e.symm,.inl ⟨hp,h0⟩⟩
     .simp at e
    .rename_i hp
     exact⟨d0,by simpa using e.symm,.inr ⟨by simpa using hp,rfl⟩⟩
   obtain⟨Z,rfl,I⟩:=V;refine⟨by simp[J],λi d h=>?_⟩;cases i with
   |zero=>
    have:Z=d:=by simpa using h
    subst this;exact I.imp id λz=>⟨z.1,by simp[z.2]⟩
   |succ i=>
    have:=O i d (by simpa using h);rw[show k+1+i=k+(i+1)by omega]at this;simpa using this
theorem jK{xs:List α}{x:α}(h:(xs.map some)[i]? =some (some x)):xs[i]? =some x:=by
 rw[List.getElem?_map]at h;cases e:xs[i]? with
 |none=>rw[e]at h;cases h
 |some y=>rw[e]at h;simpa using h
theorem eZ{xs:List α}{x:α}(h:xs[i]? =some x):(xs.map some)[i]? =some (some x):=by rw[List.getElem?_map,h];rfl
theorem Zc{Fr:Addr->Prop}(s:Sta G H ob (ds.map some) (vs.map some) S Fr):Sta G H ob (en0 N.length ds) (L2.start N vs) S Fr where
 len:=by have:=s.len;simp at this;simp[en0,L2.start,this]
 sl:=λi d e=>by
  obtain⟨v,h1,h2,Z⟩:=s.sl i d (eZ (Gv e));refine⟨v,?_,h2,Z⟩;unfold L2.start;have hi:i<(vs.map some).length:=(List.getElem?_eq_some_iff.mp h1).1;rw[aad hi];exact h1
 em:=λi h=>s.em i λd e=>h d (by
  unfold en0;have hi:i<(ds.map some).length:=(List.getElem?_eq_some_iff.mp e).1;rw[aad hi];exact e)
 nd:=s.nd
 dj:=s.dj
 fdj:=s.fdj
 fdm:=s.fdm
section
variable{P:Program}{w:World}{K:PySem.W.Frag}{mg:Str->Option Value}{base:Heap}
theorem Do{G:Gc}{H H':Hp}{ob pr:Nat->Bool}{ds B:List D}{vs:List V}{N:List Str}{S S1:Ad}{Fr:Addr->Prop}{ρ:En}{σ:L2.St}{M:List Addr}(s:Sta G H ob (ds.map some) (vs.map some) S Fr)(hp:∀i,pr i=false->S i=[])(F:Sta G H' ob ρ σ S1 1.31)
  (m:Mv pr H H' (L2.start N vs) σ S S1 []) (hM:∀a∈M,inS S a∨H a=none) (e:outs pr ρ 0 ds=some B) :
  Sta G H' ob (B.map some) (vs.map some) (λi=>if pr i=true/\i<ds.length then S1 i else[]) (plus M Fr):=by
 obtain⟨O,q⟩:=Gg e;have lv:ds.length=vs.length:=by have:=s.len;simpa using this
 have sub:∀{i a},a∈(if pr i=true/\i<ds.length then S1 i else[])->a∈S1 i:=λ{i a} z=>by
  split at z
  .exact z
  .cases z
 refine⟨by simp[O,lv],λi d h=>?_,λi h=>?_,λi=>?_,λi j a h1 h2=>F.dj i j a (sub h1) (sub h2),λi a h z=>F.fdj i a h (sub z),F.fdm⟩
 .have h:=jK h
  have hi:i<ds.length:=by rw[←O];exact(List.getElem?_eq_some_iff.mp h).1
  rcases q i d h with⟨h1,h2⟩|⟨h1,h2⟩
  .rw[acD]at h1 h2
   obtain⟨v,q1,q2,q3⟩:=F.sl i d h2;have e1:=m.pr i h1;rw[q1]at e1;refine⟨v,?_,?_,q3⟩
   .unfold L2.start at e1
    rw[aad (by simp;omega)]at e1;exact e1.symm
   .rw[ZV ⟨h1,hi⟩]
    have a0:=(by simpa[clean]using q3:aC d=true/\aB d=true);have I:Evo H' H' (wn ob S1 1.31) (wn ob (λi=>if pr i=true/\i<ds.length then S1 i else[]) 1.31):=⟨λb u U f=>⟨U,⟨f.1,λ⟨j,Z,J⟩=>f.2.1 ⟨j,Z,sub J⟩,λ⟨j,Z,J⟩=>f.2.2 ⟨j,Z,sub J⟩⟩⟩,λ_ _ h=>h⟩;exact q2.mono I (.inl a0.1) (.inl a0.2) λ_ _ _ h=>h
  .rw[acD]at h1
   obtain⟨v,q1,q2,q3⟩:=s.sl i d (eZ h2);refine⟨v,q1,?_,q3⟩;rw[Z1 λz=>by rw[h1]at z;cases z.1];rw[hp i h1]at q2;have a0:=(by simpa[clean]using q3:aC d=true/\aB d=true);have Y:=Mr s (σ2:=σ) (H2:=H') (S2:=S1) (P:=λ_=>false) ⟨m.kp,m.gr,λi h=>by cases h⟩;have I:Evo H H' (wn ob S Fr) (wn ob (λi=>if pr i=true/\i<ds.length then S1 i else[]) 1.31):=⟨λb u U f=>?_,Y.t⟩
   .exact q2.mono I (.inl a0.1) (.inl a0.2) (by simp)
   .obtain⟨k1,k2⟩:=Y.k b u U f
    refine⟨k1,λz=>z.elim (λz=>?_) f.1,λ⟨j,Z,J⟩=>k2.2.1 ⟨j,Z,sub J⟩,λ⟨j,Z,J⟩=>k2.2.2 ⟨j,Z,sub J⟩⟩;rcases hM b z with⟨j,y⟩|y
    .cases ho:ob j with
     |false=>exact f.2.1 ⟨j,ho,y⟩
     |true=>exact f.2.2 ⟨j,ho,y⟩
    .rw[U]at y;cases y
 .split
  .rename_i z
   exfalso;have hi:i<B.length:=by rw[O];exact z.2
   exact h B[i] (eZ (by simp[hi]))
  .rfl
 .show(if pr i=true/\i<ds.length then S1 i else[]).Nodup
  split
  .exact F.nd i
  .exact aap
theorem okI{x qual:Str}{st:Stmt}{f:Addr}{fd:aai}{N ps:List Str}{k:Nat}{ob pr:Nat->Bool}{body:En->Option Fl}(F:Fun K x qual st f fd)(S:bx N ps (aK st))
  (U:∀(cdv:Value)(A:aaC)(outer:List Env)(s:Pr)(H:Hp)(E:XK),gq k (A.deeper (acN qual (aK st) s.heap.objs.size f cdv))->rA (λ_:Unit=>(xJ CX0 P w K mg base N qual (aK st) f cdv A outer s H E).nox) ⟨K,mg⟩ ob pr (gJ st) body) :
  cR P w K mg base CX0 (k+1) f fd ps (spI ⟨K,mg⟩ ob pr (fnI pr ps.length N.length body)):=by
 refine F.ok S (λvs H Q E h=>?_) (λcdv A outer s H vs Q E O h=>?_)
 .obtain⟨ds,S,Fr,st,_,d,ds',e,_⟩:=h
  unfold fnI at e;split at e
  .rename_i hl
   have:=st.len;simp at this;rw[←this];exact hl
  .cases e
 .obtain⟨ds,S0,Fr,st,hp,d,ds',e,q⟩:=h
  obtain⟨t,B,V⟩:=(U cdv A outer s H E O).ex;refine⟨t,B (),?_⟩;unfold fnI at e;split at e
  .cases h1:body (en0 N.length ds)with
   |none=>simp[h1]at e
   |some fl=>
    rw[h1]at e;simp![Hq]at e;refine V _ fl h1 (L2.start N vs) H S0 Fr (Zc st) _ ?_;have sub:∀{S1:Ad}{i a},a∈(if pr i=true/\i<ds.length then S1 i else[])->a∈S1 i:=λ{S1 i a} z=>by
     split at z
     .exact z
     .cases z
    cases fl with
    |nx I=>
     cases h2:outs pr I 0 ds with
     |none=>simp[h2]at e
     |some o=>
      obtain⟨rfl,rfl⟩:D.non=d/\o=ds':=by simpa[h2]using e
      refine λY H' S1 s1 m=>q .non H' [] _ (Do st hp (M:=[]) (by rw[rY];exact s1) m (by simp) h2) (by rw[Rep];exact⟨rfl,rfl⟩) rfl aap (by simp) ⟨m.kp,λi a z=>m.gr i a (sub z),λi h=>by cases h⟩
    |ret d' I=>
     cases h2:outs pr I 0 ds with
     |none=>simp[h2]at e
     |some o=>
      obtain⟨rfl,rfl⟩:d'=d/\o=ds':=by simpa[h2]using e
      refine λv Y H' M S1 s1 r c n f m=>q v H' M _ (Do st hp s1 m f h2) ?_ c n f ⟨m.kp,λi a z=>m.gr i a (sub z),λi h=>by cases h⟩;have a0:=(by simpa[clean]using c:aC d'=true/\aB d'=true);have ev:Evo H' H' (wn ob S1 1.31) (wn ob (λi=>if pr i=true/\i<ds.length then S1 i else[]) 1.31):=⟨λb u U f=>⟨U,⟨f.1,λ⟨j,Z,J⟩=>f.2.1 ⟨j,Z,sub J⟩,λ⟨j,Z,J⟩=>f.2.2 ⟨j,Z,sub J⟩⟩⟩,λ_ _ h=>h⟩;exact r.mono ev (.inl a0.1) (.inl a0.2) λ_ _ _ h=>h
    |brk I=>cases e
    |cnt I=>cases e
  .cases e
end
def RfM(G:Gc)(ob:Nat->Bool)(t:TA)(js:List Nat)(f:En->Option (List D×En)):Prop:=∀(ρ:En)(ds:List D)(I:En),f ρ=some (ds,I)->∀(σ:L2.St)(H:Hp)(S:Ad)(Fr:Addr->Prop),Sta G H ob ρ σ S Fr->
 ∀us:List V,js.map (λj=>σ[j]?)=us.map (λu=>some (some u))->∀Q:List V->Hp->Prop,
 (∀vs H' M S',Sta G H' ob I σ S' 1.31->aF G H' (wn ob S' 1.31) ds vs M->M.Nodup->Eff ob H H' S S' M->Q (us++vs) H')->t σ H Q
structure PVM{ι:Type}(X:ι->Cx)(G:Gc)(ob:Nat->Bool)(es:List Expr)(js:List Nat)(f:En->Option (List D×En)):Prop where
 mk::(ex:∃t,(∀c,PA (X c) es t)/\RfM G ob t js f)
variable{f:En->Option (List D×En)}
theorem cY(h:Dh X G ob es f):PVM X G ob es [] f:=by
 obtain⟨t,B,V⟩:=h.ex;refine⟨t,B,λρ ds I e σ H S Fr s us J Q q=>?_⟩;have:us=[]:=by simpa using J
 subst this;exact V ρ ds I e σ H S Fr s Q q
theorem cX(i:Nat)(h:PVM X G ob es js f)(U:∀c,(X c).N[i]? =some x:=by intro _;rfl)(Z:∀c,Vis (X c).env.scope x:=by intro _;first|exact abf rfl|exact aaQ (abf rfl)|exact aaQ (aaQ rfl))(hd:(x==("__debug__":Str))=false:=by decide)(z:(x==("__classdict__":Str))=false:=by decide)(B:∀c,ZK (.Name x pos::es) (X c).env=(false,eval (.Name x pos) (X c).env)::ZK es (X c).env:=by intro _;rfl):PVM X G ob (.Name x pos::es) (i::js) f:=by
 obtain⟨t,O,V⟩:=h.ex;refine⟨_,λc=>uL (pv i (U c) (Z c) hd z) (O c) (B c),λρ ds I e σ H S Fr s us J Q q=>?_⟩;cases us with
 |nil=>simp at J
 |cons u us=>
  rw[ZF,ZF]at J;injection J with h1 h2;exact⟨u,h1,V ρ ds I e σ H S Fr s us h2 _ λvs H' M S' s' r n F=>q vs H' M S' s' r n F⟩
def objs(js:List Nat)(ρ:En):Option (List D):=js.mapM λj=>ρ[j]?.bind id
def gm:List Nat->List D->En->En
 |j::js,d::ds,ρ=>gm js ds (ρ.set j (some d))
 |_,_,ρ=>ρ
def eIo(F:List D->Option (D×List D))(js:List Nat)(f:En->Option (List D×En)):En->Option (D×En):=λρ=>if(objs js ρ).isSome=true then(f ρ).bind λp=>(objs js p.2).bind λos=>if aA p.1=true then(F (os++fzL p.1)).bind λq=>
 if az p.1=true∨(bu q.1=true/\bA (q.2.take js.length)=true)then some (q.1,gm js q.2 p.2)else none else none else none
theorem zP{ρ:En}:∀{js:List Nat}{os:List D},objs js ρ=some os->os.length=js.length/\∀(k j:Nat),js[k]? =some j->∃d,os[k]? =some d/\ρ[j]? =some (some d)
 |[],os,h=>by
  have:os=[]:=by simpa[objs]using h.symm
  subst this;exact⟨rfl,λk j h=>by simp at h⟩
 |j::js,os,h=>by
  unfold objs at h;rw[List.mapM_cons]at h;cases h1:ρ[j]?.bind id with
  |none=>simp[h1]at h
  |some d=>
   cases h2:js.mapM (λj=>ρ[j]?.bind id)with
   |none=>simp[h1,h2]at h
   |some t=>
    have:os=d::t:=by simpa[h1,h2]using h.symm
    subst this;obtain⟨l,g⟩:=zP (js:=js) (os:=t) h2;refine⟨by simp[l],λk i e=>?_⟩;cases k with
    |zero=>
     have:j=i:=by simpa using e
     subst this;refine⟨d,rfl,?_⟩;cases Z:ρ[j]? with
     |none=>rw[Z]at h1;cases h1
     |some o=>rw[Z]at h1;simpa using h1
    |succ k=>simpa using g k i (by simpa using e)
theorem yM:∀(js:List Nat)(ds:List D)(ρ:En),(gm js ds ρ).length=ρ.length
 |[],ds,ρ=>by cases ds<;>rfl
 |_::_,[],ρ=>rfl
 |j::js,d::ds,ρ=>by rw[gm,yM js ds];simp
theorem rK:∀{js:List Nat}{ds:List D}{ρ:En}{j:Nat},j∉js->(gm js ds ρ)[j]? =ρ[j]?
 |[],ds,ρ,j,_=>by cases ds<;>rfl
 |_::_,[],ρ,j,_=>rfl
 |i::js,d::ds,ρ,j,h=>by
  rw[gm,rK (λz=>h (aaf _ z)),List.getElem?_set_ne λz=>h (by rw[z];exact aav)]
theorem wH:∀{js:List Nat}{ds:List D}{ρ:En}{k j:Nat}{d:D},js.Nodup->js[k]? =some j->ds[k]? =some d->j<ρ.length->(gm js ds ρ)[j]? =some (some d)
 |[],ds,ρ,k,j,d,_,h,_,_=>by simp at h
 |_::_,[],ρ,k,j,d,_,_,h,_=>by simp at h
 |i::js,d0::ds,ρ,k,j,d,n,h1,h2,hl=>by
  rw[gm];cases k with
  |zero=>
   have e1:i=j:=by simpa using h1
   have e2:d0=d:=by simpa using h2
   subst e1 e2;rw[rK (Z8.mp n).1];simp[hl]
  |succ k=>exact wH (Z8.mp n).2 (by simpa using h1) (by simpa using h2) (by simpa using hl)
def pick(S:Ad)(js:List Nat):Ad:=λi=>match js[i]? with
 |some j=>S j
 |none=>[]
theorem ju(h:a∈pick S js i):∃j,js[i]? =some j/\a∈S j:=by
 unfold pick at h;split at h
 .rename_i j e;exact⟨j,e,h⟩
 .cases h
def back(S:Ad)(js:List Nat)(Sc:Ad):Ad:=λj=>match js.idxOf? j with
 |some i=>Sc i
 |none=>S j
theorem vJ(h:js.idxOf? j=some i):js[i]? =some j:=by
 obtain⟨h1,h2,Z⟩:=aan.mp h;have:js[i]=j:=by simpa using h2
 rw[Z0 h1,this]
theorem Be(h:js.idxOf? j=none):j∉js:=by
 intro z;have:=abd.mp h j z;simp at this
theorem Vf(n:js.Nodup)(h:js[i]? =some j):js.idxOf? j=some i:=by
 cases e:js.idxOf? j with
 |none=>exact absurd (Z2 h) (Be e)
 |some k=>
  have:=vJ e;have I:k<js.length:=(List.getElem?_eq_some_iff.mp this).1;rw[(abG I n).mp (this.trans h.symm)]
theorem Rh{Sc:Ad}(n:js.Nodup)(h:js[i]? =some j):back S js Sc j=Sc i:=by unfold back;rw[Vf n h]
theorem zL{Sc:Ad}(h:j∉js):back S js Sc j=S j:=by
 unfold back;split
 .rename_i i e;exact absurd (Z2 (vJ e)) h
 .rfl
theorem lU{Sc:Ad}(h:a∈back S js Sc j):(∃i,js[i]? =some j/\a∈Sc i)∨(j∉js/\a∈S j):=by
 unfold back at h;split at h
 .rename_i i e;exact .inl ⟨i,vJ e,h⟩
 .rename_i e;exact .inr ⟨Be e,h⟩
theorem zM(h:bA (ds.take k)=true)(e:ds[i]? =some d)(hi:i<k):bu d=true:=by
 induction ds generalizing k i with
 |nil=>simp at e
 |cons a r B=>
  cases k with
  |zero=>omega
  |succ k=>
   rw[List.take_succ_cons,bA,aal]at h;cases i with
   |zero=>
    have:a=d:=by simpa using e
    rw[←this];exact h.1
   |succ i=>exact B h.2 (by simpa using e) 1.11
theorem Hf:∀{js:List Nat},(∀j∈js,∃u,σ[j]? =some (some u))->∃us:List V,js.map (λj=>σ[j]?)=us.map (λu=>some (some u))
 |[],_=>⟨[],rfl⟩
 |j::js,h=>by
  obtain⟨us,J⟩:=Hf (js:=js) λi hi=>h i (aaf _ hi);obtain⟨u,q⟩:=h j aav;exact⟨u::us,by rw[ZF,ZF,J,q]⟩
theorem KC{oc:Nat->Bool}{F:List D->Option (D×List D)}(hj:js.Nodup)(B:∀j∈js,ob j=true)(hp:∀i,i<js.length->pr i=true)(h:RfM G ob t js f){E:XK} :
  j5 G ob (λσ H Q=>t σ H λvs H1=>spI G oc pr F (vs++[]) H1 Q E) (eIo F js f):=λρ d d3 e σ H S Fr s Q q=>by
 unfold eIo at e;split at e
 .rename_i hsome
  cases h0:objs js ρ with
  |none=>rw[h0]at hsome;cases hsome
  |some d5=>
   cases h1:f ρ with
   |none=>simp[h1]at e
   |some p=>
    obtain⟨ds,ρ1⟩:=p;rw[h1]at e;simp![Hq]at e;cases h2:objs js ρ1 with
    |none=>simp[h2]at e
    |some os=>
     rw[h2]at e;simp![Hq]at e;split at e
     .rename_i hbro
      cases h3:F (os++fzL ds)with
      |none=>simp[h3]at e
      |some z=>
       obtain⟨d1,a2⟩:=z;rw[h3]at e;simp![Hq]at e;split at e
       .rename_i b4
        obtain⟨rfl,rfl⟩:d1=d/\gm js a2 ρ1=d3:=by simpa using e
        obtain⟨l0,g0⟩:=zP h0;obtain⟨l1,g1⟩:=zP h2;have a8:∃us:List V,js.map (λj=>σ[j]?)=us.map (λu=>some (some u)):=by
         have:∀j∈js,∃u,σ[j]? =some (some u):=λj hj=>by
          obtain⟨k,I⟩:=aak.mp hj;obtain⟨d0,_,q2⟩:=g0 k j I;obtain⟨v,q3,_⟩:=s.sl j d0 q2;exact⟨v,q3⟩
         exact Hf this
        obtain⟨us,a8⟩:=a8;have b9:us.length=js.length:=by have:=congrArg abP a8;simpa using this.symm
        have c5:∀(k j:Nat)(u:V),js[k]? =some j->us[k]? =some u->σ[j]? =some (some u):=λk j u h1 h2=>by
         have:=congrArg (λl=>l[k]?) a8;simp![List.getElem?_map,h1,h2,aaw,abF]at this;exact this
        refine h ρ ds ρ1 h1 σ H S Fr s us a8 _ λvs H1 M S1 s1 r1 d6 c4=>?_;rw[List.append_nil];have b0:∀{i a},a∈pick S1 js i->inO ob S1 a:=λ{i a} z=>by
         obtain⟨j,e,y⟩:=ju z;exact⟨j,B j (Z2 e),y⟩
        have a1:∀{a},inS (pick S1 js) a->inO ob S1 a:=λ⟨i,z⟩=>b0 z;have b3:∀{i a},a∈S1 i->¬(wn ob S1 1.31).free a:=λ{i a} z f=>by
         cases a9:ob i with
         |false=>exact f.2.1 ⟨i,a9,z⟩
         |true=>exact f.2.2 ⟨i,a9,z⟩
        let a4:Addr->Prop:=λa=>az ds=true/\((Fr a∨inS S1 a)/\¬inS (pick S1 js) a)
        have b1:∀a,(wn ob S1 1.31).free a->(wn oc (pick S1 js) a4).free a:=λa f=>by
         refine⟨λz=>?_,λ⟨i,_,z⟩=>?_,λ⟨i,_,z⟩=>?_⟩
         .rcases z.2.1 with y|⟨i,y⟩
          .exact f.1 (.inr y)
          .exact b3 y f
         .exact f.2.2 (b0 z)
         .exact f.2.2 (b0 z)
        have c9:∀a∈M,¬Fr a:=λa Y z=>by
         rcases c4.fm a Y with y|y
         .exact s.notO z y
         .obtain⟨o,B,_⟩:=s.fdm a z
          rw[y]at B;cases B
        have b6:∀a∈M,(wn oc (pick S1 js) a4).free a:=λa Y=>by
         refine⟨λz=>?_,λ⟨i,_,z⟩=>?_,λ⟨i,_,z⟩=>?_⟩
         .rcases z.2.1 with y|⟨i,y⟩
          .exact c9 a Y y
          .exact s1.fdj i a (.inl Y) y
         .obtain⟨j,_,y⟩:=ju z;exact s1.fdj j a (.inl Y) y
         .obtain⟨j,_,y⟩:=ju z;exact s1.fdj j a (.inl Y) y
        have c6:aF G H1 (wn oc (pick S1 js) a4) (fzL ds) vs []:=by
         refine r1.fz2 ⟨b1,b6⟩ ?_ (.inl hbro);by_cases c3:az ds=true
         .exact .inl c3
         .refine .inr λa Y=>⟨λz=>c3 z.1,λ⟨i,_,z⟩=>?_,λ⟨i,_,z⟩=>?_⟩
          .obtain⟨i1,o1,y1⟩:=Y
           obtain⟨i2,o2,y2⟩:=b0 z;rw[s1.dj i1 i2 a y1 y2,o2]at o1;cases o1
          .obtain⟨i1,o1,y1⟩:=Y
           obtain⟨i2,o2,y2⟩:=b0 z;rw[s1.dj i1 i2 a y1 y2,o2]at o1;cases o1
        have sc:Sta G H1 oc ((os++fzL ds).map some) ((us++vs).map some) (pick S1 js) a4:=by
         refine⟨by simp[l1,b9,c6.length],λi d0 hi=>?_,λi hi=>?_,λi=>?_,λi k a h1 h2=>?_,λi a h1 h2=>h1.2.2 ⟨i,h2⟩,λa Y=>?_⟩
         .have hi:=jK hi
          by_cases b5:i<js.length
          .obtain⟨dd,q1,q2⟩:=g1 i js[i] (by simp[b5])
           rw[aad 1.11,q1]at hi;cases hi;obtain⟨v,q3,q4,q5⟩:=s1.sl _ _ q2;have a6:=(by simpa[clean]using q5:aC d0=true/\aB d0=true);have d2:∃u,us[i]? =some u:=⟨us[i],by simp[b9,b5]⟩;obtain⟨u,J⟩:=d2;have:=c5 i js[i] u (by simp[b5]) J;rw[q3]at this;cases this;refine⟨v,eZ (by rw[aad 1.11];exact J),?_,q5⟩;have:pick S1 js i=S1 js[i]:=by unfold pick;rw[Z0 b5]
           rw[this];have ev:Evo H1 H1 (wn ob S1 1.31) (wn oc (pick S1 js) a4):=⟨λb u h f=>⟨h,b1 b f⟩,λ_ _ h=>h⟩;exact q4.mono ev (.inl a6.1) (.inl a6.2) λ_ _ _ h=>h
          .rw[aaB 1.11]at hi
           obtain⟨x,M',q1,q2,q3⟩:=c6.get hi;have:M'=[]:=by simpa using q3
           subst this;refine⟨x,eZ (by rw[aaB 1.11,b9,←l1];exact q1),?_,by simp[clean,iw (g_ ds) hi,iC (h_ ds) hi]⟩;have:pick S1 js i=[]:=by unfold pick;rw[adC 1.11]
           rw[this];exact q2
         .unfold pick
          split
          .rename_i j hj'
           exfalso;obtain⟨dd,q1,q2⟩:=g1 i j hj';exact hi dd (eZ (by rw[aad (by rw[l1];exact(List.getElem?_eq_some_iff.mp hj').1)];exact q1))
          .rfl
         .unfold pick
          split
          .exact s1.nd _
          .exact aap
         .obtain⟨j1,e1,y1⟩:=ju h1
          obtain⟨j2,e2,y2⟩:=ju h2;have:=s1.dj j1 j2 a y1 y2;rw[this,←e2]at e1;exact(abG (by
           cases hh:js[i]? with
           |none=>rw[hh,e2]at e1;cases e1
           |some _=>exact(List.getElem?_eq_some_iff.mp hh).1) hj).mp e1
         .rcases Y.2.1 with y|⟨i,y⟩
          .exact s1.fdm a (.inr y)
          .exact s1.mu y
        refine⟨os++fzL ds,pick S1 js,a4,sc,λi hi=>?_,d1,a2,h3,λv H2 Mc Sc O r2 c2 n2 c0 m2=>?_⟩
        .unfold pick
         split
         .rename_i j hj'
          rw[hp i (List.getElem?_eq_some_iff.mp hj').1]at hi;cases hi
         .rfl
        .have l2:a2.length=(os++fzL ds).length:=by
          have h1:=O.len;have h2:=sc.len;simp![ZL]at h1 h2;rw[h1,←h2]
         have kept:∀b u,H1 b=some u->¬inS (pick S1 js) b->H2 b=some u:=λb u U n=>m2.kp b u U n (by simp);have a3:∀{i b},b∈Sc i->inS (pick S1 js) b∨H1 b=none:=λ{i b} z=>(m2.gr i b z).imp id λy=>y.resolve_left (by simp);have b7:∀{b},Fr b->¬inS (pick S1 js) b:=λ{b} z ⟨i,y⟩=>by obtain⟨j,_,y⟩:=ju y;exact s1.fdj j b (.inr z) y
         have a0:∀{j b},j∉js->b∈S1 j->¬inS (pick S1 js) b:=λ{j b} hn z ⟨i,y⟩=>by
          obtain⟨k,e,y⟩:=ju y;rw[s1.dj j k b z y]at hn;exact hn (Z2 e)
         have b8:∀{i b},b∈S1 i->H1 b≠none:=λ{i b} z y=>by obtain⟨o,B,_⟩:=s1.mu z;rw[y]at B;cases B
         have ev:Evo H1 H2 (wn ob S1 1.31) (wn ob (back S1 js Sc) (plus Mc Fr)):=by
          refine⟨λb u U f=>?_,λb xs h=>?_⟩
          .have n1:¬inS (pick S1 js) b:=λz=>f.2.2 (a1 z)
           have n2:∀i,b∉back S1 js Sc i:=λi z=>by
            rcases lU z with⟨k,_,y⟩|⟨_,y⟩
            .rcases a3 y with y|y
             .exact n1 y
             .rw[U]at y;cases y
            .exact b3 y f
           refine⟨kept b u U n1,λz=>?_,λ⟨i,_,z⟩=>n2 i z,λ⟨i,_,z⟩=>n2 i z⟩;rcases z with z|z
           .rcases c0 b z with y|y
            .exact n1 y
            .rw[U]at y;cases y
           .exact f.1 (.inr z)
          .have no:∀u,H1 b=some u->muO u=false->H2 b=some u:=λu J mu=>kept b u J λ⟨i,z⟩=>by
            obtain⟨j,_,z⟩:=ju z;obtain⟨o,B,hm⟩:=s1.mu z;rw[J]at B;cases B;rw[mu]at hm;cases hm
           exact no _ h rfl
         have conv:∀(e:D)(x:V)(L:List Addr),(az ds=true∨bu e=true)->clean e=true->Rep G H2 (wn oc Sc (plus Mc a4)) e x L->Rep G H2 (wn ob (back S1 js Sc) (plus Mc Fr)) e x L:=λe x L Z b4 r=>by
          rcases Z with Z|Z
          .have a6:=(by simpa[clean]using b4:aC e=true/\aB e=true)
           have c8:Evo H2 H2 (wn oc Sc (plus Mc a4)) (wn ob (back S1 js Sc) (plus Mc Fr)):=⟨λb u U f=>?_,λ_ _ h=>h⟩
           .exact r.mono c8 (.inl a6.1) (.inl a6.2) λ_ _ _ h=>h
           .have nSc:∀i,b∉Sc i:=λi z=>by
             cases a9:oc i with
             |false=>exact f.2.1 ⟨i,a9,z⟩
             |true=>exact f.2.2 ⟨i,a9,z⟩
            have nb:∀j,b∉back S1 js Sc j:=λj z=>by
             rcases lU z with⟨k,_,y⟩|⟨hn,y⟩
             .exact nSc k y
             .exact f.1 (.inr ⟨Z,.inr ⟨j,y⟩,a0 hn y⟩)
            refine⟨U,λz=>?_,λ⟨i,_,z⟩=>nb i z,λ⟨i,_,z⟩=>nb i z⟩;rcases z with z|z
            .exact f.1 (.inl z)
            .exact f.1 (.inr ⟨Z,.inl z,b7 z⟩)
          .exact r.own Z
         have d4:∀(j:Nat)(d0:D),(gm js a2 ρ1)[j]? =some (some d0)->∃v,σ[j]? =some (some v)/\Rep G H2 (wn ob (back S1 js Sc) (plus Mc Fr)) d0 v (back S1 js Sc j)/\clean d0=true:=λj d0 a7=>by
          by_cases a5:j∈js
          .obtain⟨k,I⟩:=aak.mp a5
           have c7:k<js.length:=(List.getElem?_eq_some_iff.mp I).1;obtain⟨dd,q1,q2⟩:=g1 k j I;have c1:j<ρ1.length:=(List.getElem?_eq_some_iff.mp q2).1;have b2:k<a2.length:=by rw[l2,aaP];omega
           rw[wH hj I (d:=a2[k]) (by simp[b2]) c1]at a7;cases a7;obtain⟨v,q3,q4,q5⟩:=O.sl k a2[k] (eZ (by simp[b2]));have q3:=jK q3;rw[aad 1.11]at q3;refine⟨v,c5 k j v I q3,?_,q5⟩;rw[Rh hj I];refine conv _ _ _ (b4.imp id λz=>zM z.2 (by simp[b2]) c7) q5 q4
          .rw[rK a5]at a7
           obtain⟨v,q1,q2,q3⟩:=s1.sl j d0 a7;have a6:=(by simpa[clean]using q3:aC d0=true/\aB d0=true);refine⟨v,q1,?_,q3⟩;rw[zL a5];exact q2.mono ev (.inl a6.1) (.inl a6.2) λc Z u J=>kept c u J (a0 a5 Z)
         refine q v H2 Mc (back S1 js Sc) ⟨?_,d4,?_,?_,?_,?_,?_⟩ (conv _ _ _ (b4.imp id λz=>z.1) c2 r2) n2 ?_
         .rw[yM];exact s1.len
         .intro j a7
          by_cases a5:j∈js
          .obtain⟨k,I⟩:=aak.mp a5
           obtain⟨dd,q1,q2⟩:=g1 k j I;have c1:j<ρ1.length:=(List.getElem?_eq_some_iff.mp q2).1;have c7:k<js.length:=(List.getElem?_eq_some_iff.mp I).1;have b2:k<a2.length:=by rw[l2,aaP];omega
           exact absurd (wH hj I (d:=a2[k]) (by simp[b2]) c1) (a7 _)
          .rw[zL a5]
           exact s1.em j λd0=>by have:=a7 d0;rwa[rK a5]at this
         .intro j
          unfold back;split
          .exact O.nd _
          .exact s1.nd j
         .intro i k a y1 y2
          rcases lU y1 with⟨i1,e1,z1⟩|⟨e1,z1⟩<;>rcases lU y2 with⟨i2,e2,z2⟩|⟨e2,z2⟩
          .have:=O.dj i1 i2 a z1 z2
           rw[this,e2]at e1;exact(aaD e1).symm
          .rcases a3 z1 with y|y
           .exact absurd y (a0 e2 z2)
           .exact absurd y (b8 z2)
          .rcases a3 z2 with y|y
           .exact absurd y (a0 e1 z1)
           .exact absurd y (b8 z1)
          .exact s1.dj i k a z1 z2
         .intro j a Y z
          rcases lU z with⟨i,_,y⟩|⟨hn,y⟩
          .rcases Y with Y|Y
           .exact O.fdj i a (.inl Y) y
           .rcases a3 y with y|y
            .exact b7 Y y
            .obtain⟨o,B,_⟩:=s1.fdm a (.inr Y)
             rw[y]at B;cases B
          .rcases Y with Y|Y
           .rcases c0 a Y with y'|y'
            .exact a0 hn y y'
            .exact b8 y y'
           .exact s1.fdj j a (.inr Y) y
         .intro a Y
          rcases Y with Y|Y
          .exact r2.dom a Y
          .obtain⟨o,B,hm⟩:=s1.fdm a (.inr Y)
           exact⟨o,kept a o B (b7 Y),hm⟩
         .have ef2:Eff ob H1 H2 S1 (back S1 js Sc) Mc:=by
           refine⟨λb u U n=>kept b u U λz=>n (a1 z),λi hi=>zL (λz=>by rw[B i z]at hi;cases hi),λi a hi z=>?_,λa Y=>(c0 a Y).imp (λy=>a1 y) id⟩;rcases lU z with⟨k,_,y⟩|⟨_,y⟩
           .exact(a3 y).imp (λy=>a1 y) id
           .exact .inl ⟨i,hi,y⟩
          exact(c4.trans ef2).same (Same.refl _) λc Z=>.inl (W2 _ Z)
       .cases e
     .cases e
 .cases e
theorem eO(js:List Nat){oc:Nat->Bool}{F:List D->Option (D×List D)}(C:∀c,Cal (X c).prog (X c).w (X c).K (X c).mg (X c).base k x ps (spI G oc pr F))(O:∀c,gq k (X c).A)(Y:PVM X G ob (e::es) js f)(U:js.Nodup:=by decide)(B:∀j∈js,ob j=true:=by decide)(J:∀i,i<js.length->pr i=true:=by decide)(q:∀c,Gl (X c) x:=by intro _;rfl)(z:(x==("__debug__":Str))=false:=by decide)(V:∀c,ZK (e::es) (X c).env=(false,eval e (X c).env)::ZK es (X c).env:=by intro _;rfl)(I:∀c,(aaH pos (ZK es (X c).env)).any (·.1)=false:=by intro _;rfl) :
 PVe X G ob (.Call (.Name x p) (e::es) [] pos) (eIo F js f):=let⟨t,a1,a2⟩:=Y.ex;⟨_,λc=>Ms (C c) (O c) (q c) (a1 c) z (V c) (I c),KC U B J a2⟩
def kids:D->List D
 |.tup ds=>ds
 |.lst _ ds=>ds
 |.dct _ _ ds=>ds
 |.ins _ _ _ ds=>ds
 |_=>[]
def ur:D->List D->D
 |.tup _,es=>.tup es
 |.lst m _,es=>.lst m es
 |.dct m ks _,es=>.dct m ks es
 |.ins m c fs _,es=>.ins m c fs es
 |d,_=>d
def cV:List Nat->D->Option D
 |[],d=>some d
 |j::p,d=>((kids d)[j]?).bind (cV p)
def dz:List Nat->D->D->D
 |[],e,_=>e
 |j::p,e,d=>match(kids d)[j]? with
  |some c=>ur d ((kids d).set j (dz p e c))
  |none=>d
theorem Evo.trans{H1:Hp}{W1:Wn}(a:Evo H H1 W W1)(b:Evo H1 H2 W1 U):Evo H H2 W U:=⟨λc u h f=>let⟨h1,f1⟩:=a.k c u h f;b.k c u h1 f1,λc xs h=>b.t c xs (a.t c xs h)⟩
structure Foc(G:Gc)(H:Hp)(W:Wn)(d0:D)(v0:V)(L:List Addr)(p:List Nat)(d:D)(v:V)(M:List Addr):Prop where
 r:Rep G H W d v M
 b:∃A B,L=A++(M++B)/\∀H' W' d' M',Evo H H' W W'->(∀c∈A++B,∀u,H c=some u->H' c=some u)->Rep G H' W' d' v M'->Rep G H' W' (dz p d' d0) v0 (A++(M'++B))
theorem Foc.nil(r:Rep G H W d v L):Foc G H W d v L [] d v L:=⟨r,[],[],by simp,λH' W' d' M' _ _ h=>by simpa[dz]using h⟩
variable{p:List Nat}{d0:D}
theorem Foc.mono{H1:Hp}{W1:Wn}{q:V}(f:Foc G H W d0 q L p d v M)(Z:clean d=true∨Up H H1 W W1)(e:Evo H H1 W W1)(k:∀c∈L,∀u,H c=some u->H1 c=some u):Foc G H1 W1 d0 q L p d v M:=by
 obtain⟨A,B,I,U⟩:=f.b;refine⟨?_,A,B,I,λH' W' d' M' Y O F=>U H' W' d' M' (e.trans Y) (λc Z u J=>O c Z u (k c ?_ u J)) F⟩
 .rcases Z with Z|Z
  .have hcc:=(by simpa[clean]using Z:aC d=true/\aB d=true)
   exact f.r.mono e (.inl hcc.1) (.inl hcc.2) λc Z u J=>k c (by rw[I];simp[Z]) u J
  .exact f.r.up Z
 .rw[I]
  simp![Zy]at Z⊢;rcases Z with z|z<;>simp[z]
theorem Oo(p:List Nat)(j:Nat)(e:D):∀(d0:D){d:D},cV p d0=some d->(kids d)[j]?≠none->dz (p++[j]) e d0=dz p (dz [j] e d) d0:=by
 induction p with
 |nil=>intro d0 d h _;cases h;rfl
 |cons k p B=>
  intro d0 d h hn;simp![cV]at h;cases h1:(kids d0)[k]? with
  |none=>simp[h1]at h
  |some c=>
   have h:cV p c=some d:=by simpa[h1]using h
   rw[Z_,dz,dz,h1];simp only;rw[B c h hn]
theorem B_(p:List Nat)(j:Nat):∀(d0:D){d:D},cV p d0=some d->cV (p++[j]) d0=(kids d)[j]?:=by
 induction p with
 |nil=>
  intro d0 d h;cases h;simp![List.nil_append,cV];cases (kids d0)[j]?<;>rfl
 |cons k p B=>
  intro d0 d h;simp![cV]at h;cases h1:(kids d0)[k]? with
  |none=>simp[h1]at h
  |some c=>
   have h:cV p c=some d:=by simpa[h1]using h
   rw[Z_,cV,h1];exact B c h
theorem mj(h:clean (.lst m ds)=true):az ds=true/\aA ds=true:=by simp[clean,aC,aB]at h;exact⟨h.1.2,h.2.2⟩
theorem bR{a b:List D}:az (a++b)=(az a&&az b):=by
 induction a with
 |nil=>rfl
 |cons d r B=>rw[Z_,az,az,B,agn]
theorem bQ{a b:List D}:aA (a++b)=(aA a&&aA b):=by
 induction a with
 |nil=>rfl
 |cons d r B=>rw[Z_,aA,aA,B,agn]
variable{c:D}
theorem aF.kid(O:aF G H W ds xs L)(U:az ds=true)(ho:aA ds=true)(e:ds[j]? =some c) :
  ∃x A M B,xs[j]? =some x/\L=A++(M++B)/\Rep G H W c x M/\∀H' W' d' M',Evo H H' W W'->(∀b∈A++B,∀u,H b=some u->H' b=some u)->Rep G H' W' d' x M'->aF G H' W' (ds.set j d') xs (A++(M'++B)):=by
 obtain⟨P,Q,x,ys,zs,z,M1,Y,rfl,q,rfl,a0,rfl,h1,h2,Z⟩:=O.at e;simp![bR,bQ,az,aA,aal]at U ho;refine⟨x,z,M1,Y,by rw[aaB 1.11,a0,acb];rfl,rfl,h2,λH' W' d' M' I kp F=>?_⟩;rw[←q,acE _ _ (ZQ _),acb];exact aF.append (h1.mono I (.inl U.1) (.inl ho.1) λb U u J=>kp b (ZJ _ U) u J) (aF.cons F (Z.mono I (.inl U.2.2) (.inl ho.2.2) λb U u J=>kp b (W2 _ U) u J))
theorem Foc.lst{ds:List D}(r:Rep G H W (.lst .own ds) v L)(Z:clean (.lst .own ds)=true)(e:ds[j]? =some c):∃a xs x M,v= .ref a/\H a=some (.lst xs)/\xs.length=ds.length/\xs[j]? =some x/\Foc G H W (.lst .own ds) v L [j] c x M:=by
 rw[Rep]at r;obtain⟨a,xs,N,rfl,O,Y,rfl⟩:=r;obtain⟨h1,h2⟩:=mj Z;obtain⟨x,A,M,B,J,rfl,rx,U⟩:=O.kid h1 h2 e;refine⟨a,xs,x,M,rfl,Y,O.length.symm,J,rx,a::A,B,by simp,λH' W' d' M' I kp F=>?_⟩;have q:dz [j] d' (.lst .own ds)= .lst .own (ds.set j d'):=by simp![dz,kids,e,ur]
 rw[q,Rep];exact⟨a,xs,A++(M'++B),rfl,U H' W' d' M' I (λb U u z=>kp b (aaf _ U) u z) F,kp a (by simp) _ Y,by simp⟩
theorem Foc.tup{ds:List D}(r:Rep G H W (.tup ds) v L)(Z:clean (.tup ds)=true)(e:ds[j]? =some c):∃a xs x M,v= .ref a/\H a=some (.tup xs)/\xs.length=ds.length/\xs[j]? =some x/\Foc G H W (.tup ds) v L [j] c x M:=by
 rw[Rep]at r;obtain⟨a,xs,rfl,Y,O⟩:=r;have q:az ds=true/\aA ds=true:=by simpa[clean,aC,aB]using Z
 obtain⟨x,A,M,B,J,rfl,rx,U⟩:=O.kid q.1 q.2 e;refine⟨a,xs,x,M,rfl,Y,O.length.symm,J,rx,A,B,rfl,λH' W' d' M' I kp F=>?_⟩;have z:dz [j] d' (.tup ds)= .tup (ds.set j d'):=by simp![dz,kids,e,ur]
 rw[z,Rep];exact⟨a,xs,rfl,I.t a xs Y,U H' W' d' M' I kp F⟩
variable{ks:List Key}
theorem Foc.dct(r:Rep G H W (.dct .own ks ds) v L)(Z:clean (.dct .own ks ds)=true)(e:ds[j]? =some c):∃a kvs x M,v= .ref a/\H a=some (.dK kvs)/\(kvs.map (·.1)=ks/\ks.Nodup)/\(kvs.map (·.2))[j]? =some x/\Foc G H W (.dct .own ks ds) v L [j] c x M:=by
 rw[Rep]at r;obtain⟨a,kvs,N,rfl,I,O,Y,rfl⟩:=r;have q:az ds=true/\aA ds=true:=by simp[clean,aC,aB]at Z;exact Z
 obtain⟨x,A,M,B,J,rfl,rx,U⟩:=O.kid q.1 q.2 e;refine⟨a,kvs,x,M,rfl,Y,I,J,rx,a::A,B,by simp,λH' W' d' M' V kp F=>?_⟩;have z:dz [j] d' (.dct .own ks ds)= .dct .own ks (ds.set j d'):=by simp![dz,kids,e,ur]
 rw[z,Rep];exact⟨a,kvs,A++(M'++B),rfl,I,U H' W' d' M' V (λb U u hu=>kp b (aaf _ U) u hu) F,kp a (by simp) _ Y,by simp⟩
theorem Foc.ins{cl:Str}{fs:List Str}{ds:List D}(r:Rep G H W (.ins .own cl fs ds) v L)(Z:clean (.ins .own cl fs ds)=true)(e:ds[j]? =some c):∃a C dx kvs x M,v= .ref a/\G.mg cl=some (.ref C)/\H a=some (.ins C dx kvs)/\kvs.map (·.1)=fs/\(kvs.map (·.2))[j]? =some x/\Foc G H W (.ins .own cl fs ds) v L [j] c x M:=by
 rw[Rep]at r;obtain⟨a,C,dx,kvs,N,rfl,F,I,O,Y,rfl⟩:=r;have q:az ds=true/\aA ds=true:=by simp[clean,aC,aB]at Z;exact Z
 obtain⟨x,A,M,B,J,rfl,rx,U⟩:=O.kid q.1 q.2 e;refine⟨a,C,dx,kvs,x,M,rfl,F,Y,I,J,rx,a::A,B,by simp,λH' W' d' M' ev kp V=>?_⟩;have z:dz [j] d' (.ins .own cl fs ds)= .ins .own cl fs (ds.set j d'):=by simp![dz,kids,e,ur]
 rw[z,Rep];exact⟨a,C,dx,kvs,A++(M'++B),rfl,F,I,U H' W' d' M' ev (λb U u hu=>kp b (aaf _ U) u hu) V,kp a (by simp) _ Y,by simp⟩
theorem Foc.trans{q x:V}{L0:List Addr}(f:Foc G H W d0 q L0 p d v L)(g:Foc G H W d v L [j] c x M)(F:cV p d0=some d)(hj:(kids d)[j]?≠none):Foc G H W d0 q L0 (p++[j]) c x M:=by
 obtain⟨A,B,hL,U⟩:=f.b;obtain⟨O,Y,Z,a0⟩:=g.b;refine⟨g.r,A++O,Y++B,by rw[hL,Z];simp,λH' W' d' M' I kp r'=>?_⟩;rw[Oo p j d' d0 F hj];have:=U H' W' (dz [j] d' d) (O++(M'++Y)) I (λb U u J=>kp b ?_ u J) (a0 H' W' d' M' I (λb U u J=>kp b ?_ u J) r')
 .simpa using this
 .simp![Zy]at U⊢
  rcases U with z|z<;>simp[z]
 .simp![Zy]at U⊢
  rcases U with z|z<;>simp[z]
def RfP(G:Gc)(ob:Nat->Bool)(t:TE)(i:Nat)(pf:En->Option (List Nat)):Prop:=∀(ρ:En)(p:List Nat),pf ρ=some p->∀(σ:L2.St)(H:Hp)(S:Ad)(Fr:Addr->Prop),Sta G H ob ρ σ S Fr->∃d0 d,ρ[i]? =some (some d0)/\cV p d0=some d/\∀Q:VK,
 (∀v q H' M,Same H H'->σ[i]? =some (some q)->Foc G H' (wn ob S Fr) d0 q (S i) p d v M->Q v H')->t σ H Q
structure PVP{ι:Type}(X:ι->Cx)(G:Gc)(ob:Nat->Bool)(e:Expr)(i:Nat)(pf:En->Option (List Nat)):Prop where
 mk::(ex:∃t,(∀c,PE (X c) e t)/\RfP G ob t i pf)
def bY(i:Nat):En->Option (List Nat):=λρ=>match ρ[i]? with
 |some (some _)=>some []
 |_=>none
theorem bK(i:Nat)(U:∀c,(X c).N[i]? =some x:=by intro _;rfl)(B:∀c,Vis (X c).env.scope x:=by intro _;first|exact abf rfl|exact aaQ (abf rfl)|exact aaQ (aaQ rfl))(hd:(x==("__debug__":Str))=false:=by decide)
  (z:(x==("__classdict__":Str))=false:=by decide):PVP X G ob (.Name x pos) i (bY i):=by
 refine⟨_,λc=>pv i (U c) (B c) hd z,λρ p e σ H S Fr s=>?_⟩;unfold bY at e;split at e
 .rename_i d h1
  cases e;obtain⟨v,h2,Z,V⟩:=s.sl i d h1;exact⟨d,d,h1,rfl,λQ q=>⟨v,h2,q v v H _ (Same.refl H) h2 (.nil Z)⟩⟩
 .cases e
theorem o4:∀{p:List Nat}{d:D},clean d0=true->cV p d0=some d->clean d=true:=by
 intro p
 induction p generalizing d0 with
 |nil=>intro d h e;cases e;exact h
 |cons j p B=>
  intro d h e;simp![cV]at e;cases h1:(kids d0)[j]? with
  |none=>simp[h1]at e
  |some c=>
   have e:cV p c=some d:=by simpa[h1]using e
   refine B ?_ e;have I:az (kids d0)=true/\aA (kids d0)=true:=by
    cases d0<;>simp[kids,clean,aC,aB,az,aA]at h h1⊢<;>(try exact h)<;>exact⟨h.1.2,h.2.2⟩
   simp[clean,iw I.1 h1,iC I.2 h1]
def cW:D->Option Key
 |.int i=>some (.inl i)
 |.str x=>some (.inr x)
 |_=>none
def dw(ks:List Key)(k:Key):Option Nat:=ks.findIdx? λx=>decide (x=k)
def ixP:D->D->Option Nat
 |.lst .own ds,.int i=>ixN ds.length i
 |.tup ds,.int i=>ixN ds.length i
 |.dct .own ks ds,k=>(cW k).bind λk=>(dw ks k).bind λj=>if j<ds.length then some j else none
 |_,_=>none
def jC(i:Nat)(pf:En->Option (List Nat))(fk:En->Option D):En->Option (List Nat):=λρ=>(pf ρ).bind λp=>(fk ρ).bind λk=>match ρ[i]? with
 |some (some d0)=>(cV p d0).bind λd=>(ixP d k).bind λj=>if j<(kids d).length then some (p++[j])else none
 |_=>none
def Qy:R2:=λx y H Q=>∃a v,x= .ref a/\qu H a y (some v)/\Q v H
variable{Y:Cx}
theorem Qz(J:Y.A.units+1<cLine):IxR Y Qy:=by
 intro value D pins s σ H x y v u Q I rx U h B;obtain⟨a,z,rfl,g,q⟩:=h;cases rx;exact tail_any (Cr I g) PySem.F.slot_dict_getitem.lookup (yE J I g U λZ s3 V O=>⟨z,H,V,O,q⟩) B
theorem Nk(J:Y.A.units+1<cLine):IxR Y (λx y H Q=>rIx Y.K x y H Q∨Qy x y H Q):=Vv.or (Qz J)
theorem iU:∀{kvs:List (Key×V)}{k:Key}{j:Nat},dw (kvs.map (·.1)) k=some j->iQ kvs k=(kvs.map (·.2))[j]?
 |[],k,j,h=>by simp[dw]at h
 |(k0,v)::r,k,j,h=>by
  simp![ZF,dw,abw]at h;by_cases e:k0=k
  .subst e
   simp at h;subst h;simp[iQ]
  .rw[aaa e]at h
   simp![aaj,aaN]at h;cases h1:(r.map (·.1)).findIdx? (λx=>decide (x=k))with
   |none=>rw[h1]at h;cases h
   |some i=>
    rw[h1]at h;have:i+1=j:=by simpa using h
    subst this;have B:=iU (kvs:=r) (k:=k) (j:=i) h1;simp![iQ,abE,aaa e,ZF,aam];exact B
theorem tM:∀{kvs:List (Key×V)}{k:Key},dw (kvs.map (·.1)) k=none->iQ kvs k=none
 |[],k,h=>rfl
 |(k0,v)::r,k,h=>by
  simp![ZF,dw,abw]at h;by_cases e:k0=k
  .subst e
   simp at h
  .rw[aaa e]at h
   simp![aaj,aaN]at h;have h1:(r.map (·.1)).findIdx? (λx=>decide (x=k))=none:=by
    cases h1:(r.map (·.1)).findIdx? (λx=>decide (x=k))with
    |none=>rfl
    |some i=>rw[h1]at h;cases h
   have B:=tM (kvs:=r) (k:=k) h1;simp![iQ,abE,aaa e];exact B
theorem iR{k:Key}(r:Rep G H W d v L)(h:cW d=some k):v=kV k:=by
 cases d<;>simp[cW]at h<;>subst h<;>rw[Rep]at r<;>exact r.1
variable{pf:En->Option (List Nat)}{fk:En->Option D}
theorem PQ{to ti:TE}(B:RfP G ob to i0 pf)(hi:RfE G ob ti fk):RfP G ob (tOp (λx y H Q=>rIx G.K x y H Q∨Qy x y H Q) to ti) i0 (jC i0 pf fk):=λρ p e σ H S Fr s=>by
 unfold jC at e;cases h1:pf ρ with
 |none=>simp[h1]at e
 |some p0=>
  cases h2:fk ρ with
  |none=>simp[h1,h2]at e
  |some k=>
   rw[h1,h2]at e;simp![Hq]at e;split at e
   .rename_i d0 h3
    cases V:cV p0 d0 with
    |none=>simp[V]at e
    |some d=>
     cases h5:ixP d k with
     |none=>simp[V,h5]at e
     |some j=>
      by_cases h6:j<(kids d).length
      .obtain rfl:p0++[j]=p:=by simpa[V,h5,h6]using e
       obtain⟨a8,d',g1,g2,g3⟩:=B ρ p0 h1 σ H S Fr s;rw[h3]at g1;cases g1;rw[V]at g2;cases g2;have a1:clean d=true:=o4 (let⟨_,_,_,h⟩:=s.sl i0 d0 h3;h) V;refine⟨d0,(kids d)[j],h3,by rw[B_ p0 j d0 V,Z0 h6],λQ q=>?_⟩;refine g3 _ λv v0 H1 M F a7 a5=>?_;have a3:Sta G H1 ob ρ σ S Fr:=s.grow F λa z=>.inl z;refine hi ρ k h2 σ H1 _ a3.rel a3.wok _ λy H2 L2 s2 U fy ny=>?_;have up:Up H1 H2 (wn ob S Fr) (wn ob S Fr):=Up.same s2;have a0:=a5.mono (.inr up) up.evo λc _ u hu=>s2 c u hu;have hj:(kids d)[j]? =some (kids d)[j]:=Z0 h6;have a2:∀x M',Foc G H2 (wn ob S Fr) d v M [j] (kids d)[j] x M'->Q x H2:=λx M' f=>q x v0 H2 M' (F.trans s2) a7 (a0.trans f V (by rw[hj];simp));cases d with
       |lst m ds=>
        cases m<;>(try(simp[ixP]at h5));cases k<;>(try(simp[ixP]at h5));rename_i n;rw[Rep]at U;obtain⟨a,xs,x,M',rfl,Y,O,J,f⟩:=Foc.lst a0.r a1 hj;refine .inl (.inl ⟨a,xs,n,x,rfl,U.1,SqL.of Y,?_,a2 x M' f⟩);unfold atI;rw[O,h5];exact J
       |tup ds=>
        cases k<;>(try(simp[ixP]at h5));rename_i n;rw[Rep]at U;obtain⟨a,xs,x,M',rfl,Y,O,J,f⟩:=Foc.tup a0.r a1 hj;refine .inl (.inr (.inl ⟨a,xs,n,x,rfl,U.1,SqT.of Y,?_,a2 x M' f⟩));unfold atI;rw[O,h5];exact J
       |dct m ks ds=>
        cases m<;>(try(simp[ixP]at h5));cases I:cW k with
        |none=>simp[I]at h5
        |some kk=>
         cases J:dw ks kk with
         |none=>simp[I,J]at h5
         |some j'=>
          have:j'=j:=by
           have:=h5;simp[I,J]at this;exact this.2
          subst this;obtain⟨a,kvs,x,M',rfl,Y,a6,a4,f⟩:=Foc.dct a0.r a1 hj;refine .inr ⟨a,x,rfl,?_,a2 x M' f⟩;have:=iR U I;subst this;have Z:=iU (kvs:=kvs) (k:=kk) (j:=j') (by rw[a6.1];exact J);rw[a4]at Z;rw[←Z];exact qu.k Y
       |_=>simp[ixP]at h5
      .simp[V,h5,h6]at e
   .cases e
theorem zz{o i:Expr}{I:Nat}(J:∀c,(X c).A.units+1<cLine)(q:PVP X G ob o I pf)(hi:PV X G ob i fk)(B:uI i:=by exact λ_ _=>rfl)(F:∀c,(X c).K=G.K:=by intro _;rfl):PVP X G ob (.Subscript o i pos) I (jC I pf fk):=let⟨t,a1,a2⟩:=q.ex;let⟨u,b1,b2⟩:=hi.ex;⟨_,λc=>(by rw[←F c];exact JW (Nk (J c)) (a1 c) (b1 c) B),PQ a2 b2⟩
def MuV(G:Gc)(r:V->List V->Hp->VK->Prop)(op:D->List D->Option (D×D)):Prop:=∀(d:D)(es:List D)(d' res:D),op d es=some (d',res)->∀(v:V)(xs:List V)(H:Hp)(W:Wn)(M N:List Addr),Rep G H W d v M->aF G H W es xs N->(M++N).Nodup->(∀a∈M,¬W.free a)->
 clean d=true->az es=true->aA es=true->∀Q:VK,(∀x H' M' R,(∀b u,H b=some u->b∉M->H' b=some u)->(∀W',Evo H H' W W'->Rep G H' W' d' v M'/\Rep G H' W' res x R)->(M'++R).Nodup->(∀a∈M'++R,a∈M∨a∈N∨H a=none)->clean d'=true->clean res=true->Q x H')->r v xs H Q
theorem Gb{e:D}:∀{p:List Nat},clean d0=true->clean e=true->clean (dz p e d0)=true:=by
 intro p
 induction p generalizing d0 with
 |nil=>intro _ h;exact h
 |cons j p B=>
  intro h V;simp![dz];cases h1:(kids d0)[j]? with
  |none=>exact h
  |some c=>
   have Z:clean c=true:=o4 (p:=[j]) h (by simp[cV,h1]);have:=B (d0:=c) Z V;have q:∀{ds:List D}{j:Nat}{x:D},az ds=true->aA ds=true->clean x=true->az (ds.set j x)=true/\aA (ds.set j x)=true:=λ{ds}=>by
    induction ds with
    |nil=>intro j x a b _;simp[a,b]
    |cons y r z=>
     intro j x a b F;simp![az,aA,aal]at a b;have I:=(by simpa[clean]using F:aC x=true/\aB x=true);cases j with
     |zero=>simp[az,aA,I,a,b]
     |succ j=>simp![aaZ,az,aA,aal];exact⟨⟨a.1,(z a.2 b.2 F).1⟩,⟨b.1,(z a.2 b.2 F).2⟩⟩
   cases d0<;>simp![kids,List.getElem?_nil]at h1<;>(try cases h1)<;>simp![ur,kids]<;>simp[clean,aC,aB]at h⊢
   .exact⟨(q h.1 h.2 this).1,(q h.1 h.2 this).2⟩
   .exact⟨⟨h.1.1,(q h.1.2 h.2.2 this).1⟩,h.2.1,(q h.1.2 h.2.2 this).2⟩
   .exact⟨⟨h.1.1,(q h.1.2 h.2.2 this).1⟩,h.2.1,(q h.1.2 h.2.2 this).2⟩
   .exact⟨⟨h.1.1,(q h.1.2 h.2.2 this).1⟩,h.2.1,(q h.1.2 h.2.2 this).2⟩
variable{res:D}
theorem Sta.mut{Fr:Addr->Prop}{d':D}{v0 x:V}{N M' R:List Addr}(s:Sta G H ob ρ σ S (plus N Fr))(e:ρ[i]? =some (some d0))(b3:σ[i]? =some (some v0))(b2:Foc G H (wn ob S (plus N Fr)) d0 v0 (S i) p d v M)
  (hF:∀a∈N,¬Fr a) (kp:∀b u,H b=some u->b∉M->H' b=some u) (O:∀W',Evo H H' (wn ob S (plus N Fr)) W'->Rep G H' W' d' v M'/\Rep G H' W' res x R) (nd:(M'++R).Nodup) (gr:∀a∈M'++R,a∈M∨a∈N∨H a=none) (Z:clean d'=true) :
  ∃S',Sta G H' ob (ρ.set i (some (dz p d' d0))) σ S' (plus R Fr)/\Rep G H' (wn ob S' (plus R Fr)) res x R/\(∀j,j≠i->S' j=S j)/\(∀a∈S' i,a∈S i∨a∈N∨H a=none)/\(∀a∈R,a∈S i∨a∈N∨H a=none)/\(∀b u,H b=some u->b∉S i->H' b=some u):=by
 obtain⟨A,B,hL,U⟩:=b2.b;have a7:i<ρ.length:=(List.getElem?_eq_some_iff.mp e).1;have a1:∀a∈M,a∈S i:=λa Y=>by rw[hL];simp[Y]
 have a2:∀a∈A++B,a∈S i/\a∉M:=λa Y=>by
  have hn:=s.nd i;rw[hL]at hn;have h1:=ZZ.mp hn;have h2:=ZZ.mp h1.2.1;rcases Zy.mp Y with z|z
  .exact⟨by rw[hL];simp[z],λy=>h1.2.2 a z a (by simp[y]) rfl⟩
  .exact⟨by rw[hL];simp[z],λy=>h2.2.2 a y a z rfl⟩
 have a9:∀a∈M'++R,∀j,j≠i->a∉S j:=λa Y j F z=>by
  rcases gr a Y with y|y|y
  .exact F (s.dj j i a z (a1 a y))
  .exact s.fdj j a (.inl y) z
  .obtain⟨o,ho,_⟩:=s.mu z;rw[y]at ho;cases ho
 have b4:∀a∈M'++R,¬Fr a:=λa Y z=>by
  rcases gr a Y with y|y|y
  .exact s.fdj i a (.inr z) (a1 a y)
  .exact hF a y z
  .obtain⟨o,ho,_⟩:=s.fdm a (.inr z);rw[y]at ho;cases ho
 have a3:∀a∈M'++R,a∉A++B:=λa Y z=>by
  obtain⟨z1,z2⟩:=a2 a z;rcases gr a Y with y|y|y
  .exact z2 y
  .exact s.fdj i a (.inl y) z1
  .obtain⟨o,ho,_⟩:=s.mu z1;rw[y]at ho;cases ho
 let S':=gf S i (A++(M'++B))
 have a5:∀a∈S' i,a∈S i∨a∈N∨H a=none:=λa Y=>by
  have Y:a∈gf S i (A++(M'++B)) i:=Y;rw[cQ]at Y;simp![Zy]at Y;rcases Y with z|z|z
  .exact .inl (a2 a (ZJ _ z)).1
  .exact(gr a (ZJ _ z)).imp (a1 a) id
  .exact .inl (a2 a (W2 _ z)).1
 have a6:∀b u,H b=some u->(wn ob S (plus N Fr)).free b->H' b=some u/\(wn ob S' (plus R Fr)).free b:=λb u U f=>by
  have nS:∀j,b∉S j:=λj z=>by
   cases ho:ob j with
   |false=>exact f.2.1 ⟨j,ho,z⟩
   |true=>exact f.2.2 ⟨j,ho,z⟩
  have b0:∀j,b∉S' j:=λj z=>by
   by_cases F:j=i
   .subst F
    rcases a5 b z with y|y|y
    .exact nS j y
    .exact f.1 (.inl y)
    .rw[U]at y;cases y
   .have z:b∈gf S i (A++(M'++B)) j:=z
    rw[cI F]at z;exact nS j z
  refine⟨kp b u U λz=>nS i (a1 b z),λz=>?_,λ⟨j,_,z⟩=>b0 j z,λ⟨j,_,z⟩=>b0 j z⟩;rcases z with z|z
  .rcases gr b (W2 _ z)with y|y|y
   .exact nS i (a1 b y)
   .exact f.1 (.inl y)
   .rw[U]at y;cases y
  .exact f.1 (.inr z)
 have I:Evo H H' (wn ob S (plus N Fr)) (wn ob S' (plus R Fr)):=⟨a6,λb xs h=>by
  have no:∀u,H b=some u->muO u=false->H' b=some u:=λu J mu=>kp b u J λz=>by
   obtain⟨o,ho,hm⟩:=s.mu (a1 b z);rw[J]at ho;cases ho;rw[mu]at hm;cases hm
  exact no _ h rfl⟩
 obtain⟨r1,r2⟩:=O _ I;have a8:=ZZ.mp nd;refine⟨S',⟨by simp[s.len],λj dj F=>?_,λj F=>?_,λj=>?_,λj k a h1 h2=>?_,λj a h1 h2=>?_,λa Y=>?_⟩,r2,λj F=>cI F,a5,λa Y=>(gr a (W2 _ Y)).imp (a1 a) id,λb u U n=>kp b u U λz=>n (a1 b z)⟩
 .by_cases a0:j=i
  .subst a0
   have:dz p d' d0=dj:=by simpa[a7]using F
   subst this;have b1:clean d0=true:=let⟨_,_,_,h⟩:=s.sl j d0 e;h;refine⟨v0,b3,?_,Gb b1 Z⟩;show Rep G H' _ _ v0 (gf S j (A++(M'++B)) j);rw[cQ];exact U H' _ d' M' I (λc Z u J=>kp c u J (a2 c Z).2) r1
  .rw[List.getElem?_set_ne (aay a0)]at F
   obtain⟨w,q1,q2,q3⟩:=s.sl j dj F;have q:=(by simpa[clean]using q3:aC dj=true/\aB dj=true);refine⟨w,q1,?_,q3⟩;show Rep G H' _ dj w (gf S i (A++(M'++B)) j);rw[cI a0];exact q2.mono I (.inl q.1) (.inl q.2) λc Z u J=>kp c u J λz=>a0 (s.dj j i c Z (a1 c z))
 .by_cases a0:j=i
  .subst a0
   exact absurd (by simp[a7]) (F (dz p d' d0))
  .show gf S i (A++(M'++B)) j=[]
   rw[cI a0];exact s.em j λd1=>by have:=F d1;rwa[List.getElem?_set_ne (aay a0)]at this
 .by_cases a0:j=i
  .subst a0
   show(gf S j (A++(M'++B)) j).Nodup;rw[cQ];have hn:=s.nd j;rw[hL]at hn;have h1:=ZZ.mp hn;have h2:=ZZ.mp h1.2.1;refine fu h1.1 (fu a8.1 h2.2.1 λa Y z=>a3 a (ZJ _ Y) (W2 _ z)) λa Y z=>?_;rcases Zy.mp z with z|z
   .exact a3 a (ZJ _ z) (ZJ _ Y)
   .exact h1.2.2 a Y a (by simp[z]) rfl
  .show(gf S i (A++(M'++B)) j).Nodup
   rw[cI a0];exact s.nd j
 .have key:∀{j:Nat}{a:Addr},j≠i->a∈S j->a∈S' i->False:=λ{j a} F z1 z2=>by
   have z2:a∈gf S i (A++(M'++B)) i:=z2;rw[cQ]at z2;simp![Zy]at z2;rcases z2 with z|z|z
   .exact F (s.dj j i a z1 (a2 a (ZJ _ z)).1)
   .exact a9 a (ZJ _ z) j F z1
   .exact F (s.dj j i a z1 (a2 a (W2 _ z)).1)
  by_cases a0:j=i<;>by_cases a4:k=i
  .rw[a0,a4]
  .subst a0
   have h2:a∈gf S j (A++(M'++B)) k:=h2;rw[cI a4]at h2;exact(key a4 h2 h1).elim
  .subst a4
   have h1:a∈gf S k (A++(M'++B)) j:=h1;rw[cI a0]at h1;exact(key a0 h1 h2).elim
  .have h1:a∈gf S i (A++(M'++B)) j:=h1
   have h2:a∈gf S i (A++(M'++B)) k:=h2;rw[cI a0]at h1;rw[cI a4]at h2;exact s.dj j k a h1 h2
 .by_cases a0:j=i
  .subst a0
   have h2:a∈gf S j (A++(M'++B)) j:=h2;rw[cQ]at h2;simp![Zy]at h2;rcases h1 with h1|h1
   .rcases h2 with z|z|z
    .exact a3 a (W2 _ h1) (ZJ _ z)
    .exact a8.2.2 a z a h1 rfl
    .exact a3 a (W2 _ h1) (W2 _ z)
   .rcases h2 with z|z|z
    .exact s.fdj j a (.inr h1) (a2 a (ZJ _ z)).1
    .exact b4 a (ZJ _ z) h1
    .exact s.fdj j a (.inr h1) (a2 a (W2 _ z)).1
  .have h2:a∈gf S i (A++(M'++B)) j:=h2
   rw[cI a0]at h2;rcases h1 with h1|h1
   .exact a9 a (W2 _ h1) j a0 h2
   .exact s.fdj j a (.inr h1) h2
 .rcases Y with Y|Y
  .exact r2.dom a Y
  .obtain⟨o,ho,hm⟩:=s.fdm a (.inr Y)
   exact⟨o,kp a o ho λz=>s.fdj i a (.inr Y) (a1 a z),hm⟩
section
variable{ι:Type}{X:ι->Cx}{G:Gc}{ob P:Nat->Bool}
theorem kj{G:Gc}{r:V->List V->Hp->VK->Prop}{op:D->List D->Option (D×D)}{H:Hp}{ρ:En}{σ:L2.St}{S:Ad}{Fr:Addr->Prop}{i:Nat}{p:List Nat}{d0 d d' res:D}{v v0:V}{M N:List Addr}{es:List D}{xs:List V}(J:MuV G r op)(s:Sta G H ob ρ σ S (plus N Fr))(e:ρ[i]? =some (some d0))(U:σ[i]? =some (some v0))(F:cV p d0=some d)
  (I:Foc G H (wn ob S (plus N Fr)) d0 v0 (S i) p d v M) (re:aF G H (wn ob S (plus N Fr)) es xs N) (nd:N.Nodup) (hF:∀a∈N,¬Fr a) (c1:az es=true) (z:aA es=true) (h:op d es=some (d',res)) {Q:VK}
  (q:∀x H' R S',Sta G H' ob (ρ.set i (some (dz p d' d0))) σ S' (plus R Fr)->Rep G H' (wn ob S' (plus R Fr)) res x R->R.Nodup->clean res=true->(∀j,j≠i->S' j=S j)->(∀a∈S' i,a∈S i∨a∈N∨H a=none)->(∀a∈R,a∈S i∨a∈N∨H a=none)->(∀b u,H b=some u->b∉S i->H' b=some u)->Q x H'):r v xs H Q:=by
 have a0:abg M (S i):=by
  obtain⟨A,B,hL,_⟩:=I.b;rw[hL];exact(acd M B).trans (aby A _)
 have a3:clean d0=true:=let⟨_,_,_,h⟩:=s.sl i d0 e;h;refine J d es d' res h v xs H _ M N I.r re (fu (a0.nodup (s.nd i)) nd λa h1 h2=>s.fdj i a (.inl h2) (a0.subset h1)) (λa Y f=>?_) (o4 a3 F) c1 z Q λx H' M' R kp O Z gr a2 a1=>?_
 .cases ho:ob i with
  |false=>exact f.2.1 ⟨i,ho,a0.subset Y⟩
  |true=>exact f.2.2 ⟨i,ho,a0.subset Y⟩
 .obtain⟨S',q1,q2,q3,q4,q5,q6⟩:=s.mut e U I hF kp O Z gr a2
  exact q x H' R S' q1 q2 (ZZ.mp Z).2.1 a1 q3 q4 q5 q6
def upS(op:D->List D->Option (D×D))(i:Nat)(p:List Nat)(es:List D)(ρ:En):Option (D×En):=match ρ[i]? with
 |some (some d0)=>(cV p d0).bind λd=>if az es=true/\aA es=true then(op d es).map λq=>(q.2,ρ.set i (some (dz p q.1 d0)))else none
 |_=>none
theorem sr{op:D->List D->Option (D×D)}{i:Nat}{p:List Nat}{es:List D}{ρ I:En}{res:D}(h:upS op i p es ρ=some (res,I)):∃d0 d d',ρ[i]? =some (some d0)/\cV p d0=some d/\az es=true/\aA es=true/\op d es=some (d',res)/\I=ρ.set i (some (dz p d' d0)):=by
 unfold upS at h;split at h
 .rename_i d0 h1
  cases h2:cV p d0 with
  |none=>simp[h2]at h
  |some d=>
   by_cases Z:az es=true/\aA es=true
   .cases h3:op d es with
    |none=>simp[h2,Z,h3]at h
    |some q=>
     obtain⟨d',F⟩:=q;obtain⟨rfl,rfl⟩:F=res/\ρ.set i (some (dz p d' d0))=I:=by simpa[h2,Z,h3]using h
     exact⟨d0,d,d',h1,h2,Z.1,Z.2,h3,rfl⟩
   .simp[h2,Z]at h
 .cases h
def g8(op:D->List D->Option (D×D))(i:Nat)(pf:En->Option (List Nat))(f:En->Option (List D)):En->Option (D×En):=λρ=>(pf ρ).bind λp=>(f ρ).bind λes=>upS op i p es ρ
def fj(op:D->List D->Option (D×D))(i:Nat)(pf:En->Option (List Nat))(f:En->Option (List D)):En->Option Fl:=λρ=>(g8 op i pf f ρ).map λq=>.nx q.2
def HY(G:Gc)(T:String)(op:D->List D->Option (D×D)):Prop:=∀d es q,op d es=some q->∀(v:V)(H:Hp)(W:Wn)(L:List Addr),Rep G H W d v L->tyV G.K T v H
theorem KY{T:String}{r:V->List V->Hp->VK->Prop}{op:D->List D->Option (D×D)}{to:TE}{t:TA}{i:Nat}{pf:En->Option (List Nat)}{f:En->Option (List D)}(hm:MuV G r op)(ht:HY G T op)(B:RfP G ob to i pf)(Y:RfA G ob t f){ρ I:En}{res:D}(e:g8 op i pf f ρ=some (res,I))
  {σ:L2.St} {H:Hp} {S:Ad} {Fr:Addr->Prop} (s:Sta G H ob ρ σ S Fr) {Q:VK}
  (q:∀x H' R S',Sta G H' ob I σ S' (plus R Fr)->Rep G H' (wn ob S' (plus R Fr)) res x R->R.Nodup->clean res=true->(∀j,j≠i->S' j=S j)->(∀a∈S' i,a∈S i∨H a=none)->(∀a∈R,a∈S i∨H a=none)->(∀b u,H b=some u->b∉S i->H' b=some u)->Q x H'):tBM G.K T r to t σ H Q:=by
 unfold g8 at e;cases h1:pf ρ with
 |none=>simp[h1]at e
 |some p=>
  cases h2:f ρ with
  |none=>simp[h1,h2]at e
  |some es=>
   have e:upS op i p es ρ=some (res,I):=by simpa[h1,h2]using e
   obtain⟨d0,d,d',g1,g2,c1,c2,g3,rfl⟩:=sr e;obtain⟨a4,dd,k1,k2,k3⟩:=B ρ p h1 σ H S Fr s;rw[g1]at k1;cases k1;rw[g2]at k2;cases k2;refine k3 _ λv v0 H1 M F a3 a0=>⟨ht d es _ g3 v H1 _ M a0.r,?_⟩;have Z:Sta G H1 ob ρ σ S Fr:=s.grow F λa z=>.inl z;refine Y ρ es h2 σ H1 _ Z.rel Z.wok _ λxs H2 N O re fr nd=>?_;have a2:Sta G H2 ob ρ σ S (plus N Fr):=Z.grow O λa z=>z.elim (λz=>.inr ⟨fr a z,re.dom a z⟩) .inl;have up:Up H1 H2 (wn ob S Fr) (wn ob S (plus N Fr)):=Up.add O fr;have a1:=a0.mono (.inr up) up.evo λc _ u J=>O c u J;have hF:∀a∈N,¬Fr a:=λa Y z=>by
    obtain⟨o,B,_⟩:=Z.fdm a z;rw[fr a Y]at B;cases B
   have nf:∀{a},a∈S i∨a∈N∨H2 a=none->a∈S i∨H a=none:=λ{a} z=>z.imp id λz=>z.elim (λz=>F.none' (fr a z)) λz=>(F.trans O).none' z;exact kj hm a2 g1 a3 g2 a1 re nd hF c1 c2 g3 λx H' R S' q1 q2 q3 q4 q5 q6 q7 q8=>q x H' R S' q1 q2 q3 q4 q5 (λa Y=>nf (q6 a Y)) (λa Y=>nf (q7 a Y)) λb u U n=>q8 b u ((F.trans O) b u U) n
theorem GC{T:String}{r:V->List V->Hp->VK->Prop}{op:D->List D->Option (D×D)}{to:TE}{t:TA}{i:Nat}{pf:En->Option (List Nat)}{f:En->Option (List D)}(J:MuV G r op)(ht:HY G T op)(B:RfP G ob to i pf)(Y:RfA G ob t f):RfS G ob P (Ht (tBM G.K T r to t)) (fj op i pf f):=λρ r e σ H S Fr s E q=>by
 unfold fj at e;cases h1:g8 op i pf f ρ with
 |none=>simp[h1]at e
 |some p=>
  obtain⟨res,I⟩:=p;have:Fl.nx I=r:=by simpa[h1]using e
  subst this;refine KY J ht B Y h1 s λx H' R S' q1 q2 O q4 q5 q6 Z q8=>q σ H' S' (q1.lessF λa z=>.inr z) ⟨λb u U n _=>q8 b u U λz=>n ⟨i,z⟩,λj a z=>?_,.refl⟩;by_cases F:j=i
  .subst F;exact(q6 a z).imp (λz=>⟨j,z⟩) .inr
  .rw[q5 j F]at z;exact .inl ⟨j,z⟩
theorem GX{T:String}{r:V->List V->Hp->VK->Prop}{op:D->List D->Option (D×D)}{to:TE}{t:TA}{i:Nat}{pf:En->Option (List Nat)}{f:En->Option (List D)}(a0:ob i=true)(J:MuV G r op)(ht:HY G T op)(B:RfP G ob to i pf)(Y:RfA G ob t f):j5 G ob (tBM G.K T r to t) (g8 op i pf f):=λρ d I e σ H S Fr s Q q=>by
 refine KY J ht B Y e s λx H' R S' q1 q2 O q4 q5 q6 q7 q8=>q x H' R S' q1 q2 O ⟨λb u U n=>q8 b u U λz=>n ⟨i,a0,z⟩,λj F=>q5 j (λz=>by rw[z,a0]at F;cases F),λj a F z=>?_,λa Y=>(q7 a Y).imp (λz=>⟨i,a0,z⟩) id⟩;by_cases Z:j=i
 .subst Z;exact(q6 a z).imp (λz=>⟨j,a0,z⟩) id
 .rw[q5 j Z]at z;exact .inl ⟨j,F,z⟩
structure MuB{ι:Type}(X:ι->Cx)(G:Gc)(T id:String)(op:D->List D->Option (D×D)):Prop where
 ex:∃r,(∀c,MtR (X c) id r)/\MuV G r op/\HY G T op
section
variable{T name id:String}{op:D->List D->Option (D×D)}{o e:Expr}{es:List Expr}{apos cpos pos:Pos}{i:Nat}{pf:En->Option (List Nat)}
theorem gY{Z:Str}(m:MuB X G T id op)(z:ac9 T)(slot:Slot T Z id)(O:aeU (.builtin id)=pure (.type "method_descriptor")){f:En->Option (List D)}(ho:PVP X G ob o i pf)(Y:PVA X G ob (e::es) f)(J:∀c,abS (.Call (.Attribute o Z apos) (e::es) [] cpos) none pos.line (X c).env=pure false:=by intro _;rfl)(U:∀c,aaR o Z (X c).env (eval o (X c).env)=eval o (X c).env:=by intro _;rfl)(I:∀c,((aaH cpos (ZK (e::es) (X c).env)).all (λx=>!x.1)&&(ab_ cpos (abo [] (X c).env)).all (λx=>x.1.isSome)
  &&decide ((e::es).length+([]:List acB).length+(if([]:List acB).isEmpty then 0 else 1)<30))=true:=by intro _;rfl) (q:(apos.endLine==cpos.line)=true:=by rfl) (B:∀c,ZK (e::es) (X c).env=(false,eval e (X c).env)::ZK es (X c).env:=by intro _;rfl) (V:∀c,(aaH cpos (ZK es (X c).env)).any (·.1)=false:=by intro _;rfl) (F:∀c,(X c).K=G.K:=by intro _;rfl) :
 PVS X G ob P (.Expr (.Call (.Attribute o Z apos) (e::es) [] cpos) pos) (fj op i pf f):=let⟨r,m1,m2,m3⟩:=m.ex;let⟨t,a1,a2⟩:=ho.ex;let⟨u,b1,b2⟩:=Y.ex;⟨_,λc=>(by rw[←F c];exact uT (Bg z slot O (m1 c) (a1 c) (b1 c) (U c) (I c) q (B c) (V c)) (J c)),GC m2 m3 a2 b2⟩
theorem Pn{Z:Str}(m:MuB X G T id op)(z:ac9 T)(slot:Slot T Z id)(O:aeU (.builtin id)=pure (.type "method_descriptor")){f:En->Option (List D)}(ho:PVP X G ob o i pf)(Y:PVA X G ob (e::es) f)(J:ob i=true:=by rfl)(U:∀c,aaR o Z (X c).env (eval o (X c).env)=eval o (X c).env:=by intro _;rfl)(I:∀c,((aaH cpos (ZK (e::es) (X c).env)).all (λx=>!x.1)&&(ab_ cpos (abo [] (X c).env)).all (λx=>x.1.isSome)
  &&decide ((e::es).length+([]:List acB).length+(if([]:List acB).isEmpty then 0 else 1)<30))=true:=by intro _;rfl) (q:(apos.endLine==cpos.line)=true:=by rfl) (B:∀c,ZK (e::es) (X c).env=(false,eval e (X c).env)::ZK es (X c).env:=by intro _;rfl) (V:∀c,(aaH cpos (ZK es (X c).env)).any (·.1)=false:=by intro _;rfl) (F:∀c,(X c).K=G.K:=by intro _;rfl) :
 PVe X G ob (.Call (.Attribute o Z apos) (e::es) [] cpos) (g8 op i pf f):=let⟨r,m1,m2,m3⟩:=m.ex;let⟨t,a1,a2⟩:=ho.ex;let⟨u,b1,b2⟩:=Y.ex;⟨_,λc=>(by rw[←F c];exact Bg z slot O (m1 c) (a1 c) (b1 c) (U c) (I c) q (B c) (V c)),GX J m2 m3 a2 b2⟩
theorem MT{Z:Str}(m:MuB X G T id op)(z:ac9 T)(slot:Slot T Z id)(O:aeU (.builtin id)=pure (.type "method_descriptor"))(B:PVP X G ob o i pf)(J:∀c,abS (.Call (.Attribute o Z apos) [] [] cpos) none pos.line (X c).env=pure false:=by intro _;rfl)(U:∀c,aaR o Z (X c).env (eval o (X c).env)=eval o (X c).env:=by intro _;rfl)(q:(apos.endLine==cpos.line)=true:=by rfl)(F:∀c,(X c).K=G.K:=by intro _;rfl) :
 PVS X G ob P (.Expr (.Call (.Attribute o Z apos) [] [] cpos) pos) (fj op i pf aD):=let⟨r,m1,m2,m3⟩:=m.ex;let⟨t,a1,a2⟩:=B.ex;⟨_,λc=>(by rw[←F c];exact uT (Oj z slot O (m1 c) (a1 c) (U c) q) (J c)),GC m2 m3 a2 sV⟩
theorem K5{Z:Str}(m:MuB X G T id op)(z:ac9 T)(slot:Slot T Z id)(O:aeU (.builtin id)=pure (.type "method_descriptor"))(B:PVP X G ob o i pf)(D:ob i=true:=by rfl)(U:∀c,aaR o Z (X c).env (eval o (X c).env)=eval o (X c).env:=by intro _;rfl)(q:(apos.endLine==cpos.line)=true:=by rfl)(F:∀c,(X c).K=G.K:=by intro _;rfl) :
 PVe X G ob (.Call (.Attribute o Z apos) [] [] cpos) (g8 op i pf aD):=let⟨r,m1,m2,m3⟩:=m.ex;let⟨t,a1,a2⟩:=B.ex;⟨_,λc=>(by rw[←F c];exact Oj z slot O (m1 c) (a1 c) (U c) q),GX D m2 m3 a2 sV⟩
end
structure MuT{ι:Type}(X:ι->Cx)(G:Gc)(op:D->List D->Option (D×D)):Prop where
 ex:∃t:Ib,(∀c,PX (X c) t)/\MuV G (λo xs H Q=>∃i v,xs=[i,v]/\t o i v H λH'=>Q .non H') op
def fO(op:D->List D->Option (D×D))(i:Nat)(pf:En->Option (List Nat))(fk:En->Option D):D->En->Option En:=λd ρ=>(pf ρ).bind λp=>(fk ρ).bind λk=>(upS op i p [k,d] ρ).map λq=>q.2
theorem RJ{t:Ib}{op:D->List D->Option (D×D)}{to ti:TE}{i:Nat}{pf:En->Option (List Nat)}{fk:En->Option D}(hm:MuV G (λo xs H Q=>∃i v,xs=[i,v]/\t o i v H λH'=>Q .non H') op)(B:RfP G ob to i pf)(hi:RfE G ob ti fk):RfG G ob P (iY to ti t) (fO op i pf fk):=λd ρ I e v σ H S M Fr s r nd hF Q q=>by
 unfold fO at e;cases h1:pf ρ with
 |none=>simp[h1]at e
 |some p=>
  cases h2:fk ρ with
  |none=>simp[h1,h2]at e
  |some k=>
   cases Z:upS op i p [k,d] ρ with
   |none=>simp[h1,h2,Z]at e
   |some w=>
    obtain⟨res,ρ1⟩:=w;obtain rfl:ρ1=I:=by simpa[h1,h2,Z]using e
    obtain⟨d0,dd,d',g1,g2,c1,c2,g3,rfl⟩:=sr Z;obtain⟨b0,a9,k1,k2,k3⟩:=B ρ p h1 σ H S 1.31 s;rw[g1]at k1;cases k1;rw[g2]at k2;cases k2;refine k3 _ λo v0 H1 M1 F a5 a3=>?_;have a0:Sta G H1 ob ρ σ S (plus M Fr):=s.grow F λa z=>.inl z;refine hi ρ k h2 σ H1 _ a0.rel a0.wok _ λy H2 N O ry fr nN=>?_;have a2:Sta G H2 ob ρ σ S (plus (N++M) Fr):=a0.grow O λa z=>z.elim (λz=>(Zy.mp z).elim (λz=>.inr ⟨fr a z,ry.dom a z⟩) λz=>.inl (.inl z)) λz=>.inl (.inr z);have up:Up H1 H2 (wn ob S 1.31) (wn ob S (plus (N++M) Fr)):=⟨O,λb u U f=>⟨λz=>z.elim (λz=>(Zy.mp z).elim (λz=>by rw[fr b z]at U;cases U) λz=>f.1 (.inl z)) λz=>f.1 (.inr z),f.2⟩,λ_ _ _ f=>f⟩;have a6:Up H H2 (wn ob S 1.31) (wn ob S (plus (N++M) Fr)):=(Up.same F).trans up;have a1:=a3.mono (.inr up) up.evo λc _ u J=>O c u J;have a7:(wn ob S 1.31).add N=wn ob S (plus (N++M) Fr):=by
     show Wn.mk _ _ _=Wn.mk _ _ _;congr 1;funext a;simp![plus,Zy,eq_iff_iff,or_assoc];constructor
     .rintro(z|z)
      .exact .inl z
      .exact .inr z
     .rintro(z|z)
      .exact .inl z
      .exact .inr z
    rw[a7]at ry;have a8:∀a∈N,a∉M:=λa h1 h2=>by
     obtain⟨o,B,_⟩:=r.dom a h2;rw[F.none' (fr a h1)]at B;cases B
    have re:aF G H2 (wn ob S (plus (N++M) Fr)) [k,d] [y,v] (N++M):=.cons ry (.one (r.up a6));have a4:∀a∈N++M,¬Fr a:=λa Y z=>by
     rcases Zy.mp Y with y|y
     .obtain⟨o,B,_⟩:=a0.fdm a (.inr z)
      rw[fr a y]at B;cases B
     .exact hF a y z
    have V:=kj hm a2 g1 a5 g2 a1 re (fu nN nd a8) a4 c1 c2 g3 (Q:=λ_ H'=>Q σ H') λx H' R S' q1 q2 q3 q4 q5 q6 q7 q8=>q σ H' S' (q1.lessF λa z=>.inr z) ⟨λb u U n m=>?_,λj a z=>?_,.refl⟩
    .obtain⟨i1,v1,e1,k⟩:=V
     cases e1;exact k
    .exact q8 b u ((F.trans O) b u U) λz=>n ⟨i,z⟩
    .by_cases hj:j=i
     .subst hj
      rcases q6 a z with y|y|y
      .exact .inl ⟨j,y⟩
      .exact(Zy.mp y).elim (λy=>.inr (.inr (F.none' (fr a y)))) λy=>.inr (.inl y)
      .exact .inr (.inr ((F.trans O).none' y))
     .rw[q5 j hj]at z;exact .inl ⟨j,z⟩
theorem o8{op:D->List D->Option (D×D)}{o k:Expr}{pos:Pos}{i:Nat}{pf:En->Option (List Nat)}{fk:En->Option D}(m:MuT X G op)(B:PVP X G ob o i pf)(I:PV X G ob k fk)(Y:∀c,∀v,acX (.Subscript o k pos) (X c).env v=(do
 let ov ←abi [v] (eval o (X c).env)
 let iv ←abi [v,ov] (eval k (X c).env)
 ac7 pos
 abi [v,ov,iv] (aeP ov iv v)
 release [v,ov,iv] []):=by intro _;intro _;rfl):PVG X G ob P (.Subscript o k pos) (fO op i pf fk):=let⟨t,m1,m2⟩:=m.ex;let⟨_,a1,a2⟩:=B.ex;let⟨_,b1,b2⟩:=I.ex;⟨_,λc=>V9 (a1 c) (b1 c) (m1 c) (Y c),RJ m2 a2 b2⟩
theorem mH{G:Gc}{H:Hp}{W:Wn}:Rep G H W .non .non []:=by rw[Rep];exact⟨rfl,rfl⟩
theorem tH{ds:List D}(h1:az ds=true)(h2:aA ds=true):clean (.lst .own ds)=true:=by simp[clean,aC,aB,h1,h2]
theorem Gy{G:Gc}{H:Hp}{W W':Wn}{a:Addr}{xs:List V}{ds:List D}{M:List Addr}{ys:List V}(O:aF G H W ds xs M)(U:az ds=true)(q:aA ds=true)(hn:a∉M)(I:Evo H (upd H a (.lst ys)) W W'):aF G (upd H a (.lst ys)) W' ds xs M:=
 O.mono I (.inl U) (.inl q) λc Z u J=>by rw[aQ (show c≠a from λz=>hn (z▸Z))];exact J
def aR:D->List D->Option (D×D)
 |.lst .own ds,[e]=>if ds.length<1000000 then some (.lst .own (ds++[e]),.non)else none
 |_,_=>none
theorem Ey{n:Nat}(h:n<1000000):n<ZM:=Z4 h (by decide)
theorem wV{G:Gc}:MuV G qG aR:=λd es d' res h v xs H W M N r D nd hM Z c1 c2 Q q=>by
 unfold aR at h;split at h
 .rename_i ds e
  split at h
  .rename_i hl
   cases h;rw[Rep]at r;obtain⟨a,ys,M0,rfl,O,Y,rfl⟩:=r;obtain⟨x,zs,V,N2,rfl,rfl,J,hz⟩:=D.inv;obtain⟨rfl,rfl⟩:=hz.inv0;rw[List.append_nil]at nd D;obtain⟨B,F⟩:=mj Z;have a0:=ZZ.mp nd;have hn:=Z8.mp a0.1;have a1:a∉V:=λz=>a0.2.2 a (by simp) a z rfl;simp![az,aA,aal]at c1 c2;refine⟨a,ys,x,rfl,rfl,Y,Ey (by rw[←O.length];exact hl),q .non _ (a::(M0++V)) [] (λb u U n=>by rw[aQ (show b≠a from λz=>n (by rw[z];simp))];exact U) (λW' I=>⟨?_,mH⟩) ?_ (λb U=>?_) (tH (by rw[bR];simp[B,az,c1]) (by rw[bQ];simp[F,aA,c2])) rfl⟩
   .rw[Rep]
    refine⟨a,ys++[x],M0++V,rfl,(Gy O B F hn.1 I).append (.one (J.mono I (.inl c1.1) (.inl c2.1) λc Z u hu=>?_)),aZ,rfl⟩;rw[aQ (show c≠a from λz=>a1 (z▸Z))];exact hu
   .rw[List.append_nil]
    exact nd
   .rw[List.append_nil]at U
    rcases ZR.mp U with z|z
    .exact .inl (by simp[z])
    .rcases Zy.mp z with z|z
     .exact .inl (by simp[z])
     .exact .inr (.inl (by simp[z]))
  .cases h
 .cases h
theorem zX{T:String}{op:D->List D->Option (D×D)}(V:T="list")(h:∀d es q,op d es=some q->∃m ds,d= .lst m ds):HY G T op:=λd es q e v H W L r=>by
 obtain⟨m,ds,rfl⟩:=h d es q e;rw[Rep]at r;obtain⟨a,xs,M,rfl,O,B⟩:=r;exact .inl ⟨V,xs,B.sq⟩
theorem dI:MuB X G "list" "list.append" aR:=⟨_,λc=>yo,wV,zX rfl λd es q e=>by
 unfold aR at e;split at e
 .exact⟨_,_,rfl⟩
 .cases e⟩
def fX(ks:List Key)(ds:List D)(k:Key)(v:D):List Key×List D:=match dw ks k with
 |some j=>(ks,ds.set j v)
 |none=>(ks++[k],ds++[v])
def fQ:D->List D->Option (D×D)
 |.lst .own ds,[.int k,v]=>(ixN ds.length k).map λj=>(.lst .own (ds.set j v),.non)
 |.dct .own ks ds,[k,v]=>(cW k).bind λk=>if ks.length<1000000 then some (.dct .own (fX ks ds k v).1 (fX ks ds k v).2,.non)else none
 |_,_=>none
def Tf:Ib:=λo i v H Q=>S7 o i v H Q∨∃a H',o= .ref a/\I_ H a i v H'/\Q H'
theorem Rz{Y:Cx}(J:Y.A.units+1<cLine):PX Y Tf:=by
 intro pins s σ H o i v U O u Q I D B F h;rcases h with h|⟨a,H',rfl,g,q⟩
 .exact set_list pins s σ H o i v U O u Q I D B F h
 .cases D
  exact xZ J I g B F λV z=>⟨H',z,q⟩
theorem aF.set{G:Gc}{H:Hp}{W:Wn}{ds:List D}{xs:List V}{L:List Addr}{j:Nat}{c d':D}{y:V}{M':List Addr}(O:aF G H W ds xs L)(e:ds[j]? =some c)(F:Rep G H W d' y M'):∃A M B,L=A++(M++B)/\aF G H W (ds.set j d') (xs.set j y) (A++(M'++B)):=by
 obtain⟨P,Q,x,ys,zs,z,I,Y,rfl,q,rfl,J,rfl,h1,h2,Z⟩:=O.at e;refine⟨z,I,Y,rfl,?_⟩;rw[←q,acE _ _ (ZQ _),acb];rw[show P.length=ys.length by omega,acE _ _ (ZQ _),acb];exact aF.append h1 (aF.cons F Z)
theorem vo{ds:List D}{j:Nat}{x:D}(h:az ds=true)(J:aC x=true):az (ds.set j x)=true:=by
 induction ds generalizing j with
 |nil=>simpa using h
 |cons y r B=>
  simp![az,aal]at h;cases j with
  |zero=>simp[az,J,h]
  |succ j=>simp![aaZ,az,aal];exact⟨h.1,B h.2⟩
theorem u9{ds:List D}{j:Nat}{x:D}(h:aA ds=true)(J:aB x=true):aA (ds.set j x)=true:=by
 induction ds generalizing j with
 |nil=>simpa using h
 |cons y r B=>
  simp![aA,aal]at h;cases j with
  |zero=>simp[aA,J,h]
  |succ j=>simp![aaZ,aA,aal];exact⟨h.1,B h.2⟩
theorem Wd{n:Nat}{k:Int}{j:Nat}(h:ixN n k=some j):j<n:=by
 unfold ixN at h;split at h
 .split at h
  .cases h;omega
  .cases h
 .split at h
  .cases h;omega
  .cases h
theorem uF{ks:List Key}{k:Key}{j:Nat}(h:dw ks k=some j):j<ks.length:=(aan.mp h).1
theorem Bs:∀{kvs:List (Key×V)}{k:Key}{j:Nat}{v:V},dw (kvs.map (·.1)) k=some j->(kvs.map (·.1)).Nodup->(putK kvs k v).map (·.1)=kvs.map (·.1)/\(putK kvs k v).map (·.2)=(kvs.map (·.2)).set j v:=by
 intro kvs k j v h n;have F:=aan.mp h;obtain⟨O,I,_⟩:=F;have U:j<kvs.length:=by simpa using O
 have D:kvs[j].1=k:=by simpa using I
 have q:(kvs.any λkv=>decide (kv.1=k))=true:=acM.mpr ⟨kvs[j],abL _,by simpa using D⟩;unfold putK;rw[ZV q];constructor
 .rw[ZX]
  apply aah;intro p _;simp![abH];split<;>rfl
 .apply ad9
  intro i;rw[ZX,List.getElem?_map];by_cases Y:j=i
  .subst Y
   rw[abN (by simpa using U)];simp[U,D]
  .rw[List.getElem?_set_ne Y,List.getElem?_map]
   cases e:kvs[i]? with
   |none=>rfl
   |some p=>
    have B:i<kvs.length:=(List.getElem?_eq_some_iff.mp e).1;have J:kvs[i]=p:=(List.getElem?_eq_some_iff.mp e).2;have Z:p.1≠k:=λz=>by
     have e1:(kvs.map (·.1))[i]? =(kvs.map (·.1))[j]?:=by
      rw[List.getElem?_map,List.getElem?_map,e,Z0 U];simp[z,D]
     exact Y ((abG (by simpa using B) n).mp e1).symm
    simp[Z]
theorem lW{kvs:List (Key×V)}{k:Key}{v:V}(h:dw (kvs.map (·.1)) k=none):putK kvs k v=kvs++[(k,v)]:=by
 unfold putK;rw[Z1];intro z;obtain⟨p,F,e⟩:=acM.mp z;have:=abd.mp h p.1 (ZG.mpr ⟨p,F,rfl⟩);simp at this e;exact this e
theorem wW{ks:List Key}{k:Key}(h:dw ks k=none):k∉ks:=λz=>by
 have:=abd.mp h k z;simp at this
def pY{α:Type}(j:Option Nat)(l:List α)(y:α):List α:=match j with
 |some j=>l.set j y
 |none=>l++[y]
theorem Af{G:Gc}{H:Hp}{W:Wn}{ds:List D}{xs:List V}{a:Addr}{M0 N:List Addr}{e:D}{x:V}{o:HO}{j:Option Nat}(O:aF G H W ds xs M0)(J:Rep G H W e x N)(nd:(a::M0++N).Nodup)(k1:az ds=true)(k2:aA ds=true)(c1:aC e=true)(c2:aB e=true)(F:∀i,j=some i->i<ds.length) :
  ∃M',(a::M').Nodup/\(∀b∈a::M',b∈a::M0∨b∈N)/\(∀W',Evo H (upd H a o) W W'->aF G (upd H a o) W' (pY j ds e) (pY j xs x) M')/\az (pY j ds e)=true/\aA (pY j ds e)=true:=by
 have a1:=ZZ.mp nd;have hn:=Z8.mp a1.1;have a2:a∉N:=λz=>a1.2.2 a (by simp) a z rfl;have kp:∀{L:List Addr},a∉L->∀c∈L,∀u,H c=some u->upd H a o c=some u:=λh c Z u hu=>by rw[aQ (show c≠a from λz=>h (z▸Z))];exact hu
 cases j with
 |none=>
  refine⟨M0++N,by simpa using nd,λb U=>by simpa[or_assoc]using U,λW' I=>?_,by simp[pY,bR,az,k1,c1],by simp[pY,bQ,aA,k2,c2]⟩;exact(O.mono I (.inl k1) (.inl k2) (kp hn.1)).append (.one (J.mono I (.inl c1) (.inl c2) (kp a2)))
 |some j=>
  obtain⟨A,M1,B,a5,q⟩:=O.set (Z0 (F j rfl)) J;have a0:abg (A++B) M0:=by rw[a5];exact(ab4 A).append (aby M1 B)
  have n3:=ZZ.mp (a0.nodup hn.2);have a4:∀z∈N,z∉A++B:=λz h1 h2=>a1.2.2 z (aaf _ (a0.subset h2)) z h1 rfl;have a3:∀b∈A++(N++B),b∈M0∨b∈N:=λb U=>by
   simp![Zy]at U;rcases U with y|y|y
   .exact .inl (a0.subset (by simp[y]))
   .exact .inr y
   .exact .inl (a0.subset (by simp[y]))
  have Y:a∉A++(N++B):=λz=>(a3 a z).elim hn.1 a2;refine⟨A++(N++B),Z8.mpr ⟨Y,fu n3.1 (fu a1.2.1 n3.2.1 λz h1 h2=>a4 z h1 (by simp[h2])) λz h1 h2=>?_⟩,λb U=>(ZR.mp U).elim (λz=>.inl (by simp[z])) λz=>(a3 b z).imp (aaf _) id,λW' I=>q.mono I (.inl (vo k1 c1)) (.inl (u9 k2 c2)) (kp Y),vo k1 c1,u9 k2 c2⟩;rcases Zy.mp h2 with y|y
  .exact a4 z y (by simp[h1])
  .exact n3.2.2 z h1 z y rfl
theorem zK{G:Gc}:MuV G (λo xs H Q=>∃i v,xs=[i,v]/\Tf o i v H λH'=>Q .non H') fQ:=λd es d' res h v xs H W M N r re nd hM Z c1 c2 Q q=>by
 have kp:∀{a:Addr}{L:List Addr}{o:HO}(b:Addr)(u:HO),H b=some u->b∉a::L->upd H a o b=some u:=λb u U n=>by rw[aQ (show b≠_ from λz=>n (by rw[z];simp))];exact U
 unfold fQ at h;split at h
 .rename_i ds k e
  cases F:ixN ds.length k with
  |none=>simp[F]at h
  |some j=>
   obtain⟨rfl,rfl⟩:D.lst .own (ds.set j e)=d'/\D.non=res:=by simpa[F]using h
   rw[Rep]at r;obtain⟨a,ys,M0,rfl,O,Y,rfl⟩:=r;obtain⟨x1,zs,N1,N2,rfl,rfl,a0,hz⟩:=re.inv;obtain⟨x,zs,N3,N4,rfl,rfl,J,hz⟩:=hz.inv;obtain⟨rfl,rfl⟩:=hz.inv0;rw[Rep]at a0;obtain⟨rfl,rfl⟩:=a0;rw[List.append_nil,List.nil_append]at nd re;obtain⟨B,k2⟩:=mj Z;simp![az,aA,aal]at c1 c2;obtain⟨M',n1,n2,n3,n4,n5⟩:=Af (o:=.lst (ys.set j x)) (j:=some j) O J nd B k2 c1.2.1 c2.2.1 λi hi=>by cases hi;exact Wd F
   refine⟨_,_,rfl,.inl ⟨a,ys,k,j,rfl,rfl,Y,by rw[←O.length];exact F,q .non _ (a::M') [] kp (λW' ev=>⟨?_,mH⟩) (by simpa using n1) (λb U=>(n2 b (by simpa using U)).imp id λz=>.inl (by simpa using z)) (tH n4 n5) rfl⟩⟩;rw[Rep];exact⟨a,_,M',rfl,n3 W' ev,aZ,rfl⟩
 .rename_i ks ds k0 e
  cases I:cW k0 with
  |none=>simp[I]at h
  |some k=>
   rw[I]at h;simp![Hq]at h;split at h
   .rename_i hl
    cases h;rw[Rep]at r;obtain⟨a,kvs,M0,rfl,⟨rfl,a1⟩,O,Y,rfl⟩:=r;obtain⟨x1,zs,N1,N2,rfl,rfl,a0,hz⟩:=re.inv;obtain⟨x,zs,N3,N4,rfl,rfl,J,hz⟩:=hz.inv;obtain⟨rfl,rfl⟩:=hz.inv0;have a2:=iR a0 I;subst a2;have a3:N1=[]:=by
     cases k0<;>simp[cW]at I<;>rw[Rep]at a0<;>exact a0.2
    subst a3;rw[List.append_nil,List.nil_append]at nd re;have B:az ds=true/\aA ds=true:=by simp[clean,aC,aB]at Z;exact Z
    simp![az,aA,aal]at c1 c2;obtain⟨M',n1,n2,n3,n4,n5⟩:=Af (o:=.dK (putK kvs k x)) (j:=dw (kvs.map (·.1)) k) O J nd B.1 B.2 c1.2.1 c2.2.1 λi hi=>by rw[O.length];simpa using uF hi
    have pe:(putK kvs k x).map (·.1)=(fX (kvs.map (·.1)) ds k e).1/\(putK kvs k x).map (·.2)=pY (dw (kvs.map (·.1)) k) (kvs.map (·.2)) x/\pY (dw (kvs.map (·.1)) k) ds e=(fX (kvs.map (·.1)) ds k e).2/\(fX (kvs.map (·.1)) ds k e).1.Nodup:=by
     cases F:dw (kvs.map (·.1)) k with
     |some j=>
      obtain⟨p1,p2⟩:=Bs (v:=x) F a1;simp![fX,F];exact⟨p1,p2,rfl,a1⟩
     |none=>
      rw[lW F];simp![fX,F];refine⟨by simp,by simp[pY],rfl,ZZ.mpr ⟨a1,by simp,λy V z hz=>?_⟩⟩;obtain rfl:z=k:=by simpa using hz
      exact λe=>wW F (e▸V)
    refine⟨_,_,rfl,.inr ⟨a,_,rfl,I_.k (k:=k) Y (Ey (by simpa using hl)),q .non _ (a::M') [] kp (λW' ev=>⟨?_,mH⟩) (by simpa using n1) (λb U=>(n2 b (by simpa using U)).imp id λz=>.inl (by simpa using z)) ?_ rfl⟩⟩
    .rw[Rep]
     exact⟨a,_,M',rfl,⟨pe.1,pe.2.2.2⟩,by rw[←pe.2.2.1,pe.2.1];exact n3 W' ev,aZ,rfl⟩
    .rw[←pe.2.2.1]
     simp[clean,aC,aB,n4,n5]
   .cases h
 .cases h
theorem pF(J:∀c,(X c).A.units+1<cLine):MuT X G fQ:=⟨_,λc=>Rz (J c),zK⟩
end
noncomputable abbrev InX(X:ι->Cx)(N':List Str)(scope:Scope):ι×(Addr×Pr×Hp×List Addr)->Cx:=λp=>bO (X p.1) N' scope p.2.1 p.2.2.1 p.2.2.2.1 p.2.2.2.2
def fU(cap:List 1.34)(ρ:En):En:=cap.map λo=>o.bind λj=>(ρ[j]?).bind id
def obC(cap:List 1.34)(ob:Nat->Bool):Nat->Bool:=λi=>match cap[i]? with
 |some (some j)=>ob j
 |_=>false
variable{x:α}{l:List (Option α)}
theorem qK{α:Type}{cap:List 1.34}{l:List (Option α)}{x:α}(h:(cap.map λo=>o.bind λj=>(l[j]?).bind id)[i]? =some (some x)):∃j,cap[i]? =some (some j)/\l[j]? =some (some x):=by
 rw[List.getElem?_map]at h;cases e:cap[i]? with
 |none=>rw[e]at h;cases h
 |some o=>
  rw[e]at h;cases o with
  |none=>simp at h
  |some j=>
   refine⟨j,rfl,?_⟩;have h:(l[j]?).bind id=some x:=by simpa using h
   cases e2:l[j]? with
   |none=>rw[e2]at h;cases h
   |some o=>rw[e2]at h;simpa using h
theorem zx{α:Type}{cap:List 1.34}{l:List (Option α)}{x:α}(h:cap[i]? =some (some j))(h2:l[j]? =some (some x)):(cap.map λo=>o.bind λj=>(l[j]?).bind id)[i]? =some (some x):=by
 rw[List.getElem?_map,h];simp[h2]
theorem Rel.cap{cap:List 1.34}(r:Rel G H W ob ρ σ):Rel G H W 1.28 (fU cap ρ) (gH cap σ):=λi d e=>by
 obtain⟨j,h1,h2⟩:=qK e;obtain⟨v,L,q1,q2,O⟩:=r j d h2;refine⟨v,L,zx h1 q1,q2,λz=>O ?_⟩;unfold obC at z;rw[h1]at z;exact z
def Ju(G:Gc)(ob own:Nat->Bool)(g:TG)(f:D->En->Option En):Prop:=∀(d:D)(ρ I:En),f d ρ=some I->∀(x:V)(σ:L2.St)(H:Hp)(W:Wn),Rep G H W d x []->Rel G H W ob ρ σ->σ.length=ρ.length->∀Q:L2.St->Hp->Prop,
 (∀Y,Rel G H W ob I Y->Y.length=I.length->(∀j,own j=false->Y[j]? =σ[j]?)->Q Y H)->g x σ H Q
def BP(G:Gc)(ob own:Nat->Bool)(g:TGs)(f:List D->En->Option En):Prop:=∀(ds:List D)(ρ I:En),f ds ρ=some I->∀(xs:List V)(σ:L2.St)(H:Hp)(W:Wn),aF G H W ds xs []->Rel G H W ob ρ σ->σ.length=ρ.length->∀Q:L2.St->Hp->Prop,
 (∀Y,Rel G H W ob I Y->Y.length=I.length->(∀j,own j=false->Y[j]? =σ[j]?)->Q Y H)->g xs σ H Q
structure JL{ι:Type}(X:ι->Cx)(G:Gc)(ob own:Nat->Bool)(tg:Expr)(f:D->En->Option En):Prop where
 mk::(ex:∃t,(∀c,PG (X c) tg t)/\Ju G ob own t f)
structure Gh{ι:Type}(X:ι->Cx)(G:Gc)(ob own:Nat->Bool)(tg:List Expr)(f:List D->En->Option En):Prop where
 mk::(ex:∃t,(∀c,PGs (X c) tg t)/\BP G ob own t f)
def tpN(i:Nat):D->En->Option En:=λd ρ=>some (ρ.set i (some d))
def tpT(n:Nat)(g:List D->En->Option En):D->En->Option En:=λd ρ=>match d with
 |.tup ds=>if ds.length=n then g ds ρ else none
 |_=>none
theorem Jc{own:Nat->Bool}(B:own i=true):Ju G ob own (yH i) (tpN i):=λd ρ I e x σ H W r J O Q q=>by
 cases e;refine q _ (λj d' F=>?_) (by simp[O]) λj F=>?_
 .by_cases e:i=j
  .subst e
   rw[acv]at F;split at F
   .split at F
    .rename_i h2
     have:d=d':=by simpa using F
     subst this;exact⟨x,[],by simp[O,h2],r,λ_ c Z=>by cases Z⟩
    .cases F
   .exact absurd rfl ‹_›
  .rw[List.getElem?_set_ne e]at F
   obtain⟨v,L,h1,h2,D⟩:=J j d' F;exact⟨v,L,by rw[List.getElem?_set_ne e];exact h1,h2,D⟩
 .have:i≠j:=λz=>by rw[←z,B]at F;cases F
  rw[List.getElem?_set_ne this]
theorem Io{own:Nat->Bool}:BP G ob own QV bZ:=λds ρ I e xs σ H W r J O Q q=>by
 cases ds with
 |nil=>
  cases e;obtain⟨rfl,_⟩:=r.inv0;exact⟨rfl,q σ J O λ_ _=>rfl⟩
 |cons d r=>cases e
variable{g:List D->En->Option En}
theorem FN{own:Nat->Bool}{t:TG}{u:TGs}{f:D->En->Option En}(h1:Ju G ob own t f)(h2:BP G ob own u g):BP G ob own (J9 t u) (aO f g):=λds ρ I e xs σ H W r rl hl Q q=>by
 cases ds with
 |nil=>cases e
 |cons d ds=>
  obtain⟨x,ys,M1,z,rfl,V,J,O⟩:=r.inv;obtain⟨rfl,rfl⟩:M1=[]/\z=[]:=by simpa using V.symm
  simp![aO]at e;cases Z:f d ρ with
  |none=>rw[Z]at e;cases e
  |some ρ1=>
   have e:g ds ρ1=some I:=by simpa[Z]using e
   exact⟨x,ys,rfl,h1 d ρ ρ1 Z x σ H W J rl hl _ λU a1 a2 B=>h2 ds ρ1 I e ys U H W O a1 a2 Q λσ2 a0 Y k2=>q σ2 a0 Y λj F=>(k2 j F).trans (B j F)⟩
theorem NT{own:Nat->Bool}{t:TGs}(h:BP G ob own t g):Ju G ob own (Wi G.K n t) (tpT n g):=λd ρ I e x σ H W r J z Q q=>by
 cases d with
 |tup ds=>
  simp![tpT]at e;split at e
  .rename_i hn
   rw[Rep]at r;obtain⟨a,xs,rfl,Y,O⟩:=r;exact⟨a,xs,rfl,SqT.of Y,by rw[←O.length];exact hn,h ds ρ I e xs σ H W O J z Q q⟩
  .cases e
 |_=>cases e
section
variable{ι:Type}{X:ι->Cx}{G:Gc}{ob own:Nat->Bool}
theorem fK(i:Nat){x:Str}{pos:Pos}(U:∀c,(X c).N.Nodup)(B:own i=true:=by rfl)(hi:∀c,(X c).N[i]? =some x:=by intro _;rfl)(J:∀c,Loc (X c).env.scope x:=by intro _;first|exact abf rfl|exact aaQ rfl)(D:∀c,(X c).fn x=true∨(X c).env.scope.names.lookup x=some .local:=by intro _;first|exact .inl rfl|exact .inr rfl):JL X G ob own (.Name x pos) (tpN i):=⟨_,λc=>zy (U c) (hi c) (J c) (D c),Jc B⟩
theorem xR:Gh X G ob own [] bZ:=⟨_,λc=>GZ,Io⟩
theorem mW{e:Expr}{es:List Expr}{f:D->En->Option En}{g:List D->En->Option En}(h1:JL X G ob own e f)(h2:Gh X G ob own es g)(B:∀c,(aaT (e::es) (X c).env).map (·.2)=acX e (X c).env::(aaT es (X c).env).map (·.2):=by intro _;rfl):Gh X G ob own (e::es) (aO f g):=
 let⟨t,a1,a2⟩:=h1.ex;let⟨u,b1,b2⟩:=h2.ex;⟨_,λc=>BZ (a1 c) (b1 c) (B c),FN a2 b2⟩
theorem Cv{es:List Expr}{k n:Nat}{pos:Pos}{g:List D->En->Option En}(Z:∀c,(X c).calm=true)(h:Gh X G ob own es g)(hn:∀c,(aaT es (X c).env).length=n:=by intro _;rfl)(V:∀c,(aaT es (X c).env).findIdx? (·.1)=none:=by intro _;rfl)(F:∀c,(X c).K=G.K:=by intro _;rfl):JL X G ob own (.Tuple es k pos) (tpT n g):=
 let⟨t,a1,a2⟩:=h.ex;⟨_,λc=>(by rw[←F c];exact Np (Z c) (a1 c) (hn c) (V c)),NT a2⟩
structure JH{ι:Type}(X:ι->Cx)(G:Gc)(ob:Nat->Bool)(ifs:List Expr)(f:En->Option Bool):Prop where
 mk::(ex:∃t,(∀c,PTs (X c) ifs t)/\RfT G ob t f)
def eTT:En->Option Bool:=λ_=>some true
theorem jj:JH X G ob [] eTT:=⟨_,λc=>Rf,λρ b e σ H W J w Q q=>by cases e;exact q H (Same.refl H)⟩
theorem Dp{c:Expr}{f:En->Option Bool}(h:PVT X G ob c f):JH X G ob [c] f:=let⟨t,a1,a2⟩:=h.ex;⟨t,λc=>Ru (a1 c),a2⟩
def iG(tg:D->En->Option En)(c:En->Option Bool)(e:En->Option D)(q:En):List D->Option (List D)
 |[]=>some []
 |d::r=>(tg d q).bind λρ1=>(c ρ1).bind λb=>if b=true then(e ρ1).bind λx=>(iG tg c e q r).map λt=>x::t else iG tg c e q r
def fY(cap:List 1.34)(it:En->Option (Bool×List D))(tg:D->En->Option En)(c:En->Option Bool)(e:En->Option D):En->Option D:=λρ=>(it ρ).bind λp=>if p.2.length<=1000000 then(iG tg c e (fU cap ρ) p.2).map λys=>.lst .own ys else none
theorem six{n:Nat}(h:n<=1000000):n<ZM:=Nat.lt_of_le_of_lt h (by decide)
theorem Ft{cap:List 1.34}{σ Y:L2.St}(Z:∀i:Nat,own i=true->cap[i]?≠none->cap[i]? =some none)(h:∀j,own j=false->Y[j]? =(gH cap σ)[j]?):Kp (gH cap σ) Y:=λi v e=>by
 cases B:own i with
 |false=>rw[h i B];exact e
 |true=>
  obtain⟨j,h1,_⟩:=qK e;rw[Z i B (by rw[h1];simp)]at h1;cases h1
theorem O_{cap:List 1.34}{wi:TI}{g:TG}{tt:TT}{te:TE}{it:En->Option (Bool×List D)}{tg:D->En->Option En}{c:En->Option Bool}{e:En->Option D}(a7:∀i:Nat,own i=true->cap[i]?≠none->cap[i]? =some none)(hi:RfI G ob wi it)(hg:Ju G 1.28 own g tg)(ht:RfT G 1.28 tt c)(V:RfE G 1.28 te e):RfE G ob (Nb cap wi g tt te) (fY cap it tg c e):=λρ d ee σ H W rl w Q q=>by
 unfold fY at ee;cases h1:it ρ with
 |none=>simp[h1]at ee
 |some p=>
  obtain⟨b,items⟩:=p;rw[h1]at ee;simp![Hq]at ee;split at ee
  .rename_i hlen
   cases h2:iG tg c e (fU cap ρ) items with
   |none=>simp[h2]at ee
   |some a2=>
    obtain rfl:D.lst .own a2=d:=by simpa[h2]using ee
    refine hi ρ b items h1 σ H W rl w _ λJ H1 F wk=>?_;refine⟨λi m ys H2=>i+m=items.length/\ys.length<=i/\∃acc L rest,Same H1 H2/\aF G H2 (W.add L) acc ys L/\(∀a∈L,H1 a=none)/\L.Nodup/\WOk H2 (W.add L)/\iG tg c e (fU cap ρ) (items.drop i)=some rest/\acc++rest=a2,⟨items.length,by omega,by simp,[],[],a2,Same.refl _,.nil,by simp,aap,?_,h2,rfl⟩,?_⟩
    .rw[tB];exact w.up F
    rintro i m ys H2 ⟨b3,b5,acc,L,rest,s2,ra,fa,na,wa,O,a0⟩;have a4:Up H1 H2 W (W.add L):=Up.add s2 fa
    .by_cases hil:i<items.length
     .have hdr:=(abQ hil).symm
      rw[hdr,iG]at O;refine .inr ⟨wk.go i items[i] (by simp[hil]) H2 _ (LtB.up a4),by have:=six hlen;omega,λa5 H'=>(i+1)+(m-1)=items.length/\a5.length<=i+1/\∃acc L rest,Same H1 H'/\aF G H' (W.add L) acc a5 L/\(∀a∈L,H1 a=none)/\L.Nodup/\WOk H' (W.add L)/\iG tg c e (fU cap ρ) (items.drop (i+1))=some rest/\acc++rest=a2,λa5 H' h=>⟨m-1,by omega,h⟩,λx H3 hy=>?_⟩;obtain⟨s3,rx⟩:=wk.yld i items[i] (by simp[hil]) H2 _ (LtB.up a4) x H3 hy;cases Z:tg items[i] (fU cap ρ)with
      |none=>simp[Z]at O
      |some ρ1=>
       rw[Z]at O;simp![Hq]at O;have b2:Rel G H3 (W.add L) 1.28 (fU cap ρ) (gH cap σ):=(rl.cap).up ((Up.same F).trans (a4.trans (Up.same s3)));have a3:=ra.up (Up.same s3 (W:=W.add L));have a8:WOk H3 (W.add L):=wa.up s3;refine hg items[i] _ ρ1 Z x _ H3 (W.add L) rx b2 (by simp[fU,gH]) _ λσ2 a9 b4 k4=>⟨Ft a7 k4,?_⟩;cases h4:c ρ1 with
       |none=>simp[h4]at O
       |some bb=>
        rw[h4]at O;simp![Hq]at O;refine ht ρ1 bb h4 σ2 H3 (W.add L) a9 a8 _ λH4 s4=>?_;have b1:=a9.up (Up.same s4);have a6:=a8.up s4;cases bb with
        |false=>
         simp![aaj,aaN]at O;exact u_ ⟨by omega,by omega,acc,L,rest,((s2.trans s3).trans s4),a3.up (Up.same s4),fa,na,a6,O,a0⟩
        |true=>
         simp![aab]at O;cases h5:e ρ1 with
         |none=>simp[h5]at O
         |some y=>
          cases h6:iG tg c e (fU cap ρ) (items.drop (i+1))with
          |none=>simp[h5,h6]at O
          |some a1=>
           obtain rfl:y::a1=rest:=by simpa[h5,h6]using O
           refine sI (V ρ1 y h5 σ2 H4 (W.add L) b1 a6 _ λv H5 M s5 ry fy ny=>?_);have fM:∀a∈M,H1 a=none:=λa Y=>(((s2.trans s3).trans s4)).none' (fy a Y);have b0:∀a∈L,a∉M:=λa h1 h2=>by
            obtain⟨o,B,_⟩:=(a3.up (Up.same s4 (W:=W.add L))).dom a h1;rw[fy a h2]at B;cases B
           have u5:Up H4 H5 (W.add L) (W.add (L++M)):=⟨s5,λb u U f=>⟨λz=>z.elim (λz=>(Zy.mp z).elim (λz=>f.1 (.inl z)) λz=>by rw[fy b z]at U;cases U) λz=>f.1 (.inr z),f.2⟩,λ_ _ _ f=>f⟩;have u6:Up H5 H5 ((W.add L).add M) (W.add (L++M)):=⟨Same.refl _,λb u U f=>⟨λz=>by
            rcases z with z|z
            .exact(Zy.mp z).elim (λz=>f.1 (.inr (.inl z))) λz=>f.1 (.inl z)
            .exact f.1 (.inr (.inr z)),f.2⟩,λ_ _ _ f=>f⟩
           refine⟨by omega,by simp;omega,acc++[y],L++M,a1,((s2.trans s3).trans s4).trans s5,((a3.up (Up.same s4)).up u5).append (.one (ry.up u6)),λa Y=>(Zy.mp Y).elim (fa a) (fM a),fu na ny b0,?_,rfl,by rw[←a0];simp⟩;exact w.add (((F.trans s2).trans s3).trans s4 |>.trans s5) λa Y=>(Zy.mp Y).elim (λz=>let⟨o,h,m⟩:=(a3.up (Up.same s4 (W:=W.add L))).dom a z;⟨o,s5 a o h,m⟩) (ry.dom a)
     .have hl:i=items.length:=by omega
      subst hl;rw[abK,iG]at O;cases O;refine .inl ⟨wk.stop H2 _ (LtB.up a4),ab8 (six 1.11),λp hp=>?_⟩;have I:Same H2 (upd H2 p (.lst ys)):=Same.new hp;rw[List.append_nil]at a0;subst a0;refine q (.ref p) _ (p::L) ((F.trans s2).trans I) ?_ (λa Y=>(ZR.mp Y).elim (λz=>by rw[z];exact(F.trans s2).none' hp) λz=>F.none' (fa a z)) (Z8.mpr ⟨λz=>?_,na⟩)
      .rw[Rep]
       exact⟨p,ys,L,rfl,ra.up ⟨I,λb u U f=>⟨λz=>z.elim (λz=>(ZR.mp z).elim (λz=>by rw[z,hp]at U;cases U) λz=>f.1 (.inl z)) λz=>f.1 (.inr z),f.2⟩,λ_ _ _ f=>f⟩,aZ,rfl⟩
      .obtain⟨o,B,_⟩:=ra.dom p z
       rw[hp]at B;cases B
  .cases ee
end
def qp(cap:List 1.34):Prop:=∀(i k j:Nat),cap[i]? =some (some j)->cap[k]? =some (some j)->i=k
def mF(cap:List 1.34)(S:Ad):Ad:=λi=>match cap[i]? with
 |some (some j)=>S j
 |_=>[]
def tE(cap:List 1.34)(S:Ad)(Fr:Addr->Prop):Addr->Prop:=λa=>Fr a∨∃j:Nat,(∀i:Nat,cap[i]?≠some (some j))/\a∈S j
theorem jk{cap:List 1.34}(h:a∈mF cap S i):∃j,cap[i]? =some (some j)/\a∈S j:=by
 unfold mF at h;split at h
 .rename_i j e;exact⟨j,e,h⟩
 .cases h
theorem Ar{cap:List 1.34}(h:cap[i]? =some (some j)):mF cap S i=S j:=by unfold mF;rw[h]
theorem D_{cap:List 1.34}(h:cap[i]? =some (some j)):obC cap ob i=ob j:=by unfold obC;rw[h]
section
variable{G:Gc}{ob own:Nat->Bool}{cap:List (Option Nat)}
theorem zf{S:Ad}{Fr:Addr->Prop}{a:Addr}:(wn ob S Fr).free a↔(wn 1.28 (mF cap S) (tE cap S Fr)).free a:=by
 constructor
 .intro f
  have q:∀j,a∉S j:=λj z=>by
   cases B:ob j with
   |false=>exact f.2.1 ⟨j,B,z⟩
   |true=>exact f.2.2 ⟨j,B,z⟩
  refine⟨λz=>z.elim f.1 λ⟨j,_,z⟩=>q j z,λ⟨i,_,z⟩=>?_,λ⟨i,_,z⟩=>?_⟩
  .obtain⟨j,_,z⟩:=jk z;exact q j z
  .obtain⟨j,_,z⟩:=jk z;exact q j z
 .intro f
  have q:∀j,a∉S j:=λj z=>by
   by_cases Z:∃i:Nat,cap[i]? =some (some j)
   .obtain⟨i,hi⟩:=Z
    have D:a∈mF cap S i:=by rw[Ar hi];exact z
    cases B:obC cap ob i with
    |false=>exact f.2.1 ⟨i,B,D⟩
    |true=>exact f.2.2 ⟨i,B,D⟩
   .exact f.1 (.inr ⟨j,λi hi=>Z ⟨i,hi⟩,z⟩)
  exact⟨λz=>f.1 (.inl z),λ⟨j,_,z⟩=>q j z,λ⟨j,_,z⟩=>q j z⟩
theorem Uj{H:Hp}{S:Ad}{Fr:Addr->Prop}{d:D}{v:V}{L:List Addr}(Z:clean d=true):Rep G H (wn ob S Fr) d v L↔Rep G H (wn 1.28 (mF cap S) (tE cap S Fr)) d v L:=by
 have q:=(by simpa[clean]using Z:aC d=true/\aB d=true);constructor
 .intro r
  have I:Evo H H (wn ob S Fr) (wn 1.28 (mF cap S) (tE cap S Fr)):=⟨λb u U f=>⟨U,zf.mp f⟩,λ_ _ h=>h⟩;exact r.mono I (.inl q.1) (.inl q.2) λ_ _ _ h=>h
 .intro r
  have I:Evo H H (wn 1.28 (mF cap S) (tE cap S Fr)) (wn ob S Fr):=⟨λb u U f=>⟨U,zf.mpr f⟩,λ_ _ h=>h⟩;exact r.mono I (.inl q.1) (.inl q.2) λ_ _ _ h=>h
theorem Sta.inn{H:Hp}{ρ:En}{σ:L2.St}{S:Ad}{Fr:Addr->Prop}(F:qp cap)(s:Sta G H ob ρ σ S Fr):Sta G H 1.28 (fU cap ρ) (gH cap σ) (mF cap S) (tE cap S Fr)where
 len:=by simp[fU,gH]
 sl:=λi d e=>by
  obtain⟨j,h1,h2⟩:=qK e;obtain⟨v,q1,q2,O⟩:=s.sl j d h2;exact⟨v,zx h1 q1,by rw[Ar h1];exact(Uj O).mp q2,O⟩
 em:=λi h=>by
  unfold mF;split
  .rename_i j e
   exact s.em j λd hd=>h d (zx e hd)
  .rfl
 nd:=λi=>by
  unfold mF;split
  .exact s.nd _
  .exact aap
 dj:=λi k a h1 h2=>by
  obtain⟨B,e1,Z⟩:=jk h1;obtain⟨q,e2,J⟩:=jk h2;have:=s.dj B q a Z J;subst this;exact F i k B e1 e2
 fdj:=λi a h z=>by
  obtain⟨j,e,z⟩:=jk z;rcases h with h|⟨k,I,h⟩
  .exact s.fdj j a h z
  .have:=s.dj j k a z h
   subst this;exact I i e
 fdm:=λa h=>by
  rcases h with h|⟨k,_,h⟩
  .exact s.fdm a h
  .exact s.mu h
def dW:List 1.34->En->En->En
 |some j::cs,d::ds,ρ=>dW cs ds (ρ.set j d)
 |none::cs,_::ds,ρ=>dW cs ds ρ
 |_,_,ρ=>ρ
theorem pJ:∀(cap:List 1.34)(ds ρ:En),(dW cap ds ρ).length=ρ.length
 |[],ds,ρ=>by cases ds<;>rfl
 |some j::cs,[],ρ=>rfl
 |none::cs,[],ρ=>rfl
 |some j::cs,d::ds,ρ=>by rw[dW,pJ cs ds];simp
 |none::cs,d::ds,ρ=>by rw[dW,pJ cs ds]
theorem oM:∀{cap:List 1.34}{ds ρ:En}{j:Nat},(∀i:Nat,cap[i]?≠some (some j))->(dW cap ds ρ)[j]? =ρ[j]?
 |[],ds,ρ,j,_=>by cases ds<;>rfl
 |some k::cs,[],ρ,j,_=>rfl
 |none::cs,[],ρ,j,_=>rfl
 |some k::cs,d::ds,ρ,j,h=>by
  rw[dW,oM λi e=>h (i+1) (by simpa using e),List.getElem?_set_ne λz=>h 0 (by simp[z])]
 |none::cs,d::ds,ρ,j,h=>by rw[dW,oM λi e=>h (i+1) (by simpa using e)]
theorem qH:∀{cap:List 1.34}{ds ρ:En}{i j:Nat}{x:Option D},qp cap->cap[i]? =some (some j)->ds[i]? =some x->j<ρ.length->(dW cap ds ρ)[j]? =some x
 |[],ds,ρ,i,j,x,_,h,_,_=>by simp at h
 |some k::cs,[],ρ,i,j,x,_,_,h,_=>by simp at h
 |none::cs,[],ρ,i,j,x,_,_,h,_=>by simp at h
 |some k::cs,d::ds,ρ,i,j,x,hj,h1,h2,hl=>by
  rw[dW];cases i with
  |zero=>
   have e1:k=j:=by simpa using h1
   have e2:d=x:=by simpa using h2
   subst e1 e2;rw[oM λi e=>?_]
   .simp[hl]
   .have:=hj 0 (i+1) k (by simp) (by simpa using e)
    omega
  |succ i=>exact qH (λa b c h1 h2=>by have:=hj (a+1) (b+1) c (by simpa using h1) (by simpa using h2);omega) (by simpa using h1) (by simpa using h2) (by simpa using hl)
 |none::cs,d::ds,ρ,i,j,x,hj,h1,h2,hl=>by
  rw[dW];cases i with
  |zero=>simp at h1
  |succ i=>exact qH (λa b c h1 h2=>by have:=hj (a+1) (b+1) c (by simpa using h1) (by simpa using h2);omega) (by simpa using h1) (by simpa using h2) hl
def uw(cap:List 1.34)(q S:Ad):Ad:=λj=>match cap.findIdx? (λo=>o==some j)with
 |some i=>q i
 |none=>S j
theorem iV{q S:Ad}{i j:Nat}(F:qp cap)(h:cap[i]? =some (some j)):uw cap q S j=q i:=by
 unfold uw;split
 .rename_i k e
  obtain⟨h1,h2,_⟩:=aan.mp e;have:cap[k]=some j:=by simpa using h2
  rw[F i k j h (by rw[Z0 h1,this])]
 .rename_i e
  have:=abd.mp e (some j) (Z2 h);simp at this
theorem iT{q S:Ad}{j:Nat}(h:∀i:Nat,cap[i]?≠some (some j)):uw cap q S j=S j:=by
 unfold uw;split
 .rename_i k e
  obtain⟨h1,h2,_⟩:=aan.mp e;have:cap[k]=some j:=by simpa using h2
  exact absurd (by rw[Z0 h1,this]) (h k)
 .rfl
theorem gV(cap:List 1.34)(j:Nat):(∃i:Nat,cap[i]? =some (some j))∨(∀i:Nat,cap[i]?≠some (some j)):=by
 by_cases h:∃i:Nat,cap[i]? =some (some j)
 .exact .inl h
 .exact .inr λi z=>h ⟨i,z⟩
theorem Sta.out{H H':Hp}{ρ a3:En}{σ a6:L2.St}{S Si:Ad}{Fr:Addr->Prop}{M:List Addr}(F:qp cap)(s:Sta G H ob ρ σ S Fr)(B:∀i:Nat,cap[i]? =some none->True)(I:∀i j:Nat,cap[i]? =some (some j)->a6[i]? =(gH cap σ)[i]?)
  (si:Sta G H' 1.28 a3 a6 Si (plus M (tE cap S Fr))) (ef:Eff 1.28 H H' (mF cap S) Si M):Sta G H' ob (dW cap a3 ρ) σ (uw cap Si S) 1.31/\Eff ob H H' S (uw cap Si S) M/\
   (∀d v L,clean d=true->Rep G H' (wn 1.28 Si (plus M (tE cap S Fr))) d v L->Rep G H' (wn ob (uw cap Si S) 1.31) d v L):=by
 have a0:∀{a},inO 1.28 (mF cap S) a->inO ob S a:=λ{a}⟨i,h1,h2⟩=>by
  obtain⟨j,e,z⟩:=jk h2;exact⟨j,by rw[←D_ (ob:=ob) e];exact h1,z⟩
 have b0:Eff ob H H' S (uw cap Si S) M:=by
  refine⟨λb u U n=>ef.kp b u U λz=>n (a0 z),λj a4=>?_,λj a a4 z=>?_,λa Y=>(ef.fm a Y).imp a0 id⟩
  .rcases gV cap j with⟨i,hi⟩|hn
   .rw[iV F hi,ef.sn i (by rw[D_ hi];exact a4),Ar hi]
   .exact iT hn
  .rcases gV cap j with⟨i,hi⟩|hn
   .rw[iV F hi]at z
    exact(ef.gr i a (by rw[D_ hi];exact a4) z).imp a0 id
   .rw[iT hn]at z;exact .inl ⟨j,a4,z⟩
 have a5:∀a,(wn 1.28 Si (plus M (tE cap S Fr))).free a->(wn ob (uw cap Si S) 1.31).free a:=λa f=>by
  have nS:∀j,a∉uw cap Si S j:=λj z=>by
   rcases gV cap j with⟨i,hi⟩|hn
   .rw[iV F hi]at z
    cases a9:obC cap ob i with
    |false=>exact f.2.1 ⟨i,a9,z⟩
    |true=>exact f.2.2 ⟨i,a9,z⟩
   .rw[iT hn]at z
    exact f.1 (.inr (.inr ⟨j,hn,z⟩))
  exact⟨λz=>z.elim (λz=>f.1 (.inl z)) λz=>f.1 (.inr (.inl z)),λ⟨j,_,z⟩=>nS j z,λ⟨j,_,z⟩=>nS j z⟩
 have conv:∀d v L,clean d=true->Rep G H' (wn 1.28 Si (plus M (tE cap S Fr))) d v L->Rep G H' (wn ob (uw cap Si S) 1.31) d v L:=λd v L Z r=>by
  have q:=(by simpa[clean]using Z:aC d=true/\aB d=true);have ev:Evo H' H' (wn 1.28 Si (plus M (tE cap S Fr))) (wn ob (uw cap Si S) 1.31):=⟨λb u U f=>⟨U,a5 b f⟩,λ_ _ h=>h⟩;exact r.mono ev (.inl q.1) (.inl q.2) λ_ _ _ h=>h
 have a1:∀{j a},(∀i:Nat,cap[i]?≠some (some j))->a∈S j->∀i,a∉Si i:=λ{j a} hn z i y=>si.fdj i a (.inr (.inr ⟨j,hn,z⟩)) y;refine⟨⟨by rw[pJ];exact s.len,λj d hd=>?_,λj hd=>?_,λj=>?_,λj k a h1 h2=>?_,λj a h z=>?_,λa h=>?_⟩,b0,conv⟩
 .rcases gV cap j with⟨i,hi⟩|hn
  .have D:j<ρ.length:=by
    have:=(List.getElem?_eq_some_iff.mp hd).1;rwa[pJ]at this
   cases J:a3[i]? with
   |none=>
    have h1:a3.length<=i:=abz.mp J;have h2:a6.length<=i:=by rw[←si.len];exact h1
    have h3:=I i j hi;rw[abz.mpr h2]at h3;have V:(gH cap σ).length<=i:=abz.mp h3.symm;have h5:i<cap.length:=(List.getElem?_eq_some_iff.mp hi).1;simp[gH]at V;omega
   |some x=>
    rw[qH F hi J D]at hd;cases hd;obtain⟨v,q1,q2,O⟩:=si.sl i d J;rw[I i j hi]at q1;obtain⟨j',e1,e2⟩:=qK q1;rw[hi]at e1;cases e1;exact⟨v,e2,by rw[iV F hi];exact conv _ _ _ O q2,O⟩
  .rw[oM hn]at hd
   obtain⟨v,q1,q2,O⟩:=s.sl j d hd;refine⟨v,q1,?_,O⟩;rw[iT hn];have q:=(by simpa[clean]using O:aC d=true/\aB d=true);refine q2.mono (b0.evo s) (.inl q.1) (.inl q.2) λc Z u hu=>?_;exact ef.kp c u hu λ⟨i,_,z⟩=>by
    obtain⟨k,e,z⟩:=jk z;have:=s.dj j k c Z z;subst this;exact hn i e
 .rcases gV cap j with⟨i,hi⟩|hn
  .rw[iV F hi]
   refine si.em i λd a8=>?_;by_cases D:j<ρ.length
   .exact hd d (qH F hi a8 D)
   .
    obtain⟨v,q1,_⟩:=si.sl i d a8;rw[I i j hi]at q1;obtain⟨j',e1,e2⟩:=qK q1;rw[hi]at e1;cases e1;have:=(List.getElem?_eq_some_iff.mp e2).1;rw[←s.len]at this;exact D this
  .rw[iT hn]
   exact s.em j λd=>by have:=hd d;rwa[oM hn]at this
 .rcases gV cap j with⟨i,hi⟩|hn
  .rw[iV F hi];exact si.nd i
  .rw[iT hn];exact s.nd j
 .rcases gV cap j with⟨i,hi⟩|hn<;>rcases gV cap k with⟨i',a2⟩|a7
  .rw[iV F hi]at h1
   rw[iV F a2]at h2;have:=si.dj i i' a h1 h2;subst this;rw[hi]at a2;cases a2;rfl
  .rw[iV F hi]at h1
   rw[iT a7]at h2;exact absurd h1 (a1 a7 h2 i)
  .rw[iT hn]at h1
   rw[iV F a2]at h2;exact absurd h2 (a1 hn h1 i')
  .rw[iT hn]at h1
   rw[iT a7]at h2;exact s.dj j k a h1 h2
 .rcases gV cap j with⟨i,hi⟩|hn
  .rw[iV F hi]at z
   exact si.fdj i a (h.imp id .inl) z
  .rw[iT hn]at z
   rcases h with h|h
   .rcases ef.fm a h with y|y
    .obtain⟨k,_,y⟩:=a0 y
     have:=s.dj j k a z y;subst this;obtain⟨i,hi,y'⟩:∃i,obC cap ob i=true/\a∈mF cap S i:=by assumption
     obtain⟨k',e,y'⟩:=jk y';have:=s.dj j k' a z y';subst this;exact hn i e
    .obtain⟨o,B,_⟩:=s.mu z
     rw[y]at B;cases B
   .exact s.fdj j a h z
 .rcases h with h|h
  .exact si.fdm a (.inl h)
  .exact si.fdm a (.inr (.inl h))
end
section
variable{ι:Type}{X:ι->Cx}{G:Gc}{ob own:Nat->Bool}
def UG(G:Gc)(ob own:Nat->Bool)(g:TG)(f:D->En->Option En):Prop:=∀(d:D)(ρ I:En),f d ρ=some I->∀(x:V)(σ:L2.St)(H:Hp)(S:Ad)(Fr:Addr->Prop),Sta G H ob ρ σ S Fr->(∀i,own i=true->S i=[])->Rep G H (wn ob S Fr) d x []->∀Q:L2.St->Hp->Prop,
 (∀Y,Sta G H ob I Y S Fr->(∀j,own j=false->Y[j]? =σ[j]?)->Q Y H)->g x σ H Q
theorem Ik{i:Nat}(B:own i=true):UG G ob own (yH i) (tgN i):=λd ρ I e x σ H S Fr s D r Q q=>by
 unfold tgN at e;split at e
 .rename_i hc
  cases e;refine q _ ⟨by simp[s.len],λj d' F=>?_,λj F=>?_,s.nd,s.dj,s.fdj,s.fdm⟩ λj F=>?_
  .by_cases ej:i=j
   .subst ej
    rw[acv]at F;split at F
    .split at F
     .rename_i h2
      have:d=d':=by simpa using F
      subst this;exact⟨x,by simp[←s.len,h2],by rw[D i B];exact r,hc⟩
     .cases F
    .exact absurd rfl ‹_›
   .rw[List.getElem?_set_ne ej]at F
    obtain⟨v,h1,h2,Z⟩:=s.sl j d' F;exact⟨v,by rw[List.getElem?_set_ne ej];exact h1,h2,Z⟩
  .by_cases ej:i=j
   .subst ej;exact D i B
   .exact s.em j λd'=>by have:=F d';rwa[List.getElem?_set_ne ej]at this
  .have:i≠j:=λz=>by rw[←z,B]at F;cases F
   rw[List.getElem?_set_ne this]
 .cases e
structure W0{ι:Type}(X:ι->Cx)(G:Gc)(ob own:Nat->Bool)(tg:Expr)(f:D->En->Option En):Prop where
 mk::(ex:∃t,(∀c,PG (X c) tg t)/\UG G ob own t f)
theorem Jm(i:Nat){x:Str}{pos:Pos}(U:∀c,(X c).N.Nodup)(B:own i=true:=by rfl)(hi:∀c,(X c).N[i]? =some x:=by intro _;rfl)(J:∀c,Loc (X c).env.scope x:=by intro _;first|exact abf rfl|exact aaQ rfl)(D:∀c,(X c).fn x=true∨(X c).env.scope.names.lookup x=some .local:=by intro _;first|exact .inl rfl|exact .inr rfl):W0 X G ob own (.Name x pos) (tgN i):=⟨_,λc=>zy (U c) (hi c) (J c) (D c),Ik B⟩
def lz(cap:List 1.34)(tg:D->En->Option En)(c:En->Option Bool)(e:En->Option (D×En)):List D->En->Option (List D×En)
 |[],ρ=>some ([],ρ)
 |d::r,ρ=>(tg d (fU cap ρ)).bind λρ1=>(c ρ1).bind λb=>if b=true then(e ρ1).bind λp=>if clean p.1=true then(lz cap tg c e r (dW cap p.2 ρ)).map λt=>(p.1::t.1,t.2)else none else lz cap tg c e r ρ
def gk(cap:List 1.34)(it:En->Option (Bool×List D))(tg:D->En->Option En)(c:En->Option Bool)(e:En->Option (D×En)):En->Option (D×En):=λρ=>(it ρ).bind λp=>if p.1=true/\p.2.length<=1000000 then(lz cap tg c e p.2 ρ).map λt=>(.lst .own t.1,t.2)else none
theorem Mw{cap:List 1.34}{wi:TI}{g:TG}{tt:TT}{te:TE}{it:En->Option (Bool×List D)}{tg:D->En->Option En}{c:En->Option Bool}{e:En->Option (D×En)}(hj:qp cap)(a7:∀i:Nat,own i=true->cap[i]?≠none->cap[i]? =some none)(hi:RfI G ob wi it)(hg:UG G 1.28 own g tg)(Y:RfT G 1.28 tt c)(V:j5 G 1.28 te e) :
  j5 G ob (Nb cap wi g tt te) (gk cap it tg c e):=λρ d d2 ee σ H S Fr s Q q=>by
 unfold gk at ee;cases h1:it ρ with
 |none=>simp[h1]at ee
 |some p=>
  obtain⟨b,items⟩:=p;rw[h1]at ee;simp![Hq]at ee;split at ee
  .rename_i a1
   obtain⟨U,a1⟩:=a1;change b=true at U;change items.length<=1000000 at a1;subst U;cases h2:lz cap tg c e items ρ with
   |none=>simp[h2]at ee
   |some w=>
    obtain⟨a9,a5⟩:=w;obtain⟨rfl,rfl⟩:D.lst .own a9=d/\a5=d2:=by simpa[h2]using ee
    refine hi ρ true items h1 σ H _ s.rel s.wok _ λJ H1 sm wk=>?_;have F:Sta G H1 ob ρ σ S Fr:=s.grow sm λa z=>.inl z;have e1:Eff ob H H1 S S []:=⟨λb u h _=>sm b u h,λ_ _=>rfl,λi a h z=>.inl ⟨i,h,z⟩,by simp⟩;refine⟨λi m ys H2=>i+m=items.length/\ys.length<=i/\∃ρ2 S2 acc L rest,Sta G H2 ob ρ2 σ S2 (plus L Fr)/\aF G H2 (wn ob S2 (plus L Fr)) acc ys L/\L.Nodup/\az acc=true/\aA acc=true/\Eff ob H1 H2 S S2 L/\lz cap tg c e (items.drop i) ρ2=some (rest,a5)/\acc++rest=a9,
     ⟨items.length,by omega,by simp,ρ,S,[],[],a9,by rw[rY];exact F,.nil,aap,rfl,rfl,.refl,h2,rfl⟩,?_⟩
    rintro i m ys H2 ⟨d3,d4,ρ2,S2,acc,L,rest,s2,ra,na,b1,b4,ef,a0,a2⟩;have lt:LtB true H1 (wn ob S Fr) H2 (wn 1.28 (mF cap S2) (tE cap S2 (plus L Fr))):=sI ⟨λb u U f=>let⟨h1,h2⟩:=(ef.evo F).k b u U f;⟨h1,zf.mp h2⟩,(ef.evo F).t⟩;by_cases b2:i<items.length
    .have hdr:=(abQ b2).symm
     rw[hdr,lz]at a0;refine .inr ⟨wk.go i items[i] (by simp[b2]) H2 _ lt,by have:=six a1;omega,λb7 H'=>(i+1)+(m-1)=items.length/\b7.length<=i+1/\∃ρ2 S2 acc L rest,Sta G H' ob ρ2 σ S2 (plus L Fr)/\aF G H' (wn ob S2 (plus L Fr)) acc b7 L/\L.Nodup/\az acc=true/\aA acc=true/\Eff ob H1 H' S S2 L/\lz cap tg c e (items.drop (i+1)) ρ2=some (rest,a5)/\acc++rest=a9,λb7 H' h=>⟨m-1,by omega,h⟩,λx H3 hy=>?_⟩;obtain⟨s3,rx⟩:=wk.yld i items[i] (by simp[b2]) H2 _ lt x H3 hy;have c4:Sta G H3 ob ρ2 σ S2 (plus L Fr):=s2.grow s3 λa z=>.inl z;have c9:Eff ob H1 H3 S S2 L:=ef.same s3 λc Z=>.inl Z;have d1:aF G H3 (wn ob S2 (plus L Fr)) acc ys L:=ra.up (Up.same s3);have si:=c4.inn (cap:=cap) hj;cases h3:tg items[i] (fU cap ρ2)with
     |none=>simp[h3]at a0
     |some a3=>
      rw[h3]at a0;simp![Hq]at a0;have c6:∀k,own k=true->mF cap S2 k=[]:=λk I=>by
       unfold mF;split
       .rename_i j e
        rw[a7 k I (by rw[e];simp)]at e;cases e
       .rfl
      refine hg items[i] _ a3 h3 x _ H3 _ (tE cap S2 (plus L Fr)) si c6 rx _ λa8 s4 c0=>⟨Ft a7 c0,?_⟩;cases h4:c a3 with
      |none=>simp[h4]at a0
      |some bb=>
       rw[h4]at a0;simp![Hq]at a0;refine Y a3 bb h4 a8 H3 _ s4.rel s4.wok _ λH4 b0=>?_;have a6:Sta G H4 ob ρ2 σ S2 (plus L Fr):=c4.grow b0 λa z=>.inl z;have c8:Sta G H4 1.28 a3 a8 (mF cap S2) (tE cap S2 (plus L Fr)):=s4.grow b0 λa z=>.inl z;have b8:Eff ob H1 H4 S S2 L:=c9.same b0 λc Z=>.inl Z;have b5:aF G H4 (wn ob S2 (plus L Fr)) acc ys L:=d1.up (Up.same b0);cases bb with
       |false=>
        simp![aaj,aaN]at a0;exact u_ ⟨by omega,by omega,ρ2,S2,acc,L,rest,a6,b5,na,b1,b4,b8,a0,a2⟩
       |true=>
        simp![aab]at a0;cases h5:e a3 with
        |none=>simp[h5]at a0
        |some w=>
         obtain⟨y,b3⟩:=w;rw[h5]at a0;simp![Hq]at a0;split at a0
         .rename_i hcy
          cases h6:lz cap tg c e (items.drop (i+1)) (dW cap b3 ρ2)with
          |none=>simp[h6]at a0
          |some w=>
           obtain⟨a4,c1⟩:=w;obtain⟨rfl,rfl⟩:y::a4=rest/\c1=a5:=by simpa[h6]using a0
           refine sI (V a3 y b3 h5 a8 H4 _ _ c8 _ λv H5 M S5 s5 ry ny c7=>?_);have d0:∀i j:Nat,cap[i]? =some (some j)->a8[i]? =(gH cap σ)[i]?:=λi j hi=>c0 i (by
            cases B:own i with
            |false=>rfl
            |true=>rw[a7 i B (by rw[hi];simp)]at hi;cases hi)
           obtain⟨o1,o2,o3⟩:=a6.out hj (λ_ _=>trivial) d0 s5 c7;have c3:=(by simpa[clean]using hcy:aC y=true/\aB y=true);have b9:=b5.mono (o2.evo a6) (.inl b1) (.inl b4) λc Z u hu=>o2.keepsF a6 (.inl Z) u hu;rw[pq]at o1 b9;have c2:=o3 y v M hcy ry;rw[pq]at c2;have c5:∀a∈L,a∉M:=λa z1 z2=>by
            rcases o2.fm a z2 with y|y
            .exact a6.notO (.inl z1) y
            .obtain⟨o,B,_⟩:=b5.dom a z1
             rw[y]at B;cases B
           exact⟨by omega,by simp;omega,dW cap b3 ρ2,_,acc++[y],L++M,a4,o1,b9.append (.one c2),fu na ny c5,by rw[bR];simp[b1,az,c3],by rw[bQ];simp[b4,aA,c3],b8.trans o2,h6,by rw[←a2];simp⟩
         .cases a0
    .have hl:i=items.length:=by omega
     subst hl;rw[abK,lz]at a0;obtain⟨rfl,rfl⟩:[]=rest/\ρ2=a5:=by simpa using a0
     refine .inl ⟨wk.stop H2 _ lt,ab8 (six 1.11),λp hp=>?_⟩;have b6:Same H2 (upd H2 p (.lst ys)):=Same.new hp;rw[List.append_nil]at a2;subst a2;have np:p∉L:=λz=>by obtain⟨o,B,_⟩:=ra.dom p z;rw[hp]at B;cases B
     have O:Rep G (upd H2 p (.lst ys)) (wn ob S2 (plus (p::L) Fr)) (.lst .own acc) (.ref p) (p::L):=by
      rw[Rep];exact⟨p,ys,L,rfl,ra.up ⟨b6,λb u U f=>⟨λz=>z.elim (λz=>(ZR.mp z).elim (λz=>by rw[z,hp]at U;cases U) λz=>f.1 (.inl z)) λz=>f.1 (.inr z),f.2⟩,λ_ _ _ f=>f⟩,aZ,rfl⟩
     refine q (.ref p) _ (p::L) S2 (s2.grow b6 λa z=>?_) O (Z8.mpr ⟨np,na⟩) ?_
     .rcases z with z|z
      .rcases ZR.mp z with z|z
       .exact .inr ⟨by rw[z];exact hp,O.dom a (by simp[z])⟩
       .exact .inl (.inl z)
      .exact .inl (.inr z)
     .exact(e1.trans ef).same b6 λc Z=>(ZR.mp Z).elim (λz=>.inr (by rw[z];exact hp)) λz=>.inl (by simpa using z)
  .cases ee
section
variable{elt target iter:Expr}{ifs:List Expr}{scope:Scope}{pos pos' pos2:Pos}{N':List Str}{it:En->Option (Bool×List D)}{tg:D->En->Option En}{fc:En->Option Bool}
theorem o6(cap:List 1.34)(own:Nat->Bool){fe:En->Option D}(J:∀c,(X c).xe=NoX)(Z:∀c,(X c).calm=true)(O:∀c,eG (X c).env.scope (X c).N N' scope cap)(z:∀i:Nat,own i=true->cap[i]?≠none->cap[i]? =some none)(hi:PVI X G ob target iter it)(q:JL (InX X N' scope) G 1.28 own target tg)(Y:JH (InX X N' scope) G 1.28 ifs fc)(V:PV (InX X N' scope) G 1.28 elt fe)
  (B:∀c,∀x,aa8 iter (X c).env x=pure x:=by intro _ _;rfl):PV X G ob (.ListComp elt [⟨target,iter,ifs,0⟩] scope pos) (fY cap it tg fc fe):=
 let⟨_,i1,i2⟩:=hi.ex;let⟨_,g1,g2⟩:=q.ex;let⟨_,t1,t2⟩:=Y.ex;let⟨_,e1,e2⟩:=V.ex
 ⟨_,λc=>Ha (J c) (Z c) (O c) (i1 c) (λC s H fp=>g1 (c,C,s,H,fp)) (λC s H fp=>t1 (c,C,s,H,fp)) (λC s H fp=>e1 (c,C,s,H,fp)) (B c),O_ z i2 g2 t2 e2⟩
theorem Lr(cap:List 1.34)(own:Nat->Bool){fe:En->Option (D×En)}(J:∀c,(X c).xe=NoX)(Z:∀c,(X c).calm=true)(O:∀c,eG (X c).env.scope (X c).N N' scope cap)(F:qp cap)(z:∀i:Nat,own i=true->cap[i]?≠none->cap[i]? =some none)(hi:PVI X G ob target iter it)(q:W0 (InX X N' scope) G 1.28 own target tg)(Y:JH (InX X N' scope) G 1.28 ifs fc)(V:PVe (InX X N' scope) G 1.28 elt fe)
  (B:∀c,∀x,aa8 iter (X c).env x=pure x:=by intro _ _;rfl):PVe X G ob (.ListComp elt [⟨target,iter,ifs,0⟩] scope pos) (gk cap it tg fc fe):=
 let⟨_,i1,i2⟩:=hi.ex;let⟨_,g1,g2⟩:=q.ex;let⟨_,t1,t2⟩:=Y.ex;let⟨_,e1,e2⟩:=V.ex
 ⟨_,λc=>Ha (J c) (Z c) (O c) (i1 c) (λC s H fp=>g1 (c,C,s,H,fp)) (λC s H fp=>t1 (c,C,s,H,fp)) (λC s H fp=>e1 (c,C,s,H,fp)) (B c),Mw F z i2 g2 t2 e2⟩
end
end
inductive Sc:Dt->Dt->Prop
 |bl (a b:Bool):Sc (.bl a) (.bl b)
 |int (a b:Int):Sc (.int a) (.int b)
 |str (a b:Str):Sc (.str a) (.str b)
 |non:Sc .non .non
def Flt(d e:Dt):Prop:=∃a b,d= .tup a/\e= .tup b/\∀p∈a.zip b,Sc p.1 p.2
def WM(d e:Dt):Prop:=∃a b,d= .lst a/\e= .lst b/\∀p∈a.zip b,Sc p.1 p.2
inductive Alk:Dt->Dt->Prop
 |sc {d e:Dt}:Sc d e->Alk d e
 |lst {a b:List Dt}:(∀p∈a.zip b,Sc p.1 p.2)->Alk (.lst a) (.lst b)
 |tup {a b:List Dt}:(∀p∈a.zip b,Sc p.1 p.2)->Alk (.tup a) (.tup b)
 |deep {a b:List Dt}:(∀p∈a.zip b,Flt p.1 p.2)->Alk (.lst a) (.lst b)
 |deepL {a b:List Dt}:(∀p∈a.zip b,WM p.1 p.2)->Alk (.lst a) (.lst b)
 |deepT {a b:List Dt}:(∀p∈a.zip b,Flt p.1 p.2)->Alk (.tup a) (.tup b)
section
variable{X:Cx}{pins:List (Addr×Obj)}{σ:L2.St}{H:Hp}{s:Shared}{A:Around}
open PySem.SeqAt
theorem GR{d e:Dt}{v u:V}{F z:Value}(h:Sc d e)(h1:Brs X.K H d v)(h2:Brs X.K H e u)(Z:RelV v F)(J:RelV u z):EqAt A s F z (eqD d e)/\RcAt A s F z (eqD d e)/\RcNeAt A s F z (!eqD d e):=by
 cases h<;>simp![Brs]at h1 h2<;>subst h1 h2
 case bl a b=>cases Z;cases J;exact⟨EqAt.bool_bool a b,RcAt.bool_bool a b,RcNeAt.bool_bool a b⟩
 case int a b=>obtain⟨t,rfl⟩:=Z;obtain⟨t',rfl⟩:=J;exact⟨EqAt.int_int a t b t',RcAt.int_int a t b t',RcNeAt.int_int a t b t'⟩
 case non=>cases Z;cases J;exact⟨ags _,RcAt.none_none,RcNeAt.none_none⟩
 case str a b=>obtain⟨t,rfl⟩:=Z;obtain⟨t',rfl⟩:=J;exact⟨EqAt.str_str a t b t',RcAt.str_str a t b t',RcNeAt.str_str a t b t'⟩
theorem vB{R:Dt->Dt->Prop}(B:∀{d e:Dt}{v u:V}{v' z:Value},R d e->Brs X.K H d v->Brs X.K H e u->RelV v v'->RelV u z->EqAt A s v' z (eqD d e)):∀{ds es:List Dt}{ys xs:List V}{Y its:List Value},(∀p∈ds.zip es,R p.1 p.2)->jJ X.K H ds ys->jJ X.K H es xs->Vals ys Y->Vals xs its->
  ∀j (h1:j<Y.toArray.size)(h2:j<its.toArray.size),EqAt A s Y.toArray[j] its.toArray[j] (eqJ ds es j)
 |[],es,ys,xs,Y,its,_,h,h',r,r',j,h1,h2=>by
  simp![jJ]at h;subst h;cases r;simp at h1
 |d::ds,[],ys,xs,Y,its,_,h,h',r,r',j,h1,h2=>by
  simp![jJ]at h';subst h';cases r';simp at h2
 |d::ds,e::es,ys,xs,Y,its,ha,h,h',r,r',j,h1,h2=>by
  simp![jJ]at h h';obtain⟨y,a0,rfl,hd,O⟩:=h;obtain⟨x,I,rfl,D,J⟩:=h';cases r with
  |cons q rb=>
   cases r' with
   |cons U Z=>
    cases j with
    |zero=>exact B (ha (d,e) (by simp)) hd D q U
    |succ j=>exact vB B (λp F=>ha p (by simp[F])) O J rb Z j (by simpa using h1) (by simpa using h2)
theorem yQ(I:Inv X pins σ H s){R:Dt->Dt->Prop}(hR:∀{d e:Dt}{v u:V}{F z:Value},R d e->Brs X.K H d v->Brs X.K H e u->RelV v F->RelV u z->EqAt A.in1 s F z (eqD d e)){ds es:List Dt}{v u:V}{F z:Value}(h:∀p∈ds.zip es,R p.1 p.2)(h1:Brs X.K H (.lst ds) v)(h2:Brs X.K H (.lst es) u)(Z:RelV v F)(J:RelV u z)(hz:A.units<cLine):RcAt A s F z (eqD (.lst ds) (.lst es))/\RcNeAt A s F z (!eqD (.lst ds) (.lst es)):=by
 simp![Brs]at h1 h2;obtain⟨B,a6,rfl,a4,U⟩:=h1;obtain⟨a2,a7,rfl,a5,q⟩:=h2;cases Z;cases J;obtain⟨Y,a3,p1,_⟩:=I.list a4;obtain⟨D,a0,p2,_⟩:=I.list a5;have l1:=U.length;have l2:=q.length;have l3:=a3.length;have l4:=a0.length;rw[show eqD (.lst ds) (.lst es)=eqL ds es by simp[eqD]];by_cases O:ds.length=es.length
 .have e1:Y.toArray.size=D.toArray.size:=by rw[List.size_toArray,List.size_toArray];omega
  have e2:ds.length=Y.toArray.size:=by rw[List.size_toArray];omega
  rw[←Aa O,e2];exact⟨RcAt.lists p1.isList p2.isList e1 hz (vB hR h U q a3 a0),RcNeAt.lists p1.isList p2.isList e1 hz (vB hR h U q a3 a0)⟩
 .have e1:(Y.toArray.size !=D.toArray.size)=true:=by rw[List.size_toArray,List.size_toArray];exact bne_iff_ne.mpr 1.11
  rw[yZ O];exact⟨RcAt.lists_lengths p1.isList p2.isList e1 hz,RcNeAt.lists_lengths p1.isList p2.isList e1 hz⟩
theorem Gp(I:Inv X pins σ H s){R:Dt->Dt->Prop}(hR:∀{d e:Dt}{v u:V}{F z:Value},R d e->Brs X.K H d v->Brs X.K H e u->RelV v F->RelV u z->EqAt A.in1 s F z (eqD d e)){ds es:List Dt}{v u:V}{F z:Value}(h:∀p∈ds.zip es,R p.1 p.2)(h1:Brs X.K H (.tup ds) v)(h2:Brs X.K H (.tup es) u)(Z:RelV v F)(J:RelV u z)(hz:A.units<cLine):RcAt A s F z (eqD (.tup ds) (.tup es))/\RcNeAt A s F z (!eqD (.tup ds) (.tup es)):=by
 simp![Brs]at h1 h2;obtain⟨B,a6,rfl,a4,U⟩:=h1;obtain⟨a2,a7,rfl,a5,q⟩:=h2;cases Z;cases J;obtain⟨Y,a3,p1,_⟩:=I.tuple a4;obtain⟨D,a0,p2,_⟩:=I.tuple a5;have l1:=U.length;have l2:=q.length;have l3:=a3.length;have l4:=a0.length;have e:eqD (.tup ds) (.tup es)=((aaz (min Y.toArray.size D.toArray.size)).all (eqJ ds es)&&Y.toArray.size==D.toArray.size):=by
  rw[show eqD (.tup ds) (.tup es)=eqL ds es by simp[eqD],List.size_toArray,List.size_toArray];by_cases O:ds.length=es.length
  .rw[show min Y.length D.length=ds.length by omega,Aa O,show(Y.length==D.length)=true by simp;omega,Bool.and_true]
  .rw[yZ O,show(Y.length==D.length)=false by simp;omega,ago]
 rw[e];exact⟨RcAt.tuples p1 p2 hz (vB hR h U q a3 a0),RcNeAt.tuples p1 p2 hz (vB hR h U q a3 a0)⟩
theorem OD(I:Inv X pins σ H s){ds es:List Dt}{v u:V}{F z:Value}(h:∀p∈ds.zip es,Sc p.1 p.2)(h1:Brs X.K H (.tup ds) v)(h2:Brs X.K H (.tup es) u)(Z:RelV v F)(J:RelV u z)(hz:A.units<cLine):RcAt A s F z (eqD (.tup ds) (.tup es))/\RcNeAt A s F z (!eqD (.tup ds) (.tup es)):=
 Gp I (λh a b c d=>(GR h a b c d).1) h h1 h2 Z J hz
theorem zO{K:ZC}:∀{ds es:List Dt}{xs:List V},(∀p∈ds.zip es,Sc p.1 p.2)->jJ K H ds xs->jJ K H es xs->eqL ds es=true
 |[],[],_,_,_,_=>by simp[eqL]
 |[],_::_,_,_,h,h'=>by simp![jJ]at h;subst h;simp[jJ]at h'
 |_::_,[],_,_,h,h'=>by simp![jJ]at h';subst h';simp[jJ]at h
 |d::r,e::q,_,ha,h,h'=>by
  simp![jJ]at h h';obtain⟨x,ys,rfl,hd,O⟩:=h;obtain⟨_,_,e1,D,J⟩:=h';cases e1;rw[eqL,zO (λp F=>ha p (by simp[F])) O J,Bool.and_true];have B:=ha (d,e) (by simp);dsimp only at B;cases B<;>simp![Brs]at hd D<;>rw[hd]at D<;>first|(cases D;simp[eqD])|simp[eqD]
theorem M4(I:Inv X pins σ H s)(hz:A.units<cLine){d e:Dt}{v u:V}{F z:Value}(h:Flt d e)(h1:Brs X.K H d v)(h2:Brs X.K H e u)(Z:RelV v F)(J:RelV u z):EqAt A s F z (eqD d e):=by
 obtain⟨a,b,rfl,rfl,h⟩:=h;have Y:=(OD I h h1 h2 Z J hz).1;simp![Brs]at h1 h2;obtain⟨B,a3,rfl,D,U⟩:=h1;obtain⟨a2,a4,rfl,O,q⟩:=h2;cases Z;cases J;by_cases a0:B=a2
 .subst a0
  obtain rfl:=I.tuple_inj D O;rw[show eqD (.tup a) (.tup b)=true by rw[eqD];exact zO h U q];exact ags _
 .exact EqAt.of_refs a0 Y
theorem Qs(I:Inv X pins σ H s)(hz:A.units<cLine){d e:Dt}{v u:V}{F z:Value}(h:WM d e)(h1:Brs X.K H d v)(h2:Brs X.K H e u)(Z:RelV v F)(J:RelV u z):EqAt A s F z (eqD d e):=by
 obtain⟨a,b,rfl,rfl,h⟩:=h;have Y:=(yQ I (λh a b c d=>(GR h a b c d).1) h h1 h2 Z J hz).1;simp![Brs]at h1 h2;obtain⟨B,a3,rfl,D,U⟩:=h1;obtain⟨a2,a4,rfl,O,q⟩:=h2;cases Z;cases J;by_cases a0:B=a2
 .subst a0
  obtain rfl:=I.list_inj D O;rw[show eqD (.lst a) (.lst b)=true by rw[eqD];exact zO h U q];exact ags _
 .exact EqAt.of_refs a0 Y
theorem Nu(I:Inv X pins σ H s){d e:Dt}{v u:V}{F z:Value}(h:Alk d e)(h1:Brs X.K H d v)(h2:Brs X.K H e u)(Z:RelV v F)(J:RelV u z)(hz:A.units+1<cLine):RcAt A s F z (eqD d e)/\RcNeAt A s F z (!eqD d e):=by
 cases h with
 |sc h=>exact(GR h h1 h2 Z J).2
 |lst h=>exact yQ I (λh a b c d=>(GR h a b c d).1) h h1 h2 Z J 1.11
 |tup h=>exact OD I h h1 h2 Z J 1.11
 |deepL h=>exact yQ I (λh a b c d=>Qs I (show A.units+1<cLine from hz) h a b c d) h h1 h2 Z J 1.11
 |deepT h=>exact Gp I (λh a b c d=>M4 I (show A.units+1<cLine from hz) h a b c d) h h1 h2 Z J 1.11
 |deep h=>exact yQ I (λh a b c d=>M4 I (show A.units+1<cLine from hz) h a b c d) h h1 h2 Z J 1.11
def X6(K:ZC)(A:aaC):R2:=λx y H Q=>∃d e,Alk d e/\Brs K H d x/\Brs K H e y/\A.units+1<cLine/\Q (.bl (eqD d e)) H
def XS(K:ZC)(A:aaC):R2:=λx y H Q=>∃d e,Alk d e/\Brs K H d x/\Brs K H e y/\A.units+1<cLine/\Q (.bl (!eqD d e)) H
theorem Wl:OpR X (aaA .Eq) (X6 X.K X.A):=by
 intro pins s σ H x y v u Q I rx U ⟨d,e,h,h1,h2,J,q⟩;exact(Nu I h h1 h2 rx U J).1 _ _ _ _ ⟨.bl (eqD d e),H,I,rfl,q⟩
theorem V7:OpR X (aaA .NotEq) (XS X.K X.A):=by
 intro pins s σ H x y v u Q I rx U ⟨d,e,h,h1,h2,J,q⟩;exact(Nu I h h1 h2 rx U J).2 _ _ _ _ ⟨.bl (!eqD d e),H,I,rfl,q⟩
end
theorem OpR.or{f:Value->Value->Sem Value}{r F:R2}(h:OpR Y f r)(h':OpR Y f F):OpR Y f (λx y H Q=>r x y H Q∨F x y H Q):=λpins s σ H x y v u Q I rx U q=>q.elim (h pins s σ H x y v u Q I rx U) (h' pins s σ H x y v u Q I rx U)
theorem fZ.or{f:Value}{z:List V->Hp->VK->Prop}(h:fZ Y f r)(h':fZ Y f z):fZ Y f (λxs H Q=>r xs H Q∨z xs H Q):=λpins s σ H xs us Q I F q=>q.elim (h pins s σ H xs us Q I F) (h' pins s σ H xs us Q I F)
variable{i:Int}
theorem di:Rep G H W (.int i) (.int i) []:=by rw[Rep];exact⟨rfl,rfl⟩
theorem rT{i:Str}:Rep G H W (.str i) (.str i) []:=by rw[Rep];exact⟨rfl,rfl⟩
theorem gW{i:Bool}:Rep G H W (.bl i) (.bl i) []:=by rw[Rep];exact⟨rfl,rfl⟩
theorem bw(r:Rep G H W (.int i) v L):v= .int i/\L=[]:=by rw[Rep]at r;exact r
theorem cB{i:Str}(r:Rep G H W (.str i) v L):v= .str i/\L=[]:=by rw[Rep]at r;exact r
theorem vm{i:Bool}(r:Rep G H W (.bl i) v L):v= .bl i/\L=[]:=by rw[Rep]at r;exact r
variable{g:Int->Int->V}{z:D->D->Option D}
theorem G6{C:Int->Int->Prop}(h:∀dx B d,z dx B=some d->∃i j,dx= .int i/\B= .int j/\C i j/\∀H W,Rep G H W d (g i j) []):OpV G (rI C g) z:=λdx B d e x y H W I Ly rx U nd hn w Q q=>by
 obtain⟨i,j,rfl,rfl,Z,O⟩:=h dx B d e;obtain⟨rfl,rfl⟩:=bw rx;obtain⟨rfl,rfl⟩:=bw U;exact⟨i,j,rfl,rfl,Z,q.scal (λW=>O H W)⟩
theorem Ez(h:∀dx Z d,z dx Z=some d->∃i j,dx= .int i/\Z= .int j/\∀H W,Rep G H W d (g i j) []):OpV G (rI0 g) z:=λdx Z d e x y H W I Ly rx U nd hn w Q q=>by
 obtain⟨i,j,rfl,rfl,O⟩:=h dx Z d e;obtain⟨rfl,rfl⟩:=bw rx;obtain⟨rfl,rfl⟩:=bw U;exact⟨i,j,rfl,rfl,q.scal (λW=>O H W)⟩
def iY:D->D->Option D
 |.int a,.int b=>some (.int (a-b))
 |_,_=>none
def nQ:D->D->Option D
 |.int a,.int b=>if(-(2 ^ 64)<a/\a<2 ^ 64)∨(-(2 ^ 64)<b/\b<2 ^ 64)then some (.int (a*b))else none
 |_,_=>none
def m9:D->D->Option D
 |.int a,.int b=>if 0<b/\b<18446744073709551616 then some (.int (a / b))else none
 |_,_=>none
def mO:D->D->Option D
 |.int a,.int b=>if 0<b then some (.int (a % b))else none
 |_,_=>none
def nq:D->D->Option D
 |.int a,.int b=>if 0<=b/\b<=1000000/\a.natAbs<2 ^ 64 then some (.int (a ^ b.toNat))else none
 |_,_=>none
theorem oR:OpB X G (aa3 .Sub) iY:=⟨_,λc=>U3,Ez λdx Z d e=>by
 unfold iY at e;split at e
 .cases e;exact⟨_,_,rfl,rfl,λ_ _=>di⟩
 .cases e⟩
theorem sO:OpB X G (aa3 .Mult) nQ:=⟨_,λc=>V4,G6 λdx Z d e=>by
 unfold nQ at e;split at e
 .split at e
  .cases e;exact⟨_,_,rfl,rfl,‹_›,λ_ _=>di⟩
  .cases e
 .cases e⟩
theorem za:OpB X G (aa3 .FloorDiv) m9:=⟨_,λc=>L_,G6 λdx Z d e=>by
 unfold m9 at e;split at e
 .split at e
  .cases e;exact⟨_,_,rfl,rfl,‹_›,λ_ _=>di⟩
  .cases e
 .cases e⟩
theorem n6:OpB X G (aa3 .Mod) mO:=⟨_,λc=>Vh,G6 λdx Z d e=>by
 unfold mO at e;split at e
 .split at e
  .cases e;exact⟨_,_,rfl,rfl,‹_›,λ_ _=>di⟩
  .cases e
 .cases e⟩
theorem sH:OpB X G (aa3 .Pow) nq:=⟨_,λc=>V2,G6 λdx Z d e=>by
 unfold nq at e;split at e
 .split at e
  .cases e;exact⟨_,_,rfl,rfl,‹_›,λ_ _=>di⟩
  .cases e
 .cases e⟩
def iz:D->Option D
 |.int a=>some (.int (-a))
 |_=>none
theorem jA:UnB X G (unaryOp .USub) iz:=⟨_,λc=>Vi,λdx d e x H W I rx nd hn w Q q=>by
 unfold iz at e;split at e
 .cases e
  obtain⟨rfl,rfl⟩:=bw rx;exact⟨_,rfl,q.scal λW=>di⟩
 .cases e⟩
def fG:D->D->Option D
 |.int a,.int b=>some (.int (a+b))
 |.str a,.str b=>if a.length+b.length<=ZM then some (.str (a++b))else none
 |.lst m a,.lst n b=>if m≠.scr/\n≠.scr/\a.length+b.length<=1000000 then some (.lst .own (a++b))else none
 |.tup a,.tup b=>if a.length+b.length<=1000000 then some (.tup (a++b))else none
 |_,_=>none
variable{ys:List V}
theorem xX{dx Z:List D}{I Ly B F:List Addr}(J:aF G H W dx xs B)(hy:aF G H W Z ys F)(O:abg B I)(Y:abg F Ly)(hn:∀a∈I++Ly,W.tmp a)(s:Same H H')(q:List Addr)(he:∀a∈q,H a=none):aF G H' ((W.drop (I++Ly)).add (q++(B++F))) (dx++Z) (xs++ys) (B++F):=by
 refine(J.append hy).up ⟨s,λb u U f=>⟨λz=>z.elim (λz=>?_) λz=>f.1 z.1,f.2⟩,λ_ _ _ f=>f⟩;rcases Zy.mp z with z|z
 .rw[he b z]at U;cases U
 .rcases Zy.mp z with z|z
  .exact f.1 (hn b (ZJ _ (O.subset z))).1
  .exact f.1 (hn b (W2 _ (Y.subset z))).1
def Yn(K:ZC):R2:=λx y H Q=>((rI0 (λi j=>.int (i+j)) x y H Q∨(∃i j,x= .str i/\y= .str j/\i.length+j.length<=ZM/\Q (.str (i++j)) H))∨Xn x y H Q)∨M6 K x y H Q
theorem Px:OpV G (Yn G.K) fG:=λdx dy d e x y H W Lx Ly rx U nd hn w Q q=>by
 unfold fG at e;split at e
 .cases e
  obtain⟨rfl,rfl⟩:=bw rx;obtain⟨rfl,rfl⟩:=bw U;exact .inl (.inl (.inl ⟨_,_,rfl,rfl,q.scal λ_=>di⟩))
 .split at e
  .cases e
   obtain⟨rfl,rfl⟩:=cB rx;obtain⟨rfl,rfl⟩:=cB U;exact .inl (.inl (.inr ⟨_,_,rfl,rfl,‹_›,q.scal λ_=>rT⟩))
  .cases e
 .rename_i m a n b
  split at e
  .rename_i Z
   cases e;rw[Rep]at rx U;obtain⟨p,xs,Mx,rfl,J,sx⟩:=rx;obtain⟨p',ys,My,rfl,V,sy⟩:=U;refine .inl (.inr ⟨p,p',xs,ys,rfl,rfl,sx.at Z.1,sy.at Z.2.1,by rw[←J.length,←V.length];exact ab8 (six Z.2.2),λr O=>?_⟩);have I:Same H (upd H r (.lst (xs++ys))):=Same.new O;have nr:r∉Mx++My:=λz=>by
    obtain⟨o,B,_⟩:=(J.append V).dom r z;rw[O]at B;cases B
   have a0:(Mx++My).Nodup:=(sx.sub.append sy.sub).nodup nd;refine q (.ref r) _ (r::(Mx++My)) I ?_ (λc Z=>?_) (Z8.mpr ⟨nr,a0⟩)
   .rw[Rep]
    exact⟨r,xs++ys,Mx++My,rfl,xX J V sx.sub sy.sub hn I [r] (by simpa using O),aZ,rfl⟩
   .rcases ZR.mp Z with z|z
    .exact .inr (by rw[z];exact O)
    .exact .inl ((sx.sub.append sy.sub).subset z)
  .cases e
 .rename_i a b
  split at e
  .rename_i Z
   cases e;rw[Rep]at rx U;obtain⟨p,xs,rfl,F,J⟩:=rx;obtain⟨p',ys,rfl,D,V⟩:=U;have base:∀H' p2,Same H H'->H' p2=some (.tup (xs++ys))->Q (.ref p2) H':=λH' p2 I Y=>by
    refine q (.ref p2) H' (Lx++Ly) I ?_ (λc Z=>.inl Z) nd;rw[Rep];exact⟨p2,xs++ys,rfl,Y,xX J V (ab4 _) (ab4 _) hn I [] (by simp)⟩
   refine .inr ⟨p,p',xs,ys,rfl,rfl,SqT.of F,SqT.of D,by rw[←J.length,←V.length];exact ab8 (six Z),λz=>base H p' (Same.refl H) (by rw[z];exact D),λ_ z=>base H p (Same.refl H) (by rw[z,List.append_nil];exact F),λ_ _ r O=>base _ r (Same.new O) aZ⟩
  .cases e
 .cases e
theorem ik(F:∀c,(X c).K=G.K:=by intro _;rfl):OpB X G (aa3 .Add) fG:=⟨_,λc=>by rw[←F c];exact OpR.or (OpR.or (OpR.or VD Fw) Wz) Oe,Px⟩
def gLt:D->D->Option D
 |.int a,.int b=>some (.bl (decide (a<b)))
 |.str a,.str b=>some (.bl (decide (a.cps.toList<b.cps.toList)))
 |_,_=>none
def gGt:D->D->Option D
 |.int a,.int b=>some (.bl (decide (b<a)))
 |_,_=>none
def gGe:D->D->Option D
 |.int a,.int b=>some (.bl (decide (b<=a)))
 |_,_=>none
theorem Hr:OpB X G (aaA .Lt) gLt:=⟨_,λc=>OpR.or Yt H_,λdx Z d e x y H W I Ly rx U nd hn w Q q=>by
 unfold gLt at e;split at e
 .cases e
  obtain⟨rfl,rfl⟩:=bw rx;obtain⟨rfl,rfl⟩:=bw U;exact .inl ⟨_,_,rfl,rfl,q.scal λ_=>gW⟩
 .cases e
  obtain⟨rfl,rfl⟩:=cB rx;obtain⟨rfl,rfl⟩:=cB U;exact .inr ⟨_,_,rfl,rfl,q.scal λ_=>gW⟩
 .cases e⟩
theorem Ud:OpB X G (aaA .Gt) gGt:=⟨_,λc=>Xz,Ez λdx Z d e=>by
 unfold gGt at e;split at e
 .cases e;exact⟨_,_,rfl,rfl,λ_ _=>gW⟩
 .cases e⟩
theorem Xb:OpB X G (aaA .GtE) gGe:=⟨_,λc=>YQ,Ez λdx Z d e=>by
 unfold gGe at e;split at e
 .cases e;exact⟨_,_,rfl,rfl,λ_ _=>gW⟩
 .cases e⟩
def jr:D->Bool
 |.non=>true
 |_=>false
def gIs:D->D->Option D
 |x,.non=>some (.bl (jr x))
 |_,_=>none
def oV:D->D->Option D
 |x,.non=>some (.bl (!jr x))
 |_,_=>none
theorem yI(r:Rep G H W d v L):decide (v= .non)=jr d:=by
 cases d<;>rw[Rep]at r
 case non=>obtain⟨rfl,_⟩:=r;rfl
 case bl=>obtain⟨rfl,_⟩:=r;rfl
 case int=>obtain⟨rfl,_⟩:=r;rfl
 case str=>obtain⟨rfl,_⟩:=r;rfl
 case ty=>obtain⟨rfl,_⟩:=r;rfl
 case tup=>obtain⟨a,xs,rfl,_⟩:=r;rfl
 case lst=>obtain⟨a,xs,M,rfl,_⟩:=r;rfl
 case dct=>obtain⟨a,xs,M,rfl,_⟩:=r;rfl
 case ins=>obtain⟨a,C,dx,xs,M,rfl,_⟩:=r;rfl
theorem JV:OpB X G (aaA .Is) gIs:=⟨_,λc=>Vy,λdx Z d e x y H W I Ly rx U nd hn w Q q=>by
 unfold gIs at e;split at e
 .cases e
  rw[Rep]at U;exact⟨U.1,by rw[yI rx];exact q.scal λ_=>gW⟩
 .cases e⟩
theorem Bm:OpB X G (aaA .IsNot) oV:=⟨_,λc=>Pz,λdx Z d e x y H W I Ly rx U nd hn w Q q=>by
 unfold oV at e;split at e
 .cases e
  rw[Rep]at U;exact⟨U.1,by rw[yI rx];exact q.scal λ_=>gW⟩
 .cases e⟩
mutual
noncomputable def dt:D->Dt
 |.non=>.non
 |.bl b=>.bl b
 |.int i=>.int i
 |.str x=>.str x
 |.tup ds=>.tup (dtL ds)
 |.lst _ ds=>.lst (dtL ds)
 |_=>.non
noncomputable def dtL:List D->List Dt
 |[]=>[]
 |d::r=>dt d::dtL r
end
mutual
noncomputable def wZ:D->Bool
 |.ty _=>false
 |.dct _ _ _=>false
 |.ins _ _ _ _=>false
 |.tup ds=>rF ds
 |.lst _ ds=>rF ds
 |_=>true
noncomputable def rF:List D->Bool
 |[]=>true
 |d::r=>wZ d&&rF r
end
mutual
theorem Rep.brs{H:Hp}{W:Wn}:∀{d:D}{v:V}{L:List Addr},Rep G H W d v L->wZ d=true->Brs G.K H (dt d) v
 |.non,v,L,r,_=>by rw[Rep]at r;simp[dt,Brs,r]
 |.bl _,v,L,r,_=>by rw[Rep]at r;simp[dt,Brs,r]
 |.int _,v,L,r,_=>by rw[Rep]at r;simp[dt,Brs,r]
 |.str _,v,L,r,_=>by rw[Rep]at r;simp[dt,Brs,r]
 |.ty _,v,L,r,h=>by cases h
 |.dct _ _ _,v,L,r,h=>by cases h
 |.ins _ _ _ _,v,L,r,h=>by cases h
 |.tup ds,v,L,r,h=>by
  rw[Rep]at r;obtain⟨a,xs,rfl,Y,O⟩:=r;rw[dt,Brs];exact⟨a,xs,rfl,SqT.of Y,aF.brs O h⟩
 |.lst m ds,v,L,r,h=>by
  rw[Rep]at r;obtain⟨a,xs,M,rfl,O,B⟩:=r;rw[dt,Brs];exact⟨a,xs,rfl,B.sq,aF.brs O h⟩
theorem aF.brs{H:Hp}{W:Wn}:∀{ds:List D}{vs:List V}{L:List Addr},aF G H W ds vs L->rF ds=true->jJ G.K H (dtL ds) vs
 |[],vs,L,r,_=>by obtain⟨rfl,_⟩:=r.inv0;simp[dtL,jJ]
 |d::r,vs,L,hr,h=>by
  obtain⟨x,ys,M,M',rfl,rfl,h1,h2⟩:=hr.inv;rw[rF,aal]at h;rw[dtL,jJ];exact⟨x,ys,rfl,Rep.brs h1 h.1,aF.brs h2 h.2⟩
end
open Classical in
def gEq:D->D->Option D:=λx y=>if wZ x=true/\wZ y=true/\Alk (dt x) (dt y)then some (.bl (eqD (dt x) (dt y)))else none
open Classical in
def gNe:D->D->Option D:=λx y=>if wZ x=true/\wZ y=true/\Alk (dt x) (dt y)then some (.bl (!eqD (dt x) (dt y)))else none
theorem cb_eq(A:aaC)(O:∀c,(X c).A=A)(J:A.units+64<cLine)(F:∀c,(X c).K=G.K:=by intro _;rfl):OpB X G (aaA .Eq) gEq:=⟨X6 G.K A,λc=>by rw[←F c,←O c];exact Wl,λdx Z d e x y H W I Ly rx U nd hn w Q q=>by
 unfold gEq at e;split at e
 .rename_i hc
  cases e;exact⟨_,_,hc.2.2,rx.brs hc.1,U.brs hc.2.1,by omega,q.scal λ_=>gW⟩
 .cases e⟩
theorem DQ(A:aaC)(O:∀c,(X c).A=A)(J:A.units+64<cLine)(F:∀c,(X c).K=G.K:=by intro _;rfl):OpB X G (aaA .NotEq) gNe:=⟨XS G.K A,λc=>by rw[←F c,←O c];exact V7,λdx Z d e x y H W I Ly rx U nd hn w Q q=>by
 unfold gNe at e;split at e
 .rename_i hc
  cases e;exact⟨_,_,hc.2.2,rx.brs hc.1,U.brs hc.2.1,by omega,q.scal λ_=>gW⟩
 .cases e⟩
def gIx:D->D->Option D
 |.lst _ ds,.int i=>atI ds i
 |.tup ds,.int i=>atI ds i
 |.str z,.int i=>if z.length<=ZM then(atI z.cps.toList i).map λc=>.str ⟨#[c]⟩else none
 |.dct _ ks ds,k=>(cW k).bind λk=>(dw ks k).bind λj=>ds[j]?
 |_,_=>none
theorem Ou(O:aF G H W ds xs L)(e:atI ds i=some d):∃j:Nat,ds[j]? =some d/\∀x,xs[j]? =some x->atI xs i=some x:=by
 unfold atI at e⊢;rw[←O.length];cases h:ixN ds.length i with
 |none=>simp[h]at e
 |some j=>
  refine⟨j,by simpa[h]using e,λx J=>by simpa using J⟩
variable{x:V}
theorem pI{I Ly:List Addr}(r:Rep G H W d x M)(s:abg M I)(nd:(I++Ly).Nodup)(hn:∀a∈I++Ly,W.tmp a)(q:Done G H W (I++Ly) d Q):Q x H:=by
 refine q x H M (Same.refl H) (r.up ⟨Same.refl H,λb u U f=>⟨λz=>z.elim (λz=>f.1 (hn b (ZJ _ (s.subset z))).1) λz=>f.1 z.1,f.2⟩,λ_ _ _ f=>f⟩) (λa Y=>.inl (ZJ _ (s.subset Y))) (s.nodup (ZZ.mp nd).1)
theorem We:OpV G (λx y H Q=>rIx G.K x y H Q∨Qy x y H Q) gIx:=λdx dy d e x y H W Lx Ly rx U nd hn w Q q=>by
 unfold gIx at e;split at e
 .rename_i m ds i
  obtain⟨rfl,rfl⟩:=bw U;rw[Rep]at rx;obtain⟨a,xs,M,rfl,O,B⟩:=rx;obtain⟨j,h1,h2⟩:=Ou O e;obtain⟨z,Mz,Z,V,J⟩:=O.get h1;exact .inl (.inl ⟨a,xs,i,z,rfl,rfl,B.sq,h2 z Z,pI V (J.trans B.sub) nd hn q⟩)
 .rename_i ds i
  obtain⟨rfl,rfl⟩:=bw U;rw[Rep]at rx;obtain⟨a,xs,rfl,Y,O⟩:=rx;obtain⟨j,h1,h2⟩:=Ou O e;obtain⟨z,Mz,Z,V,J⟩:=O.get h1;exact .inl (.inr (.inl ⟨a,xs,i,z,rfl,rfl,SqT.of Y,h2 z Z,pI V J nd hn q⟩))
 .rename_i z i
  obtain⟨rfl,rfl⟩:=bw U;obtain⟨rfl,rfl⟩:=cB rx;split at e
  .rename_i hl
   cases h1:atI z.cps.toList i with
   |none=>simp[h1]at e
   |some c=>
    obtain rfl:D.str ⟨#[c]⟩=d:=by simpa[h1]using e
    exact .inl (.inr (.inr ⟨z,i,c,rfl,rfl,hl,h1,q.scal λ_=>rT⟩))
  .cases e
 .rename_i m ks ds
  cases I:cW dy with
  |none=>simp[I]at e
  |some k=>
   cases F:dw ks k with
   |none=>simp[I,F]at e
   |some j=>
    have e':ds[j]? =some d:=by simpa[I,F]using e
    rw[Rep]at rx;obtain⟨a,kvs,M,rfl,⟨rfl,a0⟩,O,B⟩:=rx;obtain⟨z,Mz,Z,V,J⟩:=O.get e';have hv:=iU F;rw[Z]at hv;refine .inr ⟨a,z,rfl,.inl ⟨kvs,k,B.rdD,iR U I,hv.symm⟩,pI V (J.trans B.sub) nd hn q⟩
 .cases e
theorem ixb(J:∀c,(X c).A.units+1<cLine)(F:∀c,(X c).K=G.K:=by intro _;rfl):IxB X G gIx:=⟨_,λc=>by rw[←F c];exact Nk (J c),We⟩
def scV:D->Option V
 |.non=>some .non
 |.bl b=>some (.bl b)
 |.int i=>some (.int i)
 |.str x=>some (.str x)
 |_=>none
def xN:List D->Option (List V)
 |[]=>some []
 |d::r=>(scV d).bind λv=>(xN r).map λt=>v::t
theorem zg{u:V}(r:Rep G H W d v L)(h:scV d=some u):v=u/\m6 u=true:=by
 cases d<;>simp[scV]at h<;>subst h<;>rw[Rep]at r<;>exact⟨r.1,rfl⟩
theorem v4:∀{ds:List D}{vs us:List V}{L:List Addr},aF G H W ds vs L->xN ds=some us->vs=us/\us.all m6=true
 |[],vs,us,L,r,h=>by
  cases h;exact⟨r.inv0.1,rfl⟩
 |d::t,vs,us,L,r,h=>by
  obtain⟨x,ys,M,M',rfl,rfl,h1,h2⟩:=r.inv;rw[xN]at h;cases e1:scV d with
  |none=>simp[e1]at h
  |some v=>
   cases e2:xN t with
   |none=>simp[e1,e2]at h
   |some w=>
    obtain rfl:v::w=us:=by simpa[e1,e2]using h
    obtain⟨rfl,q⟩:=zg h1 e1;obtain⟨rfl,B⟩:=v4 h2 e2;exact⟨rfl,by simp[q,B]⟩
def S8(x y:Str):Bool:=!(aaG y x 0 y.length 1).isEmpty
def pP:D->D->Option Bool
 |x,.lst _ ds=>(scV x).bind λv=>(xN ds).map λvs=>inV v vs
 |x,.tup ds=>(scV x).bind λv=>(xN ds).map λvs=>inV v vs
 |.str x,.str y=>some (S8 x y)
 |x,.dct _ ks _=>(cW x).map λk=>(dw ks k).isSome
 |_,_=>none
def gIn(x y:D):Option D:=(pP x y).map .bl
def gj(x y:D):Option D:=(pP x y).map λb=>.bl !b
theorem Ei(J:Y.A.units+1<cLine):OpR Y (aaA .In) (λx y H Q=>∃a o,y= .ref a/\qu H a x o/\Q (.bl o.isSome) H):=λpins s σ H x y v u Q I rx U h=>by
 obtain⟨a,o,rfl,g,q⟩:=h;cases U;exact Zq J I g rx λz V=>⟨.bl o.isSome,H,V,rfl,q⟩
theorem xM(J:Y.A.units+1<cLine):OpR Y (aaA .NotIn) (λx y H Q=>∃a o,y= .ref a/\qu H a x o/\Q (.bl (!o.isSome)) H):=λpins s σ H x y v u Q I rx U h=>by
 obtain⟨a,o,rfl,g,q⟩:=h;cases U;exact Rt J I g rx λz V=>⟨.bl (!o.isSome),H,V,rfl,q⟩
theorem Ke{dx Z:D}{y:V}{I Ly:List Addr}(e:pP dx Z=some b)(rx:Rep G H W dx x I)(U:Rep G H W Z y Ly) :
  (∃p xs,y= .ref p/\(SqL G.K H p xs∨SqT G.K H p xs)/\m6 x=true/\xs.all m6=true/\b=inV x xs)∨(∃i j,x= .str i/\y= .str j/\b=S8 i j)∨(∃a o,y= .ref a/\qu H a x o/\b=o.isSome):=by
 unfold pP at e;split at e
 .rename_i m ds
  cases e1:scV dx with
  |none=>simp[e1]at e
  |some v=>
   cases e2:xN ds with
   |none=>simp[e1,e2]at e
   |some vs=>
    obtain rfl:inV v vs=b:=by simpa[e1,e2]using e
    rw[Rep]at U;obtain⟨a,xs,M,rfl,O,B⟩:=U;obtain⟨rfl,J⟩:=zg rx e1;obtain⟨rfl,z⟩:=v4 O e2;exact .inl ⟨a,_,rfl,.inl B.sq,J,z,rfl⟩
 .rename_i ds
  cases e1:scV dx with
  |none=>simp[e1]at e
  |some v=>
   cases e2:xN ds with
   |none=>simp[e1,e2]at e
   |some vs=>
    obtain rfl:inV v vs=b:=by simpa[e1,e2]using e
    rw[Rep]at U;obtain⟨a,xs,rfl,Y,O⟩:=U;obtain⟨rfl,J⟩:=zg rx e1;obtain⟨rfl,z⟩:=v4 O e2;exact .inl ⟨a,_,rfl,.inr (SqT.of Y),J,z,rfl⟩
 .cases e
  obtain⟨rfl,_⟩:=cB rx;obtain⟨rfl,_⟩:=cB U;exact .inr (.inl ⟨_,_,rfl,rfl,rfl⟩)
 .rename_i m ks ds
  cases e1:cW dx with
  |none=>simp[e1]at e
  |some k=>
   have e':(dw ks k).isSome=b:=by simpa[e1]using e
   rw[Rep]at U;obtain⟨a,kvs,M,rfl,⟨rfl,q⟩,O,B⟩:=U;refine .inr (.inr ⟨a,iQ kvs k,rfl,.inl ⟨kvs,k,B.rdD,iR rx e1,rfl⟩,?_⟩);rw[←e'];cases F:dw (kvs.map (·.1)) k with
   |none=>rw[tM F];rfl
   |some j=>
    rw[iU F,Z0 (by simpa using uF F)];rfl
 .cases e
def Zf(K:ZC):R2:=λx y H Q=>(rIn K false x y H Q∨(∃i j,x= .str i/\y= .str j/\Q (.bl (!(aaG j i 0 j.length 1).isEmpty)) H))∨∃a o,y= .ref a/\qu H a x o/\Q (.bl o.isSome) H
def QJ(K:ZC):R2:=λx y H Q=>(rIn K true x y H Q∨(∃i j,x= .str i/\y= .str j/\Q (.bl (!(!(aaG j i 0 j.length 1).isEmpty))) H))∨∃a o,y= .ref a/\qu H a x o/\Q (.bl (!o.isSome)) H
theorem GF(J:∀c,(X c).A.units+1<cLine)(F:∀c,(X c).K=G.K:=by intro _;rfl):OpB X G (aaA .In) gIn:=⟨Zf G.K,λc=>by rw[←F c];exact OpR.or (OpR.or Ja Je) (Ei (J c)),λdx B d e x y H W I Ly rx U nd hn w Q q=>by
 unfold gIn at e;cases h1:pP dx B with
 |none=>simp[h1]at e
 |some b=>
  obtain rfl:D.bl b=d:=by simpa[h1]using e
  have z:Q (.bl b) H:=q.scal λ_=>gW;rcases Ke h1 rx U with⟨p,xs,rfl,h2,Z,V,rfl⟩|⟨i,j,rfl,rfl,rfl⟩|⟨a,o,rfl,h2,rfl⟩
  .exact .inl (.inl ⟨p,xs,rfl,h2,Z,V,z⟩)
  .exact .inl (.inr ⟨i,j,rfl,rfl,z⟩)
  .exact .inr ⟨a,o,rfl,h2,z⟩⟩
theorem nH(J:∀c,(X c).A.units+1<cLine)(F:∀c,(X c).K=G.K:=by intro _;rfl):OpB X G (aaA .NotIn) gj:=⟨QJ G.K,λc=>by rw[←F c];exact OpR.or (OpR.or Ah zE) (xM (J c)),λdx B d e x y H W I Ly rx U nd hn w Q q=>by
 unfold gj at e;cases h1:pP dx B with
 |none=>simp[h1]at e
 |some b=>
  obtain rfl:D.bl (!b)=d:=by simpa[h1]using e
  have z:Q (.bl (!b)) H:=q.scal λ_=>gW;rcases Ke h1 rx U with⟨p,xs,rfl,h2,Z,V,rfl⟩|⟨i,j,rfl,rfl,rfl⟩|⟨a,o,rfl,h2,rfl⟩
  .exact .inl (.inl ⟨p,xs,rfl,h2,Z,V,z⟩)
  .exact .inl (.inr ⟨i,j,rfl,rfl,z⟩)
  .exact .inr ⟨a,o,rfl,h2,z⟩⟩
theorem aF.inv1(r:aF G H W [d] xs L):∃x,xs=[x]/\Rep G H W d x L:=by
 obtain⟨x,ys,M,M',rfl,rfl,h1,h2⟩:=r.inv;obtain⟨rfl,rfl⟩:=h2.inv0;exact⟨x,rfl,by rw[List.append_nil];exact h1⟩
theorem aF.inv2{e:D}(r:aF G H W [d,e] xs L):∃x y M N,xs=[x,y]/\L=M++N/\Rep G H W d x M/\Rep G H W e y N:=by
 obtain⟨x,ys,M,M',rfl,rfl,h1,h2⟩:=r.inv;obtain⟨y,rfl,Z⟩:=h2.inv1;exact⟨x,y,M,M',rfl,rfl,h1,Z⟩
def eQ:List D->Option D
 |[.lst _ ds]=>some (.int ds.length)
 |[.tup ds]=>some (.int ds.length)
 |[.str z]=>if z.length<=ZM then some (.int z.length)else none
 |[.dct m _ ds]=>if m= .scr then none else some (.int ds.length)
 |_=>none
theorem iu(F:∀c,(X c).K=G.K:=by intro _;rfl):CaB X G (.builtin "len") eQ:=⟨λxs H Q=>((∃p ys,xs=[.ref p]/\(SqL G.K H p ys∨SqT G.K H p ys)/\Q (.int ys.length) H)∨∃z,xs=[.str z]/\z.length<=ZM/\Q (.int z.length) H)∨∃a kvs,xs=[V.ref a]/\H a=some (.dK kvs)/\Q (.int kvs.length) H,λc=>by rw[←F c];exact fZ.or (fZ.or zp zU) JC,λds d e xs H W J r nd hn w Q q=>by
 unfold eQ at e;split at e
 .cases e
  obtain⟨x,rfl,rx⟩:=r.inv1;rw[Rep]at rx;obtain⟨a,ys,M,rfl,O,B⟩:=rx;exact .inl (.inl ⟨a,ys,rfl,.inl B.sq,by rw[←O.length];exact q.scal λ_=>di⟩)
 .cases e
  obtain⟨x,rfl,rx⟩:=r.inv1;rw[Rep]at rx;obtain⟨a,ys,rfl,Y,O⟩:=rx;exact .inl (.inl ⟨a,ys,rfl,.inr (SqT.of Y),by rw[←O.length];exact q.scal λ_=>di⟩)
 .split at e
  .cases e
   obtain⟨x,rfl,rx⟩:=r.inv1;obtain⟨rfl,rfl⟩:=cB rx;exact .inl (.inr ⟨_,rfl,‹_›,q.scal λ_=>di⟩)
  .cases e
 .split at e
  .cases e
  .cases e
   obtain⟨x,rfl,rx⟩:=r.inv1;rw[Rep]at rx;obtain⟨a,kvs,M,rfl,I,O,B⟩:=rx;exact .inr ⟨a,kvs,rfl,B.at ‹_›,by have:=O.length;simp at this;rw[←this];exact q.scal λ_=>di⟩
 .cases e⟩
def uy:List D->Option D
 |[.int i]=>some (.int (if i<0 then -i else i))
 |_=>none
theorem Gs:CaB X G (.builtin "abs") uy:=⟨_,λc=>Oa,λds d e xs H W J r nd hn w Q q=>by
 unfold uy at e;split at e
 .cases e
  obtain⟨x,rfl,rx⟩:=r.inv1;obtain⟨rfl,rfl⟩:=bw rx;exact⟨_,rfl,q.scal λ_=>di⟩
 .cases e⟩
def vN:List D->Option D
 |[.int i]=>some (.int i)
 |[.bl k]=>some (.int (if k then 1 else 0))
 |_=>none
theorem Qo:CaB X G (.type "int") vN:=⟨_,λc=>Iu,λds d e xs H W J r nd hn w Q q=>by
 unfold vN at e;split at e
 .cases e
  obtain⟨x,rfl,rx⟩:=r.inv1;obtain⟨rfl,rfl⟩:=bw rx;exact .inl ⟨_,rfl,q.scal λ_=>di⟩
 .cases e
  obtain⟨x,rfl,rx⟩:=r.inv1;obtain⟨rfl,rfl⟩:=vm rx;exact .inr ⟨_,rfl,q.scal λ_=>di⟩
 .cases e⟩
def kY:List D->Option D
 |[.int i,.int j]=>some (.int (if j<i then j else i))
 |_=>none
def G8:List D->Option D
 |[.int i,.int j]=>some (.int (if j>i then j else i))
 |_=>none
theorem Cu(Z:∀c,(X c).calm=true):CaB X G (.builtin "min") kY:=⟨_,λc=>Ii (Z c),λds d e xs H W J r nd hn w Q q=>by
 unfold kY at e;split at e
 .cases e
  obtain⟨x,y,M,N,rfl,rfl,rx,U⟩:=r.inv2;obtain⟨rfl,rfl⟩:=bw rx;obtain⟨rfl,rfl⟩:=bw U;exact⟨_,_,rfl,q.scal λ_=>di⟩
 .cases e⟩
theorem KR(Z:∀c,(X c).calm=true):CaB X G (.builtin "max") G8:=⟨_,λc=>Ia (Z c),λds d e xs H W J r nd hn w Q q=>by
 unfold G8 at e;split at e
 .cases e
  obtain⟨x,y,M,N,rfl,rfl,rx,U⟩:=r.inv2;obtain⟨rfl,rfl⟩:=bw rx;obtain⟨rfl,rfl⟩:=bw U;exact⟨_,_,rfl,q.scal λ_=>di⟩
 .cases e⟩
variable{p:Addr}
theorem Jh{J:List Addr}(O:aF G H W ds xs M)(s:abg M J)(nd:J.Nodup)(hn:∀a∈J,W.tmp a)(F:H p=none)(q:Done G H W J (.lst .own ds) Q):Q (.ref p) (upd H p (.lst xs)):=by
 have I:Same H (upd H p (.lst xs)):=Same.new F;have Z:p∉M:=λz=>by obtain⟨o,B,_⟩:=O.dom p z;rw[F]at B;cases B
 refine q (.ref p) _ (p::M) I ?_ (λa Y=>(ZR.mp Y).elim (λz=>.inr (by rw[z];exact F)) λz=>.inl (s.subset z)) (Z8.mpr ⟨Z,s.nodup nd⟩);rw[Rep];exact⟨p,xs,M,rfl,O.up ⟨I,λb u U f=>⟨λz=>z.elim (λz=>(ZR.mp z).elim (λz=>by rw[z,F]at U;cases U) λz=>f.1 (hn b (s.subset z)).1) λz=>f.1 z.1,f.2⟩,λ_ _ _ f=>f⟩,aZ,rfl⟩
theorem yF{J:List Addr}(O:aF G H W ds xs M)(s:abg M J)(nd:J.Nodup)(hn:∀a∈J,W.tmp a)(F:H p=none)(q:Done G H W J (.tup ds) Q):Q (.ref p) (upd H p (.tup xs)):=by
 have I:Same H (upd H p (.tup xs)):=Same.new F;refine q (.ref p) _ M I ?_ (λa Y=>.inl (s.subset Y)) (s.nodup nd);rw[Rep];exact⟨p,xs,rfl,aZ,O.up ⟨I,λb u U f=>⟨λz=>z.elim (λz=>f.1 (hn b (s.subset z)).1) λz=>f.1 z.1,f.2⟩,λ_ _ _ f=>f⟩⟩
theorem uU{J:List Addr}(O:Rep G H W d x M)(s:abg M J)(nd:J.Nodup)(hn:∀a∈J,W.tmp a)(q:Done G H W J d Q):Q x H:=by
 refine q x H M (Same.refl H) (O.up ⟨Same.refl H,λb u U f=>⟨λz=>z.elim (λz=>f.1 (hn b (s.subset z)).1) λz=>f.1 z.1,f.2⟩,λ_ _ _ f=>f⟩) (λa Y=>.inl (s.subset Y)) (s.nodup nd)
def jT:List D->Option D
 |[.lst _ ds]=>some (.tup ds)
 |[.tup ds]=>some (.tup ds)
 |_=>none
theorem Im(z:∀c,(X c).K=G.K:=by intro _;rfl):CaB X G (.type "tuple") jT:=⟨λxs H Q=>∃p ys,xs=[.ref p]/\((SqL G.K H p ys/\∀l,H l=none->Q (.ref l) (upd H l (.tup ys)))∨(SqT G.K H p ys/\Q (.ref p) H)),λc=>by rw[←z c];exact xP,λds d e xs H W J r nd hn w Q q=>by
 unfold jT at e;split at e
 .cases e
  obtain⟨x,rfl,rx⟩:=r.inv1;rw[Rep]at rx;obtain⟨a,ys,M,rfl,O,B⟩:=rx;exact⟨a,ys,rfl,.inl ⟨B.sq,λp F=>yF O B.sub nd hn F q⟩⟩
 .cases e
  obtain⟨x,rfl,rx⟩:=r.inv1;have D:=rx;rw[Rep]at rx;obtain⟨a,ys,rfl,Y,O⟩:=rx;exact⟨a,ys,rfl,.inr ⟨SqT.of Y,uU D (ab4 _) nd hn q⟩⟩
 .cases e⟩
def tyN:D->Option String
 |.non=>some "NoneType"
 |.bl _=>some "bool"
 |.int _=>some "int"
 |.str _=>some "str"
 |.tup _=>some "tuple"
 |.lst m _=>if m= .scr then none else some "list"
 |.dct m _ _=>if m= .scr then none else some "dict"
 |_=>none
def okT(n:String):Bool:=n=="int"||n=="bool"||n=="str"||n=="list"||n=="tuple"
def isT(t n:String):Bool:=t==n||(t=="bool"&&n=="int")
variable{t:String}
theorem G7{K:ZC}{n:String}(h1:tyN d=some t)(h2:okT n=true):adL K (.type t) (.type n)=some (isT t n):=by
 have Y:t="NoneType"∨t="bool"∨t="int"∨t="str"∨t="tuple"∨t="list"∨t="dict":=by
  cases d<;>simp[tyN]at h1<;>(try split at h1)<;>simp_all
 have hn:n="int"∨n="bool"∨n="str"∨n="list"∨n="tuple":=by simpa[okT,or_assoc]using h2
 rcases Y with rfl|rfl|rfl|rfl|rfl|rfl|rfl<;>rcases hn with rfl|rfl|rfl|rfl|rfl<;>with_unfolding_all rfl
theorem A_(r:Rep G H W d v L)(h:tyN d=some t):nu G.K H v (.type t):=by
 cases d with
 |non=>rw[Rep]at r;obtain⟨rfl,_⟩:=r;cases h;exact .non
 |bl b=>rw[Rep]at r;obtain⟨rfl,_⟩:=r;cases h;exact .bl _
 |int b=>rw[Rep]at r;obtain⟨rfl,_⟩:=r;cases h;exact .int _
 |str b=>rw[Rep]at r;obtain⟨rfl,_⟩:=r;cases h;exact .str _
 |ty n=>cases h
 |tup ds=>rw[Rep]at r;obtain⟨a,xs,rfl,Y,O⟩:=r;cases h;exact .tup Y
 |lst m ds=>
  rw[Rep]at r;obtain⟨a,xs,M,rfl,O,B⟩:=r;simp![tyN]at h;split at h
  .cases h
  .cases h;exact .lst (B.at ‹_›)
 |dct m ks ds=>
  rw[Rep]at r;obtain⟨a,xs,M,rfl,I,O,B⟩:=r;simp![tyN]at h;split at h
  .cases h
  .cases h;exact .dK (B.at ‹_›)
 |ins m c fs ds=>cases h
def Ck:List D->Option (List String)
 |[]=>some []
 |.ty n::r=>(Ck r).map λt=>n::t
 |_::_=>none
theorem yG:∀{ds:List D}{vs:List V}{L:List Addr}{ns:List String},aF G H W ds vs L->Ck ds=some ns->vs=ns.map V.ty
 |[],vs,L,ns,r,h=>by cases h;rw[r.inv0.1];rfl
 |d::t,vs,L,ns,r,h=>by
  obtain⟨x,ys,M,M',rfl,rfl,h1,h2⟩:=r.inv;cases d<;>simp[Ck]at h;obtain⟨w,Z,rfl⟩:=h;rw[Rep]at h1;rw[h1.1,yG h2 Z];rfl
theorem uV{K:ZC}(h1:tyN d=some t):∀{ns:List String},ns.all okT=true->adN K (.type t) (ns.map ab5)=some (ns.any (isT t))
 |[],_=>rfl
 |n::r,h=>by
  rw[acO,aal]at h;rw[ZF,adN,G7 h1 h.1];cases e:isT t n with
  |true=>simp[e]
  |false=>simp![e];rw[uV h1 h.2];simp[e]
def eE:List D->Option D
 |[x,.ty n]=>(tyN x).bind λt=>if okT n=true then some (.bl (isT t n))else none
 |[x,.tup ts]=>(tyN x).bind λt=>(Ck ts).bind λns=>if ns.all okT=true then some (.bl (ns.any (isT t)))else none
 |_=>none
theorem gh(F:∀c,(X c).K=G.K:=by intro _;rfl):CaB X G (.builtin "isinstance") eE:=⟨λxs H Q=>(∃x n t b,xs=[x,.ty n]/\nu G.K H x t/\adL G.K t (.type n)=some b/\Q (.bl b) H)∨∃x tp z t b,xs=[x,.ref tp]/\H tp=some (.tup (Z9 V.ty z))/\nu G.K H x t/\adN G.K t (z.map ab5)=some b/\Q (.bl b) H,λc=>by rw[←F c];exact fZ.or Ay zu,λds d e xs H W J r nd hn w Q q=>by
 unfold eE at e;split at e
 .rename_i x n
  cases e1:tyN x with
  |none=>simp[e1]at e
  |some t=>
   rw[e1]at e;simp![Hq]at e;split at e
   .cases e
    obtain⟨u,v,M,N,rfl,rfl,rx,U⟩:=r.inv2;rw[Rep]at U;obtain⟨rfl,_⟩:=U;exact .inl ⟨u,n,_,_,rfl,A_ rx e1,G7 e1 ‹_›,q.scal λ_=>gW⟩
   .cases e
 .rename_i x ts
  cases e1:tyN x with
  |none=>simp[e1]at e
  |some t=>
   cases e2:Ck ts with
   |none=>simp[e1,e2]at e
   |some ns=>
    rw[e1,e2]at e;simp![Hq]at e;split at e
    .cases e
     obtain⟨u,v,M,N,rfl,rfl,rx,U⟩:=r.inv2;rw[Rep]at U;obtain⟨a,ys,rfl,Y,O⟩:=U;have:=yG O e2;subst this;exact .inr ⟨u,a,ns,_,_,rfl,Y,A_ rx e1,uV e1 ‹_›,q.scal λ_=>gW⟩
    .cases e
 .cases e⟩
theorem Bx{F:List V}{a0:List D}{M0 N M1 R:List Addr}(O:aF G H W a0 F M1)(rr:Rep G H W res x R)(B:az a0=true)(k2:aA a0=true)(kr:clean res=true)
  (Y:a∉M1++R) (nd:(M1++R).Nodup) (sub:∀b∈M1++R,b∈M0∨b∈N)
  (q:∀x H' M' R,(∀b u,H b=some u->b∉a::M0->H' b=some u)->(∀W',Evo H H' W W'->Rep G H' W' (.lst .own a0) (.ref a) M'/\Rep G H' W' res x R)->(M'++R).Nodup->(∀b∈M'++R,b∈a::M0∨b∈N∨H b=none)->clean (.lst .own a0)=true->clean res=true->Q x H'):Q x (upd H a (.lst F)):=by
 have a1:=(by simpa[clean]using kr:aC res=true/\aB res=true);refine q x _ (a::M1) R (λb u U n=>by rw[aQ (show b≠a from λz=>n (by rw[z];simp))];exact U) (λW' I=>⟨?_,?_⟩) ?_ (λb U=>?_) (tH B k2) kr
 .rw[Rep]
  exact⟨a,F,M1,rfl,Gy O B k2 (λz=>Y (ZJ _ z)) I,aZ,rfl⟩
 .exact rr.mono I (.inl a1.1) (.inl a1.2) λc Z u J=>by rw[aQ (show c≠a from λz=>Y (W2 _ (z▸Z)))];exact J
 .rw[Z_]
  exact Z8.mpr ⟨Y,nd⟩
 .rw[Z_]at U
  rcases ZR.mp U with z|z
  .exact .inl (by simp[z])
  .exact(sub b z).imp (λz=>aaf _ z) .inl
theorem j8(h:az ds=true):∀d∈ds,aC d=true:=λd hd=>let⟨i,hi⟩:=afi hd;iw h hi
theorem jU(h:aA ds=true):∀d∈ds,aB d=true:=λd hd=>let⟨i,hi⟩:=afi hd;iC h hi
theorem bH:∀{ds:List D},(∀d∈ds,aC d=true)->az ds=true
 |[],_=>rfl
 |d::r,h=>by rw[az,h d (by simp),bH λe V=>h e (by simp[V])];rfl
theorem bC:∀{ds:List D},(∀d∈ds,aB d=true)->aA ds=true
 |[],_=>rfl
 |d::r,h=>by rw[aA,h d (by simp),bC λe V=>h e (by simp[V])];rfl
theorem aF.revL:∀{ds:List D}{xs:List V}{L:List Addr},aF G H W ds xs L->∃M,aF G H W ds.reverse xs.reverse M/\abh M L
 |[],xs,L,r=>by obtain⟨rfl,rfl⟩:=r.inv0;exact⟨[],.nil,.refl _⟩
 |d::t,xs,L,r=>by
  obtain⟨x,ys,M,M',rfl,rfl,h1,h2⟩:=r.inv;obtain⟨N,Z,pm⟩:=aF.revL h2;refine⟨N++M,?_,(pm.append_right M).trans acF⟩;rw[adi,adi];exact Z.append (.one h1)
def lq:D->List D->Option (D×D)
 |.lst .own ds,[.int i]=>if ds.length<1000000 then(ixN ds.length i).bind λk=>(ds[k]?).map λe=>(.lst .own (ds.eraseIdx k),e)else none
 |_,_=>none
theorem aF.erase(h:aF G H W ds xs L)(e:ds[j]? =some d):∃x M N,xs[j]? =some x/\Rep G H W d x M/\aF G H W (ds.eraseIdx j) (xs.eraseIdx j) N/\abh (N++M) L:=by
 obtain⟨A,B,x,ys,zs,z,M,Y,rfl,q,rfl,O,rfl,h1,h2,Z⟩:=h.at e;refine⟨x,M,z++Y,by rw[aaB 1.11,O,acb];rfl,h2,?_,?_⟩
 .have e1:(A++d::B).eraseIdx j=A++B:=by rw[abp 1.11,q,acb];rfl
  have e2:(ys++x::zs).eraseIdx j=ys++zs:=by rw[abp 1.11,O,acb];rfl
  rw[e1,e2];exact h1.append Z
 .rw[aa_]
  exact List.Perm.append_left z acF
theorem oW(h:d∈ds.eraseIdx k):d∈ds:=(ae2 ds k).subset h
theorem BK{e:D}{M0 N:List Addr}(O:aF G H W ds ys M0)(nd:((a::M0)++N).Nodup)(Z:clean (.lst .own ds)=true)(I:ds[k]? =some e)
  (q:∀x H' M' R,(∀b u,H b=some u->b∉a::M0->H' b=some u)->(∀W',Evo H H' W W'->Rep G H' W' (.lst .own (ds.eraseIdx k)) (.ref a) M'/\Rep G H' W' e x R)->(M'++R).Nodup->(∀b∈M'++R,b∈a::M0∨b∈N∨H b=none)->clean (.lst .own (ds.eraseIdx k))=true->clean e=true->Q x H'):∃y,ys[k]? =some y/\Q y (upd H a (.lst (ys.eraseIdx k))):=by
 obtain⟨B,F⟩:=mj Z;obtain⟨x,M,L,J,rx,rl,pm⟩:=O.erase I;have Y:=ZZ.mp nd;have hn:=Z8.mp Y.1;refine⟨x,J,Bx (M0:=M0) (N:=N) rl rx (bH λd hd=>j8 B d (oW hd)) (bC λd hd=>jU F d (oW hd)) (by simp[clean,iw B I,iC F I]) (λz=>hn.1 (pm.mem_iff.mp z)) (pm.nodup_iff.mpr hn.2) (λb U=>.inl (pm.mem_iff.mp U)) q⟩
theorem Ji:MuV G KJ lq:=λd es d' res h v xs H W M N r U nd F Z c1 z Q q=>by
 unfold lq at h;split at h
 .rename_i ds i
  split at h
  .rename_i hl
   cases h1:ixN ds.length i with
   |none=>simp[h1]at h
   |some k=>
    cases h2:ds[k]? with
    |none=>simp[h1,h2]at h
    |some e=>
     obtain⟨rfl,rfl⟩:D.lst .own (ds.eraseIdx k)=d'/\e=res:=by simpa[h1,h2]using h
     rw[Rep]at r;obtain⟨a,ys,M0,rfl,O,Y,rfl⟩:=r;obtain⟨x,rfl,J⟩:=U.inv1;obtain⟨rfl,rfl⟩:=bw J;obtain⟨g1,I,g3,g4⟩:=zG h1;obtain⟨y,V,B⟩:=BK O nd Z h2 q;exact⟨a,ys,i,k,y,rfl,rfl,Y,by omega,by omega,by rw[←O.length];exact g1,V,B⟩
  .cases h
 .cases h
theorem Jr:MuB X G "list" "list.pop" lq:=⟨_,λc=>Nq,Ji,zX rfl λd es q e=>by
 unfold lq at e;split at e
 .exact⟨_,_,rfl⟩
 .cases e⟩
def ww:D->List D->Option (D×D)
 |.lst .own ds,[]=>(ds[ds.length-1]?).map λe=>(.lst .own ds.dropLast,e)
 |_,_=>none
theorem Rm:MuV G WW ww:=λd es d' res h v xs H W M N r I nd F Z J z Q q=>by
 unfold ww at h;split at h
 .rename_i ds
  cases h2:ds[ds.length-1]? with
  |none=>simp[h2]at h
  |some e=>
   obtain⟨rfl,rfl⟩:D.lst .own ds.dropLast=d'/\e=res:=by simpa[h2]using h
   rw[Rep]at r;obtain⟨a,ys,M0,rfl,O,Y,rfl⟩:=r;obtain⟨rfl,rfl⟩:=I.inv0;rw[←qj]at q;obtain⟨y,V,B⟩:=BK O nd Z h2 q;rw[O.length]at V B;rw[qj]at B;exact⟨a,ys,y,rfl,rfl,Y,V,B⟩
 .cases h
theorem QW:MuB X G "list" "list.pop" ww:=⟨_,λc=>Wh,Rm,zX rfl λd es q e=>by
 unfold ww at e;split at e
 .exact⟨_,_,rfl⟩
 .cases e⟩
theorem aF.takeDrop(h:aF G H W ds xs L)(k:Nat):∃A B,aF G H W (ds.take k) (xs.take k) A/\aF G H W (ds.drop k) (xs.drop k) B/\L=A++B:=by
 rw[←adB k ds]at h;obtain⟨ys,zs,A,B,rfl,rfl,h1,h2⟩:=h.split;have O:=h1.length;by_cases I:k<=ds.length
 .have hk':ys.length=k:=by rw[←O,abe];omega
  refine⟨A,B,?_,?_,rfl⟩
  .rw[←hk',List.take_left,hk'];exact h1
  .rw[←hk',List.drop_left,hk'];exact h2
 .have e1:ds.take k=ds:=acr 1.11
  have e2:ds.drop k=[]:=ado 1.11;rw[e1]at h1 O;rw[e2]at h2;obtain⟨rfl,rfl⟩:=h2.inv0;refine⟨A,[],?_,?_,by simp⟩
  .rw[e1,List.append_nil,acr 1.11];exact h1
  .rw[e2,List.append_nil,ado 1.11];exact .nil
def lX:D->List D->Option (D×D)
 |.lst .own ds,[]=>some (.lst .own ds.reverse,.non)
 |_,_=>none
theorem Bj:MuV G BV lX:=λd es d' res h v xs H W M N r D nd hM Z V c2 Q q=>by
 unfold lX at h;split at h
 .rename_i ds
  cases h;rw[Rep]at r;obtain⟨a,ys,M0,rfl,O,Y,rfl⟩:=r;obtain⟨rfl,rfl⟩:=D.inv0;obtain⟨B,F⟩:=mj Z;obtain⟨I,h1,pm⟩:=O.revL;have J:=ZZ.mp nd;have hn:=Z8.mp J.1;refine⟨a,ys,rfl,rfl,Y,Bx (M0:=M0) (N:=[]) (R:=[]) h1 mH (bH λd hd=>j8 B d (aga.mp hd)) (bC λd hd=>jU F d (aga.mp hd)) rfl (λz=>hn.1 (pm.mem_iff.mp (by simpa using z))) (by rw[List.append_nil];exact pm.nodup_iff.mpr hn.2) (λb U=>.inl (pm.mem_iff.mp (by simpa using U))) q⟩
 .cases h
theorem Bv:MuB X G "list" "list.reverse" lX:=⟨_,λc=>Eh,Bj,zX rfl λd es q e=>by
 unfold lX at e;split at e
 .exact⟨_,_,rfl⟩
 .cases e⟩
def cO:List Key->List D->List (Key×D)->List Key×List D
 |ks,ds,[]=>(ks,ds)
 |ks,ds,p::r=>cO (fX ks ds p.1 p.2).1 (fX ks ds p.1 p.2).2 r
variable{k:Key}
theorem R9{N:List Addr}(O:aF G H W ds (Z9 (·.2) kvs) M)(hn:(Z9 (·.1) kvs).Nodup)(J:Rep G H W d x N)(nd:(M++N).Nodup) :
  (Z9 (·.1) (putK kvs k x)=(fX (Z9 (·.1) kvs) ds k d).1/\(Z9 (·.1) (putK kvs k x)).Nodup)/\(putK kvs k x).length<=kvs.length+1/\∃M',aF G H W (fX (Z9 (·.1) kvs) ds k d).2 (Z9 (·.2) (putK kvs k x)) M'/\M'.Nodup/\∀a∈M',a∈M∨a∈N:=by
 have Z:=ZZ.mp nd;cases F:dw (kvs.map (·.1)) k with
 |some j=>
  have a1:j<ds.length:=by rw[O.length];simpa using uF F
  obtain⟨A,I,B,a2,q⟩:=O.set (Z0 a1) J;obtain⟨p1,p2⟩:=Bs (v:=x) F hn;have U:abg (A++B) M:=by rw[a2];exact(ab4 A).append (aby I B)
  have n3:=ZZ.mp (U.nodup Z.1);have a0:∀z∈N,z∉A++B:=λz h1 h2=>Z.2.2 z (U.subset h2) z h1 rfl;simp![fX,F];refine⟨⟨p1,by rw[p1];exact hn⟩,?_,A++(N++B),by rw[p2];exact q,fu n3.1 (fu Z.2.1 n3.2.1 λz h1 h2=>a0 z h1 (by simp[h2])) λz h1 h2=>?_,λa Y=>?_⟩
  .have:(putK kvs k x).length=kvs.length:=by have:=congrArg abP p1;simpa using this
   omega
  .rcases Zy.mp h2 with y|y
   .exact a0 z y (by simp[h1])
   .exact n3.2.2 z h1 z y rfl
  .simp![Zy]at Y
   rcases Y with z|z|z
   .exact .inl (U.subset (by simp[z]))
   .exact .inr z
   .exact .inl (U.subset (by simp[z]))
 |none=>
  simp![fX,F];have e:putK kvs k x=kvs++[(k,x)]:=lW F;rw[e];refine⟨⟨by simp,?_⟩,by simp,M++N,by rw[ZW];exact O.append (.one J),nd,λa Y=>Zy.mp Y⟩;rw[ZW];exact ZZ.mpr ⟨hn,by simp,λa h1 b h2 z=>by
   obtain rfl:b=k:=by simpa using h2
   exact wW F (z▸h1)⟩
theorem qe{H:Hp}{W:Wn}:∀{es:List (Key×D)}{prs kvs:List (Key×V)}{ds:List D}{M N:List Addr},Z9 (·.1) es=Z9 (·.1) prs->aF G H W (Z9 (·.2) es) (Z9 (·.2) prs) N->aF G H W ds (Z9 (·.2) kvs) M->(Z9 (·.1) kvs).Nodup->(M++N).Nodup->
  (Z9 (·.1) (putAll kvs prs)=(cO (Z9 (·.1) kvs) ds es).1/\(Z9 (·.1) (putAll kvs prs)).Nodup)/\∃M',aF G H W (cO (Z9 (·.1) kvs) ds es).2 (Z9 (·.2) (putAll kvs prs)) M'/\M'.Nodup/\∀a∈M',a∈M∨a∈N
 |[],prs,kvs,ds,M,N,hk,h1,h2,hn,nd=>by
  have:prs=[]:=by cases prs with
   |nil=>rfl
   |cons p r=>cases hk
  subst this;exact⟨⟨rfl,hn⟩,M,h2,(ZZ.mp nd).1,λa Y=>.inl Y⟩
 |e::es,prs,kvs,ds,M,N,hk,h1,h2,hn,nd=>by
  cases prs with
  |nil=>cases hk
  |cons p prs=>
   obtain⟨x,ys,N1,N2,a2,rfl,J,a4⟩:=aF.inv h1;simp![ZF,List.cons.injEq]at hk a2;obtain⟨rfl,rfl⟩:=a2;have a0:=ZZ.mp nd;have a1:=ZZ.mp a0.2.1;have a5:(M++N1).Nodup:=fu a0.1 a1.1 λa z1 z2=>a0.2.2 a z1 a (by simp[z2]) rfl;obtain⟨⟨q1,q2⟩,O,I,q4,q,F⟩:=R9 (k:=p.1) h2 hn J a5;have a6:(I++N2).Nodup:=fu q a1.2.1 λa z1 z2=>by
    rcases F a z1 with z|z
    .exact a0.2.2 a z a (by simp[z2]) rfl
    .exact a1.2.2 a z a z2 rfl
   rw[←hk.1]at q1 q2 q4;have B:=qe (es:=es) (prs:=prs) (kvs:=putK kvs e.1 p.2) hk.2 a4 q4 q2 a6;rw[q1]at B;obtain⟨⟨Z,r2⟩,M',U,r4,r5⟩:=B;have a3:putAll kvs (p::prs)=putAll (putK kvs e.1 p.2) prs:=by rw[hk.1];rfl
   rw[a3];refine⟨⟨Z,r2⟩,M',U,r4,λa Y=>?_⟩;rcases r5 a Y with z|z
   .exact(F a z).imp id λz=>by simp[z]
   .exact .inr (by simp[z])
theorem jw(P:D->Prop):∀{es:List (Key×D)}{ks:List Key}{ds:List D},(∀d∈ds,P d)->(∀p∈es,P p.2)->∀d∈(cO ks ds es).2,P d
 |[],ks,ds,h1,h2=>h1
 |p::r,ks,ds,h1,h2=>by
  rw[cO];refine jw P (λd hd=>?_) λq Y=>h2 q (by simp[Y]);unfold fX at hd;split at hd
  .rcases List.mem_or_eq_of_mem_set hd with z|z
   .exact h1 d z
   .rw[z];exact h2 p (by simp)
  .rcases Zy.mp hd with z|z
   .exact h1 d z
   .obtain rfl:d=p.2:=by simpa using z
    exact h2 p (by simp)
def BW:List D->Option (List (Key×D))
 |[]=>some []
 |.tup [k,v]::r=>(cW k).bind λk=>(BW r).map λt=>(k,v)::t
 |_::_=>none
theorem N6{k:D}{B:Key}(h:cW k=some B)(r:Rep G H W k x L):L=[]:=by
 cases k<;>simp[cW]at h<;>rw[Rep]at r<;>exact r.2
theorem Bo{H:Hp}{W:Wn}:∀{ds:List D}{es:List (Key×D)}{ys:List V}{N:List Addr},BW ds=some es->aF G H W ds ys N->∃prs:List (Key×V),Z9 (·.1) es=Z9 (·.1) prs/\aF G H W (Z9 (·.2) es) (Z9 (·.2) prs) N/\prs.length=ys.length/\∀(j:Nat)(k:Key)(v:V),prs[j]? =some (k,v)->∃p:Addr,ys[j]? =some (V.ref p)/\H p=some (.tup [kV k,v])
 |[],es,ys,N,h,r=>by
  cases h;obtain⟨rfl,rfl⟩:=r.inv0;exact⟨[],rfl,.nil,rfl,λj k v e=>by simp at e⟩
 |d::r,es,ys,N,h,rr=>by
  unfold BW at h;split at h
  .rename_i e;cases e
  .rename_i k v t e
   cases e;cases h1:cW k with
   |none=>simp[h1]at h
   |some F=>
    cases h2:BW r with
    |none=>simp[h1,h2]at h
    |some w=>
     obtain rfl:(F,v)::w=es:=by simpa[h1,h2]using h
     obtain⟨x,zs,N1,N2,rfl,rfl,J,hz⟩:=rr.inv;obtain⟨prs,O,I,Z,q⟩:=Bo h2 hz;rw[Rep]at J;obtain⟨a,xs,rfl,Y,a1⟩:=J;obtain⟨y1,U,A,B,rfl,rfl,a0,z⟩:=a1.inv2;have hA:=N6 h1 a0;subst hA;have:=iR a0 h1;subst this;refine⟨(F,U)::prs,by simp[O],.cons z I,by simp[Z],λj k v e=>?_⟩;cases j with
     |zero=>
      simp at e;obtain⟨rfl,rfl⟩:=e;exact⟨a,rfl,Y⟩
     |succ j=>exact q j k v (by simpa using e)
  .cases h
theorem dZ.at2{D:Addr->HO->Prop}(h:dZ D H W a o m L M)(J:(m== .scr)=false):H a=some o:=h.at (by intro z;rw[z]at J;cases J)
def vO:List D->Option D
 |[.lst m ds]=>if(m== .scr)=false/\ds.length<=50000 then(BW ds).map λes=>.dct .own (cO [] [] es).1 (cO [] [] es).2 else none
 |_=>none
theorem Kh(Z:∀c,(X c).calm=true):CaB X G (.type "dict") vO:=⟨_,λc=>uv (Z c),λds d e xs H W J r nd hn w Q q=>by
 unfold vO at e;split at e
 .rename_i m ds
  split at e
  .rename_i hm
   cases h1:BW ds with
   |none=>simp[h1]at e
   |some es=>
    obtain rfl:D.dct .own (cO [] [] es).1 (cO [] [] es).2=d:=by simpa[h1]using e
    obtain⟨x,rfl,rx⟩:=r.inv1;rw[Rep]at rx;obtain⟨a,ys,M,rfl,O,B⟩:=rx;obtain⟨prs,g1,g2,g3,g4⟩:=Bo h1 O;have V:M.Nodup:=B.sub.nodup nd;obtain⟨⟨p1,p2⟩,M',p3,p4,p5⟩:=qe (kvs:=[]) (M:=[]) g1 g2 .nil (by simp) (by simpa using V);refine⟨a,ys,prs,rfl,B.at2 hm.1,g3,by rw[g3,←O.length];exact hm.2,g4,λp F=>?_⟩;have I:Same H (upd H p (.dK (putAll [] prs))):=Same.new F;have np:p∉M':=λz=>by obtain⟨o,ho,_⟩:=p3.dom p z;rw[F]at ho;cases ho
    have a0:∀a∈M',a∈J:=λa Y=>(p5 a Y).elim (λz=>by cases z) λz=>B.sub.subset z;refine q (.ref p) _ (p::M') I ?_ (λa Y=>(ZR.mp Y).elim (λz=>.inr (by rw[z];exact F)) λz=>.inl (a0 a z)) (Z8.mpr ⟨np,p4⟩);rw[Rep];exact⟨p,putAll [] prs,M',rfl,⟨p1,p1▸p2⟩,p3.up ⟨I,λb u U f=>⟨λz=>z.elim (λz=>(ZR.mp z).elim (λz=>by rw[z,F]at U;cases U) λz=>f.1 (hn b (a0 b z)).1) λz=>f.1 z.1,f.2⟩,λ_ _ _ f=>f⟩,aZ,rfl⟩
  .cases e
 .cases e⟩
theorem yf(h1:az ds=true)(h2:aA ds=true):clean (.dct .own ks ds)=true:=by simp[clean,aC,aB,h1,h2]
theorem V5{op:D->List D->Option (D×D)}(V:T="dict")(h:∀d es q,op d es=some q->∃ks ds,d= .dct .own ks ds):HY G T op:=λd es q e v H W L r=>by
 obtain⟨ks,ds,rfl⟩:=h d es q e;rw[Rep]at r;obtain⟨a,xs,M,rfl,I,O,B⟩:=r;exact .inr (.inr (.inl ⟨V,.inl ⟨_,B.1⟩⟩))
def eMt(g:D->List D->Option D)(J:En->Option D)(f:En->Option (List D)):En->Option D:=λρ=>(J ρ).bind λx=>(f ρ).bind λds=>g x ds
theorem Yj{id:String}{g:D->List D->Option D}{o:Expr}{J:En->Option D}{f:En->Option (List D)}(m:MtB X G T id g)(z:ac9 T)(slot:Slot T Z id)(O:aeU (.builtin id)=pure (.type "method_descriptor"))(ho:PV X G ob o J)(Y:PVA X G ob (e::es) f)(U:∀c,aaR o Z (X c).env (eval o (X c).env)=eval o (X c).env:=by intro _;rfl)(I:∀c,((aaH cpos (ZK (e::es) (X c).env)).all (λx=>!x.1)&&(ab_ cpos (abo [] (X c).env)).all (λx=>x.1.isSome)
  &&decide ((e::es).length+([]:List acB).length+(if([]:List acB).isEmpty then 0 else 1)<30))=true:=by intro _;rfl) (q:(apos.endLine==cpos.line)=true:=by rfl) (B:∀c,ZK (e::es) (X c).env=(false,eval e (X c).env)::ZK es (X c).env:=by intro _;rfl) (V:∀c,(aaH cpos (ZK es (X c).env)).any (·.1)=false:=by intro _;rfl) (F:∀c,(X c).K=G.K:=by intro _;rfl) :
 PV X G ob (.Call (.Attribute o Z apos) (e::es) [] cpos) (eMt g J f):=let⟨r,m1,m2,m3⟩:=m.ex;let⟨t,a1,a2⟩:=ho.ex;let⟨u,b1,b2⟩:=Y.ex;⟨_,λc=>(by rw[←F c];exact Bg z slot O (m1 c) (a1 c) (b1 c) (U c) (I c) q (B c) (V c)),M_ m2 m3 a2 b2⟩
def z_(a b:Str):Option (List Str):=
 if(decide (a.length<b.length)||decide (acU a<acU b))=false/\(b.length==0)=false/\(aaG a b 0 a.length (a.length+1)).isEmpty=false/\a.length<=ZM/\(ac6 a (aaG a b 0 a.length (a.length+1)) b.length).length<=ZM
 then some (ac6 a (aaG a b 0 a.length (a.length+1)) b.length)else none
def wj:D->List D->Option D
 |.str a,[.str b]=>(z_ a b).map λl=>.lst .own (l.map D.str)
 |_,_=>none
theorem DP:∀l:List Str,aF G H W (l.map D.str) (l.map V.str) []
 |[]=>.nil
 |x::r=>aF.cons (M:=[]) (M':=[]) (by rw[Rep];exact⟨rfl,rfl⟩) (DP r)
theorem JD:MtB X G "str" "str.split" wj:=⟨_,λc=>KN,λdx ds d e x xs H W I J rx r nd hn w Q q=>(by
 unfold wj at e;split at e
 .rename_i a b
  cases h1:z_ a b with
  |none=>simp[h1]at e
  |some l=>
   obtain rfl:D.lst .own (l.map D.str)=d:=by simpa[h1]using e
   obtain⟨y,rfl,U⟩:=r.inv1;obtain⟨rfl,rfl⟩:=cB rx;obtain⟨rfl,rfl⟩:=cB U;unfold z_ at h1;split at h1
   .rename_i hh
    cases h1;refine⟨a,b,_,rfl,rfl,hh.1,hh.2.1,hh.2.2.1,hh.2.2.2.1,rfl,hh.2.2.2.2,λp F=>?_⟩;refine q (.ref p) _ [p] (Same.new F) ?_ (λa Y=>.inr (by rw[show a=p by simpa using Y];exact F)) (by simp);rw[Rep];exact⟨p,_,[],rfl,DP _,aZ,rfl⟩
   .cases h1
 .cases e),λdx ds d e x H W I rx=>by
 unfold wj at e;split at e
 .obtain⟨rfl,rfl⟩:=cB rx
  exact rfl
 .cases e⟩
def RfO(G:Gc)(ob:Nat->Bool)(t:TO)(f:En->Option (Option Int)):Prop:=∀(ρ:En)(o:Option Int),f ρ=some o->∀(σ:L2.St)(H:Hp)(W:Wn),Rel G H W ob ρ σ->WOk H W->∀Q:Option Int->Hp->Prop,(∀H',Same H H'->Q o H')->t σ H Q
structure PVO{ι:Type}(X:ι->Cx)(G:Gc)(ob:Nat->Bool)(e:Option Expr)(f:En->Option (Option Int)):Prop where
 mk::(ex:∃t,(∀c,PO (X c) e t)/\RfO G ob t f)
def gw:En->Option (Option Int):=λ_=>some none
def fW(f:En->Option D):En->Option (Option Int):=λρ=>(f ρ).bind λd=>match d with
 |.int i=>some (some i)
 |_=>none
theorem j_:PVO X G ob none gw:=⟨_,λc=>Rr,λρ o e σ H W J w Q q=>by cases e;exact q H (Same.refl H)⟩
variable{f:En->Option D}
theorem jV(h:PV X G ob e f):PVO X G ob (some e) (fW f):=let⟨t,a1,a2⟩:=h.ex;⟨_,λc=>R_ (a1 c),λρ o e σ H W J w Q q=>by
 unfold fW at e;cases h1:f ρ with
 |none=>simp[h1]at e
 |some d=>
  rw[h1]at e;simp![Hq]at e;split at e
  .cases e
   refine a2 ρ _ h1 σ H W J w _ λv H' L s r I nd=>?_;obtain⟨rfl,rfl⟩:=bw r;exact⟨_,rfl,q H' s⟩
  .cases e⟩
def SlV(G:Gc)(r:V->Option Int->Option Int->Hp->VK->Prop)(g:D->Option Int->Option Int->Option D):Prop:=∀(dx:D)(lo hi:Option Int)(d:D),g dx lo hi=some d->∀(x:V)(H:Hp)(W:Wn)(I:List Addr),Rep G H W dx x I->I.Nodup->(∀a∈I,W.tmp a)->WOk H W->∀Q:VK,Done G H W I d Q->r x lo hi H Q
structure SlB{ι:Type}(X:ι->Cx)(G:Gc)(g:D->Option Int->Option Int->Option D):Prop where
 ex:∃r,(∀c,SlR (X c) r)/\SlV G r g
def mU(g:D->Option Int->Option Int->Option D)(f:En->Option D)(fl q:En->Option (Option Int)):En->Option D:=λρ=>(f ρ).bind λx=>(fl ρ).bind λl=>(q ρ).bind λh=>g x l h
def jG(g:D->Option Int->Option Int->Option D)(f:En->Option (D×En))(fl q:En->Option (Option Int)):En->Option (D×En):=λρ=>(f ρ).bind λp=>(fl p.2).bind λl=>(q p.2).bind λh=>(g p.1 l h).map λd=>(d,p.2)
theorem X3{r:V->Option Int->Option Int->Hp->VK->Prop}{g:D->Option Int->Option Int->Option D}{tl th:TO}{fl fh:En->Option (Option Int)}(B:SlV G r g)(h:RfE G ob te f)(O:RfO G ob tl fl)(hh:RfO G ob th fh):RfE G ob (tSl r te tl th) (mU g f fl fh):=λρ d e σ H W J w Q q=>by
 unfold mU at e;cases h1:f ρ with
 |none=>simp[h1]at e
 |some x=>
  cases h2:fl ρ with
  |none=>simp[h1,h2]at e
  |some l=>
   cases Z:fh ρ with
   |none=>simp[h1,h2,Z]at e
   |some u=>
    have e:g x l u=some d:=by simpa[h1,h2,Z]using e
    refine h ρ x h1 σ H W J w _ λv H1 L F r1 I nd=>?_;have u1:Up H H1 W (W.add L):=.add F I;have w1:WOk H1 (W.add L):=w.add F r1.dom;refine O ρ l h2 σ H1 _ (J.up u1) w1 _ λH2 s2=>?_;have u2:Up H1 H2 (W.add L) (W.add L):=.same s2;have w2:WOk H2 (W.add L):=λa Y=>let⟨o,B,hm⟩:=w1 a Y;⟨o,s2 a o B,hm⟩;refine hh ρ u Z σ H2 _ ((J.up u1).up u2) w2 _ λH3 s3=>?_;have u3:Up H2 H3 (W.add L) (W.add L):=.same s3;have w3:WOk H3 (W.add L):=λa Y=>let⟨o,B,hm⟩:=w2 a Y;⟨o,s3 a o B,hm⟩;have ss:=(F.trans s2).trans s3;refine B x l u d e v H3 _ L ((r1.up u2).up u3) nd (w.tmp I) w3 Q λv' H4 L4 s4 r4 f4 n4=>?_;refine q v' H4 L4 (ss.trans s4) ?_ (λa Y=>(f4 a Y).elim (I a) λz=>ss.none' z) n4;exact r4.up ⟨Same.refl _,λb u U f=>⟨λz=>z.elim (λz=>f.1 (.inl z)) λz=>f.1 (.inr ⟨.inr z,WOk.new w I z⟩),f.2⟩,λ_ _ _ f=>f⟩
def cutD(ds:List D)(lo hi:Option Int):List D:=(ds.drop (HT.sIx ds.length 0 lo)).take (HT.sIx ds.length ds.length hi-HT.sIx ds.length 0 lo)
def gSl:D->Option Int->Option Int->Option D
 |.lst _ ds,lo,hi=>some (.lst .own (cutD ds lo hi))
 |.tup ds,lo,hi=>some (.tup (cutD ds lo hi))
 |_,_,_=>none
theorem aF.cut(h:aF G H W ds xs L)(lo hi:Option Int):∃M,aF G H W (cutD ds lo hi) (vA xs lo hi) M/\abg M L:=by
 unfold cutD vA;rw[h.length];obtain⟨A,B,_,h2,rfl⟩:=h.takeDrop (HT.sIx xs.length 0 lo);obtain⟨O,Y,Z,_,rfl⟩:=h2.takeDrop (HT.sIx xs.length xs.length hi-HT.sIx xs.length 0 lo);exact⟨O,Z,(acd O Y).trans (aby A _)⟩
theorem slb(J:∀c,(X c).K=G.K:=by intro _;rfl):SlB X G gSl:=⟨λx lo hi H Q=>W_ G.K x lo hi H Q∨XD G.K x lo hi H Q,λc=>by rw[←J c];exact SlR.or QS Uo,λdx lo hi d e x H W I rx nd hn w Q q=>by
 unfold gSl at e;split at e
 .cases e
  rw[Rep]at rx;obtain⟨a,xs,M,rfl,O,B⟩:=rx;obtain⟨M',h1,h2⟩:=O.cut lo hi;exact .inl ⟨a,xs,rfl,B.sq,λp F=>Jh h1 (h2.trans B.sub) nd hn F q⟩
 .rename_i ds
  cases e;have D:=rx;rw[Rep]at rx;obtain⟨a,xs,rfl,Y,O⟩:=rx;obtain⟨M',h1,h2⟩:=O.cut lo hi;refine .inr ⟨a,xs,rfl,SqT.of Y,λz=>?_,λp F=>yF h1 h2 nd hn F q⟩;rw[z]at h1;refine uU (d:=.tup (cutD ds lo hi)) (x:=.ref a) (M:=M') ?_ h2 nd hn q;rw[Rep];exact⟨a,xs,rfl,Y,h1⟩
 .cases e⟩
def eSl:=mU gSl
def ql:=jG gSl
theorem j7{lo hi:Option Expr}{fl q:En->Option (Option Int)}(o:SlB X G gSl)(h:PV X G ob e f)(O:PVO X G ob lo fl)(z:PVO X G ob hi q):PV X G ob (.Subscript e (.Slice lo hi none p2) pos) (eSl f fl q):=let⟨r,o1,o2⟩:=o.ex;let⟨t,a1,a2⟩:=h.ex;let⟨u,b1,b2⟩:=O.ex;let⟨v,c1,c2⟩:=z.ex;⟨_,λc=>Lg (o1 c) (a1 c) (b1 c) (c1 c),X3 o2 a2 b2 c2⟩
def inK(S:List Key)(k:Key):Bool:=S.any λx=>decide (x=k)
def rD(S:List Key)(k:Key):List Key:=if inK S k then S else S++[k]
def Ax(ks:List Key):List Key:=ks.foldl rD []
variable{S:List Key}
theorem Am:inK S k=true↔k∈S:=by
 unfold inK;rw[acM];constructor
 .rintro⟨x,h1,h2⟩
  rw[←acw h2];exact h1
 .exact λh=>⟨k,h,by simp⟩
theorem R5{x:Key}:inK (rD S k) x=(inK S x||decide (x=k)):=by
 rw[aco,agj,Am,Am,decide_eq_true_iff];unfold rD;split
 .rename_i h
  rw[Am]at h;exact⟨.inl,λz=>z.elim id λz=>by rw[z];exact h⟩
 .simp
theorem v5:(rD S k).length=if inK S k then S.length else S.length+1:=by
 unfold rD;split<;>simp
variable{P:aae}
theorem Kf{P:aae}{w:World}(r:RelV (kV k) u):u.scannable=true:=by
 cases k with
 |inl i=>obtain⟨t,rfl⟩:=r;rfl
 |inr x=>obtain⟨t,rfl⟩:=r;rfl
variable{l:Addr}
theorem Oc{S it:Addr}{A:aaC}{R:aeR->Pr->Prop}(z:A.handled=none)(O:ks.length=its.length)(I:∀(j:Nat)(k:Key)(v:Value),ks[j]? =some k->its[j]? =some v->RelV (kV k) v)(U:its.length+1<afN)(nS:S≠it)(nl:l≠it)(a4:l≠S):∀(m i:Nat)(acc:List Key)(s:Pr),its.length-i=m->i<=its.length->s.heap.IsList l its.toArray->s.heap.IsListIter it l i->s.heap.SetOf (bG prog w) S (inK acc) acc.length->acc.length<=i->
  (∀h' tk,(∀b o,b≠S->b≠it->s.heap.get? b=some o->h'.get? b=some o)->h'.SetOf (bG prog w) S (inK ((ks.drop i).foldl rD acc)) ((ks.drop i).foldl rD acc).length->R (.ok (.ret .none)) {s with heap:=h',toks:=tk})->
  abX 1.13 A (.builtin "set.update.loop" ⟨[.ref S,.ref it],[]⟩) R s:=by
 intro m
 induction m with
 |zero=>
  intro i acc s J hi pl q D Y k;have e:i=its.length:=by omega
  subst e;refine abk aex ?_;rw[aa4 adb _];unfold Builtin.«set.update.loop»;dsimp only;refine gD (adA (show A.in1.handled=none from z) q pl (by simp) λh' eb=>?_);dsimp only;refine ZD (k h' _ (λb o _ b2 e=>eb b o b2 e) ?_);rw[←O,abK];obtain⟨o,es,ep,t,B,rest⟩:=D;exact⟨o,es,ep,t,eb S _ nS B,rest⟩
 |succ m ih=>
  intro i acc s J hi pl q D Y k;have Z:i<its.length:=by omega
  have a2:i<ks.length:=by omega
  refine abk aex ?_;rw[aa4 adb _];unfold Builtin.«set.update.loop»;dsimp only;refine gD (adl q pl (x:=its[i]) (by simp[Z]) λh1 a3 a0=>?_);dsimp only;have a7:h1.SetOf (bG prog w) S (inK acc) acc.length:=by
   obtain⟨o,es,ep,t,B,rest⟩:=D;exact⟨o,es,ep,t,(a0.2 S nS).trans B,rest⟩
  have rk:=I i ks[i] its[i] (Z0 a2) (Z0 Z);refine gD (aaW ?_);unfold setAdd;refine aaW ?_;refine gD ((bG prog w).pyHash (k:=ks[i]) (m_ rk) ?_);refine wpAny_setAddHashed_of (knd:=bG prog w) (m_ rk) (Kf (P:=prog) (w:=w) rk) a7 1.11 λh2 a1 a6=>?_;refine ZD ⟨acP adb _,?_⟩;have a5:h2.SetOf (bG prog w) S (inK (rD acc ks[i])) (rD acc ks[i]).length:=by
   have e1:(λk'=>inK acc k'||decide (k'=ks[i]))=inK (rD acc ks[i]):=funext λk'=>R5.symm;rw[←e1,v5];exact a6
  refine ih (i+1) (rD acc ks[i]) _ 1.11 Z ?_ ?_ a5 ?_ λh' tk kp V=>k h' tk (λb o b1 b2 e=>kp b o b1 b2 ((a1.2 b b1).trans ((a0.2 b b2).trans e))) ?_
  .obtain⟨o,h1',h2'⟩:=pl
   exact⟨o,(a1.2 l a4).trans ((a0.2 l nl).trans h1'),h2'⟩
  .exact a3.extBut a1.extBut (aay nS)
  .rw[v5]
   split<;>omega
  .rw[acW a2]
   exact V
abbrev qC(led:Bool):Obj:={cls:=.type "set",dict:=none,data:=.set #[] 0 (.fresh 0 0 led)}
def Ga(prog:aae)(w:World)(s:Pr)(ks:List Key)(O:Pr):Prop:=∃h' tk,O={s with heap:=h',toks:=tk}/\h'.SetOf (bG prog w) s.heap.objs.size (inK (Ax ks)) (Ax ks).length/\∀b o,s.heap.get? b=some o->h'.get? b=some o
variable{s:Pr}
theorem LR{A:aaC}{led:Bool}{E:Value->Pr->Prop}(z:A.handled=none)(O:ks.length=its.length)(I:∀(j:Nat)(k:Key)(v:Value),ks[j]? =some k->its[j]? =some v->RelV (kV k) v)(U:its.length+1<afN)(pl:s.heap.IsList l its.toArray){R:agr->Pr->Prop}
  (B:∀s2,Ga prog w s ks s2->R (.done (.ret .none)) s2):wpAny 1.13 A (Builtin.«set.__init__» ⟨[.ref s.heap.objs.size,.ref l],[]⟩) R E {s with heap:=s.heap.push (qC led)}:=by
 obtain⟨ol,a2,q,nl,a3⟩:=pl;obtain⟨a8,a0,a6,J⟩:=ol;simp only at q a3;subst q a3;have D:(s.heap.push (qC led)).get? s.heap.objs.size=some (qC led):=Z6 _ rfl;have hT:agv {s with heap:=s.heap.push (qC led)} (.ref s.heap.objs.size) "set":=⟨_,D,rfl⟩;have a4:(s.heap.push (qC led)).get? l=some {cls:=.type "list",dict:=a0,data:=.seq its.toArray nl,slots:=J}:=Zz _ a2;have a9:=F.sub_list_set;have b0:=F.sub_list_frozenset;have Z:(ab5 "list"==ab5 "dict")=false:=by decide
 have Y:(s.heap.push (qC led)).IsList l its.toArray:=⟨_,a4,rfl,nl,rfl⟩;unfold Builtin.«set.__init__» noKeywords agp;generalize a7:aeQ=PI
 wp_walk
 subst a7;refine acu Y ?_;refine gD (wpAny_runValue ?_);have a1:l<s.heap.objs.size:=ZP a2;refine Oc (prog:=prog) (w:=w) (its:=its) (ks:=ks) (A:=A) (S:=s.heap.objs.size) (l:=l) z O I U ?_ ?_ (Z5 a1) (its.length-0) 0 [] _ rfl (abO _) ?_ ?_ ?_ (ZQ _) λh' tk kp V=>?_
 .show s.heap.objs.size≠(s.heap.push (qC led)).objs.size
  rw[aaX];exact Z5 (abr _)
 .show l≠(s.heap.push (qC led)).objs.size
  rw[aaX];exact Z5 (ab3 a1)
 .exact Y.push _
 .exact⟨_,Z6 _ rfl,rfl,rfl⟩
 .have hget:((s.heap.push (qC led)).push {cls:=.type "list_iterator",data:=.fields #[.ref l,.int 0 0]}).get? s.heap.objs.size=some (qC led):=Zz _ D
  letI:BEq Key:=instBEqOfDecidableEq
  haveI:LawfulBEq Key:=inferInstance
  have e0:(λ_:Key=>false)=inK []:=funext λ_=>rfl;rw[←e0];exact(PyProof.Rows.setObjOf_fresh (knd:=bG prog w) led).setOf hget (by unfold afN;omega)
 .refine ZD ?_
  show wpAny _ _ (ret aaF) _ _ _;refine ZD (B _ ⟨h',tk,rfl,by rw[ae1]at V;exact V,λb o e=>?_⟩);have a5:b<s.heap.objs.size:=ZP e;refine kp b o (Z5 a5) ?_ (Zz _ (Zz _ e));show b≠(s.heap.push (qC led)).objs.size;rw[aaX];exact Z5 (ab3 a5)
theorem Jf{A:aaC}{E:Value->Pr->Prop}{Q:Value->Pr->Prop}(z:A.handled=none)(q:ks.length=its.length)(I:∀(j:Nat)(k:Key)(v:Value),ks[j]? =some k->its[j]? =some v->RelV (kV k) v)(U:its.length+1<afN)(pl:s.heap.IsList l its.toArray)
  (h:∀s2,Ga prog w s ks s2->Q (.ref s.heap.objs.size) s2):wpAny 1.13 A (call (.type "set") [.ref l]) Q E s:=by
 obtain⟨c,tl,a3⟩:=ace.mro;have a1:=ace.made;have a2:=ace.sub;refine wpAny_call (codeAny_of_tree ?_);show wpAny _ _ (callAny (.type "set") _) _ _ _;refine ZD ⟨Code.quiet_builtin _ (by decide +kernel),abk F.entry_type_call ?_⟩;rw[Around.under_plain (weight_type_call_type "set" [.ref l] []) rfl];have h1:=ace.notType;have h2:=ace.canCreate;have a6:=F.typeCall_set_1 (.ref l)
 repeat(any_goals(first|assumption|wp_step))
 refine acy (code_set_new_1 (.ref l) (E:=E) (Q₁:=λobj D=>∃led:Bool,obj= .ref s.heap.objs.size/\D={s with heap:=s.heap.push (qC led)}) λled=>⟨led,rfl,rfl⟩) λr D O=>?_;cases r with
 |error e=>exact O
 |ok fl=>
  cases fl with
  |ret obj=>
   obtain⟨led,rfl,rfl⟩:=O;have hS:(s.heap.push (qC led)).get? s.heap.objs.size=some (qC led):=Z6 _ rfl;have V:agv {s with heap:=s.heap.push (qC led)} (.ref s.heap.objs.size) "set":=⟨_,hS,rfl⟩;have a5:=ace.init.lookup;have a4:=ace.init.bind (.ref s.heap.objs.size)
   repeat(any_goals(first|assumption|wp_step))
   refine acy (acL (R:=wants (λr a0=>r= .none/\Ga prog w s ks a0) E) ace.init.plain F.entry_set_init (check_set_init_1 V ?_)) λZ a0 J=>?_
   .exact LR (led:=led) (by simp[z]) q I U pl λs2 B=>⟨rfl,B⟩
   .cases Z with
    |error e=>exact J
    |ok Y=>
     cases Y with
     |ret r=>
      obtain⟨rfl,B⟩:=J
      repeat(any_goals(first|assumption|wp_step))
      exact h _ B
     |_=>exact J.elim
  |_=>exact O.elim
theorem Kz(ks:List Key):(Ax ks).length<=ks.length:=by
 have:∀(ks acc:List Key),(ks.foldl rD acc).length<=acc.length+ks.length:=by
  intro ks
  induction ks with
  |nil=>intro acc;simp
  |cons k r B=>
   intro acc;have h1:=B (rD acc k);have h2:(rD acc k).length<=acc.length+1:=by rw[v5];split<;>omega
   simp![List.foldl_cons,Z3];omega
 have:=this ks [];rw[aaq,acD]at this;exact this
variable{bs:List Bool}
theorem range_all:((aaz bs.length).all λi=>bs.getD i true)=bs.all id:=by
 induction bs with
 |nil=>rfl
 |cons b r B=>
  rw[Z3,aeI,acO,List.all_map,acO,←B];rfl
variable{v:Value}
theorem Xg(F:Vals (bs.map V.bl) its){i:Nat}(h:its.toArray[i]? =some v):v= .bool (bs.getD i true):=by
 have h:its[i]? =some v:=by simpa using h
 have O:=F.length;rw[ZL]at O;have hi:i<bs.length:=by rw[O];exact(List.getElem?_eq_some_iff.mp h).1
 obtain⟨u,h1,h2⟩:=F.get (show(bs.map V.bl)[i]? =some (V.bl bs[i])by rw[List.getElem?_map,Z0 hi];rfl);rw[h]at h1;cases h1;cases h2;simp[List.getD,hi]
variable{X:Cx}
theorem yp{xs:List V}(I:Inv X pins σ H s)(pl:s.heap.IsList a its.toArray) :
  a≠s.heap.objs.size:=by
 obtain⟨o,h,_⟩:=pl;exact Z5 (ZP h)
theorem Jq(Z:X.calm=true):fZ X (.builtin "all") (λxs H Q=>∃a bs,xs=[.ref a]/\SqL X.K H a (Z9 V.bl bs)/\Q (.bl (List.all bs id)) H):=by
 intro pins s σ H xs us Q I r h;obtain⟨a,bs,rfl,Y,q⟩:=h;obtain⟨u,rfl,B⟩:=vals1 r;cases B;obtain⟨its,F,pl,hz⟩:=I.list Y;have z:X.A.handled=none:=I.ok.hd Z;have D:a≠s.heap.objs.size:=yp (xs:=[]) I pl.isList;have O:=F.length;rw[ZL]at O;refine call_all_walk (acu pl.isList ⟨s.heap.objs.size,[s.heap.objs.size,a],[s.heap.objs.size],its.toArray.size,_,_,λi=>bs.getD i true,rfl,Walks.list (show X.A.in1.handled=none from z) s.heap.objs.size a D its.toArray,⟨⟨_,Z6 _ rfl,rfl,rfl⟩,pl.isList.push _⟩,λi v s2 Q2 E2 J U=>?_,λh' tk kp=>?_⟩)
 .rw[Xg F J]
  exact acs U
 .rw[List.size_toArray,←O,range_all]
  exact⟨.bl _,H,I.kept (t':=tk) λb o e=>kp b o (by simp;exact Z5 (ZP e)) (Zz _ e),rfl,q⟩
theorem int_at{ns:List Int}(F:Vals (ns.map V.int) its){i:Nat}(h:its.toArray[i]? =some v):∃t,v= .int (ns.getD i 0) t:=by
 have h:its[i]? =some v:=by simpa using h
 have O:=F.length;rw[ZL]at O;have hi:i<ns.length:=by rw[O];exact(List.getElem?_eq_some_iff.mp h).1
 obtain⟨u,h1,h2⟩:=F.get (show(ns.map V.int)[i]? =some (V.int ns[i])by rw[List.getElem?_map,Z0 hi];rfl);rw[h]at h1;cases h1;obtain⟨t,rfl⟩:=h2;exact⟨t,by simp[List.getD,hi]⟩
theorem Ip(Z:X.calm=true):fZ X (.builtin "sum") (λxs H Q=>∃a ns,xs=[.ref a]/\SqL X.K H a (Z9 V.int ns)/\Q (.int (List.sum ns)) H):=by
 intro pins s σ H xs us Q I r h;obtain⟨a,ns,rfl,Y,q⟩:=h;obtain⟨u,rfl,B⟩:=vals1 r;cases B;obtain⟨its,F,pl,hz⟩:=I.list Y;have hh:X.A.handled=none:=I.ok.hd Z;have ne:a≠s.heap.objs.size:=yp (xs:=[]) I pl.isList;have O:=F.length;rw[ZL]at O;have W:=(Walks.list (prog:=X.prog) (w:=X.w) (show X.A.in1.handled=none from hh) s.heap.objs.size a ne its.toArray).toS;refine call_sum_walkAnyS (acu pl.isList ⟨s.heap.objs.size,[s.heap.objs.size,a],[s.heap.objs.size],_,its.toArray.size,_,_,λi=>ns.getD i 0,rfl,W,⟨⟨_,Z6 _ rfl,rfl,rfl⟩,pl.isList.push _⟩,λb U=>?_,λi v J=>int_at F J,λs' t' mv=>?_⟩)
 .have h1:a<s.heap.objs.size:=let⟨_,h,_⟩:=pl.isList;ZP h
  show b<(s.heap.push _).objs.size;rw[aaX];simp at U;rcases U with z|z
  .rw[z];exact abr _
  .rw[z];exact ab3 h1
 .rw[List.size_toArray,←O,preSum_getD,acf]
  obtain⟨h',g',d',D,a0⟩:=s';have eg:g'=s.gens:=mv.gens;have ed:d'=s.drawn:=mv.drawn;have eo:a0=s.os:=mv.os;subst eg ed eo;exact⟨.int _,H,I.kept (t':=D) λb o e=>mv.heap b o (by simp;exact Z5 (ZP e)) (Zz _ e),⟨_,rfl⟩,q⟩
def vU:D->D->Option D
 |.lst _ ds,.int i=>if i= -1 then some (.lst .own ds.reverse)else none
 |.tup ds,.int i=>if i= -1 then some (.tup ds.reverse)else if i=1 then some (.tup ds)else none
 |_,_=>none
def j4:List D->Option (List Key)
 |[]=>some []
 |d::r=>(cW d).bind λk=>(j4 r).map λt=>k::t
theorem yN:∀{ds:List D}{ks:List Key}{xs:List V}{L:List Addr},j4 ds=some ks->aF G H W ds xs L->xs=ks.map kV
 |[],ks,xs,L,h,r=>by cases h;exact r.inv0.1
 |d::t,ks,xs,L,h,r=>by
  obtain⟨x,ys,M,M',rfl,rfl,h1,h2⟩:=r.inv;cases e1:cW d with
  |none=>simp[j4,e1]at h
  |some k=>
   cases e2:j4 t with
   |none=>simp[j4,e1,e2]at h
   |some w=>
    obtain rfl:k::w=ks:=by simpa[j4,e1,e2]using h
    rw[yN e2 h2,iR h1 e1];rfl
theorem yC:∀{ds:List D}{ks:List Key},j4 ds=some ks->ks.length=ds.length
 |[],ks,h=>by cases h;rfl
 |d::t,ks,h=>by
  cases e1:cW d with
  |none=>simp[j4,e1]at h
  |some k=>
   cases e2:j4 t with
   |none=>simp[j4,e1,e2]at h
   |some w=>
    obtain rfl:k::w=ks:=by simpa[j4,e1,e2]using h
    simp[yC e2]
def DX:List D->Option (List Bool)
 |[]=>some []
 |.bl b::r=>(DX r).map λt=>b::t
 |_::_=>none
theorem BR:∀{ds:List D}{bs:List Bool}{xs:List V}{L:List Addr},DX ds=some bs->aF G H W ds xs L->xs=bs.map V.bl
 |[],ks,xs,L,h,r=>by cases h;exact r.inv0.1
 |d::t,ks,xs,L,h,r=>by
  obtain⟨x,ys,M,M',rfl,rfl,h1,h2⟩:=r.inv;cases d<;>simp[DX]at h;obtain⟨w,Z,rfl⟩:=h;rw[Rep]at h1;rw[BR Z h2,h1.1];rfl
def vR:List D->Option (List Int)
 |[]=>some []
 |.int b::r=>(vR r).map λt=>b::t
 |_::_=>none
theorem xQ:∀{ds:List D}{bs:List Int}{xs:List V}{L:List Addr},vR ds=some bs->aF G H W ds xs L->xs=bs.map V.int
 |[],ks,xs,L,h,r=>by cases h;exact r.inv0.1
 |d::t,ks,xs,L,h,r=>by
  obtain⟨x,ys,M,M',rfl,rfl,h1,h2⟩:=r.inv;cases d<;>simp[vR]at h;obtain⟨w,Z,rfl⟩:=h;rw[Rep]at h1;rw[xQ Z h2,h1.1];rfl
def Ih:List D->Option D
 |[.lst _ ds]=>(DX ds).map λbs=>.bl (bs.all id)
 |_=>none
def Rq:List D->Option D
 |[.lst _ ds]=>(vR ds).map λns=>.int ns.sum
 |_=>none
variable{X:ι->Cx}
theorem Hz(Z:∀c,(X c).calm=true)(F:∀c,(X c).K=G.K:=by intro _;rfl):CaB X G (.builtin "all") Ih:=⟨λxs H Q=>∃a bs,xs=[.ref a]/\SqL G.K H a (Z9 V.bl bs)/\Q (.bl (List.all bs id)) H,λc=>by rw[←F c];exact Jq (Z c),λds d e xs H W J r nd hn w Q q=>by
 unfold Ih at e;split at e
 .rename_i m ds
  cases h1:DX ds with
  |none=>simp[h1]at e
  |some ks=>
   obtain rfl:D.bl (ks.all id)=d:=by simpa[h1]using e
   obtain⟨x,rfl,rx⟩:=r.inv1;rw[Rep]at rx;obtain⟨a,ys,M,rfl,O,B⟩:=rx;have:=BR h1 O;subst this;exact⟨a,ks,rfl,B.sq,q.scal λ_=>gW⟩
 .cases e⟩
theorem P0(Z:∀c,(X c).calm=true)(F:∀c,(X c).K=G.K:=by intro _;rfl):CaB X G (.builtin "sum") Rq:=⟨λxs H Q=>∃a ns,xs=[.ref a]/\SqL G.K H a (Z9 V.int ns)/\Q (.int (List.sum ns)) H,λc=>by rw[←F c];exact Ip (Z c),λds d e xs H W J r nd hn w Q q=>by
 unfold Rq at e;split at e
 .rename_i m ds
  cases h1:vR ds with
  |none=>simp[h1]at e
  |some ks=>
   obtain rfl:D.int ks.sum=d:=by simpa[h1]using e
   obtain⟨x,rfl,rx⟩:=r.inv1;rw[Rep]at rx;obtain⟨a,ys,M,rfl,O,B⟩:=rx;have:=xQ h1 O;subst this;exact⟨a,ks,rfl,B.sq,q.scal λ_=>di⟩
 .cases e⟩
def qw(g:Int->Int->Int)(i:Nat)(f:En->Option D):En->Option Fl:=λρ=>match ρ[i]? with
 |some (some (.int m))=>(f ρ).bind λd=>match d with
  |.int n=>some (.nx (ρ.set i (some (.int (g m n)))))
  |_=>none
 |_=>none
def jZ(f:En->Option (List D×En)):En->Option (List D×En):=λρ=>(f ρ).bind λp=>match p.1 with
 |[.int j]=>if -(2 ^ 62)<=j/\j<2 ^ 62 then some (nU 0 j.toNat,p.2)else none
 |_=>none
def jY(it:En->Option (List D×En))(tg:D->En->Option En)(body:En->Option Fl):En->Option Fl:=λρ=>(it ρ).bind λp=>forL tg body p.1 p.2
def WP(own:Nat->Bool)(cap:List 1.34):Bool:=(aaz cap.length).all λi=>!own i||(match cap[i]? with
 |some none=>true
 |_=>false)
theorem jh{own:Nat->Bool}{cap:List 1.34}(h:WP own cap=true):∀i:Nat,own i=true->cap[i]?≠none->cap[i]? =some none:=λi B hn=>by
 have hi:i<cap.length:=by
  by_cases z:i<cap.length
  .exact z
  .exact absurd (adC 1.11) hn
 have:=aen.mp h i (abt.mpr hi);rw[B]at this;simp![afq,Bool.false_or]at this;split at this
 .assumption
 .cases this
def RL(cap:List 1.34):Bool:=(aaz cap.length).all λi=>(aaz cap.length).all λk=>match cap[i]?,cap[k]? with
 |some (some a),some (some b)=>!(a==b)||i==k
 |_,_=>true
theorem QR{cap:List 1.34}(h:RL cap=true):qp cap:=λi k j h1 h2=>by
 have hi:i<cap.length:=(List.getElem?_eq_some_iff.mp h1).1;have I:k<cap.length:=(List.getElem?_eq_some_iff.mp h2).1;have:=aen.mp (aen.mp h i (abt.mpr hi)) k (abt.mpr I);rw[h1,h2]at this;simpa using this
def Wp(o:Option α)(Q:α->Prop):Prop:=∃a,o=some a/\Q a
variable{a:α}{Q:α->Prop}
theorem aH:Wp (some a) Q↔Q a:=⟨λ⟨b,e,q⟩=>by cases e;exact q,λq=>⟨a,rfl,q⟩⟩
theorem gA:Wp (none:Option α) Q↔False:=⟨λ⟨b,e,q⟩=>(by cases e),λz=>z.elim⟩
variable{o:Option α}{R:β->Prop}
theorem aU{f:α->Option β}:Wp (o.bind f) R↔Wp o λa=>Wp (f a) R:=by
 cases o with
 |none=>simp[gA]
 |some a=>simp[aH]
variable{f:α->β}
theorem cU:Wp (o.map f) R↔Wp o λa=>R (f a):=by
 cases o with
 |none=>simp[gA]
 |some a=>simp[aH]
theorem w_ite{c:Prop}[Decidable c]{a b:Option α}:Wp (if c then a else b) Q↔(if c then Wp a Q else Wp b Q):=by
 split<;>exact Iff.rfl
theorem Wp.mono{J:α->Prop}(h:Wp o Q)(k:∀a,Q a->J a):Wp o J:=let⟨a,e,q⟩:=h;⟨a,e,k a q⟩
theorem Wp.eq(h:Wp o λx=>x=a):o=some a:=let⟨b,e,q⟩:=h;by rw[e,q]
theorem HH(h:o=some a)(q:Q a):Wp o Q:=⟨a,h,q⟩
variable{Q:Fl->Prop}
theorem i_{f g:En->Option Fl}:Wp (a_ f g ρ) Q↔Wp (f ρ) λr=>match r with
 |.nx I=>Wp (g I) Q
 |.ret d I=>Q (.ret d I)
 |.brk I=>Q (.brk I)
 |.cnt I=>Q (.cnt I):=by
 unfold a_;cases f ρ with
 |none=>simp[gA]
 |some r=>cases r<;>simp[aH]
theorem T5(I:Nat->En->Prop):∀{items:List D}{ρ:En}{k:Nat},I k ρ->
  (∀(i:Nat)(d:D)(ρ:En),items[i]? =some d->I (k+i) ρ->Wp (tg d ρ) λρ1=>Wp (body ρ1) λr=>match r with
   |.nx ρ2=>I (k+i+1) ρ2
   |.cnt ρ2=>I (k+i+1) ρ2
   |.brk ρ2=>Q (.nx ρ2)
   |.ret d ρ2=>Q (.ret d ρ2))->
  (∀ρ,I (k+items.length) ρ->Q (.nx ρ))->Wp (forL tg body items ρ) Q
 |[],ρ,k,h0,_,h=>by rw[forL];exact aH.mpr (h ρ h0)
 |d::r,ρ,k,h0,hs,h=>by
  rw[forL];obtain⟨ρ1,e1,w⟩:=hs 0 d ρ rfl h0;obtain⟨fl,e2,w⟩:=w;rw[e1,Hq,e2];have B:∀{ρ2:En},I (k+1) ρ2->Wp (forL tg body r ρ2) Q:=λU=>T5 I U (λi d ρ hi U=>by
   have:=hs (i+1) d ρ (by simpa using hi) (by rw[show k+(i+1)=k+1+i by omega];exact U);rw[show k+(i+1)+1=k+1+i+1 by omega]at this;exact this) λρ U=>h ρ (by rw[Z3,show k+(r.length+1)=k+1+r.length by omega];exact U)
  cases fl with
  |nx ρ2=>exact B w
  |cnt ρ2=>exact B w
  |brk ρ2=>exact aH.mpr w
  |ret d ρ2=>exact aH.mpr w
variable{e:En->Option (D×En)}{Q:List D×En->Prop}{c:En->Option Bool}
theorem HR{cap:List 1.34}(I:Nat->List D->En->Prop):∀{items:List D}{ρ:En}{k:Nat}{acc:List D},I k acc ρ->
  (∀(i:Nat)(d:D)(acc:List D)(ρ:En),items[i]? =some d->I (k+i) acc ρ->Wp (tg d (fU cap ρ)) λρ1=>Wp (c ρ1) λb=>if b=true then Wp (e ρ1) λp=>clean p.1=true/\I (k+i+1) (acc++[p.1]) (dW cap p.2 ρ)else I (k+i+1) acc ρ)->
  (∀ys ρ,I (k+items.length) ys ρ->Q (ys,ρ))->Wp (lz cap tg c e items ρ) λt=>Q (acc++t.1,t.2)
 |[],ρ,k,acc,h0,_,h=>by rw[lz];exact aH.mpr (by rw[List.append_nil];exact h acc ρ h0)
 |d::r,ρ,k,acc,h0,hs,h=>by
  rw[lz];obtain⟨ρ1,e1,b,e2,w⟩:=hs 0 d acc ρ rfl h0;rw[e1,Hq,e2,Hq];have B:∀{ρ2:En}{acc:List D},I (k+1) acc ρ2->Wp (lz cap tg c e r ρ2) λt=>Q (acc++t.1,t.2):=λU=>HR I U (λi d acc ρ hi U=>by
   have:=hs (i+1) d acc ρ (by simpa using hi) (by rw[show k+(i+1)=k+1+i by omega];exact U);rw[show k+(i+1)+1=k+1+i+1 by omega]at this;exact this) λys ρ U=>h ys ρ (by rw[Z3,show k+(r.length+1)=k+1+r.length by omega];exact U)
  cases b with
  |false=>
   simp![aaj,aaN]at w⊢;exact B w
  |true=>
   simp![aab]at w⊢;obtain⟨p,q,Z,U⟩:=w;rw[q,Hq,ZV Z];rw[cU];refine(B U).mono λt Y=>?_;simpa using Y
theorem bU(l:List Str):az (l.map D.str)=true:=bH λd hd=>by obtain⟨x,_,rfl⟩:=ZG.mp hd;rfl
theorem bM(l:List Str):aA (l.map D.str)=true:=bC λd hd=>by obtain⟨x,_,rfl⟩:=ZG.mp hd;rfl
theorem bB(b:Bool)(l:List Str):cH b (l.map D.str)=l.map D.str:=by rw[cP,ZX];rfl
theorem dD(l:List Str):fzL (l.map D.str)=l.map D.str:=by rw[f9,ZX];rfl
theorem gF(l:List Str):fV (l.map D.str)=l.map D.str:=by rw[gR,ZX];rfl
variable{l:List α}
theorem uP{α β:Type}{f:α->β}{l:List α}(Y:0<=i)(h1:i<l.length):∃x,x∈l/\l[i.toNat]? =some x/\atI (l.map f) i=some (f x):=by
 have:i.toNat<l.length:=by omega
 refine⟨l[i.toNat],abL _,by simp[this],?_⟩;unfold atI ixN;rw[ZV Y,ZV (by simpa using h1)];simp[this]
theorem GK{i:Nat}(h:(nU 0 n)[i]? =some d):i<n/\d= .int (i:Int):=by
 have hi:i<n:=by have:=(List.getElem?_eq_some_iff.mp h).1;simpa[nU]using this
 refine⟨hi,?_⟩;unfold nU at h;rw[List.getElem?_map,afx hi]at h;simpa using h.symm
theorem Gu(h:k∈ks):∃j,dw ks k=some j/\j<ks.length:=by
 cases e:dw ks k with
 |none=>exact absurd h (wW e)
 |some j=>exact⟨j,rfl,uF e⟩
theorem Lf(h:ks.length=ds.length):(fX ks ds k d).1.length=(fX ks ds k d).2.length/\∀x,x∈(fX ks ds k d).1↔x∈ks∨x=k:=by
 unfold fX;cases e:dw ks k with
 |none=>exact⟨by simp[h],λx=>by simp⟩
 |some j=>
  refine⟨by simpa using h,λx=>⟨.inl,λz=>z.elim id λz=>?_⟩⟩;obtain⟨O,I,_⟩:=aan.mp e;have:ks[j]=k:=by simpa using I
  rw[z,←this];exact abL _
theorem pZ:∀{es:List (Key×D)}{ks:List Key}{ds:List D},ks.length=ds.length->(cO ks ds es).1.length=(cO ks ds es).2.length/\∀x,x∈(cO ks ds es).1↔x∈ks∨∃p∈es,p.1=x
 |[],ks,ds,h=>⟨h,λx=>by simp[cO]⟩
 |p::r,ks,ds,h=>by
  obtain⟨h1,h2⟩:=Lf (k:=p.1) (d:=p.2) h;obtain⟨Z,V⟩:=pZ (es:=r) h1;rw[cO];refine⟨Z,λx=>?_⟩;rw[V,h2];constructor
  .rintro((z|z)|⟨q,hq,z⟩)
   .exact .inl z
   .exact .inr ⟨p,by simp,z.symm⟩
   .exact .inr ⟨q,by simp[hq],z⟩
  .rintro(z|⟨q,hq,z⟩)
   .exact .inl (.inl z)
   .rcases ZR.mp hq with y|y
    .subst y;exact .inl (.inr z.symm)
    .exact .inr ⟨q,y,z⟩
def Dn(ns:List Str)(d:D):Prop:=∃ks ds,d= .dct .own ks ds/\(∀e∈ds,∃i:Int,e= .int i)/\∀x∈ns,∃(j:Nat)(i:Int),dw ks (.inr x)=some j/\ds[j]? =some (.int i)
def pD(p:Str×Int):D:=.tup [.str p.1,.int p.2]
theorem HB:∀ps:List (Str×Int),BW (ps.map pD)=some (ps.map λp=>(ZS p.1,.int p.2))
 |[]=>rfl
 |p::r=>by simp[BW,pD,cW,HB r]
theorem Pg{ps:List (Str×Int)}(O:ps.length<=50000):Wp (vO [.lst .own (ps.map pD)]) λd=>Dn (ps.map (·.1)) d/\clean d=true:=by
 simp![vO];rw[ZV ⟨rfl,by simpa using O⟩,HB];refine aH.mpr ?_;have hok:=pZ (es:=ps.map λp=>((ZS p.1:Key),D.int p.2)) (ks:=[]) (ds:=[]) rfl;have U:=jw (λd=>∃i:Int,d= .int i) (es:=ps.map λp=>((ZS p.1:Key),D.int p.2)) (ks:=[]) (ds:=[]) (by simp) (λq Y=>by obtain⟨p,_,rfl⟩:=ZG.mp Y;exact⟨p.2,rfl⟩);refine⟨⟨_,_,rfl,U,λx J=>?_⟩,yf (bH λd hd=>by obtain⟨i,rfl⟩:=U d hd;rfl) (bC λd hd=>by obtain⟨i,rfl⟩:=U d hd;rfl)⟩;obtain⟨p,F,rfl⟩:=ZG.mp J;obtain⟨j,h1,h2⟩:=Gu ((hok.2 (ZS p.1)).mpr (.inr ⟨_,ZG.mpr ⟨p,F,rfl⟩,rfl⟩));have z:j<(cO [] [] (ps.map λp=>((ZS p.1:Key),D.int p.2))).2.length:=by rw[←hok.1];exact h2
 obtain⟨i,hi⟩:=U _ (abL z);exact⟨j,i,h1,by rw[Z0 z,hi]⟩
abbrev Jt:=Str×Str×Int
def jD(j:Jt):D:=.tup [.str j.1,.str j.2.1,.int j.2.2]
theorem kJ(l:List Jt):az (l.map jD)=true:=bH λd hd=>by obtain⟨x,_,rfl⟩:=ZG.mp hd;rfl
theorem kW(l:List Jt):aA (l.map jD)=true:=bC λd hd=>by obtain⟨x,_,rfl⟩:=ZG.mp hd;rfl
theorem m7(b:Bool)(l:List Jt):cH b (l.map jD)=l.map jD:=by rw[cP,ZX];rfl
theorem oG(l:List Jt):fzL (l.map jD)=l.map jD:=by rw[f9,ZX];rfl
theorem v_(l:List Jt):fV (l.map jD)=l.map jD:=by rw[gR,ZX];rfl
theorem Gj:∀l:List Jt,rF (l.map jD)=true
 |[]=>rfl
 |j::r=>by simp[rF,jD,wZ,Gj r]
theorem yJ:∀l:List Str,rF (l.map D.str)=true
 |[]=>rfl
 |j::r=>by simp[rF,wZ,yJ r]
theorem yU{l:List Jt}:gNe (.lst m (l.map jD)) (.lst .own [])=some (.bl (!l.isEmpty)):=by
 unfold gNe;have h1:=Gj l;rw[ZV ⟨by simpa[wZ]using h1,rfl,.lst (by simp[dtL])⟩];cases l with
 |nil=>rfl
 |cons j r=>rfl
theorem eq_int{j:Int}:gEq (.int i) (.int j)=some (.bl (decide (i=j))):=by
 unfold gEq;rw[ZV ⟨rfl,rfl,.sc (.int i j)⟩];simp[dt,eqD];exact aco.mpr (by simp)
variable{items:List D}
theorem K4{cap:List 1.34}(I:Nat->List D->En->Prop)(Y:I 0 [] ρ)
  (B:∀(i:Nat)(d:D)(acc:List D)(ρ:En),items[i]? =some d->I i acc ρ->Wp (tg d (fU cap ρ)) λρ1=>Wp (c ρ1) λb=>if b=true then Wp (e ρ1) λp=>clean p.1=true/\I (i+1) (acc++[p.1]) (dW cap p.2 ρ)else I (i+1) acc ρ)
  (h:∀ys ρ,I items.length ys ρ->Q (ys,ρ)):Wp (lz cap tg c e items ρ) Q:=by
 have:=HR (cap:=cap) (tg:=tg) (c:=c) (e:=e) (Q:=Q) I (items:=items) (ρ:=ρ) (k:=0) (acc:=[]) Y (λi d acc ρ hi U=>by
  rw[acD]at U⊢;exact B i d acc ρ hi U) λys ρ U=>h ys ρ (by rw[acD]at U;exact U)
 simpa using this
variable{Q:Fl->Prop}
theorem lF(I:Nat->En->Prop)(Y:I 0 ρ)
  (B:∀(i:Nat)(d:D)(ρ:En),items[i]? =some d->I i ρ->Wp (tg d ρ) λρ1=>Wp (body ρ1) λr=>match r with
   |.nx ρ2=>I (i+1) ρ2
   |.cnt ρ2=>I (i+1) ρ2
   |.brk ρ2=>Q (.nx ρ2)
   |.ret d ρ2=>Q (.ret d ρ2))
  (h:∀ρ,I items.length ρ->Q (.nx ρ)):Wp (forL tg body items ρ) Q:=
 T5 (k:=0) I Y (λi d ρ hi U=>by
  rw[acD]at U⊢;exact B i d ρ hi U) λρ U=>h ρ (by rw[acD]at U;exact U)
theorem aX{f g:En->Option Fl}(P:En->Prop)(h1:∀J:Fl->Prop,(∀I,P I->J (.nx I))->Wp (f ρ) J)(h2:∀I,P I->Wp (g I) Q):Wp (a_ f g ρ) Q:=by
 rw[i_];exact h1 _ λI h=>h2 I h
theorem RN(j:Jt):aC (jD j)=true:=rfl
theorem QT(j:Jt):aB (jD j)=true:=rfl
theorem Ra(b:Bool)(j:Jt):view b (jD j)=jD j:=rfl
theorem Qi(j:Jt):fz (jD j)=jD j:=rfl
theorem Rc(j:Jt):fzo (jD j)=jD j:=rfl
theorem Ho(j:Jt):gSl (jD j) none (some 2)=some (.tup [.str j.1,.str j.2.1]):=rfl
theorem zr(m:Mk)(l:List Jt):eQ [.lst m (l.map jD)]=some (.int l.length):=by simp[eQ]
theorem len_strs(m:Mk)(l:List Str):eQ [.lst m (l.map D.str)]=some (.int l.length):=by simp[eQ]
theorem uJ(l:List Jt):eQ [.tup (l.map jD)]=some (.int l.length):=by simp[eQ]
theorem o_(l:List Str):eQ [.tup (l.map D.str)]=some (.int l.length):=by simp[eQ]
theorem Nr{l:List D}:gIx (.lst m l) (.int i)=atI l i:=rfl
theorem Rw{l:List D}:gIx (.tup l) (.int i)=atI l i:=rfl
open PySem PySem.W PyProof.Rows
def Tr(b:Nat->Nat->Bool)(n:Nat):KasT α->(α->Prop)->Prop
 |.ret a,Q=>Q a
 |.ask i j k,Q=>i<n/\j<n/\Tr b n (k (b i j)) Q
variable{b:Nat->Nat->Bool}
theorem Tr.bind{f:α->KasT β}{Q:β->Prop}:∀{t:KasT α},Tr b n t (λa=>Tr b n (f a) Q)->Tr b n (t.bind f) Q
 |.ret _,h=>h
 |.ask _ _ _,⟨h1,h2,h3⟩=>⟨h1,h2,Tr.bind h3⟩
theorem Tr.mono{Q J:α->Prop}(Y:∀a,Q a->J a):∀{t:KasT α},Tr b n t Q->Tr b n t J
 |.ret _,h=>Y _ h
 |.ask _ _ _,⟨h1,h2,h3⟩=>⟨h1,h2,Tr.mono Y h3⟩
theorem Tr.wp{q:Nat->Nat->(Bool->Pr->Prop)->Pr->Prop}{Q:α->Prop}(Z:∀i j C,i<n->j<n->C (b i j) s->q i j C s):∀{t:KasT α},Tr b n t Q->t.kasWp q (λa s'=>s'=s/\Q a) s
 |.ret _,h=>⟨rfl,h⟩
 |.ask _ _ _,⟨h1,h2,h3⟩=>Z _ _ _ h1 h2 (Tr.wp Z h3)
def ji(n:Nat)(p:Array Nat):Prop:=abh p.toList (aaz n)
variable{p:Array Nat}
theorem ji.size(h:ji n p):p.size=n:=by
 have:=List.Perm.length_eq h;simpa using this
theorem ji.lt(h:ji n p)(hn:0<n)(i:Nat):p.getD i 0<n:=by
 by_cases hi:i<p.size
 .have hm:p[i]∈p.toList:=by simp
  have:=abt.mp (afZ h |>.mp hm);simpa[Array.getD,hi]using this
 .simpa[Array.getD,hi]using hn
theorem ji.of{q:Array Nat}(h:ji n p)(F:Array.Perm q p):ji n q:=(Array.perm_iff_toList_perm.mp F).trans h
section
variable(ρ:Nat->Int)
def rk(p:Array Nat)(i:Nat):Int:=ρ (p.getD i 0)
def Up1(p:Array Nat)(k:Nat):Prop:=∀i j,i<=j->j<k->rk ρ p i<=rk ρ p j
def Dn1(p:Array Nat)(k:Nat):Prop:=∀i j,i<=j->j<k->rk ρ p j<=rk ρ p i
abbrev bk:Nat->Nat->Bool:=λi j=>decide (ρ i<ρ j)
end
section
variable{ρ:Nat->Int}{n:Nat}(hn:0<n)
theorem Dg{p q:Array Nat}{i j:Nat}(h:p[i]? =q[j]?):rk ρ p i=rk ρ q j:=by
 unfold rk;rw[abU,abU,h]
theorem FQ{p:Array Nat}{i j:Nat}(F:j<=p.size)(k:Nat):rk ρ (kas_rev p i j) k=if i<=k/\k<j then rk ρ p (i+j-1-k)else rk ρ p k:=by
 have e:=getElem?_mirror_all (xs:=p) (i:=i) F k;unfold kas_rev;split
 .rename_i h;rw[ZV h]at e;exact Dg e
 .rename_i h;rw[Z1 h]at e;exact Dg e
theorem jz{p:Array Nat}{i j:Nat}(F:j<=p.size)(h:∀k,i<=k->k<j->rk ρ p k=rk ρ p (j-1))(k:Nat):rk ρ (kas_rev p i j) k=rk ρ p k:=by
 rw[FQ F];split
 .rw[h _ 1.11 1.11,h k 1.11 1.11]
 .rfl
include hn
theorem LC{p:Array Nat}(F:ji n p):∀(f a:Nat),1<=a->Up1 ρ p a->Tr (bk ρ) n (kas_asc p f a) λm=>a<=m/\m<=a+f/\Up1 ρ p m
 |0,a,_,h=>⟨ZQ _,ZQ _,h⟩
 |f+1,a,ha,h=>by
  refine⟨F.lt hn _,F.lt hn _,?_⟩;by_cases c:rk ρ p a<rk ρ p (a-1)
  .have e:bk ρ (p.getD a 0) (p.getD (a-1) 0)=true:=aaE c
   rw[e];exact⟨ZQ _,by omega,h⟩
  .have e:bk ρ (p.getD a 0) (p.getD (a-1) 0)=false:=aaa c
   rw[e];refine Tr.mono (λm J=>⟨by omega,by omega,J.2.2⟩) (LC F f (a+1) 1.11 λi j O q=>?_);by_cases D:j<a
   .exact h i j O D
   .obtain rfl:j=a:=by omega
    by_cases hi:i=j
    .subst hi;exact abR _
    .exact adH (h i (j-1) 1.11 1.11) 1.11
def DsQ(ρ:Nat->Int)(n a f:Nat)(t:Array Nat×Nat×Nat):Prop:=ji n t.1/\a<=t.2.1/\t.2.1<=a+f/\Dn1 ρ t.1 t.2.1/\t.2.2+1<=t.2.1/\∀i,t.2.1-(t.2.2+1)<=i->i<t.2.1->rk ρ t.1 i=rk ρ t.1 (t.2.1-1)
theorem zN:∀(f:Nat)(p:Array Nat)(a q:Nat),ji n p->1<=a->a+f<=n->Dn1 ρ p a->q+1<=a->(∀i,a-(q+1)<=i->i<a->rk ρ p i=rk ρ p (a-1))->Tr (bk ρ) n (kas_desc f p a q) (DsQ ρ n a f)
 |0,p,a,q,hp,ha,_,h,hq,he=>⟨hp,ZQ _,ZQ _,h,hq,he⟩
 |f+1,p,a,q,hp,ha,hf,h,hq,he=>by
  have hz:=hp.size;refine⟨hp.lt hn _,hp.lt hn _,?_⟩;by_cases c:rk ρ p a<rk ρ p (a-1)
  .have e:bk ρ (p.getD a 0) (p.getD (a-1) 0)=true:=aaE c
   have V:∀B:Array Nat,ji n B->(∀k,rk ρ B k=rk ρ p k)->Tr (bk ρ) n (kas_desc f B (a+1) 0) (DsQ ρ n a (f+1)):=λB U I=>by
    refine Tr.mono (λt Y=>⟨Y.1,by have:=Y.2.1;omega,by have:=Y.2.2.1;omega,Y.2.2.2⟩) (zN f B (a+1) 0 U 1.11 1.11 (λi j O F=>?_) 1.11 λi h1 h2=>by rw[show i=a+1-1 by omega]);rw[I,I];by_cases D:j<a
    .exact h i j O D
    .obtain rfl:j=a:=by omega
     by_cases hi:i=j
     .subst hi;exact abR _
     .exact adH 1.11 (h i (j-1) 1.11 1.11)
   rw[e];simp![aab];by_cases J:q>0
   .rw[ZV J]
    exact V _ (hp.of (aeL _ _ _ _)) (jz 1.11 he)
   .rw[Z1 J]
    exact V _ hp λ_=>rfl
  .have e:bk ρ (p.getD a 0) (p.getD (a-1) 0)=false:=aaa c
   rw[e];simp![aaj,aaN];refine⟨hp.lt hn _,hp.lt hn _,?_⟩;by_cases z:rk ρ p (a-1)<rk ρ p a
   .have e:bk ρ (p.getD (a-1) 0) (p.getD a 0)=true:=aaE z
    rw[e];exact⟨hp,ZQ _,by show a<=a+(f+1);omega,h,hq,he⟩
   .have e:bk ρ (p.getD (a-1) 0) (p.getD a 0)=false:=aaa z
    have Z:rk ρ p a=rk ρ p (a-1):=by omega
    rw[e];simp![aaj,aaN];refine Tr.mono (λt Y=>⟨Y.1,by have:=Y.2.1;omega,by have:=Y.2.2.1;omega,Y.2.2.2⟩) (zN f p (a+1) (q+1) hp 1.11 1.11 (λi j O F=>?_) 1.11 λi h1 h2=>?_)
    .by_cases D:j<a
     .exact h i j O D
     .obtain rfl:j=a:=by omega
      by_cases hi:i=j
      .subst hi;exact abR _
      .rw[Z];exact h i (j-1) 1.11 1.11
    .rw[show a+1-1=a by omega]
     by_cases hi:i=a
     .rw[hi]
     .rw[Z];exact he i 1.11 1.11
def CtQ(ρ:Nat->Int)(n z:Nat)(t:Nat×Array Nat):Prop:=ji n t.2/\1<=t.1/\t.1<=z/\Up1 ρ t.2 t.1
theorem Hm{p:Array Nat}{a z:Nat}(F:ji n p)(Y:1<=a)(I:a<=z)(B:z<=n)(h:Dn1 ρ p a):Tr (bk ρ) n (kas_tail3 a z p) (CtQ ρ n z):=by
 have hz:=F.size;have D:ji n (kas_rev p 0 a):=F.of (aeL _ _ _ _);refine Tr.bind (Tr.mono (λm J=>?_) (LC hn D (z-a) a Y λi j O q=>?_))
 .exact⟨D,by show 1<=m;omega,by show m<=z;omega,J.2.2⟩
 .rw[FQ 1.11,FQ 1.11,ZV 1.11,ZV 1.11]
  exact h _ _ 1.11 1.11
theorem Gx{p:Array Nat}{a z:Nat}(F:ji n p)(I:a+1<=z)(B:z<=n)(h:Dn1 ρ p (a+1)):Tr (bk ρ) n (kas_descPart a z p) (CtQ ρ n z):=by
 refine Tr.bind (Tr.mono (λt Y=>?_) (zN hn (z-(a+1)) p (a+1) 0 F 1.11 1.11 h 1.11 λi h1 h2=>by rw[show i=a+1-1 by omega]));obtain⟨U,D,t3⟩:=t;obtain⟨h1,h2,Z,V,J,q⟩:=Y;have hz:=h1.size;simp only at h1 h2 Z V J q hz⊢;split
 .refine Hm hn (h1.of (aeL _ _ _ _)) 1.11 1.11 B λi j O hj=>?_
  rw[jz 1.11 q,jz 1.11 q];exact V i j O hj
 .exact Hm hn h1 1.11 1.11 B V
theorem J1{p:Array Nat}{z:Nat}(F:ji n p)(h1:1<=z)(a4:z<=n):Tr (bk ρ) n (kas_count z p) (CtQ ρ n z):=by
 have hz:=F.size;have h0:Up1 ρ p 1:=λi j O hj=>by rw[show i=j by omega];exact abR _
 have go:Tr (bk ρ) n (kas_asc p (z-1) 1) λm=>1<=m/\m<=z/\Up1 ρ p m/\(m=z∨rk ρ p m<rk ρ p (m-1)):=by
  have:∀(f a:Nat),1<=a->a+f=z->Up1 ρ p a->Tr (bk ρ) n (kas_asc p f a) λm=>1<=m/\m<=z/\Up1 ρ p m/\(m=z∨rk ρ p m<rk ρ p (m-1)):=by
   intro f
   induction f with
   |zero=>intro a Y D h;exact⟨Y,by omega,h,.inl 1.11⟩
   |succ f B=>
    intro a Y D h;refine⟨F.lt hn _,F.lt hn _,?_⟩;by_cases c:rk ρ p a<rk ρ p (a-1)
    .have e:bk ρ (p.getD a 0) (p.getD (a-1) 0)=true:=aaE c
     rw[e];exact⟨Y,by omega,h,.inr c⟩
    .have e:bk ρ (p.getD a 0) (p.getD (a-1) 0)=false:=aaa c
     rw[e];refine B (a+1) 1.11 1.11 λi j O hj=>?_;by_cases a5:j<a
     .exact h i j O a5
     .obtain rfl:j=a:=by omega
      by_cases hi:i=j
      .subst hi;exact abR _
      .exact adH (h i (j-1) 1.11 1.11) 1.11
  exact this (z-1) 1 (ZQ _) 1.11 h0
 refine Tr.bind (Tr.mono (λm J=>?_) go);obtain⟨q,m2,m3,m4⟩:=J;by_cases a0:m=z
 .rw[ZV (by simpa using a0)]
  exact⟨F,q,m2,m3⟩
 .rw[Z1 (by simpa using a0)]
  have Z:=m4.resolve_left a0;by_cases a3:m>1
  .rw[ZV a3]
   refine⟨F.lt hn _,F.lt hn _,?_⟩;by_cases c:rk ρ p 0<rk ρ p (m-1)
   .have e:bk ρ (p.getD 0 0) (p.getD (m-1) 0)=true:=aaE c
    rw[e];exact⟨F,q,m2,m3⟩
   .have e:bk ρ (p.getD 0 0) (p.getD (m-1) 0)=false:=aaa c
    rw[e];simp![aaj,aaN];have U:∀k,0<=k->k<m->rk ρ p k=rk ρ p (m-1):=λk _ I=>by
     have a1:=m3 0 k 1.11 I;have V:=m3 k (m-1) 1.11 1.11;omega
    refine Gx hn (F.of (aeL _ _ _ _)) 1.11 a4 λi j O hj=>?_;rw[jz 1.11 U,jz 1.11 U];by_cases a6:j<m
    .rw[U i 1.11 1.11,U j 1.11 a6];exact abR _
    .obtain rfl:j=m:=by omega
     by_cases hi:i=j
     .subst hi;exact abR _
     .rw[U i 1.11 1.11];omega
  .rw[Z1 a3]
   obtain rfl:m=1:=by omega
   refine Gx hn F 1.11 a4 λi j O hj=>?_;by_cases hi:i=j
   .subst hi;exact abR _
   .obtain rfl:i=0:=by omega
    obtain rfl:j=1:=by omega
    exact Int.le_of_lt Z
theorem uY{p:Array Nat}{k:Nat}(F:ji n p)(h:Up1 ρ p k):∀(f l r:Nat),l<=r->r<=k->r-l<=f->(∀i,i<l->rk ρ p i<=rk ρ p k)->(∀i,r<=i->i<k->rk ρ p k<rk ρ p i)->
  Tr (bk ρ) n (kas_place p k f l r) λm=>m<=k/\(∀i,i<m->rk ρ p i<=rk ρ p k)/\∀i,m<=i->i<k->rk ρ p k<rk ρ p i
 |0,l,r,hlr,hrk,hf,h1,h2=>⟨by omega,h1,λi hi I=>h2 i 1.11 I⟩
 |f+1,l,r,hlr,hrk,hf,h1,h2=>by
  unfold kas_place;by_cases q:l>=r
  .rw[ZV q]
   exact⟨by omega,h1,λi hi I=>h2 i 1.11 I⟩
  .rw[Z1 q]
   refine⟨F.lt hn _,F.lt hn _,?_⟩;by_cases c:rk ρ p k<rk ρ p ((l+r) / 2)
   .have e:bk ρ (p.getD k 0) (p.getD ((l+r) / 2) 0)=true:=aaE c
    rw[e];exact uY F h f l _ 1.11 1.11 1.11 h1 λi hi I=>Int.lt_of_lt_of_le c (h _ i hi I)
   .have e:bk ρ (p.getD k 0) (p.getD ((l+r) / 2) 0)=false:=aaa c
    rw[e];exact uY F h f _ r 1.11 hrk 1.11 (λi hi=>adH (h i ((l+r) / 2) 1.11 1.11) 1.11) h2
theorem Mj:∀(f:Nat)(p:Array Nat)(k:Nat),ji n p->k+f<=n->Up1 ρ p k->Tr (bk ρ) n (kas_bin f p k) λq=>ji n q/\Up1 ρ q (k+f)
 |0,p,k,hp,_,h=>⟨hp,h⟩
 |f+1,p,k,hp,hf,h=>by
  have hz:=hp.size;refine Tr.bind (Tr.mono (λl O=>?_) (uY hn hp h k 0 k 1.11 1.11 1.11 (λi hi=>by omega) λi h1 h2=>by omega));obtain⟨J,B,z⟩:=O;have U:∀i,rk ρ (bubble p k (k-l)) i=if i=l then rk ρ p k else if l<i/\i<=k then rk ρ p (i-1)else rk ρ p i:=λi=>by
   have e:=getElem?_bubble (xs:=p) (src:=k) 1.11 (k-l) 1.11 i;rw[show k-(k-l)=l by omega]at e;split
   .rename_i hi;rw[ZV hi]at e;exact Dg e
   .rename_i hi
    rw[Z1 hi]at e;split
    .rename_i hi2;rw[ZV hi2]at e;exact Dg e
    .rename_i hi2;rw[Z1 hi2]at e;exact Dg e
  refine Tr.mono (λq Y=>⟨Y.1,by rw[show k+(f+1)=k+1+f by omega];exact Y.2⟩) (Mj f (bubble p k (k-l)) (k+1) (hp.of (bubble_perm _ _ _)) 1.11 λi j D F=>?_);rw[U,U]
  repeat' split
  all_goals first
   |exact abR _
   |(exfalso;omega)
   |exact Int.le_of_lt (z _ 1.11 1.11)
   |exact B _ 1.11
   |exact h _ _ 1.11 1.11
theorem Sq:Tr (bk ρ) n (kas_sort n) λp=>ji n p/\Up1 ρ p n:=by
 have F:ji n (afO (aaz n)):=by unfold ji;exact agq _
 refine Tr.bind (Tr.mono (λt z=>?_) (J1 hn F 1.11 (ZQ n)));obtain⟨h1,h2,Z,V⟩:=z;split
 .refine Tr.mono (λq Y=>⟨Y.1,?_⟩) (Mj hn (n-max t.1 1) t.2 (max t.1 1) h1 1.11 (by rw[show max t.1 1=t.1 by omega];exact V))
  have:=Y.2;rwa[show max t.1 1+(n-max t.1 1)=n by omega]at this
 .rename_i hlt
  exact⟨h1,by rw[show t.1=n by omega]at V;exact V⟩
end
open PySem PySem.W PyProof.Rows PySem.SeqAt
theorem lu:plainId "list.__eq__.loop"=true:=by decide +kernel
theorem t_:entryFor table "list.__eq__.loop"=some Builtin.«list.__eq__.loop»:=entryFor_of_fast (by kernel_rfl)
def ltS:List Str->List Str->Bool
 |[],[]=>false
 |[],_::_=>true
 |_::_,[]=>false
 |a::r,b::q=>if a=b then ltS r q else decide (a.cps.toList<b.cps.toList)
def StA(its:Array Value)(xs:List Str):Prop:=∀i:Nat,its[i]? =none/\xs[i]? =none∨∃x t,its[i]? =some (.str x t)/\xs[i]? =some x
variable{i:Nat}
theorem Ma{xs ys:List Str}:ltS (xs.drop i) (ys.drop i)=match xs[i]?,ys[i]? with
  |none,none=>false
  |none,some _=>true
  |some _,none=>false
  |some a,some b=>if a=b then ltS (xs.drop (i+1)) (ys.drop (i+1))else decide (a.cps.toList<b.cps.toList):=by
 have d:∀zs:List Str,zs.drop i=match zs[i]? with|none=>[]|some a=>a::zs.drop (i+1):=λzs=>by
  by_cases h:i<zs.length
  .rw[acW h,Z0 h]
  .rw[ado 1.11,adC 1.11]
 rw[d xs,d ys];cases xs[i]?<;>cases ys[i]?<;>rfl
theorem K1(l b:Addr)(its Y:Array Value)(n n2:Nat)(D q:Option Addr)(sl a1:Array (Option Value))(xs ys:List Str)(h1:StA its xs)(h2:StA Y ys)(J:its.size=xs.length)(V:Y.size=ys.length)(k:Nat) :
  ∀i:Nat,xs.length-i=k->Meets (Builtin.«list.__eq__.loop» ⟨[.ref l,.ref b,acY i,acY 0],[]⟩)
   (λA R s=>s.heap.get? l=some {cls:=.type "list",dict:=D,data:=.seq its n,slots:=sl}/\s.heap.get? b=some {cls:=.type "list",dict:=q,data:=.seq Y n2,slots:=a1}/\(i<=xs.length/\i<=ys.length)/\
    R (.ok (.ret (.bool (ltS (xs.drop i) (ys.drop i))))) s):=by
 induction k with
 |zero=>
  intro i I prog w A R s h;obtain⟨F,g,d,tk,os⟩:=s;obtain⟨O,U,hi,h⟩:=h
  wp_walk using wpAny_loadPart' O,wpAny_loadPart' U
  have e1:xs[i]? =none:=by simp;omega
  have e2:its[((i:Nat):Int).toNat]? =none:=by simp;omega
  rw[Ma,e1]at h;rw[e2]
  wp_walk using wpAny_loadPart' O,wpAny_loadPart' U
  show R (.ok (.ret (.bool (decide (its.size<Y.size))))) _;rw[J,V];cases e3:ys[i]? with
  |none=>
   rw[e3]at h;have:ys.length<=i:=by simpa using e3
   rw[show decide (xs.length<ys.length)=false by simp;omega];exact h
  |some y=>
   rw[e3]at h;have:=(List.getElem?_eq_some_iff.mp e3).1;rw[show decide (xs.length<ys.length)=true by simp;omega];exact h
 |succ k B=>
  intro i I prog w A R s h;obtain⟨F,g,d,tk,os⟩:=s;obtain⟨O,U,hi,h⟩:=h
  wp_walk using wpAny_loadPart' O,wpAny_loadPart' U
  have a3:i<xs.length:=by omega
  obtain⟨z,_⟩|⟨x,t,e1,e2⟩:=h1 i
  .simp at z;omega
  rw[Ma,e2]at h;have f1:its[((i:Nat):Int).toNat]? =some (.str x t):=by simpa using e1
  obtain⟨e3,e4⟩|⟨y,u,e3,e4⟩:=h2 i
  .have f2:Y[((i:Nat):Int).toNat]? =none:=by simpa using e3
   rw[e4]at h;rw[f1,f2]
   wp_walk using wpAny_loadPart' O,wpAny_loadPart' U
   show R (.ok (.ret (.bool (decide (its.size<Y.size))))) _;have:ys.length<=i:=by simpa using e4
   rw[show decide (its.size<Y.size)=false by simp;omega];exact h
  .have f2:Y[((i:Nat):Int).toNat]? =some (.str y u):=by simpa using e3
   have Z:((i:Int)+1)=((i+1:Nat):Int):=by push_cast;rfl
   have a2:=(List.getElem?_eq_some_iff.mp e4).1;rw[e4]at h;rw[f1,f2];refine gD (wpAny_eqBool_str ?_);by_cases a0:x=y
   .simp![a0,aab]at h
    rw[show decide (x=y)=true from aaE a0]
    wp_walk
    rw[Z];exact⟨acP lu _,abk t_ (by
     rw[aa4 lu _];exact B (i+1) 1.11 prog w A R _ ⟨O,U,⟨by omega,by omega⟩,h⟩)⟩
   .simp![Z1 a0]at h
    rw[show decide (x=y)=false from aaa a0]
    wp_walk using wpAny_loadPart' O,wpAny_loadPart' U
    rw[f1,f2];refine gD (lt_str ?_);exact ZD h
theorem N7(l b:Addr)(its Y:Array Value)(n z:Nat)(D q:Option Addr)(sl I:Array (Option Value))(xs ys:List Str)(h1:StA its xs)(h2:StA Y ys)(J:its.size=xs.length)(V:Y.size=ys.length) :
  Meets (Builtin.«list.__lt__» ⟨[.ref l,.ref b],[]⟩)
   (λA R s=>s.heap.get? l=some {cls:=.type "list",dict:=D,data:=.seq its n,slots:=sl}/\s.heap.get? b=some {cls:=.type "list",dict:=q,data:=.seq Y z,slots:=I}/\R (.ok (.ret (.bool (ltS xs ys)))) s):=by
 intro prog w A R s h;obtain⟨F,g,d,tk,os⟩:=s;obtain⟨O,U,h⟩:=h;have B:=AutoSeq1.sub_list_list
 wp_walk using wpAny_loadPart' O,wpAny_loadPart' U
 exact⟨acP lu _,abk t_ (by
  rw[aa4 lu _];exact K1 l b its Y n z D q sl I xs ys h1 h2 J V _ 0 rfl prog w A R _ ⟨O,U,⟨abO _,abO _⟩,by simpa using h⟩)⟩
variable{s:Shared}
theorem Ex{l b:Addr}{its Y:Array Value}{xs ys:List Str}{Q:Bool->Pr->Prop}(O:s.heap.IsList l its)(U:s.heap.IsList b Y)(h1:StA its xs)(h2:StA Y ys)(J:its.size=xs.length)(V:Y.size=ys.length)(hu:A.units<cLine)
  (h:Q (ltS xs ys) s):wpAny 1.13 A (oneLt' true (.ref l) (.ref b)) Q E s:=by
 obtain⟨⟨cls,D,data,sl⟩,B,Z,n,hd⟩:=id O;obtain⟨⟨a3,q,a2,I⟩,z,a1,n2,a0⟩:=id U;simp only at Z hd a1 a0;subst Z hd a1 a0;rw[oneLt'_eq];simp![aab];refine gD (wpAny_cRoomFor hu ?_);refine gD (wpAny_callSpecialIfBound?_slot (T:="list") ⟨_,B,rfl⟩ F.slot_list_lt (ac_ F.slot_list_lt ⟨_,B,rfl⟩ F.entry_list_lt (F.args_list_lt_2 _ _) (N7 l b its Y n n2 D q sl I xs ys h1 h2 J V) ⟨B,z,?_⟩));exact acs h
variable{Q:Value->Pr->Prop}{κ:SortKind}
theorem H9{vs:List Value}{ρ:Nat->Int}(b8:vs.length<64)
  (I:2<=vs.length->∀h':Heap,(∀b o,s.heap.get? b=some o->h'.get? b=some o)->∀(E':Value->Pr->Prop)(Q':SortKind->Pr->Prop),Q' κ {s with heap:=h'}->wpAny 1.13 A.in1.in1 (keyKind' vs.toArray) Q' E' {s with heap:=h'})
  (Z:∀h':Heap,(∀b o,s.heap.get? b=some o->h'.get? b=some o)->∀i j,i<vs.length->j<vs.length->∀Q':Bool->Pr->Prop,Q' (decide (ρ i<ρ j)) {s with heap:=h'}->wpAny 1.13 A.in1.in1 (keyLt' κ (vs.getD i aaF) (vs.getD j aaF)) Q' (λ_ _=>False) {s with heap:=h'})
  (h:∀p:Array Nat,ji vs.length p->Up1 ρ p vs.length->∀(h':Heap)(c:Nat),(∀b o,s.heap.get? b=some o->h'.get? b=some o)->h'.get? s.heap.objs.size=some (ae3 "list" (afO (p.toList.map λi=>vs.getD i aaF)) c)->Q (.ref s.heap.objs.size) {s with heap:=h'}) :
  wpAny 1.13 A.in1 (aeW vs >>=λl=>abi [l] (call (.builtin "list.sort") [l] []) >>=λ_=>ret l) (λa0 s'=>∃v,a0= .done (.ret v)/\Q v s') E s:=by
 have b5:vs.length<=ZM:=by rw[acS];omega
 refine gD (wpAny_newList ?_ (by rw[acS];omega))
 let a:=s.heap.objs.size
 let G2:Heap:=s.heap.push (ae3 "list" vs.toArray 0)
 have z2:G2.objs.size=s.heap.objs.size+1:=size_push' _ _;have a8:G2.get? a=some (ae3 "list" vs.toArray 0):=Z6 _ rfl;show wpAny _ _ (abi _ _ >>=_) _ _ {s with heap:=G2};refine gD (aaW (aei slot_list_sort ⟨_,a8,rfl⟩ entry_list_sort ?_ (args_list_sort _)));have b1:∀b o,s.heap.get? b=some o->G2.get? b=some o:=λb o q=>Zz _ q
 let G3:Heap:=G2.update a (acn λ_=>#[])
 obtain⟨e1,b6⟩:∃e1,G3.get? a=some (ae3 "list" #[] e1):=⟨_,get?_update_seq a8 λ_=>#[]⟩;have z3:G3.objs.size=s.heap.objs.size+1:=by show(G2.update _ _).objs.size=_;rw[af9,z2]
 let G5:Heap:=(G3.push (ae3 "tuple" vs.toArray 0)).push (ae3 "list" #[] 0)
 have b4:∀b o,G3.get? b=some o->G5.get? b=some o:=λb o q=>Zz _ (Zz _ q);have a5:∀b o,s.heap.get? b=some o->G5.get? b=some o:=λb o q=>by
  have U:b<s.heap.objs.size:=ZP q;refine b4 b o ?_;show(G2.update _ _).get? b=_;rw[afy _ _ _ _ (Z5 U)];exact b1 b o q
 have b3:G5.get? a=some (ae3 "list" #[] e1):=b4 a _ b6;rw[list_sort_plain];refine gD (listItems_at a8 rfl ?_);refine gD (listUpdate_at a8 rfl ?_ (by rw[List.size_toArray];exact b5) (abO _));refine gD (seqEpoch_at b6 rfl ?_);refine gD (wpAny_newTuple ?_ (by show vs.length<=_;exact b5));refine gD (wpAny_newList ?_ (abO _));refine aaW ?_;show wpAny 1.13 A.in1.in1 _ _ _ {s with heap:=G5};dsimp only;have a0:∀(Y:SortSt)(p:Array Nat),arrOf Y=p.map (kas_item (vs.toArray.zip vs.toArray))->failedOf Y=none->ji vs.length p->Up1 ρ p vs.length->
   wpAny 1.13 A.in1.in1 (do
    let a9:=(arrOf Y).map (·.2)
    let a7:=(←seqEpoch a)!=e1
    Builtin.List.listUpdate (.ref a) λ_=>a9
    if let some e:=failedOf Y then rule "list.sort.comparison-raised";throw e
    if a7 then rule "list.sort.modified";raiseError "ValueError" "list modified during sort"
    ret .none) (λa0 s'=>∃v,a0= .done (.ret v)/\wpAny 1.13 A.in1 (ret (.ref a)) (λa0 s'=>∃v,a0= .done (.ret v)/\Q v s') E s') E {s with heap:=G5}:=λY p b2 D F J=>by
  have b0:=kat_snds (vs:=vs) (ks:=vs) rfl b2;dsimp only;refine gD (seqEpoch_at b3 rfl ?_);have b9:p.size=vs.length:=F.size;refine gD (listUpdate_at b3 rfl ?_ (abO _) (by rw[b0];simp![List.size_toArray,ZL,abb];omega));rw[D];simp![bne_self_eq_false,aaj,aaN];refine ZD ⟨_,rfl,ZD ⟨_,rfl,?_⟩⟩;rw[b0];refine h p F J _ _ (λb o q=>?_) (get?_update_seq b3 _);rw[afy _ _ _ _ (Z5 (ZP q))];exact a5 b o q
 by_cases a6:vs.toArray.size<2
 .rw[ZV a6,ZV a6]
  rw[List.size_toArray]at a6;refine gD (ZD ?_);rw[StateT.run_pure];refine gD (ZD ?_);refine a0 _ (afO (aaz vs.length)) ?_ rfl (agq _) (λi j O hj=>by rw[show i=j by omega];exact abR _);have e:=kas_range (vs.toArray.zip vs.toArray);rw[show(vs.toArray.zip vs.toArray).size=vs.length by simp]at e;exact e.symm
 .rw[Z1 a6,Z1 a6]
  rw[List.size_toArray]at a6;refine gD (I 1.11 G5 a5 _ _ ?_);have b7:(kas_sort vs.length).kasWp (kas_ask prog w A.in1.in1 κ vs) (λp s'=>s'={s with heap:=G5}/\ji vs.length p/\Up1 ρ p vs.length) {s with heap:=G5}:=
   Tr.wp (λi j C hi hj hC=>Z G5 a5 i j hi hj C hC) (Sq (ρ:=ρ) 1.11)
  refine gD (aaY (kat_run (Q:=λY s'=>∃p:Array Nat,arrOf Y=p.map (kas_item (vs.toArray.zip vs.toArray))/\failedOf Y=none/\s'={s with heap:=G5}/\ji vs.length p/\Up1 ρ p vs.length) (E:=E)
   rfl 1.11 b8 (λz Y s' B V a3 a4=>⟨z,V,a3,a4⟩) b7) ?_ λ_ _ e=>e)
  rintro⟨⟨⟩,Y⟩ s' ⟨p,b2,D,rfl,F,J⟩;exact a0 Y p b2 D F J
theorem yq{x:Value}(Z:∀q (J:List Value->Pr->Prop),(∀vs F,wpAny 1.13 A.in1 (aeW vs >>=λl=>abi [l] (call (.builtin "list.sort") [l] []) >>=λ_=>ret l) (λD s'=>∃v,D= .done (.ret v)/\Q v s') q F->J vs F)->wpAny 1.13 A.in1 (collect x) J q s) :
  wpAny 1.13 A (call (.builtin "sorted") [x]) Q E s:=by
 refine Calls.call_function_entry kind_sorted plain_sorted entry_sorted (args_sorted1 _) ?_;unfold Builtin.«sorted»;refine gD (m:=checkCount "sorted" 1 1 _) (ZD ?_);exact gD (Z _ _ λvs F h=>h)
theorem R4{a b:Str}(h1:¬a.cps.toList<b.cps.toList)(h2:¬b.cps.toList<a.cps.toList):a=b:=by
 have:=strKind.total a.cps.toList b.cps.toList (by simpa using h1) (by simpa using h2);cases a;cases b;congr;exact Array.toList_inj.mp this
theorem Gn(a:Str):¬a.cps.toList<a.cps.toList:=List.lt_irrefl _
theorem qm:∀a:List Str,ltS a a=false
 |[]=>rfl
 |x::r=>by simp[ltS,qm r]
theorem tK:∀a b:List Str,ltS a b=false->ltS b a=false->a=b
 |[],[],_,_=>rfl
 |[],_::_,h,_=>by simp[ltS]at h
 |_::_,[],_,h=>by simp[ltS]at h
 |x::r,y::q,h1,h2=>by
  by_cases e:x=y
  .subst e
   simp![ltS,aab]at h1 h2;rw[tK r q h1 h2]
  .simp![ltS,Z1 e,Z1 (aay e),decide_eq_false_iff_not]at h1 h2
   exact absurd (R4 h1 h2) e
theorem pG:∀a b c:List Str,ltS a b=true->ltS b c=true->ltS a c=true
 |[],[],_,h,_=>by simp[ltS]at h
 |_::_,[],_,h,_=>by simp[ltS]at h
 |[],_::_,[],_,h=>by simp[ltS]at h
 |[],_::_,_::_,_,_=>rfl
 |_::_,_::_,[],_,h=>by simp[ltS]at h
 |x::r,y::q,z::p,h1,h2=>by
  by_cases e:x=y
  .subst e
   simp![ltS,aab]at h1;by_cases e2:x=z
   .subst e2
    simp![ltS,aab]at h2⊢;exact pG r q p h1 h2
   .simp![ltS,Z1 e2]at h2⊢
    exact h2
  .simp![ltS,Z1 e,aa0]at h1
   by_cases e2:y=z
   .subst e2
    simp![ltS,Z1 e,aa0];exact h1
   .simp![ltS,Z1 e2,aa0]at h2
    have Z:=List.lt_trans h1 h2;have B:x≠z:=λD=>by subst D;exact Gn _ Z
    simp![ltS,Z1 B,aa0];exact Z
theorem Gm{a b c:List Str}(h:ltS a c=true)(h2:ltS b c=false):ltS a b=true:=by
 cases e:ltS a b with
 |true=>rfl
 |false=>
  cases e2:ltS b a with
  |true=>rw[pG b a c e2 h]at h2;cases h2
  |false=>rw[tK a b e e2,h2]at h;cases h
def below(ks:List (List Str))(a:List Str):Nat:=ks.countP λy=>ltS y a
theorem sE{p q:α->Bool}:∀{l:List α},(∀x∈l,p x=true->q x=true)->l.countP p<=l.countP q
 |[],_=>by simp
 |x::r,h=>by
  have B:=sE (l:=r) λy V=>h y (by simp[V]);rw[ady,ady];cases e:p x with
  |false=>simp;omega
  |true=>simp[h x (by simp) e,B]
variable{z:α}
theorem xV{p q:α->Bool}:∀{l:List α},(∀x∈l,p x=true->q x=true)->z∈l->q z=true->p z=false->l.countP p<l.countP q
 |[],_,h,_,_=>by cases h
 |x::r,h,hz,hq,hp=>by
  rw[ady,ady];have B:=sE (l:=r) λy V=>h y (by simp[V]);rcases ZR.mp hz with rfl|hz
  .simp[hq,hp];omega
  .have ih:=xV (l:=r) (λy V=>h y (by simp[V])) hz hq hp
   cases e:p x with
   |false=>simp;omega
   |true=>simp[h x (by simp) e];omega
variable{ks:List (List Str)}
theorem CQ{a b:List Str}(Y:a∈ks):ltS a b=decide ((below ks a:Int)<below ks b):=by
 cases e:ltS a b with
 |true=>
  have:=xV (l:=ks) (p:=λy=>ltS y a) (q:=λy=>ltS y b) (λy _ V=>pG y a b V e) Y e (qm a);exact(aaE (by unfold below;omega)).symm
 |false=>
  have:=sE (l:=ks) (p:=λy=>ltS y b) (q:=λy=>ltS y a) λy _ V=>Gm V e;exact(aaa (by unfold below;omega)).symm
def Qd(K:ZC)(H:Hp)(ys:List V)(ks:List (List Str)):Prop:=ks.length=ys.length/\((∀(i:Nat)(k:List Str),ks[i]? =some k->∃x,k=[x]/\ys[i]? =some (.str x))∨∀(i:Nat)(k:List Str),ks[i]? =some k->∃b,ys[i]? =some (.ref b)/\SqL K H b (k.map V.str))
def zW(K:ZC)(A:aaC):List V->Hp->VK->Prop:=λxs H Q=>∃a ys ks,xs=[.ref a]/\(SqL K H a ys∨SqT K H a ys)/\ys.length<64/\A.units+2<cLine/\Qd K H ys ks/\
 ∀p:List Nat,abh p (aaz ys.length)->acQ (λi j=>ltS (ks.getD j []) (ks.getD i [])=false) p->∀l,H l=none->Q (.ref l) (upd H l (.lst (p.map λi=>ys.getD i .non)))
theorem Bw(r:Vals ys us)(i:Nat):(ys[i]? =none/\us[i]? =none)∨∃y u,ys[i]? =some y/\us[i]? =some u/\RelV y u:=by
 cases e:ys[i]? with
 |none=>
  have:=r.length;exact .inl ⟨rfl,by rw[abz]at e⊢;omega⟩
 |some y=>
  obtain⟨u,h1,h2⟩:=r.get e;exact .inr ⟨y,u,rfl,h1,h2⟩
theorem O5{xs:List Str}(r:Vals (xs.map V.str) us):StA us.toArray xs:=λi=>by
 rcases Bw r i with⟨h1,h2⟩|⟨y,u,h1,h2,Z⟩
 .exact .inl ⟨by simpa using h2,by simpa using h1⟩
 .rw[List.getElem?_map]at h1
  cases e:xs[i]? with
  |none=>rw[e]at h1;cases h1
  |some x=>
   rw[e]at h1;cases h1;obtain⟨t,rfl⟩:=Z;exact .inr ⟨x,t,by simpa using h2,rfl⟩
theorem vg(r:Vals ys us):∀p:List Nat,(∀i∈p,i<ys.length)->Vals (p.map λi=>ys.getD i .non) (p.map λi=>us.getD i aaF)
 |[],_=>.nil
 |i::p,h=>by
  refine .cons ?_ (vg r p λj F=>h j (by simp[F]));rcases Bw r i with⟨h1,h2⟩|⟨y,u,h1,h2,Z⟩
  .have:=h i (by simp)
   rw[abz]at h1;omega
  .show RelV (ys.getD i .non) (us.getD i aaF)
   rw[aa7,aa7,h1,h2];exact Z
theorem Pb(x y:Str):ltS [x] [y]=decide (x.cps.toList<y.cps.toList):=by
 by_cases z:x=y
 .subst z;simp[ltS,Gn]
 .simp[ltS,z]
variable{X:Cx}{Q:VK}{E:Value->Pr->Prop}{s:Pr}
theorem sort_keys(I:Inv X pins σ H s)(rv:Vals xs its)(O:xs.length<64)(a8:ks.length=xs.length)
  (hk:2<=its.length->∀h':Heap,(∀b o,s.heap.get? b=some o->h'.get? b=some o)->∀(E':Value->Pr->Prop)(J:SortKind->Pr->Prop),J κ {s with heap:=h'}->wpAny 1.12 X.A.in1.in1 (keyKind' its.toArray) J E' {s with heap:=h'})
  (Z:∀h':Heap,(∀b o,s.heap.get? b=some o->h'.get? b=some o)->∀i j,i<its.length->j<its.length->∀J:Bool->Pr->Prop,J (ltS (ks.getD i []) (ks.getD j [])) {s with heap:=h'}->wpAny 1.12 X.A.in1.in1 (keyLt' κ (its.getD i aaF) (its.getD j aaF)) J (λ_ _=>False) {s with heap:=h'})
  (q:∀p:List Nat,abh p (aaz xs.length)->acQ (λi j=>ltS (ks.getD j []) (ks.getD i [])=false) p->∀l,H l=none->Q (.ref l) (upd H l (.lst (p.map λi=>xs.getD i .non)))) :
  wpAny 1.12 X.A.in1 (aeW its >>=λl=>agw [l] (call (.builtin "list.sort") [l] []) >>=λ_=>ret l) (λD s'=>∃v,D= .done (.ret v)/\EP X pins σ Q v s') E s:=by
 have z:=rv.length;have a5:64<=ZM:=by decide
 have a1:∀i,i<its.length->ks.getD i []∈ks:=λi hi=>by
  have:i<ks.length:=by omega
  rw[show ks.getD i []=ks[i]by simp[this]];exact abL _
 refine H9 (κ:=κ) (ρ:=λi=>(below ks (ks.getD i []):Int)) 1.11 hk (λh' ext i j hi hj J U=>Z h' ext i j hi hj J (by rw[CQ (a1 i hi)];exact U)) λp F a4 h' c a2 B=>?_;have a0:∀i∈p.toList,i<its.length:=λi hi=>abt.mp (afZ F |>.mp hi);have a6:=F.size;refine⟨.ref s.heap.objs.size,upd H s.heap.objs.size (.lst (p.toList.map λi=>xs.getD i V.non)),I.laid (t':=s.toks) a2 (ZQ _) ?_,rfl,q p.toList (by rw[z];exact F) ?_ _ (I.hok.fresh (ZQ _))⟩
 .exact⟨by rw[ZL];simp![abb];omega,p.toList.map λi=>its.getD i aaF,c,vg rv p.toList λi hi=>by have:=a0 i hi;omega,B⟩
 .rw[List.pairwise_iff_getElem]
  intro i j hi hj a7;have a3:j<p.size:=by simpa using hj
  have Y:i<p.size:=by simpa using hi
  have:=a4 i j 1.11 1.11;unfold rk at this;rw[abU,abU,getElem?_pos p i Y,getElem?_pos p j a3,agb,agb]at this;rw[afj,afj,CQ (a1 p[j] (a0 _ (by simp)))];exact aaa (by simp only at this;omega)
theorem DK(I:Inv X pins σ H s)(rv:Vals ys its)(O:ys.length<64)(J:X.A.units+2<cLine)(hK:Qd X.K H ys ks)
  (q:∀p:List Nat,abh p (aaz ys.length)->acQ (λi j=>ltS (ks.getD j []) (ks.getD i [])=false) p->∀l,H l=none->Q (.ref l) (upd H l (.lst (p.map λi=>ys.getD i .non)))) :
  wpAny 1.12 X.A.in1 (aeW its >>=λl=>agw [l] (call (.builtin "list.sort") [l] []) >>=λ_=>ret l) (λD s'=>∃v,D= .done (.ret v)/\EP X pins σ Q v s') E s:=by
 obtain⟨a5,a0⟩:=hK;have a8:=rv.length;have a4:∀i,i<its.length->∃k,ks[i]? =some k/\ks.getD i []=k:=λi hi=>by
  have:i<ks.length:=by omega
  exact⟨ks[i],by simp[this],by simp[this]⟩
 rcases a0 with a0|a0
 .refine sort_keys (κ:=oneType') I rv O a5 (λh2 h' ext E' Q' a3=>agc (T:=.type "str") 1.11 (λv hv=>?_) rfl rfl a3) (λh' ext i j hi F Q' a3=>?_) q
  .obtain⟨i,hi,rfl⟩:=afz hv
   obtain⟨k,e1,_⟩:=a4 i hi;obtain⟨x,_,e3⟩:=a0 i k e1;obtain⟨u,h1,t,h2⟩:=rv.get e3;rw[Z0 hi]at h1;rw[aaD h1,h2];exact PySem.W.Looks.of_pure rfl
  .obtain⟨k1,e1,g1⟩:=a4 i hi
   obtain⟨k2,e2,g2⟩:=a4 j F;obtain⟨x,rfl,x3⟩:=a0 i k1 e1;obtain⟨y,rfl,y3⟩:=a0 j k2 e2;obtain⟨u1,a1,t1,rfl⟩:=rv.get x3;obtain⟨u2,a2,t2,rfl⟩:=rv.get y3;rw[aa7,aa7,a1,a2];refine oneLt_str ?_;rwa[g1,g2,Pb]at a3
 .refine sort_keys (κ:=oneType') I rv O a5 (λh2 h' ext E' Q' a3=>agc (T:=.type "list") 1.11 (λv hv=>?_) rfl rfl a3) (λh' ext i j hi F Q' a3=>?_) q
  .obtain⟨i,hi,rfl⟩:=afz hv
   obtain⟨k,e1,_⟩:=a4 i hi;obtain⟨b,e3,U⟩:=a0 i k e1;obtain⟨u,h1,h2⟩:=rv.get e3;rw[Z0 hi]at h1;cases h1;obtain⟨Y,_,pb,_⟩:=I.list U;obtain⟨o,B,Z,_⟩:=pb.isList;rw[show its[i]=aac b from h2,←Z];exact(PySem.W.Looks.ld (ext _ _ B)).andThen .now
  .obtain⟨k1,e1,g1⟩:=a4 i hi
   obtain⟨k2,e2,g2⟩:=a4 j F;obtain⟨b1,x3,x4⟩:=a0 i k1 e1;obtain⟨b2,y3,y4⟩:=a0 j k2 e2;obtain⟨u1,a1,t1⟩:=rv.get x3;obtain⟨u2,a2,t2⟩:=rv.get y3;obtain⟨a7,r1,p1,_⟩:=I.list x4;obtain⟨a6,r2,p2,_⟩:=I.list y4;rw[aa7,aa7,a1,a2];rw[show u1=aac b1 from t1,show u2=aac b2 from t2];have x1:Heap.IsList h' b1 a7.toArray:=by obtain⟨o,B,z⟩:=p1.isList;exact⟨o,ext _ _ B,z⟩
   have x2:Heap.IsList h' b2 a6.toArray:=by obtain⟨o,B,z⟩:=p2.isList;exact⟨o,ext _ _ B,z⟩
   have l1:=r1.length;have l2:=r2.length;rw[ZL]at l1 l2;refine Ex (xs:=k1) (ys:=k2) x1 x2 (O5 r1) (O5 r2) (by rw[List.size_toArray];omega) (by rw[List.size_toArray];omega) (by show X.A.units+1+1<cLine;omega) ?_;rwa[g1,g2]at a3
theorem rE:fZ X (.builtin "sorted") (zW X.K X.A):=by
 intro pins s σ H xs us Q I r h;obtain⟨a,ys,ks,rfl,Y,O,J,hK,q⟩:=h;obtain⟨u,rfl,ru⟩:=vals1 r;cases ru;have V:∀{c:String}{its:List Value},c="list"∨c="tuple"->Vals ys its->(∃o:Obj,s.heap.get? a=some o/\o.cls= .type c/\∃n,o.data= .seq its.toArray n)->wpAny 1.12 X.A (call (.builtin "sorted") [.ref a]) 1.63 X.xe s:=λ{c its} Z F ⟨o,B,D,n,hd⟩=>by
  have z:its.toArray.size<=ZM:=by
   have h1:=F.length;have h2:64<=ZM:=by decide
   simp;omega
  refine yq λE' Q' U=>wpAny_collect_seq a Z B D hd (λh' hk=>?_) z;rw[List.toList_toArray];exact U _ _ (DK (I.kept (t':=s.toks) hk) F O J hK q)
 rcases Y with Y|Y
 .obtain⟨its,F,pl,hz⟩:=I.list Y
  exact V (.inl rfl) F pl.isList
 .obtain⟨its,F,pt,hz⟩:=I.tuple Y
  exact V (.inr rfl) F pt
def inL(k:List Str):List (List Str)->List (List Str)
 |[]=>[k]
 |a::r=>if ltS a k=true then a::inL k r else k::a::r
def rW(l:List (List Str)):List (List Str):=l.foldr inL []
abbrev RiL(l:List (List Str)):Prop:=acQ (λa b=>ltS b a=false) l
theorem wF(k:List Str):∀l,abh (inL k l) (k::l)
 |[]=>.refl _
 |a::r=>by
  unfold inL;split
  .exact((wF k r).cons a).trans (.swap k a r)
  .exact .refl _
theorem lR:∀l,abh (rW l) l
 |[]=>.refl _
 |a::r=>(wF a _).trans ((lR r).cons a)
theorem Km{k:List Str}:∀{l},RiL l->RiL (inL k l)
 |[],_=>by simp[inL]
 |a::r,h=>by
  obtain⟨h1,h2⟩:=abV.mp h;unfold inL;split
  .rename_i c
   refine abV.mpr ⟨λb U=>?_,Km h2⟩;rcases ZR.mp ((wF k r).mem_iff.mp U)with rfl|U
   .cases e:ltS b a with
    |false=>rfl
    |true=>have:=pG _ _ _ c e;rw[qm]at this;cases this
   .exact h1 b U
  .rename_i c
   have c:ltS a k=false:=by simpa using c
   refine abV.mpr ⟨λb U=>?_,h⟩;rcases ZR.mp U with rfl|U
   .exact c
   .cases e:ltS b k with
    |false=>rfl
    |true=>
     have:=Gm e c;rw[h1 b U]at this;cases this
theorem uM:∀l,RiL (rW l)
 |[]=>.nil
 |a::r=>Km (uM r)
theorem uR:∀{l m:List (List Str)},abh l m->RiL l->RiL m->l=m
 |[],m,h,_,_=>h.nil_eq
 |a::r,[],h,_,_=>by have:=h.length_eq;simp at this
 |a::r,b::q,h,h1,h2=>by
  obtain⟨x1,B⟩:=abV.mp h1;obtain⟨D,U⟩:=abV.mp h2;have e:a=b:=by
   rcases ZR.mp (h.mem_iff.mp (aav (a:=a) (l:=r)))with z|z
   .exact z
   .rcases ZR.mp (h.mem_iff.mpr (aav (a:=b) (l:=q)))with w|w
    .exact w.symm
    .exact tK a b (D a z) (x1 b w)
  subst e;rw[uR (List.Perm.cons_inv h) B U]
def strsOf:List D->Option (List Str)
 |[]=>some []
 |.str x::r=>(strsOf r).map λt=>x::t
 |_=>none
def Ej:List D->Option (List (List Str))
 |[]=>some []
 |.str x::r=>(Ej r).map λt=>[x]::t
 |_=>none
def lstK(m:Mk):List D->Option (List (List Str))
 |[]=>some []
 |.lst m' es::r=>if m'=m then(strsOf es).bind λk=>(lstK m r).map λt=>k::t else none
 |_=>none
def fS(k:List Str):D:=.str (k.headD "")
def fL(m:Mk)(k:List Str):D:=.lst m (k.map D.str)
theorem ym:∀{ds:List D}{k:List Str},strsOf ds=some k->ds=k.map D.str
 |[],k,h=>by cases h;rfl
 |d::r,k,h=>by
  cases d<;>simp![strsOf]at h<;>try cases h
  cases e:strsOf r with
  |none=>rw[e]at h;cases h
  |some t=>rw[e]at h;cases h;rw[ym e];rfl
theorem Hx:∀{ds:List D}{ks:List (List Str)},Ej ds=some ks->ds=ks.map fS/\∀k∈ks,∃x,k=[x]
 |[],k,h=>by cases h;exact⟨rfl,by simp⟩
 |d::r,k,h=>by
  cases d<;>simp![Ej]at h<;>try cases h
  cases e:Ej r with
  |none=>rw[e]at h;cases h
  |some t=>
   rw[e]at h;cases h;obtain⟨h1,h2⟩:=Hx e;exact⟨by rw[h1];rfl,λk I=>(ZR.mp I).elim (λz=>⟨_,z⟩) (h2 k)⟩
theorem yS{m:Mk}:∀{ds:List D}{ks:List (List Str)},lstK m ds=some ks->ds=ks.map (fL m)
 |[],k,h=>by cases h;rfl
 |d::r,k,h=>by
  cases d<;>simp![lstK]at h<;>try cases h
  split at h
  .rename_i hm
   subst hm;rename_i es;cases e1:strsOf es with
   |none=>rw[e1]at h;cases h
   |some B=>
    rw[e1]at h;cases e:lstK ‹_› r with
    |none=>simp[e]at h
    |some t=>
     have h:B::t=k:=by simpa[e]using h
     subst h;rw[yS e,ym e1];rfl
  .cases h
def jN:List D->Option D
 |[.lst _ ds]=>if ds.length<64 then(match Ej ds with
  |some ks=>some (.lst .own ((rW ks).map fS))
  |none=>match ds with
   |.lst m _::_=>(lstK m ds).map λks=>.lst .own ((rW ks).map (fL m))
   |_=>none)else none
 |_=>none
theorem aF.perm{zs F:List (D×V)}(h:abh zs F):∀{M:List Addr},aF G H W (zs.map (·.1)) (zs.map (·.2)) M->∃M',abh M' M/\aF G H W (F.map (·.1)) (F.map (·.2)) M':=by
 induction h with
 |nil=>exact λ{M} r=>⟨M,.refl _,r⟩
 |cons x _ ih=>
  intro M r;rw[ZF,ZF]at r;obtain⟨y,ys,A,B,e,rfl,Z,J⟩:=r.inv;cases e;obtain⟨Y,p,U⟩:=ih J;exact⟨A++Y,p.append_left A,.cons Z U⟩
 |swap x y l=>
  intro M r;simp![ZF]at r;obtain⟨v,vs,A,B,e,rfl,Z,J⟩:=r.inv;cases e;obtain⟨v,vs,C,E,e,rfl,U,q⟩:=J.inv;cases e;refine⟨C++(A++E),?_,.cons U (.cons Z q)⟩;rw[←aa_,←aa_];exact acF.append_right E
 |trans _ _ O a0=>
  intro M r;obtain⟨I,p1,Z⟩:=O r;obtain⟨z,p2,J⟩:=a0 Z;exact⟨z,p2.trans p1,J⟩
theorem p_(l:List α)(z:α):(aaz l.length).map (λi=>l.getD i z)=l:=by
 apply List.ext_getElem
 .simp
 .intro i h1 h2
  simp[h2]
variable{p:List Nat}
theorem Nv{α:Type}{f:α->β}{l:List α}{z:α}{y:β}(h:∀i∈p,i<l.length):p.map (λi=>(l.map f).getD i y)=(p.map λi=>l.getD i z).map f:=by
 rw[ZX];refine aah λi hi=>?_;have:=h i hi;simp[this]
theorem qY{f:List Str->D}(r:aF G H W (ks.map f) ys M)(F:abh p (aaz ys.length))(B:acQ (λi j=>ltS (ks.getD j []) (ks.getD i [])=false) p):∃M',abh M' M/\aF G H W ((rW ks).map f) (p.map λi=>ys.getD i .non) M':=by
 have O:=r.length;rw[ZL]at O;have z:∀i∈p,i<ks.length:=λi hi=>by rw[O];exact abt.mp (F.mem_iff.mp hi)
 have e1:p.map (λi=>ks.getD i [])=rW ks:=by
  refine uR ?_ (abj.mpr B) (uM ks);have:abh (p.map λi=>ks.getD i []) ((aaz ks.length).map λi=>ks.getD i []):=by rw[O];exact F.map _
  rw[p_]at this;exact this.trans (lR ks).symm
 let g:Nat->D×V:=λi=>((ks.map f).getD i .non,ys.getD i .non)
 have q:((aaz ys.length).map g).map (·.1)=ks.map f:=by
  rw[ZX,←O];have:=p_ (ks.map f) D.non;rwa[ZL]at this
 have I:((aaz ys.length).map g).map (·.2)=ys:=by rw[ZX];exact p_ ys V.non
 obtain⟨M',p1,Z⟩:=aF.perm (F.map g).symm (M:=M) (by rw[q,I];exact r);refine⟨M',p1,?_⟩;rw[ZX,ZX]at Z;rw[←e1,←Nv (y:=D.non) z];exact Z
theorem mV{J:List Addr}{p:Addr}(O:aF G H W ds xs M)(s:∀a∈M,a∈J)(nd:M.Nodup)(hn:∀a∈J,W.tmp a)(F:H p=none)(q:Done G H W J (.lst .own ds) Q):Q (.ref p) (upd H p (.lst xs)):=by
 have I:Same H (upd H p (.lst xs)):=Same.new F;have Z:p∉M:=λz=>by obtain⟨o,B,_⟩:=O.dom p z;rw[F]at B;cases B
 refine q (.ref p) _ (p::M) I ?_ (λa Y=>(ZR.mp Y).elim (λz=>.inr (by rw[z];exact F)) λz=>.inl (s a z)) (Z8.mpr ⟨Z,nd⟩);rw[Rep];exact⟨p,xs,M,rfl,O.up ⟨I,λb u U f=>⟨λz=>z.elim (λz=>(ZR.mp z).elim (λz=>by rw[z,F]at U;cases U) λz=>f.1 (hn b (s b z)).1) λz=>f.1 z.1,f.2⟩,λ_ _ _ f=>f⟩,aZ,rfl⟩
theorem Mh(r:aF G H W (ks.map fS) ys M)(J:∀k∈ks,∃x,k=[x]):Qd G.K H ys ks:=by
 refine⟨by have:=r.length;rwa[ZL]at this,.inl λi k e=>?_⟩;obtain⟨x,rfl⟩:=J k (Z2 e);obtain⟨y,N,h1,h2,_⟩:=r.get (j:=i) (d:=fS [x]) (by rw[List.getElem?_map,e];rfl);exact⟨x,rfl,by rw[h1,(cB h2).1];rfl⟩
theorem Df:∀{k:List Str}{xs:List V}{M:List Addr},aF G H W (k.map D.str) xs M->xs=k.map V.str
 |[],xs,M,r=>r.inv0.1
 |x::k,xs,M,r=>by
  obtain⟨y,ys,A,B,rfl,_,Z,J⟩:=r.inv;rw[(cB Z).1,Df J];rfl
theorem Du(r:aF G H W (ks.map (fL m)) ys M):Qd G.K H ys ks:=by
 refine⟨by have:=r.length;rwa[ZL]at this,.inr λi k e=>?_⟩;obtain⟨y,N,h1,h2,_⟩:=r.get (j:=i) (d:=fL m k) (by rw[List.getElem?_map,e];rfl);unfold fL at h2;rw[Rep]at h2;obtain⟨b,xs,I,rfl,Z,q⟩:=h2;rw[Df Z]at q;exact⟨b,h1,q.sq⟩
theorem Ek{A:aaC}(J:A.units+2<cLine):CaV G (zW G.K A) jN:=λds d e xs H W Y r nd hn w Q q=>by
 unfold jN at e;split at e
 .split at e
  .rename_i hl
   obtain⟨x,rfl,rx⟩:=r.inv1;rw[Rep]at rx;obtain⟨a,ys,M,rfl,O,B⟩:=rx;have z:=O.length;split at e
   .rename_i ks hks
    cases e;obtain⟨h1,h2⟩:=Hx hks;rw[h1]at O;refine⟨a,ys,ks,rfl,.inl B.sq,by omega,J,Mh O h2,λp F V l I=>?_⟩;obtain⟨M',p1,Z⟩:=qY O F V;exact mV Z (λb U=>B.sub.subset (p1.mem_iff.mp U)) (p1.nodup_iff.mpr (B.sub.nodup nd)) hn I q
   .split at e
    .rename_i m es rr hks
     cases e2:lstK m (D.lst m es::rr)with
     |none=>rw[e2]at e;cases e
     |some ks=>
      rw[e2]at e;cases e;rw[yS e2]at O;refine⟨a,ys,ks,rfl,.inl B.sq,by omega,J,Du O,λp F V l I=>?_⟩;obtain⟨M',p1,Z⟩:=qY O F V;exact mV Z (λb U=>B.sub.subset (p1.mem_iff.mp U)) (p1.nodup_iff.mpr (B.sub.nodup nd)) hn I q
    .cases e
  .cases e
 .cases e
variable{X:ι->Cx}
theorem p6(A:aaC)(O:∀c,(X c).A=A)(J:A.units+2<cLine)(F:∀c,(X c).K=G.K:=by intro _;rfl):CaB X G (.builtin "sorted") jN:=⟨zW G.K A,λc=>by rw[←F c,←O c];exact rE,Ek J⟩
def C_:List D->Option D
 |[]=>some (.dct .own [] [])
 |_=>none
theorem Qn:CaV G (λxs H Q=>∀p,H p=none->Q (.ref p) (upd H p (.dK []))) C_:=λds d e xs H W J r nd hn w Q q=>by
 unfold C_ at e;split at e
 .cases e
  intro p F;have I:Same H (upd H p (.dK [])):=Same.new F;refine q (.ref p) _ [p] I ?_ (λa Y=>.inr (by rw[Z7.mp Y];exact F)) (Z8.mpr ⟨by simp,aap⟩);rw[Rep];exact⟨p,[],[],rfl,⟨rfl,aap⟩,.nil,aZ,rfl⟩
 .cases e
theorem uG:PV X G ob (.Dict [] [] pos) (eAp C_ aD):=⟨_,λc=>J7,tR Qn sV⟩
def tZ:List Key->Option (List Str)
 |[]=>some []
 |.inr x::r=>(tZ r).map (x::·)
 |_=>none
theorem BX:∀{ks:List Key}{ys:List Str},tZ ks=some ys->ks=ys.map ZS
 |[],ys,h=>by cases h;rfl
 |.inr x::r,ys,h=>by
  simp![tZ,aeH]at h;obtain⟨t,h1,rfl⟩:=h;rw[BX h1];rfl
 |.inl _::r,ys,h=>by simp[tZ]at h
def WD(ys:List Str):List Str:=(rW (ys.map λy=>[y])).map λk=>k.headD ""
theorem CJ:∀ys:List Str,aF G H W (ys.map D.str) (ys.map V.str) []
 |[]=>.nil
 |x::r=>aF.cons (M:=[]) (M':=[]) rT (CJ r)
def jc(tg:D->En->Option En)(c:En->Option Bool)(fk z:En->Option D)(q:En):List D->Option (List (Key×D))
 |[]=>some []
 |d::r=>(tg d q).bind λρ1=>(c ρ1).bind λb=>if b=true then((fk ρ1).bind cW).bind λk=>(z ρ1).bind λx=>(jc tg c fk z q r).map λt=>(k,x)::t else jc tg c fk z q r
def qZ(es:List (Key×D)):Option D:=if(es.map (·.1)).Nodup then some (.dct .own (es.map (·.1)) (es.map (·.2)))else none
def mQ(cap:List 1.34)(it:En->Option (Bool×List D))(tg:D->En->Option En)(c:En->Option Bool)(fk z:En->Option D):En->Option D:=λρ=>(it ρ).bind λp=>if p.2.length<=1000000 then(jc tg c fk z (fU cap ρ) p.2).bind qZ else none
theorem G4{ks:List Key}(h:k∉ks):dw ks k=none:=abd.mpr λx J=>by
 have:x≠k:=λz=>h (z▸J);simpa using this
theorem Hu(e:cW d=some k)(r:Rep G H W d x L):x=kV k/\L=[]:=by
 cases d with
 |int i=>cases e;rw[Rep]at r;exact r
 |str i=>cases e;rw[Rep]at r;exact r
 |_=>cases e
section
variable{G:Gc}{ob own:Nat->Bool}
theorem Cy{cap:List 1.34}{wi:TI}{g:TG}{tt:TT}{tk te:TE}{it:En->Option (Bool×List D)}{tg:D->En->Option En}{c:En->Option Bool}{fk e:En->Option D}(b3:∀i:Nat,own i=true->cap[i]?≠none->cap[i]? =some none)(hi:RfI G ob wi it)(hg:Ju G 1.28 own g tg)(ht:RfT G 1.28 tt c)(I:RfE G 1.28 tk fk)(V:RfE G 1.28 te e):RfE G ob (Et cap wi g tt tk te) (mQ cap it tg c fk e):=λρ d ee σ H W rl w Q q=>by
 unfold mQ at ee;cases h1:it ρ with
 |none=>simp[h1]at ee
 |some p=>
  obtain⟨b,items⟩:=p;rw[h1]at ee;simp![Hq]at ee;split at ee
  .rename_i hlen
   cases h2:jc tg c fk e (fU cap ρ) items with
   |none=>simp[h2]at ee
   |some a9=>
    rw[h2]at ee;simp![Hq,qZ]at ee;split at ee
    .rename_i hnd
     cases ee;refine hi ρ b items h1 σ H W rl w _ λJ H1 F wk=>?_;refine⟨λi m ys H2=>i+m=items.length/\ys.length<=i/\∃acc L rest,Same H1 H2/\Z9 (·.1) ys=Z9 (·.1) acc/\aF G H2 (W.add L) (Z9 (·.2) acc) (Z9 (·.2) ys) L/\(∀a∈L,H1 a=none)/\L.Nodup/\WOk H2 (W.add L)/\jc tg c fk e (fU cap ρ) (items.drop i)=some rest/\acc++rest=a9,⟨items.length,by omega,by simp,[],[],a9,Same.refl _,rfl,.nil,by simp,aap,?_,h2,rfl⟩,?_⟩
     .rw[tB];exact w.up F
     rintro i m ys H2 ⟨c2,c7,acc,L,rest,s2,a2,ra,fa,na,wa,O,a0⟩;have a5:Up H1 H2 W (W.add L):=Up.add s2 fa
     .by_cases hil:i<items.length
      .have hdr:=(abQ hil).symm
       rw[hdr,jc]at O;refine .inr ⟨wk.go i items[i] (by simp[hil]) H2 _ (LtB.up a5),by have:=six hlen;omega,λa4 H'=>(i+1)+(m-1)=items.length/\a4.length<=i+1/\∃acc L rest,Same H1 H'/\Z9 (·.1) a4=Z9 (·.1) acc/\aF G H' (W.add L) (Z9 (·.2) acc) (Z9 (·.2) a4) L/\(∀a∈L,H1 a=none)/\L.Nodup/\WOk H' (W.add L)/\jc tg c fk e (fU cap ρ) (items.drop (i+1))=some rest/\acc++rest=a9,λa4 H' h=>⟨m-1,by omega,h⟩,λx H3 hy=>?_⟩;obtain⟨s3,rx⟩:=wk.yld i items[i] (by simp[hil]) H2 _ (LtB.up a5) x H3 hy;cases Z:tg items[i] (fU cap ρ)with
       |none=>simp[Z]at O
       |some ρ1=>
        rw[Z]at O;simp![Hq]at O;have c0:Rel G H3 (W.add L) 1.28 (fU cap ρ) (gH cap σ):=(rl.cap).up ((Up.same F).trans (a5.trans (Up.same s3)));have b4:=ra.up (Up.same s3 (W:=W.add L));have b5:WOk H3 (W.add L):=wa.up s3;refine hg items[i] _ ρ1 Z x _ H3 (W.add L) rx c0 (by simp[fU,gH]) _ λσ2 b6 c3 k4=>⟨Ft b3 k4,?_⟩;cases h4:c ρ1 with
        |none=>simp[h4]at O
        |some bb=>
         rw[h4]at O;simp![Hq]at O;refine ht ρ1 bb h4 σ2 H3 (W.add L) b6 b5 _ λH4 s4=>?_;have b2:=b6.up (Up.same s4);have a7:=b5.up s4;cases bb with
         |false=>
          simp![aaj,aaN]at O;exact u_ ⟨by omega,by omega,acc,L,rest,((s2.trans s3).trans s4),a2,b4.up (Up.same s4),fa,na,a7,O,a0⟩
         |true=>
          simp![aab]at O;cases h7:fk ρ1 with
          |none=>simp[h7]at O
          |some dk=>
          cases h8:cW dk with
          |none=>simp[h7,h8]at O
          |some k=>
          cases h5:e ρ1 with
          |none=>simp[h5,h7,h8]at O
          |some y=>
           cases h6:jc tg c fk e (fU cap ρ) (items.drop (i+1))with
           |none=>simp[h5,h6,h7,h8]at O
           |some a1=>
            obtain rfl:(k,y)::a1=rest:=by simpa[h5,h6,h7,h8]using O
            refine sI (I ρ1 dk h7 σ2 H4 (W.add L) b2 a7 _ λxk a6 c4 a3 b8 c5 c6=>?_);obtain⟨rfl,rfl⟩:=Hu h8 b8;refine⟨k,rfl,?_⟩;have b9:=b2.up (Up.same a3);have c1:=a7.up a3;have a8:Same H1 a6:=((s2.trans s3).trans s4).trans a3;have b0:=(b4.up (Up.same s4 (W:=W.add L))).up (Up.same a3 (W:=W.add L));refine V ρ1 y h5 σ2 a6 (W.add L) b9 c1 _ λv H5 M s5 ry fy ny=>?_;have fM:∀a∈M,H1 a=none:=λa Y=>a8.none' (fy a Y);have b7:∀a∈L,a∉M:=λa h1 h2=>by
             obtain⟨o,B,_⟩:=b0.dom a h1;rw[fy a h2]at B;cases B
            have u5:Up a6 H5 (W.add L) (W.add (L++M)):=⟨s5,λb u U f=>⟨λz=>z.elim (λz=>(Zy.mp z).elim (λz=>f.1 (.inl z)) λz=>by rw[fy b z]at U;cases U) λz=>f.1 (.inr z),f.2⟩,λ_ _ _ f=>f⟩;have u6:Up H5 H5 ((W.add L).add M) (W.add (L++M)):=⟨Same.refl _,λb u U f=>⟨λz=>by
             rcases z with z|z
             .exact(Zy.mp z).elim (λz=>f.1 (.inr (.inl z))) λz=>f.1 (.inl z)
             .exact f.1 (.inr (.inr z)),f.2⟩,λ_ _ _ f=>f⟩
            have b1:dw (ys.map (·.1)) k=none:=G4 λz=>by
             rw[a2]at z;rw[←a0,ZW]at hnd;exact(ZZ.mp hnd).2.2 k z k (by simp) rfl
            rw[lW b1];refine⟨by omega,by simp;omega,acc++[(k,y)],L++M,a1,a8.trans s5,by simp[a2],?_,λa Y=>(Zy.mp Y).elim (fa a) (fM a),fu na ny b7,?_,rfl,by rw[←a0];simp⟩
            .rw[ZW,ZW];exact(b0.up u5).append (.one (ry.up u6))
            exact w.add (F.trans (a8.trans s5)) λa Y=>(Zy.mp Y).elim (λz=>let⟨o,h,m⟩:=b0.dom a z;⟨o,s5 a o h,m⟩) (ry.dom a)
      .have hl:i=items.length:=by omega
       subst hl;rw[abK,jc]at O;cases O;refine .inl ⟨wk.stop H2 _ (LtB.up a5),ab8 (six 1.11),λp hp=>?_⟩;have sm:Same H2 (upd H2 p (.dK ys)):=Same.new hp;rw[List.append_nil]at a0;subst a0;refine q (.ref p) _ (p::L) ((F.trans s2).trans sm) ?_ (λa Y=>(ZR.mp Y).elim (λz=>by rw[z];exact(F.trans s2).none' hp) λz=>F.none' (fa a z)) (Z8.mpr ⟨λz=>?_,na⟩)
       .rw[Rep]
        exact⟨p,ys,L,rfl,⟨a2,hnd⟩,ra.up ⟨sm,λb u U f=>⟨λz=>z.elim (λz=>(ZR.mp z).elim (λz=>by rw[z,hp]at U;cases U) λz=>f.1 (.inl z)) λz=>f.1 (.inr z),f.2⟩,λ_ _ _ f=>f⟩,aZ,rfl⟩
       .obtain⟨o,B,_⟩:=ra.dom p z
        rw[hp]at B;cases B
    .cases ee
  .cases ee
end
section
variable{ι:Type}{X:ι->Cx}{G:Gc}{ob:Nat->Bool}{kx vx target iter:Expr}{ifs:List Expr}{scope:Scope}{pos pos' pos2:Pos}{N':List Str}{it:En->Option (Bool×List D)}{tg:D->En->Option En}{fc:En->Option Bool}{fk fe:En->Option D}
theorem BJ(cap:List 1.34)(own:Nat->Bool)(J:∀c,(X c).xe=NoX)(Z:∀c,(X c).calm=true)(O:∀c,eG (X c).env.scope (X c).N N' scope cap)(z:∀i:Nat,own i=true->cap[i]?≠none->cap[i]? =some none)(hi:PVI X G ob target iter it)(q:JL (InX X N' scope) G 1.28 own target tg)(Y:JH (InX X N' scope) G 1.28 ifs fc)(I:PV (InX X N' scope) G 1.28 kx fk)(V:PV (InX X N' scope) G 1.28 vx fe)
  (B:∀c,∀x,aa8 iter (X c).env x=pure x:=by intro _ _;rfl):PV X G ob (.DictComp kx vx [⟨target,iter,ifs,0⟩] scope pos) (mQ cap it tg fc fk fe):=
 let⟨_,i1,i2⟩:=hi.ex;let⟨_,g1,g2⟩:=q.ex;let⟨_,t1,t2⟩:=Y.ex;let⟨_,k1,k2⟩:=I.ex;let⟨_,e1,e2⟩:=V.ex
 ⟨_,λc=>Nt (J c) (Z c) (O c) (i1 c) (λC s H fp=>g1 (c,C,s,H,fp)) (λC s H fp=>t1 (c,C,s,H,fp)) (λC s H fp=>k1 (c,C,s,H,fp)) (λC s H fp=>e1 (c,C,s,H,fp)) (B c),Cy z i2 g2 t2 k2 e2⟩
variable{P:Nat->Bool}{x:Str}
theorem J_(i:Nat)(cap:List 1.34)(own:Nat->Bool)(U:∀c,(X c).N.Nodup)(J:∀c,(X c).xe=NoX)(Z:∀c,(X c).calm=true)(O:∀c,eG (X c).env.scope (X c).N N' scope cap)(z:∀i:Nat,own i=true->cap[i]?≠none->cap[i]? =some none)(hi:PVI X G ob target iter it)(q:JL (InX X N' scope) G 1.28 own target tg)(Y:JH (InX X N' scope) G 1.28 ifs fc)(I:PV (InX X N' scope) G 1.28 kx fk)(V:PV (InX X N' scope) G 1.28 vx fe)
  (hP:P i=false:=by rfl) (F:∀c,(X c).N[i]? =some x:=by intro _;rfl) (hl:∀c,Loc (X c).env.scope x:=by intro _;first|exact abf rfl|exact aaQ rfl) (hw:∀c,abS (.DictComp kx vx [⟨target,iter,ifs,0⟩] scope pos) (some (.Name x pos')) pos2.line (X c).env=pure true:=by intro _;rfl) (B:∀c,∀x,aa8 iter (X c).env x=pure x:=by intro _ _;rfl)
  (D:∀c,(X c).fn x=true∨(X c).env.scope.names.lookup x=some .local:=by intro _;first|exact .inl rfl|exact .inr rfl):PVS X G ob P (.Assign [.Name x pos'] (.DictComp kx vx [⟨target,iter,ifs,0⟩] scope pos) pos2) (cz (mQ cap it tg fc fk fe) (tgN i)):=
 let⟨_,i1,i2⟩:=hi.ex;let⟨_,g1,g2⟩:=q.ex;let⟨_,t1,t2⟩:=Y.ex;let⟨_,k1,k2⟩:=I.ex;let⟨_,e1,e2⟩:=V.ex
 ⟨_,λc=>Qm (J c) (Z c) (U c) (F c) (hl c) (O c) (i1 c) (λC s H fp=>g1 (c,C,s,H,fp)) (λC s H fp=>t1 (c,C,s,H,fp)) (λC s H fp=>k1 (c,C,s,H,fp)) (λC s H fp=>e1 (c,C,s,H,fp)) (hw c) (B c) (D c),by rw[←Fi];exact lQ (Dw (Cy z i2 g2 t2 k2 e2)) (iW hP)⟩
end
def GJ:En->Option (List (Key×D)):=λ_=>some []
def v6(fk z:En->Option D)(I:En->Option (List (Key×D))):En->Option (List (Key×D)):=λρ=>((fk ρ).bind cW).bind λk=>(z ρ).bind λx=>(I ρ).map λr=>(k,x)::r
def CK(f:En->Option (List (Key×D))):En->Option D:=λρ=>(f ρ).bind λes=>if es.length<=15/\az (es.map (·.2))=true/\aA (es.map (·.2))=true then qZ es else none
def Ln(G:Gc)(ob:Nat->Bool)(t:List (TE×TE))(f:En->Option (List (Key×D))):Prop:=∀(ρ:En)(es:List (Key×D)),f ρ=some es->∀(σ:L2.St)(H:Hp)(W:Wn),Rel G H W ob ρ σ->WOk H W->∀Q:List (V×V)->Hp->Prop,
 (∀(vs:List V) H' L,vs.length=es.length->Same H H'->aF G H' (W.add L) (es.map (·.2)) vs L->(∀a∈L,H a=none)->L.Nodup->Q ((aeo (es.map (·.1)) vs).map λF=>(kV F.1,F.2)) H')->yW t σ H Q
structure PL{ι:Type}(X:ι->Cx)(G:Gc)(ob:Nat->Bool)(pos:Pos)(ks:List (Option Expr))(vs:List Expr)(f:En->Option (List (Key×D))):Prop where
 mk::(ex:∃t,(∀c,PPs (X c) pos ks vs t)/\Ln G ob t f)
theorem Ro:Ln G ob [] GJ:=λρ es e σ H W J w Q q=>by
 cases e;exact q [] H [] rfl (Same.refl H) .nil (by simp) aap
variable{t:List (TE×TE)}
theorem Lz{tk tv:TE}{fv:En->Option D}{fr:En->Option (List (Key×D))}(I:RfE G ob tk fk)(hv:RfE G ob tv fv)(O:Ln G ob t fr):Ln G ob ((tk,tv)::t) (v6 fk fv fr):=λρ es e σ H W J w Q q=>by
 unfold v6 at e;cases h1:fk ρ with
 |none=>simp[h1]at e
 |some dk=>
 cases h2:cW dk with
 |none=>simp[h1,h2]at e
 |some k=>
 cases Z:fv ρ with
 |none=>simp[h1,h2,Z]at e
 |some dv=>
 cases V:fr ρ with
 |none=>simp[h1,h2,Z,V]at e
 |some rs=>
  obtain rfl:(k,dv)::rs=es:=by simpa[h1,h2,Z,V]using e
  refine I ρ dk h1 σ H W J w _ λxk H0 L0 s0 rk a1 nk=>?_;obtain⟨rfl,rfl⟩:=Hu h2 rk;refine hv ρ dv Z σ H0 W (J.up (Up.same s0)) (w.up s0) _ λx H1 L F rx fx nx=>?_;have u1:Up H0 H1 W (W.add L):=.add F fx;have w1:WOk H1 (W.add L):=(w.up s0).add F rx.dom;refine O ρ rs V σ H1 (W.add L) ((J.up (Up.same s0)).up u1) w1 _ λys H2 M hl s2 ry fy ny=>?_;have a0:∀a∈L,a∉M:=λa h1 h2=>by
   obtain⟨o,B,_⟩:=rx.dom a h1;rw[fy a h2]at B;cases B
  have u2:Up H1 H2 (W.add L) (W.add (L++M)):=⟨s2,λb u U f=>⟨λz=>z.elim (λz=>(Zy.mp z).elim (λz=>f.1 (.inl z)) λz=>by rw[fy b z]at U;cases U) λz=>f.1 (.inr z),f.2⟩,λ_ _ _ f=>f⟩;refine q (x::ys) H2 (L++M) (by simp[hl]) ((s0.trans F).trans s2) (.cons (rx.up u2) (ry.up ⟨Same.refl _,λb u U f=>⟨λz=>?_,f.2⟩,λ_ _ _ f=>f⟩)) (λa Y=>?_) (fu nx ny a0)
  .rcases z with z|z
   .exact(Zy.mp z).elim (λz=>f.1 (.inr (.inl z))) λz=>f.1 (.inl z)
   .exact f.1 (.inr (.inr z))
  .rcases Zy.mp Y with z|z
   .exact s0.none' (fx a z)
   .exact(s0.trans F).none' (fy a z)
theorem vH:∀{more kvs:List (Key×V)},(Z9 (·.1) (kvs++more)).Nodup->oK kvs more=kvs++more
 |[],kvs,h=>by simp[oK]
 |p::r,kvs,h=>by
  have h1:putK kvs p.1 p.2=kvs++[p]:=lW (G4 λz=>by
   rw[ZW]at h;exact(ZZ.mp h).2.2 p.1 z p.1 (by simp) rfl)
  have:=vH (more:=r) (kvs:=kvs++[p]) (by simpa using h);show oK (putK kvs p.1 p.2) r=_;rw[h1,this];simp
variable{f:En->Option (List (Key×D))}
theorem R1(h:Ln G ob t f):RfE G ob (SM t) (CK f):=λρ d e σ H W rl w Q q=>by
 unfold CK at e;cases h1:f ρ with
 |none=>simp[h1]at e
 |some es=>
  rw[h1]at e;simp![Hq]at e;split at e
  .rename_i hc
   unfold qZ at e;split at e
   .rename_i hnd
    cases e;intro p F;have sm:Same H (upd H p (.dK [])):=Same.new F;have u0:Up H (upd H p (.dK [])) W (W.add [p]):=.add sm (by simpa using F);have w0:WOk (upd H p (.dK [])) (W.add [p]):=w.add sm λa Y=>by
     obtain rfl:a=p:=by simpa using Y
     exact⟨_,aZ,rfl⟩
    refine h ρ es h1 σ _ _ (rl.up u0) w0 _ λvs H2 L O s2 r2 B V=>?_;have a2:H2 p=some (.dK []):=s2 p _ aZ;have a0:Z9 (·.1) (aeo (es.map (·.1)) vs)=es.map (·.1):=aep (by simp[O]);have a5:Z9 (·.2) (aeo (es.map (·.1)) vs)=vs:=agd (by simp[O]);refine⟨a2,aeo (es.map (·.1)) vs,rfl,by simp[O];exact hc.1,?_⟩;rw[vH (by simpa[a0]using hnd),List.nil_append];have a1:p∉L:=λz=>by have:=B p z;rw[aZ]at this;cases this
    have a4:Same H (upd H2 p (.dK (aeo (es.map (·.1)) vs))):=λb u U=>by
     have a3:b≠p:=λz=>by rw[z,F]at U;cases U
     rw[aQ a3];exact s2 b u (by rw[aQ a3];exact U)
    refine q (.ref p) _ (p::L) a4 ?_ (λa Y=>?_) (Z8.mpr ⟨a1,V⟩)
    .rw[Rep]
     refine⟨p,_,L,rfl,⟨a0,hnd⟩,?_,aZ,rfl⟩;rw[a5];have ev:Evo H2 (upd H2 p (.dK (aeo (es.map (·.1)) vs))) ((W.add [p]).add L) (W.add (p::L)):=⟨λb u U I=>⟨by rw[aQ λz=>I.1 (.inr (.inl (by simp[z])))];exact U,λz=>by
      rcases z with z|z
      .rcases ZR.mp z with z|z
       .exact I.1 (.inr (.inl (by simp[z])))
       .exact I.1 (.inl z)
      .exact I.1 (.inr (.inr z)),I.2⟩,λb xs U=>by rw[aQ λz=>by rw[z,a2]at U;cases U];exact U⟩
     exact r2.mono ev (.inl hc.2.1) (.inl hc.2.2) λc a6 u J=>by
      have Z:c≠p:=λz=>a1 (by rw[←z];exact a6);rw[aQ Z];exact J
    .rcases ZR.mp Y with z|z
     .rw[z];exact F
     .have:=B a z
      by_cases U:a=p
      .rw[U];exact F
      .rwa[aQ U]at this
   .cases e
  .cases e
theorem La:PL X G ob pos [] [] GJ:=⟨_,λc=>Q9,Ro⟩
theorem Jl{k v:Expr}{ks:List (Option Expr)}{vs:List Expr}{z:En->Option D}{q:En->Option (List (Key×D))}(I:PV X G ob k fk)(Z:PV X G ob v z)(O:PL X G ob pos ks vs q):PL X G ob pos (some k::ks) (v::vs) (v6 fk z q):=
 let⟨_,a1,a2⟩:=I.ex;let⟨_,b1,b2⟩:=Z.ex;let⟨_,c1,c2⟩:=O.ex;⟨_,λc=>Kg (a1 c) (b1 c) (c1 c),Lz a2 b2 c2⟩
theorem Su{F:List Expr}(h:PL X G ob pos J F f)(U:J.all (·.isSome)=true:=by rfl)(O:J.length=F.length:=by rfl)(Y:J≠[]:=by simp)(q:J.length<=15:=by decide):PV X G ob (.Dict J F pos) (CK f):=
 let⟨_,a1,a2⟩:=h.ex;⟨_,λc=>Ry (a1 c) U O Y q,R1 a2⟩
def Itz(K:ZC)(a b:Addr):It:=
 ⟨λi H=>∃xs ys x y,SqL K H a xs/\SqL K H b ys/\xs[i]? =some x/\ys[i]? =some y,λi H x H'=>∃p u v,H p=none/\x= .ref p/\(∀xs,SqL K H a xs->xs[i]? =some u)/\(∀xs,SqL K H b xs->xs[i]? =some v)/\H'=upd H p (.tup [u,v]),λi H=>∃xs ys,SqL K H a xs/\SqL K H b ys/\(xs.length<=i∨ys.length<=i)⟩
theorem Kr{K:ZC}{x1}(a b z TI TO i1 i2:Addr)(ap:ZipApart z TI TO i1 i2 a b) :
  Turn P w K (.Tuple elts x1 pos) (Itz K a b) [z,TI,TO,i1,i2] z (λi h=>IsZip h z TI TO .none/\IsPair h TI (.ref i1) (.ref i2)/\(∃u v,IsPair h TO u v)/\h.IsListIter i1 a i/\h.IsListIter i2 b i)where
 mem:=by simp
 obj:=λi h st c Z=>by
  obtain⟨h1,h2,⟨u,v,h3⟩,⟨o1,q1,_,d1⟩,⟨o2,q2,_,d2⟩⟩:=st;simp![ZR,aeq,or_false]at Z;rcases Z with e|e|e|e|e<;>subst e
  .exact⟨_,h1,λv z=>by cases z⟩
  .exact⟨_,h2,λv z=>by cases z⟩
  .exact⟨_,h3,λv z=>by cases z⟩
  .exact⟨o1,q1,λv z=>by rw[d1]at z;cases z⟩
  .exact⟨o2,q2,λv z=>by rw[d2]at z;cases z⟩
 keep:=λi h h' st k=>by
  obtain⟨h1,h2,⟨u,v,h3⟩,h4,h5⟩:=st;exact⟨k z (by simp) _ h1,k TI (by simp) _ h2,⟨u,v,k TO (by simp) _ h3⟩,h4.at λo q=>k i1 (by simp) o q,h5.at λo q=>k i2 (by simp) o q⟩
 item:=by
  intro X hP B hK Z i pins s σ H E I D st hg;subst hP B hK;obtain⟨xs,ys,x,y,Y,a0,J,V⟩:=hg;obtain⟨its,F,p,hz⟩:=I.list Y;obtain⟨its',a1,p',a5⟩:=I.list a0;obtain⟨u,hu,ru⟩:=F.get J;obtain⟨v,hv,a6⟩:=a1.get V;obtain⟨h1,h2,⟨u0,v0,h3⟩,h4,h5⟩:=st;have a3:∀c∈[z,TI,TO,i1,i2],c<s.heap.objs.size:=λc Z=>by
   simp![ZR,aeq,or_false]at Z;obtain⟨o1,q1,_⟩:=h4;obtain⟨o2,q2,_⟩:=h5;rcases Z with e|e|e|e|e<;>subst e
   .exact ZP h1
   .exact ZP h2
   .exact ZP h3
   .exact ZP q1
   .exact ZP q2
  refine wpAny_pyNext_zip_item ap h1 h2 h3 h4 h5 p.isList p'.isList (x:=u) (y:=v) (by simpa using hu) (by simpa using hv) λh' g1 g3 g4 g5 g6 hsz k1=>?_;refine⟨.ref s.heap.objs.size,rfl,wpAny_letOwnedTupleGo_zip g1 λa2 b0 sb=>?_⟩;have a8:z<s.heap.objs.size:=a3 z (by simp);have a9:s.heap.objs.size≠z:=abC a8;have a7:a2.get? s.heap.objs.size=some {cls:=.type "tuple",data:=.seq #[u,v]}:=sb.extBut _ _ a9 g6;have kk:∀c o,c∉[z,TI,TO,i1,i2]->s.heap.get? c=some o->a2.get? c=some o:=λc o Z q=>by
   have n1:c≠z:=λe=>Z (by simp[e]);exact sb.extBut c o n1 (k1 c o n1 (λe=>Z (by simp[e])) (λe=>Z (by simp[e])) (λe=>Z (by simp[e])) q)
  have I2:Inv X pins σ (upd H s.heap.objs.size (.tup [x,y])) {s with heap:=a2,toks:=s.toks}:=by
   refine wC (fp:=[z,TI,TO,i1,i2]) (t':=s.toks) I D (λb o U q=>kk b o U q) (ZQ _) ?_;exact⟨by show 2<=ZM;decide,[u,v],.cons ru (.cons a6 .nil),_,a7,rfl,_,rfl,rfl⟩
  refine⟨.ref s.heap.objs.size,upd H s.heap.objs.size (.tup [x,y]),I2,rfl,⟨_,x,y,I.hok.fresh (ZQ _),rfl,λys V=>by rw[I.list_inj V Y];exact J,λys a4=>by rw[I.list_inj a4 a0];exact V,rfl⟩,?_,λc Z=>?_⟩
  .refine⟨b0,sb.extBut _ _ ap.TIz (k1 _ _ ap.TIz ap.TITO ap.TIi1 ap.TIi2 h2),⟨u,v,sb.extBut _ _ ap.TOz g3⟩,g4.extBut sb.extBut ap.i1z,g5.extBut sb.extBut ap.i2z⟩
  .rw[aQ λe=>aaV _ (e▸a3 c Z)]
   exact(D c Z).1
 done:=by
  intro X hP B hK Z i pins s σ H E I D st hg;subst hP B hK;obtain⟨xs,ys,Y,a0,J⟩:=hg;obtain⟨its,F,p,hz⟩:=I.list Y;obtain⟨its',a1,p',a5⟩:=I.list a0;obtain⟨h1,h2,⟨u0,v0,h3⟩,h4,h5⟩:=st;have O:=F.length;have b1:=a1.length;refine wpAny_pyNext_zip_end (I.ok.hd Z) ap h1 h2 h3 h4 h5 p.isList p'.isList (J.imp (λe=>by simp;omega) λe=>by simp;omega) λh' k1=>⟨rfl,?_⟩;exact lZ (fp:=[z,TI,TO,i1,i2]) (t':=s.toks) I D λc o Z q=>k1 c o (λe=>Z (by simp[e])) (λe=>Z (by simp[e])) (λe=>Z (by simp[e])) (λe=>Z (by simp[e])) q
 self:=λA i s Q E st h=>wpAny_pyIter_zip st.1 h
def Xu(K:ZC)(ta:TA):TI:=λσ H R=>ta σ H λvs H1=>∃a b,vs=[.ref a,.ref b]/\(∃xs,SqL K H1 a xs)/\(∃xs,SqL K H1 b xs)/\R (Itz K a b) H1
variable{X:Cx}
theorem VH{a b:Expr}{ta:TA}{p:Pos}{x1}(hg:Gl X "zip")(J:X.mg "zip"=none)(Y:PA X [a,b] ta)(B:ZK [a,b] X.env=(false,eval a X.env)::ZK [b] X.env:=by rfl)(U:ZK [b] X.env=[(false,eval b X.env)]:=by rfl):PI X (.Tuple elts x1 tpos) (.Call (.Name "zip" p) [a,b] [] pos) (Xu X.K ta):=by
 intro pins s σ H R I h;refine Call_ (mG I hg J boot_zip (aa2 (thn (Y pos pins s σ H _ I h) λus F ⟨vs,H1,z,r1,q1⟩=>?_) B (by rw[U];rfl)));obtain⟨l,l',e,⟨xs,hq⟩,⟨ys,a5⟩,q⟩:=q1;subst e;obtain⟨u,v,rfl,ru,a4⟩:∃u v,us=[u,v]/\RelV (.ref l) u/\RelV (.ref l') v:=by
  cases r1 with
  |cons h1 t=>
   cases t with
   |cons h2 t=>cases t;exact⟨_,_,rfl,h1,h2⟩
 cases ru;cases a4;obtain⟨its,rv,pl,hz⟩:=z.list hq;obtain⟨its',a7,a3,a6⟩:=z.list a5;have a1:l<F.heap.objs.size:=let⟨_,h1,_⟩:=pl.isList;ZP h1;have V:l'<F.heap.objs.size:=let⟨_,h1,_⟩:=a3.isList;ZP h1;refine call_zip_2 pl.isList a3.isList λh1 O g2 g3 g4 g5 hsz k1=>?_;have D:Inv X pins σ H1 {F with heap:=h1}:=z.kept (t':=F.toks) k1;refine wpAny_pyIter_zip O ?_;refine⟨F.heap.objs.size+4,[F.heap.objs.size+4,F.heap.objs.size+2,F.heap.objs.size+3,F.heap.objs.size,F.heap.objs.size+1],_,_,H1,rfl,D,Kr l l' _ _ _ _ _ (zipApart_new a1 V),⟨O,g2,⟨_,_,g3⟩,g4,g5⟩,λc Z=>?_,q⟩;have a0:F.heap.objs.size<=c:=by
  simp![ZR,aeq,or_false]at Z;rcases Z with e|e|e|e|e<;>rw[e]<;>omega
 exact z.fpOk a0 (z.hok.fresh a0)
def Gr:D->Bool
 |.lst _ _=>true
 |_=>false
def Fo(a b:List D):List D:=List.zipWith (λx y=>.tup [x,y]) a b
def itZ(f:En->Option (List D)):En->Option (Bool×List D):=λρ=>(f ρ).bind λds=>match ds with
 |[d,d']=>if Gr d=true/\Gr d'=true then(b7 d).bind λp=>(b7 d').map λz=>(p.1&&z.1,Fo p.2 z.2)else none
 |_=>none
theorem CZ{a b:List D}(h:(Fo a b)[i]? =some d):∃x y,a[i]? =some x/\b[i]? =some y/\d= .tup [x,y]:=by
 unfold Fo at h;rw[List.getElem?_zipWith]at h;cases h1:a[i]? with
 |none=>simp[h1]at h
 |some x=>
  cases h2:b[i]? with
  |none=>simp[h1,h2]at h
  |some y=>exact⟨x,y,rfl,rfl,by simpa[h1,h2]using h.symm⟩
variable{b:Bool}
theorem LtB.and1{B:Bool}(l:LtB (b&&B) H W H2 U):LtB b H W H2 U:=by
 cases b with
 |false=>exact l
 |true=>
  cases B with
  |true=>exact l
  |false=>exact LtB.up ((Z1 aat).mp l)
theorem LtB.and2{B:Bool}(l:LtB (b&&B) H W H2 U):LtB B H W H2 U:=by
 cases B with
 |false=>rw[ago]at l;exact l
 |true=>
  cases b with
  |true=>exact l
  |false=>exact LtB.up ((Z1 aat).mp l)
theorem Ce{v:V}{es:List D}(w:WOk H W)(s:Same H H')(r:Rep G H' (W.add L) d v M)(F:∀a∈M,a∈L)(I:∀a∈L,H a=none)(e:b7 d=some (b,es))(q:Gr d=true) :
  ∃a xs,v= .ref a/\Parts G H' W b es xs/\∀H2 U,LtB b H' W H2 U->SqL G.K H2 a xs:=by
 have free:∀a∈M,W.free a:=λa Y=>⟨λz=>?_,λz=>?_,λz=>?_⟩
 .have les:Les H' (W.add L) W M:=⟨λa f=>⟨λz=>f.1 (.inr z),f.2⟩,free⟩
  cases d with
  |lst m ds=>
   simp![b7,abF,afr]at e;obtain⟨rfl,rfl⟩:=e;rw[Rep]at r;obtain⟨a,xs,M,rfl,O,B⟩:=r;refine⟨a,xs,rfl,⟨aF.fzo (W:=W.add L) (W':=W) (λ_ z=>z) O (les.sub λc Z=>B.sub.subset Z),λz=>?_⟩,λH2 U l=>T9 (yc B les (λz=>z) (λz=>?_) l)⟩
   .simp[clean,aC,aB]at z
    exact⟨gQ z.1.2,gO z.2.2⟩
   .simp[clean,aC,aB]at z
    exact⟨z.1.1,z.2.1⟩
  |_=>cases q
 .obtain⟨o,ho,_⟩:=w a (.inl z);rw[I a (F a Y)]at ho;cases ho
 .obtain⟨o,ho,_⟩:=w a (.inr (.inl z));rw[I a (F a Y)]at ho;cases ho
 .obtain⟨o,ho,_⟩:=w a (.inr (.inr z));rw[I a (F a Y)]at ho;cases ho
variable{f:En->Option (List D)}
theorem RM{t:TA}(h:RfA G ob t f):RfI G ob (Xu G.K t) (itZ f):=λρ b items e σ H W rl w R q=>by
 unfold itZ at e;cases h1:f ρ with
 |none=>simp[h1]at e
 |some ds=>
  rw[h1]at e;simp![Hq]at e;split at e
  .rename_i d d'
   split at e
   .rename_i hl
    cases h2:b7 d with
    |none=>simp[h2]at e
    |some p=>
     cases Z:b7 d' with
     |none=>simp[h2,Z]at e
     |some p'=>
      obtain⟨b1,es⟩:=p;obtain⟨b2,O⟩:=p';obtain⟨rfl,rfl⟩:(b1&&b2)=b/\Fo es O=items:=by simpa[h2,Z]using e
      refine h ρ _ h1 σ H W rl w _ λvs H' L s r I nd=>?_;obtain⟨v,ys,M,M',rfl,rfl,hv,V⟩:=r.inv;obtain⟨v',a5,N,N',rfl,hN,a4,a3⟩:=V.inv;obtain⟨rfl,rfl⟩:=a3.inv0;obtain⟨a,xs,rfl,p,B⟩:=Ce w s hv (λa Y=>by simp[Y]) I h2 hl.1;obtain⟨a',a1,rfl,p',a0⟩:=Ce w s a4 (λa Y=>by simp[hN,Y]) I Z hl.2;refine⟨a,a',rfl,⟨xs,B H' W (LtB.up Up.refl)⟩,⟨a1,a0 H' W (LtB.up Up.refl)⟩,q _ H' s ⟨λi d e H2 U l=>?_,λi d e H2 U l x H3 y=>?_,λH2 U l=>?_⟩⟩
      .obtain⟨x,y,hx,V,_⟩:=CZ e
       obtain⟨u,J⟩:=p.r.getV hx;obtain⟨z,a2⟩:=p'.r.getV V;exact⟨xs,a1,u,z,B H2 U l.and1,a0 H2 U l.and2,J,a2⟩
      .obtain⟨x0,y0,hx,V,rfl⟩:=CZ e
       obtain⟨pa,u,z,F,rfl,J,a2,rfl⟩:=y;have sm:Same H2 (upd H2 pa (.tup [u,z])):=Same.new F;refine⟨sm,?_⟩;rw[Rep];exact⟨pa,_,rfl,aZ,.cons (M:=[]) (M':=[]) ((p.at l.and1 hx (J xs (B _ U l.and1))).up (Up.same sm)) (.one ((p'.at l.and2 V (a2 a1 (a0 _ U l.and2))).up (Up.same sm)))⟩
      .refine⟨xs,a1,B H2 U l.and1,a0 H2 U l.and2,?_⟩
       rw[←p.r.length,←p'.r.length];unfold Fo;rw[List.length_zipWith];omega
   .cases e
  .cases e
variable{X:ι->Cx}
theorem Py{a b:Expr}{p:Pos}(q:∀c,Gl (X c) "zip")(J:∀c,(X c).mg "zip"=none)(Y:PVA X G ob [a,b] f)(B:∀c,ZK [a,b] (X c).env=(false,eval a (X c).env)::ZK [b] (X c).env:=by intro _;rfl)(U:∀c,ZK [b] (X c).env=[(false,eval b (X c).env)]:=by intro _;rfl)(F:∀c,(X c).K=G.K:=by intro _;rfl):PVI X G ob (.Tuple elts x1 tpos) (.Call (.Name "zip" p) [a,b] [] pos) (itZ f):=
 let⟨t,a1,a2⟩:=Y.ex;⟨_,λc=>(by rw[←F c];exact VH (q c) (J c) (a1 c) (B c) (U c)),RM a2⟩
theorem J4{K:ZC}{k:Nat}{f:Addr}:cR P w K mg base CX0 k f fd ps (spP G λ_=>none):=
 ⟨λvs H Q E ⟨ds,Fr,r,_,_,_,d,e,_⟩=>(by cases e),λA outer s H args us vs Q E O V U Z ⟨ds,Fr,r,_,_,_,d,e,_⟩=>(by cases e)⟩
def kD:Key->D
 |.inl i=>.int i
 |.inr x=>.str x
end Jb
namespace PySem
def dz(ps:List Nat):Obj:={cls:=.type "tuple",data:=.seq (ps.map λ(i:Nat)=>acY i).toArray}
end PySem
namespace Jb
open PySem PyProof.Rows
def vl(x:Keyed):Int:=numOf x.1
end Jb
namespace PySem
open PySem.W
variable{r d:Addr}{P:Nat->Value->Prop}{OK:Heap->Prop}
theorem collect_src{Q:List Value->Pr->Prop}(K:KdlSrc prog w T r d n P OK)(z:A.handled=none)(hok:OK s.heap)(hn:n<=ZM)
  (U:∀h' tk acc,(∀b o,s.heap.get? b=some o->h'.get? b=some o)->ItemsOf P acc n->Q acc.toList {s with heap:=h',toks:=tk}):wpAny 1.13 A (collect (.ref r)) Q E s:=by
 unfold collect;refine gD (wpAny_runValue (abk F.entry_proto_collect ?_));rw[aa4 F.plain_proto_collect _];show wpAny _ A.in1 (aeW [] >>=λl=>again (.builtin "list.__iadd__" ⟨[l,.ref r],[]⟩)) _ _ s;refine gD (aaL ?_);refine ZD ⟨acP af0 _,abk F.entry_list_iadd ?_⟩;rw[aa4 af0 _];show wpAny _ A.in1 (Builtin.List.listExtendWith (.ref s.heap.objs.size) (.ref r) (.ref s.heap.objs.size)) _ _ _;have hS:(s.heap.push {cls:=.type "list",data:=.seq ([]:List Value).toArray}).get? s.heap.objs.size=some {cls:=.type "list",data:=.seq #[] 0}:=Z6 _ rfl;have Z:=K.there _ hok;have B:∀s',(∃h' tk acc c,s'={s with heap:=h',toks:=tk}/\(∀b o,s.heap.get? b=some o->h'.get? b=some o)/\h'.get? s.heap.objs.size=some {cls:=.type "list",dict:=none,data:=.seq acc c,slots:=#[]}/\ItemsOf P acc n)->wpAny 1.13 A (match aac s.heap.objs.size with
   |aac a=>do
    match(←load a).data with
     |Data.seq xs _=>pure xs.toList
     |_=>aeK "internal:collect"
   |_=>aeK "internal:collect") Q E s':=by
  rintro s' ⟨h',tk,acc,c,rfl,I,V,Y⟩;show wpAny _ A (load s.heap.objs.size >>=_) _ _ _;refine gD (ae_ V ?_);exact ZD (U h' tk acc I Y)
 refine aaY (kdl_extend (A:=A) (R:=λr s'=>r= .ok (.ret (.ref s.heap.objs.size))/\∃h' tk acc c,s'={s with heap:=h',toks:=tk}/\(∀b o,s.heap.get? b=some o->h'.get? b=some o)/\h'.get? s.heap.objs.size=some {cls:=.type "list",dict:=none,data:=.seq acc c,slots:=#[]}/\ItemsOf P acc n)
  (s:={s with heap:=s.heap.push {cls:=.type "list",data:=.seq ([]:List Value).toArray}}) K z (K.keep _ _ hok λb _ o e=>Zz _ e) s.heap.objs.size (abC Z.1) (abC Z.2) _ 0 hS (λh' tk acc c I V Y=>⟨rfl,h',tk,acc,c,rfl,λb o e=>I b o (Z5 (ZP e)) (Zz _ e),V,Y⟩) hn) (λD s' h=>?_) (λe s' h=>?_)
 .cases D with
  |done f=>
   obtain⟨e,h⟩:=h;cases e;exact B _ h
  |again J=>exact⟨h.1,acy h.2 λr q O=>by obtain⟨rfl,h⟩:=O;exact B _ h⟩
 .exact absurd h.1 (by simp)
end PySem
namespace Jb
open PySem PySem.Spec PyProof.Rows L2
def Kc(A:aaC):List V->Hp->VK->Prop:=λxs H Q=>∃(a:Addr)(kvs:List (Key×V))(ys:List Str),xs=[.ref a]/\Rd H a (.dK kvs)/\kvs.map (·.1)=ys.map ZS/\ys.length<64/\A.units+2<cLine/\
 ∀p:List Nat,abh p (aaz (ys.map V.str).length)->acQ (λi j=>ltS ((ys.map λy=>[y]).getD j []) ((ys.map λy=>[y]).getD i [])=false) p->∀l,H l=none->Q (.ref l) (upd H l (.lst (p.map λi=>(ys.map V.str).getD i .non)))
theorem uH:∀{xs:List V}{us:List Value},us.length=xs.length->(∀(i:Nat)(x:V)(u:Value),xs[i]? =some x->us[i]? =some u->RelV x u)->Vals xs us
 |[],[],_,_=>.nil
 |[],_::_,h,_=>by simp at h
 |_::_,[],h,_=>by simp at h
 |x::xs,u::us,h,hr=>.cons (hr 0 x u rfl rfl) (uH (by simpa using h) λi y v h1 h2=>hr (i+1) y v (by simpa using h1) (by simpa using h2))
variable{X:Cx}
theorem zZ(Z:X.calm=true):fZ X (.builtin "sorted") (Kc X.A):=by
 intro pins s σ H xs us Q I r h;obtain⟨a,kvs,ys,rfl,hq,V,O,J,q⟩:=h;obtain⟨u,rfl,B⟩:=vals1 r;cases B;obtain⟨hz,hd,vs,rel,D⟩:=rC I.hok hq;obtain⟨ep,ob,es,g,x,d,r1,r2,r3⟩:=D.dictAt;have a2:s.heap.DictAt (bG X.prog X.w) a vs ep:=⟨ob,es,g,x,d,r1,r2,r3⟩;have a4:kvs.length=vs.length:=rel.length;have a3:kvs.length=ys.length:=by have:=congrArg abP V;simpa using this
 refine yq λE' Q' U=>PySem.collect_src (age (ep:=ep) (kvs:=vs) hd) (I.ok.hd Z) a2 1.11 λh' tk acc hk Y=>?_;refine U _ _ (DK (ks:=ys.map λy=>[y]) (I.kept (t':=tk) hk) (uH ?_ λi x u h1 h2=>?_) (by simpa using O) J ⟨by simp,.inl λi k e=>?_⟩ q)
 rotate_left 2
 .rw[List.getElem?_map]at e⊢
  cases hi:ys[i]? with
  |none=>rw[hi]at e;cases e
  |some y=>rw[hi]at e;cases e;exact⟨y,rfl,rfl⟩
 .rw[abb,ZL,Y.1];omega
 .rw[List.getElem?_map]at h1
  cases hi:ys[i]? with
  |none=>rw[hi]at h1;cases h1
  |some y=>
   rw[hi]at h1;cases h1;obtain⟨k,v,e1,e2⟩:=Y.2 i u (by rw[←abv];exact h2);have a0:(kvs.map (·.1))[i]? =some (ZS y):=by rw[V,List.getElem?_map,hi];rfl
   rw[List.getElem?_map]at a0;cases a1:kvs[i]? with
   |none=>rw[a1]at a0;cases a0
   |some F=>
    rw[a1]at a0;have ek:F.1=ZS y:=aaD a0;have:=(oY rel a1 e1).1;obtain rfl:k=ZS y:=by rw[←ek];exact this.symm
    have h3:uf (ZS y) u=true:=e2;rcases du h3 with⟨j,t,z,_⟩|⟨x',t,z,rfl⟩
    .cases z
    .cases z;exact⟨t,rfl⟩
def mkS:Mk->Mk
 |.frz=>.scr
 |m=>m
mutual
noncomputable def toS:D->D
 |.tup ds=>.tup (JM ds)
 |.lst m ds=>.lst m (JM ds)
 |.dct m ks ds=>.dct (mkS m) ks (JM ds)
 |.ins m c fs ds=>.ins m c fs (JM ds)
 |d=>d
noncomputable def JM:List D->List D
 |[]=>[]
 |d::r=>toS d::JM r
end
section
variable{prog:Program}{w:World}{K:Type}[DecidableEq K]{knd:KeyKind prog w K}{A:Around}{E:Value->Shared->Prop}{s:Shared}
theorem Iz{d:Addr}{kvs:List (K×Value)}{k:K}{a2 v:Value}{Q:Value->Pr->Prop}(O:knd.is k a2=true)(J:s.heap.DictOf knd d kvs)
  (h1:∀x,abY kvs k=some x->Q x {s with toks:=s.toks+1})
  (h2:abY kvs k=none->∀h',h'.DictOf knd d (aeV kvs k v)->ab9 d s.heap h'->Q v {s with heap:=h',toks:=s.toks+1})
  (hsz:kvs.length<=ZM) :
  wpAny 1.13 A (ae4 d a2 v) Q E s:=by
 have a6:=J.mapOf;obtain⟨o,es,ep,B,Z,hd,I,F,hn⟩:=J;have e1:=F.length;have e2:es.toList.length=es.size:=by simp
 have a4:es.size<=ZM:=by omega
 have D:∀x,findBy knd.is es x=abY kvs x:=λx=>by
  rw[←F.find x];obtain⟨l⟩:=es;simp[findBy]
 unfold ae4
 try with_reducible refine aaW ?_
 refine gD (knd.pyHash O ?_);refine gD (wpAny_dictFind_of (s:={s with toks:=s.toks+1}) O B hd I ?_);have a1:(es.findIdx? λe=>knd.is k e.key)=kvs.findIdx? λkv=>decide (kv.1=k):=by
  rw[←F.findIdx k];obtain⟨l⟩:=es;simp
 cases hi:es.findIdx? λe=>knd.is k e.key with
 |some i=>
  have z:abY kvs k=(es[i]?).map (·.val):=by rw[←D k,findBy_of_findIdx?,hi]
  refine gD (wpAny_dictEntries (s:={s with toks:=s.toks+1}) B hd ?_);cases V:es[i]? with
  |none=>
   exfalso;have:=Array.findIdx?_eq_some_iff_findIdx_eq.mp hi;have a5:i<es.size:=this.1;rw[Array.getElem?_eq_getElem a5]at V;exact nomatch V
  |some e=>
   rw[V]at z;exact gD (acI (ZD (h1 e.val z)))
 |none=>
  have z:abY kvs k=none:=by rw[←D k,findBy_of_findIdx?,hi]
  have a0:k∉kvs.map (·.1):=not_mem_of_findIdx_none (a1▸hi);have q:¬(kvs.any λkv=>decide (kv.1=k))=true:=by
   rw[acM];rintro⟨kv,a3,V⟩;exact a0 (ZG.mpr ⟨kv,a3,acw V⟩)
  refine gD (acI (gD (wpAny_updateDictKeys (hz:=a4) (s:={s with toks:=s.toks+1}) B hd (ZD (h2 z _ ⟨_,_,ep+1,acA _ B (Obj.isFreed_of_dict (afk hd _)),
   Z.mapDictKeys _,afk hd _,I.push O _,?_,?_⟩ (Heap.SameBut.update ..))))))
  .rw[aeV,Z1 q]
   have:=F.append O (knd.hash k) v;obtain⟨l⟩:=es;simpa using this
  .rw[aeV,Z1 q,ZW,ZZ]
   refine⟨hn,by simp,?_⟩;intro a Y b U;simp![ZF,aao,Z7]at U;subst U;exact λe=>a0 (e▸Y)
end
def Yl:V->List V->Hp->VK->Prop:=λx vs H Q=>∃a kvs k y,x= .ref a/\vs=[kV k,y]/\H a=some (.dK kvs)/\kvs.length<ZM/\(∀v,iQ kvs k=some v->Q v H)/\(iQ kvs k=none->Q y (upd H a (.dK (putK kvs k y))))
theorem Vw:MtM X "dict.setdefault" Yl:=by
 intro pins s σ H x vs v us Q I rx rv h;obtain⟨a,kvs,k,y,rfl,rfl,hH,O,q1,q2⟩:=h;cases rx;obtain⟨u,r,rfl,ru,rr⟩:=rv.two;obtain⟨z,hd,ps,rel,D⟩:=uX I.hok hH;refine aej F.slot_dict_setdefault D.typeIs F.entry_dict_setdefault (F.args_dict_setdefault_3 _ _ _) (S:=λA R s'=>A=X.A/\s'=s/\∀v s2,EP X pins σ Q v s2->R (.ok (.ret v)) s2) ?_ ⟨rfl,rfl,λv s2 q=>q⟩;rintro A R s' ⟨rfl,rfl,kk⟩;unfold Builtin.«dict.setdefault»;refine gD ?_;unfold Builtin.Dict.keyAndDefault;refine gD (ae0 D.typeIs ?_);show wpAny _ _ (pure (a,u,some r)) _ _ s';refine ZD ?_;show wpAny _ _ (if(a==abM)=true then _ else(ae4 a u r >>=_)) _ _ s';rw[Z1 (by rw[hd];exact aat)];have hz:ps.length<=ZM:=by rw[←rel.length];exact z
 refine gD (Iz (hsz:=hz) (m_ ru) D (λx J=>ZD ?_) λhn h' a0 B=>ZD ?_)
 .refine kk _ _ ?_
  cases Z:iQ kvs k with
  |none=>
   have:=mJ.none_of (o:=abY ps k) (by rw[←Z];exact rel.val k);rw[J]at this;cases this
  |some v0=>
   obtain⟨w',hw,Y⟩:=mJ.some_of (v:=v0) (o:=abY ps k) (by rw[←Z];exact rel.val k);rw[J]at hw;cases hw;exact⟨v0,H,I.tok _,Y,q1 v0 Z⟩
 .refine kk _ _ ?_
  have Z:iQ kvs k=none:=by
   cases Z:iQ kvs k with
   |none=>rfl
   |some v0=>
    obtain⟨w',hw,Y⟩:=mJ.some_of (v:=v0) (o:=abY ps k) (by rw[←Z];exact rel.val k);rw[hn]at hw;cases hw
  have V:∃q,h'.get? a=some q:=let⟨q,_,_,hq,_⟩:=a0;⟨q,hq⟩;have U:(putK kvs k y).length<=ZM:=by have:=gM kvs k y;omega
  exact⟨y,_,mY I (by rw[hH];exact aaJ) B V (tL U hd (rel.put k rr) a0),rr,q2 Z⟩
def Fd(i:Nat)(fa:En->Option (List D))(ρ:En):Option (Nat×En):=match ρ[i]? with
 |some (some (.dct .own ks ds))=>match fa ρ with
  |some [kd,.lst .own []]=>match cW kd with
   |some k=>if ks.length<1000000 then(match dw ks k with
    |some j=>some (j,ρ)
    |none=>some (ks.length,ρ.set i (some (.dct .own (ks++[k]) (ds++[.lst .own []])))))else none
   |none=>none
  |_=>none
 |_=>none
def Jk(i:Nat)(fa Z:En->Option (List D)):En->Option Fl:=λρ=>(Fd i fa ρ).bind λp=>(Z p.2).bind λes=>(upS aR i [p.1] es p.2).map λq=>.nx q.2
variable{ks:List Key}
theorem Bp{k:Key}(h:dw ks k=none):dw (ks++[k]) k=some ks.length:=by
 unfold dw at *
 rw[List.findIdx?_append,h];simp
variable{G:Gc}{P:Nat->Bool}{fa:En->Option (List D)}
theorem RQ{t1 t2:TA}{fx:En->Option (List D)}(h1:RfA G ob t1 fa)(h2:RfA G ob t2 fx):RfS G ob P (Ht (tBM G.K "list" qG (tBM G.K "dict" Yl (Di i) t1) t2)) (Jk i fa fx):=λρ r e σ H S Fr s E q=>by
 unfold Jk at e;cases e1:Fd i fa ρ with
 |none=>simp[e1]at e
 |some p=>
  obtain⟨j,ρ1⟩:=p;cases e2:fx ρ1 with
  |none=>simp[e1,e2]at e
  |some es=>
   cases e3:upS aR i [j] es ρ1 with
   |none=>simp[e1,e2,e3]at e
   |some p=>
    obtain⟨res,d3⟩:=p;have:Fl.nx d3=r:=by simpa[e1,e2,e3]using e
    subst this;obtain⟨d0,d,d',g1,g2,c1,c2,g3,rfl⟩:=sr e3;have d1:∀(v:V)(v0:V)(H1:Hp)(S1:Ad)(M:List Addr),Sta G H1 ob ρ1 σ S1 Fr->Mv P H H1 σ σ S S1 []->σ[i]? =some (some v0)->Foc G H1 (wn ob S1 Fr) d0 v0 (S1 i) [j] d v M->
      tyV G.K "list" v H1/\t2 σ H1 (λxs H2=>qG v xs H2 λx H'=>E.nx σ H'):=λv v0 H1 S1 M a3 m1 a0 a8=>by
     refine⟨?_,?_⟩
     .unfold aR at g3
      split at g3
      .have:=a8.r
       rw[Rep]at this;obtain⟨a,xs,M2,rfl,_,B⟩:=this;exact .inl ⟨rfl,_,SqL.of B.1⟩
      .cases g3
     .refine h2 ρ1 es e2 σ H1 _ a3.rel a3.wok _ λxs H2 N s2 re fr nd=>?_
      have d6:Sta G H2 ob ρ1 σ S1 (plus N Fr):=a3.grow s2 λa z=>z.elim (λz=>.inr ⟨fr a z,re.dom a z⟩) .inl;have up:Up H1 H2 (wn ob S1 Fr) (wn ob S1 (plus N Fr)):=Up.add s2 fr;have c6:=a8.mono (.inr up) up.evo λc _ u J=>s2 c u J;have hF:∀a∈N,¬Fr a:=λa Y z=>by
       obtain⟨o,ho,_⟩:=a3.fdm a z;rw[fr a Y]at ho;cases ho
      refine kj wV d6 g1 a0 g2 c6 re nd hF c1 c2 g3 λx H' R S' q1 q2 q3 q4 q5 q6 q7 q8=>q σ H' S' (q1.lessF λa z=>.inr z) (m1.trans ⟨λb u U n _=>q8 b u (s2 b u U) λz=>n ⟨i,z⟩,λk a z=>?_,.refl⟩);by_cases I:k=i
      .subst I
       rcases q6 a z with y|y|y
       .exact .inl ⟨k,y⟩
       .exact .inr (.inr (fr a y))
       .exact .inr (.inr (s2.none' y))
      .rw[q5 k I]at z;exact .inl ⟨k,z⟩
    unfold Fd at e1;split at e1
    .rename_i ks ds hi
     split at e1
     .rename_i kd hfa
      split at e1
      .rename_i k I
       split at e1
       .rename_i hl
        obtain⟨v0,a0,c9,e8⟩:=s.sl i _ hi;refine⟨v0,a0,?_,?_⟩
        .have:=c9
         rw[Rep]at this;obtain⟨a,kvs,M0,rfl,_,O,Y,_⟩:=this;exact .inr (.inr (.inl ⟨rfl,.inl ⟨_,Y⟩⟩))
        .refine h1 ρ _ hfa σ H _ s.rel s.wok _ λxs H1 N F re fr nd=>?_
         have a3:Sta G H1 ob ρ σ S (plus N Fr):=s.grow F λa z=>z.elim (λz=>.inr ⟨fr a z,re.dom a z⟩) .inl;have a1:=a3.sl i _ hi;obtain⟨v1,d2,a1,_⟩:=a1;rw[a0]at d2;cases d2;have a7:=a1;rw[Rep]at a7;obtain⟨a,kvs,M0,rfl,⟨a6,e6⟩,O,Y,e0⟩:=a7;obtain⟨x1,zs,N1,N2,rfl,rfl,d4,hz⟩:=re.inv;obtain⟨x2,zs,N3,N4,rfl,rfl,e4,hz⟩:=hz.inv;obtain⟨rfl,rfl⟩:=hz.inv0;have c7:=iR d4 I;subst c7;have b8:kvs.length<ZM:=Ey (by rw[←a6]at hl;simpa using hl);have hF:∀a∈N1++(N3++[]),¬Fr a:=λa Y z=>by
          obtain⟨o,ho,_⟩:=s.fdm a z;rw[fr a Y]at ho;cases ho
         split at e1
         .rename_i j' hj
          cases e1;rw[hi]at g1;cases g1;have c0:Sta G H1 ob ρ σ S Fr:=a3.lessF λa z=>.inr z;obtain⟨v3,b1,b3,b6⟩:=c0.sl i _ hi;rw[a0]at b1;cases b1;have b4:ds[j]? =some d:=by simpa[cV,kids]using g2
          obtain⟨a2,b9,x,M,b2,a9,c8,b7,a8⟩:=Foc.dct b3 b6 b4;cases b2;rw[Y]at a9;cases a9;have a4:=iU (kvs:=kvs) (k:=k) (j:=j) (by rw[a6];exact hj);rw[b7]at a4;refine⟨a,kvs,k,x2,rfl,rfl,Y,b8,λv Z=>?_,λZ=>by rw[a4]at Z;cases Z⟩;rw[a4]at Z;cases Z;exact d1 x _ H1 S M c0 ⟨λb u U _ _=>F b u U,λk a z=>.inl ⟨k,z⟩,.refl⟩ a0 a8
         .rename_i hj
          cases e1;have a4:iQ kvs k=none:=tM (by rw[a6];exact hj);refine⟨a,kvs,k,x2,rfl,rfl,Y,b8,(λv Z=>by rw[a4]at Z;cases Z),λ_=>?_⟩;have d9:fQ (.dct .own ks ds) [kd,.lst .own []]=some (.dct .own (ks++[k]) (ds++[.lst .own []]),.non):=by
           simp![fQ,I,Hq,hl,aab,fX,hj]
          have d5:=kj (ob:=ob) (p:=[]) (d0:=.dct .own ks ds) (Q:=λ_ H'=>∀x,(∃kv,H' a=some (.dK kv)/\iQ kv k=some x)->tyV G.K "list" x H'/\t2 σ H' (λxs H2=>qG x xs H2 λx H'=>E.nx σ H')) zK a3 hi a0 rfl (Foc.nil a1) re nd hF (by cases kd<;>simp[cW]at I<;>rfl) (by cases kd<;>simp[cW]at I<;>rfl) d9 (λx H' R S' q1 q2 q3 q4 q5 q6 q7 q8=>?_)
          .obtain⟨i1,v1,he,h5⟩:=d5
           cases he;have c5:iQ (putK kvs k x2) k=some x2:=by
            rw[lW (by rw[a6];exact hj)];have hn:dw ((kvs++[(k,x2)]).map (·.1)) k=some ks.length:=by
             rw[ZW,a6];exact Bp hj
            rw[iU hn,ZW,aaB (by rw[←a6];simp)];rw[←a6];simp
           rcases h5 with⟨b5,ys,n5,y5,d7,e7,c4,_⟩|⟨a5,H5,e5,g5,h5⟩
           .cases d7
            rw[Y]at c4;cases c4
           .cases e5
            rcases g5 with⟨d8,k5,f1,f2,f3,f4⟩|⟨d8,k5,b5,f1,_⟩
            .rw[Y]at f1
             cases f1;have:k5=k:=by cases k5<;>cases k<;>cases f2<;>rfl
             subst this;subst f4;exact h5 x2 ⟨_,aZ,c5⟩
            .rw[Y]at f1;cases f1
          .rintro y ⟨kv,hkv,hy⟩
           rw[abN (List.getElem?_eq_some_iff.mp hi).1]at g1;cases g1;have c3:Sta G H' ob (ρ.set i (some (.dct .own (ks++[k]) (ds++[.lst .own []])))) σ S' Fr:=q1.lessF λa z=>.inr z;obtain⟨v3,b1,b3,b6⟩:=c3.sl i _ (abN (List.getElem?_eq_some_iff.mp hi).1);rw[a0]at b1;cases b1;have b4:(ds++[.lst .own []])[ks.length]? =some d:=by simpa[cV,kids]using g2
           obtain⟨a2,b9,x',M,b2,a9,c8,b7,a8⟩:=Foc.dct b3 b6 b4;cases b2;rw[hkv]at a9;cases a9;have b0:=iU (kvs:=kv) (k:=k) (j:=ks.length) (by rw[c8.1];exact Bp hj);rw[b7,hy]at b0;cases b0;refine d1 y _ H' S' M c3 ⟨λb u U n _=>q8 b u (F b u U) λz=>n ⟨i,z⟩,λk a z=>?_,.refl⟩ a0 a8;by_cases I:k=i
           .subst I
            rcases q6 a z with y|y|y
            .exact .inl ⟨k,y⟩
            .exact .inr (.inr (fr a y))
            .exact .inr (.inr (F.none' y))
           .rw[q5 k I]at z;exact .inl ⟨k,z⟩
       .cases e1
      .cases e1
     .cases e1
    .cases e1
variable{X:ι->Cx}
theorem Pa(i:Nat){V I B a0 O:Pos}{k l x:Expr}{fx:En->Option (List D)}(Y:PVA X G ob [k,l] fa)(J:PVA X G ob [x] fx)
  (a4:∀c,(X c).N[i]? =some y:=by intro _;rfl) (Z:∀c,Vis (X c).env.scope y:=by intro _;first|exact abf rfl|exact aaQ (abf rfl)|exact aaQ (aaQ rfl)) (hd:(y==("__debug__":Str))=false:=by decide) (z:(y==("__classdict__":Str))=false:=by decide)
  (a7:∀c,abS (.Call (.Attribute (.Call (.Attribute (.Name y V) "setdefault" I) [k,l] [] B) "append" a0) [x] [] O) none pos.line (X c).env=pure false:=by intro _;rfl)
  (U:∀c,aaR (.Name y V) "setdefault" (X c).env (eval (.Name y V) (X c).env)=eval (.Name y V) (X c).env:=by intro _;rfl)
  (q:∀c,aaR (.Call (.Attribute (.Name y V) "setdefault" I) [k,l] [] B) "append" (X c).env (eval (.Call (.Attribute (.Name y V) "setdefault" I) [k,l] [] B) (X c).env)=eval (.Call (.Attribute (.Name y V) "setdefault" I) [k,l] [] B) (X c).env:=by intro _;rfl)
  (a9:∀c,((aaH B (ZK [k,l] (X c).env)).all (λx=>!x.1)&&(ab_ B (abo [] (X c).env)).all (λx=>x.1.isSome)&&decide ([k,l].length+([]:List acB).length+(if([]:List acB).isEmpty then 0 else 1)<30))=true:=by intro _;rfl)
  (b3:∀c,((aaH O (ZK [x] (X c).env)).all (λx=>!x.1)&&(ab_ O (abo [] (X c).env)).all (λx=>x.1.isSome)&&decide ([x].length+([]:List acB).length+(if([]:List acB).isEmpty then 0 else 1)<30))=true:=by intro _;rfl)
  (b4:(I.endLine==B.line)=true:=by rfl) (a3:(a0.endLine==O.line)=true:=by rfl)
  (a5:∀c,ZK [k,l] (X c).env=(false,eval k (X c).env)::ZK [l] (X c).env:=by intro _;rfl) (a8:∀c,ZK [x] (X c).env=(false,eval x (X c).env)::ZK [] (X c).env:=by intro _;rfl)
  (a6:∀c,(aaH B (ZK [l] (X c).env)).any (·.1)=false:=by intro _;rfl) (b0:∀c,(aaH O (ZK [] (X c).env)).any (·.1)=false:=by intro _;rfl) (hK:∀c,(X c).K=G.K:=by intro _;rfl) :
  PVS X G ob P (.Expr (.Call (.Attribute (.Call (.Attribute (.Name y V) "setdefault" I) [k,l] [] B) "append" a0) [x] [] O) pos) (Jk i fa fx):=
 let⟨_,a1,a2⟩:=Y.ex;let⟨_,b1,b2⟩:=J.ex
 ⟨_,λc=>(by rw[←hK c];exact uT (Bg aag aar aas yo (Bg aey PySem.F.slot_dict_setdefault PySem.F.type_dict_setdefault Vw (Nf (a4 c) (Z c) hd z) (a1 c) (U c) (a9 c) b4 (a5 c) (a6 c)) (b1 c) (q c) (b3 c) a3 (a8 c) (b0 c)) (a7 c)),RQ a2 b2⟩
def eY(fs:List Str)(f:Str):Option Nat:=fs.findIdx? λx=>decide (x=f)
theorem my(f:Str):∀kvs:List (Str×V),kvs.lookup f=(eY (kvs.map (·.1)) f).bind λj=>(kvs.map (·.2))[j]?
 |[]=>rfl
 |(k,v)::r=>by
  have B:=my f r;by_cases h:k=f
  .subst h
   simp[eY,abw]
  .have h':(f==k)=false:=aba.mpr (aay h)
   simp![acp,h',eY,ZF,abw,aaa h]at B⊢;rw[B];cases List.findIdx? (λx=>decide (x=f)) (Z9 (λx=>x.1) r)<;>simp
structure Kla(K:PySem.W.Frag)(mg:Str->Option Value)(c:Str)(fl:List Str):Prop where
 ex:∃C,mg c=some (.ref C)/\Cls K C/\∀f∈fl,kh K C f
variable{c f:Str}
theorem Kla.at{K:ZC}(k:Kla K mg c fl)(h:mg c=some (.ref C))(D:fl.contains f=true):Cls K C/\kh K C f:=by
 obtain⟨B,h1,h2,Z⟩:=k.ex;rw[h]at h1;cases h1;exact⟨h2,Z f (by simpa using D)⟩
def ir(c f:Str):D->Option D
 |.ins m J fs ds=>if J=c/\m≠.scr then(eY fs f).bind λj=>ds[j]? else none
 |_=>none
def qz(i:Nat)(pf:En->Option (List Nat))(c f:Str):En->Option (List Nat):=λρ=>(pf ρ).bind λp=>match ρ[i]? with
 |some (some d0)=>(cV p d0).bind λd=>match d with
  |.ins .own c' fs ds=>if c'=c then(eY fs f).bind λj=>if j<ds.length then some (p++[j])else none else none
  |_=>none
 |_=>none
theorem Sy(k:Kla G.K G.mg c fl)(D:fl.contains f=true):UnV G (λx H Q=>∃a C dx fs v,x= .ref a/\H a=some (.ins C dx fs)/\Cls G.K C/\kh G.K C f/\fs.lookup f=some v/\Q v H) (ir c f):=λdx d e x H W I r nd hn w Q q=>by
 unfold ir at e;split at e
 .rename_i m c' fs ds
  split at e
  .rename_i hc
   obtain⟨rfl,J⟩:=hc;rw[Rep]at r;obtain⟨a,C,dx,kvs,M,rfl,hC,rfl,O,B⟩:=r;cases F:eY (kvs.map (·.1)) f with
   |none=>simp[F]at e
   |some j=>
    have Y:ds[j]? =some d:=by simpa[F]using e
    obtain⟨z,U,Z,V,h5⟩:=O.get Y;exact⟨a,C,dx,kvs,z,rfl,B.at J,(k.at hC D).1,(k.at hC D).2,by rw[my,F];exact Z,pI (Ly:=[]) V (h5.trans B.sub) (by simpa using nd) (by simpa using hn) (by simpa using q)⟩
  .cases e
 .cases e
variable{fe:En->Option D}
theorem gB(k:Kla G.K G.mg c fl)(V:PV X G ob e fe)(q:fl.contains f=true:=by rfl)(U:∀i,aaR e f (X i).env (eval e (X i).env)=eval e (X i).env:=by intro _;rfl)(F:∀i,(X i).K=G.K:=by intro _;rfl):PV X G ob (.Attribute e f pos) (e1 (ir c f) fe):=let⟨t,a1,a2⟩:=V.ex;⟨_,λi=>(by have:=Mg (pos:=pos) (a1 i) (U i);rw[F i]at this;exact this),TQ (Sy k q) a2⟩
variable{to:TE}{pf:En->Option (List Nat)}
theorem Ph(k:Kla G.K G.mg c fl)(D:fl.contains f=true)(B:RfP G ob to i0 pf):RfP G ob (Xc G.K to f) i0 (qz i0 pf c f):=λρ p e σ H S Fr s=>by
 unfold qz at e;cases h1:pf ρ with
 |none=>simp[h1]at e
 |some p0=>
  rw[h1]at e;simp![Hq]at e;split at e
  .rename_i d0 h3
   cases V:cV p0 d0 with
   |none=>simp[V]at e
   |some d=>
    rw[V]at e;simp![Hq]at e;split at e
    .rename_i c' fs ds
     split at e
     .rename_i hc
      subst hc;cases hj:eY fs f with
      |none=>simp[hj]at e
      |some j=>
       by_cases h6:j<ds.length
       .obtain rfl:p0++[j]=p:=by simpa[hj,h6]using e
        obtain⟨a1,d',O,g2,Z⟩:=B ρ p0 h1 σ H S Fr s;rw[h3]at O;cases O;rw[V]at g2;cases g2;have z:clean (.ins .own c' fs ds)=true:=o4 (let⟨_,_,_,h⟩:=s.sl i0 d0 h3;h) V;have a0:ds[j]? =some ds[j]:=Z0 h6;refine⟨d0,ds[j],h3,by rw[B_ p0 j d0 V];exact a0,λQ q=>Z _ λv v0 H1 M F U I=>?_⟩;obtain⟨a,C,dx,kvs,x,M',rfl,hC,Y,rfl,J,fo⟩:=Foc.ins I.r z a0;exact⟨a,C,dx,kvs,x,rfl,Y,(k.at hC D).1,(k.at hC D).2,by rw[my,hj];exact J,q x v0 H1 M' F U (I.trans fo V (by show ds[j]?≠none;rw[a0];simp))⟩
       .simp[hj,h6]at e
     .cases e
    .cases e
  .cases e
variable{o:Expr}
theorem pC{I:Nat}(k:Kla G.K G.mg c fl)(B:PVP X G ob o I pf)(D:fl.contains f=true:=by rfl)(U:∀i,aaR o f (X i).env (eval o (X i).env)=eval o (X i).env:=by intro _;rfl)(F:∀i,(X i).K=G.K:=by intro _;rfl):PVP X G ob (.Attribute o f pos) I (qz I pf c f):=let⟨t,a1,a2⟩:=B.ex;⟨_,λi=>(by have:=Mg (pos:=pos) (a1 i) (U i);rw[F i]at this;exact this),Ph k D a2⟩
theorem Dv(f:Str)(v:V):∀kvs:List (Str×V),(jW f v kvs).map (·.1)=(match eY (kvs.map (·.1)) f with|some _=>kvs.map (·.1)|none=>kvs.map (·.1)++[f])/\(jW f v kvs).map (·.2)=pY (eY (kvs.map (·.1)) f) (kvs.map (·.2)) v
 |[]=>⟨rfl,rfl⟩
 |(k,y)::r=>by
  obtain⟨q,z⟩:=Dv f v r;by_cases h:k=f
  .subst h
   simp[jW,eY,abw,pY]
  .simp![eY,ZF,abw,aaa h,jW,Z1 h]at q z⊢
   rw[q,z];cases List.findIdx? (λx=>decide (x=f)) (Z9 (λx=>x.1) r)<;>simp[pY]
def yj(c f:Str):D->List D->Option (D×D)
 |.ins .own c' fs ds,[v]=>if c'=c/\fs.length<1000 then some (.ins .own c (match eY fs f with|some _=>fs|none=>fs++[f]) (pY (eY fs f) ds v),.non)else none
 |_,_=>none
def Xw(K:ZC)(ta:TE)(f:Str):TG:=λy σ H Q=>ta σ H λx H2=>∃a C dx fs,x= .ref a/\H2 a=some (.ins C dx fs)/\Cls K C/\kh K C f/\fs.length<1000/\Q σ (upd H2 a (.ins C dx (jW f y fs)))
theorem Qa{fs:List Str}(h:eY fs f=some j):j<fs.length:=(aan.mp h).1
theorem Qe(k:Kla G.K G.mg c fl)(D:fl.contains f=true):MuV G (λo xs H Q=>∃y a C dx fs,xs=[y]/\o= .ref a/\H a=some (.ins C dx fs)/\Cls G.K C/\kh G.K C f/\fs.length<1000/\Q .non (upd H a (.ins C dx (jW f y fs)))) (yj c f):=λd es d' res h v xs H W M N r re nd hM Z c1 c2 Q q=>by
 unfold yj at h;split at h
 .rename_i c' fs ds e
  split at h
  .rename_i hcl
   obtain⟨rfl,a0⟩:=hcl;cases h;rw[Rep]at r;obtain⟨a,C,dx,kvs,M0,rfl,F,rfl,O,Y,rfl⟩:=r;obtain⟨x,zs,N1,N2,rfl,rfl,J,hz⟩:=re.inv;obtain⟨rfl,rfl⟩:=hz.inv0;rw[List.append_nil]at nd re;have B:az ds=true/\aA ds=true:=by simp[clean,aC,aB]at Z;exact Z
   simp![az,aA,aal]at c1 c2;obtain⟨M',n1,V,n3,n4,n5⟩:=Af (o:=.ins C dx (jW f x kvs)) (j:=eY (kvs.map (·.1)) f) O J nd B.1 B.2 c1.1 c2.1 λi hi=>by rw[O.length];simpa using Qa hi
   obtain⟨p1,p2⟩:=Dv f x kvs;refine⟨x,a,C,dx,kvs,rfl,rfl,Y,(k.at F D).1,(k.at F D).2,by simpa using a0,q .non _ (a::M') [] (λb u U n=>by rw[aQ (show b≠a from λz=>n (by rw[z];simp))];exact U) (λW' I=>⟨?_,mH⟩) (by simpa using n1) (λb U=>(V b (by simpa using U)).imp id λz=>.inl (by simpa using z)) ?_ rfl⟩
   .rw[Rep]
    exact⟨a,C,dx,_,M',rfl,F,p1,by rw[p2];exact n3 W' I,aZ,rfl⟩
   .simp[clean,aC,aB,n4,n5]
  .cases h
 .cases h
def kZ(c f:Str)(i:Nat)(pf:En->Option (List Nat)):D->En->Option En:=λd ρ=>(pf ρ).bind λp=>(upS (yj c f) i p [d] ρ).map λq=>q.2
theorem QC(k:Kla G.K G.mg c fl)(D:fl.contains f=true)(B:RfP G ob to i pf):RfG G ob P (Xw G.K to f) (kZ c f i pf):=λd ρ I e v σ H S M Fr s r nd J Q q=>by
 unfold kZ at e;cases h1:pf ρ with
 |none=>simp[h1]at e
 |some p=>
  cases Z:upS (yj c f) i p [d] ρ with
  |none=>simp[h1,Z]at e
  |some w=>
   obtain⟨res,ρ1⟩:=w;obtain rfl:ρ1=I:=by simpa[h1,Z]using e
   obtain⟨d0,dd,d',g1,g2,Y,c2,g3,rfl⟩:=sr Z;obtain⟨a4,a3,k1,k2,k3⟩:=B ρ p h1 σ H S 1.31 s;rw[g1]at k1;cases k1;rw[g2]at k2;cases k2;refine k3 _ λo v0 H1 M1 F a2 a0=>?_;have a1:Sta G H1 ob ρ σ S (plus M Fr):=s.grow F λa z=>.inl z;have V:=kj (Qe k D) a1 g1 a2 g2 a0 (.one (r.up (Up.same F))) nd J Y c2 g3 (Q:=λ_ H'=>Q σ H') λx H' R S' q1 q2 O q4 q5 q6 q7 q8=>q σ H' S' (q1.lessF λa z=>.inr z) ⟨λb u U n m=>q8 b u (F b u U) λz=>n ⟨i,z⟩,λj a z=>?_,.refl⟩
   .obtain⟨y,a,C,dx,fs,e1,k⟩:=V
    cases e1;exact⟨a,C,dx,fs,k⟩
   .by_cases hj:j=i
    .subst hj
     rcases q6 a z with y|y|y
     .exact .inl ⟨j,y⟩
     .exact .inr (.inl y)
     .exact .inr (.inr (F.none' y))
    .rw[q5 j hj]at z;exact .inl ⟨j,z⟩
theorem kO{z:En->Option (D×En)}(k:Kla G.K G.mg c fl)(Z:PVe X G ob value z)(q:PVP X G ob o i pf)(I:fl.contains f=true:=by rfl)(B:∀i,abS value (some (.Attribute o f pos')) pos.line (X i).env=pure false:=by intro _;rfl)(F:∀i,(X i).K=G.K:=by intro _;rfl):PVS X G ob P (.Assign [.Attribute o f pos'] value pos) (bW z (kZ c f i pf)):=let⟨_,b1,b2⟩:=Z.ex;let⟨_,a1,a2⟩:=q.ex;⟨_,λi=>(by have:=Wf (pos:=pos) (pos':=pos') (a1 i) (b1 i) (B i);rw[F i]at this;exact this),lQ b2 (QC k I a2)⟩
def xU:D->List D->Option (D×D)
 |.dct .own ks ds,[k]=>(cW k).bind λk=>(dw ks k).bind λj=>if j<ds.length then some (.dct .own (ks.eraseIdx j) (ds.eraseIdx j),.non)else none
 |_,_=>none
theorem yO:∀{kvs:List (Key×V)}{k:Key}{j:Nat},dw (kvs.map (·.1)) k=some j->(kvs.map (·.1)).Nodup->rN kvs k=kvs.eraseIdx j
 |[],k,j,h,_=>by simp[dw]at h
 |(k0,v)::r,k,j,h,n=>by
  rw[ZF,Z8]at n;simp![ZF,dw,abw]at h;by_cases e:k0=k
  .subst e
   obtain rfl:0=j:=by simpa using h
   simp![rN,abJ,ne_eq,not_true_eq_false,decide_false,aaj,aaN,List.eraseIdx_cons_zero];exact List.filter_eq_self.mpr λp F=>aaE λz=>n.1 (ZG.mpr ⟨p,F,z⟩)
  .rw[aaa e]at h
   simp![aaj,aaN]at h;cases h1:(r.map (·.1)).findIdx? (λx=>decide (x=k))with
   |none=>rw[h1]at h;cases h
   |some i=>
    rw[h1]at h;obtain rfl:i+1=j:=by simpa using h
    have B:=yO (kvs:=r) (k:=k) (j:=i) h1 n.2;simp![rN,abJ,ne_eq,e,not_false_eq_true,decide_true,aab,aev]at B⊢;rw[B]
theorem sU(f:α->β):∀(l:List α)(j:Nat),(l.eraseIdx j).map f=(l.map f).eraseIdx j
 |[],_=>rfl
 |_::_,0=>rfl
 |x::r,j+1=>by simp[sU f r j]
theorem Q_:MuV G (λo xs H Q=>∃y a kvs k,xs=[y]/\o= .ref a/\H a=some (.dK kvs)/\y=kV k/\(iQ kvs k).isSome=true/\Q .non (upd H a (.dK (rN kvs k)))) xU:=λd es d' res h v xs H W M N r re nd hM Z c1 c2 Q q=>by
 unfold xU at h;split at h
 .rename_i ks ds k0
  cases I:cW k0 with
  |none=>simp[I]at h
  |some k=>
   cases F:dw ks k with
   |none=>simp[I,F]at h
   |some j=>
    by_cases a0:j<ds.length
    .obtain⟨rfl,rfl⟩:D.dct .own (ks.eraseIdx j) (ds.eraseIdx j)=d'/\D.non=res:=by simpa[I,F,a0]using h
     rw[Rep]at r;obtain⟨a,kvs,M0,rfl,⟨rfl,a1⟩,O,Y,rfl⟩:=r;obtain⟨x,rfl,J⟩:=re.inv1;have B:az ds=true/\aA ds=true:=by simp[clean,aC,aB]at Z;exact Z
     obtain⟨z,M1,L,hz,rz,rl,pm⟩:=O.erase (Z0 a0);have a2:=ZZ.mp nd;have hn:=Z8.mp a2.1;have hv:=iU F;have V:∀b∈L,b∈M0:=λb U=>pm.mem_iff.mp (ZJ _ U);have e1:az (ds.eraseIdx j)=true:=bH λd hd=>j8 B.1 d (oW hd);have e2:aA (ds.eraseIdx j)=true:=bC λd hd=>jU B.2 d (oW hd);refine⟨x,a,kvs,k,rfl,rfl,Y,iR J I,by rw[hv,hz];rfl,?_⟩;rw[yO F a1];refine q .non _ (a::L) [] (λb u U n=>by rw[aQ (show b≠a from λz=>n (by rw[z];simp))];exact U) (λW' ev=>⟨?_,mH⟩) ?_ (λb U=>?_) (by simp[clean,aC,aB,e1,e2]) rfl
     .rw[Rep]
      refine⟨a,_,L,rfl,⟨sU _ _ _,?_⟩,?_,aZ,rfl⟩
      .exact(ae2 _ j).nodup a1
      .rw[sU]
       exact rl.mono ev (.inl e1) (.inl e2) λc Z u hu=>by rw[aQ (show c≠a from λz=>hn.1 (z▸V c Z))];exact hu
     .rw[List.append_nil]
      exact Z8.mpr ⟨λz=>hn.1 (V a z),(ZZ.mp (pm.nodup_iff.mpr hn.2)).1⟩
     .rw[List.append_nil]at U
      exact .inl ((ZR.mp U).elim (λz=>by simp[z]) λz=>aaf _ (V b z))
    .simp[I,F,a0]at h
 .cases h
def MF(i:Nat)(pf:En->Option (List Nat))(fk:En->Option D):En->Option Fl:=λρ=>(pf ρ).bind λp=>(fk ρ).bind λk=>(upS xU i p [k] ρ).map λq=>.nx q.2
variable{fk:En->Option D}
theorem Q5{ti:TE}(B:RfP G ob to i pf)(hi:RfE G ob ti fk):RfS G ob P (T6 to ti) (MF i pf fk):=λρ r e σ H S Fr s E q=>by
 unfold MF at e;cases h1:pf ρ with
 |none=>simp[h1]at e
 |some p=>
  cases h2:fk ρ with
  |none=>simp[h1,h2]at e
  |some k=>
   cases Z:upS xU i p [k] ρ with
   |none=>simp[h1,h2,Z]at e
   |some w=>
    obtain⟨res,ρ1⟩:=w;obtain rfl:Fl.nx ρ1=r:=by simpa[h1,h2,Z]using e
    obtain⟨d0,dd,d',g1,g2,c1,c2,g3,rfl⟩:=sr Z;obtain⟨a6,a5,k1,k2,k3⟩:=B ρ p h1 σ H S Fr s;rw[g1]at k1;cases k1;rw[g2]at k2;cases k2;refine k3 _ λo v0 H1 M1 F a4 a3=>?_;have a0:Sta G H1 ob ρ σ S Fr:=s.grow F λa z=>.inl z;refine hi ρ k h2 σ H1 _ a0.rel a0.wok _ λy H2 N O ry I nN=>?_;have a2:Sta G H2 ob ρ σ S (plus N Fr):=a0.grow O λa z=>z.elim (λz=>.inr ⟨I a z,ry.dom a z⟩) .inl;have up:Up H1 H2 (wn ob S Fr) (wn ob S (plus N Fr)):=Up.add O I;have a1:=a3.mono (.inr up) up.evo λc _ u J=>O c u J;have hF:∀a∈N,¬Fr a:=λa Y z=>by
     obtain⟨o,B,_⟩:=a0.fdm a z;rw[I a Y]at B;cases B
    obtain⟨y',a,kvs,k',e1,V⟩:=kj Q_ a2 g1 a4 g2 a1 (.one ry) nN hF c1 c2 g3 (Q:=λ_ H'=>E.nx σ H') λx H' R S' q1 q2 q3 q4 q5 q6 q7 q8=>q σ H' S' (q1.lessF λa z=>.inr z) ⟨λb u U n m=>q8 b u ((F.trans O) b u U) λz=>n ⟨i,z⟩,λj a z=>by
     by_cases hj:j=i
     .subst hj
      rcases q6 a z with y|y|y
      .exact .inl ⟨j,y⟩
      .exact .inr (.inr (F.none' (I a y)))
      .exact .inr (.inr ((F.trans O).none' y))
     .rw[q5 j hj]at z;exact .inl ⟨j,z⟩,.refl⟩
    cases e1;exact⟨a,kvs,k',V⟩
theorem Qq{k:Expr}(B:PVP X G ob o i pf)(I:PV X G ob k fk):PVS X G ob P (.Delete [.Subscript o k tpos] pos) (MF i pf fk):=let⟨_,a1,a2⟩:=B.ex;let⟨_,b1,b2⟩:=I.ex;⟨_,λc=>RW (a1 c) (b1 c),Q5 a2 b2⟩
def yd(g:Int->Int->Int):D->List D->Option (D×D)
 |.dct .own ks ds,[k,.int j]=>(gIx (.dct .own ks ds) k).bind λv=>match v with
  |.int i=>fQ (.dct .own ks ds) [k,.int (g i j)]
  |_=>none
 |_,_=>none
def wK(g:Int->Int->Int)(i:Nat)(pf:En->Option (List Nat))(fk z:En->Option D):En->Option Fl:=λρ=>(pf ρ).bind λp=>(fk ρ).bind λk=>(z ρ).bind λv=>(upS (yd g) i p [k,v] ρ).map λq=>.nx q.2
variable{d:D}
theorem JP{k v:D}{q:D×D}(h:yd g d [k,v]=some q):∃ks ds B m i j,d= .dct .own ks ds/\v= .int j/\cW k=some B/\dw ks B=some m/\ds[m]? =some (.int i)/\fQ d [k,.int (g i j)]=some q:=by
 unfold yd at h;split at h
 .rename_i ks ds k' j e
  cases e;simp![gIx]at h;cases I:cW k with
  |none=>simp[I]at h
  |some B=>
   cases J:dw ks B with
   |none=>simp[I,J]at h
   |some m=>
    simp![I,J,Hq]at h;cases Z:ds[m]? with
    |none=>simp[Z]at h
    |some z=>
     rw[Z]at h;simp![Hq]at h;split at h
     .exact⟨ks,ds,B,m,_,j,rfl,rfl,I▸rfl,J,Z,h⟩
     .cases h
 .cases h
variable{rd:V->V->Hp->VK->Prop}
theorem Lp{ti tv:TE}{fv:En->Option D}(b1:∀i j H Q,Q (.int (g i j)) H->rd (.int i) (.int j) H Q)(B:RfP G ob to i pf)(hi:RfE G ob ti fk)(hv:RfE G ob tv fv):RfS G ob P (T3 to ti tv rd) (wK g i pf fk fv):=λρ r e σ H S Fr s E q=>by
 unfold wK at e;cases h1:pf ρ with
 |none=>simp[h1]at e
 |some p=>
  cases h2:fk ρ with
  |none=>simp[h1,h2]at e
  |some k=>
   cases a2:fv ρ with
   |none=>simp[h1,h2,a2]at e
   |some v=>
    cases Z:upS (yd g) i p [k,v] ρ with
    |none=>simp[h1,h2,a2,Z]at e
    |some w=>
     obtain⟨res,ρ1⟩:=w;obtain rfl:Fl.nx ρ1=r:=by simpa[h1,h2,a2,Z]using e
     obtain⟨d0,dd,d',g1,g2,c1,c2,g3,rfl⟩:=sr Z;obtain⟨ks,ds,kk,m,a0,b0,rfl,rfl,I,hm,b2,g4⟩:=JP g3;obtain⟨b7,b5,k1,k2,k3⟩:=B ρ p h1 σ H S Fr s;rw[g1]at k1;cases k1;rw[g2]at k2;cases k2;refine k3 _ λo v0 H1 M1 F b3 a9=>?_;have a5:Sta G H1 ob ρ σ S Fr:=s.grow F λa z=>.inl z;refine hi ρ k h2 σ H1 _ a5.rel a5.wok _ λy H2 N s2 ry fr nN=>?_;have hy:=iR ry I;have hN:N=[]:=by cases k<;>simp[cW]at I<;>rw[Rep]at ry<;>exact ry.2
     subst hN hy;have a4:Sta G H2 ob ρ σ S Fr:=a5.grow s2 λa z=>.inl z;have up:Up H1 H2 (wn ob S Fr) (wn ob S Fr):=Up.same s2;have a3:=a9.mono (.inr up) up.evo λc _ u J=>s2 c u J;have rr:=a3.r;rw[Rep]at rr;obtain⟨a,kvs,M0,rfl,⟨rfl,b6⟩,O,Y,rfl⟩:=rr;obtain⟨z,Mz,z1,z2,_⟩:=O.get b2;obtain⟨rfl,rfl⟩:=bw z2;refine⟨a,.int a0,rfl,by rw[←z1,←iU hm];exact qu.k Y,?_⟩;refine hv ρ _ a2 σ H2 _ a4.rel a4.wok _ λy2 H3 N s3 a8 fr nN=>?_;obtain⟨rfl,rfl⟩:=bw a8;refine b1 _ _ _ _ ?_;have b4:Sta G H3 ob ρ σ S (plus [] Fr):=a4.grow s3 λa z=>.inl (z.resolve_left (by simp));have a7:Up H2 H3 (wn ob S Fr) (wn ob S (plus [] Fr)):=Up.add s3 (by simp);have a6:=a3.mono (.inr a7) a7.evo λc _ u J=>s3 c u J;have rk:Rep G H3 (wn ob S (plus [] Fr)) k (kV kk) []:=by cases k<;>simp[cW]at I<;>subst I<;>rw[Rep]<;>exact⟨rfl,rfl⟩
     have a1:=kj zK b4 g1 b3 g2 a6 (.cons (M:=[]) (M':=[]) rk (.one di)) aap (by simp) (by cases k<;>simp[cW]at I<;>rfl) (by cases k<;>simp[cW]at I<;>rfl) g4 (Q:=λ_ H'=>E.nx σ H') λx H' R S' q1 q2 q3 q4 q5 q6 q7 q8=>q σ H' S' (q1.lessF λa z=>.inr z) ⟨λb u U n m=>q8 b u (((F.trans s2).trans s3) b u U) λz=>n ⟨i,z⟩,λj a z=>by
      by_cases hj:j=i
      .subst hj
       rcases q6 a z with y|y|y
       .exact .inl ⟨j,y⟩
       .cases y
       .exact .inr (.inr (((F.trans s2).trans s3).none' y))
      .rw[q5 j hj]at z;exact .inl ⟨j,z⟩,.refl⟩
     obtain⟨i1,v1,e1,a1⟩:=a1;cases e1;rcases a1 with⟨pp,xs,_,_,e2,_,e3,_⟩|⟨pp,H',e2,g5,a1⟩
     .cases e2
      rw[s3 a _ Y]at e3;cases e3
     .cases e2
      exact⟨H',g5,a1⟩
theorem Br{op:aeg}{k:Expr}{z:En->Option D}(F:∀c,Sw (X c) op rd)(O:∀i j H Q,Q (.int (g i j)) H->rd (.int i) (.int j) H Q)(J:∀c,(X c).A.units+1<cLine)(B:PVP X G ob o i pf)(I:PV X G ob k fk)(Z:PV X G ob value z)
 (Y:∀U q new,augStore k U q new=(do abi [new,U,q] (aeP U q new);release [new,U,q] [];pure .next):=by intros;rfl):PVS X G ob P (.AugAssign (.Subscript o k tpos) op value pos) (wK g i pf fk z):=let⟨_,a1,a2⟩:=B.ex;let⟨_,b1,b2⟩:=I.ex;let⟨_,v1,v2⟩:=Z.ex;⟨_,λc=>PP (J c) (a1 c) (b1 c) (v1 c) (F c) Y,Lp O a2 b2 v2⟩
theorem Wq:∀(i j:Int)(H:Hp)(Q:VK),Q (.int (i+j)) H->Yr (.int i) (.int j) H Q:=λi j H Q q=>⟨i,j,rfl,rfl,q⟩
theorem Wt:∀(i j:Int)(H:Hp)(Q:VK),Q (.int (i-j)) H->Yk (.int i) (.int j) H Q:=λi j H Q q=>⟨i,j,rfl,rfl,q⟩
structure lH(P:Program)(w:World)(K:PySem.W.Frag)(mg:Str->Option Value)(base:Heap)(k:Nat)(c m:Str)(ps:List Str)(sp:Sp):Prop where
 ex:∃C f fd,mg c=some (.ref C)/\Cls K C/\Meth K C m f/\cR P w K mg base CX0 k f fd ps sp/\Binds K fd ps []
def Qj(mg:Str->Option Value)(c m:Str)(x:V)(H:Hp):Prop:=∃a C dx fs,x= .ref a/\mg c=some (.ref C)/\H a=some (.ins C dx fs)/\fs.lookup m=none
def Uk(mg:Str->Option Value)(c m:Str)(sp:Sp)(ta:TE)(t:TA):TE:=λσ H Q=>ta σ H λx H1=>Qj mg c m x H1/\t σ H1 λvs H2=>sp (x::vs) H2 Q E0
variable{X:Cx}{k:Nat}{sp:Sp}{ta:TE}{t:TA}
theorem G_{pl:Sem Bool}(M:lH X.prog X.w X.K X.mg X.base k c m ps sp)(O:gq k X.A)(V:PE X o ta)(Y:PA X (e::es) t)
  (a0:ZK (e::es) X.env=(false,eval e X.env)::ZK es X.env:=by rfl) (B:(aaH pos (ZK es X.env)).any (·.1)=false:=by rfl)
  (ht:eval (.Call (.Attribute o m apos) (e::es) [] pos) X.env=(do
   let ov ←eval o X.env
   ac7 apos.atName
   let(f,first) ←abi [ov] (acZ ov m pl)
   aer pos f first (aaH pos (ZK (e::es) X.env)) (ab_ pos (abo [] X.env))):=by rfl) :
  PE X (.Call (.Attribute o m apos) (e::es) [] pos) (Uk X.mg c m sp ta t):=by
 obtain⟨C,f,fd,hC,cl,J,F,U⟩:=M.ex;intro pins s σ H Q I h;refine ae5 (pl:=pl) (thn (V pins s σ H _ I h) λu s1 ⟨x,H1,z,rx,⟨a,C',dx,fs,ex,eC,Z,l⟩,q⟩=>?_) ht;subst ex;rw[hC]at eC;cases eC;obtain rfl:u=aac a:=rx;refine vd z Z cl J l ?_;refine adT (first:=[.ref a]) (h₀:=X.base) I.ok.mod.kin J.kp (thn (Y pos pins s1 σ H1 _ z q) λus s2 ⟨vs,H2,D,r,q2⟩=>⟨D.kIn,?_⟩) a0 B;exact EY (dvs:=[]) (us:=.ref a::us) (vs:=.ref a::vs) F O U .nil GP D (.cons rfl r) (by rw[List.append_nil];exact q2)
theorem BL{pl:Sem Bool}(M:lH X.prog X.w X.K X.mg X.base k c m ps sp)(O:gq k X.A)(V:PE X o ta)
  (Y:eval (.Call (.Attribute o m apos) [] [] pos) X.env=(do
   let ov ←eval o X.env
   ac7 apos.atName
   let(f,first) ←abi [ov] (acZ ov m pl)
   aer pos f first (aaH pos (ZK [] X.env)) (ab_ pos (abo [] X.env))):=by rfl) :
  PE X (.Call (.Attribute o m apos) [] [] pos) (Uk X.mg c m sp ta Q8):=by
 obtain⟨C,f,fd,D,cl,J,F,U⟩:=M.ex;intro pins s σ H Q I h;refine ae5 (pl:=pl) (thn (V pins s σ H _ I h) λu s1 ⟨x,H1,z,rx,⟨a,B,dx,fs,ex,eC,Z,l⟩,q⟩=>?_) Y;subst ex;rw[D]at eC;cases eC;obtain rfl:u=aac a:=rx;refine vd z Z cl J l ?_;exact PySem.W.callWith_K0 (first:=[.ref a]) z.kIn J.kp (EY (dvs:=[]) (us:=[.ref a]) (vs:=[.ref a]) F O U .nil GP z (.cons rfl .nil) q)
def vM(c m:Str):D->Bool
 |.ins k J fs _=>decide (J=c/\k≠.scr/\eY fs m=none)
 |_=>false
variable{H:Hp}{W:Wn}
theorem su(h:vM c m d=true){x:V}(r:Rep G H W d x L):Qj G.mg c m x H:=by
 cases d with
 |ins k J fs ds=>
  simp![vM,aa0]at h;obtain⟨rfl,I,q⟩:=h;rw[Rep]at r;obtain⟨a,C,dx,kvs,M,rfl,F,rfl,O,B⟩:=r;exact⟨a,C,dx,kvs,rfl,F,B.at I,by rw[my,q];rfl⟩
 |_=>simp[vM]at h
def dU(c m:Str)(F:List D->Option D)(x:D)(ds:List D):Option D:=if vM c m x=true then bz F (x::ds)else none
def qU(c m:Str)(F:List D->Option (D×List D))(j:Nat)(f:En->Option (List D×En)):En->Option (D×En):=λρ=>match ρ[j]? with
 |some (some d)=>if vM c m d=true then eIo F [j] f ρ else none
 |_=>none
theorem CV{F:List D->Option D}:MtV G (λx xs H Q=>spP G F (x::xs) H Q E0) (dU c m F):=λdx ds d e x xs H W I J rx r nd hn w Q q=>by
 unfold dU at e;split at e
 .have:=Dd (E:=E0) (dx::ds) d e (x::xs) H W (I++J) (.cons rx r) nd hn w Q q
  simpa only[List.append_nil]using this
 .cases e
variable{f:En->Option (List D×En)}
theorem Bb{oc:Nat->Bool}{F:List D->Option (D×List D)}(B:ob j=true)(O:pr 0=true)(h:CW G ob t f):j5 G ob (Uk G.mg c m (spI G oc pr F) (Di j) t) (qU c m F j f):=λρ d I e σ H S Fr s Q q=>by
 unfold qU at e;split at e
 .rename_i d0 hj
  split at e
  .rename_i hi
   obtain⟨v,Z,z,_⟩:=s.sl j d0 hj;have Y:RfM G ob (Cw (Di j) t) [j] f:=λρ ds I e σ H S Fr s us J Q q=>by
    cases us with
    |nil=>simp at J
    |cons u us=>
     rw[ZF,ZF]at J;injection J with h1 h2;obtain rfl:us=[]:=by simpa using h2
     exact⟨u,h1,h ρ ds I e σ H S Fr s _ λvs H' M S' s' r n U=>q vs H' M S' s' r n U⟩
   obtain⟨u,J,V⟩:=KC (oc:=oc) (pr:=pr) (by simp) (by simpa using B) (by simpa using O) Y (E:=E0) ρ d I e σ H S Fr s Q q;rw[Z]at J;cases J;refine⟨v,Z,su hi z,?_⟩;simpa using V
  .cases e
 .cases e
variable{X:ι->Cx}{J:En->Option D}
theorem jM{F:List D->Option D}{f:En->Option (List D)}(M:∀i,lH (X i).prog (X i).w (X i).K (X i).mg (X i).base k c m ps (spP G F))(O:∀i,gq k (X i).A)(B:PV X G ob o J)(Y:PVA X G ob (e::es) f)(q:∀i,(X i).mg=G.mg:=by intro _;rfl)
 (V:∀i,ZK (e::es) (X i).env=(false,eval e (X i).env)::ZK es (X i).env:=by intro _;rfl) (z:∀i,(aaH pos (ZK es (X i).env)).any (·.1)=false:=by intro _;rfl)
 (U:∀i,eval (.Call (.Attribute o m apos) (e::es) [] pos) (X i).env=(do
  let ov ←eval o (X i).env
  ac7 apos.atName
  let(f,first) ←abi [ov] (acZ ov m (pl i))
  aer pos f first (aaH pos (ZK (e::es) (X i).env)) (ab_ pos (abo [] (X i).env))):=by intro _;rfl) :
 PV X G ob (.Call (.Attribute o m apos) (e::es) [] pos) (eMt (dU c m F) J f):=let⟨_,a1,a2⟩:=B.ex;let⟨_,b1,b2⟩:=Y.ex;⟨_,λi=>(by rw[←q i];exact G_ (M i) (O i) (a1 i) (b1 i) (V i) (z i) (U i)),M_ (ty:=Qj G.mg c m) CV (λdx ds d e x H W I r=>su (by unfold dU at e;split at e;assumption;cases e) r) a2 b2⟩
theorem oH{F:List D->Option D}(M:∀i,lH (X i).prog (X i).w (X i).K (X i).mg (X i).base k c m ps (spP G F))(O:∀i,gq k (X i).A)(B:PV X G ob o J)(q:∀i,(X i).mg=G.mg:=by intro _;rfl)
 (Y:∀i,eval (.Call (.Attribute o m apos) [] [] pos) (X i).env=(do
  let ov ←eval o (X i).env
  ac7 apos.atName
  let(f,first) ←abi [ov] (acZ ov m (pl i))
  aer pos f first (aaH pos (ZK [] (X i).env)) (ab_ pos (abo [] (X i).env))):=by intro _;rfl) :
 PV X G ob (.Call (.Attribute o m apos) [] [] pos) (eMt (dU c m F) J aD):=let⟨_,a1,a2⟩:=B.ex;⟨_,λi=>(by rw[←q i];exact BL (M i) (O i) (a1 i) (Y i)),M_ (ty:=Qj G.mg c m) CV (λdx ds d e x H W I r=>su (by unfold dU at e;split at e;assumption;cases e) r) a2 sV⟩
variable{xpos:Pos}
theorem qR(j:Nat){oc:Nat->Bool}{F:List D->Option (D×List D)}(M:∀i,lH (X i).prog (X i).w (X i).K (X i).mg (X i).base k c m ps (spI G oc pr F))(O:∀i,gq k (X i).A)(Y:Dh X G ob (e::es) f)(B:ob j=true:=by rfl)(hp:pr 0=true:=by rfl)(U:∀i,(X i).N[j]? =some x:=by intro _;rfl)(Z:∀i,Vis (X i).env.scope x:=by intro _;first|exact abf rfl|exact aaQ (abf rfl)|exact aaQ (aaQ rfl))(hd:(x==("__debug__":Str))=false:=by decide)(z:(x==("__classdict__":Str))=false:=by decide)(q:∀i,(X i).mg=G.mg:=by intro _;rfl)
 (V:∀i,ZK (e::es) (X i).env=(false,eval e (X i).env)::ZK es (X i).env:=by intro _;rfl) (I:∀i,(aaH pos (ZK es (X i).env)).any (·.1)=false:=by intro _;rfl)
 (J:∀i,eval (.Call (.Attribute (.Name x xpos) m apos) (e::es) [] pos) (X i).env=(do
  let ov ←eval (.Name x xpos) (X i).env
  ac7 apos.atName
  let(f,first) ←abi [ov] (acZ ov m (pl i))
  aer pos f first (aaH pos (ZK (e::es) (X i).env)) (ab_ pos (abo [] (X i).env))):=by intro _;rfl) :
 PVe X G ob (.Call (.Attribute (.Name x xpos) m apos) (e::es) [] pos) (qU c m F j f):=let⟨_,b1,b2⟩:=Y.ex;⟨_,λi=>(by rw[←q i];exact G_ (M i) (O i) (pv j (U i) (Z i) hd z) (b1 i) (V i) (I i) (J i)),Bb B hp b2⟩
theorem Jj(j:Nat){oc:Nat->Bool}{F:List D->Option (D×List D)}(M:∀i,lH (X i).prog (X i).w (X i).K (X i).mg (X i).base k c m ps (spI G oc pr F))(O:∀i,gq k (X i).A)(B:ob j=true:=by rfl)(I:pr 0=true:=by rfl)(U:∀i,(X i).N[j]? =some x:=by intro _;rfl)(Z:∀i,Vis (X i).env.scope x:=by intro _;first|exact abf rfl|exact aaQ (abf rfl)|exact aaQ (aaQ rfl))(hd:(x==("__debug__":Str))=false:=by decide)(z:(x==("__classdict__":Str))=false:=by decide)(q:∀i,(X i).mg=G.mg:=by intro _;rfl)
 (Y:∀i,eval (.Call (.Attribute (.Name x xpos) m apos) [] [] pos) (X i).env=(do
  let ov ←eval (.Name x xpos) (X i).env
  ac7 apos.atName
  let(f,first) ←abi [ov] (acZ ov m (pl i))
  aer pos f first (aaH pos (ZK [] (X i).env)) (ab_ pos (abo [] (X i).env))):=by intro _;rfl) :
 PVe X G ob (.Call (.Attribute (.Name x xpos) m apos) [] [] pos) (qU c m F j (dB aD)):=⟨_,λi=>(by rw[←q i];exact BL (M i) (O i) (pv j (U i) (Z i) hd z) (Y i)),Bb B I (zR sV)⟩
structure KMk(P:Program)(w:World)(K:PySem.W.Frag)(mg:Str->Option Value)(base:Heap)(k:Nat)(c:Str)(ps:List Str)(sp:Sp):Prop where
 ex:∃C f fd,mg c=some (.ref C)/\L2.Mk K C f/\cR P w K mg base CX0 k f fd ps sp/\Binds K fd ps []
def yP(c:Str)(F:List D->Option (D×List D))(ds:List D):Option D:=(F (.ins .own c [] []::fzL ds)).bind λq=>match q with
 |(.non,d::_)=>if bu d=true then some d else none
 |_=>none
theorem Ol{oc:Nat->Bool}{F:List D->Option (D×List D)}(hC:G.mg c=some (.ref C))(hp:pr 0=true):CaV G (λvs H Q=>∀x dx,H x=none->H dx=none->dx≠x->spI G oc pr F (.ref x::(vs++[])) (upd (upd H dx (.own x)) x (.ins C dx [])) (λv H2=>v= .non/\Q (.ref x) H2) E0) (yP c F):=λds d e xs H W L0 r nd hn w Q q=>by
 intro x dx J a1 a2;rw[List.append_nil];unfold yP at e;cases h1:F (.ins .own c [] []::fzL ds)with
 |none=>simp[h1]at e
 |some z=>
  rw[h1]at e;simp![Hq]at e;split at e
  .rename_i d' rest
   split at e
   .rename_i hown
    cases e;have same:Same H (upd (upd H dx (.own x)) x (.ins C dx [])):=λb u U=>by rw[aQ (aV U J),aQ (aV U a1)];exact U
    have r0:aF G H (W1 λ_=>False) (fzL ds) xs []:=r.fz ⟨λa f=>⟨id,id,id⟩,λa Y=>⟨id,id,id⟩⟩ (.inr λa=>⟨id,id,id⟩);have I:∀{b u},H b=some u->(wn oc (gf (λ_=>[]) 0 [x]) λ_=>False).free b:=λ{b u} U=>by
     have no:∀i,b∉gf (λ_=>[]) 0 [x] i:=λi z=>by
      by_cases hi:i=0
      .subst hi
       rw[cQ]at z;exact aV U J (by simpa using z)
      .rw[cI hi]at z;cases z
     exact⟨id,λ⟨i,_,z⟩=>no i z,λ⟨i,_,z⟩=>no i z⟩
    have r1:aF G (upd (upd H dx (.own x)) x (.ins C dx [])) (wn oc (gf (λ_=>[]) 0 [x]) λ_=>False) (fzL ds) xs []:=r0.up ⟨same,λb u U _=>I U,λb u U z=>z.elim⟩;refine⟨.ins .own c [] []::fzL ds,gf (λ_=>[]) 0 [x],λ_=>False,⟨by simp[r1.length],λi d0 hi=>?_,λi hi=>?_,λi=>?_,λi j a h1 h2=>?_,λi a h=>h.elim,λa h=>h.elim⟩,λi hi=>?_,.non,d::rest,h1,λv H' M S' s' r' Z B hM m=>?_⟩
    .have hi:=jK hi
     cases i with
     |zero=>
      obtain rfl:D.ins .own c [] []=d0:=by simpa using hi
      refine⟨.ref x,rfl,?_,rfl⟩;rw[Rep];exact⟨x,C,dx,[],[],rfl,hC,rfl,.nil,aZ,by rw[cQ]⟩
     |succ i=>
      have hi:(fzL ds)[i]? =some d0:=by simpa using hi
      obtain⟨y,M',O,g2,g3⟩:=r1.get hi;obtain rfl:M'=[]:=by simpa using g3
      refine⟨y,by simpa using eZ O,by rw[cI (Nat.succ_ne_zero i)];exact g2,by simp[clean,iw (g_ ds) hi,iC (h_ ds) hi]⟩
    .cases i with
     |zero=>exact absurd rfl (hi (.ins .own c [] []))
     |succ i=>rw[cI (Nat.succ_ne_zero i)]
    .by_cases hi:i=0
     .subst hi;rw[cQ];simp
     .rw[cI hi];exact aap
    .have h0:∀{i},a∈gf (λ_=>[]) 0 [x] i->i=0:=λ{i} z=>by
      by_cases hi:i=0
      .exact hi
      .rw[cI hi]at z;cases z
     rw[h0 h1,h0 h2]
    .by_cases h0:i=0
     .subst h0;rw[hp]at hi;cases hi
     .rw[cI h0]
    .have hv:v= .non:=by rw[Rep]at r';exact r'.1
     refine⟨hv,?_⟩;obtain⟨u,O,g2,g3⟩:=s'.sl 0 d rfl;obtain rfl:V.ref x=u:=by simpa using O
     have a0:∀{b},inS (gf (λ_=>[]) 0 [x]) b->b=x:=λ{b}⟨i,z⟩=>by
      by_cases hi:i=0
      .subst hi;rw[cQ]at z;simpa using z
      .rw[cI hi]at z;cases z
     refine q (.ref x) H' (S' 0) (λb u U=>m.kp b u (same b u U) (λz=>aV U J (a0 z)) (by simp)) (g2.own hown) (λa Y=>?_) (s'.nd 0);rcases m.gr 0 a Y with z|z|z
     .exact .inr (by rw[a0 z];exact J)
     .cases z
     .exact .inr (same.none' z)
   .cases e
  .cases e
variable{p:Pos}
theorem Q0{oc:Nat->Bool}{F:List D->Option (D×List D)}{f:En->Option (List D)}(M:∀i,KMk (X i).prog (X i).w (X i).K (X i).mg (X i).base k c ps (spI G oc pr F))(I:ι)(O:∀i,gq (k+1) (X i).A)(Y:PVA X G ob (e::es) f)(hp:pr 0=true:=by rfl)(J:∀i,(X i).mg=G.mg:=by intro _;rfl)(q:∀i,Gl (X i) c:=by intro _;rfl)(z:(c==("__debug__":Str))=false:=by decide)(V:∀i,ZK (e::es) (X i).env=(false,eval e (X i).env)::ZK es (X i).env:=by intro _;rfl)(B:∀i,(aaH pos (ZK es (X i).env)).any (·.1)=false:=by intro _;rfl) :
  PV X G ob (.Call (.Name c p) (e::es) [] pos) (eAp (yP c F) f):=by
 obtain⟨t,a1,a2⟩:=Y.ex;obtain⟨C,_,_,hC,_⟩:=(M I).ex;rw[J I]at hC;refine⟨_,λi=>?_,tR (Ol (oc:=oc) hC hp) a2⟩;obtain⟨C',f',fd,Z,mk,F',U⟩:=(M i).ex;have a0:=Z;rw[J i,hC]at a0;cases a0;exact Sh mk F' (O i) (q i) Z U .nil GP (a1 i) z (V i) (B i)
def Its(x:Str):It:=⟨λi _=>i<x.cps.size,λi H y H'=>H'=H/\∃c,x.cps[i]? =some c/\y= .str ⟨#[c]⟩,λi _=>i=x.cps.size⟩
theorem M9{P:aae}{K:ZC}{t:Tok}(hn:["enumerate","zip","dict_itemiterator","dict_reverseitemiterator","odict_iterator","itertools.zip_longest","itertools.pairwise"].contains T=false)
  (W:∀A:aaC,A.handled=none->Walks P w A it [it] [it] x.cps.size (SignAt x) (λi h=>h.IsStrIter it T x t i)) (W':∀A i s Q E,s.heap.IsStrIter it T x t i->Q (.ref it) s->wpAny (model P w) A (aeQ (.ref it)) Q E s):Turn P w K tg (Its x) [it] it (λi h=>h.IsStrIter it T x t i)where
 mem:=by simp
 obj:=λi h st b U=>by
  have e:b=it:=by simpa using U
  subst e;obtain⟨o,e,c,d⟩:=st;exact⟨o,e,λv z=>by rw[d]at z;cases z⟩
 keep:=λi h h' st k=>let⟨o,ho,r⟩:=st;⟨o,k it (by simp) o ho,r⟩
 item:=by
  intro X hP B F Z i pins s σ H E I D st q;subst hP B F;obtain⟨f0,V,f2,O,f4,f5⟩:=D it (by simp);refine(W X.A (I.ok.hd Z)).item i s _ E q st λu h' tk J a0 kp=>?_;obtain⟨c,tu,a1,rfl⟩:=J;have I1:Inv X pins σ H {s with heap:=h',toks:=tk}:=I.turned (λb o U e=>kp b o (by simpa using U) e) f0 V O f4 f5;obtain⟨o,e,Y,d⟩:=id a0;exact⟨_,rfl,Gw (s:={s with heap:=h',toks:=tk}) e Y d hn ⟨.str ⟨#[c]⟩,H,I1,⟨tu,rfl⟩,⟨rfl,c,a1,rfl⟩,a0,λb U=>(D b U).1⟩⟩
 done:=by
  intro X hP B F Z i pins s σ H E I D st q;subst hP B F;obtain⟨f0,V,f2,O,f4,f5⟩:=D it (by simp);subst q;exact(W X.A (I.ok.hd Z)).done s _ E st λh' tk kp=>⟨rfl,I.turned (λb o U e=>kp b o (by simpa using U) e) f0 V O f4 f5⟩
 self:=λA i s Q E st h=>W' A i s Q E st h
def Yd(te:TE):TI:=λσ H R=>te σ H λx H1=>∃y,x= .str y/\R (Its y) H1
variable{X:Cx}{te:TE}
theorem VP(V:PE X e te):PI X tg e (Yd te):=by
 intro pins s σ H R I h;refine thn (V pins s σ H _ I h) λv F ⟨x,H1,z,Z,y,ex,q⟩=>?_;subst ex;obtain⟨t,rfl⟩:=(show ∃t,v=acG y t from Z);have D:∀(T:String)(o:Obj),["enumerate","zip","dict_itemiterator","dict_reverseitemiterator","odict_iterator","itertools.zip_longest","itertools.pairwise"].contains T=false->(∀A:aaC,A.handled=none->Walks X.prog X.w A F.heap.objs.size [F.heap.objs.size] [F.heap.objs.size] y.cps.size (SignAt y) (λi h=>h.IsStrIter F.heap.objs.size T y t i))->
   (∀A i s Q E,s.heap.IsStrIter F.heap.objs.size T y t i->Q (.ref F.heap.objs.size) s->wpAny 1.12 A (aeQ (.ref F.heap.objs.size)) Q E s)->(F.heap.push o).IsStrIter F.heap.objs.size T y t 0->PIE X pins σ tg R (.ref F.heap.objs.size) {F with heap:=F.heap.push o}:=λT o hn W W' st=>by
  refine⟨F.heap.objs.size,[F.heap.objs.size],_,_,H1,rfl,z.kept (t':=F.toks) λb o e=>Zz _ e,M9 hn W W',st,λb U=>?_,q⟩;have e:b=F.heap.objs.size:=by simpa using U
  subst e;exact z.fpOk (ZQ _) (z.hok.fresh (ZQ _))
 cases Y:y.cps.all (· <128)
 .exact wpAny_pyIter_wide Y (D _ _ (by decide) (λB O=>Walks.strWide O _ y t) (λA i s Q E st h=>wpAny_pyIter_striter_wide st h) ⟨_,Z6 _ rfl,rfl,rfl⟩)
 .exact wpAny_pyIter_ascii Y (D _ _ (by decide) (λB O=>Walks.strAscii O _ y t) (λA i s Q E st h=>wpAny_pyIter_striter_ascii st h) ⟨_,Z6 _ rfl,rfl,rfl⟩)
theorem Fy(Z:X.calm=true):fZ X (.type "list") (λxs H Q=>∃a kvs,xs=[.ref a]/\Rd H a (.dK kvs)/\kvs.length<=1000000/\∀l,H l=none->Q (.ref l) (upd H l (.lst (kvs.map λp=>kV p.1)))):=by
 intro pins s σ H xs us Q I r h;obtain⟨a,kvs,rfl,hq,O,q⟩:=h;obtain⟨u,rfl,B⟩:=vals1 r;cases B;obtain⟨hz,hd,vs,rel,D⟩:=rC I.hok hq;obtain⟨ep,ob,es,g,x,d,r1,J,r3⟩:=D.dictAt;have a1:s.heap.DictAt (bG X.prog X.w) a vs ep:=⟨ob,es,g,x,d,r1,J,r3⟩;have V:kvs.length=vs.length:=rel.length;have h6:(1000000:Nat)<=ZM:=by decide
 refine agf (age (ep:=ep) (kvs:=vs) hd) (I.ok.hd Z) a1 1.11 λh' tk acc c hk U Y=>⟨.ref s.heap.objs.size,_,I.laid (t':=tk) hk (ZQ _) (show cM X.prog X.w _ h' _ (.lst (kvs.map λp=>kV p.1))from⟨by rw[ZL];omega,acc.toList,c,uH (by rw[abb,ZL,Y.1];omega) λi y u h1 h2=>?_,by rw[afl];exact U⟩),rfl,q _ (I.hok.fresh (ZQ _))⟩;rw[List.getElem?_map]at h1;cases a0:kvs[i]? with
 |none=>rw[a0]at h1;cases h1
 |some F=>
  rw[a0]at h1;cases h1;obtain⟨k,v,e1,e2⟩:=Y.2 i u (by rw[←abv];exact h2);have:=(oY rel a0 e1).1;obtain rfl:F.1=k:=this;have h3:uf F.1 u=true:=e2;rcases du h3 with⟨j,t,z,rfl⟩|⟨x',t,z,rfl⟩
  .show L2.RelV (kV F.1) _;rw[z];exact⟨t,rfl⟩
  .show L2.RelV (kV F.1) _;rw[z];exact⟨t,rfl⟩
structure Glb(mg:Str->Option Value)(x:Str)(v:V):Prop where
 ex:∃u,mg x=some u/\RelV v u
def HN(fe:En->Option D):En->Option (Bool×List D):=λρ=>match fe ρ with
 |some (.str y)=>some (true,y.cps.toList.map λc=>.str ⟨#[c]⟩)
 |_=>none
def sX:List D->Option D
 |[.dct _ ks _]=>if ks.length<=1000000 then some (.lst .own (ks.map kD))else none
 |_=>none
variable{X:ι->Cx}
theorem LQ{i:Int}(g:Glb G.mg x (.int i))(q:∀c,Gl (X c) x:=by intro _;rfl)(J:∀c,(X c).mg=G.mg:=by intro _;rfl)(hd:(x==("__debug__":Str))=false:=by decide):PV X G ob (.Name x pos) (eC (.int i)):=let⟨u,h1,h2⟩:=g.ex;⟨_,λc=>HQ (q c) (by rw[J c];exact h1) h2 hd,Ep λ_ _=>by simp[Rep]⟩
theorem Lb(g:Glb G.mg x (.str y))(q:∀c,Gl (X c) x:=by intro _;rfl)(J:∀c,(X c).mg=G.mg:=by intro _;rfl)(hd:(x==("__debug__":Str))=false:=by decide):PV X G ob (.Name x pos) (eC (.str y)):=let⟨u,h1,h2⟩:=g.ex;⟨_,λc=>HQ (q c) (by rw[J c];exact h1) h2 hd,Ep λ_ _=>by simp[Rep]⟩
theorem R6(h:RfE G ob te fe):RfI G ob (Yd te) (HN fe):=λρ b items e σ H W J w R q=>by
 unfold HN at e;split at e
 .rename_i y h1
  cases e;refine h ρ _ h1 σ H W J w _ λv H' L s r I nd=>?_;obtain⟨rfl,rfl⟩:=cB r;refine⟨y,rfl,q (Its y) H' s ⟨λi d e H2 U _=>?_,λi d e H2 U _ x B V=>?_,λH2 U _=>?_⟩⟩
  .have:=(List.getElem?_eq_some_iff.mp e).1
   show i<y.cps.size;simpa using this
  .obtain⟨rfl,c,hc,rfl⟩:=V
   have:d= .str ⟨#[c]⟩:=by
    have z:y.cps.toList[i]? =some c:=by rw[abv];exact hc
    rw[List.getElem?_map,z]at e;exact(aaD e).symm
   subst this;exact⟨Same.refl _,rT⟩
  .show(y.cps.toList.map _).length=_
   simp
 .cases e
theorem Sv(V:PV X G ob e fe):PVI X G ob tg e (HN fe):=let⟨_,a1,a2⟩:=V.ex;⟨_,λc=>VP (a1 c),R6 a2⟩
theorem vz:∀ks:List Key,aF G H W (ks.map kD) (ks.map kV) []
 |[]=>.nil
 |.inl i::r=>aF.cons (M:=[]) (M':=[]) di (vz r)
 |.inr y::r=>aF.cons (M:=[]) (M':=[]) rT (vz r)
theorem yw(Z:∀c,(X c).calm=true):CaB X G (.type "list") sX:=⟨_,λc=>Fy (Z c),λds d e xs H W J r nd hn w Q q=>by
 unfold sX at e;split at e
 .split at e
  .rename_i m ks ds' hl
   cases e;obtain⟨x,rfl,rx⟩:=r.inv1;rw[Rep]at rx;obtain⟨a,kvs,M,rfl,⟨rfl,_⟩,O,B⟩:=rx;refine⟨a,kvs,rfl,B.rdD,by simpa using hl,λl U=>?_⟩;have:=mV (G:=G) (H:=H) (W:=W) (vz (kvs.map (·.1))) (λa Y=>by cases Y) aap hn U q;rw[ZX]at this;exact this
  .cases e
 .cases e⟩
def SN(i j k:Nat)(ta:TA):TS:=λD σ H=>ta σ H λvs H1=>∃v w z,vs=[v,w,z]/\D.nx (((σ.set i (some v)).set j (some w)).set k (some z)) H1
variable{X:Cx}{ta:TA}
theorem Qu{z:Str}{a b c:Expr}{pz pt:Pos}{kt k2 pt2}(Z:X.calm=true)(U:X.N.Nodup)(hi:X.N[i]? =some x)(hj:X.N[j]? =some y)(hk:X.N[k]? =some z)(a0:i≠j/\i≠k/\j≠k)
  (J:X.env.scope.names.lookup x=some .local) (V:X.env.scope.names.lookup y=some .local) (hz:X.env.scope.names.lookup z=some .local) (Y:PA X [a,b,c] ta)
  (hw:acj [.Tuple [.Name x px,.Name y py,.Name z pz] kt pt] (.Tuple [a,b,c] k2 pt2) X.env=pure (some [x,y,z]))
  (B:ab0 [.Tuple [.Name x px,.Name y py,.Name z pz] kt pt] (.Tuple [a,b,c] k2 pt2) pos.line X.env=pure false:=by rfl) :
  PS X (.Assign [.Tuple [.Name x px,.Name y py,.Name z pz] kt pt] (.Tuple [a,b,c] k2 pt2) pos) (SN i j k ta):=by
 intro pins s σ H D I h;rw[aeA];refine gD (aci ?_);rw[B];refine gD (ZD ?_);rw[Z1 (by decide)];refine gD (Tuple_ (thn (Y _ pins s σ H _ I h) λus F ⟨vs,H1,I1,r1,q1⟩=>?_));obtain⟨v,w,o,e1,q1⟩:=q1;subst e1;obtain⟨u1,u2,u3,rfl,rv,a1,ro⟩:∃u1 u2 u3,us=[u1,u2,u3]/\RelV v u1/\RelV w u2/\RelV o u3:=by
  cases r1 with
  |cons p q=>
   cases q with
   |cons p' q'=>
    cases q' with
    |cons p2 q2=>cases q2;exact⟨_,_,_,rfl,p,p',p2⟩
 refine aaL ?_ (by show 3<=ZM;decide);have I2:Inv X pins σ H1 {F with heap:=F.heap.push {cls:=.type "tuple",data:=.seq [u1,u2,u3].toArray}}:=I1.kept (t':=F.toks) λb o e=>Zz _ e;rw[hw];refine gD (ZD ?_);show wpAny 1.12 X.A (do rule "assign.swapped-stores";let items ←unpackItems (.ref F.heap.objs.size) 3 none;adq [λv=>acH X.env z v,λv=>acH X.env y v,λv=>acH X.env x v] items.reverse;pure afE) _ _ _;refine gD (acI (gD (unpackItems_tuple (items:=#[u1,u2,u3]) (I.ok.hd Z) (IsTup.new F.heap _) λh' a2=>?_)));have I3:=I2.kept (h':=h') (t':=F.toks) λb o e=>a2 b o (Z5 (ZP e)) e;show wpAny _ _ (adq [λv=>acH X.env z v,λv=>acH X.env y v,λv=>acH X.env x v] [u3,u2,u1] >>=λ_=>pure afE) _ _ _;refine gD (abT (ac8 (jt I3 U hk (.inl hz) ro (λO I4=>?_) (.inr hz))));refine abT (ac8 (jt I4 U hj (.inl V) a1 (λs3 I5=>?_) (.inr V)));refine abT (ac8 (jt I5 U hi (.inl J) rv (λs4 I6=>ad5 (ZD ?_)) (.inr J)));rw[adZ _ _ (aay a0.1),adZ _ _ (aay a0.2.1),adZ _ _ (aay a0.2.2)]at I6;exact⟨_,H1,I6,q1⟩
theorem LK(hi:P i=false)(hj:P j=false)(I:P k=false)(h:CW G ob ta f):RfS G ob P (SN i j k ta) (dX f (aO (tgN i) (aO (tgN j) (aO (tgN k) bZ)))):=λρ r e σ H S Fr s E q=>by
 unfold dX at e;cases h1:f ρ with
 |none=>simp[h1]at e
 |some p=>
  obtain⟨ds,ρ1⟩:=p;by_cases Z:az ds/\aA ds
  .cases h2:(aO (tgN i) (aO (tgN j) (aO (tgN k) bZ))) ds ρ1 with
   |none=>simp[h1,h2,Z]at e
   |some ρ2=>
    have:Fl.nx ρ2=r:=by simpa[h1,h2,Z]using e
    subst this;refine h ρ ds ρ1 h1 σ H S Fr s _ λvs H1 M S1 F r1 nd V=>?_;have J:∀a∈M,¬Fr a:=λa Y z=>by
     rcases V.fm a Y with q|q
     .exact s.notO z q
     .obtain⟨o,B,_⟩:=s.fdm a z
      rw[q]at B;cases B
    have a1:=jP (iW (G:=G) (ob:=ob) hi) (jP (iW hj) (jP (iW I) vC)) ds ρ1 ρ2 Z.1 Z.2 h2 vs σ H1 S1 M Fr F r1 nd J (λa0 H'=>E.nx a0 H') λa0 H' S' s' m=>q a0 H' S' s' ⟨λb u U O n2=>?_,λi a z=>?_,m.pr⟩
    .obtain⟨v,rr,e1,v2,r2,e2,v3,r3,e4,e3,k⟩:=a1
     subst e3;exact⟨v,v2,v3,by rw[e1,e2,e4],k⟩
    .have hno:¬inO ob S b:=λ⟨i,_,z⟩=>O ⟨i,z⟩
     refine m.kp b u (V.kp b u U hno) (λ⟨i,z⟩=>?_) λz=>(V.fm b z).elim hno λz=>by rw[U]at z;cases z
     cases B:ob i with
     |false=>rw[V.sn i B]at z;exact O ⟨i,z⟩
     |true=>exact(V.gr i b B z).elim hno λz=>by rw[U]at z;cases z
    .rcases m.gr i a z with⟨j,z⟩|z|z
     .cases B:ob j with
      |false=>rw[V.sn j B]at z;exact .inl ⟨j,z⟩
      |true=>exact(V.gr j a B z).imp (λ⟨k,_,z⟩=>⟨k,z⟩) .inr
     .exact(V.fm a z).imp (λ⟨k,_,z⟩=>⟨k,z⟩) .inr
     .exact(V.back z).imp (λ⟨k,_,z⟩=>⟨k,z⟩) .inr
  .simp[h1,Z]at e
variable{X:ι->Cx}{f:En->Option (List D)}
theorem Ku(i j k:Nat){z:Str}{a b c:Expr}{q pt:Pos}{kt k2 pt2}(Z:∀c,(X c).calm=true)(U:∀c,(X c).N.Nodup)(Y:PVA X G ob [a,b,c] f)(hP:P i=false/\P j=false/\P k=false:=by exact⟨rfl,rfl,rfl⟩)(hi:∀c,(X c).N[i]? =some x:=by intro _;rfl)(F:∀c,(X c).N[j]? =some y:=by intro _;rfl)(I:∀c,(X c).N[k]? =some z:=by intro _;rfl)(O:i≠j/\i≠k/\j≠k:=by decide)(J:∀c,(X c).env.scope.names.lookup x=some .local:=by intro _;rfl)(V:∀c,(X c).env.scope.names.lookup y=some .local:=by intro _;rfl)(hz:∀c,(X c).env.scope.names.lookup z=some .local:=by intro _;rfl)
 (hw:∀i,acj [.Tuple [.Name x px,.Name y py,.Name z q] kt pt] (.Tuple [a,b,c] k2 pt2) (X i).env=pure (some [x,y,z]):=by intro _;rfl) (B:∀i,ab0 [.Tuple [.Name x px,.Name y py,.Name z q] kt pt] (.Tuple [a,b,c] k2 pt2) pos.line (X i).env=pure false:=by intro _;rfl) :
 PVS X G ob P (.Assign [.Tuple [.Name x px,.Name y py,.Name z q] kt pt] (.Tuple [a,b,c] k2 pt2) pos) (dX (dB f) (aO (tgN i) (aO (tgN j) (aO (tgN k) bZ)))):=let⟨t,a1,a2⟩:=Y.ex;⟨_,λc=>Qu (Z c) (U c) (hi c) (F c) (I c) O (J c) (V c) (hz c) (a1 c) (hw c) (B c),LK hP.1 hP.2.1 hP.2.2 (zR a2)⟩
def jn:List D->Option D
 |[.dct m ks _]=>if(m== .scr)=false/\ks.length<64 then(tZ ks).map λys=>.lst .own ((WD ys).map D.str)else none
 |_=>none
theorem tW(A:aaC)(hA:∀c,(X c).A=A)(J:A.units+2<cLine)(Z:∀c,(X c).calm=true):CaB X G (.builtin "sorted") jn:=by
 refine⟨Kc A,λc=>by rw[←hA c];exact zZ (Z c),λds d e xs H W L0 r nd hn w Q q=>?_⟩;unfold jn at e;split at e
 .split at e
  .rename_i m ks es hm
   cases B:tZ ks with
   |none=>rw[B]at e;cases e
   |some ys=>
    rw[B]at e;cases e;obtain⟨x,rfl,rx⟩:=r.inv1;rw[Rep]at rx;obtain⟨a,kvs,M,rfl,⟨h1,h2⟩,O,a0⟩:=rx;have I:=BX B;have z:aF G H W ((ys.map λy=>[y]).map fS) (ys.map V.str) []:=by
     rw[ZX];exact CJ ys
    refine⟨a,kvs,ys,rfl,.inl (a0.at2 hm.1),h1.trans I,by have:=hm.2;rw[I]at this;simpa using this,J,λp F hw l U=>?_⟩;obtain⟨M',p1,r1⟩:=qY z F hw;have e1:(rW (ys.map λy=>[y])).map fS=(WD ys).map D.str:=by rw[WD,ZX];rfl
    rw[e1]at r1;have e3:M'=[]:=p1.eq_nil;subst e3;exact mV r1 (λa Y=>by cases Y) aap hn U q
  .cases e
 .cases e
def J5(K:ZC)(t:TA):TE:=λσ H Q=>t σ H λvs H1=>∃a ks,vs=[.ref a]/\SqL K H1 a (Z9 kV ks)/\abP ks<4000/\Q (.int (Ax ks).length) H1
theorem Er{X:Cx}{q1 q2:Pos}(hg:Gl X "len")(J:X.mg "len"=none)(a1:X.mg "set"=none)(Y:PA X [e] t)(a5:Gl X "set":=by rfl)(B:ZK [e] X.env=[(false,eval e X.env)]:=by rfl)(Z:X.calm=true:=by rfl) :
  PE X (.Call (.Name "len" p1) [.Call (.Name "set" p2) [e] [] q2] [] q1) (J5 X.K t):=by
 intro pins s σ H Q I h;refine abu (mG I hg J ab2 ?_);refine acq rfl (afb ?_);show wpAny _ _ (spliced ((false,eval (.Call (.Name "set" p2) [e] [] q2) X.env)::aaH q1 (ZK [] X.env))) _ _ s;refine adS ?_;refine abu (mG I a5 a1 boot_set ?_);refine aa2 (thn (Y q2 pins s σ H _ I h) λus F ⟨vs,H1,z,r1,a6⟩=>?_) B rfl;obtain⟨a,ks,ev,hq,hz,q⟩:=a6;subst ev;obtain⟨u,rfl,ru⟩:=vals1 r1;cases ru;have hh:X.A.handled=none:=z.ok.hd Z;obtain⟨its,rv,pl,a8⟩:=z.list hq;have a0:=rv.length;rw[ZL]at a0;refine Jf (its:=its) (ks:=ks) hh a0 (λj k v e1 e2=>?_) (by show its.length+1<4096;omega) pl.isList λO a3=>?_
 .have:(Z9 kV ks)[j]? =some (kV k):=by rw[List.getElem?_map,e1];rfl
  obtain⟨V,h1,h2⟩:=rv.get this;rw[e2]at h1;cases h1;exact h2
 .refine ad7 ?_
  obtain⟨h',tk,rfl,hS,a2⟩:=a3;have I2:Inv X pins σ H1 {F with heap:=h',toks:=tk}:=z.kept (t':=tk) a2;obtain⟨o,es,ep,tb,ho,a4,hd,b0,a7,U,D,hn⟩:=hS;have a9:=Kz ks;refine call_len_set ho a4 hd D (by rw[hn];omega) ?_;rw[hn];exact⟨.int (Ax ks).length,H1,I2.tok _,⟨_,rfl⟩,q⟩
def l_:List D->Option D
 |[.lst _ ds]=>if ds.length<4000 then(j4 ds).map λks=>.int (Ax ks).length else none
 |_=>none
def tLV(te:TE):TE:=λσ H Q=>te σ H λv H1=>∃a kvs,v= .ref a/\Rd H1 a (.dK kvs)/\kvs.length<=1000000/\∀l,H1 l=none->Q (.ref l) (upd H1 l (.lst (kvs.map (·.2))))
theorem Mi{X:Cx}(hg:Gl X "list")(J:X.mg "list"=none)(Z:X.calm=true)(V:PE X e te)(U:aaR e "values" X.env (eval e X.env)=eval e X.env:=by rfl)(a0:(apos.endLine==cpos.line)=true:=by rfl) :
  PE X (.Call (.Name "list" p1) [.Call (.Attribute e "values" apos) [] [] cpos] [] pos) (tLV te):=by
 intro pins s σ H Q I h;refine abu (mG I hg J adW ?_);refine aa2 ?_ rfl rfl;show wpAny _ _ (spliced ((false,eval (.Call (.Attribute e "values" apos) [] [] cpos) X.env)::aaH pos (ZK [] X.env))) _ _ s;refine adS ?_;refine aeu U a0 (thn (V pins s σ H _ I h) λu s1 ⟨x,H1,z,rx,a,kvs,ex,a2,O,q⟩=>?_);subst ex;cases rx;obtain⟨hz,a1,vs,rel,dd⟩:=rC z.hok a2;obtain⟨ep,ob,es,g,xx,d,r1,r2,r3⟩:=dd.dictAt;have a3:kvs.length=vs.length:=rel.length;refine⟨"dict","dict.values",F.plainAttrs_dict,afP,F.type_dict_values,dd.typeIs,λb e2=>?_,acq rfl (afu ?_)⟩
 .cases e2;exact⟨ob,g,xx.2.1⟩
 refine aej afP dd.typeIs F.entry_dict_values (F.args_dict_values_1 _) (meets_dict_values (bG X.prog X.w) a a1) ⟨⟨vs,dd⟩,?_⟩;refine ad7 ?_;have D:Inv X pins σ H1 {s1 with heap:=s1.heap.push {cls:=.type "dict_values",data:=.fields #[.ref a]},toks:=s1.toks}:=z.kept (t':=s1.toks) λb o e=>Zz _ e;have h6:(1000000:Nat)<=ZM:=by decide
 refine agf (PySem.W.kdl_values (knd:=bG X.prog X.w) (r:=s1.heap.objs.size) (d:=a) (ep:=ep) (kvs:=vs)) (z.ok.hd Z) ⟨⟨_,Z6 _ rfl,rfl,rfl⟩,⟨ob,es,Zz _ g,xx,d,r1,r2,r3⟩⟩ 1.11 λh' tk acc c hk hD Y=>?_;refine⟨.ref _,_,D.laid (t':=tk) hk (ZQ _) (show cM X.prog X.w _ h' _ (.lst (kvs.map (·.2)))from⟨by rw[ZL];omega,acc.toList,c,uH (by rw[abb,ZL,Y.1];omega) λi y u h1 h2=>?_,by rw[afl];exact hD⟩),rfl,q _ (D.hok.fresh (ZQ _))⟩;rw[List.getElem?_map]at h1;cases B:kvs[i]? with
 |none=>rw[B]at h1;cases h1
 |some kv=>
  rw[B]at h1;cases h1;obtain⟨k,e1⟩:=Y.2 i u (by rw[←abv];exact h2);exact(oY rel B e1).2
def wA(i:Nat):En->Option Fl:=λρ=>match ρ[i]? with
 |some (some (.dct .own _ ds))=>if ds.length<64 then(lstK .own ds).map λks=>.ret (.lst .own ((rW ks).map (fL .own))) (ρ.set i none)else none
 |_=>none
theorem CN:CaV G (λvs H Q=>∃a ks,vs=[.ref a]/\SqL G.K H a (Z9 kV ks)/\abP ks<4000/\Q (.int (Ax ks).length) H) l_:=λds d e xs H W J r nd hn w Q q=>by
 unfold l_ at e;split at e
 .split at e
  .rename_i m ds hl
   cases h1:j4 ds with
   |none=>simp[h1]at e
   |some ks=>
    obtain rfl:D.int (Ax ks).length=d:=by simpa[h1]using e
    obtain⟨x,rfl,rx⟩:=r.inv1;rw[Rep]at rx;obtain⟨a,ys,M,rfl,O,B⟩:=rx;have:=yN h1 O;subst this;exact⟨a,ks,rfl,B.sq,by rw[yC h1];exact hl,q.scal λ_=>di⟩
  .cases e
 .cases e
theorem Fz{q1 q2:Pos}(q:∀c,Gl (X c) "len")(J:∀c,(X c).mg "len"=none)(z:∀c,(X c).mg "set"=none)(Y:PVA X G ob [e] f)(I:∀c,Gl (X c) "set":=by intro _;rfl)(B:∀c,ZK [e] (X c).env=[(false,eval e (X c).env)]:=by intro _;rfl)(Z:∀c,(X c).calm=true:=by intro _;rfl)(F:∀c,(X c).K=G.K:=by intro _;rfl) :
 PV X G ob (.Call (.Name "len" p1) [.Call (.Name "set" p2) [e] [] q2] [] q1) (eAp l_ f):=let⟨t,a1,a2⟩:=Y.ex;⟨_,λc=>(by rw[←F c];exact Er (q c) (J c) (z c) (a1 c) (I c) (B c) (Z c)),tR CN a2⟩
variable{A:aaC}
theorem IK(J:A.units+2<cLine):RfS G ob P (R8 (tCB (zW G.K A) (Cw (tLV (Di i)) Q8))) (wA i):=λρ r e σ H S Fr s E q=>by
 unfold wA at e;split at e
 .rename_i ks ds h1
  split at e
  .rename_i hl
   cases I:lstK .own ds with
   |none=>rw[I]at e;cases e
   |some zs=>
   rw[I]at e;cases e;obtain⟨v,a1,a2,a3,a4⟩:=s.move h1;rw[Rep]at a4;obtain⟨a,kvs,M,rfl,⟨O,b7⟩,rl,b6,hL⟩:=a4;have b8:ds.length=kvs.length:=by have:=rl.length;simpa using this
   have b5:=(by simpa[clean]using a2:aC (.dct .own ks ds)=true/\aB (.dct .own ks ds)=true);have a7:az ds=true/\aA ds=true:=by simpa[aC,aB]using b5
   rw[yS I]at rl a7;refine⟨.ref a,a1,a,kvs,rfl,.inl b6,by omega,λl0 b3=>?_⟩;have a0:Same H (upd H l0 (.lst (kvs.map (·.2)))):=Same.new b3;have b2:=s.nd i;rw[hL]at b2;obtain⟨n1,V⟩:=Z8.mp b2;have b4:∀b∈M,b∈S i:=λb U=>by rw[hL];exact .tail _ U
   have b0:aF G (upd H l0 (.lst (kvs.map (·.2)))) (wn ob (gf S i []) (plus (S i) Fr)) (zs.map (fL .own)) (kvs.map (·.2)) M:=rl.mono ⟨λb u U f=>⟨a0 b u U,f⟩,λb xs h=>a0 b _ h⟩ (.inl a7.1) (.inl a7.2) λc _ u e=>a0 c u e;refine⟨l0,kvs.map (·.2),zs,rfl,.inl (.inl (.inl aZ)),by rw[ZL];omega,J,Du b0,λp F hw l a6=>?_⟩;obtain⟨M',p1,Z⟩:=qY b0 F hw;have a5:Same (upd H l0 (.lst (kvs.map (·.2)))) (upd (upd H l0 (.lst (kvs.map (·.2)))) l (.lst (p.map λi=>(kvs.map (·.2)).getD i .non))):=Same.new a6;have sm:Same H (upd (upd H l0 (.lst (kvs.map (·.2)))) l (.lst (p.map λi=>(kvs.map (·.2)).getD i .non))):=a0.trans a5;have b1:H l=none:=a0.none' a6;have a9:∀b∈M',b∈S i:=λb U=>b4 b (p1.mem_iff.mp U);have nl:l∉M':=λz=>by
    obtain⟨o,B,_⟩:=Z.dom l z;rw[a6]at B;cases B
   have a8:az ((rW zs).map (fL .own))=true/\aA ((rW zs).map (fL .own))=true:=by
    have Y:∀k:List Str,az (k.map D.str)=true/\aA (k.map D.str)=true:=λk=>⟨bH λd hd=>by obtain⟨x,_,rfl⟩:=ZG.mp hd;rfl,bC λd hd=>by obtain⟨x,_,rfl⟩:=ZG.mp hd;rfl⟩;exact⟨bH λd hd=>by obtain⟨x,_,rfl⟩:=ZG.mp hd;simp[fL,aC,Y],bC λd hd=>by obtain⟨x,_,rfl⟩:=ZG.mp hd;simp[fL,aB,Y]⟩
   refine q (.ref l) σ _ (l::M') (gf S i []) (a3.grow sm λb U=>?_) ?_ ?_ (Z8.mpr ⟨nl,p1.nodup_iff.mpr V⟩) (λb U=>?_) ⟨λb u h _ _=>sm b u h,λk b z=>?_,.refl⟩
   .rcases U with U|U
    .rcases ZR.mp U with z|z
     .exact .inr (by rw[z];exact⟨b1,_,aZ,rfl⟩)
     .exact .inl (.inl (a9 b z))
    .exact .inl (.inr U)
   .have ev:Evo (upd H l0 (.lst (kvs.map (·.2)))) (upd (upd H l0 (.lst (kvs.map (·.2)))) l (.lst (p.map λi=>(kvs.map (·.2)).getD i .non))) (wn ob (gf S i []) (plus (S i) Fr)) (wn ob (gf S i []) (plus (l::M') Fr)):=⟨λb u U f=>⟨a5 b u U,λz=>z.elim (λz=>(ZR.mp z).elim (λz=>by rw[z,a6]at U;cases U) λz=>f.1 (.inl (a9 b z))) λz=>f.1 (.inr z),f.2⟩,λb xs h=>a5 b _ h⟩
    rw[Rep];exact⟨l,_,M',rfl,Z.mono ev (.inl a8.1) (.inl a8.2) (λc _ u e=>a5 c u e),aZ,rfl⟩
   .simp[clean,aC,aB,a8]
   .rcases ZR.mp U with z|z
    .exact .inr (by rw[z];exact b1)
    .exact .inl ⟨i,a9 b z⟩
   .rcases dN z with⟨_,z⟩|⟨_,z⟩
    .cases z
    .exact .inl ⟨k,z⟩
  .cases e
 .cases e
theorem JB(i:Nat){D Y:Pos}(A:aaC)(O:∀c,(X c).A=A)(J:A.units+2<cLine)(q:∀c,Gl (X c) "sorted")(hm:∀c,(X c).mg "sorted"=none)(a2:∀c,(X c).mg "list"=none)(I:∀c,Gl (X c) "list":=by intro _;rfl)(Z:∀c,(X c).calm=true:=by intro _;rfl)(F:∀c,(X c).K=G.K:=by intro _;rfl)
  (U:∀c,(X c).N[i]? =some x:=by intro _;rfl) (hv:∀c,Vis (X c).env.scope x:=by intro _;first|exact abf rfl|exact aaQ (abf rfl)|exact aaQ (aaQ rfl)) (hd:(x==("__debug__":Str))=false:=by decide) (z:(x==("__classdict__":Str))=false:=by decide)
  (a0:∀c,aaR (.Name x D) "values" (X c).env (eval (.Name x D) (X c).env)=eval (.Name x D) (X c).env:=by intro _;rfl) (a1:(apos.endLine==cpos.line)=true:=by rfl)
  (V:∀c,ZK [.Call (.Name "list" p2) [.Call (.Attribute (.Name x D) "values" apos) [] [] cpos] [] pos2] (X c).env=(false,eval (.Call (.Name "list" p2) [.Call (.Attribute (.Name x D) "values" apos) [] [] cpos] [] pos2) (X c).env)::ZK [] (X c).env:=by intro _;rfl) (B:∀c,(aaH pos (ZK [] (X c).env)).any (·.1)=false:=by intro _;rfl) :
  PVS X G ob P (.Return (some (.Call (.Name "sorted" p1) [.Call (.Name "list" p2) [.Call (.Attribute (.Name x D) "values" apos) [] [] cpos] [] pos2] [] pos)) Y) (wA i):=
 ⟨_,λc=>zc (by rw[←F c,←O c];exact CP rE (q c) (hm c) adp (uL (Mi (I c) (a2 c) (Z c) (pv i (U c) (hv c) hd z) (a0 c) a1) NP (V c)) (by decide) (by decide) (V c) (B c)),IK J⟩
def SJ:V->List V->Hp->VK->Prop:=λx vs H Q=>∃D kvs o more,x= .ref D/\H D=some (.dK kvs)/\vs=[.ref o]/\o≠D/\H o=some (.dK more)/\kvs.length+more.length<=50000/\Q .non (upd H D (.dK (putAll kvs more)))
theorem Qg{X:Cx}:MtM X "dict.update" SJ:=by
 intro pins s σ H x vs v us Q I rx rv h;obtain⟨D,kvs,o,more,rfl,U,rfl,B,hO,hsz,q⟩:=h;cases rx;have Y:200000<=ZM:=by decide
 obtain⟨z,a2,ds,rel,dd⟩:=uX I.hok U;obtain⟨u,rfl,ru⟩:=rv.one;cases ru;obtain⟨J,a1,ms,a0,a3⟩:=uX I.hok hO;have l1:=rel.length;have O:=a0.length;refine aej F.slot_dict_update dd.typeIs F.entry_dict_update (F.args_dict_update_2 _ _) (meets_dict_update (bG X.prog X.w) D o (aay B) a1) ⟨ds,ms,dd,a3,by omega,λh' Z d2 sb=>?_⟩;have V:∃q,h'.get? D=some q:=let⟨q,_,_,hq,_⟩:=Z;⟨q,hq⟩;have a4:=wQ more kvs;exact⟨.non,_,mY (t':=s.toks) I (by rw[U];exact aaJ) sb V (tL 1.11 a2 (yD more rel a0) Z),rfl,q⟩
def qt:D->List D->Option (D×D)
 |.dct .own ks ds,[.dct .frz ks2 es]=>if ks.length+ks2.length<=50000 then some (.dct .own (cO ks ds (ks2.zip es)).1 (cO ks ds (ks2.zip es)).2,.non)else none
 |_,_=>none
theorem K7:MuV G SJ qt:=λd es d' res h v xs H W M N r D nd hM Z c1 c2 Q q=>by
 unfold qt at h;split at h
 .rename_i ks ds ks2 es
  split at h
  .rename_i hm
   cases h;rw[Rep]at r;obtain⟨a,kvs,M0,rfl,⟨rfl,a2⟩,O,Y,rfl⟩:=r;obtain⟨x,rfl,rx⟩:=D.inv1;rw[Rep]at rx;obtain⟨b,more,N1,rfl,⟨rfl,a3⟩,V,B⟩:=rx;have kc:az ds=true/\aA ds=true:=by simp[clean,aC,aB]at Z;exact Z
   have ke:az es=true/\aA es=true:=by simp[az,aA,aC,aB]at c1 c2;exact⟨c1,c2⟩
   have a4:(Z9 (·.1) more).length=es.length:=by rw[V.length];simp
   have a1:=Z8.mp (ZZ.mp nd).1;obtain⟨⟨p1,p2⟩,M',p3,p4,p5⟩:=qe (es:=(Z9 (·.1) more).zip es) (aep 1.11) (by rw[agd 1.11];exact V) O a2 (fu a1.2 (B.sub.nodup (ZZ.mp nd).2.1) λb z1 z2=>(ZZ.mp nd).2.2 b (aaf _ z1) b (B.sub.subset z2) rfl);have a0:a∉M':=λz=>(p5 a z).elim a1.1 λz=>(ZZ.mp nd).2.2 a (by simp) a (B.sub.subset z) rfl;have k1:=bH (jw (ks:=Z9 (·.1) kvs) (λd=>aC d=true) (j8 kc.1) λp F=>j8 ke.1 _ (ack (l₁:=Z9 (·.1) more) (l₂:=es) F).2);have k2:=bC (jw (ks:=Z9 (·.1) kvs) (λd=>aB d=true) (jU kc.2) λp F=>jU ke.2 _ (ack (l₁:=Z9 (·.1) more) (l₂:=es) F).2);refine⟨a,kvs,b,more,rfl,Y,rfl,λz=>hM a (by simp) (z▸B.2.1),B.at2 rfl,by simpa using hm,q .non _ (a::M') [] (λb u U n=>by rw[aQ (show b≠a from λz=>n (by rw[z];simp))];exact U) (λW' I=>⟨?_,mH⟩) (by rw[List.append_nil];exact Z8.mpr ⟨a0,p4⟩) (λb U=>?_) (yf k1 k2) rfl⟩
   .rw[Rep]
    refine⟨a,putAll kvs more,M',rfl,⟨p1,p1▸p2⟩,p3.mono I (.inl k1) (.inl k2) λc Z u J=>?_,aZ,rfl⟩;rw[aQ (show c≠a from λz=>a0 (z▸Z))];exact J
   .rw[List.append_nil]at U
    rcases ZR.mp U with z|z
    .exact .inl (by simp[z])
    .exact(p5 b z).imp (λz=>aaf _ z) λz=>.inl (B.sub.subset z)
  .cases h
 .cases h
theorem Mt{ι:Type}{X:ι->Cx}:MuB X G "dict" "dict.update" qt:=⟨_,λc=>Qg,K7,V5 rfl λd es q e=>by
 unfold qt at e;split at e
 .exact⟨_,_,rfl⟩
 .cases e⟩
def dJ:List D->Option D:=fnP 2 4 ((a_ (cz (eC (.int 0)) (tgN 2))
 (a_ (sIf (eB (e2 gLt 1.17 (eAp eQ (ak 1.19 aD)))) (cz (e2 gIx 1.19 1.17) (tgN 2)) c7)
 (a_ (cz (e2 nQ (eAp uy (ak 1.35 aD)) (eAp vN (ak (e2 gGe (eAp uy (ak 1.35 aD)) (e2 nq (eC (.int 10)) (eC (.int 18)))) aD))) (tgN 3))
 (eF (eAp dq (ak 1.49 (ak (e2 mO (e2 nQ (e2 mO (e2 fG (e2 fG 1.35 (e2 nQ (eC (.int 7919)) 1.17)) (eC (.int 1))) (eC (.int 2147483647))) (eC (.int 48271))) (eC (.int 2147483647))) aD))))))))
def aP:List D->Option (D×List D):=fnI (λi=>i==0) 2 4 ((a_ (sIf (eB (e2 gGt (e2 gIx (aq true 0) (eC (.int 0))) (eC (.int 0)))) (a_ (cz (e2 mO (e2 gIx (aq true 0) (eC (.int 0))) 1.17) (tgN 2))
 (a_ (cz (e2 m9 (e2 gIx (aq true 0) (eC (.int 0))) 1.17) (fO fQ 0 (bY 0) (eC (.int 0))))
 (dG 2))) c7)
 (a_ (cz (e2 mO (e2 fG (e2 nQ (e2 gIx (aq true 0) (eC (.int 1))) (eC (.int 48271))) (eC (.int 39373))) (eC (.int 2147483647))) (fO fQ 0 (bY 0) (eC (.int 1))))
 (a_ (cz (e2 m9 (e2 gIx (aq true 0) (eC (.int 1))) (eC (.int 64))) (tgN 3))
 (eF (e2 mO (e2 m9 (e2 mO (e2 nQ 1.49 (e2 fG (e2 mO 1.49 (eC (.int 1009))) (eC (.int 3)))) (eC (.int 998244353))) (eC (.int 64))) 1.17))))))
def fD:List D->Option (D×List D):=fnI (λi=>i==0) 1 5 ((a_ (cz (eMt wj (eC (.str "b aa zebra c quartzes ab m knows d mm likes z a ba abcdefgh y q qq x yx")) (ak (eC (.str " ")) aD)) (tgN 1))
 (a_ (bW (eIo aP [0] (dB (ak (eC (.int 8)) aD))) (tgN 2))
 (a_ (bW (ee2 fG (eUp (eC (.int 4))) (eIo aP [0] (dB (ak (eC (.int 5)) aD)))) (tgN 3))
 (a_ (sIf (eB (e2 gEq 1.35 (eC (.int 0)))) (bW (ee2 fG (eUp (eC (.int 10))) (eIo aP [0] (dB (ak (eC (.int 11)) aD)))) (tgN 3)) c7)
 (a_ (sIf (eB (e2 gEq 1.35 (eC (.int 1)))) (bW (eIo aP [0] (dB (ak (eC (.int 3)) aD))) (tgN 3)) c7)
 (a_ (bW (eIo aP [0] (dB (ak (eC (.int 20)) aD))) (tgN 4))
 (eF (eSl (e2 fG (eSl 1.17 (fW 1.60) gw) (eSl 1.17 gw (fW 1.60))) gw (fW 1.49))))))))))
def gn:List D->Option (D×List D):=fnI (λi=>i==0) 1 1 ((gK (ee2 gIx (eUp (eAp dq (ak (eC (.int 0)) (ak (eC (.int 1)) (ak (eC (.int 2)) (ak (eC (.int 3)) (ak (eC (.int 7)) (ak (eC (.int 1000)) (ak (eC (.int 0)) (ak (eC (.int 2)) aD)))))))))) (eIo aP [0] (dB (ak (eC (.int 8)) aD))))))
def fP:List D->Option (D×List D):=fnI (λi=>i==0) 1 1 ((a_ (jm (eeB (ee2 gEq (eIo aP [0] (dB (ak (eC (.int 6)) aD))) (eUp (eC (.int 0))))) (gK (ee2 gIx (kE dq (dR (eUp (e2 nq (eC (.int 10)) (eC (.int 12)))) (dR (eUp (e1 iz (e2 nq (eC (.int 10)) (eC (.int 12))))) (dR (ee2 iY (eUp (e2 iY (e2 nq (eC (.int 10)) (eC (.int 12))) (eC (.int 1)))) (eIo aP [0] (dB (ak (eC (.int 9)) aD)))) (dB (ak (eC (.int 999)) aD)))))) (eIo aP [0] (dB (ak (eC (.int 4)) aD))))) c7)
 (gK (ee2 iY (eIo aP [0] (dB (ak (eC (.int 15)) aD))) (eUp (eC (.int 7)))))))
def fJ:List D->Option (D×List D):=fnI (λi=>i==0) 2 2 ((gK (kE vO (dR (gk [none,some 0] (itS 1.17) (tgN 0) eTT (kE cG (dR (eUp 1.19) (dR (eIo fP [1] (dB aD)) (dB aD))))) (dB aD)))))
def iM:List D->Option D:=fnP 1 1 ((a_ (sIf (jL (iI (eAp eE (ak 1.19 (ak (eC (.ty "str")) aD))))) (eF (eC (.bl false))) c7)
 (a_ (sIf (eOr (eB (e2 gLt (eAp eQ (ak 1.19 aD)) (eC (.int 1)))) (eB (e2 gGt (eAp eQ (ak 1.19 aD)) (eC (.int 8))))) (eF (eC (.bl false))) c7)
 (eF (eAp Ih (ak (fY [none] (HN 1.19) (tpN 0) eTT (e2 gIn 1.19 (eC (.str "abcdefghijklmnopqrstuvwxyz")))) aD))))))
def fH:List D->Option D:=fnP 3 3 ((sIf (eOr (jL (iI (eAp (bz iM) (ak 1.17 aD)))) (eB (e2 gIn 1.17 1.19))) oE c7))
def d9:List D->Option D:=fnP 1 3 ((iD (itE (ak 1.19 aD)) (tgT 2 (aO (tgN 1) (aO (tgN 2) bZ))) (sEx (eUp (eAp (bz fH) (ak (eSl 1.19 gw (fW 1.17)) (ak 1.35 (ak 1.17 aD))))))))
def cD:List D->Option (D×List D):=fnI (λi=>i==0) 3 3 ((a_ (sEx (eUp (eAp (bz d9) (ak 1.17 aD))))
 (a_ (bW (eUp 1.35) (kZ "Stack" "turn" 0 (bY 0)))
 (a_ (bW (eUp (mQ [none] (itS 1.17) (tpN 0) eTT 1.19 (eC (.int 0)))) (kZ "Stack" "weights" 0 (bY 0)))
 (a_ (bW (eUp (eAp C_ aD)) (kZ "Stack" "behind" 0 (bY 0)))
 (a_ (bW (eUp (mQ [none] (itS 1.17) (tpN 0) eTT 1.19 (eC (.int 1)))) (kZ "Stack" "sizes" 0 (bY 0)))
 (a_ (bW (eUp (eAp dq aD)) (kZ "Stack" "done" 0 (bY 0)))
 (bW (eUp (eC (.int 0))) (kZ "Stack" "looked" 0 (bY 0))))))))))
def dF:List D->Option D:=fnP 2 6 ((a_ (cz (eAp dq aD) (tgN 2))
 (a_ (iD (itS 1.17) (tgT 3 (aO (tgN 3) (aO (tgN 4) (aO (tgN 5) bZ)))) (a_ (sIf (eB (e2 gEq 1.49 1.19)) (fj aR 2 (bY 2) (ak (eAp cG (ak 1.60 (ak (aq false 5) aD))) aD)) c7)
 (sIf (eB (e2 gEq 1.60 1.19)) (fj aR 2 (bY 2) (ak (eAp cG (ak 1.49 (ak (e2 iY (eC (.int 0)) (aq false 5)) aD))) aD)) c7)))
 (dG 2))))
def eU:List D->Option D:=fnP 2 8 ((a_ (cz (eAp C_ aD) (tgN 2))
 (a_ (iD (itS (eAp jN (ak 1.19 aD))) (tgN 3) (sIf (eB (e2 gj 1.49 1.35)) (a_ (cz (eAp cG (ak 1.49 (ak (eC (.int 0)) aD))) (fO fQ 2 (bY 2) 1.49))
 (a_ (cz (eAp dq (ak 1.49 aD)) (tgN 4))
 (a_ (cz (eC (.int 0)) (tgN 5))
 (jE (jd (eB (e2 gLt (aq false 5) (eAp eQ (ak 1.60 aD))))) (a_ (iD (itS (eAp (bz dF) (ak (e2 gIx 1.60 (aq false 5)) (ak 1.17 aD)))) (tgT 2 (aO (tgN 6) (aO (tgN 7) bZ))) (sIf (eB (e2 gj (aq false 6) 1.35)) (a_ (cz (eAp cG (ak 1.49 (ak (e2 fG (e2 gIx (e2 gIx 1.35 (e2 gIx 1.60 (aq false 5))) (eC (.int 1))) (aq false 7)) aD))) (fO fQ 2 (bY 2) (aq false 6)))
 (fj aR 4 (bY 4) (ak (aq false 6) aD))) c7))
 (cz (e2 fG (aq false 5) (eC (.int 1))) (tgN 5))) 1000000)))) c7))
 (dG 2))))
def dg:List D->Option D:=fnP 2 4 ((a_ (cz (eAp C_ aD) (tgN 2))
 (a_ (iD (itS (eAp jN (ak 1.19 aD))) (tgN 3) (Jk 2 (ak (e2 gIx (e2 gIx 1.17 1.49) (eC (.int 0))) (ak (eAp dq aD) aD)) (ak 1.49 aD)))
 (wA 2))))
def cA:List D->Option D:=fnP 2 7 ((a_ (cz (mQ [none] (itS 1.19) (tpN 0) eTT 1.19 (eAp dq aD)) (tgN 2))
 (a_ (iD (itE (ak 1.17 aD)) (tgT 2 (aO (tgN 3) (aO (tgT 3 (aO (tgN 4) (aO (tgN 5) (aO (tgN 6) bZ)))) bZ))) (a_ (fj aR 2 (jC 2 (bY 2) 1.60) (ak (eAp cG (ak 1.49 (ak (eC (.int 1)) (ak (aq false 5) aD)))) aD))
 (fj aR 2 (jC 2 (bY 2) (aq false 5)) (ak (eAp cG (ak 1.49 (ak (e1 iz (eC (.int 1))) (ak 1.60 aD)))) aD))))
 (dG 2))))
def dh:List D->Option D:=fnP 2 8 ((a_ (cz (CK (v6 1.17 (eAp cG aD) GJ)) (tgN 2))
 (a_ (cz (eAp dq (ak 1.17 aD)) (tgN 3))
 (a_ (jE (jd (iI (aq true 3))) (a_ (bW (g8 lq 3 (bY 3) (ak (eC (.int 0)) aD)) (tgN 4))
 (iD (itS (e2 gIx 1.19 1.60)) (tgT 3 (aO (tgN 5) (aO (tgN 6) (aO (tgN 7) bZ)))) (sIf (eB (e2 gj (aq false 7) 1.35)) (a_ (cz (e2 fG (e2 gIx 1.35 1.60) (eAp cG (ak (eAp cG (ak (aq false 5) (ak (aq false 6) aD))) aD))) (fO fQ 2 (bY 2) (aq false 7)))
 (fj aR 3 (bY 3) (ak (aq false 7) aD))) c7))) 1000000)
 (dG 2)))))
def gZ:List D->Option D:=fnP 2 7 ((a_ (cz (eAp (bz cA) (ak 1.19 (ak 1.17 aD))) (tgN 2))
 (a_ (cz (eAp C_ aD) (tgN 3))
 (a_ (cz (eAp dq aD) (tgN 4))
 (a_ (iD (itS (eAp jN (ak 1.19 aD))) (tgN 5) (sIf (eB (e2 gj (aq false 5) 1.49)) (a_ (cz (eAp (bz dh) (ak 1.35 (ak (aq false 5) aD))) (tgN 6))
 (a_ (sFz 6 (fj qt 3 (bY 3) (ak (aq false 6) aD)))
 (fj aR 4 (bY 4) (ak (aq false 6) aD)))) c7))
 (dG 4))))))
def gP:List D->Option D:=fnP 2 2 ((eF (fY [none] (itS (eAp (bz gZ) (ak 1.19 (ak 1.17 aD)))) (tpN 0) eTT (eAp jn (ak 1.19 aD)))))
def bj:List D->Option D:=fnP 1 1 ((eF (fY [none,none] (itS (e1 (ir "Stack" "done") 1.19)) (tpT 2 (aO (tpN 0) (aO (tpN 1) bZ))) (eB (e2 gEq (e2 gIx 1.19 (eC (.int 0))) (eC (.str "join")))) (eSl 1.19 (fW (eC (.int 1))) gw))))
def bJ:List D->Option D:=fnP 1 1 ((eF (eAp (bz gP) (ak (eAp sX (ak (e1 (ir "Stack" "weights") 1.19) aD)) (ak (eMt (dU "Stack" "standing" bj) 1.19 aD) aD)))))
def dM:List D->Option (D×List D):=fnI (λi=>i==0) 2 4 ((a_ (cz (e2 gIx (e1 (ir "Stack" "behind") (aq true 0)) 1.17) (tgT 2 (aO (tgN 2) (aO (tgN 3) bZ))))
 (a_ (wK (λi j=>i-j) 0 (qz 0 (bY 0) "Stack" "sizes") 1.35 (e2 gIx (e1 (ir "Stack" "sizes") (aq true 0)) 1.17))
 (MF 0 (qz 0 (bY 0) "Stack" "behind") 1.17))))
def dH:List D->Option (D×List D):=fnI (λi=>i==0) 1 3 ((a_ (sIf (eB (e2 gEq (eAp eQ (ak (e1 (ir "Stack" "done") (aq true 0)) aD)) (eC (.int 0)))) (eF (eC .non)) c7)
 (a_ (bW (g8 ww 0 (qz 0 (bY 0) "Stack" "done") aD) (tgT 2 (aO (tgN 1) (aO (tgN 2) bZ))))
 (a_ (sIf (eB (e2 gEq (e2 gIx 1.17 (eC (.int 0))) (eC (.str "weigh")))) oE (sIf (eB (e2 oV 1.35 (eC .non))) (sEx (qU "Stack" "unhang" dM 0 (dB (ak 1.35 aD)))) c7))
 (dG 1)))))
def d_:List D->Option (D×List D):=fnI (λi=>i==0) 4 7 ((a_ (bW (ee2 gIx (eUp 1.17) (eIo aP [0] (dB (ak (eAp eQ (ak 1.17 aD)) aD)))) (tgN 4))
 (a_ (bW (ee2 gIx (eUp 1.17) (eIo aP [0] (dB (ak (eAp eQ (ak 1.17 aD)) aD)))) (tgN 5))
 (a_ (bW (ee2 fG (eUp (e2 iY (e2 gIx 1.35 (aq false 5)) (e2 gIx 1.35 1.60))) (ee2 nQ (eUp 1.49) (ee2 iY (eIo aP [0] (dB (ak (eC (.int 3)) aD))) (eUp (eC (.int 1)))))) (tgN 6))
 (a_ (jm (eeB (ee2 gEq (eIo aP [0] (dB (ak (eC (.int 3)) aD))) (eUp (eC (.int 0))))) (bW (ee2 fG (eUp (aq false 6)) (eIo fP [0] (dB aD))) (tgN 6)) c7)
 (eF (eAp cG (ak 1.60 (ak (aq false 5) (ak (eAp G8 (ak (e1 iz (e2 nq (eC (.int 10)) (eC (.int 12)))) (ak (eAp kY (ak (e2 nq (eC (.int 10)) (eC (.int 12))) (ak (aq false 6) aD))) aD))) aD))))))))))
def cg:List D->Option D:=fnP 2 2 ((sIf (eB (e2 gj 1.17 1.19)) oE c7))
def e_:List D->Option D:=fnP 3 3 ((eF (eAp jn (ak (eAp (bz dh) (ak (eAp (bz cA) (ak 1.19 (ak 1.17 aD))) (ak 1.35 aD))) aD))))
def cF:List D->Option D:=fnP 2 2 ((a_ (sEx (eUp (eAp (bz cg) (ak (e1 (ir "Stack" "weights") 1.19) (ak 1.17 aD)))))
 (eF (eAp (bz e_) (ak (eAp sX (ak (e1 (ir "Stack" "weights") 1.19) aD)) (ak (eMt (dU "Stack" "standing" bj) 1.19 aD) (ak 1.17 aD)))))))
def bc(Frec:List D->Option D):List D->Option D:=fnP 2 2 ((a_ (sIf (eB (e2 gIs 1.17 (eC .non))) oE c7)
 (a_ (sIf (iI (eAp eE (ak 1.17 (ak (eC (.ty "bool")) aD)))) oE c7)
 (a_ (sIf (iI (eAp eE (ak 1.17 (ak (eAp cG (ak (eC (.ty "list")) (ak (eC (.ty "tuple")) aD))) aD)))) (a_ (sIf (eOr (eB (e2 gNe (eAp eE (ak 1.19 (ak (eC (.ty "list")) aD))) (eAp eE (ak 1.17 (ak (eC (.ty "list")) aD))))) (eB (e2 gNe (eAp eE (ak 1.19 (ak (eC (.ty "tuple")) aD))) (eAp eE (ak 1.17 (ak (eC (.ty "tuple")) aD)))))) oE c7)
 (eF (lV (e2 gEq (eAp eQ (ak 1.19 aD)) (eAp eQ (ak 1.17 aD))) (eAp Ih (ak (fY [none,none] (itZ (ak 1.19 (ak 1.17 aD))) (tpT 2 (aO (tpN 0) (aO (tpN 1) bZ))) eTT (eAp (bz Frec) (ak 1.19 (ak 1.17 aD)))) aD))))) c7)
 (a_ (sIf (iI (eAp eE (ak 1.17 (ak (eC (.ty "str")) aD)))) (eF (lV (eAp eE (ak 1.19 (ak (eC (.ty "str")) aD))) (e2 gEq 1.19 1.17))) c7)
 oE)))))
def cT:List D->Option D:=(bc (bc (bc (λ_=>none))))
def dY:List D->Option D:=fnP 2 2 ((a_ (sIf (eB (e2 gEq 1.19 (eC (.int 0)))) (dG 1) c7)
 (eF (e2 mO 1.17 1.19))))
def bI:List D->Option D:=fnP 2 3 ((a_ (sEx (eUp (eAp (bz cg) (ak (e1 (ir "Stack" "weights") 1.19) (ak 1.17 aD)))))
 (a_ (cz (eAp dq (ak 1.17 aD)) (tgN 2))
 (a_ (jE (jd (eB (e2 gIn (e2 gIx 1.35 (e1 iz (eC (.int 1)))) (e1 (ir "Stack" "behind") 1.19)))) (fj aR 2 (bY 2) (ak (e2 gIx (e2 gIx (e1 (ir "Stack" "behind") 1.19) (e2 gIx 1.35 (e1 iz (eC (.int 1))))) (eC (.int 0))) aD)) 1000000)
 (dG 2)))))
def bF:List D->Option D:=fnP 2 2 ((eF (eAp Rq (ak (fY [none,some 0] (itS (eSl 1.17 gw (fW (e1 iz (eC (.int 1)))))) (tpN 0) eTT (e2 gIx (e2 gIx (e1 (ir "Stack" "behind") 1.17) 1.19) (eC (.int 1)))) aD))))
def d8:List D->Option (D×List D):=fnI (λi=>i==0) 3 5 ((a_ (sEx (eUp (eAp (bz cg) (ak (e1 (ir "Stack" "weights") (aq true 0)) (ak 1.17 aD)))))
 (a_ (sEx (eUp (eAp (bz cg) (ak (e1 (ir "Stack" "weights") (aq true 0)) (ak 1.35 aD)))))
 (a_ (sIf (eB (e2 gEq 1.17 1.35)) (a_ (bW (eUp (eC (.int 1))) (kZ "Stack" "looked" 0 (bY 0)))
 (eF (eC (.int 0)))) c7)
 (a_ (aL (ak (eMt (dU "Stack" "chain" bI) (aq true 0) (ak 1.17 aD)) (ak (eMt (dU "Stack" "chain" bI) (aq true 0) (ak 1.35 aD)) aD)) (aO (tgN 3) (aO (tgN 4) bZ)))
 (a_ (bW (eUp (eAp l_ (ak (e2 fG 1.49 1.60) aD))) (kZ "Stack" "looked" 0 (bY 0)))
 (a_ (sIf (eB (e2 gNe (e2 gIx 1.49 (e1 iz (eC (.int 1)))) (e2 gIx 1.60 (e1 iz (eC (.int 1)))))) (eF (eC .non)) c7)
 (eF (eAp (bz dY) (ak (e1 (ir "Stack" "turn") (aq true 0)) (ak (e2 iY (eMt (dU "Stack" "offset" bF) (aq true 0) (ak 1.60 aD)) (eMt (dU "Stack" "offset" bF) (aq true 0) (ak 1.49 aD))) aD)))))))))))
def eV:List D->Option (D×List D):=fnI (λi=>i==0) 4 9 ((a_ (aL (ak (eMt (dU "Stack" "chain" bI) (aq true 0) (ak 1.17 aD)) (ak (eMt (dU "Stack" "chain" bI) (aq true 0) (ak 1.35 aD)) aD)) (aO (tgN 4) (aO (tgN 5) bZ)))
 (a_ (cz (e2 iY (e2 fG (eMt (dU "Stack" "offset" bF) (aq true 0) (ak 1.60 aD)) 1.49) (eMt (dU "Stack" "offset" bF) (aq true 0) (ak (aq false 5) aD))) (tgN 6))
 (a_ (aL (ak (e2 gIx 1.60 (e1 iz (eC (.int 1)))) (ak (e2 gIx (aq false 5) (e1 iz (eC (.int 1)))) aD)) (aO (tgN 7) (aO (tgN 8) bZ)))
 (a_ (sIf (eB (e2 gLt (e2 gIx (e1 (ir "Stack" "sizes") (aq true 0)) (aq false 7)) (e2 gIx (e1 (ir "Stack" "sizes") (aq true 0)) (aq false 8)))) (dX (dB (ak (aq false 8) (ak (aq false 7) (ak (e1 iz (aq false 6)) aD)))) (aO (tgN 7) (aO (tgN 8) (aO (tgN 6) bZ)))) c7)
 (a_ (cz (eAp cG (ak (aq false 7) (ak (aq false 6) aD))) (fO fQ 0 (qz 0 (bY 0) "Stack" "behind") (aq false 8)))
 (a_ (wK (λi j=>i+j) 0 (qz 0 (bY 0) "Stack" "sizes") (aq false 7) (e2 gIx (e1 (ir "Stack" "sizes") (aq true 0)) (aq false 8)))
 (dG 8))))))))
def eX:List D->Option (D×List D):=fnI (λi=>i==0) 4 7 ((a_ (bW (qU "Stack" "steps" d8 0 (dB (ak 1.17 (ak 1.35 aD)))) (tgN 4))
 (a_ (sIf (mD (eB (e2 oV 1.60 (eC .non))) (eB (e2 gNe 1.60 (eAp (bz dY) (ak (e1 (ir "Stack" "turn") (aq true 0)) (ak 1.49 aD)))))) (eF (eAp cG (ak (eC (.str "clash")) (ak 1.60 aD)))) c7)
 (a_ (cz (eAp eQ (ak (eMt (dU "Stack" "standing" bj) (aq true 0) aD) aD)) (tgN 5))
 (a_ (bW (aM (jd (eB (e2 gIs 1.60 (eC .non)))) (qU "Stack" "hang" eV 0 (dB (ak 1.17 (ak 1.35 (ak 1.49 aD))))) (eUp (eC .non))) (tgN 6))
 (a_ (fj aR 0 (qz 0 (bY 0) "Stack" "done") (ak (eAp cG (ak (eAp cG (ak (eC (.str "join")) (ak 1.17 (ak 1.35 (ak 1.49 aD))))) (ak (aq false 6) aD))) aD))
 (eF (eAp cG (ak (aW (eB (e2 gIs 1.60 (eC .non))) (eC (.str "joined")) (eC (.str "known"))) (ak (aq false 5) aD))))))))))
def mL:List D->Option D:=fnP 1 15 ((a_ (cz (eAp (bz dJ) (ak 1.19 (ak (eC (.int 0)) aD))) (tgN 1))
 (a_ (bW (eIo fD [1] (dB aD)) (tgN 2))
 (a_ (bW (eIo gn [1] (dB aD)) (tgN 3))
 (a_ (bW (eIo fJ [1] (dB (ak 1.35 aD))) (tgN 4))
 (a_ (cz (eAp (yP "Stack" cD) (ak (eAp jT (ak 1.35 aD)) (ak 1.49 aD))) (tgN 5))
 (a_ (cz (eAp dq aD) (tgN 6))
 (a_ (sIf (eB (e2 gEq 1.35 (eAp dq aD))) (eF (e2 gEq (eMt (dU "Stack" "all_classes" bJ) (aq true 5) aD) (eAp dq aD))) c7)
 (a_ (iD (jB (ak (e2 fG (eC (.int 10)) (eAp kY (ak (eC (.int 30)) (ak (eAp eQ (ak 1.19 aD)) aD)))) aD)) (tgN 7) (a_ (cz (eAp (bz dJ) (ak 1.19 (ak (e2 fG (aq false 7) (eC (.int 1))) aD))) (tgN 1))
 (a_ (jm (eeB (ee2 gEq (eIo aP [1] (dB (ak (eC (.int 4)) aD))) (eUp (eC (.int 0))))) (a_ (sEx (qU "Stack" "back" dH 5 (dB aD)))
 (cz (eSl (aq false 6) gw (fW (e1 iz (eC (.int 1))))) (tgN 6))) (a_ (bW (eIo d_ [1] (dB (ak 1.35 (ak 1.60 (ak 1.49 aD))))) (tgN 8))
 (jm (eeB (ee2 gNe (ee2 gIx (qU "Stack" "join" eX 5 (dB (ak (e2 gIx (aq false 8) (eC (.int 0))) (ak (e2 gIx (aq false 8) (eC (.int 1))) (ak (e2 gIx (aq false 8) (eC (.int 2))) aD))))) (eUp (eC (.int 0)))) (eUp (eC (.str "clash"))))) (fj aR 6 (bY 6) (ak (aq false 8) aD)) c7)))
 (a_ (cz (eAp (bz eU) (ak 1.35 (ak (aq false 6) aD))) (tgN 9))
 (a_ (cz (eAp (bz dg) (ak 1.35 (ak (aq false 9) aD))) (tgN 10))
 (iD (jB (ak (eC (.int 2)) aD)) (tgN 11) (a_ (cz (eMt (dU "Stack" "all_classes" bJ) (aq true 5) aD) (tgN 12))
 (a_ (sIf (jL (iI (eAp (bz cT) (ak (aq false 12) (ak (aq false 10) aD))))) (eF (eC (.bl false))) c7)
 (a_ (fj aR 12 (jC 12 (bY 12) (eC (.int 0))) (ak (eC (.str "more")) aD))
 (a_ (fj lX 12 (bY 12) aD)
 (a_ (bW (ee2 gIx (eUp 1.35) (eIo aP [1] (dB (ak (eAp eQ (ak 1.35 aD)) aD)))) (tgN 13))
 (a_ (cz (eMt (dU "Stack" "class_of" cF) (aq true 5) (ak (aq false 13) aD)) (tgN 14))
 (a_ (sIf (jL (iI (eAp (bz cT) (ak (aq false 14) (ak (e2 gIx (fY [none,some 13] (itS (aq false 10)) (tpN 0) (eB (e2 gIn 1.17 1.19)) 1.19) (eC (.int 0))) aD))))) (eF (eC (.bl false))) c7)
 (fj aR 14 (bY 14) (ak (eC (.str "more")) aD)))))))))))))))
 (eF (eC (.bl true))))))))))))
abbrev tp(a b:Int):D:=.lst .own [.int a,.int b]
def Dr(m:Int)(q:D×List D):Prop:=∃r Z B:Int,q=(.int r,[tp Z B,.int m])/\0<=r/\r<m/\0<=Z
local macro_rules
 |`(tactic|simp_arith[$xs,*])=>`(tactic|simp[aH,gA,aU,cU,w_ite,i_,cz,bW,dX,sIf,jm,eF,gK,dG,c7,iD,jY,sFz,k_,fj,g8,upS,tgN,tgT,aO,bZ,fO,tpN,tpT,bY,jC,aq,eC,aD,ak,eAp,eUp,jd,dB,ee2,dR,kE,e2,e1,eB,eeB,iI,mD,eOr,jL,j6,lV,eTT,isB,jB,itS,itE,jZ,b7,fY,gk,eSl,ql,mU,jG,gw,fW,eMt,qw,eIo,objs,gm,bz,cV,dz,clean,aC,aB,az,aA,bR,bQ,view,cH,mkV,mkF,fz,fzL,fzo,fV,mkO,fnP,fnI,en0,outs,fU,dW,obC,truth,$xs,*])
variable{b:Int}
theorem JS{a m:Int}(Y:0<=a)(D:0<m)(z:m<2 ^ 60):∃r Z B,aP [tp a b,.int m]=some (.int r,[tp Z B,.int m])/\0<=r/\r<m/\0<=Z:=by
 have h2:m<18446744073709551616:=by omega
 have J:∀x:Int,-18446744073709551616<x % 1009+3/\x % 1009+3<18446744073709551616:=λx=>by omega
 have V:Wp (aP [tp a b,.int m]) (Dr m):=by
  by_cases h:0<a
  .simp_arith[aP,sEx,aL,aW,aM,fG,iY,nQ,m9,mO,nq,iz,gLt,gGt,gGe,gIx,dq,cG,eQ,uy,vN,kY,gIs,jr,atI,ixN,aR,fQ,gSl,vU,jT,h,D,h2,J]
   exact⟨_,_,_,rfl,agk _ 1.11,afQ _ D,Int.ediv_nonneg Y 1.11⟩
  .simp_arith[aP,sEx,aL,aW,aM,fG,iY,nQ,m9,mO,nq,iz,gLt,gGt,gGe,gIx,dq,cG,eQ,uy,vN,kY,gIs,jr,atI,ixN,aR,fQ,gSl,vU,jT,h,D,h2,J]
   exact⟨_,_,_,rfl,agk _ 1.11,afQ _ D,Y⟩
 obtain⟨q,e,r,Z,B,rfl,h⟩:=V;exact⟨r,Z,B,e,h⟩
theorem iB{a m:Int}{Q:D×List D->Prop}(Y:0<=a)(J:0<m)(z:m<2 ^ 60)(h:∀r Z B,0<=r->r<m->0<=Z->Q (.int r,[tp Z B,.int m])):Wp (aP [tp a b,.int m]) Q:=
 let⟨r,Z,B,e,h1,h2,h3⟩:=JS Y J z;HH e (h r Z B h1 h2 h3)
theorem oX(b:Bool)(l:List Int):cH b (l.map D.int)=l.map D.int:=by rw[cP,ZX];rfl
theorem uE(l:List Int):fzL (l.map D.int)=l.map D.int:=by rw[f9,ZX];rfl
theorem rH(l:List Int):az (l.map D.int)=true:=bH λd hd=>by obtain⟨x,_,rfl⟩:=ZG.mp hd;rfl
theorem qO(l:List Int):aA (l.map D.int)=true:=bC λd hd=>by obtain⟨x,_,rfl⟩:=ZG.mp hd;rfl
def Tw(d:D):Prop:=∃a b:Int,d=tp a b/\0<=a
set_option hygiene false
local macro_rules
 |`(tactic|simp_arith![$x,*])=>`(tactic|simp only[$x,*,en0,Z3,aaq,ZF,aao,aax,aab,aU,Nat.reduceAdd,Nat.reduceSub,Z_,List.nil_append])
set_option hygiene true
theorem UT{ns:List Int}{k:Int}(I:0<=k)(B:k<=100):Wp (dJ [.lst .scr (ns.map D.int),.int k]) Tw:=by
 have z:eQ [.lst .scr (ns.map D.int)]=some (.int ns.length):=by simp[eQ]
 simp_arith![dJ,fnP];refine aX (λρ=>ρ=[some (.lst .scr (ns.map D.int)),some (.int k),some (.int 0),none]) (λQ U=>by simp_arith[sEx,aL,aW,aM];exact U _ rfl) ?_;rintro _ rfl;refine aX (λρ=>∃c:Int,ρ=[some (.lst .scr (ns.map D.int)),some (.int k),some (.int c),none]) (λQ U=>?_) ?_
 .by_cases h:k<(ns.length:Int)
  .obtain⟨c,_,_,hc⟩:=uP (f:=D.int) (l:=ns) (i:=k) I h
   simp_arith[sEx,aL,aW,aM,oX,z,gLt,h,Nr,hc];exact U _ ⟨_,rfl⟩
  .simp_arith[sEx,aL,aW,aM,oX,z,gLt,h]
   exact U _ ⟨_,rfl⟩
 rintro _ ⟨c,rfl⟩;simp_arith[sEx,aL,aW,aM,uy,nq,gGe,vN,nQ,mO,fG,dq];have J:(0:Int)<=if c<0 then -c else c:=by split<;>omega
 generalize (if c<0 then -c else c)=u at J⊢;refine⟨.inr ?_,_,_,rfl,?_⟩
 .split<;>omega
 .split<;>omega
def Tn(q:D×List D):Prop:=∃t Z B:Int,q=(.int t,[tp Z B])/\0<=t/\t<=1000/\0<=Z
theorem Vb{a:Int}(Y:0<=a):Wp (gn [tp a b]) Tn:=by
 obtain⟨r,q,B,e,h1,h2,Z⟩:=JS (b:=b) Y (show(0:Int)<8 by decide) (by decide);have O:r=0∨r=1∨r=2∨r=3∨r=4∨r=5∨r=6∨r=7:=by omega
 rcases O with rfl|rfl|rfl|rfl|rfl|rfl|rfl|rfl<;>simp_arith[gn,sEx,aL,aW,aM,fG,iY,nQ,m9,mO,nq,iz,gLt,gGt,gGe,gIx,dq,cG,eQ,uy,vN,kY,gIs,jr,atI,ixN,aR,fQ,gSl,vU,jT,e]<;>exact⟨_,_,_,rfl,by decide,by decide,Z⟩
variable{ds:List D}
theorem Nh:cutD ds none (some (k:Int))=ds.take k:=by
 unfold cutD;rw[HT.sIx_none,HT.sIx_nat,ae1,Nat.sub_zero];rcases Nat.le_total k ds.length with h|h
 .rw[agl h]
 .rw[agg h,acf,acr h]
theorem JR:cutD ds (some (k:Int)) none=ds.drop k:=by
 unfold cutD;rw[HT.sIx_none,HT.sIx_nat];rcases Nat.le_total k ds.length with h|h
 .rw[agl h,acr (by simp)]
 .rw[agg h,abK,List.drop_of_length_le h];simp
def jR:List Str:=["b","aa","zebra","c","quartzes","ab","m","knows","d","mm","likes","z","a","ba","abcdefgh","y","q","qq","x","yx"]
theorem Pq:z_ "b aa zebra c quartzes ab m knows d mm likes z a ba abcdefgh y q qq x yx" " "=some jR:=by decide +kernel
theorem Y6:jR.Nodup:=by decide +kernel
def Nm(q:D×List D):Prop:=∃(ns:List Str)(Z B:Int),q=(.lst .own 1.14,[tp Z B])/\(∀x∈ns,x∈jR)/\ns.Nodup/\ns.length<=20/\0<=Z
theorem Qp{a:Int}(Y:0<=a):Wp (fD [tp a b]) Nm:=by
 simp_arith![fD,fnI];refine aX (λρ=>ρ=[some (tp a b),some (.lst .own (jR.map D.str)),none,none,none]) (λQ U=>by simp_arith[sEx,aL,aW,aM,wj,Pq,bU,bM];exact U _ rfl) ?_;rintro _ rfl;refine aX (λρ=>∃w Z B:Int,0<=Z/\ρ=[some (tp Z B),some (.lst .own (jR.map D.str)),some (.int w),none,none]) (λQ U=>?_) ?_
 .simp_arith[sEx,aL,aW,aM]
  refine iB Y 1.11 1.11 λr a1 b1 p1 q1 F=>?_;simp_arith[sEx,aL,aW,aM];exact U _ ⟨r,a1,b1,F,rfl⟩
 rintro _ ⟨w,a1,b1,F,rfl⟩;refine aX (λρ=>∃(n:Nat)(Z B:Int),n<=20/\0<=Z/\ρ=[some (tp Z B),some (.lst .own (jR.map D.str)),some (.int w),some (.int n),none]) (λQ U=>?_) ?_
 .simp_arith[sEx,aL,aW,aM]
  refine iB F 1.11 1.11 λr a2 b2 p2 q2 O=>?_;simp_arith[sEx,aL,aW,aM,fG];exact U _ ⟨(4+r).toNat,a2,b2,by omega,O,by rw[show(((4+r).toNat:Nat):Int)=4+r by omega]⟩
 rintro _ ⟨n,a2,b2,V,O,rfl⟩;refine aX (λρ=>∃(n:Nat)(Z B:Int),n<=20/\0<=Z/\ρ=[some (tp Z B),some (.lst .own (jR.map D.str)),some (.int w),some (.int n),none]) (λQ U=>?_) ?_
 .simp_arith[sEx,aL,aW,aM,eq_int]
  split
  .refine iB O 1.11 1.11 λr a3 b3 p3 q3 z=>?_
   simp_arith[sEx,aL,aW,aM,fG];exact U _ ⟨(10+r).toNat,a3,b3,by omega,z,by rw[show(((10+r).toNat:Nat):Int)=10+r by omega]⟩
  .exact U _ ⟨n,a2,b2,V,O,rfl⟩
 clear V n;rintro _ ⟨n,a3,b3,V,z,rfl⟩;refine aX (λρ=>∃(n:Nat)(Z B:Int),n<=20/\0<=Z/\ρ=[some (tp Z B),some (.lst .own (jR.map D.str)),some (.int w),some (.int n),none]) (λQ U=>?_) ?_
 .simp_arith[sEx,aL,aW,aM,eq_int]
  split
  .refine iB z 1.11 1.11 λr a4 b4 p4 q4 q=>?_
   simp_arith[sEx,aL,aW,aM];exact U _ ⟨r.toNat,a4,b4,by omega,q,by rw[show((r.toNat:Nat):Int)=r by omega]⟩
  .exact U _ ⟨n,a3,b3,V,z,rfl⟩
 clear V n;rintro _ ⟨n,a4,b4,V,q,rfl⟩;refine aX (λρ=>∃(k:Nat)(Z B:Int),k<20/\0<=Z/\ρ=[some (tp Z B),some (.lst .own (jR.map D.str)),some (.int w),some (.int n),some (.int k)]) (λQ U=>?_) ?_
 .simp_arith[sEx,aL,aW,aM]
  refine iB q 1.11 1.11 λr a5 b5 p5 q5 s5=>?_;simp_arith[sEx,aL,aW,aM];exact U _ ⟨r.toNat,a5,b5,by omega,s5,by rw[show((r.toNat:Nat):Int)=r by omega]⟩
 rintro _ ⟨k,a5,b5,I,s5,rfl⟩;simp_arith[sEx,aL,aW,aM,bU,bM,bB,gSl,fG,Nh,JR];have e5:((List.drop k (Z9 D.str jR)++List.take k (Z9 D.str jR)).take n)=((jR.drop k++jR.take k).take n).map D.str:=by
  rw[adv,ZW,List.map_drop,adv]
 have pm:(jR.drop k++jR.take k).Perm jR:=acF.trans (by rw[adB]);rw[e5];refine⟨by show 20-k+min k 20<=1000000;omega,⟨bU _,bM _⟩,_,a5,b5,rfl,λx J=>pm.subset (afm J),?_,by rw[abe];omega,s5⟩;exact(afW _ _).nodup (pm.nodup_iff.mpr Y6)
def Fa(q:D×List D):Prop:=∃t Z B:Int,q=(.int t,[tp Z B])/\t.natAbs<=1000000000000/\0<=Z
theorem TX{a:Int}(Y:0<=a):Wp (fP [tp a b]) Fa:=by
 have go:∀{r:Int}{Z B:Int},r.natAbs<=1000000000000->0<=Z->Fa (.int r,[tp Z B]):=λh1 h2=>⟨_,_,_,rfl,h1,h2⟩;simp_arith[fP,sEx,aL,aW,aM];refine iB Y 1.11 1.11 λr a1 q p1 q1 F=>?_;simp_arith[sEx,aL,aW,aM,eq_int];split
 .simp_arith[sEx,aL,aW,aM,nq,iz,iY,dq]
  refine iB F 1.11 1.11 λJ V D p2 q2 O=>?_;simp_arith[sEx,aL,aW,aM,iY];refine iB O 1.11 1.11 λU I b3 p3 q3 z=>?_;have:U=0∨U=1∨U=2∨U=3:=by omega
  rcases this with rfl|rfl|rfl|rfl<;>simp_arith[sEx,aL,aW,aM,gIx,atI,ixN]<;>exact go 1.11 z
 .refine iB F 1.11 1.11 λJ V D p2 q2 O=>?_
  simp_arith[sEx,aL,aW,aM,iY];exact go 1.11 O
def Dm(ns:List Str)(ks:List Key)(ds:List D):Prop:=(∀e∈ds,∃i:Int,e= .int i)/\∀x∈ns,∃(j:Nat)(i:Int),dw ks (.inr x)=some j/\ds[j]? =some (.int i)
def MkI(ns:List Str)(k:Nat)(acc:List D)(ρ:En):Prop:=∃(ps:List (Str×Int))(Z B:Int),acc=ps.map pD/\ps.map (·.1)=ns.take k/\0<=Z/\ρ=[some (tp Z B),some (.lst .frz 1.14)]
def Mks(ns:List Str)(q:D×List D):Prop:=∃(ks:List Key)(ds:List D)(Z B:Int),q=(.dct .own ks ds,[tp Z B,.lst .frz 1.14])/\Dm ns ks ds/\0<=Z
theorem QK{a:Int}(Y:0<=a)(hn:ns.length<=20):Wp (fJ [tp a b,.lst .frz 1.14]) (Mks ns):=by
 simp_arith[fJ,sEx,aL,aW,aM,bB,gF,bU,bM];refine⟨by omega,K4 (MkI ns) ⟨[],a,b,rfl,rfl,Y,rfl⟩ ?_ ?_⟩
 .rintro i d acc ρ hi ⟨ps,a2,b2,rfl,hps,s2,rfl⟩
  rw[List.getElem?_map]at hi;cases J:ns[i]? with
  |none=>simp[J]at hi
  |some x=>
   obtain rfl:D.str x=d:=by simpa[J]using hi
   simp_arith[sEx,aL,aW,aM,cG];refine Wp.mono (TX s2) ?_;rintro _ ⟨t,I,F,rfl,_,z⟩;simp_arith[sEx,aL,aW,aM,cG];exact⟨ps++[(x,t)],_,_,by simp[pD],by rw[ZW,hps,ad_,J];rfl,z,rfl⟩
 .rintro ys ρ ⟨ps,a2,b2,rfl,hps,s2,rfl⟩
  rw[ZL,acf]at hps;have Z:aA (ps.map pD)=true:=bC λd hd=>by obtain⟨x,_,rfl⟩:=ZG.mp hd;rfl
  have B:ps.length=ns.length:=by rw[←hps];simp
  refine⟨Z,Wp.mono (Pg (ps:=ps) 1.11) ?_⟩;rintro _ ⟨⟨ks,ds,rfl,O,U⟩,q⟩;rw[hps]at U;have V:(aC (D.dct .own ks ds)=true/\aB (D.dct .own ks ds)=true):=by simpa[clean]using q
  refine⟨V,aH.mpr ?_⟩;exact⟨ks,ds,a2,b2,rfl,⟨O,U⟩,s2⟩
def Jg(ns:List Str)(ks:List Key)(ds:List D)(t:Int)(q:D×List D):Prop:=∃(j:Jt)(Z B:Int),q=(jD j,[tp Z B,.lst .frz 1.14,.dct .frz ks ds,.int t])/\j.1∈ns/\j.2.1∈ns/\0<=Z
variable{t:Int}
theorem Jy{a:Int}(Y:0<=a)(hn:ns≠[])(c0:ns.length<=20)(ht:0<=t/\t<=1000)(hd:Dm ns ks ds):Wp (d_ [tp a b,.lst .frz 1.14,.dct .frz ks ds,.int t]) (Jg ns ks ds t):=by
 have b9:0<ns.length:=afA.mpr hn;obtain⟨b6,a0⟩:=hd;have b8:cH false ds=ds:=by
  rw[cP]
  conv=>rhs;rw[←aeM ds]
  exact aah λd hd=>by obtain⟨i,rfl⟩:=b6 d hd;rfl
 simp_arith![d_,fnI];refine aX (λρ=>∃(x:Str)(Z B:Int),x∈ns/\0<=Z/\ρ=[some (tp Z B),some (.lst .frz 1.14),some (.dct .frz ks ds),some (.int t),some (.str x),none,none]) (λQ U=>?_) ?_
 .simp_arith[sEx,aL,aW,aM,bU,bM,bB,dD,gF,kJ,kW,m7,oG,v_,RN,QT,Ra,Qi,Rc,Ho,zr,len_strs,uJ,o_,Nr,Rw,eq_int,yU]
  refine iB Y 1.11 1.11 λr a1 b1 p1 q1 F=>?_;obtain⟨x,J,_,b7⟩:=uP (f:=D.str) (l:=ns) p1 q1;simp_arith[sEx,aL,aW,aM,bU,bM,bB,dD,gF,kJ,kW,m7,oG,v_,RN,QT,Ra,Qi,Rc,Ho,zr,len_strs,uJ,o_,Nr,Rw,eq_int,yU,b7];exact U _ ⟨x,_,_,J,F,rfl⟩
 rintro _ ⟨x,a1,b1,J,F,rfl⟩;refine aX (λρ=>∃(y:Str)(Z B:Int),y∈ns/\0<=Z/\ρ=[some (tp Z B),some (.lst .frz 1.14),some (.dct .frz ks ds),some (.int t),some (.str x),some (.str y),none]) (λQ U=>?_) ?_
 .simp_arith[sEx,aL,aW,aM,bU,bM,bB,dD,gF,kJ,kW,m7,oG,v_,RN,QT,Ra,Qi,Rc,Ho,zr,len_strs,uJ,o_,Nr,Rw,eq_int,yU]
  refine iB F 1.11 1.11 λr a2 b2 p2 q2 O=>?_;obtain⟨y,V,_,a7⟩:=uP (f:=D.str) (l:=ns) p2 q2;simp_arith[sEx,aL,aW,aM,bU,bM,bB,dD,gF,kJ,kW,m7,oG,v_,RN,QT,Ra,Qi,Rc,Ho,zr,len_strs,uJ,o_,Nr,Rw,eq_int,yU,a7];exact U _ ⟨y,_,_,V,O,rfl⟩
 rintro _ ⟨y,a2,b2,V,O,rfl⟩;obtain⟨jx,ix,a9,a8⟩:=a0 x J;obtain⟨jy,iy,a6,b0⟩:=a0 y V;refine aX (λρ=>∃(v Z B:Int),0<=Z/\ρ=[some (tp Z B),some (.lst .frz 1.14),some (.dct .frz ks ds),some (.int t),some (.str x),some (.str y),some (.int v)]) (λQ U=>?_) ?_
 .have ht1: -18446744073709551616<t/\t<18446744073709551616:=by omega
  simp_arith[sEx,aL,aW,aM,gIx,cW,b8,a9,a8,a6,b0,iY];refine iB O 1.11 1.11 λr a3 b3 p3 q3 z=>?_;simp_arith[sEx,aL,aW,aM,iY,nQ,fG,ht1];exact U _ ⟨_,_,_,z,rfl⟩
 rintro _ ⟨v,a3,b3,z,rfl⟩;refine aX (λρ=>∃(v Z B:Int),0<=Z/\ρ=[some (tp Z B),some (.lst .frz 1.14),some (.dct .frz ks ds),some (.int t),some (.str x),some (.str y),some (.int v)]) (λQ U=>?_) ?_
 .simp_arith[sEx,aL,aW,aM]
  refine iB z 1.11 1.11 λr a4 b4 p4 q4 q=>?_;simp_arith[sEx,aL,aW,aM,eq_int];split
  .refine Wp.mono (TX q) ?_
   rintro _ ⟨w,a5,b5,rfl,_,I⟩;simp_arith[sEx,aL,aW,aM,fG];exact U _ ⟨_,_,_,I,rfl⟩
  .exact U _ ⟨_,_,_,q,rfl⟩
 clear v;rintro _ ⟨v,a4,b4,q,rfl⟩;simp_arith[sEx,aL,aW,aM,cG,G8,kY,iz,nq];exact⟨(x,y,_),a4,b4,rfl,J,V,q⟩
theorem lO:∀ns:List Str,xN 1.14=some (ns.map V.str)
 |[]=>rfl
 |x::r=>by simp[xN,scV,lO r]
theorem qT:inV (.str x) (ns.map V.str)=decide (x∈ns):=by
 unfold inV;rw[List.any_map,aco,acM,decide_eq_true_iff];simp![abH,eqV,beq_iff_eq];exact⟨λ⟨y,h1,h2⟩=>h2▸h1,λh=>⟨x,h,rfl⟩⟩
def aY(g:List Str):List Str:=(rW (g.map λx=>[x])).map λk=>k.headD ""
theorem cN(g:List Str):abh (aY g) g:=by
 have:=(lR (g.map λx=>[x])).map λk=>k.headD ("":Str);rw[ZX]at this;refine this.trans ?_;rw[show((λk:List Str=>k.headD "")∘λx=>[x])=id from rfl,aeM]
theorem x_:∀g:List Str,Ej (g.map D.str)=some (g.map λx=>[x])
 |[]=>rfl
 |x::r=>by simp[Ej,x_ r]
variable{m:Mk}
theorem Lw{g:List Str}(h:g.length<64):jN [.lst m (g.map D.str)]=some (.lst .own ((aY g).map D.str)):=by
 simp![jN,ZL,h,aab,x_];rw[aY,ZX];rfl
theorem y_[DecidableEq α]:∀{ks ns:List α},ks.Nodup->(∀k∈ks,k∈ns)->ks.length<=ns.length
 |[],_,_,_=>abO _
 |k::r,ns,h,hs=>by
  have Y:=hs k (.head _);have h1:=y_ (ks:=r) (ns:=ns.erase k) (Z8.mp h).2 λx J=>(List.mem_erase_of_ne (show x≠k from λe=>(Z8.mp h).1 (by rw[←e];exact J))).mpr (hs x (.tail _ J));rw[List.length_erase_of_mem Y]at h1;have:=List.length_pos_of_mem Y;simp![Z3];omega
theorem kI:(dw (ys.map ZS) (ZS x)).isSome=decide (x∈ys):=by
 cases e:dw (ys.map ZS) (ZS x)with
 |none=>
  unfold dw at e;rw[abd]at e;refine(aaa λh=>?_).symm;have:=e (ZS x) (ZG.mpr ⟨x,h,rfl⟩);simp at this
 |some j=>
  obtain⟨O,I,_⟩:=aan.mp e;have h2:(ys.map (ZS:Str->Key))[j]=ZS x:=by simpa using I
  have Z:ZS x∈ys.map (ZS:Str->Key):=h2▸abL O;obtain⟨y,V,q⟩:=ZG.mp Z;cases q;exact(aaE V).symm
theorem ph(J:x∈ns):∃i,dw (ns.map ZS) (ZS x)=some i/\ns[i]? =some x/\i<ns.length:=by
 have h:=kI (ys:=ns) (x:=x);rw[aaE J]at h;obtain⟨i,hi⟩:=ac0.mp h;obtain⟨O,I,_⟩:=aan.mp hi;have U:i<ns.length:=by simpa using O
 refine⟨i,hi,?_,U⟩;rw[Z0 U];simpa using I
variable{c:En->Option (Bool×En)}{Q:Fl->Prop}
theorem rG{body:En->Option Fl}(I:Nat->En->Prop)(z:Nat)(B:∀p ρ,I p ρ->Wp (c ρ) λb=>if b.1=true then(p<z/\Wp (body b.2) λr=>match r with
   |.nx ρ2=>I (p+1) ρ2
   |.cnt ρ2=>I (p+1) ρ2
   |.brk ρ2=>Q (.nx ρ2)
   |.ret d ρ2=>Q (.ret d ρ2))else Q (.nx b.2)):∀(q p:Nat)(ρ:En),I p ρ->z-p<q->Wp (jE c body q ρ) Q
 |0,p,ρ,_,h=>by omega
 |q+1,p,ρ,hI,h=>by
  obtain⟨⟨b,ρ1⟩,e1,w⟩:=B p ρ hI;rw[jE,e1,Hq];cases b with
  |false=>
   simp![aaj,aaN]at w⊢;exact aH.mpr w
  |true=>
   simp![aab]at w⊢;obtain⟨F,r,e2,w⟩:=w;rw[e2];cases r with
   |nx ρ2=>exact rG I z B q (p+1) ρ2 w 1.11
   |cnt ρ2=>exact rG I z B q (p+1) ρ2 w 1.11
   |brk ρ2=>exact aH.mpr w
   |ret d ρ2=>exact aH.mpr w
theorem Yo:∀x∈jR,iM [.str x]=some (.bl true):=by
 intro x J;simp![jR,ZR,List.mem_nil_iff,or_false]at J;rcases J with rfl|rfl|rfl|rfl|rfl|rfl|rfl|rfl|rfl|rfl|rfl|rfl|rfl|rfl|rfl|rfl|rfl|rfl|rfl|rfl<;>with_unfolding_all rfl
theorem WY{k:Int}(J:x∈jR)(O:x∉l):fH [.tup (l.map D.str),.str x,.int k]=some .non:=by
 apply Wp.eq;simp_arith[fH,sEx,aL,aW,aM,Yo x J,bu,bB,gIn,pP,scV,lO,qT,O]
def CkI(N:D)(k:Nat)(ρ:En):Prop:=∃x1 B:Option D,ρ=[some N,x1,B]
theorem W4(hn:∀x∈ns,x∈jR)(nd:ns.Nodup)(O:ns.length<=20):d9 [.tup 1.14]=some .non:=by
 apply Wp.eq;simp_arith[d9,sEx,aL,aW,aM,bB,bU,bM,gF];refine lF (CkI (.tup 1.14)) ⟨_,_,rfl⟩ ?_ ?_
 .rintro k d ρ hk ⟨x1,x2,rfl⟩
  rw[lN,List.getElem?_map]at hk;cases J:ns[k]? with
  |none=>simp[J]at hk
  |some x=>
   obtain rfl:D.tup [.int (k:Int),.str x]=d:=by simpa[J]using hk
   have q:=(List.getElem?_eq_some_iff.mp J).1;have I:x∉ns.take k:=λz=>by
    obtain⟨i,hi,e⟩:=List.mem_take_iff_getElem.mp z;have:=(abG (by omega:i<ns.length) nd).mp (show ns[i]? =ns[k]? by rw[J,Z0 1.11,e]);omega
   have h1:=WY (k:=(k:Int)) (hn x (Z2 J)) I;rw[adv]at h1;simp_arith[sEx,aL,aW,aM,bB,gSl,Nh,bU,bM,←adv,dD];rw[adv,h1];simp[aH,bu];exact⟨_,_,rfl⟩
 .rintro ρ ⟨x1,x2,rfl⟩
  simp[aH]
abbrev Bh:=Str×Str×Int
abbrev Dj:=Str×Str×Int×Option Str
structure Sk where
 t:Int
 bs:List Bh
 zs:Str->Int
 dn:List Dj
 lk:Int
def dcD(d:Dj):D:=.tup [.str "join",.str d.1,.str d.2.1,.int d.2.2.1]
def ktD(d:Dj):D:=match d.2.2.2 with
 |none=>.non
 |some h=>.str h
def dnD(d:Dj):D:=.tup [dcD d,ktD d]
def bvD(b:Bh):D:=.tup [.str b.2.1,.int b.2.2]
def j9:List Str:=["turn","weights","behind","sizes","done","looked"]
def vsL(ns:List Str)(f:Str->Int):List Int:=ns.map f
def wD(m:Mk)(ns:List Str)(vs:Str->Int):D:=.dct m (ns.map ZS) ((vsL ns vs).map D.int)
def bD(m:Mk)(bs:List Bh):D:=.dct m ((bs.map (·.1)).map ZS) (bs.map bvD)
def nD(m:Mk)(dn:List Dj):D:=.lst m (dn.map dnD)
def skD(m:Mk)(ns:List Str)(s:Sk):D:=.ins m "Stack" j9 [.int s.t,wD m ns λ_=>0,bD m s.bs,wD m ns s.zs,nD m s.dn,.int s.lk]
theorem Fv(d:Dj):aC (ktD d)=true/\aB (ktD d)=true/\(∀b,view b (ktD d)=ktD d):=by
 obtain⟨a,b,c,h⟩:=d;cases h<;>exact⟨rfl,rfl,λ_=>rfl⟩
theorem nY(d:Dj):aC (dnD d)=true/\aB (dnD d)=true/\(∀b,view b (dnD d)=dnD d)/\fz (dnD d)=dnD d/\fzo (dnD d)=dnD d/\bu (dnD d)=true:=by
 obtain⟨a,b,c,h⟩:=d;cases h<;>exact⟨rfl,rfl,λ_=>rfl,rfl,rfl,rfl⟩
theorem Ot(l:List Dj):az (l.map dnD)=true:=bH λd hd=>by obtain⟨x,_,rfl⟩:=ZG.mp hd;exact(nY x).1
theorem Ox(l:List Dj):aA (l.map dnD)=true:=bC λd hd=>by obtain⟨x,_,rfl⟩:=ZG.mp hd;exact(nY x).2.1
theorem TF(b:Bool)(l:List Dj):cH b (l.map dnD)=l.map dnD:=by rw[cP,ZX];exact aah λd _=>(nY d).2.2.1 b
theorem Tg(l:List Dj):fzL (l.map dnD)=l.map dnD:=by rw[f9,ZX];exact aah λd _=>(nY d).2.2.2.1
theorem WR(l:List Dj):fV (l.map dnD)=l.map dnD:=by rw[gR,ZX];exact aah λd _=>(nY d).2.2.2.2.1
theorem Ky(l:List Bh):az (l.map bvD)=true:=bH λd hd=>by obtain⟨x,_,rfl⟩:=ZG.mp hd;rfl
theorem K8(l:List Bh):aA (l.map bvD)=true:=bC λd hd=>by obtain⟨x,_,rfl⟩:=ZG.mp hd;rfl
theorem HJ(b:Bool)(l:List Bh):cH b (l.map bvD)=l.map bvD:=by rw[cP,ZX];rfl
theorem Og(l:List Bh):fzL (l.map bvD)=l.map bvD:=by rw[f9,ZX];rfl
theorem nA(ns:List Str)(s:Sk):view true (skD .own ns s)=skD .bro ns s:=by simp[skD,wD,bD,nD,view,cH,oX,HJ,TF,mkV]
theorem ug(b:Bool)(ns:List Str)(s:Sk):view b (skD .frz ns s)=skD .frz ns s:=by cases b<;>simp[skD,wD,bD,nD,view,cH,oX,HJ,TF,mkV]
theorem MJ(ns:List Str)(s:Sk):fz (skD .bro ns s)=skD .frz ns s:=by simp[skD,wD,bD,nD,fz,fzL,uE,Og,Tg,mkF]
theorem Zo(ns:List Str)(s:Sk):aC (skD .own ns s)=true/\aB (skD .own ns s)=true:=by simp[skD,wD,bD,nD,aC,aB,az,aA,rH,qO,Ky,K8,Ot,Ox]
theorem Y7(ns:List Str)(s:Sk):bu (skD .own ns s)=true:=by
 have h1:∀l:List Int,bA (l.map D.int)=true:=λl=>by induction l<;>simp_all [bA,bu]
 have h2:∀l:List Bh,bA (l.map bvD)=true:=λl=>by induction l<;>simp_all [bA,bu,bvD]
 have Z:∀l:List Dj,bA (l.map dnD)=true:=λl=>by
  induction l with
  |nil=>rfl
  |cons d r B=>rw[ZF,bA,B,(nY d).2.2.2.2.2];rfl
 simp[skD,wD,bD,nD,bu,bA,h1,h2,Z]
variable{s:Sk}
theorem gf0(h:m≠.scr):ir "Stack" "turn" (skD m ns s)=some (.int s.t):=by simp[ir,skD,h,show eY j9 "turn"=some 0 by decide]
theorem gf1(h:m≠.scr):ir "Stack" "weights" (skD m ns s)=some (wD m ns λ_=>0):=by simp[ir,skD,h,show eY j9 "weights"=some 1 by decide]
theorem gf2(h:m≠.scr):ir "Stack" "behind" (skD m ns s)=some (bD m s.bs):=by simp[ir,skD,h,show eY j9 "behind"=some 2 by decide]
theorem gf3(h:m≠.scr):ir "Stack" "sizes" (skD m ns s)=some (wD m ns s.zs):=by simp[ir,skD,h,show eY j9 "sizes"=some 3 by decide]
theorem gf4(h:m≠.scr):ir "Stack" "done" (skD m ns s)=some (nD m s.dn):=by simp[ir,skD,h,show eY j9 "done"=some 4 by decide]
theorem uB(h:m≠.scr){f:Str}(D:eY j9 f=none):vM "Stack" f (skD m ns s)=true:=by simp[vM,skD,h,D]
variable{r:En}
theorem pf2:qz 0 (bY 0) "Stack" "behind" (some (skD .own ns s)::r)=some [2]:=by simp[qz,bY,cV,skD,show eY j9 "behind"=some 2 by decide]
theorem pf3:qz 0 (bY 0) "Stack" "sizes" (some (skD .own ns s)::r)=some [3]:=by simp[qz,bY,cV,skD,show eY j9 "sizes"=some 3 by decide]
theorem pf4:qz 0 (bY 0) "Stack" "done" (some (skD .own ns s)::r)=some [4]:=by simp[qz,bY,cV,skD,show eY j9 "done"=some 4 by decide]
theorem tf5{k:Int}:kZ "Stack" "looked" 0 (bY 0) (.int k) (some (skD .own ns s)::r)=some (some (skD .own ns {s with lk:=k})::r):=by
 simp[kZ,bY,upS,cV,yj,skD,j9,az,aC,aA,aB,show eY ["turn","weights","behind","sizes","done","looked"] "looked"=some 5 by decide,pY,dz]
variable{op:D->List D->Option (D×D)}{es:List D}{bs:List Bh}
theorem us2(h:az es=true/\aA es=true){x:D}(e:op (bD .own s.bs) es=some (bD .own bs,x)):upS op 0 [2] es (some (skD .own ns s)::r)=some (x,some (skD .own ns {s with bs:=bs})::r):=by simp[upS,cV,skD,kids,h,e,dz,ur]
theorem us3(h:az es=true/\aA es=true){x:D}(e:op (wD .own ns s.zs) es=some (wD .own ns vs,x)):upS op 0 [3] es (some (skD .own ns s)::r)=some (x,some (skD .own ns {s with zs:=vs})::r):=by simp[upS,cV,skD,kids,h,e,dz,ur]
variable{dn:List Dj}
theorem us4(h:az es=true/\aA es=true){x:D}(e:op (nD .own s.dn) es=some (nD .own dn,x)):upS op 0 [4] es (some (skD .own ns s)::r)=some (x,some (skD .own ns {s with dn:=dn})::r):=by simp[upS,cV,skD,kids,h,e,dz,ur]
variable{v:Int}
theorem YG:∀ns:List Str,jc (tpN 0) eTT 1.19 (eC (.int v)) [none] 1.14=some (ns.map λy=>((ZS y:Key),D.int v))
 |[]=>rfl
 |x::r=>by
  rw[ZF,jc,YG r];simp[tpN,eTT,aq,view,cW,eC]
def sk0(t:Int)(ns:List Str):Sk:=⟨t,[],λ_=>1,[],0⟩
theorem Yz(nd:ns.Nodup):qZ (ns.map λy=>((ZS y:Key),D.int v))=some (wD .own ns λ_=>v):=by
 have q:(ns.map λy=>(ZS y:Key)).Nodup:=abj.mpr (nd.imp λh e=>h (by cases e;rfl));rw[qZ,ZX,ZX,show((λx:Key×D=>x.1)∘λy=>((ZS y:Key),D.int v))=ZS from rfl,ZV q];simp[wD,vsL,ZX]
theorem VB(hn:∀x∈ns,x∈jR)(nd:ns.Nodup)(O:ns.length<=20):cD [.ins .own "Stack" [] [],.tup 1.14,.int t]=some (.non,[skD .own ns (sk0 t ns),.tup 1.14,.int t]):=by
 apply Wp.eq;have h1:=W4 hn nd O;have J:eY [] "turn"=none:=by decide
 have V:eY ["turn"] "weights"=none:=by decide
 have F:eY ["turn","weights"] "behind"=none:=by decide
 have I:eY ["turn","weights","behind"] "sizes"=none:=by decide
 have q:eY ["turn","weights","behind","sizes"] "done"=none:=by decide
 have z:eY ["turn","weights","behind","sizes","done"] "looked"=none:=by decide
 have B:∀v:Int,aC (wD .own ns λ_=>v)=true/\aB (wD .own ns λ_=>v)=true:=λv=>⟨by simp![wD,aC,rH];rfl,by simp![wD,aB,qO];rfl⟩;simp_arith[cD,sEx,aL,aW,aM,bB,dD,bU,bM,gF,h1,bu,mQ,YG,Yz nd,kZ,bY,cV,yj,J,V,F,I,q,z,B,C_,dq,pY];exact⟨by omega,rfl⟩
theorem Ui(hn:∀x∈ns,x∈jR)(nd:ns.Nodup)(O:ns.length<=20):yP "Stack" cD [.tup 1.14,.int t]=some (skD .own ns (sk0 t ns)):=by
 have:=VB (t:=t) hn nd O;simp[yP,fzL,fz,dD,this,Y7]
theorem Zw:gj (.str x) (wD m ns vs)=some (.bl (!decide (x∈ns))):=by simp![gj,wD,pP,cW,aaw,kI]
def kyB(bs:List Bh)(x:Str):Bool:=decide (x∈bs.map (·.1))
theorem Ze:gIn (.str x) (bD m bs)=some (.bl (kyB bs x)):=by simp![kyB,gIn,bD,pP,cW,aaw,kI]
theorem MP(J:x∈ns):gIx (wD m ns vs) (.str x)=some (.int (vs x)):=by
 obtain⟨i,h1,h2,_⟩:=ph J;simp[gIx,wD,cW,h1,vsL,h2]
theorem Gf(nd:ys.Nodup)(h:ys[i]? =some x):dw (ys.map ZS) (ZS x)=some i:=by
 obtain⟨j,h1,h2,Z⟩:=ph (Z2 h);rw[h1,(abG Z nd).mp (h2.trans h.symm)]
variable{b:Bh}
theorem O9(nd:(bs.map (·.1)).Nodup)(h:bs[i]? =some b):gIx (bD m bs) (.str b.1)=some (bvD b):=by
 have:=Gf nd (i:=i) (x:=b.1) (by rw[List.getElem?_map,h];rfl);simp![bD,gIx,cW,Hq,this,List.getElem?_map,h,aaw]
theorem Qk(J:x∈ns):cg [wD .frz ns vs,.str x]=some .non:=by
 have Z:view false (wD .frz ns vs)=wD .frz ns vs:=by simp[wD,view,oX,mkV]
 apply Wp.eq;simp_arith[cg,sEx,aL,aW,aM,Z,Zw,J]
theorem Ng(h:m= .bro∨m= .frz):fz (wD m ns vs)=wD .frz ns vs:=by
 rcases h with rfl|rfl<;>simp[wD,fz,uE,mkF]
structure Bk(ns:List Str)(bs:List Bh):Prop where
 nd:(bs.map (·.1)).Nodup
 ok:∀(i:Nat)(b:Bh),bs[i]? =some b->b.1∈ns/\b.2.1∈ns/\∀(j:Nat)(c:Bh),bs[j]? =some c->c.1=b.2.1->i<j
def chn(bs:List Bh):Nat->Str->List Str
 |0,x=>[x]
 |k+1,x=>match bs.find? λb=>decide (b.1=x)with
  |some b=>x::chn bs k b.2.1
  |none=>[x]
theorem Fe(nd:(bs.map (·.1)).Nodup)(h:bs[i]? =some b):bs.find? (λc=>decide (c.1=b.1))=some b:=by
 cases D:bs.find? (λc=>decide (c.1=b.1))with
 |none=>have:=afR.mp D b (Z2 h);simp at this
 |some c=>
  have h1:=List.find?_some D;obtain⟨j,F⟩:=aak.mp (aec D);have e:c.1=b.1:=by simpa using h1
  have:=(abG (i:=j) (j:=i) (l:=bs.map (·.1)) (by simpa using(List.getElem?_eq_some_iff.mp F).1) nd).mp (by rw[List.getElem?_map,List.getElem?_map,F,h];simp[e]);subst this;rw[F]at h;exact h
theorem U0(h:x∉bs.map (·.1)):bs.find? (λc=>decide (c.1=x))=none:=afR.mpr λc Z=>by
 simp![aa0];exact λz=>h (ZG.mpr ⟨c,Z,z⟩)
def Ch(ns:List Str)(bs:List Bh)(x:Str)(pre:List Str)(l:Str):Prop:=chn bs bs.length x=pre++[l]/\l∈ns/\l∉bs.map (·.1)/\(∀y∈pre,y∈bs.map (·.1))/\pre.length<=bs.length
def ChI(S:D)(ns:List Str)(bs:List Bh)(x:Str)(p:Nat)(ρ:En):Prop:=∃(pre:List Str)(l:Str),ρ=[some S,some (.str x),some (.lst .own ((pre++[l]).map D.str))]/\pre.length=p/\pre++chn bs (bs.length-p) l=chn bs bs.length x/\l∈ns/\(∀y∈pre,y∈bs.map (·.1))/\p<=bs.length/\∀(i:Nat)(b:Bh),bs[i]? =some b->b.1=l->p<=i
theorem rJ{l:Str}:gIx (.lst m ((pre++[l]).map D.str)) (.int (-1))=some (.str l):=by
 simp[gIx,atI,ixN];rw[ZV 1.11,Hq,show(-1+((pre.length:Int)+1)).toNat=(pre.map D.str).length by rw[ZL];omega];simp
def ChR(ns:List Str)(bs:List Bh)(x:Str)(d:D):Prop:=d= .lst .own ((chn bs bs.length x).map D.str)/\∃pre l,Ch ns bs x pre l
theorem Sg(U:Bk ns s.bs)(J:x∈ns)(O:s.bs.length<=1000):Wp (bI [skD .frz ns s,.str x]) (ChR ns s.bs x):=by
 simp_arith![bI,fnP];refine aX (λρ=>ρ=[some (skD .frz ns s),some (.str x),none]) (λQ hQ=>?_) ?_
 .simp_arith[sEx,aL,aW,aM,ug,gf1,Ng,Qk J,bu]
  exact hQ _ rfl
 rintro _ rfl;refine aX (λρ=>ρ=[some (skD .frz ns s),some (.str x),some (.lst .own [.str x])]) (λQ hQ=>?_) ?_
 .exact⟨_,rfl,hQ _ rfl⟩
 rintro _ rfl;refine aX (λρ=>∃(pre:List Str)(l:Str),ρ=[some (skD .frz ns s),some (.str x),some (.lst .own ((pre++[l]).map D.str))]/\Ch ns s.bs x pre l) (λQ hQ=>?_) ?_
 .refine rG (ChI (skD .frz ns s) ns s.bs x) s.bs.length ?_ 1000000 0 _ ⟨[],x,rfl,rfl,by simp,J,by simp,by omega,λi b _ _=>by omega⟩ 1.11
  rintro p ρ ⟨pre,l,rfl,F,Z,a5,Y,B,a4⟩;have a0:=rJ (pre:=pre) (l:=l) (m:=.brw);simp_arith[sEx,aL,aW,aM,bB,iz,a0,ug,gf2,Ze,-List.map_append];cases I:kyB s.bs l with
  |false=>
   simp![aaj,aaN];have a1:l∉s.bs.map (·.1):=by simpa[kyB]using I
   refine hQ _ ⟨pre,l,rfl,?_,a5,a1,Y,by omega⟩;rw[←Z];cases s.bs.length-p with
   |zero=>rfl
   |succ k=>rw[chn,U0 a1]
  |true=>
   simp![aab];obtain⟨b,a2,q⟩:=ZG.mp (show l∈s.bs.map (·.1)by simpa[kyB]using I);obtain⟨i,hi⟩:=aak.mp a2;have a7:=(List.getElem?_eq_some_iff.mp hi).1;have a8:=a4 i b hi q;subst q;have a6:=O9 (m:=.frz) U.nd hi;obtain⟨o1,o2,o3⟩:=U.ok i b hi;simp_arith[sEx,aL,aW,aM,bB,iz,a0,ug,gf2,a6,-List.map_append,show gIx (bvD b) (.int 0)=some (.str b.2.1)from rfl,aR];refine⟨by omega,by omega,pre++[b.1],b.2.1,by simp,by simp[F],?_,o2,λy V=>(Zy.mp V).elim (Y y) λz=>by rw[Z7.mp z];exact ZG.mpr ⟨b,a2,rfl⟩,by omega,λj c hj a3=>?_⟩
   .rw[←Z,show s.bs.length-p=(s.bs.length-(p+1))+1 by omega,chn,Fe U.nd hi]
    simp
   .have:=o3 j c hj a3;omega
 rintro _ ⟨pre,l,rfl,h⟩;simp[dG,aH];exact⟨by rw[h.1];simp,pre,l,h⟩
theorem Om:cutD (ds++[d]) none (some (-1))=ds:=by
 unfold cutD;rw[HT.sIx_none];simp[HT.sIx];rw[show(-1+((ds.length:Int)+1)).toNat=ds.length by omega];simp
theorem Gk:∀vs:List Int,vR (vs.map D.int)=some vs
 |[]=>rfl
 |v::r=>by simp[vR,Gk r]
theorem Xd{l:Str}(U:Bk ns s.bs)(F:∀y∈pre,y∈s.bs.map (·.1))(O:pre.length<=1000):∃v:Int,bF [skD .frz ns s,.lst .frz ((pre++[l]).map D.str)]=some (.int v):=by
 have V:∀l:List Str,(∀y∈l,y∈s.bs.map (·.1))->∃vs:List Int,iG (tpN 0) eTT (e2 gIx (e2 gIx (e1 (ir "Stack" "behind") 1.17) 1.19) (eC (.int 1))) [none,some (skD .frz ns s)] (l.map D.str)=some (vs.map D.int):=λl=>by
  induction l with
  |nil=>intro _;exact⟨[],rfl⟩
  |cons y r B=>
   intro h;obtain⟨vs,e⟩:=B λz hz=>h z (by simp[hz]);obtain⟨b,q,rfl⟩:=ZG.mp (h y (by simp));obtain⟨i,hi⟩:=aak.mp q;have I:=O9 (m:=.frz) U.nd hi;refine⟨b.2.2::vs,?_⟩;rw[ZF,iG,e];simp[tpN,eTT,e2,e1,aq,view,eC,ug,gf2,I];rfl
 obtain⟨vs,V⟩:=V pre F;refine⟨vs.sum,?_⟩;apply Wp.eq;have Z:cutD ((pre++[l]).map D.str) none (some (-1))=pre.map D.str:=by rw[ZW];exact Om
 simp_arith![bF,fnP];simp_arith[sEx,aL,aW,aM,bB,iz,gSl,Z,ug,bU,bM,gF,-List.map_append,V,-List.map_map,Rq,Gk,rH,qO];omega
structure Pot(bs:List Bh)(R:Str->Str):Prop where
 e:∀b∈bs,R b.1=R b.2.1
 r:∀l,l∉bs.map (·.1)->R l=l
theorem Mq(F:Pot bs R){l:Str}(O:l∉bs.map (·.1)):∀(n:Nat)(x:Str)(pre:List Str),chn bs n x=pre++[l]->R x=l
 |0,x,pre,h=>by
  have h:[x]=pre++[l]:=h;cases pre with
  |nil=>
   obtain rfl:x=l:=by simpa using h
   exact F.r x O
  |cons p q=>simp at h
 |n+1,x,pre,h=>by
  rw[chn]at h;cases D:bs.find? λb=>decide (b.1=x)with
  |none=>
   rw[D]at h;have h:[x]=pre++[l]:=h;cases pre with
   |nil=>
    obtain rfl:x=l:=by simpa using h
    exact F.r x O
   |cons p q=>simp at h
  |some b=>
   rw[D]at h;have h:x::chn bs n b.2.1=pre++[l]:=h;have U:b∈bs:=aec D;have J:b.1=x:=by simpa using List.find?_some D
   cases pre with
   |nil=>
    obtain rfl:x=l:=by simpa using(List.cons.inj h).1
    exact absurd (ZG.mpr ⟨b,U,J⟩) O
   |cons p q=>
    rw[Z_]at h;obtain⟨rfl,h2⟩:=List.cons.inj h;have B:=F.e b U;rw[J]at B;exact B.trans (Mq F O n b.2.1 q h2)
structure Ok(ns:List Str)(s:Sk):Prop where
 b:Bk ns s.bs
 t:0<=s.t/\s.t<=1000
 l:ns.length<=20
 m:s.dn.length<=1000
theorem Ok.bl(h:Ok ns s):s.bs.length<=1000:=by
 have:=y_ h.b.nd (λx J=>by
  obtain⟨b,U,rfl⟩:=ZG.mp J;obtain⟨i,hi⟩:=aak.mp U;exact(h.b.ok i b hi).1:∀x∈s.bs.map (·.1),x∈ns)
 have h2:=h.l;simp at this;omega
theorem Hy:∀l:List Str,j4 (l.map D.str)=some (l.map ZS)
 |[]=>rfl
 |x::r=>by simp[j4,cW,Hy r]
def rO:Option Int->D
 |none=>.non
 |some v=>.int v
def rr(R:Str->Str)(x y:Str)(r:Option Int):Prop:=r=none↔R x≠R y
def SpS(ns:List Str)(s:Sk)(R:Str->Str)(x y:Str)(q:D×List D):Prop:=∃(lk:Int)(r:Option Int),q=(rO r,[skD .own ns {s with lk:=lk},.str x,.str y])/\rr R x y r
theorem O8(Y:0<=t/\t<=1000):∃w:Int,dY [.int t,.int v]=some (.int w):=by
 by_cases h:t=0
 .exact⟨_,by apply Wp.eq;simp_arith[dY,sEx,aL,aW,aM,eq_int,h];rfl⟩
 .refine⟨v % t,?_⟩
  apply Wp.eq;simp_arith[dY,sEx,aL,aW,aM,eq_int,h,mO];omega
theorem ne_str{a b:Str}:gNe (.str a) (.str b)=some (.bl (!decide (a=b))):=by
 unfold gNe;rw[ZV ⟨rfl,rfl,.sc (.str a b)⟩];simp![dt,eqD,abF,D.bl.injEq];rw[aco];simp
theorem eq_str{a b:Str}:gEq (.str a) (.str b)=some (.bl (decide (a=b))):=by
 unfold gEq;rw[ZV ⟨rfl,rfl,.sc (.str a b)⟩];simp![dt,eqD,abF,D.bl.injEq];rw[aco];simp
theorem uO(h:Ok ns s)(F:Pot s.bs R)(J:x∈ns):∃pre,Ch ns s.bs x pre (R x)/\dU "Stack" "chain" bI (skD .bro ns s) [.str x]=some (.lst .own ((pre++[R x]).map D.str)):=by
 obtain⟨_,e,rfl,pre,l,Z⟩:=Sg h.b J h.bl;obtain rfl:=Mq F Z.2.2.1 _ _ _ Z.1;refine⟨pre,Z,?_⟩;rw[Z.1]at e;have B:∀l:List Str,bA (l.map D.str)=true:=λl=>by induction l<;>simp_all [bA,bu]
 simp![dU,uB (m:=.bro) (by decide) (show eY j9 "chain"=none by decide),aab,bz,fzL,MJ,fz,e,Hq,bu,B];simp
theorem Gq(h:Ok ns s)(Z:Ch ns s.bs x pre (R x)):∃v:Int,dU "Stack" "offset" bF (skD .bro ns s) [.lst .brw ((pre++[R x]).map D.str)]=some (.int v):=by
 have:=h.bl;obtain⟨v,e⟩:=Xd (l:=R x) h.b Z.2.2.2.1 (by have:=Z.2.2.2.2;omega);refine⟨v,?_⟩;simp![dU,uB (m:=.bro) (by decide) (show eY j9 "offset"=none by decide),aab,bz,fzL,MJ,fz,dD,mkF,e,Hq,bu];simp
theorem P_(h:Ok ns s)(F:Pot s.bs R)(J:x∈ns)(V:y∈ns):Wp (d8 [skD .own ns s,.str x,.str y]) (SpS ns s R x y):=by
 simp_arith![d8,fnI];refine aX (λρ=>ρ=[some (skD .own ns s),some (.str x),some (.str y),none,none]) (λQ U=>?_) ?_
 .simp_arith[sEx,aL,aW,aM,nA,gf1,Ng,Qk J,bu]
  exact U _ rfl
 rintro _ rfl;refine aX (λρ=>ρ=[some (skD .own ns s),some (.str x),some (.str y),none,none]) (λQ U=>?_) ?_
 .simp_arith[sEx,aL,aW,aM,nA,gf1,Ng,Qk V,bu]
  exact U _ rfl
 rintro _ rfl;obtain⟨p1,Y,g1⟩:=uO h F J;obtain⟨p2,z,I⟩:=uO h F V;by_cases q:x=y
 .subst q
  simp_arith[sEx,aL,aW,aM,eq_str,tf5];exact⟨1,some 0,rfl,by simp[rr]⟩
 refine aX (λρ=>ρ=[some (skD .own ns s),some (.str x),some (.str y),none,none]) (λQ U=>?_) ?_
 .simp_arith[sEx,aL,aW,aM,eq_str,q]
  exact U _ rfl
 rintro _ rfl;refine aX (λρ=>ρ=[some (skD .own ns s),some (.str x),some (.str y),some (.lst .own ((p1++[R x]).map D.str)),some (.lst .own ((p2++[R y]).map D.str))]) (λQ U=>?_) ?_
 .simp_arith[sEx,aL,aW,aM,nA,g1,I,bU,bM,-List.map_append]
  exact U _ rfl
 rintro _ rfl;have Z:=h.bl;have n1:=Y.2.2.2.2;have n2:=z.2.2.2.2;refine aX (λρ=>∃lk:Int,ρ=[some (skD .own ns {s with lk:=lk}),some (.str x),some (.str y),some (.lst .own ((p1++[R x]).map D.str)),some (.lst .own ((p2++[R y]).map D.str))]) (λQ U=>?_) ?_
 .have hk:l_ [.lst .own ((p1++[R x]).map D.str++(p2++[R y]).map D.str)]=some (.int (Ax (((p1++[R x])++(p2++[R y])).map ZS)).length):=by
   rw[←ZW,l_,ZV (by simp;omega),Hy];rfl
  simp_arith[sEx,aL,aW,aM,bB,fG,tf5,-List.map_append,bU,bM];refine⟨by omega,?_⟩;rw[hk,aH];simp[aC,aB,tf5,aH,-List.map_append];exact U _ ⟨_,rfl⟩
 rintro _ ⟨lk,rfl⟩;have h1:=rJ (pre:=p1) (l:=R x) (m:=.brw);have h2:=rJ (pre:=p2) (l:=R y) (m:=.brw);by_cases O:R x=R y
 .refine aX (λρ=>ρ=[some (skD .own ns {s with lk:=lk}),some (.str x),some (.str y),some (.lst .own ((p1++[R x]).map D.str)),some (.lst .own ((p2++[R y]).map D.str))]) (λQ U=>?_) ?_
  .have hn:gNe (.str (R x)) (.str (R y))=some (.bl false):=by rw[ne_str,aaE O];rfl
   simp_arith[sEx,aL,aW,aM,bB,iz,h1,h2,hn,-List.map_append];exact U _ rfl
  rintro _ rfl;have h':Ok ns {s with lk:=lk}:=⟨h.b,h.t,h.l,h.m⟩;obtain⟨v1,f1⟩:=Gq (s:={s with lk:=lk}) h' Y;obtain⟨v2,B⟩:=Gq (s:={s with lk:=lk}) h' z;obtain⟨v,f3⟩:=O8 (v:=v2-v1) h.t;simp_arith[sEx,aL,aW,aM,bB,nA,gf0,f1,B,iY,f3,bu,-List.map_append];exact⟨lk,some v,rfl,by simp[rr,O]⟩
 .simp_arith[sEx,aL,aW,aM,bB,iz,h1,h2,ne_str,O,-List.map_append]
  exact⟨lk,none,rfl,by simp[rr,O]⟩
def jO(d:Dj):Jt:=(d.1,d.2.1,d.2.2.1)
def jsO(dn:List Dj):List Jt:=dn.map jO
theorem O6(d:Dj):aC (dcD d)=true/\aB (dcD d)=true/\∀b,view b (dcD d)=dcD d:=⟨rfl,rfl,λ_=>rfl⟩
theorem S6:∀l:List Jt,bA (l.map jD)=true
 |[]=>rfl
 |d::r=>by rw[ZF,bA,S6 r];rfl
theorem qi(O:s.dn.length<=1000):bj [skD .frz ns s]=some (.lst .own ((jsO s.dn).map jD)):=by
 have V:∀l:List Dj,iG (tpT 2 (aO (tpN 0) (aO (tpN 1) bZ))) (eB (e2 gEq (e2 gIx 1.19 (eC (.int 0))) (eC (.str "join")))) (eSl 1.19 (fW (eC (.int 1))) gw) [none,none] (l.map dnD)=some ((jsO l).map jD):=by
  intro l
  induction l with
  |nil=>rfl
  |cons d r B=>
   obtain⟨D,F,z⟩:=Fv d;have Y:gSl (dcD d) (some 1) none=some (jD (jO d)):=rfl;have q:gIx (dcD d) (.int 0)=some (.str "join"):=rfl;rw[ZF,iG,B];simp[dnD,tpT,aO,bZ,tpN,eB,isB,e2,eC,aq,eSl,gw,fW,mU,(O6 d).2.2,q,eq_str,Y,jsO]
 apply Wp.eq;simp_arith[bj,sEx,aL,aW,aM,ug,gf4,nD,Ot,Ox,WR];exact⟨by omega,HH (V s.dn) ⟨⟨kJ _,kW _⟩,rfl⟩⟩
theorem Eb(O:s.dn.length<=1000):dU "Stack" "standing" bj (skD .bro ns s) []=some (.lst .own ((jsO s.dn).map jD)):=by
 simp![dU,uB (m:=.bro) (by decide) (show eY j9 "standing"=none by decide),aab,bz,fzL,MJ,qi O,Hq,bu,S6];simp
def upv(f:Str->Int)(x:Str)(v:Int):Str->Int:=λy=>if y=x then v else f y
theorem WT{f:Str->Int}(nd:ns.Nodup)(hi:ns[i]? =some x):(vsL ns f).set i v=vsL ns (upv f x v):=by
 apply ad9;intro k;simp![vsL,acv,ZL,List.getElem?_map];have B:=(List.getElem?_eq_some_iff.mp hi).1;by_cases h:i=k
 .subst h
  rw[ZV rfl,ZV B,hi];simp[upv]
 .rw[Z1 h]
  cases I:ns[k]? with
  |none=>rfl
  |some y=>
   have:y≠x:=λe=>h ((abG B nd).mp (by rw[hi,I,e]));simp[upv,this]
theorem Zi(nd:ns.Nodup)(J:x∈ns)(O:ns.length<=20):fQ (wD .own ns vs) [.str x,.int v]=some (wD .own ns (upv vs x v),.non):=by
 obtain⟨i,h1,Z,h2⟩:=ph J;simp![wD,fQ,cW,Hq,fX,h1];rw[ZV (by simp[vsL];omega),←WT nd Z,List.map_set]
theorem Xa(nd:ns.Nodup)(J:x∈ns)(O:ns.length<=20):yd g (wD .own ns vs) [.str x,.int v]=some (wD .own ns (upv vs x (g (vs x) v)),.non):=by
 have hi:=MP (m:=.own) (vs:=vs) J;have h2:=Zi (v:=g (vs x) v) (vs:=vs) nd J O;unfold yd;simp![wD]at hi h2⊢;simp![hi,Hq,h2]
theorem W3(J:b.1∉bs.map (·.1))(O:bs.length<=1000):fQ (bD .own bs) [.str b.1,bvD b]=some (bD .own (bs++[b]),.non):=by
 have I:dw ((bs.map (·.1)).map ZS) (ZS b.1)=none:=by
  have:=kI (ys:=bs.map (·.1)) (x:=b.1);rw[aaa J]at this;cases h:dw ((bs.map (·.1)).map ZS) (ZS b.1)with
  |none=>rfl
  |some j=>rw[h]at this;cases this
 simp![bD,fQ,cW,Hq,fX,I];rw[ZV (by simp;omega)];simp
theorem Bk.add(h:Bk ns bs)(h1:b.1∈ns)(h2:b.2.1∈ns)(Z:b.1∉bs.map (·.1))(h4:b.2.1∉bs.map (·.1))(J:b.1≠b.2.1):Bk ns (bs++[b])where
 nd:=by
  rw[ZW];exact ZZ.mpr ⟨h.nd,by simp,λy hy z hz=>by
   obtain rfl:z=b.1:=by simpa using hz
   exact λe=>Z (e▸hy)⟩
 ok:=λi c hi=>by
  rcases acg i bs.length with O|O
  .rw[aad O]at hi
   obtain⟨q,D,B⟩:=h.ok i c hi;refine⟨q,D,λj e F V=>?_⟩;rcases acg j bs.length with Y|Y
   .rw[aad Y]at F
    exact B j e F V
   .omega
  .rw[aaB O]at hi
   obtain⟨a0,U⟩:i=bs.length/\b=c:=by
    cases I:i-bs.length with
    |zero=>rw[I]at hi;exact⟨by omega,by simpa using hi⟩
    |succ n=>rw[I]at hi;simp at hi
   subst U;refine⟨h1,h2,λj e F V=>?_⟩;exfalso;rcases Zy.mp (Z2 F)with z|z
   .exact h4 (V▸ZG.mpr ⟨e,z,rfl⟩)
   .rw[Z7.mp z]at V;exact J V
def hgR(R:Str->Str)(b:Bh):Str->Str:=λy=>if R y=b.1 then b.2.1 else R y
theorem Pot.add(h:Pot bs R)(q:b.1∉bs.map (·.1))(V:b.2.1∉bs.map (·.1))(J:b.1≠b.2.1):Pot (bs++[b]) (hgR R b)where
 e:=λc Z=>by
  rcases Zy.mp Z with z|z
  .unfold hgR
   rw[h.e c z]
  .rw[Z7.mp z]
   unfold hgR;rw[h.r _ q,h.r _ V,ZV rfl,Z1 (aay J)]
 r:=λl O=>by
  rw[ZW,Zy]at O;have B:=h.r l λz=>O (.inl z);have:l≠b.1:=λz=>O (.inr (by simp[z]));unfold hgR;rw[B,Z1 this]
def Hb(R:Str->Str)(x y:Str)(b:Bh):Prop:=(b.1=R x/\b.2.1=R y)∨(b.1=R y/\b.2.1=R x)
def Hg(ns:List Str)(s:Sk)(R:Str->Str)(x y:Str)(st:Int)(q:D×List D):Prop:=∃(b:Bh)(zs:Str->Int),q=(.str b.1,[skD .own ns {s with bs:=s.bs++[b],zs:=zs},.str x,.str y,.int st])/\(b.1∈ns/\b.2.1∈ns/\b.1∉s.bs.map (·.1)/\b.2.1∉s.bs.map (·.1)/\b.1≠b.2.1)/\Hb R x y b
theorem V0{st:Int}(nd:ns.Nodup)(h:Ok ns s)(F:Pot s.bs R)(J:x∈ns)(V:y∈ns)(Z:R x≠R y):Wp (eV [skD .own ns s,.str x,.str y,.int st]) (Hg ns s R x y st):=by
 obtain⟨p1,Y,O⟩:=uO h F J;obtain⟨p2,z,I⟩:=uO h F V;obtain⟨v1,f1⟩:=Gq h Y;obtain⟨v2,B⟩:=Gq h z;have h1:=rJ (pre:=p1) (l:=R x) (m:=.brw);have h2:=rJ (pre:=p2) (l:=R y) (m:=.brw);have a0:=h.bl;simp_arith![eV,fnI];refine aX (λρ=>ρ=[some (skD .own ns s),some (.str x),some (.str y),some (.int st),some (.lst .own ((p1++[R x]).map D.str)),some (.lst .own ((p2++[R y]).map D.str)),none,none,none]) (λQ U=>?_) ?_
 .simp_arith[sEx,aL,aW,aM,nA,O,I,bU,bM,-List.map_append]
  exact U _ rfl
 rintro _ rfl;refine aX (λρ=>ρ=[some (skD .own ns s),some (.str x),some (.str y),some (.int st),some (.lst .own ((p1++[R x]).map D.str)),some (.lst .own ((p2++[R y]).map D.str)),some (.int (v1+st-v2)),none,none]) (λQ U=>?_) ?_
 .simp_arith[sEx,aL,aW,aM,nA,bB,f1,B,fG,iY,-List.map_append]
  exact U _ rfl
 rintro _ rfl;refine aX (λρ=>ρ=[some (skD .own ns s),some (.str x),some (.str y),some (.int st),some (.lst .own ((p1++[R x]).map D.str)),some (.lst .own ((p2++[R y]).map D.str)),some (.int (v1+st-v2)),some (.str (R x)),some (.str (R y))]) (λQ U=>?_) ?_
 .simp_arith[sEx,aL,aW,aM,bB,iz,h1,h2,-List.map_append]
  exact U _ rfl
 rintro _ rfl;have i1:=MP (m:=.bro) (vs:=s.zs) Y.2.1;have i2:=MP (m:=.bro) (vs:=s.zs) z.2.1;refine aX (λρ=>∃b:Bh,ρ=[some (skD .own ns s),some (.str x),some (.str y),some (.int st),some (.lst .own ((p1++[R x]).map D.str)),some (.lst .own ((p2++[R y]).map D.str)),some (.int b.2.2),some (.str b.2.1),some (.str b.1)]/\b.1∈ns/\b.2.1∈ns/\b.1∉s.bs.map (·.1)/\b.2.1∉s.bs.map (·.1)/\b.1≠b.2.1/\Hb R x y b) (λQ U=>?_) ?_
 .simp_arith[sEx,aL,aW,aM,nA,gf3,i1,i2,gLt,iz,-List.map_append]
  split
  .exact U _ ⟨(R x,R y,-(v1+st-v2)),rfl,Y.2.1,z.2.1,Y.2.2.1,z.2.2.1,Z,.inl ⟨rfl,rfl⟩⟩
  .exact U _ ⟨(R y,R x,v1+st-v2),rfl,z.2.1,Y.2.1,z.2.2.1,Y.2.2.1,Z.symm,.inr ⟨rfl,rfl⟩⟩
 rintro _ ⟨b,rfl,q,b2,b3,b4,b5,b6⟩;refine aX (λρ=>ρ=[some (skD .own ns {s with bs:=s.bs++[b]}),some (.str x),some (.str y),some (.int st),some (.lst .own ((p1++[R x]).map D.str)),some (.lst .own ((p2++[R y]).map D.str)),some (.int b.2.2),some (.str b.2.1),some (.str b.1)]) (λQ U=>?_) ?_
 .have F:=W3 b3 a0
  simp[aH,gA,aU,cU,w_ite,i_,cz,bW,dX,sIf,jm,eF,gK,dG,c7,iD,jY,sFz,k_,fj,g8,tgN,tgT,aO,bZ,fO,tpN,tpT,bY,jC,aq,eC,aD,ak,eAp,eUp,jd,dB,ee2,dR,kE,e2,e1,eB,eeB,iI,mD,eOr,jL,j6,lV,eTT,isB,jB,itS,itE,jZ,b7,fY,gk,eSl,ql,mU,jG,gw,fW,eMt,qw,eIo,objs,gm,bz,clean,aC,aB,az,aA,bR,bQ,view,cH,mkV,mkF,fz,fzL,fzo,fV,mkO,fnP,fnI,en0,outs,fU,dW,obC,truth,sEx,aL,aW,aM,cG,pf2,-List.map_append];rw[show D.tup [.str b.2.1,.int b.2.2]=bvD b from rfl,us2 ⟨rfl,rfl⟩ F,aH];exact U _ rfl
 rintro _ rfl;have i3:=MP (m:=.bro) (vs:=s.zs) q;have q2:=Xa (g:=λi j=>i+j) (vs:=s.zs) (v:=s.zs b.1) nd b2 h.l;refine aX (λρ=>ρ=[some (skD .own ns {s with bs:=s.bs++[b],zs:=upv s.zs b.2.1 (s.zs b.2.1+s.zs b.1)}),some (.str x),some (.str y),some (.int st),some (.lst .own ((p1++[R x]).map D.str)),some (.lst .own ((p2++[R y]).map D.str)),some (.int b.2.2),some (.str b.2.1),some (.str b.1)]) (λQ U=>?_) ?_
 .simp[aH,gA,aU,cU,w_ite,i_,cz,bW,dX,sIf,jm,eF,gK,dG,c7,iD,jY,sFz,k_,fj,g8,tgN,tgT,aO,bZ,fO,tpN,tpT,bY,jC,aq,eC,aD,ak,eAp,eUp,jd,dB,ee2,dR,kE,e2,e1,eB,eeB,iI,mD,eOr,jL,j6,lV,eTT,isB,jB,itS,itE,jZ,b7,fY,gk,eSl,ql,mU,jG,gw,fW,eMt,qw,eIo,objs,gm,bz,clean,aC,aB,az,aA,bR,bQ,view,cH,mkV,mkF,fz,fzL,fzo,fV,mkO,fnP,fnI,en0,outs,fU,dW,obC,truth,sEx,aL,aW,aM,wK,pf3,nA,gf3,i3,-List.map_append]
  rw[us3 (s:={s with bs:=s.bs++[b]}) ⟨rfl,rfl⟩ q2,aH];exact U _ rfl
 rintro _ rfl;simp_arith[sEx,aL,aW,aM];exact⟨b,_,rfl,⟨q,b2,b3,b4,b5⟩,b6⟩
theorem Xl(h:R x≠R y)(U:Hb R x y b):hgR R b x=hgR R b y:=by
 unfold hgR;rcases U with⟨e,f⟩|⟨e,f⟩
 .rw[e,f,ZV rfl,Z1 (aay h)]
 .rw[e,f,ZV rfl,Z1 h]
theorem Yy(U:Hb R x y b){a c:Str}(e:hgR R b a=hgR R b c):R a=R c∨(R a=R x/\R c=R y)∨(R a=R y/\R c=R x):=by
 unfold hgR at e;rcases U with⟨f,g⟩|⟨f,g⟩<;>rw[f,g]at e<;>split at e<;>split at e
 .rename_i u v;exact .inl (u.trans v.symm)
 .rename_i u v;exact .inr (.inl ⟨u,e.symm⟩)
 .rename_i u v;exact .inr (.inr ⟨e,v⟩)
 .exact .inl e
 .rename_i u v;exact .inl (u.trans v.symm)
 .rename_i u v;exact .inr (.inr ⟨u,e.symm⟩)
 .rename_i u v;exact .inr (.inl ⟨e,v⟩)
 .exact .inl e
inductive Gd(ns:List Str):List Bh->List Dj->(Str->Str)->Prop where
 |nil:Gd ns [] [] id
 |known {bs:List Bh} {dn:List Dj} {R:Str->Str} (x y:Str) (st:Int):Gd ns bs dn R->x∈ns->y∈ns->R x=R y->Gd ns bs (dn++[(x,y,st,none)]) R
 |hang {bs:List Bh} {dn:List Dj} {R:Str->Str} (x y:Str) (st:Int) (b:Bh):Gd ns bs dn R->x∈ns->y∈ns->R x≠R y->Hb R x y b->(b.1∈ns/\b.2.1∈ns/\b.1∉bs.map (·.1)/\b.2.1∉bs.map (·.1)/\b.1≠b.2.1)->Gd ns (bs++[b]) (dn++[(x,y,st,some b.1)]) (hgR R b)
structure Iv(ns:List Str)(js:List Jt)(R:Str->Str):Prop where
 j:∀j∈js,j.1∈ns/\j.2.1∈ns/\R j.1=R j.2.1
 c:∀S:Str->Str,(∀j∈js,S j.1=S j.2.1)->∀a∈ns,∀b∈ns,R a=R b->S a=S b
structure Gi(ns:List Str)(bs:List Bh)(dn:List Dj)(R:Str->Str):Prop where
 b:Bk ns bs
 p:Pot bs R
 i:Iv ns (jsO dn) R
theorem Gd.gi(h:Gd ns bs dn R):Gi ns bs dn R:=by
 induction h with
 |nil=>exact⟨⟨by simp,by simp⟩,⟨by simp,λ_ _=>rfl⟩,by simp[jsO],λS _ a _ b _ e=>congrArg S e⟩
 |known x y st h h1 h2 U B=>
  refine⟨B.b,B.p,λd hd=>?_,λS D=>B.i.c S λd hd=>D d (by rw[jsO,ZW];exact ZJ _ hd)⟩;rw[jsO,ZW]at hd;rcases Zy.mp hd with z|z
  .exact B.i.j d z
  .obtain rfl:d=(x,y,st):=by simpa[jO]using z
   exact⟨h1,h2,U⟩
 |@hang bs dn R x y st b h h1 h2 U V q B=>
  obtain⟨b1,b2,F,O,J⟩:=q;refine⟨B.b.add b1 b2 F O J,B.p.add F O J,λd hd=>?_,λS D a Y c Z e=>?_⟩
  .rw[jsO,ZW]at hd
   rcases Zy.mp hd with z|z
   .obtain⟨a,c,g⟩:=B.i.j d z
    exact⟨a,c,by unfold hgR;rw[g]⟩
   .obtain rfl:d=(x,y,st):=by simpa[jO]using z
    exact⟨h1,h2,Xl U V⟩
  .rw[jsO,ZW]at D
   have I:=B.i.c S λd hd=>D d (ZJ _ hd);have new:S x=S y:=D (x,y,st) (by simp[jO]);rcases Yy V e with h|⟨h,g⟩|⟨h,g⟩
   .exact I a Y c Z h
   .rw[I a Y _ h1 h,I c Z _ h2 g,new]
   .rw[I a Y _ h2 h,I c Z _ h1 g,new]
structure St(ns:List Str)(s:Sk)(R:Str->Str):Prop where
 t:0<=s.t/\s.t<=1000
 g:Gd ns s.bs s.dn R
theorem St.ok(h:St ns s R)(O:ns.length<=20)(J:s.dn.length<=1000):Ok ns s:=⟨h.g.gi.b,h.t,O,J⟩
def Jn(ns:List Str)(s:Sk)(R:Str->Str)(x y:Str)(st:Int)(q:D×List D):Prop:=∃(w:Str)(k:Int)(s':Sk)(I:Str->Str),q=(.tup [.str w,.int k],[skD .own ns s',.str x,.str y,.int st])/\St ns s' I/\((w="clash"/\s'.dn=s.dn)∨(w≠"clash"/\∃h,s'.dn=s.dn++[(x,y,st,h)]))
theorem Vl{st:Int}(nd:ns.Nodup)(hS:St ns s R)(hl:ns.length<=20)(hx:x∈ns)(V:y∈ns)(hm:s.dn.length<1000):Wp (eX [skD .own ns s,.str x,.str y,.int st]) (Jn ns s R x y st):=by
 have Y:=hS.g;have F:=Y.gi.p;have h:=hS.ok hl 1.11;simp_arith![eX,fnI];refine aX (λρ=>∃(lk:Int)(r:Option Int),rr R x y r/\ρ=[some (skD .own ns {s with lk:=lk}),some (.str x),some (.str y),some (.int st),some (rO r),none,none]) (λQ hQ=>?_) ?_
 .simp_arith[sEx,aL,aW,aM,qU,uB (m:=.own) (by decide) (show eY j9 "steps"=none by decide),fzL,fz]
  refine Wp.mono (P_ h F hx V) ?_;rintro _ ⟨lk,r,rfl,O⟩;have:aC (rO r)=true/\aB (rO r)=true:=by cases r<;>exact⟨rfl,rfl⟩
  simp_arith[sEx,aL,aW,aM,this];exact hQ _ ⟨lk,r,O,rfl⟩
 rintro _ ⟨lk,r,O,rfl⟩;have h':Ok ns {s with lk:=lk}:=⟨h.b,h.t,h.l,h.m⟩;obtain⟨cn,a1⟩:=O8 (v:=st) h.t;have a2:∀v:Int,Jn ns s R x y st (.tup [.str "clash",.int v],[skD .own ns {s with lk:=lk},.str x,.str y,.int st]):=λv=>⟨_,v,_,R,rfl,⟨hS.t,Y⟩,.inl ⟨rfl,rfl⟩⟩;have a4:∀(w:Str)(k:Int)(h:Option Str)(s':Sk)(I:Str->Str),w≠"clash"->s'.dn=s.dn++[(x,y,st,h)]->St ns s' I->Jn ns s R x y st (.tup [.str w,.int k],[skD .own ns s',.str x,.str y,.int st]):=λw k h s' I a b c=>⟨w,k,s',I,rfl,c,.inr ⟨a,h,b⟩⟩;generalize Jn ns s R x y st=J at *
 have ni:∀v:Int,gNe (.int v) (.int cn)=some (.bl (!decide (v=cn))):=λv=>by
  unfold gNe;rw[ZV ⟨rfl,rfl,.sc (.int v cn)⟩];simp![dt,eqD,abF,D.bl.injEq];rw[aco];simp
 by_cases a0:∃v,r=some v/\v≠cn
 .obtain⟨v,rfl,Z⟩:=a0
  rw[i_];simp_arith[sEx,aL,aW,aM,rO,oV,jr,nA,gf0,a1,bu,ni,Z,cG];exact a2 v
 have a0:(r=none/\R x≠R y)∨(r=some cn/\R x=R y):=by
  cases r with
  |none=>exact .inl ⟨rfl,O.mp rfl⟩
  |some v=>exact .inr ⟨by by_cases Z:v=cn;rw[Z];exact absurd ⟨v,rfl,Z⟩ a0,Classical.byContradiction λz=>nomatch O.mpr z⟩
 refine aX (λρ=>ρ=[some (skD .own ns {s with lk:=lk}),some (.str x),some (.str y),some (.int st),some (rO r),none,none]) (λQ hQ=>?_) ?_
 .rcases a0 with⟨rfl,_⟩|⟨rfl,_⟩
  .exact⟨_,rfl,hQ _ rfl⟩
  .simp_arith[sEx,aL,aW,aM,rO,oV,jr,nA,gf0,a1,bu,ni]
   exact hQ _ rfl
 rintro _ rfl;refine aX (λρ=>∃k:Int,ρ=[some (skD .own ns {s with lk:=lk}),some (.str x),some (.str y),some (.int st),some (rO r),some (.int k),none]) (λQ hQ=>?_) ?_
 .simp_arith[sEx,aL,aW,aM,nA,Eb h'.m,eQ]
  exact hQ _ ⟨_,rfl⟩
 rintro _ ⟨k,rfl⟩;refine aX (λρ=>∃(q:Option Str)(s':Sk),ρ=[some (skD .own ns s'),some (.str x),some (.str y),some (.int st),some (rO r),some (.int k),some (ktD (x,y,st,q))]/\s'.dn=s.dn/\∃I,St ns {s' with dn:=s'.dn++[(x,y,st,q)]} I) (λQ hQ=>?_) ?_
 .rcases a0 with⟨rfl,hR⟩|⟨rfl,hR⟩
  .simp_arith[sEx,aL,aW,aM,rO,gIs,jr,qU,uB (m:=.own) (by decide) (show eY j9 "hang"=none by decide)]
   refine Wp.mono (V0 (s:={s with lk:=lk}) nd h' F hx V hR) ?_;rintro _ ⟨b,zs,rfl,U,a7⟩;simp_arith[sEx,aL,aW,aM];exact hQ _ ⟨some b.1,_,rfl,rfl,_,hS.t,.hang x y st b Y hx V hR a7 U⟩
  .exact⟨_,rfl,hQ _ ⟨none,{s with lk:=lk},rfl,rfl,R,hS.t,.known x y st Y hx V hR⟩⟩
 rintro _ ⟨q,s',rfl,a3,I,a6⟩;refine aX (λρ=>ρ=[some (skD .own ns {s' with dn:=s'.dn++[(x,y,st,q)]}),some (.str x),some (.str y),some (.int st),some (rO r),some (.int k),some (ktD (x,y,st,q))]) (λQ hQ=>?_) ?_
 .have hkt:=Fv (x,y,st,q)
  have a5:aR (nD .own s'.dn) [dnD (x,y,st,q)]=some (nD .own (s'.dn++[(x,y,st,q)]),.non):=by
   simp![nD,aR,ZL];rw[ZV (by rw[a3];omega),ZW];rfl
  simp[aH,gA,aU,cU,w_ite,i_,cz,bW,dX,sIf,jm,eF,gK,dG,c7,iD,jY,sFz,k_,fj,g8,tgN,tgT,aO,bZ,fO,tpN,tpT,bY,jC,aq,eC,aD,ak,eAp,eUp,jd,dB,ee2,dR,kE,e2,e1,eB,eeB,iI,mD,eOr,jL,j6,lV,eTT,isB,jB,itS,itE,jZ,b7,fY,gk,eSl,ql,mU,jG,gw,fW,eMt,qw,eIo,objs,gm,bz,clean,aC,aB,az,aA,bR,bQ,view,cH,mkV,mkF,fz,fzL,fzo,fV,mkO,fnP,fnI,en0,outs,fU,dW,obC,truth,sEx,aL,aW,aM,cG,pf4,hkt];rw[show D.tup [.tup [.str "join",.str x,.str y,.int st],ktD (x,y,st,q)]=dnD (x,y,st,q)from rfl,us4 ⟨by simp[az,(nY _).1],by simp[aA,(nY _).2.1]⟩ a5,aH];exact hQ _ rfl
 rintro _ rfl;have hf:∀w:Str,w≠"clash"->J (.tup [.str w,.int k],[skD .own ns {s' with dn:=s'.dn++[(x,y,st,q)]},.str x,.str y,.int st]):=λw B=>a4 w k q _ I B (by rw[←a3]) a6;rcases a0 with⟨rfl,_⟩|⟨rfl,_⟩
 .simp_arith[sEx,aL,aW,aM,rO,gIs,jr,cG];exact hf _ (by decide)
 .simp_arith[sEx,aL,aW,aM,rO,gIs,jr,cG];exact hf _ (by decide)
def PvD(ns:List Str)(bs I:List Bh)(d:Dj):Prop:=match d.2.2.2 with
 |none=>bs=I
 |some h=>∃b:Bh,b.1=h/\bs=I++[b]
theorem Gd.prev{d:Dj}(h:Gd ns bs (dn++[d]) R):∃I z,Gd ns I dn z/\PvD ns bs I d:=by
 generalize hd:dn++[d]=dd at h;cases h with
 |nil=>simp at hd
 |@known _ _ _ x y st h h1 h2 Z=>
  obtain⟨e,f⟩:=agh hd rfl;obtain rfl:d=(x,y,st,none):=by simpa using f
  subst e;exact⟨_,_,h,rfl⟩
 |@hang I _ _ x y st b h h1 h2 Z V q=>
  obtain⟨e,f⟩:=agh hd rfl;obtain rfl:d=(x,y,st,some b.1):=by simpa using f
  subst e;exact⟨I,_,h,b,rfl,rfl⟩
theorem YX(nd:((bs++[b]).map (·.1)).Nodup):xU (bD .own (bs++[b])) [.str b.1]=some (bD .own bs,.non):=by
 have hi:(bs++[b])[bs.length]? =some b:=by simp
 have I:=Gf nd (i:=bs.length) (x:=b.1) (by rw[List.getElem?_map,hi];rfl);simp![bD,xU,cW,Hq,I];rw[ZV (by simp)];have e1:(((bs++[b]).map (·.1)).map (ZS:Str->Key)).eraseIdx bs.length=(bs.map (·.1)).map ZS:=by
  rw[ZW,ZW,abp (by simp)];simp
 have e2:((bs++[b]).map bvD).eraseIdx bs.length=bs.map bvD:=by
  rw[ZW,abp (by simp)];simp
 rw[e1,e2]
theorem K9(nd:ns.Nodup)(U:Bk ns (bs++[b]))(B:s.bs=bs++[b])(O:ns.length<=20):dM [skD .own ns s,.str b.1]=some (.non,[skD .own ns {s with bs:=bs,zs:=upv s.zs b.2.1 (s.zs b.2.1-s.zs b.1)},.str b.1]):=by
 have hi:(bs++[b])[bs.length]? =some b:=by simp
 obtain⟨F,D,_⟩:=U.ok _ _ hi;have I:=O9 (m:=.bro) U.nd hi;have q:=MP (m:=.bro) (vs:=s.zs) F;have q2:=Xa (g:=λi j=>i-j) (vs:=s.zs) (v:=s.zs b.1) nd D O;apply Wp.eq;simp_arith![dM,fnI];refine aX (λρ=>ρ=[some (skD .own ns s),some (.str b.1),some (.str b.2.1),some (.int b.2.2)]) (λQ z=>?_) ?_
 .simp_arith[sEx,aL,aW,aM,nA,gf2,B,I,bvD]
  exact z _ rfl
 rintro _ rfl;refine aX (λρ=>ρ=[some (skD .own ns {s with zs:=upv s.zs b.2.1 (s.zs b.2.1-s.zs b.1)}),some (.str b.1),some (.str b.2.1),some (.int b.2.2)]) (λQ z=>?_) ?_
 .simp[aH,gA,aU,cU,w_ite,i_,cz,bW,dX,sIf,jm,eF,gK,dG,c7,iD,jY,sFz,k_,fj,g8,tgN,tgT,aO,bZ,fO,tpN,tpT,bY,jC,aq,eC,aD,ak,eAp,eUp,jd,dB,ee2,dR,kE,e2,e1,eB,eeB,iI,mD,eOr,jL,j6,lV,eTT,isB,jB,itS,itE,jZ,b7,fY,gk,eSl,ql,mU,jG,gw,fW,eMt,qw,eIo,objs,gm,bz,clean,aC,aB,az,aA,bR,bQ,view,cH,mkV,mkF,fz,fzL,fzo,fV,mkO,fnP,fnI,en0,outs,fU,dW,obC,truth,sEx,aL,aW,aM,wK,pf3,nA,gf3,q]
  rw[us3 ⟨rfl,rfl⟩ q2,aH];exact z _ rfl
 rintro _ rfl;have hd:=YX U.nd;rw[←B]at hd;simp[aH,gA,aU,cU,w_ite,i_,cz,bW,dX,sIf,jm,eF,gK,dG,c7,iD,jY,sFz,k_,fj,g8,tgN,tgT,aO,bZ,fO,tpN,tpT,bY,jC,aq,eC,aD,ak,eAp,eUp,jd,dB,ee2,dR,kE,e2,e1,eB,eeB,iI,mD,eOr,jL,j6,lV,eTT,isB,jB,itS,itE,jZ,b7,fY,gk,eSl,ql,mU,jG,gw,fW,eMt,qw,eIo,objs,gm,bz,clean,aC,aB,az,aA,bR,bQ,view,cH,mkV,mkF,fz,fzL,fzo,fV,mkO,fnP,fnI,en0,outs,fU,dW,obC,truth,sEx,aL,aW,aM,MF,pf2];rw[us2 (s:={s with zs:=upv s.zs b.2.1 (s.zs b.2.1-s.zs b.1)}) ⟨rfl,rfl⟩ hd,aH];simp_arith[sEx,aL,aW,aM]
def Bc(ns:List Str)(s:Sk)(q:D×List D):Prop:=∃(v:D)(s':Sk)(I:Str->Str),q=(v,[skD .own ns s'])/\s'.dn=s.dn.dropLast/\St ns s' I
theorem Vt(nd:ns.Nodup)(hS:St ns s R)(O:ns.length<=20):Wp (dH [skD .own ns s]) (Bc ns s):=by
 have hi:=hS.g.gi;rcases ae6 s.dn with hn|⟨dn,d,hd⟩
 .have D:Bc ns s (.non,[skD .own ns s]):=⟨.non,s,R,rfl,by simp[hn],hS⟩
  simp_arith[dH,sEx,aL,aW,aM,nA,gf4,nD,hn,eQ,eq_int];exact D
 .rw[ae7]at hd
  simp_arith![dH,fnI];refine aX (λρ=>ρ=[some (skD .own ns s),none,none]) (λQ U=>?_) ?_
  .simp_arith[sEx,aL,aW,aM,nA,gf4,nD,hd,eQ,eq_int]
   split
   .omega
   .exact U _ rfl
  rintro _ rfl;obtain⟨Y,z,c3⟩:=O6 d;obtain⟨B,F,k3⟩:=Fv d;refine aX (λρ=>ρ=[some (skD .own ns {s with dn:=dn}),some (dcD d),some (ktD d)]) (λQ U=>?_) ?_
  .have hop:ww (nD .own s.dn) []=some (nD .own dn,dnD d):=by
    simp[nD,ww,hd]
   simp[aH,gA,aU,cU,w_ite,i_,cz,bW,dX,sIf,jm,eF,gK,dG,c7,iD,jY,sFz,k_,fj,g8,tgN,tgT,aO,bZ,fO,tpN,tpT,bY,jC,aq,eC,aD,ak,eAp,eUp,jd,dB,ee2,dR,kE,e2,e1,eB,eeB,iI,mD,eOr,jL,j6,lV,eTT,isB,jB,itS,itE,jZ,b7,fY,gk,eSl,ql,mU,jG,gw,fW,eMt,qw,eIo,objs,gm,bz,clean,aC,aB,az,aA,bR,bQ,view,cH,mkV,mkF,fz,fzL,fzo,fV,mkO,fnP,fnI,en0,outs,fU,dW,obC,truth,sEx,aL,aW,aM,g8,pf4];rw[us4 ⟨rfl,rfl⟩ hop,aH];simp_arith[sEx,aL,aW,aM,dnD,Y,z,B,F];exact U _ rfl
  rintro _ rfl;obtain⟨I,R0,a0,Z⟩:=(hd▸hS.g).prev;have D:∀zs,Bc ns s (dcD d,[skD .own ns {s with dn:=dn,bs:=I,zs:=zs}]):=λzs=>⟨_,_,R0,rfl,by rw[hd];simp,hS.t,a0⟩;obtain⟨a,b,st,q⟩:=d;cases q with
  |none=>
   have p2:s.bs=I:=Z;subst p2;refine aX (λρ=>ρ=[some (skD .own ns {s with dn:=dn}),some (dcD (a,b,st,none)),some (ktD (a,b,st,none))]) (λQ U=>?_) ?_
   .simp[aH,gA,aU,cU,w_ite,i_,cz,bW,dX,sIf,jm,eF,gK,dG,c7,iD,jY,sFz,k_,fj,g8,tgN,tgT,aO,bZ,fO,tpN,tpT,bY,jC,aq,eC,aD,ak,eAp,eUp,jd,dB,ee2,dR,kE,e2,e1,eB,eeB,iI,mD,eOr,jL,j6,lV,eTT,isB,jB,itS,itE,jZ,b7,fY,gk,eSl,ql,mU,jG,gw,fW,eMt,qw,eIo,objs,gm,bz,clean,aC,aB,az,aA,bR,bQ,view,cH,mkV,mkF,fz,fzL,fzo,fV,mkO,fnP,fnI,en0,outs,fU,dW,obC,truth,sEx,aL,aW,aM,dcD,ktD,gIx,atI,ixN,eq_str,oV,jr]
    rw[Z1 (by decide)];exact U _ rfl
   rintro _ rfl;simp_arith[sEx,aL,aW,aM,dcD];exact D _
  |some x=>
   obtain⟨bh,rfl,V⟩:=Z;have J:=K9 (s:={s with dn:=dn}) nd (V▸hi.b) V O;refine aX (λρ=>∃zs,ρ=[some (skD .own ns {s with dn:=dn,bs:=I,zs:=zs}),some (dcD (a,b,st,some bh.1)),some (ktD (a,b,st,some bh.1))]) (λQ U=>?_) ?_
   .simp[aH,gA,aU,cU,w_ite,i_,cz,bW,dX,sIf,jm,eF,gK,dG,c7,iD,jY,sFz,k_,fj,g8,tgN,tgT,aO,bZ,fO,tpN,tpT,bY,jC,aq,eC,aD,ak,eAp,eUp,jd,dB,ee2,dR,kE,e2,e1,eB,eeB,iI,mD,eOr,jL,j6,lV,eTT,isB,jB,itS,itE,jZ,b7,fY,gk,eSl,ql,mU,jG,gw,fW,eMt,qw,eIo,objs,gm,bz,clean,aC,aB,az,aA,bR,bQ,view,cH,mkV,mkF,fz,fzL,fzo,fV,mkO,fnP,fnI,en0,outs,fU,dW,obC,truth,sEx,aL,aW,aM,dcD,ktD,gIx,atI,ixN,eq_str,oV,jr,qU,uB (m:=.own) (by decide) (show eY j9 "unhang"=none by decide)]
    rw[Z1 (by decide),J];exact⟨_,rfl,U _ ⟨_,rfl⟩⟩
   rintro _ ⟨zs,rfl⟩;simp_arith[sEx,aL,aW,aM,dcD];exact D zs
def yX(y:Str)(j:Jt):List (Str×Int):=(if j.1=y then[(j.2.1,j.2.2)]else[])++(if j.2.1=y then[(j.1,0-j.2.2)]else[])
def bes(y:Str)(js:List Jt):List (Str×Int):=js.flatMap (yX y)
def obD(p:Str×Int):D:=.tup [.str p.1,.int p.2]
theorem Xo(l:List (Str×Int)):az (l.map obD)=true:=bH λd hd=>by obtain⟨x,_,rfl⟩:=ZG.mp hd;rfl
theorem Yv(l:List (Str×Int)):aA (l.map obD)=true:=bC λd hd=>by obtain⟨x,_,rfl⟩:=ZG.mp hd;rfl
theorem WL(l:List (Str×Int)):fV (l.map obD)=l.map obD:=by rw[gR,ZX];rfl
theorem Td:∀l:List (Str×Int),bA (l.map obD)=true
 |[]=>rfl
 |x::r=>by rw[ZF,bA,Td r];rfl
theorem Hc(y:Str):∀js:List Jt,(bes y js).length<=2*js.length
 |[]=>by simp[bes]
 |j::r=>by
  have:=Hc y r;have h1:(yX y j).length<=2:=by unfold yX;split<;>split<;>simp
  simp![bes,List.flatMap_cons,aaP,Z3]at this⊢;omega
def bsL(y:Str)(js:List Jt):D:=.lst .own ((bes y js).map obD)
def BeI(J:D)(y:Str)(js:List Jt)(k:Nat)(ρ:En):Prop:=∃Z B q:Option D,ρ=[some (.str y),some J,some (bsL y (js.take k)),Z,B,q]
variable{js:List Jt}
theorem Kd(O:js.length<=1000):dF [.str y,.lst .frz (js.map jD)]=some (bsL y js):=by
 apply Wp.eq;simp_arith![dF,fnP];refine aX (BeI (.lst .frz (js.map jD)) y js 0) (λQ U=>?_) ?_
 .exact⟨_,rfl,U _ ⟨none,none,none,rfl⟩⟩
 rintro _ ⟨x3,B,q,rfl⟩;refine aX (BeI (.lst .frz (js.map jD)) y js js.length) (λQ U=>?_) ?_
 .simp[iD,itS,aq,view,m7,mkV,b7,clean,aC,aB,kJ,kW,v_,aU,aH]
  refine lF (BeI (.lst .frz (js.map jD)) y js) ⟨_,_,_,rfl⟩ ?_ (λρ h=>U _ (by rw[ZL]at h;exact h));rintro k d ρ I ⟨x3,B,q,rfl⟩;rw[List.getElem?_map]at I;cases F:js[k]? with
  |none=>simp[F]at I
  |some j=>
   obtain rfl:jD j=d:=by simpa[F]using I
   have z:=(List.getElem?_eq_some_iff.mp F).1;have Y:bes y (js.take (k+1))=bes y (js.take k)++yX y j:=by
    rw[List.take_succ,F,bes,List.flatMap_append];simp[bes]
   have h2:=Hc y (js.take k);have Z:(js.take k).length=k:=by rw[abe];omega
   have a0:∀(l:List (Str×Int))(p:Str×Int),l.length<1000000->aR (.lst .own (l.map obD)) [obD p]=some (.lst .own ((l++[p]).map obD),.non):=λl p h=>by
    simp![aR,ZL];rw[ZV h,ZW];rfl
   simp[jD,tgT,aO,bZ,tgN,az,aA,clean,aC,aB,aH];have V:∀l,bes y (js.take (k+1))=l->BeI (.lst .frz (js.map jD)) y js (k+1) [some (.str y),some (.lst .frz (js.map jD)),some (.lst .own (l.map obD)),some (.str j.1),some (.str j.2.1),some (.int j.2.2)]:=λl e=>⟨_,_,_,by rw[bsL,e]⟩;rw[Y]at V;generalize BeI (.lst .frz (js.map jD)) y js (k+1)=J at V⊢;refine aX (λρ=>ρ=[some (.str y),some (.lst .frz (js.map jD)),some (.lst .own ((bes y (js.take k)++if j.1=y then[(j.2.1,j.2.2)]else[]).map obD)),some (.str j.1),some (.str j.2.1),some (.int j.2.2)]) (λQ U=>?_) ?_
   .by_cases h1:j.1=y
    .have ha:=a0 (bes y (js.take k)) (j.2.1,j.2.2) 1.11
     simp![obD]at ha;simp_arith[sEx,aL,aW,aM,eq_str,h1,cG,bsL,ha,-List.map_append];exact U _ (by simp[h1,obD])
    .simp_arith[sEx,aL,aW,aM,eq_str,h1,bsL]
     exact U _ (by simp[h1])
   rintro _ rfl;by_cases h1:j.2.1=y
   .have ha:=a0 (bes y (js.take k)++if j.1=y then[(j.2.1,j.2.2)]else[]) (j.1,0-j.2.2) (by simp;split<;>simp<;>omega)
    simp![obD]at ha;simp![sIf,eB,e2,aq,view,eq_str,isB,aU,aH,w_ite,aam,aau,Hq,aaE h1,aab];simp[fj,g8,bY,ak,aD,aq,eAp,e2,eC,view,cG,iY,upS,cV,dz,az,aA,aC,aB,aU,cU,aH,-List.map_append];rw[show(D.int (-j.2.2))=D.int (0-j.2.2)by simp,ha,aH];exact V _ (by simp[yX,h1])
   .simp![sIf,eB,e2,aq,view,eq_str,isB,aU,aH,w_ite,aam,aau,Hq,aaa h1,aaj,aaN,c7]
    exact V _ (by simp[yX,h1])
 rintro _ ⟨x3,B,q,rfl⟩;simp[dG,aH,acf]
theorem Zx(es:List Bh):aC (bD .own es)=true/\aB (bD .own es)=true:=by simp[bD,aC,aB,Ky,K8]
theorem RT(es:List Bh):view false (bD .own es)=bD .brw es:=by simp![bD,view,HJ];rfl
theorem Yq(es:List Bh)(b:Bool):view b (bD .frz es)=bD .frz es:=by cases b<;>(simp![bD,view,HJ];rfl)
variable{es:List Bh}
theorem Zh(h:m≠.scr):fz (bD m es)=bD .frz es:=by
 simp![bD,fz,Og];cases m<;>first|rfl|exact absurd rfl h
theorem T8:gj (.str x) (bD m bs)=some (.bl (!kyB bs x)):=by simp![kyB,gj,bD,pP,cW,aaw,kI]
theorem Wm{g:List Str}(h:g.length<64):jN [.lst m (g.map D.str)]=some (.lst .own ((aY g).map D.str)):=Lw (m:=m) h
def So(R:Str->Str)(e:Bh):Prop:=R e.2.1=R e.1
structure Sd(ns:List Str)(R:Str->Str)(es:List Bh):Prop where
 nd:(es.map (·.1)).Nodup
 i:∀e∈es,e.1∈ns
 s:∀e∈es,So R e
def Cl(js:List Jt)(es:List Bh):Prop:=∀j∈js,∀e∈es,(e.1=j.1->∃c,(j.2.1,e.2.1,c)∈es)/\(e.1=j.2.1->∃c,(j.1,e.2.1,c)∈es)
variable{q:Str×Int}
theorem QH(h:q∈bes y js):∃j∈js,(j.1=y/\q=(j.2.1,j.2.2))∨(j.2.1=y/\q=(j.1,0-j.2.2)):=by
 obtain⟨j,F,h⟩:=aes.mp h;refine⟨j,F,?_⟩;unfold yX at h;rcases Zy.mp h with h|h
 .split at h
  .rename_i e;exact .inl ⟨e,Z7.mp h⟩
  .cases h
 .split at h
  .rename_i e;exact .inr ⟨e,Z7.mp h⟩
  .cases h
variable{j:Jt}
theorem SQ(h:j∈js):(j.2.1,j.2.2)∈bes j.1 js/\(j.1,0-j.2.2)∈bes j.2.1 js:=
 ⟨aes.mpr ⟨j,h,by simp[yX]⟩,aes.mpr ⟨j,h,by simp[yX]⟩⟩
theorem Sd.len(h:Sd ns R es):es.length<=ns.length:=by
 have:=y_ h.nd (λx J=>by obtain⟨e,V,rfl⟩:=ZG.mp J;exact h.i e V:∀x∈es.map (·.1),x∈ns);simpa using this
variable{e:Bh}
theorem Sd.add(h:Sd ns R es)(h1:e.1∉es.map (·.1))(h2:e.1∈ns)(q:So R e):Sd ns R (es++[e])where
 nd:=by
  rw[ZW];exact ZZ.mpr ⟨h.nd,by simp,λy V z hz=>by
   obtain rfl:z=e.1:=by simpa using hz
   exact λe=>h1 (e▸V)⟩
 i:=λc Z=>(Zy.mp Z).elim (h.i c) λz=>by rw[Z7.mp z];exact h2
 s:=λc Z=>(Zy.mp Z).elim (h.s c) λz=>by rw[Z7.mp z];exact q
theorem Ql(z:∀j∈js,j.1∈ns/\j.2.1∈ns/\R j.1=R j.2.1)(h:So R e)(Y:q∈bes e.1 js):q.1∈ns/\So R (q.1,e.2.1,e.2.2+q.2):=by
 obtain⟨j,F,h1|h1⟩:=QH Y
 .obtain⟨e1',rfl⟩:=h1
  obtain⟨a,b,c⟩:=z j F;exact⟨b,by show R e.2.1=R j.2.1;rw[h,←e1',c]⟩
 .obtain⟨e1',rfl⟩:=h1
  obtain⟨a,b,c⟩:=z j F;exact⟨a,by show R e.2.1=R j.1;rw[h,←e1',c]⟩
variable{new:List Bh}
theorem RX{I:List Bh}(Z:Cl js I)(B:Sd ns R (I++new))(J:∀e∈new,e.2.1=x)(F:∀e∈new,∀q∈bes e.1 js,q.1∈(I++new).map (·.1)):Cl js (I++new):=by
 have D:∀e∈new,e.1∉I.map (·.1):=λe V z=>by
  have:=B.nd;rw[ZW]at this;exact(ZZ.mp this).2.2 _ z _ (ZG.mpr ⟨e,V,rfl⟩) rfl
 intro j Y e V;rcases Zy.mp V with z|z
 .obtain⟨a,b⟩:=Z j Y e z
  exact⟨λh=>(a h).imp λc Z=>ZJ _ Z,λh=>(b h).imp λc Z=>ZJ _ Z⟩
 .refine⟨λh=>?_,λh=>?_⟩
  .have hq:=F e z (j.2.1,j.2.2) (h▸(SQ Y).1)
   obtain⟨c,U,O⟩:=ZG.mp hq;rcases Zy.mp U with y|y
   .obtain⟨w,hw⟩:=(Z j Y c y).2 O
    exact absurd (ZG.mpr ⟨_,hw,h.symm⟩) (D e z)
   .exact⟨c.2.2,by rw[J e z,←J c y,←O];exact W2 _ y⟩
  .have hq:=F e z (j.1,0-j.2.2) (h▸(SQ Y).2)
   obtain⟨c,U,O⟩:=ZG.mp hq;rcases Zy.mp U with y|y
   .obtain⟨w,hw⟩:=(Z j Y c y).1 O
    exact absurd (ZG.mpr ⟨_,hw,h.symm⟩) (D e z)
   .exact⟨c.2.2,by rw[J e z,←J c y,←O];exact W2 _ y⟩
def tdL(m:Mk)(new:List Bh):D:=.lst m ((new.map (·.1)).map D.str)
structure Wn1(ns:List Str)(js:List Jt)(R:Str->Str)(old new:List Bh)(x:Str)(p:Nat):Prop where
 s:Sd ns R (old++new)
 x:∀e∈new,e.2.1=x
 p:∀(i:Nat)(e:Bh),i<p->new[i]? =some e->∀q∈bes e.1 js,q.1∈(old++new).map (·.1)
def WhI(N J:D)(ns:List Str)(js:List Jt)(R:Str->Str)(I:List Bh)(x:Str)(p:Nat)(ρ:En):Prop:=∃(new:List Bh)(V U:Option D),ρ=[some N,some J,some (bD .own (I++new)),some (.str x),some (tdL .own new),some (.int p),V,U]/\Wn1 ns js R I new x p/\p<=new.length/\x∈new.map (·.1)
def FoI(N J:D)(ns:List Str)(js:List Jt)(R:Str->Str)(I:List Bh)(x:Str)(p:Nat)(O:Bh)(k:Nat)(ρ:En):Prop:=∃(new:List Bh)(V U:Option D),ρ=[some N,some J,some (bD .own (I++new)),some (.str x),some (tdL .own new),some (.int p),V,U]/\Wn1 ns js R I new x p/\new[p]? =some O/\x∈new.map (·.1)/\∀(i:Nat)(q:Str×Int),i<k->(bes O.1 js)[i]? =some q->q.1∈(I++new).map (·.1)
def OuI(N J:D)(ns:List Str)(js:List Jt)(R:Str->Str)(k:Nat)(ρ:En):Prop:=∃(es:List Bh)(Z B q V U:Option D),ρ=[some N,some J,some (bD .own es),Z,B,q,V,U]/\Sd ns R es/\Cl js es/\∀(i:Nat)(z:Str),i<k->(aY ns)[i]? =some z->z∈es.map (·.1)
def WkD(ns:List Str)(js:List Jt)(R:Str->Str)(d:D):Prop:=∃es,d=bD .own es/\Sd ns R es/\Cl js es/\∀x∈ns,x∈es.map (·.1)
variable{p:Nat}
theorem Ua(h:new[p]? =some e):gIx (tdL m new) (.int p)=some (.str e.1):=by
 have O:=(List.getElem?_eq_some_iff.mp h).1;simp[tdL,gIx,atI,ixN];rw[ZV 1.11,Hq];simp[h]
theorem Wj(new:List Bh):view false (tdL .own new)=tdL .brw new:=by simp![tdL,view,bB];rfl
theorem Hn(h:kyB es x=false):x∉es.map (·.1):=by simpa only[kyB,decide_eq_false_iff_not]using h
theorem Tu(h:kyB es x=true):x∈es.map (·.1):=by simpa only[kyB,aa0]using h
theorem X7{N J:D}(q:b.1∉es.map (·.1))(O:es.length<=1000):upS fQ 2 [] [.str b.1,bvD b] (some N::some J::some (bD .own es)::r)=some (.non,some N::some J::some (bD .own (es++[b]))::r):=by
 have:=W3 q O;simp![upS,cV,aam,aau,Hq,this,dz,aaZ,abx];rfl
theorem Vz{I:List Bh}(h:Wn1 ns js R I new x p)(F:p<new.length)(h1:e.1∉(I++new).map (·.1))(h2:e.1∈ns)(B:So R e)(V:e.2.1=x):Wn1 ns js R I (new++[e]) x p where
 s:=by rw[←aa_];exact h.s.add h1 h2 B
 x:=λc Z=>(Zy.mp Z).elim (h.x c) λz=>by rw[Z7.mp z];exact V
 p:=λi c hi Z q Y=>by
  rw[aad 1.11]at Z;rw[←aa_,ZW];exact ZJ _ (h.p i c hi Z q Y)
theorem Vu(hJ:∀j∈js,j.1∈ns/\j.2.1∈ns/\R j.1=R j.2.1)(O:ns.length<=20)(d1:js.length<=1000):Wp (eU [.lst .frz 1.14,.lst .frz (js.map jD)]) (WkD ns js R):=by
 simp_arith![eU,fnP];refine aX (OuI (.lst .frz 1.14) (.lst .frz (js.map jD)) ns js R 0) (λQ U=>?_) ?_
 .exact⟨_,rfl,U _ ⟨[],none,none,none,none,none,rfl,⟨by simp,by simp,by simp⟩,by simp[Cl],by simp⟩⟩
 rintro ρ b0;refine aX (OuI (.lst .frz 1.14) (.lst .frz (js.map jD)) ns js R ns.length) (λQ U=>?_) ?_
 .have hsl:(aY ns).length=ns.length:=(cN ns).length_eq
  have c9:b7 (.lst .own ((aY ns).map D.str))=some (true,(aY ns).map D.str):=by simp[b7,clean,aC,aB,bU,bM,gF]
  have hv:view false (.lst .frz 1.14)= .lst .frz (ns.map D.str):=by simp[view,bB,mkV]
  have B:=Wm (m:=.frz) (g:=ns) 1.11;have c5:=b0;obtain⟨e5,y3,y4,y5,y6,y7,rfl,_⟩:=c5;simp[iD,itS,eAp,ak,aD,aq,hv,B,c9,aU,aH,w_ite];refine lF (OuI (.lst .frz 1.14) (.lst .frz (js.map jD)) ns js R) b0 ?_ (λρ h=>U _ (by rw[ZL,hsl]at h;exact h));rintro k d ρ hk ⟨es,x3,x4,x5,x6,x7,rfl,hS,hC,hK⟩;rw[List.getElem?_map]at hk;cases a9:(aY ns)[k]? with
  |none=>simp[a9]at hk
  |some x=>
   obtain rfl:D.str x=d:=by simpa[a9]using hk
   have d3:x∈ns:=(cN ns).mem_iff.mp (Z2 a9);have e3:=hS.len;have d5:∀a0:List Bh,(∀y∈es.map (·.1),y∈a0.map (·.1))->x∈a0.map (·.1)->∀(i:Nat)(z:Str),i<k+1->(aY ns)[i]? =some z->z∈a0.map (·.1):=λa0 h1 h2 i z hi hz=>by
    rcases acg i k with h|h
    .exact h1 z (hK i z h hz)
    .have:i=k:=by omega
     subst this;rw[a9]at hz;cases hz;exact h2
   have a5:∀(a0:List Bh)(x4 x5 x6 x7:Option D),Sd ns R a0->Cl js a0->(∀y∈es.map (·.1),y∈a0.map (·.1))->x∈a0.map (·.1)->OuI (.lst .frz 1.14) (.lst .frz (js.map jD)) ns js R (k+1) [some (.lst .frz 1.14),some (.lst .frz (js.map jD)),some (bD .own a0),some (.str x),x4,x5,x6,x7]:=λa0 x4 x5 x6 x7 a b c d=>⟨a0,_,_,_,_,_,rfl,a,b,d5 a0 c d⟩;generalize OuI (.lst .frz 1.14) (.lst .frz (js.map jD)) ns js R (k+1)=I at a5⊢;simp[tgN,aC,aB,clean,aH];simp[sIf,eB,e2,aq,RT,view,T8,isB,aU,aH,w_ite];cases b5:kyB es x with
   |true=>
    simp[c7,aH];exact a5 es _ _ _ _ hS hC (λ_ h=>h) (Tu b5)
   |false=>
    simp![aaj,aaN];refine aX (λρ=>ρ=[some (.lst .frz 1.14),some (.lst .frz (js.map jD)),some (bD .own (es++[(x,x,0)])),some (.str x),x4,x5,x6,x7]) (λQ U=>?_) ?_
    .have hset:=X7 (b:=(x,x,0)) (N:=.lst .frz 1.14) (J:=.lst .frz (js.map jD)) (r:=[some (.str x),x4,x5,x6,x7]) (Hn b5) 1.11
     simp![bvD]at hset;simp[cz,e2,eC,aq,view,eAp,ak,aD,cG,aU,cU,aH,fO,bY,hset,az,aA,aC,aB,clean];exact U _ rfl
    rintro _ rfl;have d6:Sd ns R (es++[(x,x,0)]):=hS.add (Hn b5) d3 rfl;refine aX (λρ=>ρ=[some (.lst .frz 1.14),some (.lst .frz (js.map jD)),some (bD .own (es++[(x,x,0)])),some (.str x),some (tdL .own [(x,x,0)]),x5,x6,x7]) (λQ U=>?_) ?_
    .exact⟨_,rfl,U _ rfl⟩
    rintro _ rfl;refine aX (WhI (.lst .frz 1.14) (.lst .frz (js.map jD)) ns js R es x 0) (λQ U=>?_) ?_
    .exact⟨_,rfl,U _ ⟨[(x,x,0)],_,_,rfl,⟨d6,by simp,by simp⟩,by simp,by simp⟩⟩
    rintro ρ b0;refine rG (WhI (.lst .frz 1.14) (.lst .frz (js.map jD)) ns js R es x) ns.length ?_ 1000000 0 _ b0 1.11;rintro p ρ ⟨new,x6,x7,rfl,hW,F,c8⟩;have d2:=hW.s.len;rw[aaP]at d2;have c2:eQ [tdL .brw new]=some (.int new.length):=by simp[tdL,eQ]
    simp[jd,eB,e2,eAp,ak,aD,aq,Wj,view,c2,gLt,isB,aU,cU,aH];by_cases e0:p<new.length
    .rw[ZV 1.11]
     refine⟨by omega,?_⟩;obtain⟨ey,b3⟩:∃e,new[p]? =some e:=⟨new[p],by simp[e0]⟩;have e4:=Z2 b3;refine aX (FoI (.lst .frz 1.14) (.lst .frz (js.map jD)) ns js R es x p ey (bes ey.1 js).length) (λQ U=>?_) ?_
     .have hbw:=Kd (y:=ey.1) d1
      have b4:bz dF [.str ey.1,.lst .frz (js.map jD)]=some (bsL ey.1 js):=by
       simp![bz,fzL,fz,oG,mkF,hbw,Hq,bsL,bu,Td];simp
      have d9:b7 (bsL ey.1 js)=some (true,(bes ey.1 js).map obD):=by simp[bsL,b7,clean,aC,aB,Xo,Yv,WL]
      simp[iD,itS,e2,eAp,ak,aD,aq,Wj,view,Ua b3,m7,mkV,b4,d9,aU,aH];refine lF (FoI (.lst .frz 1.14) (.lst .frz (js.map jD)) ns js R es x p ey) ⟨new,_,_,rfl,hW,b3,c8,by simp⟩ ?_ (λρ h=>U _ (by rw[ZL]at h;exact h));rintro i d ρ hi ⟨nw,z6,z7,rfl,a2,a1,a4,b1⟩;rw[List.getElem?_map]at hi;cases Y:(bes ey.1 js)[i]? with
      |none=>simp[Y]at hi
      |some q=>
       obtain rfl:obD q=d:=by simpa[Y]using hi
       have d4:=Z2 Y;have c3:=a2.s.len;rw[aaP]at c3;have a6:=(List.getElem?_eq_some_iff.mp a1).1;have a3:=Z2 a1;have c0:∀a8:List Bh,(∀y∈(es++nw).map (·.1),y∈(es++a8).map (·.1))->q.1∈(es++a8).map (·.1)->∀(i':Nat)(q':Str×Int),i'<i+1->(bes ey.1 js)[i']? =some q'->q'.1∈(es++a8).map (·.1):=λa8 h1 h2 i' q' b2 b6=>by
        rcases acg i' i with h|h
        .exact h1 _ (b1 i' q' h b6)
        .have:i'=i:=by omega
         subst this;rw[Y]at b6;cases b6;exact h2
       simp[obD,tgT,aO,bZ,tgN,az,aA,clean,aC,aB,aH];simp[sIf,eB,e2,aq,RT,view,T8,isB,aU,aH,w_ite];cases a7:kyB (es++nw) q.1 with
       |true=>
        simp[c7,aH];exact⟨nw,_,_,rfl,a2,a1,a4,c0 nw (λ_ h=>h) (Tu a7)⟩
       |false=>
        simp![aaj,aaN];obtain⟨j0,e1⟩:=aak.mp (W2 es a3);have d8:=O9 (m:=.brw) a2.s.nd e1;obtain⟨d7,b8⟩:=Ql hJ (a2.s.s _ (W2 es a3)) d4;have c6:ey.2.1=x:=a2.x _ a3;rw[c6]at b8;have d0:=Vz (e:=(q.1,x,ey.2.2+q.2)) a2 a6 (Hn a7) d7 b8 rfl;refine aX (λρ=>ρ=[some (.lst .frz 1.14),some (.lst .frz (js.map jD)),some (bD .own (es++(nw++[(q.1,x,ey.2.2+q.2)]))),some (.str x),some (tdL .own nw),some (.int p),some (.str q.1),some (.int q.2)]) (λQ U=>?_) ?_
        .have hset:=X7 (b:=(q.1,x,ey.2.2+q.2)) (N:=.lst .frz 1.14) (J:=.lst .frz (js.map jD)) (r:=[some (.str x),some (tdL .own nw),some (.int p),some (.str q.1),some (.int q.2)]) (Hn a7) (by rw[aaP];omega)
         simp![bvD,aa_]at hset;have c1:gIx (bvD ey) (.int 1)=some (.int ey.2.2):=rfl;simp[cz,e2,eC,aq,RT,Wj,Ua a1,d8,c1,fG,view,eAp,ak,aD,cG,aU,cU,aH,fO,bY,hset,az,aA,aC,aB,clean];exact U _ rfl
        rintro _ rfl;have c4:aR (tdL .own nw) [.str q.1]=some (tdL .own (nw++[(q.1,x,ey.2.2+q.2)]),.non):=by
         simp![tdL,aR,ZL];rw[ZV 1.11];simp
        have b9:upS aR 4 [] [.str q.1] [some (.lst .frz 1.14),some (.lst .frz (js.map jD)),some (bD .own (es++(nw++[(q.1,x,ey.2.2+q.2)]))),some (.str x),some (tdL .own nw),some (.int p),some (.str q.1),some (.int q.2)]=some (.non,[some (.lst .frz 1.14),some (.lst .frz (js.map jD)),some (bD .own (es++(nw++[(q.1,x,ey.2.2+q.2)]))),some (.str x),some (tdL .own (nw++[(q.1,x,ey.2.2+q.2)])),some (.int p),some (.str q.1),some (.int q.2)]):=by
         simp![upS,cV,aam,aau,Hq,c4,dz,aaZ,abx];rfl
        simp![fj,g8,bY,ak,aD,aq,view,aam,aau,Hq,aaw,b9,aH];refine⟨nw++[(q.1,x,ey.2.2+q.2)],_,_,rfl,d0,by rw[aad a6];exact a1,by rw[ZW];exact ZJ _ a4,c0 _ (λy hy=>?_) ?_⟩
        .rw[←aa_,ZW];exact ZJ _ hy
        .simp
     rintro _ ⟨nw,z6,z7,rfl,a2,a1,a4,b1⟩;have a6:=(List.getElem?_eq_some_iff.mp a1).1;simp[cz,e2,eC,aq,view,fG,aU,aH,tgN,aC,aB,clean];refine⟨nw,_,_,rfl,⟨a2.s,a2.x,λi c hi Z=>?_⟩,by omega,a4⟩;rcases acg i p with h|h
     .exact a2.p i c h Z
     .have:i=p:=by omega
      subst this;rw[a1]at Z;cases Z;intro q Y;obtain⟨i',b2⟩:=aak.mp Y;exact b1 i' q (List.getElem?_eq_some_iff.mp b2).1 b2
    .rw[Z1 1.11]
     refine a5 (es++new) _ _ _ _ hW.s (RX hC hW.s hW.x λe V q Y=>?_) (λy hy=>by rw[ZW];exact ZJ _ hy) (by rw[ZW];exact W2 _ c8);obtain⟨i,hi⟩:=aak.mp V;exact hW.p i e (by have:=(List.getElem?_eq_some_iff.mp hi).1;omega) hi q Y
 rintro _ ⟨es,x3,x4,x5,x6,x7,rfl,hS,hC,hK⟩;simp[dG,aH];refine⟨es,rfl,hS,hC,λx hx=>?_⟩;obtain⟨i,hi⟩:=aak.mp ((cN ns).mem_iff.mpr hx);exact hK i x (by have:=(List.getElem?_eq_some_iff.mp hi).1;rw[(cN ns).length_eq]at this;exact this) hi
def Wkd(ns:List Str)(js:List Jt)(R:Str->Str)(es:List Bh):Prop:=Sd ns R es/\Cl js es/\∀x∈ns,x∈es.map (·.1)
theorem Tc(h:x∈es.map (·.1)):∃(i:Nat)(e:Bh),es[i]? =some e/\e.1=x:=by
 obtain⟨e,V,rfl⟩:=ZG.mp h;obtain⟨i,hi⟩:=aak.mp V;exact⟨i,e,hi,rfl⟩
theorem Rj(U:Iv ns js R)(I:Wkd ns js R es){ex O:Bh}(J:ex∈es)(hy:O∈es):ex.2.1=O.2.1↔R ex.1=R O.1:=by
 obtain⟨D,hC,hF⟩:=I;have B:=D.s ex J;have q:=D.s O hy;unfold So at B q;refine⟨λh=>by rw[←B,←q,h],λz=>?_⟩
 let S:Str->Str:=λz=>((es.find? λc=>decide (c.1=z)).map (·.2.1)).getD z
 have Y:∀e∈es,S e.1=e.2.1:=λe V=>by
  obtain⟨i,hi⟩:=aak.mp V;simp![S,Fe D.nd hi];rfl
 have:=U.c S (λj F=>by
  obtain⟨n1,_⟩:=U.j j F;obtain⟨i,e,hi,h1⟩:=Tc (hF _ n1);have a0:=Z2 hi;obtain⟨c,Z⟩:=(hC j F e a0).1 h1;rw[←h1,Y e a0];exact(Y _ Z).symm) _ (D.i ex J) _ (D.i O hy) z
 rwa[Y ex J,Y O hy]at this
theorem VL{k:Mk}(J:m= .frz∨m= .brw)(I:k= .frz∨k= .brw)(U:Iv ns js R)(O:ns.length<=20)(Y:js.length<=1000):∃es,bz eU [.lst m 1.14,.lst k (js.map jD)]=some (bD .own es)/\Wkd ns js R es:=by
 obtain⟨_,e,es,rfl,h1,h2,Z⟩:=Vu U.j O Y;refine⟨es,?_,h1,h2,Z⟩;have B:bu (bD .own es)=true:=by
  have:∀l:List Bh,bA (l.map bvD)=true:=λl=>by induction l<;>simp_all [bA,bu,bvD]
  simp[bD,bu,this]
 have J:mkF m= .frz:=by rcases J with rfl|rfl<;>rfl
 have I:mkF k= .frz:=by rcases I with rfl|rfl<;>rfl
 simp![bz,fzL,fz,dD,oG,J,I,e,Hq,B];simp
abbrev Pt:=Int×Int
def ptD(p:Pt):D:=.tup [.int p.1,.int p.2]
theorem XM(l:List Pt):az (l.map ptD)=true:=bH λd hd=>by obtain⟨x,_,rfl⟩:=ZG.mp hd;rfl
theorem Xh(l:List Pt):aA (l.map ptD)=true:=bC λd hd=>by obtain⟨x,_,rfl⟩:=ZG.mp hd;rfl
theorem YK(b:Bool)(l:List Pt):cH b (l.map ptD)=l.map ptD:=by rw[cP,ZX];rfl
theorem X8(l:List Pt):fzL (l.map ptD)=l.map ptD:=by rw[f9,ZX];rfl
theorem Xx(l:List Pt):fV (l.map ptD)=l.map ptD:=by rw[gR,ZX];rfl
structure JJ(J:D)(js:List Jt):Prop where
 f:fz J=J
 v:∀b,view b J=J
 b:aC J=true
 o:aB J=true
 l:eQ [J]=some (.int js.length)
 x:∀i,gIx J (.int i)=atI (js.map jD) i
 s:b7 J=some (true,js.map jD)
 e:itE (λ_=>some [J]) []=some (true,m8 0 (js.map jD))
theorem JJ.lst(js:List Jt):JJ (.lst .frz (js.map jD)) js:=⟨by simp[fz,oG,mkF],λb=>by cases b<;>simp[view,m7,mkV],by simp[aC,kJ],by simp[aB,kW],by simp[eQ],λ_=>rfl,by simp[b7,clean,aC,aB,kJ,kW,v_],by simp[itE,b7,clean,aC,aB,kJ,kW,v_]⟩
abbrev Tt:=Int×Int×Str
def tD(t:Tt):D:=.tup [.int t.1,.int t.2.1,.str t.2.2]
theorem S_(l:List Tt):az (l.map tD)=true:=bH λd hd=>by obtain⟨x,_,rfl⟩:=ZG.mp hd;rfl
theorem Te(l:List Tt):aA (l.map tD)=true:=bC λd hd=>by obtain⟨x,_,rfl⟩:=ZG.mp hd;rfl
theorem Tj(b:Bool)(l:List Tt):cH b (l.map tD)=l.map tD:=by rw[cP,ZX];rfl
theorem WX(l:List Tt):fV (l.map tD)=l.map tD:=by rw[gR,ZX];rfl
structure NK(N:D)(ns:List Str):Prop where
 f:fz N=N
 v:∀b,view b N=N
 b:aC N=true
 o:aB N=true
 l:eQ [N]=some (.int ns.length)
 x:∀i,gIx N (.int i)=atI 1.14 i
 i:∀y,gIn (.str y) N=some (.bl (decide (y∈ns)))
 ni:∀y,gj (.str y) N=some (.bl (!decide (y∈ns)))
 s:b7 N=some (true,ns.map D.str)
theorem NK.lst(ns:List Str):NK (.lst .frz 1.14) ns:=⟨by simp[fz,dD,mkF],λb=>by cases b<;>simp[view,bB,mkV],by simp[aC,bU],by simp[aB,bM],by simp[eQ],λ_=>rfl,λy=>by simp[gIn,pP,scV,lO,qT],λy=>by simp[gj,pP,scV,lO,qT],by simp[b7,clean,aC,aB,bU,bM,gF]⟩
def lT(l:List Tt):D:=.lst .own (l.map tD)
def lead(ns:List Str)(f:Str->List Tt):D:=.dct .own (ns.map ZS) (ns.map λy=>lT (f y))
def upF(f:Str->List Tt)(x:Str)(t:Tt):Str->List Tt:=λy=>if y=x then f y++[t]else f y
def adj(js:List Jt):Nat->Str->List Tt
 |0=>λ_=>[]
 |k+1=>match js[k]? with
  |some j=>upF (upF (adj js k) j.1 (k,1,j.2.1)) j.2.1 (k,-1,j.1)
  |none=>adj js k
theorem KD{g g':Str->α}{a:α}(hn:ns.Nodup)(hi:ns[i]? =some x)(Y:g' x=a)(q:∀y∈ns,y≠x->g' y=g y):(ns.map g).set i a=ns.map g':=by
 apply ad9;intro k;rw[acv];have B:i<ns.length:=(List.getElem?_eq_some_iff.mp hi).1;by_cases e:i=k
 .subst e
  rw[ZV rfl,ZV (by simpa using B),List.getElem?_map,hi,←Y];rfl
 .rw[Z1 e,List.getElem?_map,List.getElem?_map]
  cases I:ns[k]? with
  |none=>rfl
  |some y=>
   have D:y≠x:=λz=>by
    rw[z]at I;obtain⟨h1,h2⟩:=List.getElem?_eq_some_iff.mp hi;obtain⟨Z,V⟩:=List.getElem?_eq_some_iff.mp I;exact e ((af2 hn).mp (h2.trans V.symm))
   simp[q y (Z2 I) D]
variable{f:Str->List Tt}{t:Tt}{ρ:En}
theorem Bf(hn:ns.Nodup)(h2:ρ[2]? =some (some (lead ns f)))(h4:aq false i ρ=some (.str x))(J:x∈ns)(O:(f x).length<1000000)(Y:fa ρ=some [tD t]) :
  fj aR 2 (jC 2 (bY 2) (aq false i)) fa ρ=some (.nx (ρ.set 2 (some (lead ns (upF f x t))))):=by
 obtain⟨k,I,F,z⟩:=ph J;have q:(ns.map λy=>lT (f y))[k]? =some (lT (f x)):=by rw[List.getElem?_map,F];rfl
 have e1:ixP (lead ns f) (.str x)=some k:=by simp[ixP,lead,cW,I,z]
 have e2:kids (lead ns f)=ns.map λy=>lT (f y):=rfl;have e3:dz [k] (lT (f x++[t])) (lead ns f)=lead ns (upF f x t):=by
  have B:=KD (g:=λy=>lT (f y)) (g':=λy=>lT (upF f x t y)) (a:=lT (f x++[t])) hn F (by simp[upF]) (λy _ V=>by simp[upF,V]);rw[dz,e2,q];simp![dz];rw[B];rfl
 have e4:cV [k] (lead ns f)=some (lT (f x)):=by simp[cV,e2,q]
 have e5:aR (lT (f x)) [tD t]=some (lT (f x++[t]),.non):=by simp[lT,aR,O]
 have Z:cV [] (lead ns f)=some (lead ns f):=rfl;have e6:jC 2 (bY 2) (aq false i) ρ=some [k]:=by
  unfold jC bY;rw[h2,h4];simp![Hq,Z,e1,e2,ZL,z,aab,List.nil_append]
 have U:az [tD t]=true/\aA [tD t]=true:=⟨rfl,rfl⟩;unfold fj g8;rw[e6,Y];simp![Hq];unfold upS;rw[h2];simp![e4,Hq,U.1,U.2,and_self,aab,e5,aaw,e3]
theorem zq:(upF f x t y).length<=(f y).length+1:=by unfold upF;split<;>simp
theorem zB(js:List Jt)(y:Str):∀k,(adj js k y).length<=2*k
 |0=>by simp[adj]
 |k+1=>by
  have B:=zB js y k;rw[adj];cases F:js[k]? with
  |some j=>
   simp only;have h1:=zq (f:=upF (adj js k) j.1 (k,1,j.2.1)) (x:=j.2.1) (y:=y) (t:=((k:Int),-1,j.1));have h2:=zq (f:=adj js k) (x:=j.1) (y:=y) (t:=((k:Int),1,j.2.1));omega
  |none=>simp only;omega
def EbI(N J:D)(ns:List Str)(js:List Jt)(k:Nat)(ρ:En):Prop:=∃Z B q V:Option D,ρ=[some N,some J,some (lead ns (adj js k)),Z,B,q,V]
theorem Xj:∀ns:List Str,jc (tpN 0) eTT 1.19 (eAp dq aD) [none] 1.14=some (ns.map λy=>((ZS y:Key),D.lst .own []))
 |[]=>rfl
 |x::r=>by
  rw[ZF,jc,Xj r];simp_arith[sEx,aL,aW,aM,fG,iY,nQ,m9,mO,nq,iz,gLt,gGt,gGe,gIx,dq,cG,eQ,uy,vN,kY,gIs,jr,atI,ixN,aR,fQ,gSl,vU,jT,cW]
theorem Us{N J:D}(hN:NK N ns)(hJ:JJ J js)(hn:ns.Nodup)(F:∀j∈js,j.1∈ns/\j.2.1∈ns)(O:ns.length<=1000)(Y:js.length<=1000):cA [N,J]=some (lead ns 1.42):=by
 apply Wp.eq;simp_arith![cA,fnP];refine aX (EbI N J ns js 0) (λQ U=>?_) ?_
 .have hnd:(ns.map λy=>(ZS y:Key)).Nodup:=abj.mpr (hn.imp λh e=>h (by cases e;rfl))
  simp_arith[sEx,aL,aW,aM,-b7,mQ,hN.v,hN.s,Xj];refine⟨by omega,?_⟩;rw[qZ,ZX,ZX,show((λx:Key×D=>x.1)∘λy=>((ZS y:Key),D.lst .own []))=ZS from rfl];rw[ZV hnd,aH];refine⟨⟨?_,?_⟩,U _ ⟨_,_,_,_,rfl⟩⟩
  .simp![aC];rw[bH λd hd=>by obtain⟨y,_,rfl⟩:=ZG.mp hd;rfl];rfl
  .simp![aB];rw[bC λd hd=>by obtain⟨y,_,rfl⟩:=ZG.mp hd;rfl];rfl
 rintro _ ⟨y3,y4,y5,y6,rfl⟩;refine aX (EbI N J ns js js.length) (λQ U=>?_) ?_
 .simp[iD,itE,aq,ak,aD,hJ.v,hJ.s,aU,aH,w_ite]
  refine lF (EbI N J ns js) ⟨y3,y4,y5,y6,rfl⟩ ?_ (λρ h=>U _ (by rw[pK]at h;simpa using h));rintro k d ρ I ⟨Z,B,q,V,rfl⟩;rw[lN,List.getElem?_map]at I;cases a0:js[k]? with
  |none=>simp[a0]at I
  |some j=>
   obtain rfl:D.tup [.int (k:Int),jD j]=d:=by simpa[a0]using I
   obtain⟨a2,a1⟩:=F j (Z2 a0);have z:k<js.length:=(List.getElem?_eq_some_iff.mp a0).1;simp[jD,tgT,aO,bZ,tgN,az,aA,clean,aC,aB,aH];refine aX (λρ=>ρ=[some N,some J,some (lead ns (upF (adj js k) j.1 (k,1,j.2.1))),some (.int k),some (.str j.1),some (.str j.2.1),some (.int j.2.2)]) (λQ U=>?_) ?_
   .refine HH (Bf (t:=((k:Int),1,j.2.1)) hn rfl (x:=j.1) (by simp[aq,view]) a2 (by have:=zB js j.1 k;omega) (by simp_arith[sEx,aL,aW,aM,fG,iY,nQ,m9,mO,nq,iz,gLt,gGt,gGe,gIx,dq,cG,eQ,uy,vN,kY,gIs,jr,atI,ixN,aR,fQ,gSl,vU,jT,tD])) (U _ rfl)
   rintro _ rfl;refine HH (Bf (t:=((k:Int),-1,j.1)) hn rfl (x:=j.2.1) (by simp[aq,view]) a1 (by have:=zB js j.2.1 k;have:=zq (f:=adj js k) (x:=j.1) (y:=j.2.1) (t:=((k:Int),1,j.2.1));omega) (by simp_arith[sEx,aL,aW,aM,fG,iY,nQ,m9,mO,nq,iz,gLt,gGt,gGe,gIx,dq,cG,eQ,uy,vN,kY,gIs,jr,atI,ixN,aR,fQ,gSl,vU,jT,tD])) ⟨some (.int k),some (.str j.1),some (.str j.2.1),some (.int j.2.2),?_⟩;rw[adj,a0];rfl
 rintro _ ⟨Z,B,q,V,rfl⟩;simp[dG,aH]
abbrev Uw:=Str×List Pt
def pT(ps:List Pt):D:=.tup (ps.map ptD)
def wM(m:Mk)(us:List Uw):D:=.dct m ((us.map (·.1)).map ZS) (us.map λu=>pT u.2)
theorem Ff(ps:List Pt):aC (pT ps)=true/\aB (pT ps)=true/\(∀b,view b (pT ps)=pT ps)/\fz (pT ps)=pT ps/\fzo (pT ps)=pT ps:=by
 refine⟨?_,?_,λb=>?_,?_,?_⟩<;>simp[pT,aC,aB,XM,Xh,view,YK,fz,X8,fzo,Xx]
theorem T_(b:Bool)(us:List Uw):cH b (us.map λu=>pT u.2)=us.map λu=>pT u.2:=by
 rw[cP,ZX];exact aah λu _=>(Ff u.2).2.2.1 b
theorem YW(us:List Uw):fzL (us.map λu=>pT u.2)=us.map λu=>pT u.2:=by
 rw[f9,ZX];exact aah λu _=>(Ff u.2).2.2.2.1
theorem Yc(us:List Uw):az (us.map λu=>pT u.2)=true:=bH λd hd=>by obtain⟨u,_,rfl⟩:=ZG.mp hd;exact(Ff u.2).1
theorem Xk(us:List Uw):aA (us.map λu=>pT u.2)=true:=bC λd hd=>by obtain⟨u,_,rfl⟩:=ZG.mp hd;exact(Ff u.2).2.1
variable{us:List Uw}
theorem XX:view false (wM .own us)=wM .brw us:=by simp![wM,view,T_];rfl
theorem Lk:view false (wM .frz us)=wM .frz us:=by simp![wM,view,T_];rfl
theorem Y9(h:m≠.scr):fz (wM m us)=wM .frz us:=by
 simp![wM,fz,YW];cases m<;>first|rfl|exact absurd rfl h
theorem KH(h:m= .own∨m= .frz):aC (wM m us)=true/\aB (wM m us)=true:=by
 rcases h with rfl|rfl<;>simp[wM,aC,aB,Yc,Xk]
theorem W8:gj (.str x) (wM m us)=some (.bl (!decide (x∈us.map (·.1)))):=by
 simp![gj,wM,pP,cW,aaw,kI]
theorem Ym(J:x∈us.map (·.1)):∃ps,(x,ps)∈us/\gIx (wM m us) (.str x)=some (pT ps):=by
 obtain⟨i,h1,h2,Z⟩:=ph J;rw[List.getElem?_map]at h2;cases e:us[i]? with
 |none=>simp[e]at h2
 |some u=>
  have e2:u.1=x:=by simpa[e]using h2
  refine⟨u.2,e2▸Z2 e,?_⟩;simp![gIx,wM,cW,Hq,h1,List.getElem?_map,e,aaw]
theorem V3{ps:List Pt}(J:x∉us.map (·.1))(O:us.length<1000000):fQ (wM .own us) [.str x,pT ps]=some (wM .own (us++[(x,ps)]),.non):=by
 have h1:dw ((us.map (·.1)).map ZS) (ZS x)=none:=by
  cases e:dw ((us.map (·.1)).map ZS) (ZS x)with
  |none=>rfl
  |some j=>have:=kI (ys:=us.map (·.1)) (x:=x);rw[e]at this;exact absurd (acw this.symm) J
 simp![fQ,wM,cW,Hq,ZL,O,aab,fX,h1,ZW,ZF,aao]
def iH(ns:List Str)(f:Str->List Tt):D:=.dct .frz (ns.map ZS) (ns.map λy=>.lst .frz ((f y).map tD))
theorem Rb(b:Bool):view b (iH ns f)=iH ns f:=by
 simp![iH,view,cP,ZX];congr 1;refine aah λy _=>?_;simp![abH,view,Tj];rfl
theorem J6(J:x∈ns):gIx (iH ns f) (.str x)=some (.lst .frz ((f x).map tD)):=by
 obtain⟨i,h1,h2,Z⟩:=ph J;simp![gIx,iH,cW,Hq,h1,List.getElem?_map,h2,aaw]
def ky(us:List Uw):List Str:=us.map (·.1)
theorem oN(us:List Uw):(ky us).length=us.length:=by simp[ky]
theorem wu(us:List Uw)(u:Uw):ky (us++[u])=ky us++[u.1]:=by simp[ky]
theorem Yi{l:List Tt}(h:(l.map tD)[k]? =some d):∃t,l[k]? =some t/\d=tD t:=by
 rw[List.getElem?_map]at h;cases e:l[k]? with
 |none=>simp[e]at h
 |some t=>exact⟨t,rfl,by simpa[e]using h.symm⟩
theorem Ea(F:∀j∈js,j.1∈ns/\j.2.1∈ns)(y:Str):∀k,t∈adj js k y->t.2.2∈ns
 |0,h=>by simp[adj]at h
 |k+1,h=>by
  rw[adj]at h;cases e:js[k]? with
  |none=>rw[e]at h;exact Ea F y k h
  |some j=>
   rw[e]at h;obtain⟨h1,h2⟩:=F j (Z2 e);have go:∀{f:Str->List Tt}{x:Str}{u:Tt},t∈upF f x u y->t∈f y∨t=u:=λ{f x u} z=>by
    unfold upF at z;split at z
    .simpa using z
    .exact .inl z
   rcases go h with z|z
   .rcases go z with z|z
    .exact Ea F y k z
    .rw[z];exact h2
   .rw[z];exact h1
def WdN(js:List Jt)(us:List Uw)(p:Nat):Prop:=∀(i:Nat)(y:Str),i<p->(ky us)[i]? =some y->∀u∈adj js js.length y,u.2.2∈ky us
theorem Ny{u:Tt}(z:t∈upF f x u y):t∈f y∨(t=u/\y=x):=by
 unfold upF at z;split at z
 .rename_i e
  exact(Zy.mp z).imp id λh=>⟨Z7.mp h,e⟩
 .exact .inl z
theorem Oz(B:∀j∈js,R j.1=R j.2.1)(y:Str):∀k,t∈adj js k y->R t.2.2=R y
 |0,h=>by simp[adj]at h
 |k+1,h=>by
  rw[adj]at h;cases e:js[k]? with
  |none=>rw[e]at h;exact Oz B y k h
  |some j=>
   rw[e]at h;have F:=B j (Z2 e);rcases Ny h with z|⟨z,D⟩
   .rcases Ny z with z|⟨z,D⟩
    .exact Oz B y k z
    .rw[z,D];exact F.symm
   .rw[z,D];exact F
theorem v8{u:Tt}(z:t∈f y):t∈upF f x u y:=by
 unfold upF;split
 .exact ZJ _ z
 .exact z
theorem Hs{js:List Jt}{j:Jt}:∀(k i:Nat),i<k->js[i]? =some j->(∃t∈adj js k j.1,t.2.2=j.2.1)/\∃t∈adj js k j.2.1,t.2.2=j.1
 |0,i,h,_=>by omega
 |k+1,i,h,hi=>by
  rw[adj];rcases acg i k with z|z
  .obtain⟨⟨a,a1,a2⟩,b,b1,b2⟩:=Hs k i z hi
   cases e:js[k]? with
   |none=>exact⟨⟨a,a1,a2⟩,b,b1,b2⟩
   |some q=>exact⟨⟨a,v8 (v8 a1),a2⟩,b,v8 (v8 b1),b2⟩
  .have:i=k:=by omega
   subst this;rw[hi];exact⟨⟨(i,1,j.2.1),v8 (by simp[upF]),rfl⟩,⟨(i,-1,j.1),by simp[upF],rfl⟩⟩
structure Wy(ns:List Str)(R:Str->Str)(h:Str)(us:List Uw):Prop where
 n:(us.map (·.1)).Nodup
 i:∀x∈us.map (·.1),x∈ns
 w:∀u∈us,u.2.length<us.length
 r:∀x∈us.map (·.1),R x=R h
theorem Wy.len{h:Str}(w:Wy ns R h us):us.length<=ns.length:=by
 have:=y_ w.n w.i;simpa using this
def WfI(L:D)(ns:List Str)(js:List Jt)(R:Str->Str)(h:Str)(p:Nat)(ρ:En):Prop:=∃(us:List Uw)(B q V U:Option D),ρ=[some L,some (.str h),some (wM .own us),some (.lst .own (((ky us).drop p).map D.str)),B,q,V,U]/\Wy ns R h us/\p<=us.length/\h∈ky us/\WdN js us p
def WfJ(L:D)(ns:List Str)(js:List Jt)(R:Str->Str)(h:Str)(p:Nat)(x:Str)(k:Nat)(ρ:En):Prop:=∃(us:List Uw)(q V U:Option D),ρ=[some L,some (.str h),some (wM .own us),some (.lst .own (((ky us).drop (p+1)).map D.str)),some (.str x),q,V,U]/\Wy ns R h us/\p+1<=us.length/\(ky us)[p]? =some x/\h∈ky us/\WdN js us p/\∀(i:Nat)(u:Tt),i<k->(adj js js.length x)[i]? =some u->u.2.2∈ky us
def WyD(ns:List Str)(js:List Jt)(R:Str->Str)(h:Str)(d:D):Prop:=∃us,d=wM .own us/\Wy ns R h us/\h∈ky us/\∀y∈ky us,∀u∈adj js js.length y,u.2.2∈ky us
theorem Vm{h:Str}(hR:∀j∈js,R j.1=R j.2.1)(hh:h∈ns)(hj:∀j∈js,j.1∈ns/\j.2.1∈ns)(hl:ns.length<=1000):Wp (dh [iH ns 1.42,.str h]) (WyD ns js R h):=by
 simp_arith![dh,fnP];refine aX (λρ=>ρ=[some (iH ns 1.42),some (.str h),some (wM .own [(h,[])]),none,none,none,none,none]) (λQ U=>?_) ?_
 .have:qZ [((ZS h:Key),D.tup [])]=some (wM .own [(h,[])]):=by
   unfold qZ;rw[ZV (by simp)];rfl
  simp_arith[sEx,aL,aW,aM,fG,iY,nQ,m9,mO,nq,iz,gLt,gGt,gGe,gIx,dq,cG,eQ,uy,vN,kY,gIs,jr,atI,ixN,aR,fQ,gSl,vU,jT,CK,v6,GJ,cW,this];exact⟨KH (.inl rfl),U _ rfl⟩
 rintro _ rfl;refine aX (λρ=>ρ=[some (iH ns 1.42),some (.str h),some (wM .own [(h,[])]),some (.lst .own [.str h]),none,none,none,none]) (λQ U=>?_) ?_
 .exact⟨_,rfl,U _ rfl⟩
 rintro _ rfl;refine aX (λρ=>∃(us:List Uw)(x4 x5 x6 x7:Option D),ρ=[some (iH ns 1.42),some (.str h),some (wM .own us),some (.lst .own []),x4,x5,x6,x7]/\Wy ns R h us/\h∈ky us/\WdN js us us.length) (λQ U=>?_) ?_
 .refine rG (WfI (iH ns 1.42) ns js R h) ns.length ?_ 1000000 0 _ ⟨[(h,[])],none,none,none,none,rfl,⟨by simp,by simpa using hh,by simp,by simp⟩,by simp,by simp[ky],λi y hi=>by omega⟩ 1.11
  rintro p ρ ⟨us,x4,x5,x6,x7,rfl,B,F,a3,a2⟩;have c9:=B.len;cases e:(ky us).drop p with
  |nil=>
   simp[jd,iI,aq,view,cH,truth,cU,aH,e];have c3:p=us.length:=by have:=congrArg abP e;rw[acK,oN]at this;simp at this;omega
   exact U _ ⟨us,x4,x5,x6,x7,rfl,B,a3,c3▸a2⟩
  |cons x r=>
   have J:(ky us)[p]? =some x:=by
    have:=congrArg (λl=>l[0]?) e;simpa using this
   have c5:p<us.length:=by have:=(List.getElem?_eq_some_iff.mp J).1;rw[oN]at this;exact this
   have O:r=(ky us).drop (p+1):=by
    have:=congrArg List.tail e;simpa using this.symm
   have b5:x∈ns:=B.i x (Z2 J);have a4:((ky us).drop p).length<1000000:=by rw[acK,oN];omega
   rw[e]at a4;simp[jd,iI,aq,view,cH,truth,cU,aH];refine⟨by omega,?_⟩;refine aX (WfJ (iH ns 1.42) ns js R h p x 0) (λQ U=>?_) ?_
   .have hpop:lq (.lst .own ((x::r).map D.str)) [.int 0]=some (.lst .own (r.map D.str),.str x):=by
     simp![lq,ZL,a4,aab];simp[ixN]
    have Y:upS lq 3 [] [.int 0] [some (iH ns 1.42),some (.str h),some (wM .own us),some (.lst .own ((x::r).map D.str)),x4,x5,x6,x7]=some (.str x,[some (iH ns 1.42),some (.str h),some (wM .own us),some (.lst .own (r.map D.str)),x4,x5,x6,x7]):=by
     unfold upS;simp![aam,aau,cV,Hq];rw[ZV ⟨rfl,rfl⟩,hpop];rfl
    simp![ZF]at Y;simp[bW,g8,bY,ak,aD,eC,cU,aU,aH,Y,tgN,aC,aB,clean];exact U _ ⟨us,x5,x6,x7,by rw[O],B,c5,J,a3,a2,λi u hi=>by omega⟩
   rintro _ ⟨b3,y5,y6,y7,rfl,b4,c4,c1,c2,c0,b8⟩;have b1:b7 (.lst .frz ((adj js js.length x).map tD))=some (true,(adj js js.length x).map tD):=by simp[b7,clean,aC,aB,S_,Te,WX]
   simp[iD,itS,e2,aq,Rb,view,aU,aH,J6 b5,b1,-List.map_drop];refine lF (WfJ (iH ns 1.42) ns js R h p x) ⟨b3,y5,y6,y7,rfl,b4,c4,c1,c2,c0,b8⟩ ?_ ?_
   .rintro k d ρ hk ⟨us1,z5,z6,z7,rfl,hw1,hp1,hx1,hk1,hd1,ha1⟩
    obtain⟨t,ht,rfl⟩:=Yi hk;have b0:t∈adj js js.length x:=Z2 ht;have a7:∀a1:List Uw,(∀y∈ky us1,y∈ky a1)->t.2.2∈ky a1->∀(i:Nat)(u:Tt),i<k+1->(adj js js.length x)[i]? =some u->u.2.2∈ky a1:=λa1 h1 h2 i u hi hu=>by
     rcases acg i k with z|z
     .exact h1 _ (ha1 i u z hu)
     .have:i=k:=by omega
      subst this;rw[ht]at hu;cases hu;exact h2
    have c8:=hw1.len;have I:x∈us1.map (·.1):=Z2 hx1;obtain⟨ps,b9,b2⟩:=Ym (m:=.brw) I;have c6:ps.length<us1.length:=hw1.w _ b9;simp[tD,tgT,aO,bZ,tgN,az,aA,clean,aC,aB,aH,-List.map_drop];simp[sIf,eB,e2,aq,XX,view,W8,isB,aU,aH,w_ite,-List.map_drop];by_cases Z:t.2.2∈us1.map (·.1)
    .have hin':∃a,(t.2.2,a)∈us1:=by obtain⟨u,hu,e⟩:=ZG.mp Z;exact⟨u.2,by rw[←e];exact hu⟩
     simp[hin',c7,aH,-List.map_drop];exact⟨us1,_,_,_,rfl,hw1,hp1,hx1,hk1,hd1,a7 us1 (λ_ h=>h) Z⟩
    .have hin':¬∃a,(t.2.2,a)∈us1:=λ⟨a,z⟩=>Z (ZG.mpr ⟨_,z,rfl⟩)
     simp[hin',-List.map_drop];have a8:fG (pT ps) (.tup [.tup [.int t.1,.int t.2.1]])=some (pT (ps++[(t.1,t.2.1)])):=by
      simp[pT,fG,ptD];omega
     refine aX (λρ=>ρ=[some (iH ns 1.42),some (.str h),some (wM .own (us1++[(t.2.2,ps++[(t.1,t.2.1)])])),some (.lst .own (((ky us1).drop (p+1)).map D.str)),some (.str x),some (.int t.1),some (.int t.2.1),some (.str t.2.2)]) (λQ U=>?_) ?_
     .have hset:=V3 (us:=us1) (x:=t.2.2) (ps:=ps++[(t.1,t.2.1)]) Z 1.11
      have q:=Ff (ps++[(t.1,t.2.1)]);simp[cz,e2,aq,XX,view,b2,eAp,ak,aD,cG,a8,aU,cU,aH,fO,bY,upS,cV,dz,hset,az,aA,aC,aB,q.1,q.2.1,clean,-List.map_drop];exact U _ rfl
     rintro _ rfl;have b6:(((ky us1).drop (p+1)).map D.str).length<1000000:=by rw[ZL,acK,oN];omega
     have a9:aR (.lst .own (((ky us1).drop (p+1)).map D.str)) [.str t.2.2]=some (.lst .own (((ky us1).drop (p+1)).map D.str++[.str t.2.2]),.non):=by
      simp![aR,b6,aab]
     simp![fj,g8,bY,ak,aD,aq,view,aam,aau,Hq,aaw,upS,cV,az,aA,aC,aB,ad3,and_self,aab,a9,dz,aH,aaZ,abx];have a5:(ky (us1++[(t.2.2,ps++[(t.1,t.2.1)])])).drop (p+1)=(ky us1).drop (p+1)++[t.2.2]:=by
      rw[wu,List.drop_append_of_le_length (by rw[oN];exact hp1)]
     have a0:∀y∈ky us1,y∈ky (us1++[(t.2.2,ps++[(t.1,t.2.1)])]):=λy V=>by rw[wu];exact ZJ _ V
     refine⟨us1++[(t.2.2,ps++[(t.1,t.2.1)])],_,_,_,by rw[a5,ZW];rfl,⟨?_,?_,?_,?_⟩,by simp;omega,?_,a0 _ hk1,λi y hi V u hu=>?_,a7 _ a0 (by rw[wu];simp)⟩
     .rw[ZW]
      exact ZZ.mpr ⟨hw1.n,by simp,λy V z hz=>by
       obtain rfl:z=t.2.2:=by simpa using hz
       exact λe=>Z (e▸V)⟩
     .intro y V
      rw[ZW]at V;rcases Zy.mp V with z|z
      .exact hw1.i y z
      .rw[show y=t.2.2 by simpa using z];exact Ea hj x _ b0
     .intro u hu
      rcases Zy.mp hu with z|z
      .have:=hw1.w u z;simp;omega
      .rw[Z7.mp z];simp;omega
     .intro y V
      rw[ZW]at V;rcases Zy.mp V with z|z
      .exact hw1.r y z
      .rw[show y=t.2.2 by simpa using z,Oz hR x _ b0];exact hw1.r x I
     .rw[wu,aad (by rw[oN];omega)];exact hx1
     .rw[wu,aad (by rw[oN];omega)]at V
      exact a0 _ (hd1 i y hi V u hu)
   .rintro ρ ⟨us1,z5,z6,z7,rfl,hw1,hp1,hx1,hk1,hd1,ha1⟩
    refine⟨us1,_,z5,z6,z7,rfl,hw1,hp1,hk1,λi y hi V u hu=>?_⟩;rcases acg i p with z|z
    .exact hd1 i y z V u hu
    .have:i=p:=by omega
     subst this;rw[hx1]at V;cases V;obtain⟨i',a6⟩:=aak.mp hu;exact ha1 i' u (by rw[ZL];exact(List.getElem?_eq_some_iff.mp a6).1) a6
 rintro _ ⟨us,x4,x5,x6,x7,rfl,B,a3,a2⟩;simp[dG,aH];refine⟨us,rfl,B,a3,λy V u hu=>?_⟩;obtain⟨i,hi⟩:=aak.mp V;exact a2 i y (by have:=(List.getElem?_eq_some_iff.mp hi).1;rw[oN]at this;exact this) hi u hu
def SrS(l:List Str):Prop:=l.Pairwise λx y=>ltS [y] [x]=false
theorem vG(g:List Str):SrS (aY g):=by
 have h1:=uM (g.map λx=>[x]);have h2:∀k∈rW (g.map λx=>[x]),[k.headD ""]=k:=λk I=>by
  obtain⟨x,_,rfl⟩:=ZG.mp ((lR _).mem_iff.mp I);rfl
 unfold SrS aY;rw[abj];exact h1.imp_of_mem λY U h=>by rw[h2 _ Y,h2 _ U];exact h
theorem Qc{m:List Str}(h:l.Perm m)(h1:SrS l)(h2:SrS m):l=m:=by
 have:=uR (h.map λx=>[x]) (abj.mpr h1) (abj.mpr h2);have:=congrArg (Z9 λk:List Str=>k.headD "") this;simpa[ZX,Function.comp_def]using this
def cl(R:Str->Str)(l:List Str)(x:Str):List Str:=l.filter λy=>decide (R y=R x)
theorem NQ{g:List Str}(h:g.Perm (cl R ns x)):aY g=cl R (aY ns) x:=
 Qc ((cN g).trans (h.trans ((cN ns).symm.filter _))) (vG g) ((vG ns).filter _)
def ldF(R:Str->Str)(acc:List Str)(x:Str):List Str:=if acc.any (λa=>decide (R a=R x))then acc else acc++[x]
def lds(R:Str->Str)(l:List Str):List Str:=l.foldl (ldF R) []
structure LdP(R:Str->Str)(l acc:List Str):Prop where
 a:∀x∈l,∃a∈acc,R a=R x
 b:acc.Sublist l
 c:acc.Pairwise λa b=>R a≠R b
 d:∀a∈acc,∃r,cl R l a=a::r
theorem qd(R:Str->Str)(l:List Str)(x a:Str):cl R (l++[x]) a=cl R l a++if R x=R a then[x]else[]:=by
 simp![cl,List.filter_append,abJ,List.filter_nil,aa0]
theorem o5:acc.any (λa=>decide (R a=R x))=true↔∃a∈acc,R a=R x:=by simp
theorem LdP.step(h:LdP R l acc)(x:Str):LdP R (l++[x]) (ldF R acc x):=by
 unfold ldF;split
 .rename_i e
  obtain⟨q,B,Z⟩:=o5.mp e;refine⟨λy V=>?_,h.b.trans (acd _ _),h.c,λa Y=>?_⟩
  .rcases Zy.mp V with z|z
   .exact h.a y z
   .rw[Z7.mp z];exact⟨q,B,Z⟩
  .obtain⟨r,hr⟩:=h.d a Y
   exact⟨_,by rw[qd,hr,Z_]⟩
 .rename_i e
  have I:∀a∈acc,R a≠R x:=λa Y z=>e (o5.mpr ⟨a,Y,z⟩);refine⟨λy V=>?_,h.b.append (ab4 _),List.pairwise_append.mpr ⟨h.c,by simp,λa Y b U=>by rw[Z7.mp U];exact I a Y⟩,λa Y=>?_⟩
  .rcases Zy.mp V with z|z
   .obtain⟨a,Y,e⟩:=h.a y z
    exact⟨a,ZJ _ Y,e⟩
   .exact⟨x,by simp,by rw[Z7.mp z]⟩
  .rcases Zy.mp Y with z|z
   .obtain⟨r,hr⟩:=h.d a z
    exact⟨_,by rw[qd,hr,Z_]⟩
   .rw[Z7.mp z,qd,ZV rfl]
    have:cl R l x=[]:=aeN.mpr λy V=>by
     obtain⟨a,Y,e⟩:=h.a y V;simp![aa0];exact λz=>I a Y (e.trans z)
    exact⟨[],by rw[this];rfl⟩
theorem Hk(R:Str->Str)(l:List Str)(x:Str):lds R (l++[x])=ldF R (lds R l) x:=by simp[lds]
theorem wU(R:Str->Str)(l:List Str):LdP R l (lds R l):=by
 have go:∀(O J acc:List Str),LdP R J acc->LdP R (J++O) (O.foldl (ldF R) acc):=λO=>by
  induction O with
  |nil=>intro J acc h;simpa using h
  |cons x r B=>
   intro J acc h;have:=B (J++[x]) _ (h.step x);simpa using this
 exact go l [] [] ⟨by simp,by simp,by simp,by simp⟩
def rws(R:Str->Str)(l:List Str):List (List Str):=(lds R l).map (cl R l)
theorem UJ(h:SrS l):rW (rws R l)=rws R l:=by
 have hd:=wU R l;refine uR (lR _) (uM _) (abj.mpr ?_);refine((h.sublist hd.b).and hd.c).imp_of_mem λ{a b} Y U ⟨h1,h2⟩=>?_;obtain⟨r,e1⟩:=hd.d a Y;obtain⟨q,e2⟩:=hd.d b U;have Z:b≠a:=λe=>h2 (by rw[e]);rw[e1,e2];simp![ltS,Z1 Z]at h1⊢;exact h1
theorem Za{a:Str}(h:R a=R x):cl R l a=cl R l x:=by simp![cl,h]
theorem UV(J:x∈l):(rws R l).filter (λr=>decide (x∈r))≠[]/\∀r∈rws R l,x∈r->r=cl R l x:=by
 have O:∀r∈rws R l,x∈r->r=cl R l x:=λr O q=>by
  obtain⟨a,_,rfl⟩:=ZG.mp O;exact Za (acw (abB.mp q).2).symm
 refine⟨λe=>?_,O⟩;obtain⟨a,Y,e1⟩:=(wU R l).a x J;have:cl R l a∈(rws R l).filter (λr=>decide (x∈r)):=abB.mpr ⟨ZG.mpr ⟨a,Y,rfl⟩,aaE (abB.mpr ⟨J,aaE e1.symm⟩)⟩;rw[e]at this;cases this
theorem yz:∀l:List Str,tZ (l.map ZS)=some l
 |[]=>rfl
 |x::r=>by simp[tZ,yz r]
theorem Xf(h:us.length<64)(J:(m== .scr)=false):jn [wM m us]=some (.lst .own ((aY (ky us)).map D.str)):=by
 simp![jn,wM,ZL,h,J,yz,aaw];rfl
theorem Um(us:List Uw):bu (wM .own us)=true:=by
 have:∀l:List Pt,bA (l.map ptD)=true:=λl=>by induction l<;>simp_all [bA,bu,ptD]
 have:bA (us.map λu=>pT u.2)=true:=by induction us<;>simp_all [bA,bu,pT]
 simp[wM,bu,this]
theorem Qf(nd:ns.Nodup)(U:Iv ns js R)(J:x∈ns)(B:Wy ns R x us)(I:x∈ky us)(Z:∀y∈ky us,∀u∈adj js js.length y,u.2.2∈ky us):(ky us).Perm (cl R ns x):=by
 refine(List.perm_ext_iff_of_nodup B.n (nd.filter _)).mpr λy=>⟨λh=>abB.mpr ⟨B.i y h,by simpa using B.r y h⟩,λh=>?_⟩;obtain⟨h1,h2⟩:=abB.mp h;have:=U.c (λz=>if z∈ky us then "a" else "b") (λj F=>by
  obtain⟨i,hi⟩:=aak.mp F;obtain⟨⟨u,q,V⟩,v,D,O⟩:=Hs js.length i (List.getElem?_eq_some_iff.mp hi).1 hi;have:j.1∈ky us↔j.2.1∈ky us:=⟨λz=>V▸Z _ z u q,λz=>O▸Z _ z v D⟩;simp![this]) y h1 x J (by simpa using h2)
 simp![I,aab]at this;split at this
 .assumption
 .exact absurd this (by decide)
theorem Tz(ns:List Str)(s:Sk):fz (skD .frz ns s)=skD .frz ns s:=by simp[skD,wD,bD,nD,fz,fzL,uE,Og,Tg,mkF]
theorem Th(ns:List Str)(s:Sk):aC (skD .frz ns s)=true/\aB (skD .frz ns s)=true:=by simp[skD,wD,bD,nD,aC,aB,az,aA,rH,qO,Ky,K8,Ot,Ox]
theorem z8:∀l:List Str,bA (l.map D.str)=true
 |[]=>rfl
 |x::r=>by rw[ZF,bA,z8 r];rfl
theorem VF(ns:List Str)(f:Str->List Tt):fz (lead ns f)=iH ns f:=by
 simp![lead,iH,fz,f9,ZX];congr 1;refine aah λy _=>?_;simp![abH,lT,fz,f9,ZX];rfl
theorem MK(nd:ns.Nodup)(U:Iv ns js R)(O:ns.length<=20)(Y:js.length<=1000):bz cA [.lst .frz 1.14,.lst .frz (js.map jD)]=some (lead ns 1.42):=by
 have V:=Us (NK.lst ns) (JJ.lst js) nd (λj h=>⟨(U.j j h).1,(U.j j h).2.1⟩) 1.11 Y;simp![bz,fzL,fz,dD,oG,mkF,V,Hq,az,aA,aC,aB,bU,bM,kJ,kW];simp
theorem Ni{L:D}(nd:ns.Nodup)(U:Iv ns js R)(O:ns.length<=20)(J:x∈ns)(z:fz L=iH ns 1.42):∃us:List Uw,bz dh [L,.str x]=some (wM .own us)/\us.length<=20/\aY (ky us)=cl R (aY ns) x/\∀y∈ns,(y∈ky us↔R y=R x):=by
 obtain⟨_,e,us,rfl,B,I,Z⟩:=Vm (λj h=>(U.j j h).2.2) J (λj h=>⟨(U.j j h).1,(U.j j h).2.1⟩) 1.11;have q:=B.len;have F:=Qf nd U J B I Z;refine⟨us,?_,by omega,NQ F,λy V=>?_⟩
 .simp![bz,fzL,z,fz,e,Hq,Um]
  simp
 .rw[F.mem_iff]
  simp[cl,V]
theorem Sx(nd:ns.Nodup)(U:Iv ns js R)(O:ns.length<=20)(Y:js.length<=1000)(J:x∈ns):e_ [.lst .frz 1.14,.lst .frz (js.map jD),.str x]=some (fL .own (cl R (aY ns) x)):=by
 have F:=MK nd U O Y;obtain⟨us,I,q,B,_⟩:=Ni nd U O J (VF ns 1.42);have z:=Xf (us:=us) (m:=.own) 1.11 rfl;rw[B]at z;apply Wp.eq;simp[e_,fnP,en0,eF,eAp,ak,aD,aq,view,bB,m7,mkV,F,I,z,aU,cU,aH,clean,aC,aB,bU,bM,fL]
theorem KZ(O:ns.length<=20)(f:Str->Int):sX [wD .frz ns f]=some (.lst .own 1.14):=by
 simp![sX,wD,ZL];rw[ZV 1.11,ZX];rfl
theorem Ss(nd:ns.Nodup)(U:Iv ns (jsO s.dn) R)(O:ns.length<=20)(B:s.dn.length<=1000)(J:x∈ns):dU "Stack" "class_of" cF (skD .bro ns s) [.str x]=some (fL .own (cl R (aY ns) x)):=by
 have e:=Sx nd U O (by simpa[jsO]using B) J;have z:=KZ O λ_=>0;have V:=qi (ns:=ns) B;have q:cF [skD .frz ns s,.str x]=some (fL .own (cl R (aY ns) x)):=by
  apply Wp.eq;simp_arith[cF,sEx,aL,aW,aM,ug,Tz,Th,gf1,Ng,Qk J,z,dU,uB (m:=.frz) (by decide) (show eY j9 "standing"=none by decide),V,dD,oG,bU,bM,kJ,kW,e,bu,fL]
 simp![dU,uB (m:=.bro) (by decide) (show eY j9 "class_of"=none by decide),aab,bz,fzL,MJ,fz,q,Hq,fL,bu,z8];simp
theorem kIs{k:Key}:(dw ks k).isSome=true↔k∈ks:=by
 refine⟨λh=>?_,λh=>?_⟩
 .obtain⟨j,e⟩:=ac0.mp h
  obtain⟨O,I,_⟩:=aan.mp e;have:ks[j]=k:=by simpa using I
  exact this▸abL O
 .obtain⟨j,h1,_⟩:=Gu h
  rw[h1];rfl
theorem xW:∀{es:List (Key×D)}{ks:List Key}{ds:List D},(cO ks ds es).1.length<=ks.length+es.length
 |[],ks,ds=>by simp[cO]
 |p::r,ks,ds=>by
  rw[cO];have h:=xW (es:=r) (ks:=(fX ks ds p.1 p.2).1) (ds:=(fX ks ds p.1 p.2).2);have h2:(fX ks ds p.1 p.2).1.length<=ks.length+1:=by unfold fX;split<;>simp
  simp;omega
def TrI(N J L:D)(ns:List Str)(R:Str->Str)(k:Nat)(ρ:En):Prop:=∃(B:List (List Uw))(ks:List Key)(ds:List D)(q V:Option D),ρ=[some N,some J,some L,some (.dct .own ks ds),some (.lst .own (B.map (wM .frz))),q,V]/\(B.length<=k/\ks.length<=20*k)/\(∀us∈B,us.length<=20)/\B.map (λus=>aY (ky us))=(lds R ((aY ns).take k)).map (cl R (aY ns))/\ks.length=ds.length/\(∀y∈ns,(ZS y∈ks↔∃a∈lds R ((aY ns).take k),R a=R y))/\∀d∈ds,∃ps,d=pT ps
def TrD(ns:List Str)(R:Str->Str)(d:D):Prop:=∃B:List (List Uw),d= .lst .own (B.map (wM .frz))/\B.length<=20/\(∀us∈B,us.length<=20)/\B.map (λus=>aY (ky us))=rws R (aY ns)
theorem QB(nd:ns.Nodup)(hI:Iv ns js R)(O:ns.length<=20)(b8:js.length<=1000):Wp (gZ [.lst .frz 1.14,.lst .frz (js.map jD)]) (TrD ns R):=by
 have c0:=MK nd hI O b8;have N0:view false (D.lst .frz 1.14)= .lst .frz (ns.map D.str):=by simp[view,bB,mkV]
 have J0:view false (D.lst .frz (js.map jD))= .lst .frz (js.map jD):=by simp[view,m7,mkV]
 have N1:=Wm (m:=.frz) (g:=ns) 1.11;have q:aC (lead ns 1.42)=true/\aB (lead ns 1.42)=true:=by
  constructor
  .simp![lead,aC];rw[bH λd hd=>by obtain⟨y,_,rfl⟩:=ZG.mp hd;simp[lT,aC,S_]];rfl
  .simp![lead,aB];rw[bC λd hd=>by obtain⟨y,_,rfl⟩:=ZG.mp hd;simp[lT,aB,Te]];rfl
 have c3:∃d,view false (lead ns 1.42)=d/\fz d=iH ns (adj js js.length):=by
  refine⟨_,rfl,?_⟩;simp![lead,iH,view,fz,cP,f9,ZX];congr 1;refine aah λy _=>?_;simp![abH,lT,view,fz,Tj,f9,ZX];rfl
 obtain⟨Lv,c4,b6⟩:=c3;have c1:=λx (hx:x∈ns)=>Ni (x:=x) nd hI O hx b6;generalize D.lst .frz 1.14=N at *
 generalize D.lst .frz (js.map jD)=J at *
 generalize lead ns 1.42=L at *
 simp_arith![gZ,fnP];refine aX (λρ=>ρ=[some N,some J,some L,none,none,none,none]) (λQ U=>?_) ?_
 .simp[cz,eAp,ak,aD,aq,N0,J0,c0,aU,cU,aH,tgN,clean,q]
  exact U _ rfl
 rintro _ rfl;refine aX (λρ=>ρ=[some N,some J,some L,some (.dct .own [] []),none,none,none]) (λQ U=>?_) ?_
 .exact⟨_,rfl,U _ rfl⟩
 rintro _ rfl;refine aX (λρ=>ρ=[some N,some J,some L,some (.dct .own [] []),some (.lst .own []),none,none]) (λQ U=>?_) ?_
 .exact⟨_,rfl,U _ rfl⟩
 rintro _ rfl;have c7:(aY ns).length=ns.length:=(cN ns).length_eq;refine aX (TrI N J L ns R (aY ns).length) (λQ U=>?_) ?_
 .have hseq:b7 (.lst .own ((aY ns).map D.str))=some (true,(aY ns).map D.str):=by simp[b7,clean,aC,aB,bU,bM,gF]
  simp[iD,itS,eAp,ak,aD,aq,N0,N1,hseq,aU,aH,w_ite];refine lF (TrI N J L ns R) ⟨[],[],[],none,none,rfl,⟨by simp,by simp⟩,by simp,rfl,rfl,by simp[lds],by simp⟩ ?_ (λρ h=>U _ (by rw[ZL]at h;exact h));rintro k d ρ hk ⟨B,ks,ds,x5,x6,rfl,⟨h1,h7⟩,h2,Z,h4,h5,h6⟩;rw[List.getElem?_map]at hk;cases a3:(aY ns)[k]? with
  |none=>simp[a3]at hk
  |some x=>
   obtain rfl:D.str x=d:=by simpa[a3]using hk
   have c6:=(List.getElem?_eq_some_iff.mp a3).1;have a8:x∈ns:=(cN ns).mem_iff.mp (Z2 a3);have b5:lds R ((aY ns).take (k+1))=ldF R (lds R ((aY ns).take k)) x:=by rw[ad_,a3];exact Hk _ _ _
   have b2:cH false ds=ds:=by
    rw[cP]
    conv=>rhs;rw[←aeM ds]
    exact aah λd hd=>by obtain⟨ps,rfl⟩:=h6 d hd;exact(Ff ps).2.2.1 false
   by_cases a5:ZS x∈ks
   .have a2:lds R ((aY ns).take (k+1))=lds R ((aY ns).take k):=by rw[b5,ldF,ZV (o5.mpr ((h5 x a8).mp a5))]
    have a1:TrI N J L ns R (k+1) [some N,some J,some L,some (.dct .own ks ds),some (.lst .own (B.map (wM .frz))),some (.str x),x6]:=⟨B,ks,ds,_,_,rfl,⟨by omega,by omega⟩,h2,by rw[a2];exact Z,h4,by rw[a2];exact h5,h6⟩;have a7:gj (.str x) (.dct .brw ks ds)=some (.bl false):=by simp![gj,pP,cW,aaw,kIs.mpr a5,afq]
    generalize TrI N J L ns R (k+1)=I at a1⊢;simp_arith[sEx,aL,aW,aM,b2,a7];exact a1
   .have hnl:¬∃a∈lds R ((aY ns).take k),R a=R x:=λz=>a5 ((h5 x a8).mpr z)
    have a2:lds R ((aY ns).take (k+1))=lds R ((aY ns).take k)++[x]:=by rw[b5,ldF,Z1 λz=>hnl (o5.mp z)]
    have a7:gj (.str x) (.dct .brw ks ds)=some (.bl true):=by simp![gj,pP,cW,aaw,Bool.eq_false_iff.mpr λz=>a5 (kIs.mp z),Bool.not_false]
    obtain⟨us,e,c2,b9,a6⟩:=c1 x a8;have a1:∀a0 a4,a0.length=a4.length->a0.length<=ks.length+20->(∀z,z∈a0↔z∈ks∨z∈(ky us).map ZS)->(∀d∈a4,∃ps,d=pT ps)->TrI N J L ns R (k+1) [some N,some J,some L,some (.dct .own a0 a4),some (.lst .own (B.map (wM .frz)++[wM .frz us])),some (.str x),some (wM .frz us)]:=λa0 a4 g1 g4 g2 g3=>by
     refine⟨B++[us],a0,a4,some (.str x),some (wM .frz us),by simp,⟨by simp;omega,by omega⟩,λv hv=>(Zy.mp hv).elim (h2 v) λz=>by rw[Z7.mp z];exact c2,?_,g1,λy V=>?_,g3⟩
     .rw[a2,ZW,ZW,Z]
      simp[b9]
     .rw[g2,h5 y V,a2]
      have:(ZS y:Key)∈(ky us).map ZS↔R x=R y:=by
       rw[ZG];exact⟨λ⟨z,hz,e⟩=>by cases e;exact((a6 y V).mp hz).symm,λz=>⟨y,(a6 y V).mpr z.symm,rfl⟩⟩
      rw[this];simp![Zy,Z7];exact⟨λz=>z.elim (λ⟨a,Y,e⟩=>⟨a,.inl Y,e⟩) λz=>⟨x,.inr rfl,z⟩,λ⟨a,Y,e⟩=>Y.elim (λz=>.inl ⟨a,z,e⟩) λz=>.inr (z▸e)⟩
    generalize TrI N J L ns R (k+1)=I at a1⊢;simp[tgN,aC,aB,clean,aH];simp[sIf,eB,e2,aq,view,mkV,b2,a7,isB,aU,aH,w_ite];refine aX (λρ=>ρ=[some N,some J,some L,some (.dct .own ks ds),some (.lst .own (B.map (wM .frz))),some (.str x),some (wM .own us)]) (λQ U=>?_) ?_
    .have q:=KH (us:=us) (m:=.own) (.inl rfl)
     simp[cz,eAp,ak,aD,aq,c4,view,e,aU,cU,aH,tgN,clean,q.1,q.2];exact U _ rfl
    rintro _ rfl;have q:=KH (us:=us) (m:=.frz) (.inr rfl);have a9:=pZ (es:=((us.map (·.1)).map ZS).zip (us.map λu=>pT u.2)) h4;have b4:=jw (λd=>∃ps,d=pT ps) (es:=((us.map (·.1)).map ZS).zip (us.map λu=>pT u.2)) (ks:=ks) h6 λp F=>by
     obtain⟨u,_,e⟩:=ZG.mp (ack F).2;exact⟨u.2,e.symm⟩
    have b3:qt (.dct .own ks ds) [wM .frz us]=some (.dct .own (cO ks ds (((us.map (·.1)).map ZS).zip (us.map λu=>pT u.2))).1 (cO ks ds (((us.map (·.1)).map ZS).zip (us.map λu=>pT u.2))).2,.non):=by
     simp![qt,wM];rw[ZV (by simp;omega)]
    have c5:∀z,(∃p∈((us.map (·.1)).map ZS).zip (us.map λu=>pT u.2),p.1=z)↔z∈(ky us).map (ZS:Str->Key):=λz=>by
     have:((((us.map (·.1)).map ZS).zip (us.map λu=>pT u.2)).map (·.1):List Key)=(ky us).map ZS:=by
      rw[aep (by simp)];rfl
     rw[←this,ZG]
    have b1:=xW (es:=((us.map (·.1)).map ZS).zip (us.map λu=>pT u.2)) (ks:=ks) (ds:=ds);generalize cO ks ds (((us.map (·.1)).map ZS).zip (us.map λu=>pT u.2))=kd at a9 b4 b3 b1;refine aX (λρ=>ρ=[some N,some J,some L,some (.dct .own kd.1 kd.2),some (.lst .own (B.map (wM .frz))),some (.str x),some (wM .frz us)]) (λQ U=>?_) ?_
    .simp[sFz,k_,Y9,fj,g8,bY,ak,aD,aq,Lk,upS,cV,dz,az,aA,q.1,q.2,b3,aU,cU,aH,-List.map_map]
     exact U _ rfl
    rintro _ rfl;have b0:aR (.lst .own (B.map (wM .frz))) [wM .frz us]=some (.lst .own (B.map (wM .frz)++[wM .frz us]),.non):=by
     simp![aR,ZL,show B.length<1000000 by omega,aab]
    simp[fj,g8,bY,ak,aD,aq,Lk,upS,cV,dz,az,aA,q.1,q.2,b0,aU,cU,aH];exact a1 kd.1 kd.2 a9.1 (by simp at b1;omega) (λz=>by rw[a9.2,c5]) b4
 rintro _ ⟨B,ks,ds,x5,x6,rfl,⟨h1,_⟩,h2,Z,_⟩;rw[acf]at Z;simp[dG,aH];exact⟨B,rfl,by omega,h2,Z⟩
theorem nbL:∀rs:List (List Str),az (rs.map (fL .own))=true:=λrs=>bH λd hd=>by
 obtain⟨z,_,rfl⟩:=ZG.mp hd;simp[fL,aC,bU]
theorem noL:∀rs:List (List Str),aA (rs.map (fL .own))=true:=λrs=>bC λd hd=>by
 obtain⟨z,_,rfl⟩:=ZG.mp hd;simp[fL,aB,bM]
theorem XF(B:List (List Uw)):az (B.map (wM .frz))=true:=bH λd hd=>by obtain⟨u,_,rfl⟩:=ZG.mp hd;exact(KH (.inr rfl)).1
theorem XQ(B:List (List Uw)):aA (B.map (wM .frz))=true:=bC λd hd=>by obtain⟨u,_,rfl⟩:=ZG.mp hd;exact(KH (.inr rfl)).2
theorem XR(nd:ns.Nodup)(U:Iv ns js R)(hl:ns.length<=20)(a0:js.length<=1000):gP [.lst .frz 1.14,.lst .frz (js.map jD)]=some (.lst .own ((rws R (aY ns)).map (fL .own))):=by
 obtain⟨_,e,B,rfl,I,Y,O⟩:=QB nd U hl a0;have F:fV (B.map (wM .frz))=B.map (wM .frz):=by
  rw[gR,ZX];refine aah λu _=>?_;simp![abH,wM,fzo,gR,ZX];congr 1;exact aah λv _=>(Ff v.2).2.2.2.2
 have V:iG (tpN 0) eTT (eAp jn (ak 1.19 aD)) [none] (B.map (wM .frz))=some ((rws R (aY ns)).map (fL .own)):=by
  rw[←O];have:∀l:List (List Uw),(∀u∈l,u.length<64)->iG (tpN 0) eTT (eAp jn (ak 1.19 aD)) [none] (l.map (wM .frz))=some ((l.map λu=>aY (ky u)).map (fL .own)):=by
   intro l
   induction l with
   |nil=>intro _;rfl
   |cons u r ih=>
    intro h;have B:=Xf (us:=u) (m:=.frz) (h u (by simp)) rfl;rw[ZF,iG,ih λv Z=>h v (by simp[Z])];simp[tpN,eTT,eAp,ak,aD,aq,Lk,B,fL]
  exact this B λu J=>by have:=Y u J;omega
 have z:clean (.lst .own (B.map (wM .frz)))=true:=by simp[clean,aC,aB,XF,XQ]
 have q:bz gZ [.lst .frz 1.14,.lst .frz (js.map jD)]=some (.lst .own (B.map (wM .frz))):=by
  simp![bz,fzL,fz,dD,oG,mkF,e,Hq,az,aA,aC,aB,bU,bM,kJ,kW];simp
 apply Wp.eq;simp_arith![gP,fnP];simp[eF,fY,itS,eAp,ak,aD,aq,view,bB,m7,mkV,q,aU,cU,aH,w_ite,b7,F,z,fU,V,clean,aC,aB,nbL,noL];omega
theorem HD:∀rs:List (List Str),bA (rs.map (fL .own))=true
 |[]=>rfl
 |r::rs=>by rw[ZF,bA,HD rs];simp[fL,bu,z8]
theorem Ti(nd:ns.Nodup)(U:Iv ns (jsO s.dn) R)(O:ns.length<=20)(J:s.dn.length<=1000):dU "Stack" "all_classes" bJ (skD .bro ns s) []=some (.lst .own ((rws R (aY ns)).map (fL .own))):=by
 have e:=XR nd U O (by simpa[jsO]using J);have z:=KZ O λ_=>0;have V:=qi (ns:=ns) J;have q:bJ [skD .frz ns s]=some (.lst .own ((rws R (aY ns)).map (fL .own))):=by
  generalize rws R (aY ns)=rs at e;have:=HD rs;apply Wp.eq;simp_arith[bJ,sEx,aL,aW,aM,ug,Tz,Th,gf1,Ng,z,dU,uB (m:=.frz) (by decide) (show eY j9 "standing"=none by decide),V,dD,oG,bU,bM,kJ,kW,e,bu,nbL,noL]
 simp![dU,uB (m:=.bro) (by decide) (show eY j9 "all_classes"=none by decide),aab,bz,fzL,MJ,fz,q,Hq,bu,HD];simp
theorem N5:∀{l:List Str},l.Pairwise (λa b=>R a≠R b)->∀a∈l,∀b∈l,R a=R b->a=b
 |[],_,a,ha,_,_,_=>by cases ha
 |x::r,h,a,ha,b,hb,e=>by
  obtain⟨h1,h2⟩:=abV.mp h;rcases ZR.mp ha with z|z<;>rcases ZR.mp hb with w|w
  .rw[z,w]
  .rw[z]at e;exact absurd e (h1 b w)
  .rw[w]at e;exact absurd e.symm (h1 a z)
  .exact N5 h2 a z b w e
def LcI(N F:D)(ns:List Str)(R mk:Str->Str)(k:Nat)(ρ:En):Prop:=∃Z:Option D,ρ=[some N,some F,some (.dct .own (((lds R ((aY ns).take k)).map mk).map ZS) ((lds R ((aY ns).take k)).map λa=>fL .own (cl R ((aY ns).take k) a))),Z]
theorem Ys{mk:Str->Str}(O:ns.length<=20)(c1:∀x∈ns,∃c:Int,gIx (bD .frz es) (.str x)=some (.tup [.str (mk x),.int c]))(hR:∀x∈ns,∀y∈ns,(mk x=mk y↔R x=R y)):dg [.lst .frz 1.14,bD .frz es]=some (.lst .own ((rws R (aY ns)).map (fL .own))):=by
 have N0:view false (D.lst .frz 1.14)= .lst .frz (ns.map D.str):=by simp[view,bB,mkV]
 have N1:=Wm (m:=.frz) (g:=ns) 1.11;have F0:=Yq es false;have c3:(aY ns).length=ns.length:=(cN ns).length_eq;apply Wp.eq;generalize D.lst .frz 1.14=N at *
 generalize bD .frz es=F at *
 simp_arith![dg,fnP];refine aX (LcI N F ns R mk 0) (λQ hQ=>?_) ?_
 .exact⟨_,rfl,hQ _ ⟨none,rfl⟩⟩
 rintro _ h0;refine aX (LcI N F ns R mk (aY ns).length) (λQ hQ=>?_) ?_
 .have hseq:b7 (.lst .own ((aY ns).map D.str))=some (true,(aY ns).map D.str):=by simp[b7,clean,aC,aB,bU,bM,gF]
  obtain⟨y3,rfl⟩:=h0;simp[iD,itS,eAp,ak,aD,aq,N0,N1,hseq,aU,aH,w_ite];refine lF (LcI N F ns R mk) ⟨y3,rfl⟩ ?_ (λρ h=>hQ _ (by rw[ZL]at h;exact h));rintro k d ρ hk ⟨x3,rfl⟩;rw[List.getElem?_map]at hk;cases a3:(aY ns)[k]? with
  |none=>simp[a3]at hk
  |some x=>
   obtain rfl:D.str x=d:=by simpa[a3]using hk
   have a4:x∈ns:=(cN ns).mem_iff.mp (Z2 a3);have a7:(aY ns).take (k+1)=(aY ns).take k++[x]:=by rw[ad_,a3];rfl
   have J:=wU R ((aY ns).take k);have Z:∀a∈lds R ((aY ns).take k),a∈ns:=λa Y=>(cN ns).mem_iff.mp (afm (J.b.subset Y));obtain⟨c,b9⟩:=c1 x a4;have c2:(lds R ((aY ns).take k)).length<=20:=by have:=J.b.length_le;rw[abe]at this;omega
   have b1:∀a,(cl R ((aY ns).take k) a).length<=20:=λa=>by
    have:=acC (λy=>decide (R y=R a)) ((aY ns).take k);rw[abe]at this;unfold cl;omega
   have a1:LcI N F ns R mk (k+1) [some N,some F,some (.dct .own (((ldF R (lds R ((aY ns).take k)) x).map mk).map ZS) ((ldF R (lds R ((aY ns).take k)) x).map λa=>fL .own (cl R ((aY ns).take k++[x]) a))),some (.str x)]:=⟨_,by rw[a7,Hk]⟩;generalize LcI N F ns R mk (k+1)=I at a1;generalize (aY ns).take k=l at *
   generalize lds R l=ld at *
   have b3:(ld.map mk).Nodup:=abj.mpr (J.c.imp_of_mem λY U h e=>h ((hR _ (Z _ Y) _ (Z _ U)).mp e));have a9:ld.Nodup:=J.c.imp λh e=>h (by rw[e]);have b0:∀r:En,ak (e2 gIx (e2 gIx 1.17 1.49) (eC (.int 0))) (ak (eAp dq aD) aD) (some N::some F::some (.dct .own ((ld.map mk).map ZS) (ld.map λa=>fL .own (cl R l a)))::[some (.str x)])=some [.str (mk x),.lst .own []]:=λ_=>by
    have h0:gIx (.tup [.str (mk x),.int c]) (.int 0)=some (.str (mk x)):=rfl;simp[ak,aD,e2,aq,F0,view,b9,eC,eAp,dq,h0]
   simp[tgN,aC,aB,clean,aH,-List.map_map];by_cases a2:∃a∈ld,R a=R x
   .obtain⟨a0,h0,e0⟩:=a2
    obtain⟨j,hj⟩:=aak.mp h0;have b8:=Gf b3 (i:=j) (x:=mk x) (by rw[List.getElem?_map,hj,aaw,(hR a0 (Z a0 h0) x a4).mpr e0]);rw[ldF,ZV (o5.mpr ⟨a0,h0,e0⟩)]at a1;have q:=KD (g:=λa=>fL .own (cl R l a)) (g':=λa=>fL .own (cl R (l++[x]) a)) (a:=fL .own (cl R l a0++[x])) a9 hj (by simp![qd,e0,aab]) (λy V b5=>by
     have:R y≠R a0:=λz=>b5 (N5 J.c y V a0 h0 z);simp![qd,show ¬(R x=R y)from λz=>this (z.symm.trans e0.symm),aaN,List.append_nil])
    have a5:Fd 2 (ak (e2 gIx (e2 gIx 1.17 1.49) (eC (.int 0))) (ak (eAp dq aD) aD)) [some N,some F,some (.dct .own ((ld.map mk).map ZS) (ld.map λa=>fL .own (cl R l a))),some (.str x)]=some (j,[some N,some F,some (.dct .own ((ld.map mk).map ZS) (ld.map λa=>fL .own (cl R l a))),some (.str x)]):=by
     simp![Fd,aam,aau,b0 [],cW,b8,ZL];rw[ZV 1.11]
    have a6:upS aR 2 [j] [.str x] [some N,some F,some (.dct .own ((ld.map mk).map ZS) (ld.map λa=>fL .own (cl R l a))),some (.str x)]=some (.non,[some N,some F,some (.dct .own ((ld.map mk).map ZS) (ld.map λa=>fL .own (cl R (l++[x]) a))),some (.str x)]):=by
     have g1:cV [j] (.dct .own ((ld.map mk).map ZS) (ld.map λa=>fL .own (cl R l a)))=some (fL .own (cl R l a0)):=by simp[cV,kids,hj]
     have g2:aR (fL .own (cl R l a0)) [.str x]=some (fL .own (cl R l a0++[x]),.non):=by
      have:=b1 a0;simp![fL,aR,ZL];rw[ZV 1.11];simp
     have g3:dz [j] (fL .own (cl R l a0++[x])) (.dct .own ((ld.map mk).map ZS) (ld.map λa=>fL .own (cl R l a)))= .dct .own ((ld.map mk).map ZS) (ld.map λa=>fL .own (cl R (l++[x]) a)):=by
      rw[←q];simp[dz,kids,hj,ur]
     simp![upS,aam,aau,Hq,g1,az,aA,aC,aB,ad3,and_self,aab,g2,aaw,g3,aaZ,abx]
    simp![Jk,a5,Hq];simp![ak,aD,aq,aam,aau,Hq,view,a6,aaw,aH];exact a1
   .have hkn:dw ((ld.map mk).map ZS) (ZS (mk x))=none:=by
     have:=kI (ys:=ld.map mk) (x:=mk x);rw[aaa λz=>by
      obtain⟨a,Y,e⟩:=ZG.mp z;exact a2 ⟨a,Y,(hR a (Z a Y) x a4).mp e⟩]at this
     cases e:dw ((ld.map mk).map ZS) (ZS (mk x))with
     |none=>rfl
     |some j=>rw[e]at this;cases this
    rw[ldF,Z1 λz=>a2 (o5.mp z),ZW,ZW,ZW]at a1;have c0:cl R l x=[]:=aeN.mpr λy V=>by
     obtain⟨a,Y,e⟩:=J.a y V;simp![aa0];exact λz=>a2 ⟨a,Y,e.trans z⟩
    have b2:(ld.map λa=>fL .own (cl R (l++[x]) a))=ld.map λa=>fL .own (cl R l a):=aah λa Y=>by
     simp![qd,show ¬(R x=R a)from λz=>a2 ⟨a,Y,z.symm⟩,aaN,List.append_nil]
    have a8:cl R (l++[x]) x=[x]:=by rw[qd,c0,ZV rfl];rfl
    simp![b2,ZF,aao,a8]at a1;have a5:Fd 2 (ak (e2 gIx (e2 gIx 1.17 1.49) (eC (.int 0))) (ak (eAp dq aD) aD)) [some N,some F,some (.dct .own ((ld.map mk).map ZS) (ld.map λa=>fL .own (cl R l a))),some (.str x)]=some (ld.length,[some N,some F,some (.dct .own ((ld.map mk).map ZS++[ZS (mk x)]) ((ld.map λa=>fL .own (cl R l a))++[.lst .own []])),some (.str x)]):=by
     simp![Fd,aam,aau,b0 [],cW,hkn,ZL,aaZ,abx];rw[ZV 1.11]
    have a6:upS aR 2 [ld.length] [.str x] [some N,some F,some (.dct .own ((ld.map mk).map ZS++[ZS (mk x)]) ((ld.map λa=>fL .own (cl R l a))++[.lst .own []])),some (.str x)]=some (.non,[some N,some F,some (.dct .own ((ld.map mk).map ZS++[ZS (mk x)]) ((ld.map λa=>fL .own (cl R l a))++[fL .own [x]])),some (.str x)]):=by
     have g0:((ld.map λa=>fL .own (cl R l a))++[D.lst .own []])[ld.length]? =some (.lst .own []):=by rw[aaB (by simp)];simp
     have g4:((ld.map λa=>fL .own (cl R l a))++[D.lst .own []]).set ld.length (fL .own [x])=(ld.map λa=>fL .own (cl R l a))++[fL .own [x]]:=by rw[acE _ _ (by simp)];simp
     simp[upS,cV,kids,g0,az,aA,aC,aB,aR,dz,ur,-List.map_map];rfl
    simp![Jk,a5,Hq];simp![ak,aD,aq,aam,aau,Hq,view,a6,aaw,aH];exact a1
 rintro _ ⟨x3,rfl⟩;rw[acf];have b4:∀rs:List (List Str),lstK .own (rs.map (fL .own))=some rs:=λrs=>by
  have B:∀r:List Str,strsOf (r.map D.str)=some r:=λr=>by induction r<;>simp_all [strsOf]
  induction rs with
  |nil=>rfl
  |cons r rs ih=>simp[lstK,fL,B,ih]
 have b6:(lds R (aY ns)).length<64:=by have:=(wU R (aY ns)).b.length_le;omega
 have e1:(lds R (aY ns)).map (λa=>fL .own (cl R (aY ns) a))=(rws R (aY ns)).map (fL .own):=by rw[rws,ZX];rfl
 have e2:=UJ (R:=R) (vG ns);rw[e1];simp![wA,aam,aau,b4,e2,aaw,ZL,rws,b6,aab,aH];unfold rws at e2;rw[e2]
def Pl(e:D):Prop:=fz e=e/\fzo e=e/\(∀b,view b e=e)/\aC e=true/\aB e=true
theorem nR{f:D->D}(h:∀e∈ds,f e=e):ds.map f=ds:=by
 conv=>rhs;rw[←aeM ds]
 exact aah h
theorem Pl.ofL(h:∀e∈ds,Pl e):fzL ds=ds/\fV ds=ds/\(∀b,cH b ds=ds)/\az ds=true/\aA ds=true:=
 ⟨by rw[f9,nR λe V=>(h e V).1],by rw[gR,nR λe V=>(h e V).2.1],λb=>by rw[cP,nR λe V=>(h e V).2.2.1 b],bH λe V=>(h e V).2.2.2.1,bC λe V=>(h e V).2.2.2.2⟩
theorem X4{a b:Bool}:gNe (.bl a) (.bl b)=some (.bl (!(a==b))):=by
 unfold gNe;rw[ZV ⟨rfl,rfl,.sc (.bl a b)⟩];simp[dt,eqD]
theorem Zg{es:List D}:eE [.lst .frz es,.tup [.ty "list",.ty "tuple"]]=some (.bl true)/\eE [.lst .frz es,.ty "list"]=some (.bl true)/\eE [.lst .frz es,.ty "tuple"]=some (.bl false)/\eE [.lst .frz es,.ty "bool"]=some (.bl false)/\gIs (.lst .frz es) .non=some (.bl false):=⟨rfl,rfl,rfl,rfl,rfl⟩
theorem Zr:eE [.str x,.tup [.ty "list",.ty "tuple"]]=some (.bl false)/\eE [.str x,.ty "str"]=some (.bl true)/\eE [.str x,.ty "bool"]=some (.bl false)/\gIs (.str x) .non=some (.bl false):=⟨rfl,rfl,rfl,rfl⟩
theorem VN{Fr:List D->Option D}:bc Fr [.str x,.str x]=some (.bl true):=by
 apply Wp.eq;simp_arith[bc,sEx,aL,aW,aM,cG,Zr,eq_str]
theorem yK:∀es:List D,Fo es es=es.map λe=>.tup [e,e]
 |[]=>rfl
 |e::r=>by have:=yK r;unfold Fo at this⊢;simp[this]
theorem M7{Fr:List D->Option D}:∀{es:List D},(∀e∈es,Pl e/\Fr [e,e]=some (.bl true))->iG (tpT 2 (aO (tpN 0) (aO (tpN 1) bZ))) eTT (eAp (bz Fr) (ak 1.19 (ak 1.17 aD))) [none,none] (es.map λe=>.tup [e,e])=some (es.map λ_=>.bl true)
 |[],_=>rfl
 |e::r,h=>by
  obtain⟨⟨V,B,O,q,z⟩,h2⟩:=h e (by simp);rw[ZF,iG,M7 λx J=>h x (by simp[J])];simp[tpT,aO,tpN,bZ,eTT,eAp,bz,ak,aD,aq,O,fzL,V,h2,az,aA,q,z,clean,aC,aB]
theorem U7:∀l:List D,Ih [.lst .own (l.map λ_=>D.bl true)]=some (.bl true):=λl=>by
 have h:∀l:List D,DX (l.map λ_=>.bl true)=some (l.map λ_=>true):=λl=>by induction l<;>simp_all [DX]
 simp[Ih,h]
theorem O1{Fr:List D->Option D}{es:List D}(h:∀e∈es,Pl e/\Fr [e,e]=some (.bl true))(O:es.length<=1000):bc Fr [.lst .frz es,.lst .frz es]=some (.bl true):=by
 obtain⟨B,I,Z,q,z⟩:=Pl.ofL λe V=>(h e V).1;have hz:=M7 h;apply Wp.eq;simp_arith[bc,sEx,aL,aW,aM,cG,eQ,Zg,eq_int,X4,itZ,Gr,I,Z,q,z,yK,hz];refine⟨by omega,?_⟩;rw[U7 es,aH];simp[aC,aB]
theorem YZ:Pl (.str x):=⟨rfl,rfl,λ_=>rfl,rfl,rfl⟩
theorem Zk(r:List Str):Pl (fL .frz r):=⟨by simp[fL,fz,dD,mkF],by simp[fL,fzo,gF,mkO],λb=>by cases b<;>simp[fL,view,bB,mkV],by simp[fL,aC,bU],by simp[fL,aB,bM]⟩
variable{r:List Str}
theorem JT{Fr:List D->Option D}(O:r.length<=1000):bc (bc Fr) [fL .frz r,fL .frz r]=some (.bl true):=O1 (λe V=>by
 obtain⟨x,_,rfl⟩:=ZG.mp V;exact⟨YZ,VN⟩) (by simpa using O)
theorem QZ(q:rs.length<=1000)(h:∀r∈rs,r.length<=1000):cT [.lst .frz (rs.map (fL .frz)),.lst .frz (rs.map (fL .frz))]=some (.bl true):=O1 (λe V=>by
 obtain⟨r,O,rfl⟩:=ZG.mp V;exact⟨Zk r,JT (h r O)⟩) (by simpa using q)
theorem Xe(J:m≠.scr)(rs:List (List Str)):fzL (rs.map (fL m))=rs.map (fL .frz):=by
 rw[f9,ZX];refine aah λr _=>?_;simp![abH,fL,fz,dD];cases m<;>first|rfl|exact absurd rfl J
theorem Ye(rs:List (List Str)):cH false (rs.map (fL .own))=rs.map (fL .brw):=by
 rw[cP,ZX];refine aah λr _=>?_;simp![abH,fL,view,bB];rfl
theorem Ov(O:rs.length<=1000)(h:∀r∈rs,r.length<=1000):bz cT [.lst .brw (rs.map (fL .brw)),.lst .brw (rs.map (fL .brw))]=some (.bl true):=by
 simp![bz,fzL,fz,Xe (m:=.brw) (by decide),mkF,QZ O h,Hq,bu];simp
theorem RV(h:r.length<=1000)(J:m≠.scr):bz cT [.lst .brw (r.map D.str),fL m r]=some (.bl true):=by
 have e:fz (fL m r)=fL .frz r:=by
  have:=Xe J [r];simpa[fzL]using this
 have e2:fz (D.lst .brw (r.map D.str))=fL .frz r:=by simp[fL,fz,dD,mkF]
 have:=JT (Fr:=bc λ_=>none) h;simp![bz,fzL,e,e2,cT,this,Hq,bu];simp
variable{f:En->Option (List D)}
theorem Zn{j:Int}(h:f ρ=some [.int j])(h1: -(2 ^ 62)<=j)(h2:j<2 ^ 62):jB f ρ=some (true,nU 0 j.toNat):=by
 unfold jB;rw[h];simp![Hq];rw[ZV ⟨h1,h2⟩]
theorem M3(h:f ρ=some [.int n])(hn:n<=100):jB f ρ=some (true,nU 0 n):=by
 have h1:(n:Int)<=100:=by omega
 have:=Zn h (adH (by decide) (Int.natCast_nonneg n)) (Int.lt_of_le_of_lt h1 (by decide));rw[adh]at this;exact this
theorem zY:gEq (.lst m (l.map D.str)) (.lst .own [])=some (.bl l.isEmpty):=by
 unfold gEq;rw[ZV ⟨by rw[wZ];exact yJ l,rfl,.lst (by simp[dtL,dt])⟩];cases l with
 |nil=>rfl
 |cons j r=>rfl
theorem Xr(O:ns.length<=20)(B:Iv ns js R)(I:Wkd ns js R es):bz dg [.lst .brw 1.14,bD .brw es]=some (.lst .own ((rws R (aY ns)).map (fL .own))):=by
 let mk:Str->Str:=λz=>((es.find? λc=>decide (c.1=z)).map (·.2.1)).getD z
 have q:∀x∈ns,∃e∈es,e.1=x/\mk x=e.2.1/\gIx (bD .frz es) (.str x)=some (.tup [.str e.2.1,.int e.2.2]):=λx J=>by
  obtain⟨i,e,hi,rfl⟩:=Tc (I.2.2 x J);refine⟨e,Z2 hi,rfl,?_,O9 I.1.nd hi⟩;simp![mk,Fe I.1.nd hi];rfl
 have e:=Ys (mk:=mk) (R:=R) O (λx J=>by obtain⟨e,_,_,h1,h2⟩:=q x J;exact⟨e.2.2,by rw[h1];exact h2⟩) (λx J y V=>by
  obtain⟨a,Y,rfl,h1,_⟩:=q x J;obtain⟨b,U,rfl,h2,_⟩:=q y V;rw[h1,h2];exact Rj B I Y U)
 simp![bz,fzL,fz,dD,mkF,Zh (es:=es) (m:=.brw) (by decide),e,Hq,bu,HD];simp
theorem RP(q:ns.length<=20):(rws R (aY ns)).length<=20/\∀r∈rws R (aY ns),r.length<=20:=by
 have Y:(aY ns).length=ns.length:=(cN ns).length_eq;refine⟨by have:=(wU R (aY ns)).b.length_le;rw[rws,ZL];omega,λr O=>?_⟩;obtain⟨a,_,rfl⟩:=ZG.mp O;have:=acC (λy=>decide (R y=R a)) (aY ns);unfold cl;omega
theorem Tq:∀rs:List (List Str),iG (tpN 0) (eB (e2 gIn 1.17 1.19)) 1.19 [none,some (.str x)] (rs.map (fL .brw))=some ((rs.filter λr=>decide (x∈r)).map (fL .brw))
 |[]=>rfl
 |r::rs=>by
  have h1:gIn (.str x) (fL .brw r)=some (.bl (decide (x∈r))):=by simp[fL,gIn,pP,scV,lO,qT]
  have h2:view false (fL .brw r)=fL .brw r:=by simp[fL,view,bB,mkV]
  rw[ZF,iG,Tq rs];by_cases e:x∈r
  .simp[tpN,eB,isB,e2,aq,view,h1,h2,e,abJ]
  .simp[tpN,eB,isB,e2,aq,view,h1,h2,e,abJ]
def LwP(S:D)(ns:List Str)(t:Int)(ks:List Key)(ds:List D)(a b:Int)(s:Sk)(dn:List Dj)(U J O I B F z q:Option D):En:=[some S,some (tp a b),some (.lst .own 1.14),some (.int t),some (.dct .own ks ds),some (skD .own ns s),some (.lst .own ((jsO dn).map jD)),U,J,O,I,B,F,z,q]
def LwI(S:D)(ns:List Str)(t:Int)(ks:List Key)(ds:List D)(k:Nat)(ρ:En):Prop:=∃(a b:Int)(s:Sk)(R:Str->Str)(U J O I B F z q:Option D),ρ=LwP S ns t ks ds a b s s.dn U J O I B F z q/\0<=a/\St ns s R/\s.dn.length<=k
def LnI(S:D)(ns:List Str)(t:Int)(ks:List Key)(ds:List D)(s:Sk)(U J O I:Option D)(k:Nat)(ρ:En):Prop:=∃(a b:Int)(B F z q:Option D),ρ=LwP S ns t ks ds a b s s.dn U J O I B F z q/\0<=a
theorem YB(dn:List Dj):cutD ((jsO dn).map jD) none (some (-1))=(jsO dn.dropLast).map jD:=by
 rcases ae6 dn with rfl|⟨l,d,rfl⟩
 .rfl
 .rw[ae7]
  simp![jsO,ZW,ZF,aao,List.dropLast_concat];exact Om
theorem S9{f g:En->Option Fl}(P:Bool->En->Prop)(h:∀R:Bool×En->Prop,(∀b I,P b I->R (b,I))->Wp (c ρ) R)(k:∀I,P true I->Wp (f I) Q)(F:∀I,P false I->Wp (g I) Q):Wp (jm c f g ρ) Q:=by
 obtain⟨⟨b,I⟩,e,q⟩:=h (λp=>P p.1 p.2) λ_ _ h=>h;unfold jm;rw[e];cases b
 .exact F _ q
 .exact k _ q
theorem Oh(zs:List Int)(hz:zs.length<=63):mL [.lst .scr (zs.map D.int)]=some (.bl true):=by
 apply Wp.eq;have S0:∀b,view b (D.lst .scr (zs.map D.int))= .lst .scr (zs.map D.int):=λb=>by cases b<;>simp[view,oX,mkV]
 have S1:fz (D.lst .scr (zs.map D.int))= .lst .scr (zs.map D.int):=by simp[fz,uE,mkF]
 have S2:aC (D.lst .scr (zs.map D.int))=true/\aB (D.lst .scr (zs.map D.int))=true:=by simp[aC,aB,rH,qO]
 have S3:eQ [.lst .scr (zs.map D.int)]=some (.int zs.length):=by simp[eQ]
 have b0:∀(k:Int)(Q:D->Prop),0<=k->k<=100->(∀a b,0<=a->Q (tp a b))->Wp (dJ [.lst .scr (zs.map D.int),.int k]) Q:=λk Q h1 h2 U=>Wp.mono (UT h1 h2) λd ⟨a,b,e,h⟩=>e▸U a b h;generalize hS:D.lst .scr (zs.map D.int)=S at S0 S1 S2 S3 b0;simp_arith![mL,fnP];refine aX (λρ=>∃a b:Int,0<=a/\ρ=[some S,some (tp a b),none,none,none,none,none,none,none,none,none,none,none,none,none]) (λQ U=>?_) ?_
 .simp_arith[sEx,aL,aW,aM,S0,S1,S2]
  refine b0 0 _ 1.11 1.11 λa b Y=>?_;simp[aC,aB,az,aA,aH];exact U _ ⟨a,b,Y,rfl⟩
 rintro _ ⟨a,b,Y,rfl⟩;refine aX (λρ=>∃(ns:List Str)(a b:Int),(∀x∈ns,x∈jR)/\ns.Nodup/\ns.length<=20/\0<=a/\ρ=[some S,some (tp a b),some (.lst .own 1.14),none,none,none,none,none,none,none,none,none,none,none,none]) (λQ U=>?_) ?_
 .simp_arith[sEx,aL,aW,aM]
  refine Wp.mono (Qp Y) ?_;rintro _ ⟨ns,a',b',rfl,h1,h2,Z,h4⟩;simp_arith[sEx,aL,aW,aM,bU,bM];exact U _ ⟨ns,a',b',h1,h2,Z,h4,rfl⟩
 clear Y a b;rintro _ ⟨ns,a,b,hn,nd,hl,Y,rfl⟩;refine aX (λρ=>∃(t a b:Int),0<=t/\t<=1000/\0<=a/\ρ=[some S,some (tp a b),some (.lst .own 1.14),some (.int t),none,none,none,none,none,none,none,none,none,none,none]) (λQ U=>?_) ?_
 .simp_arith[sEx,aL,aW,aM]
  refine Wp.mono (Vb Y) ?_;rintro _ ⟨t,a',b',rfl,h1,h2,Z⟩;simp_arith[sEx,aL,aW,aM];exact U _ ⟨t,a',b',h1,h2,Z,rfl⟩
 clear Y a b;rintro _ ⟨t,a,b,t1,t2,Y,rfl⟩;refine aX (λρ=>∃(ks:List Key)(ds:List D)(a b:Int),Dm ns ks ds/\0<=a/\ρ=[some S,some (tp a b),some (.lst .own 1.14),some (.int t),some (.dct .own ks ds),none,none,none,none,none,none,none,none,none,none]) (λQ U=>?_) ?_
 .simp_arith[sEx,aL,aW,aM,bB,dD,bM,bU]
  refine Wp.mono (QK Y hl) ?_;rintro _ ⟨ks,ds,a',b',rfl,h1,h2⟩;have b9:aC (D.dct .own ks ds)=true/\aB (D.dct .own ks ds)=true:=by
   simp[aC,aB,bH λd hd=>by obtain⟨i,rfl⟩:=h1.1 d hd;rfl,bC λd hd=>by obtain⟨i,rfl⟩:=h1.1 d hd;rfl]
  have d5:bu (D.dct .own ks ds)=true:=by
   have:∀l:List D,(∀e∈l,∃i:Int,e= .int i)->bA l=true:=λl=>by
    induction l with
    |nil=>intro _;rfl
    |cons x r ih=>intro h;obtain⟨i,rfl⟩:=h x (by simp);rw[bA,ih λe V=>h e (by simp[V])];rfl
   simp[bu,this ds h1.1]
  have c1:az ds=true/\aA ds=true:=by simpa[aC,aB]using b9
  have c0:bA ds=true:=by simpa[bu]using d5
  simp_arith[sEx,aL,aW,aM,c1,c0,bA,bu];exact U _ ⟨ks,ds,a',b',h1,h2,rfl⟩
 clear Y a b;rintro _ ⟨ks,ds,a,b,hD,Y,rfl⟩;refine aX (λρ=>ρ=[some S,some (tp a b),some (.lst .own 1.14),some (.int t),some (.dct .own ks ds),some (skD .own ns (sk0 t ns)),none,none,none,none,none,none,none,none,none]) (λQ U=>?_) ?_
 .have hml:=Ui (t:=t) hn nd hl
  simp_arith[sEx,aL,aW,aM,bB,jT,hml,Zo];exact U _ rfl
 rintro _ rfl;refine aX (λρ=>ρ=LwP S ns t ks ds a b (sk0 t ns) [] none none none none none none none none) (λQ U=>?_) ?_
 .exact⟨_,rfl,U _ rfl⟩
 rintro _ rfl;have c2:0<=t/\t<=1000:=⟨t1,t2⟩;have c3:St ns (sk0 t ns) id:=⟨c2,.nil⟩;by_cases a8:ns=[]
 .subst a8
  rw[i_];have b2:=Ti (ns:=[]) (s:=sk0 t []) (R:=id) nd c3.g.gi.i (by simp) (by simp[sk0]);have e0:=zY (m:=.brw) (l:=[]);have e1:=zY (m:=.own) (l:=[]);simp![aao,List.isEmpty_nil]at e0 e1;have O:rws id (aY [])=[]:=rfl;rw[O,aao]at b2;simp_arith[sEx,aL,aW,aM,LwP,dq,e0,e1,nA,b2]
 refine aX (λρ=>ρ=LwP S ns t ks ds a b (sk0 t ns) [] none none none none none none none none) (λQ U=>?_) ?_
 .have e0:=zY (m:=.brw) (l:=ns)
  rw[List.isEmpty_eq_false_iff.mpr a8]at e0;simp_arith[sEx,aL,aW,aM,LwP,dq,bB,e0];exact U _ rfl
 rintro _ rfl;have e9:0<ns.length:=afA.mpr a8;have b8:cH false ds=ds/\fzL ds=ds/\az ds=true/\aA ds=true:=by
  refine⟨?_,?_,bH λd hd=>by obtain⟨i,rfl⟩:=hD.1 d hd;rfl,bC λd hd=>by obtain⟨i,rfl⟩:=hD.1 d hd;rfl⟩
  .rw[cP];exact nR λd hd=>by obtain⟨i,rfl⟩:=hD.1 d hd;rfl
  .rw[f9];exact nR λd hd=>by obtain⟨i,rfl⟩:=hD.1 d hd;rfl
 refine aX (λ_=>True) (λQ U=>?_) ?_
 .obtain⟨K,hN,hN2⟩:∃K:Nat,10+(if(zs.length:Int)<30 then(zs.length:Int)else 30)=(K:Int)/\K<=40:=⟨(10+(if(zs.length:Int)<30 then(zs.length:Int)else 30)).toNat,by split<;>omega,by split<;>omega⟩
  have O:jB (ak (e2 fG (eC (.int 10)) (eAp kY (ak (eC (.int 30)) (ak (eAp eQ (ak 1.19 aD)) aD)))) aD) (LwP S ns t ks ds a b (sk0 t ns) [] none none none none none none none none)=some (true,nU 0 K):=M3 (by
   rw[←hN];simp[LwP,ak,aD,eAp,e2,eC,aq,S0,S3,kY,fG]) 1.11
  simp![iD,O,Hq];refine lF (LwI S ns t ks ds) ⟨a,b,sk0 t ns,id,_,_,_,_,_,_,_,_,rfl,Y,c3,by simp[sk0]⟩ ?_ (λρ _=>U ρ trivial);clear O Y a b U;rintro k d ρ I ⟨a,b,s,R,x7,x8,x9,a6,a4,a3,a2,a0,rfl,Y,hG,hm⟩;obtain⟨f1,rfl⟩:=GK I;simp![LwP,tgN,clean,aC,aB,ad3,aab,aH,aaZ,abx];refine aX (λρ=>∃a b:Int,0<=a/\ρ=LwP S ns t ks ds a b s s.dn (some (.int k)) x8 x9 a6 a4 a3 a2 a0) (λQ U=>?_) ?_
  .simp_arith[sEx,aL,aW,aM,S0,S1,S2,fG]
   refine b0 _ _ 1.11 1.11 λa b Y=>?_;simp[aC,aB,az,aA,aH];exact U _ ⟨a,b,Y,rfl⟩
  clear Y a b;rintro _ ⟨a,b,Y,rfl⟩;refine aX (λρ=>∃(s':Sk)(R':Str->Str)(a b:Int)(x8:Option D),0<=a/\St ns s' R'/\s'.dn.length<=k+1/\ρ=LwP S ns t ks ds a b s' s'.dn (some (.int k)) x8 x9 a6 a4 a3 a2 a0) (λQ U=>?_) ?_
  .refine S9 (λ_ ρ=>∃a b:Int,0<=a/\ρ=LwP S ns t ks ds a b s s.dn (some (.int k)) x8 x9 a6 a4 a3 a2 a0) (λQ U=>?_) ?_ ?_
   .simp[aH,gA,aU,cU,w_ite,i_,cz,bW,dX,sIf,jm,eF,gK,dG,c7,jY,fj,g8,upS,tgN,tgT,aO,bZ,fO,tpN,tpT,bY,jC,aq,eC,aD,ak,eAp,eUp,jd,dB,ee2,dR,kE,e2,e1,eB,eeB,iI,mD,eOr,jL,j6,lV,eTT,isB,jB,itS,itE,jZ,b7,fY,gk,eSl,ql,mU,jG,gw,fW,eMt,qw,eIo,objs,gm,bz,cV,dz,clean,aC,aB,az,aA,bR,bQ,view,cH,mkV,mkF,fz,fzL,fzo,fV,mkO,fnP,fnI,en0,outs,fU,dW,obC,truth,sEx,aL,aW,aM,LwP]
    refine iB Y 1.11 1.11 λw a1 b1 p1 q1 F=>?_;simp[aH,gA,aU,cU,w_ite,i_,cz,bW,dX,sIf,jm,eF,gK,dG,c7,jY,fj,g8,upS,tgN,tgT,aO,bZ,fO,tpN,tpT,bY,jC,aq,eC,aD,ak,eAp,eUp,jd,dB,ee2,dR,kE,e2,e1,eB,eeB,iI,mD,eOr,jL,j6,lV,eTT,isB,jB,itS,itE,jZ,b7,fY,gk,eSl,ql,mU,jG,gw,fW,eMt,qw,eIo,objs,gm,bz,cV,dz,clean,aC,aB,az,aA,bR,bQ,view,cH,mkV,mkF,fz,fzL,fzo,fV,mkO,fnP,fnI,en0,outs,fU,dW,obC,truth,sEx,aL,aW,aM,eq_int];exact U _ _ ⟨a1,b1,F,rfl⟩
   .rintro _ ⟨a,b,Y,rfl⟩
    refine aX (λρ=>∃(s':Sk)(R':Str->Str),s'.dn=s.dn.dropLast/\St ns s' R'/\ρ=LwP S ns t ks ds a b s' s.dn (some (.int k)) x8 x9 a6 a4 a3 a2 a0) (λQ U=>?_) ?_
    .simp_arith[sEx,aL,aW,aM,LwP,qU,uB (m:=.own) (by decide) (show eY j9 "back"=none by decide)]
     refine Wp.mono (Vt nd hG hl) ?_;rintro _ ⟨v,s',R',rfl,e,o⟩;simp_arith[sEx,aL,aW,aM];exact U _ ⟨s',R',e,o,rfl⟩
    rintro _ ⟨s',R',e,o,rfl⟩;simp_arith[sEx,aL,aW,aM,LwP,m7,iz,gSl,YB,kJ,kW];rw[←e];exact U _ ⟨s',R',a,b,x8,Y,o,by rw[e,afd];omega,rfl⟩
   .rintro _ ⟨a,b,Y,rfl⟩
    refine aX (λρ=>∃(j:Jt)(a b:Int),j.1∈ns/\j.2.1∈ns/\0<=a/\ρ=LwP S ns t ks ds a b s s.dn (some (.int k)) (some (jD j)) x9 a6 a4 a3 a2 a0) (λQ U=>?_) ?_
    .simp[aH,gA,aU,cU,w_ite,i_,cz,bW,dX,sIf,jm,eF,gK,dG,c7,jY,fj,g8,upS,tgN,tgT,aO,bZ,fO,tpN,tpT,bY,jC,aq,eC,aD,ak,eAp,eUp,jd,dB,ee2,dR,kE,e2,e1,eB,eeB,iI,mD,eOr,jL,j6,lV,eTT,isB,jB,itS,itE,jZ,b7,fY,gk,eSl,ql,mU,jG,gw,fW,eMt,qw,eIo,objs,gm,bz,cV,dz,clean,aC,aB,az,aA,bR,bQ,view,cH,mkV,mkF,fz,fzL,fzo,fV,mkO,fnP,fnI,en0,outs,fU,dW,obC,truth,sEx,aL,aW,aM,LwP]
     rw[bB,dD,b8.1,b8.2.1];refine⟨⟨bM _,b8.2.2.2⟩,Wp.mono (Jy Y a8 hl c2 hD) ?_⟩;rintro _ ⟨j,a,b,rfl,j1,j2,h⟩;simp_arith[sEx,aL,aW,aM,jD,bu,bA];exact U _ ⟨j,a,b,j1,j2,h,rfl⟩
    rintro _ ⟨j,a,b,j1,j2,Y,rfl⟩;refine S9 (λc ρ=>∃(s':Sk)(R':Str->Str),St ns s' R'/\s'.dn.length<=k+1/\(c=true->(jsO s.dn).map jD++[jD j]=(jsO s'.dn).map jD)/\(c=false->s'.dn=s.dn)/\ρ=LwP S ns t ks ds a b s' s.dn (some (.int k)) (some (jD j)) x9 a6 a4 a3 a2 a0) (λQ U=>?_) ?_ ?_
    .simp[aH,gA,aU,cU,w_ite,i_,cz,bW,dX,sIf,jm,eF,gK,dG,c7,jY,fj,g8,upS,tgN,tgT,aO,bZ,fO,tpN,tpT,bY,jC,aq,eC,aD,ak,eAp,eUp,jd,dB,ee2,dR,kE,e2,e1,eB,eeB,iI,mD,eOr,jL,j6,lV,eTT,isB,jB,itS,itE,jZ,b7,fY,gk,eSl,ql,mU,jG,gw,fW,eMt,qw,eIo,objs,gm,bz,cV,dz,clean,aC,aB,az,aA,bR,bQ,view,cH,mkV,mkF,fz,fzL,fzo,fV,mkO,fnP,fnI,en0,outs,fU,dW,obC,truth,sEx,aL,aW,aM,LwP,jD,gIx,atI,ixN,qU,uB (m:=.own) (by decide) (show eY j9 "join"=none by decide)]
     refine Wp.mono (Vl nd hG hl j1 j2 1.11) ?_;rintro _ ⟨wd,kk,s',R',rfl,a7,⟨rfl,e⟩|⟨B,hg,e⟩⟩
     .simp[aH,gA,aU,cU,w_ite,i_,cz,bW,dX,sIf,jm,eF,gK,dG,c7,jY,fj,g8,upS,tgN,tgT,aO,bZ,fO,tpN,tpT,bY,jC,aq,eC,aD,ak,eAp,eUp,jd,dB,ee2,dR,kE,e2,e1,eB,eeB,iI,mD,eOr,jL,j6,lV,eTT,isB,jB,itS,itE,jZ,b7,fY,gk,eSl,ql,mU,jG,gw,fW,eMt,qw,eIo,objs,gm,bz,cV,dz,clean,aC,aB,az,aA,bR,bQ,view,cH,mkV,mkF,fz,fzL,fzo,fV,mkO,fnP,fnI,en0,outs,fU,dW,obC,truth,sEx,aL,aW,aM,gIx,atI,ixN,ne_str]
      exact U _ _ ⟨s',R',a7,by rw[e];omega,nofun,λ_=>e,rfl⟩
     .simp[aH,gA,aU,cU,w_ite,i_,cz,bW,dX,sIf,jm,eF,gK,dG,c7,jY,fj,g8,upS,tgN,tgT,aO,bZ,fO,tpN,tpT,bY,jC,aq,eC,aD,ak,eAp,eUp,jd,dB,ee2,dR,kE,e2,e1,eB,eeB,iI,mD,eOr,jL,j6,lV,eTT,isB,jB,itS,itE,jZ,b7,fY,gk,eSl,ql,mU,jG,gw,fW,eMt,qw,eIo,objs,gm,bz,cV,dz,clean,aC,aB,az,aA,bR,bQ,view,cH,mkV,mkF,fz,fzL,fzo,fV,mkO,fnP,fnI,en0,outs,fU,dW,obC,truth,sEx,aL,aW,aM,gIx,atI,ixN,ne_str,B]
      exact U _ _ ⟨s',R',a7,by rw[e];simp;omega,λ_=>by rw[e];simp[jsO,jO],nofun,rfl⟩
    .rintro _ ⟨s',R',a7,h,e,-,rfl⟩
     have d2:(jsO s.dn).length<=1000:=by simp[jsO];omega
     simp_arith[sEx,aL,aW,aM,LwP,jD,aR];refine⟨by omega,?_⟩;rw[show D.tup [.str j.1,.str j.2.1,.int j.2.2]=jD j from rfl,e rfl];exact U _ ⟨s',R',a,b,_,Y,a7,h,rfl⟩
    .rintro _ ⟨s',R',a7,h,-,e,rfl⟩
     exact⟨_,rfl,U _ ⟨s',R',a,b,_,Y,a7,h,by rw[e rfl]⟩⟩
  clear hG hm Y a b R s;rintro _ ⟨s,R,a,b,y8,Y,hG,hm,rfl⟩;have hI:=hG.g.gi.i;have d0:(jsO s.dn).length<=1000:=by simp[jsO];omega
  obtain⟨es,e,d6⟩:=VL (m:=.brw) (k:=.brw) (.inr rfl) (.inr rfl) hI hl d0;refine aX (λρ=>ρ=LwP S ns t ks ds a b s s.dn (some (.int k)) y8 (some (bD .own es)) a6 a4 a3 a2 a0) (λQ U=>?_) ?_
  .simp[LwP,cz,eAp,ak,aD,aq,view,bB,m7,mkV,e,Zx,clean,aU,cU,aH,tgN]
   exact U _ rfl
  rintro _ rfl;have b9:=Xr hl hI d6;have b2:=Ti nd hI hl 1.11;have b6:=λx (J:x∈ns)=>Ss (s:=s) (x:=x) nd hI hl 1.11 J;obtain⟨e8,c4⟩:=RP (R:=R) hl;have c5:∀x∈ns,_:=λx (J:x∈ns)=>UV (R:=R) (l:=aY ns) ((cN ns).mem_iff.mpr J);have c9:rws R (aY ns)≠[]:=λz=>by
   obtain⟨x,r,rfl⟩:=acR a8;have:=(c5 x (by simp)).1;rw[z]at this;exact this rfl
  have c6:∀x,(cl R (aY ns) x).length<=1000:=λx=>by
   have:=acC (λy=>decide (R y=R x)) (aY ns);have d2:(aY ns).length=ns.length:=(cN ns).length_eq;unfold cl;omega
  have c8:∀ρ,LnI S ns t ks ds s (some (.int k)) y8 (some (bD .own es)) (some (.lst .own ((rws R (aY ns)).map (fL .own)))) 2 ρ->LwI S ns t ks ds (k+1) ρ:=λρ ⟨a,b,e4,e5,f0,e6,e,h⟩=>⟨a,b,s,R,_,_,_,_,_,_,_,_,e,h,hG,hm⟩;generalize rws R (aY ns)=rs at *
  refine aX (λρ=>ρ=LwP S ns t ks ds a b s s.dn (some (.int k)) y8 (some (bD .own es)) (some (.lst .own (rs.map (fL .own)))) a4 a3 a2 a0) (λQ U=>?_) ?_
  .simp[LwP,cz,eAp,ak,aD,aq,view,bB,mkV,RT,b9,nbL,noL,clean,aC,aB,aU,cU,aH,tgN]
   exact U _ rfl
  rintro _ rfl;have b3:jB (ak (eC (.int 2)) aD) (LwP S ns t ks ds a b s s.dn (some (.int k)) y8 (some (bD .own es)) (some (.lst .own (rs.map (fL .own)))) a4 a3 a2 a0)=some (true,nU 0 2):=M3 (n:=2) rfl 1.11;simp![iD,b3,Hq];refine lF (LnI S ns t ks ds s (some (.int k)) y8 (some (bD .own es)) (some (.lst .own (rs.map (fL .own))))) ⟨a,b,a4,a3,a2,a0,rfl,Y⟩ ?_ (λρ h=>c8 ρ h);clear c8 b3 Y a b a4 a3 a2 a0;rintro i d ρ hi ⟨a,b,a4,a3,a2,a0,rfl,Y⟩;obtain⟨_,rfl⟩:=GK hi;simp![LwP,tgN,clean,aC,aB,ad3,aab,aH,aaZ,abx];refine aX (λρ=>ρ=LwP S ns t ks ds a b s s.dn (some (.int k)) y8 (some (bD .own es)) (some (.lst .own (rs.map (fL .own)))) (some (.int i)) (some (.lst .own (rs.map (fL .own)))) a2 a0) (λQ U=>?_) ?_
  .simp[LwP,cz,eMt,aD,aq,nA,b2,nbL,noL,clean,aC,aB,aU,cU,aH,tgN]
   exact U _ rfl
  rintro _ rfl;have b5:=Ov (rs:=rs) 1.11 (λr O=>by have:=c4 r O;omega);refine aX (λρ=>ρ=LwP S ns t ks ds a b s s.dn (some (.int k)) y8 (some (bD .own es)) (some (.lst .own (rs.map (fL .own)))) (some (.int i)) (some (.lst .own (rs.map (fL .own)))) a2 a0) (λQ U=>?_) ?_
  .simp[LwP,sIf,jL,iI,eAp,ak,aD,aq,view,Ye,mkV,b5,truth,c7,aU,cU,aH,w_ite]
   exact U _ rfl
  rintro _ rfl;refine aX (λρ=>∃a5:Option D,ρ=LwP S ns t ks ds a b s s.dn (some (.int k)) y8 (some (bD .own es)) (some (.lst .own (rs.map (fL .own)))) (some (.int i)) a5 a2 a0/\∃l,a5=some (.lst .own l)) (λQ U=>?_) ?_
  .obtain⟨r,q,a9⟩:=acR c9
   have e7:=c4 r (by rw[a9];simp);have e0:rs.map (fL .own)=D.lst .own (r.map D.str)::q.map (fL .own):=by rw[a9];rfl
   simp![LwP];generalize b4:(some (.lst .own (rs.map (fL .own))):Option D)=x10';rw[e0]at b4;subst b4;simp[fj,g8,jC,bY,eC,ak,aD,cV,ixP,ixN,kids,upS,az,aA,aC,aB,aR,dz,ur,aU,cU,aH];rw[ZV 1.11,aH];exact U _ ⟨_,by rw[e0];rfl,_,rfl⟩
  rintro _ ⟨_,rfl,l,rfl⟩;refine aX (λρ=>∃a5:Option D,ρ=LwP S ns t ks ds a b s s.dn (some (.int k)) y8 (some (bD .own es)) (some (.lst .own (rs.map (fL .own)))) (some (.int i)) a5 a2 a0) (λQ U=>?_) ?_
  .exact⟨_,rfl,U _ ⟨_,rfl⟩⟩
  rintro _ ⟨a5,rfl⟩;refine aX (λρ=>∃(x:Str)(a b:Int),x∈ns/\0<=a/\ρ=LwP S ns t ks ds a b s s.dn (some (.int k)) y8 (some (bD .own es)) (some (.lst .own (rs.map (fL .own)))) (some (.int i)) a5 (some (.str x)) a0) (λQ U=>?_) ?_
  .simp_arith[sEx,aL,aW,aM,LwP,bB,eQ]
   refine iB Y 1.11 1.11 λr a1 b1 p1 q1 F=>?_;obtain⟨x,J,_,d4⟩:=uP (f:=D.str) (l:=ns) p1 q1;simp_arith[sEx,aL,aW,aM,gIx,d4,bM];exact U _ ⟨x,a1,b1,J,F,rfl⟩
  clear Y a b;rintro _ ⟨x,a,b,J,Y,rfl⟩;have b6:=b6 x J;have e3:=c6 x;obtain⟨d7,d9⟩:=c5 x J;refine aX (λρ=>ρ=LwP S ns t ks ds a b s s.dn (some (.int k)) y8 (some (bD .own es)) (some (.lst .own (rs.map (fL .own)))) (some (.int i)) a5 (some (.str x)) (some (fL .own (cl R (aY ns) x)))) (λQ U=>?_) ?_
  .simp[LwP,cz,eMt,ak,aD,aq,nA,view,b6,fL,bU,bM,clean,aC,aB,aU,cU,aH,tgN]
   exact U _ rfl
  rintro _ rfl;generalize cl R (aY ns) x=cx at *
  refine aX (λρ=>ρ=LwP S ns t ks ds a b s s.dn (some (.int k)) y8 (some (bD .own es)) (some (.lst .own (rs.map (fL .own)))) (some (.int i)) a5 (some (.str x)) (some (fL .own cx))) (λQ U=>?_) ?_
  .have hrow:=Tq (x:=x) rs
   obtain⟨r0,q0,a9⟩:=acR d7;have d8:r0=cx:=by
    have:r0∈rs.filter (λr=>decide (x∈r)):=by rw[a9];simp
    obtain⟨z1,z2⟩:=abB.mp this;exact d9 r0 z1 (acw z2)
   subst d8;rw[a9]at hrow;have d3:=RV (r:=r0) 1.11 (m:=.brw) (by decide);have d1:fV (rs.map (fL .brw))=rs.map (fL .brw):=by
    rw[gR,ZX];refine aah λr _=>?_;simp![abH,fL,fzo,gF];rfl
   simp[LwP,sIf,jL,iI,eAp,ak,aD,aq,e2,eC,fY,itS,b7,fU,view,Ye,mkV,d1,hrow,aU,cU,aH,w_ite,show rs.length<=1000000 by omega];rw[show gIx (D.lst .own (fL .brw r0::q0.map (fL .brw))) (.int 0)=some (fL .brw r0)by simp[gIx,atI,ixN],aH,show view false (fL .own r0)=D.lst .brw (r0.map D.str)by simp[fL,view,bB,mkV],d3,aH];simp[truth,c7,aH];exact U _ rfl
  rintro _ rfl;simp[LwP,fL,fj,g8,bY,ak,aD,eC,cV,upS,az,aA,aC,aB,aR,dz,aU,cU,aH];rw[ZV 1.11,aH];exact⟨a,b,_,_,_,_,rfl,Y⟩
 rintro ρ _;simp_arith[sEx,aL,aW,aM]
section
variable{P:Program}{w:World}{K:PySem.W.Frag}{mg:Str->Option Value}{base:Heap}{x qual:Str}{st:Stmt}{f:Addr}{fd:FuncData}{N ps:List Str}{body:En->Option Fl}
theorem qP(k:Nat)(ob:Nat->Bool)(F:Fun K x qual st f fd)(S:bx N ps (aK st))
 (U:(∀_:Unit,N.Nodup)->∀(cdv:Value)(A:aaC)(outer:List Env)(s:Pr)(H:Hp)(E:XK),gq k (A.deeper (acN qual (aK st) s.heap.objs.size f cdv))->rA (λ_:Unit=>(xJ CX0 P w K mg base N qual (aK st) f cdv A outer s H E).nox) ⟨K,mg⟩ ob (λ_=>false) (gJ st) body) :
 cR P w K mg base CX0 (k+1) f fd ps (spP ⟨K,mg⟩ (fnP ps.length N.length body)):=okP F S (U λ_=>S.nd)
theorem qI(k:Nat)(ob pr:Nat->Bool)(F:Fun K x qual st f fd)(S:bx N ps (aK st))
 (U:(∀_:Unit,N.Nodup)->∀(cdv:Value)(A:aaC)(outer:List Env)(s:Pr)(H:Hp)(E:XK),gq k (A.deeper (acN qual (aK st) s.heap.objs.size f cdv))->rA (λ_:Unit=>(xJ CX0 P w K mg base N qual (aK st) f cdv A outer s H E).nox) ⟨K,mg⟩ ob pr (gJ st) body) :
 cR P w K mg base CX0 (k+1) f fd ps (spI ⟨K,mg⟩ ob pr (fnI pr ps.length N.length body)):=okI F S (U λ_=>S.nd)
end
def top(i:Nat):Stmt:=afs.main.body.getD i (.Pass ⟨0,0,0,0⟩)
abbrev sF(n:List (Str×PySem.NameKind)):PySem.Scope:={kind:=.function,names:=n,isGenerator:=false,isCoroutine:=false}
local macro_rules
 |`(tactic|trivial)=>`(tactic|first|exact⟨rfl,by decide +kernel,by decide +kernel,by decide +kernel,rfl,by decide +kernel⟩|exact⟨rfl,rfl,rfl,by decide +kernel,rfl,by decide +kernel,by decide +kernel⟩)
open PySem.W (Frag nsIn fnOf keepIn codeIn mg_of mg_none_of)
abbrev nl0:List Str:=["self"]
abbrev nl1:List Str:=["turn","weights","behind","sizes","done","looked"]
abbrev nl2:List Str:=["_law_tape_here"]
abbrev nl3:List Str:=["names","joinings"]
abbrev nl4:List Str:=["_law_found","_law_due"]
abbrev nl5:List Str:=["self","name"]
abbrev nl6:List Str:=["self","names","turn"]
abbrev nl7:List Str:=["self","chain"]
abbrev nl8:List Str:=["self","one","other","step"]
abbrev nl9:List Str:=["_law_tape_here","_law_names_here"]
abbrev Pj:List Str:=["there","thing","place"]
abbrev Qt:List Str:=["there","name"]
abbrev Rv:List Str:=["names","joinings","name"]
abbrev R7:List Str:=["turn","n"]
abbrev QD:List Str:=["_law_script"]
abbrev UW:List Str:=["_law_script","_law_k"]
abbrev Ug:List Str:=["_law_tape_here","_law_many"]
abbrev Wr:List Str:=["_law_name","_law_joinings"]
abbrev Vo:List Str:=["_law_names_here","_law_joinings"]
abbrev VJ:List Str:=["_law_names_here","_law_found"]
noncomputable abbrev Uy:List Str:=["leading","start"]
abbrev Uz:List Str:=["_law_tape_here","_law_names_here","_law_marks_here","_law_turn_here"]
abbrev Wo:List Str:=["self","one","other"]
abbrev Xm:List Str:=["_law_name","_law_tape_here"]
abbrev XN:List Str:=["names","joinings","leading","number","one","other","step"]
abbrev YC:List Str:=["_law_script","_law_tape_here","_law_names_here","_law_turn_here","_law_marks_here","_law_held","_law_stand","_law_k","_law_joining_here","_law_found","_law_due","_law_again","_law_told","_law_name","_law_mine"]
abbrev ob0:Nat->Bool:=λi=>i==0
abbrev jo(P:aae)(w:World)(K:Frag)(mg:Str->Option Value)(base:Heap):Prop:=Cal P w K mg base 1 "_law_draw" Ug (spI ⟨K,mg⟩ ob0 ob0 aP)
abbrev wN(P:aae)(w:World)(K:Frag)(mg:Str->Option Value)(base:Heap):Prop:=Cal P w K mg base 2 "_law_far" nl2 (spI ⟨K,mg⟩ ob0 ob0 fP)
abbrev HS(P:aae)(w:World)(K:Frag)(mg:Str->Option Value)(base:Heap):Prop:=Cal P w K mg base 1 "is_name" ["thing"] (spP ⟨K,mg⟩ iM)
abbrev Az(P:aae)(w:World)(K:Frag)(mg:Str->Option Value)(base:Heap):Prop:=Cal P w K mg base 2 "check_new" Pj (spP ⟨K,mg⟩ fH)
abbrev xH(P:aae)(w:World)(K:Frag)(mg:Str->Option Value)(base:Heap):Prop:=Cal P w K mg base 3 "check_names" ["things"] (spP ⟨K,mg⟩ d9)
abbrev w5(P:aae)(w:World)(K:Frag)(mg:Str->Option Value)(base:Heap):Prop:=Cal P w K mg base 1 "_law_beside" Wr (spP ⟨K,mg⟩ dF)
abbrev nF(P:aae)(w:World)(K:Frag)(mg:Str->Option Value)(base:Heap):Prop:=Cal P w K mg base 1 "ends_by_name" nl3 (spP ⟨K,mg⟩ cA)
abbrev ud(P:aae)(w:World)(K:Frag)(mg:Str->Option Value)(base:Heap):Prop:=Cal P w K mg base 1 "ways_from" Uy (spP ⟨K,mg⟩ dh)
abbrev QF(P:aae)(w:World)(K:Frag)(mg:Str->Option Value)(base:Heap):Prop:=Cal P w K mg base 2 "trees" nl3 (spP ⟨K,mg⟩ gZ)
abbrev IW(P:aae)(w:World)(K:Frag)(mg:Str->Option Value)(base:Heap):Prop:=Cal P w K mg base 3 "classes" nl3 (spP ⟨K,mg⟩ gP)
abbrev lA(P:aae)(w:World)(K:Frag)(mg:Str->Option Value)(base:Heap):Prop:=Cal P w K mg base 1 "check_there" Qt (spP ⟨K,mg⟩ cg)
abbrev yR(P:aae)(w:World)(K:Frag)(mg:Str->Option Value)(base:Heap):Prop:=Cal P w K mg base 2 "class_with" Rv (spP ⟨K,mg⟩ e_)
abbrev yL(P:aae)(w:World)(K:Frag)(mg:Str->Option Value)(base:Heap):Prop:=Cal P w K mg base 1 "counted" R7 (spP ⟨K,mg⟩ dY)
abbrev CG(P:aae)(w:World)(K:Frag)(mg:Str->Option Value)(base:Heap):Prop:=Cal P w K mg base 1 "_law_tape" UW (spP ⟨K,mg⟩ dJ)
abbrev Ab(P:aae)(w:World)(K:Frag)(mg:Str->Option Value)(base:Heap):Prop:=Cal P w K mg base 2 "_law_names" nl2 (spI ⟨K,mg⟩ ob0 ob0 fD)
abbrev Bl(P:aae)(w:World)(K:Frag)(mg:Str->Option Value)(base:Heap):Prop:=Cal P w K mg base 2 "_law_turn" nl2 (spI ⟨K,mg⟩ ob0 ob0 gn)
abbrev zA(P:aae)(w:World)(K:Frag)(mg:Str->Option Value)(base:Heap):Prop:=Cal P w K mg base 3 "_law_marks" nl9 (spI ⟨K,mg⟩ ob0 ob0 fJ)
abbrev De(P:aae)(w:World)(K:Frag)(mg:Str->Option Value)(base:Heap):Prop:=Cal P w K mg base 2 "_law_walk" Vo (spP ⟨K,mg⟩ eU)
abbrev vD(P:aae)(w:World)(K:Frag)(mg:Str->Option Value)(base:Heap):Prop:=Cal P w K mg base 1 "_law_classes" VJ (spP ⟨K,mg⟩ dg)
abbrev wR(P:aae)(w:World)(K:Frag)(mg:Str->Option Value)(base:Heap):Prop:=Cal P w K mg base 3 "_law_joining" Uz (spI ⟨K,mg⟩ ob0 ob0 d_)
abbrev CT(P:aae)(w:World)(K:Frag)(mg:Str->Option Value)(base:Heap):Prop:=Cal P w K mg base 3 "_law_same" nl4 (spP ⟨K,mg⟩ cT)
noncomputable abbrev qD:Stmt:=top 24
noncomputable abbrev qg:Stmt:=top 25
noncomputable abbrev nW:Stmt:=top 26
noncomputable abbrev qF:Stmt:=top 27
noncomputable abbrev sG:Stmt:=top 28
noncomputable abbrev lw:Stmt:=top 30
noncomputable abbrev pB:Stmt:=top 8
noncomputable abbrev nM:Stmt:=top 9
noncomputable abbrev lM:Stmt:=top 10
noncomputable abbrev fB:Stmt:=inClass (top 22) 0
noncomputable abbrev mz:Stmt:=top 32
noncomputable abbrev qb:Stmt:=top 31
noncomputable abbrev lK:Stmt:=top 35
noncomputable abbrev iK:Stmt:=top 15
noncomputable abbrev nO:Stmt:=top 16
noncomputable abbrev zm:Stmt:=top 17
noncomputable abbrev pA:Stmt:=top 18
noncomputable abbrev gU:Stmt:=inClass (top 22) 7
noncomputable abbrev ig:Stmt:=inClass (top 22) 14
noncomputable abbrev km:Stmt:=inClass (top 22) 3
noncomputable abbrev mZ:Stmt:=inClass (top 22) 5
noncomputable abbrev lG:Stmt:=top 29
noncomputable abbrev lC:Stmt:=top 11
noncomputable abbrev mR:Stmt:=top 20
noncomputable abbrev jb:Stmt:=inClass (top 22) 13
noncomputable abbrev mX:Stmt:=top 37
noncomputable abbrev tQ:Stmt:=top 13
noncomputable abbrev lJ:Stmt:=inClass (top 22) 8
noncomputable abbrev iJ:Stmt:=inClass (top 22) 9
noncomputable abbrev lL:Stmt:=inClass (top 22) 10
noncomputable abbrev mC:Stmt:=inClass (top 22) 2
noncomputable abbrev mq:Stmt:=inClass (top 22) 1
noncomputable abbrev Hd:Stmt:=top 38
structure Blt(mg:Str->Option Value):Prop where
 abs:mg "abs"=none
 all:mg "all"=none
 bool_:mg "bool"=none
 dict:mg "dict"=none
 enumerate:mg "enumerate"=none
 int_:mg "int"=none
 isinstance:mg "isinstance"=none
 len:mg "len"=none
 list_:mg "list"=none
 max:mg "max"=none
 min:mg "min"=none
 range:mg "range"=none
 set_:mg "set"=none
 sorted:mg "sorted"=none
 str_:mg "str"=none
 sum:mg "sum"=none
 tuple:mg "tuple"=none
 zip:mg "zip"=none
theorem aN(r:gq k A):A.units+1<cLine:=by have:=r.units;omega
theorem o7(r:gq k A):A.units+2<cLine:=by have:=r.units;omega
section
variable{P:Program}{w:World}{K:Frag}{mg:Str->Option Value}{base:Heap}
theorem Dk:bx ["_law_script","_law_k","_law_cell","_law_digits"] UW (aK qD):=by trivial
theorem Bd{f:Addr}{fd:aai}(F:Fun K "_law_tape" "_law_tape" qD f fd)(B:Blt mg):cR P w K mg base CX0 1 f fd UW (spP ⟨K,mg⟩ dJ):=
 qP 0 (λi=>false) F Dk λnd _ _ _ _ _ _ O=>(au (bT 2 nd aG)
  (au (cJ (bL Hr 1.21 (bf iu (λ_=>rfl) (λ_=>B.len) ab2 (aa 1.24 ao))) (aJ (bT 2 nd (cZ (ixb (λ_=>aN O)) 1.24 1.21))) bN)
  (au (bT 3 nd (cL sO (bf Gs (λ_=>rfl) (λ_=>B.abs) boot_abs (aa 1.36 ao)) (oZ Qo (λ_=>rfl) (λ_=>B.int_) boot_int (aa (v9 Xb (bf Gs (λ_=>rfl) (λ_=>B.abs) boot_abs (aa 1.36 ao)) (cL sH aG aG)) ao))))
  (aJ (cC (je (aa 1.56 (aa (cL n6 (cL sO (cL n6 (cL ik (cL ik 1.36 (cL sO aG 1.21)) aG) aG) aG) aG) ao))))))))
theorem Cd:bx ["_law_tape_here","_law_many","_law_found","_law_once"] Ug (aK qg):=by trivial
theorem Cg{f:Addr}{fd:aai}(F:Fun K "_law_draw" "_law_draw" qg f fd)(B:Blt mg):cR P w K mg base CX0 1 f fd Ug (spI ⟨K,mg⟩ ob0 ob0 aP):=
 qI 0 ob0 ob0 F Cd λnd _ _ _ _ _ _ O=>(au (cJ (bL Ud (cZ (ixb (λ_=>aN O)) (aj true 0) aG) aG) (au (bT 2 nd (cL n6 (cZ (ixb (λ_=>aN O)) (aj true 0) aG) 1.21))
  (au (mK (cL za (cZ (ixb (λ_=>aN O)) (aj true 0) aG) 1.21) (o8 (pF (λ_=>aN O)) (bK 0) aG))
  (aJ (il 2)))) bN)
  (au (mK (cL n6 (cL ik (cL sO (cZ (ixb (λ_=>aN O)) (aj true 0) aG) aG) aG) aG) (o8 (pF (λ_=>aN O)) (bK 0) aG))
  (au (bT 3 nd (cL za (cZ (ixb (λ_=>aN O)) (aj true 0) aG) aG))
  (aJ (cC (cL n6 (cL za (cL n6 (cL sO 1.56 (cL ik (cL n6 1.56 aG) aG)) aG) aG) 1.21))))))
theorem Ao:bx ["_law_tape_here","_law_some","_law_way","_law_many","_law_turn_here"] nl2 (aK nW):=by trivial
theorem Av{f:Addr}{fd:aai}(F:Fun K "_law_names" "_law_names" nW f fd)(B:Blt mg)(I:jo P w K mg base):cR P w K mg base CX0 2 f fd nl2 (spI ⟨K,mg⟩ ob0 ob0 fD):=
 qI 1 ob0 ob0 F Ao λnd _ _ _ _ _ _ O=>(au (bT 1 nd (Yj JD PySem.F.plainAttrs_str PySem.F.slot_str_split PySem.F.type_str_split jX (aa jX ao)))
  (au (dm 2 nd (eO [0] (λ_=>I) 1.10 (cX 0 (cY (bV (aa aG ao))))))
  (au (dm 3 nd (oJ ik (b_ aG) (eO [0] (λ_=>I) 1.10 (cX 0 (cY (bV (aa aG ao)))))))
  (au (cJ (bL (cb_eq _ (λ_=>rfl) O.units) 1.36 aG) (aJ (dm 3 nd (oJ ik (b_ aG) (eO [0] (λ_=>I) 1.10 (cX 0 (cY (bV (aa aG ao)))))))) bN)
  (au (cJ (bL (cb_eq _ (λ_=>rfl) O.units) 1.36 aG) (aJ (dm 3 nd (eO [0] (λ_=>I) 1.10 (cX 0 (cY (bV (aa aG ao))))))) bN)
  (au (dm 4 nd (eO [0] (λ_=>I) 1.10 (cX 0 (cY (bV (aa aG ao))))))
  (aJ (cC (j7 slb (cL ik (j7 slb 1.21 (jV 1.61) j_) (j7 slb 1.21 j_ (jV 1.61))) j_ (jV 1.56))))))))))
theorem Dl:bx nl2 nl2 (aK qF):=by trivial
theorem Cj{f:Addr}{fd:aai}(F:Fun K "_law_turn" "_law_turn" qF f fd)(B:Blt mg)(I:jo P w K mg base):cR P w K mg base CX0 2 f fd nl2 (spI ⟨K,mg⟩ ob0 ob0 gn):=
 qI 1 ob0 ob0 F Dl λnd _ _ _ _ _ _ O=>(aJ (qQ (tO (ixb (λ_=>aN O)) (b_ (je (aa aG (aa aG (aa aG (aa aG (aa aG (aa aG (aa aG (aa aG ao)))))))))) (eO [0] (λ_=>I) 1.10 (cX 0 (cY (bV (aa aG ao))))))))
theorem Fq:bx nl2 nl2 (aK sG):=by trivial
theorem Fj{f:Addr}{fd:aai}(F:Fun K "_law_far" "_law_far" sG f fd)(B:Blt mg)(I:jo P w K mg base):cR P w K mg base CX0 2 f fd nl2 (spI ⟨K,mg⟩ ob0 ob0 fP):=
 qI 1 ob0 ob0 F Fq λnd _ _ _ _ _ _ O=>(au (uQ (qN (cb_eq _ (λ_=>rfl) O.units) (eO [0] (λ_=>I) 1.10 (cX 0 (cY (bV (aa aG ao))))) (b_ aG)) (aJ (qQ (tO (ixb (λ_=>aN O)) (Pu (jQ (b_ (cL sH aG aG)) (jQ (b_ (m5 jA (cL sH aG aG))) (jQ (oJ oR (b_ (cL oR (cL sH aG aG) aG)) (eO [0] (λ_=>I) 1.10 (cX 0 (cY (bV (aa aG ao)))))) (bV (aa aG ao)))))) (eO [0] (λ_=>I) 1.10 (cX 0 (cY (bV (aa aG ao)))))))) bN)
  (aJ (qQ (oJ oR (eO [0] (λ_=>I) 1.10 (cX 0 (cY (bV (aa aG ao))))) (b_ aG)))))
theorem Al:bx nl9 nl9 (aK lw):=by trivial
def um:Scope:=sF [(".0",.local),("_law_name",.local),("_law_far",.globalImplicit),("_law_tape_here",.free)]
theorem v7:(Xm:List Str).Nodup:=by decide +kernel
theorem vf:eG (aK lw) nl9 Xm um [none,some 0]:=by trivial
theorem An{f:Addr}{fd:aai}(F:Fun K "_law_marks" "_law_marks" lw f fd)(B:Blt mg)(q:wN P w K mg base):cR P w K mg base CX0 3 f fd nl9 (spI ⟨K,mg⟩ ob0 ob0 fJ):=
 qI 2 ob0 ob0 F Al λnd _ _ _ _ _ _ O=>(aJ (qQ (Eo (Kh (λ_=>rfl)) (λ_=>rfl) (λ_=>B.dict) boot_dict (jQ (Lr [none,some 0] ob0 (λ_=>rfl) (λ_=>rfl) (λ_=>vf) (QR rfl) (jh rfl) (gG 1.21) (Jm 0 (λ_=>v7)) jj (RD (jQ (b_ 1.24) (jQ (eO [1] (λ_=>q) 1.10 (cX 1 (cY (bV ao)))) (bV ao))))) (bV ao)))))
theorem Ew:bx ["thing"] ["thing"] (aK pB):=by trivial
def w6:Scope:=sF [(".0",.local),("sign",.local),("LETTERS",.globalImplicit)]
theorem Aj:(["sign"]:List Str).Nodup:=by decide +kernel
theorem z9:eG (aK pB) ["thing"] ["sign"] w6 [none]:=by trivial
theorem Fp{f:Addr}{fd:aai}(F:Fun K "is_name" "is_name" pB f fd)(B:Blt mg)(q:Glb mg "LETTERS" (.str "abcdefghijklmnopqrstuvwxyz"))(z:Glb mg "LONGEST" (.int 8)):cR P w K mg base CX0 1 f fd ["thing"] (spP ⟨K,mg⟩ iM):=
 qP 0 (λi=>false) F Ew λnd _ _ _ _ _ _ O=>(au (cJ (uN (lr (bf gh (λ_=>rfl) (λ_=>B.isinstance) abl (aa 1.24 (aa (pR (λ_=>rfl) (λ_=>B.str_) boot_str) ao))))) (aJ (cC DG)) bN)
  (au (cJ (Hh (Ge (bL Hr (bf iu (λ_=>rfl) (λ_=>B.len) ab2 (aa 1.24 ao)) aG) (yV (bL Ud (bf iu (λ_=>rfl) (λ_=>B.len) ab2 (aa 1.24 ao)) (LQ z))))) (aJ (cC DG)) bN)
  (aJ (cC (bf (Hz (λ_=>rfl)) (λ_=>rfl) (λ_=>B.all) boot_all (aa (o6 [none] ob0 (λ_=>rfl) (λ_=>rfl) (λ_=>z9) (jh rfl) (Sv 1.24) (fK 0 (λ_=>Aj)) jj (v9 (GF (λ_=>aN O)) 1.24 (Lb q))) ao))))))
theorem Ak:bx Pj Pj (aK nM):=by trivial
theorem Ae{f:Addr}{fd:aai}(F:Fun K "check_new" "check_new" nM f fd)(B:Blt mg)(q:HS P w K mg base):cR P w K mg base CX0 2 f fd Pj (spP ⟨K,mg⟩ fH):=
 qP 1 (λi=>false) F Ak λnd _ _ _ _ _ _ O=>(aJ (cJ (Hh (Ge (uN (lr (dO (λ_=>q) 1.10 (aa 1.21 ao)))) (yV (bL (GF (λ_=>aN O)) 1.21 1.24)))) (aJ jf) bN))
theorem vp:bx ["things","place","thing"] ["things"] (aK lM):=by trivial
theorem vZ{f:Addr}{fd:aai}(F:Fun K "check_names" "check_names" lM f fd)(B:Blt mg)(q:Az P w K mg base):cR P w K mg base CX0 3 f fd ["things"] (spP ⟨K,mg⟩ d9):=
 qP 2 (λi=>false) F vp λnd _ _ _ _ _ _ O=>(aJ (jg (λ_=>aaS) (λ_=>rfl) (Cm (λ_=>rfl) (λ_=>B.enumerate) (aa 1.24 ao)) (lg (λ_=>rfl) (cu (b8 1 nd) (cu (b8 2 nd) jq))) (aJ (nZ (b_ (dO (λ_=>q) 1.10 (aa (j7 slb 1.24 j_ (jV 1.21)) (aa 1.36 (aa 1.21 ao)))))))))
theorem q9:bx nl6 nl6 (aK fB):=by trivial
def oA:Scope:=sF [(".0",.local),("name",.local)]
theorem pO:(["name"]:List Str).Nodup:=by decide +kernel
theorem pQ:eG (aK fB) nl6 ["name"] oA [none]:=by trivial
def n_:Scope:=sF [(".0",.local),("name",.local)]
theorem pM:(["name"]:List Str).Nodup:=by decide +kernel
theorem pN:eG (aK fB) nl6 ["name"] n_ [none]:=by trivial
theorem qL{f:Addr}{fd:aai}(F:Fun K "__init__" "Stack.__init__" fB f fd)(B:Blt mg)(q:xH P w K mg base)(D:Kla K mg "Stack" nl1):cR P w K mg base CX0 4 f fd nl6 (spI ⟨K,mg⟩ ob0 ob0 cD):=
 qI 3 ob0 ob0 F q9 λnd _ _ _ _ _ _ O=>(au (nZ (b_ (dO (λ_=>q) 1.10 (aa 1.21 ao))))
  (au (kO D (b_ 1.36) (bK 0))
  (au (kO D (b_ (BJ [none] ob0 (λ_=>rfl) (λ_=>rfl) (λ_=>pQ) (jh rfl) (gG 1.21) (fK 0 (λ_=>pO)) jj 1.24 aG)) (bK 0))
  (au (kO D (b_ uG) (bK 0))
  (au (kO D (b_ (BJ [none] ob0 (λ_=>rfl) (λ_=>rfl) (λ_=>pN) (jh rfl) (gG 1.21) (fK 0 (λ_=>pM)) jj 1.24 aG)) (bK 0))
  (au (kO D (b_ (je ao)) (bK 0))
  (aJ (kO D (b_ aG) (bK 0)))))))))
theorem xf:bx ["_law_name","_law_joinings","_law_found","_law_one","_law_other","_law_step"] Wr (aK mz):=by trivial
theorem xm{f:Addr}{fd:aai}(F:Fun K "_law_beside" "_law_beside" mz f fd)(B:Blt mg):cR P w K mg base CX0 1 f fd Wr (spP ⟨K,mg⟩ dF):=
 qP 0 (λi=>false) F xf λnd _ _ _ _ _ _ O=>(au (bT 2 nd (je ao))
  (au (jg (λ_=>aaS) (λ_=>rfl) (gG 1.21) (lg (λ_=>rfl) (cu (b8 3 nd) (cu (b8 4 nd) (cu (b8 5 nd) jq)))) (au (cJ (bL (cb_eq _ (λ_=>rfl) O.units) 1.56 1.24) (aJ (gY dI aag aar aas (bK 2) (aa (ie (aa 1.61 (aa (aj false 5) ao))) ao))) bN)
  (aJ (cJ (bL (cb_eq _ (λ_=>rfl) O.units) 1.61 1.24) (aJ (gY dI aag aar aas (bK 2) (aa (ie (aa 1.56 (aa (cL oR aG (aj false 5)) ao))) ao))) bN))))
  (aJ (il 2))))
theorem Dy:bx ["_law_names_here","_law_joinings","_law_found","_law_name","_law_todo","_law_at","_law_other","_law_by"] Vo (aK qb):=by trivial
theorem Cq{f:Addr}{fd:aai}(F:Fun K "_law_walk" "_law_walk" qb f fd)(B:Blt mg)(q:w5 P w K mg base):cR P w K mg base CX0 2 f fd Vo (spP ⟨K,mg⟩ eU):=
 qP 1 (λi=>false) F Dy λnd _ _ _ _ _ _ O=>(au (bT 2 nd uG)
  (au (jg (λ_=>aaS) (λ_=>rfl) (gG (bf (p6 _ (λ_=>rfl) (o7 O)) (λ_=>rfl) (λ_=>B.sorted) adp (aa 1.24 ao))) (b8 3 nd) (aJ (cJ (bL (nH (λ_=>aN O)) 1.56 1.36) (au (mK (ie (aa 1.56 (aa aG ao))) (o8 (pF (λ_=>aN O)) (bK 2) 1.56))
  (au (bT 4 nd (je (aa 1.56 ao)))
  (au (bT 5 nd aG)
  (aJ (sS 1000000 (λ_=>aaS) (uK (bL Hr (aj false 5) (bf iu (λ_=>rfl) (λ_=>B.len) ab2 (aa 1.61 ao)))) (au (jg (λ_=>aaS) (λ_=>rfl) (gG (dO (λ_=>q) 1.10 (aa (cZ (ixb (λ_=>aN O)) 1.61 (aj false 5)) (aa 1.21 ao)))) (lg (λ_=>rfl) (cu (b8 6 nd) (cu (b8 7 nd) jq))) (aJ (cJ (bL (nH (λ_=>aN O)) (aj false 6) 1.36) (au (mK (ie (aa 1.56 (aa (cL ik (cZ (ixb (λ_=>aN O)) (cZ (ixb (λ_=>aN O)) 1.36 (cZ (ixb (λ_=>aN O)) 1.61 (aj false 5))) aG) (aj false 7)) ao))) (o8 (pF (λ_=>aN O)) (bK 2) (aj false 6)))
  (aJ (gY dI aag aar aas (bK 4) (aa (aj false 6) ao)))) bN)))
  (aJ (bT 5 nd (cL ik (aj false 5) aG))))))))) bN)))
  (aJ (il 2))))
theorem vL:bx ["_law_names_here","_law_found","_law_rows","_law_name"] VJ (aK lK):=by trivial
theorem wy{f:Addr}{fd:aai}(F:Fun K "_law_classes" "_law_classes" lK f fd)(B:Blt mg):cR P w K mg base CX0 1 f fd VJ (spP ⟨K,mg⟩ dg):=
 qP 0 (λi=>false) F vL λnd _ _ _ _ _ _ O=>(au (bT 2 nd uG)
  (au (jg (λ_=>aaS) (λ_=>rfl) (gG (bf (p6 _ (λ_=>rfl) (o7 O)) (λ_=>rfl) (λ_=>B.sorted) adp (aa 1.24 ao))) (b8 3 nd) (aJ (Pa 2 (aa (cZ (ixb (λ_=>aN O)) (cZ (ixb (λ_=>aN O)) 1.21 1.56) aG) (aa (je ao) ao)) (aa 1.56 ao))))
  (aJ (JB 2 _ (λ_=>rfl) (o7 O) (λ_=>rfl) (λ_=>B.sorted) (λ_=>B.list_)))))
theorem uo:bx XN nl3 (aK iK):=by trivial
def qx:Scope:=sF [(".0",.local),("name",.local)]
theorem rP:(["name"]:List Str).Nodup:=by decide +kernel
theorem rm:eG (aK iK) XN ["name"] qx [none]:=by trivial
theorem uh{f:Addr}{fd:aai}(F:Fun K "ends_by_name" "ends_by_name" iK f fd)(B:Blt mg):cR P w K mg base CX0 1 f fd nl3 (spP ⟨K,mg⟩ cA):=
 qP 0 (λi=>false) F uo λnd _ _ _ _ _ _ O=>(au (J_ 2 [none] ob0 nd (λ_=>rfl) (λ_=>rfl) (λ_=>rm) (jh rfl) (gG 1.24) (fK 0 (λ_=>rP)) jj 1.24 (je ao))
  (au (jg (λ_=>aaS) (λ_=>rfl) (Cm (λ_=>rfl) (λ_=>B.enumerate) (aa 1.21 ao)) (lg (λ_=>rfl) (cu (b8 3 nd) (cu (lg (λ_=>rfl) (cu (b8 4 nd) (cu (b8 5 nd) (cu (b8 6 nd) jq)))) jq))) (au (gY dI aag aar aas (zz (λ_=>aN O) (bK 2) 1.61) (aa (ie (aa 1.56 (aa aG (aa (aj false 5) ao)))) ao))
  (aJ (gY dI aag aar aas (zz (λ_=>aN O) (bK 2) (aj false 5)) (aa (ie (aa 1.56 (aa (m5 jA aG) (aa 1.61 ao)))) ao)))))
  (aJ (il 2))))
theorem Aq:bx ["leading","start","ways","waiting","name","number","side","end"] Uy (aK nO):=by trivial
theorem zF{f:Addr}{fd:aai}(F:Fun K "ways_from" "ways_from" nO f fd)(B:Blt mg):cR P w K mg base CX0 1 f fd Uy (spP ⟨K,mg⟩ dh):=
 qP 0 (λi=>i==3) F Aq λnd _ _ _ _ _ _ O=>(au (bT 2 nd (Su (Jl 1.21 (ie ao) La)))
  (au (bT 3 nd (je (aa 1.21 ao)))
  (au (sS 1000000 (λ_=>aaS) (uK (lr (aj true 3))) (au (dm 4 nd (Pn Jr aag ae8 ae9 (bK 3) (aa aG ao)))
  (aJ (jg (λ_=>aaS) (λ_=>rfl) (gG (cZ (ixb (λ_=>aN O)) 1.24 1.61)) (lg (λ_=>rfl) (cu (b8 5 nd) (cu (b8 6 nd) (cu (b8 7 nd) jq)))) (aJ (cJ (bL (nH (λ_=>aN O)) (aj false 7) 1.36) (au (mK (cL ik (cZ (ixb (λ_=>aN O)) 1.36 1.61) (ie (aa (ie (aa (aj false 5) (aa (aj false 6) ao))) ao))) (o8 (pF (λ_=>aN O)) (bK 2) (aj false 7)))
  (aJ (gY dI aag aar aas (bK 3) (aa (aj false 7) ao)))) bN))))))
  (aJ (il 2)))))
theorem Kq:bx ["names","joinings","leading","placed","found","name","ways"] nl3 (aK zm):=by trivial
theorem J8{f:Addr}{fd:aai}(F:Fun K "trees" "trees" zm f fd)(B:Blt mg)(Z:nF P w K mg base)(q:ud P w K mg base):cR P w K mg base CX0 2 f fd nl3 (spP ⟨K,mg⟩ gZ):=
 qP 1 (λi=>false) F Kq λnd _ _ _ _ _ _ O=>(au (bT 2 nd (dO (λ_=>Z) 1.10 (aa 1.24 (aa 1.21 ao))))
  (au (bT 3 nd uG)
  (au (bT 4 nd (je ao))
  (au (jg (λ_=>aaS) (λ_=>rfl) (gG (bf (p6 _ (λ_=>rfl) (o7 O)) (λ_=>rfl) (λ_=>B.sorted) adp (aa 1.24 ao))) (b8 5 nd) (aJ (cJ (bL (nH (λ_=>aN O)) (aj false 5) 1.56) (au (bT 6 nd (dO (λ_=>q) 1.10 (aa 1.36 (aa (aj false 5) ao))))
  (au (VM 6 (gY Mt aey PySem.F.slot_dict_update PySem.F.type_dict_update (bK 3) (aa (aj false 6) ao)))
  (aJ (gY dI aag aar aas (bK 4) (aa (aj false 6) ao))))) bN)))
  (aJ (il 4))))))
theorem Fg:bx nl3 nl3 (aK pA):=by trivial
def xg:Scope:=sF [(".0",.local),("ways",.local),("sorted",.globalImplicit)]
theorem Aw:(["ways"]:List Str).Nodup:=by decide +kernel
theorem zT:eG (aK pA) nl3 ["ways"] xg [none]:=by trivial
theorem E_{f:Addr}{fd:aai}(F:Fun K "classes" "classes" pA f fd)(B:Blt mg)(q:QF P w K mg base):cR P w K mg base CX0 3 f fd nl3 (spP ⟨K,mg⟩ gP):=
 qP 2 (λi=>false) F Fg λnd _ _ _ _ _ _ O=>(aJ (cC (o6 [none] ob0 (λ_=>rfl) (λ_=>rfl) (λ_=>zT) (jh rfl) (gG (dO (λ_=>q) 1.10 (aa 1.24 (aa 1.21 ao)))) (fK 0 (λ_=>Aw)) jj (bf (tW _ (λ_=>rfl) (o7 O) (λ_=>rfl)) (λ_=>rfl) (λ_=>B.sorted) adp (aa 1.24 ao)))))
theorem q_:bx nl0 nl0 (aK gU):=by trivial
def nP:Scope:=sF [(".0",.local),("deed",.local),("kept",.local)]
theorem jF:(["deed","kept"]:List Str).Nodup:=by decide +kernel
theorem pL:eG (aK gU) nl0 ["deed","kept"] nP [none,none]:=by trivial
theorem qJ{f:Addr}{fd:aai}(F:Fun K "standing" "Stack.standing" gU f fd)(B:Blt mg)(D:Kla K mg "Stack" nl1):cR P w K mg base CX0 1 f fd nl0 (spP ⟨K,mg⟩ bj):=
 qP 0 (λi=>false) F q_ λnd _ _ _ _ _ _ O=>(aJ (cC (o6 [none,none] (λi=>i==0||i==1) (λ_=>rfl) (λ_=>rfl) (λ_=>pL) (jh rfl) (gG (gB D 1.24)) (Cv (λ_=>rfl) (mW (fK 0 (λ_=>jF)) (mW (fK 1 (λ_=>jF)) xR))) (Dp (bL (cb_eq _ (λ_=>rfl) O.units) (cZ (ixb (λ_=>aN O)) 1.24 aG) jX)) (j7 slb 1.24 (jV aG) j_))))
theorem nT:bx nl0 nl0 (aK ig):=by trivial
theorem oF{f:Addr}{fd:aai}(F:Fun K "all_classes" "Stack.all_classes" ig f fd)(B:Blt mg)(q:IW P w K mg base)(J:lH P w K mg base 1 "Stack" "standing" nl0 (spP ⟨K,mg⟩ bj))(D:Kla K mg "Stack" nl1):cR P w K mg base CX0 4 f fd nl0 (spP ⟨K,mg⟩ bJ):=
 qP 3 (λi=>false) F nT λnd _ _ _ _ _ _ O=>(aJ (cC (dO (λ_=>q) 1.10 (aa (oZ (yw (λ_=>rfl)) (λ_=>rfl) (λ_=>B.list_) adW (aa (gB D 1.24) ao)) (aa (oH (λ_=>J) 1.10 1.24) ao)))))
theorem ul:bx ["self","hung","head","gap"] ["self","hung"] (aK km):=by trivial
theorem ux{f:Addr}{fd:aai}(F:Fun K "unhang" "Stack.unhang" km f fd)(B:Blt mg)(D:Kla K mg "Stack" nl1):cR P w K mg base CX0 1 f fd ["self","hung"] (spI ⟨K,mg⟩ ob0 ob0 dM):=
 qI 0 ob0 ob0 F ul λnd _ _ _ _ _ _ O=>(au (mK (cZ (ixb (λ_=>aN O)) (gB D (aj true 0)) 1.21) (lg (λ_=>rfl) (cu (b8 2 nd) (cu (b8 3 nd) jq))))
  (au (Br (λ_=>Ww) Wt (λ_=>aN O) (pC D (bK 0)) 1.36 (cZ (ixb (λ_=>aN O)) (gB D (aj true 0)) 1.21))
  (aJ (Qq (pC D (bK 0)) 1.21))))
theorem xj:bx ["self","deed","kept"] nl0 (aK mZ):=by trivial
theorem xn{f:Addr}{fd:aai}(F:Fun K "back" "Stack.back" mZ f fd)(B:Blt mg)(q:lH P w K mg base 1 "Stack" "unhang" ["self","hung"] (spI ⟨K,mg⟩ ob0 ob0 dM))(D:Kla K mg "Stack" nl1):cR P w K mg base CX0 2 f fd nl0 (spI ⟨K,mg⟩ ob0 ob0 dH):=
 qI 1 ob0 ob0 F xj λnd _ _ _ _ _ _ O=>(au (cJ (bL (cb_eq _ (λ_=>rfl) O.units) (bf iu (λ_=>rfl) (λ_=>B.len) ab2 (aa (gB D (aj true 0)) ao)) aG) (aJ (cC nG)) bN)
  (au (JQ (K5 QW aag ae8 ae9 (pC D (bK 0))) (lg (λ_=>rfl) (cu (b8 1 nd) (cu (b8 2 nd) jq))))
  (au (cJ (bL (cb_eq _ (λ_=>rfl) O.units) (cZ (ixb (λ_=>aN O)) 1.21 aG) jX) (aJ jf) (aJ (cJ (bL Bm 1.36 nG) (aJ (nZ (qR 0 (λ_=>q) 1.10 (bV (aa 1.36 ao))))) bN)))
  (aJ (il 1)))))
theorem vI:bx ["_law_tape_here","_law_names_here","_law_marks_here","_law_turn_here","_law_one","_law_other","_law_step"] Uz (aK lG):=by trivial
theorem wG{f:Addr}{fd:aai}(F:Fun K "_law_joining" "_law_joining" lG f fd)(B:Blt mg)(I:jo P w K mg base)(q:wN P w K mg base):cR P w K mg base CX0 3 f fd Uz (spI ⟨K,mg⟩ ob0 ob0 d_):=
 qI 2 ob0 ob0 F vI λnd _ _ _ _ _ _ O=>(au (dm 4 nd (tO (ixb (λ_=>aN O)) (b_ 1.21) (eO [0] (λ_=>I) 1.10 (cX 0 (cY (bV (aa (bf iu (λ_=>rfl) (λ_=>B.len) ab2 (aa 1.21 ao)) ao)))))))
  (au (dm 5 nd (tO (ixb (λ_=>aN O)) (b_ 1.21) (eO [0] (λ_=>I) 1.10 (cX 0 (cY (bV (aa (bf iu (λ_=>rfl) (λ_=>B.len) ab2 (aa 1.21 ao)) ao)))))))
  (au (dm 6 nd (oJ ik (b_ (cL oR (cZ (ixb (λ_=>aN O)) 1.36 (aj false 5)) (cZ (ixb (λ_=>aN O)) 1.36 1.61))) (oJ sO (b_ 1.56) (oJ oR (eO [0] (λ_=>I) 1.10 (cX 0 (cY (bV (aa aG ao))))) (b_ aG)))))
  (au (uQ (qN (cb_eq _ (λ_=>rfl) O.units) (eO [0] (λ_=>I) 1.10 (cX 0 (cY (bV (aa aG ao))))) (b_ aG)) (aJ (dm 6 nd (oJ ik (b_ (aj false 6)) (eO [0] (λ_=>q) 1.10 (cX 0 (cY (bV ao))))))) bN)
  (aJ (cC (ie (aa 1.61 (aa (aj false 5) (aa (bf (KR (λ_=>rfl)) (λ_=>rfl) (λ_=>B.max) boot_max (aa (m5 jA (cL sH aG aG)) (aa (bf (Cu (λ_=>rfl)) (λ_=>rfl) (λ_=>B.min) boot_min (aa (cL sH aG aG) (aa (aj false 6) ao))) ao))) ao))))))))))
theorem vW:bx Qt Qt (aK lC):=by trivial
theorem vK{f:Addr}{fd:aai}(F:Fun K "check_there" "check_there" lC f fd)(B:Blt mg):cR P w K mg base CX0 1 f fd Qt (spP ⟨K,mg⟩ cg):=
 qP 0 (λi=>false) F vW λnd _ _ _ _ _ _ O=>(aJ (cJ (bL (nH (λ_=>aN O)) 1.21 1.24) (aJ jf) bN))
theorem wX:bx Rv Rv (aK mR):=by trivial
theorem xq{f:Addr}{fd:aai}(F:Fun K "class_with" "class_with" mR f fd)(B:Blt mg)(q:ud P w K mg base)(Z:nF P w K mg base):cR P w K mg base CX0 2 f fd Rv (spP ⟨K,mg⟩ e_):=
 qP 1 (λi=>false) F wX λnd _ _ _ _ _ _ O=>(aJ (cC (bf (tW _ (λ_=>rfl) (o7 O) (λ_=>rfl)) (λ_=>rfl) (λ_=>B.sorted) adp (aa (dO (λ_=>q) 1.10 (aa (dO (λ_=>Z) 1.10 (aa 1.24 (aa 1.21 ao))) (aa 1.36 ao))) ao))))
theorem rR:bx nl5 nl5 (aK jb):=by trivial
theorem rQ{f:Addr}{fd:aai}(F:Fun K "class_of" "Stack.class_of" jb f fd)(B:Blt mg)(U:lA P w K mg base)(q:yR P w K mg base)(J:lH P w K mg base 1 "Stack" "standing" nl0 (spP ⟨K,mg⟩ bj))(D:Kla K mg "Stack" nl1):cR P w K mg base CX0 3 f fd nl5 (spP ⟨K,mg⟩ cF):=
 qP 2 (λi=>false) F rR λnd _ _ _ _ _ _ O=>(au (nZ (b_ (dO (λ_=>U) 1.10 (aa (gB D 1.24) (aa 1.21 ao)))))
  (aJ (cC (dO (λ_=>q) 1.10 (aa (oZ (yw (λ_=>rfl)) (λ_=>rfl) (λ_=>B.list_) adW (aa (gB D 1.24) ao)) (aa (oH (λ_=>J) 1.10 1.24) (aa 1.21 ao)))))))
theorem Dq:bx nl4 nl4 (aK mX):=by trivial
def wg:Scope:=sF [(".0",.local),("_law_one",.local),("_law_other",.local),("_law_same",.globalImplicit)]
theorem pX:(["_law_one","_law_other"]:List Str).Nodup:=by decide +kernel
theorem xG:eG (aK mX) nl4 ["_law_one","_law_other"] wg [none,none]:=by trivial
theorem ou{f:Addr}{fd:aai}{n:Nat}{Frec:List D->Option D}(F:Fun K "_law_same" "_law_same" mX f fd)(B:Blt mg)(z:Cal P w K mg base (0+n) "_law_same" nl4 (spP ⟨K,mg⟩ Frec)):cR P w K mg base CX0 (0+n+1) f fd nl4 (spP ⟨K,mg⟩ (bc Frec)):=
 qP (0+n) (λi=>false) F Dq λnd _ _ _ _ _ _ O=>(au (cJ (bL JV 1.21 nG) (aJ jf) bN)
  (au (cJ (lr (bf gh (λ_=>rfl) (λ_=>B.isinstance) abl (aa 1.21 (aa (pR (λ_=>rfl) (λ_=>B.bool_) boot_bool) ao)))) (aJ jf) bN)
  (au (cJ (lr (bf gh (λ_=>rfl) (λ_=>B.isinstance) abl (aa 1.21 (aa (ie (aa (pR (λ_=>rfl) (λ_=>B.list_) adW) (aa (pR (λ_=>rfl) (λ_=>B.tuple) afn) ao))) ao)))) (au (cJ (Hh (Ge (bL (DQ _ (λ_=>rfl) O.units) (bf gh (λ_=>rfl) (λ_=>B.isinstance) abl (aa 1.24 (aa (pR (λ_=>rfl) (λ_=>B.list_) adW) ao))) (bf gh (λ_=>rfl) (λ_=>B.isinstance) abl (aa 1.21 (aa (pR (λ_=>rfl) (λ_=>B.list_) adW) ao)))) (yV (bL (DQ _ (λ_=>rfl) O.units) (bf gh (λ_=>rfl) (λ_=>B.isinstance) abl (aa 1.24 (aa (pR (λ_=>rfl) (λ_=>B.tuple) afn) ao))) (bf gh (λ_=>rfl) (λ_=>B.isinstance) abl (aa 1.21 (aa (pR (λ_=>rfl) (λ_=>B.tuple) afn) ao))))))) (aJ jf) bN)
  (aJ (cC (M8 (v9 (cb_eq _ (λ_=>rfl) O.units) (bf iu (λ_=>rfl) (λ_=>B.len) ab2 (aa 1.24 ao)) (bf iu (λ_=>rfl) (λ_=>B.len) ab2 (aa 1.21 ao))) (Lh (bf (Hz (λ_=>rfl)) (λ_=>rfl) (λ_=>B.all) boot_all (aa (o6 [none,none] (λi=>i==0||i==1) (λ_=>rfl) (λ_=>rfl) (λ_=>xG) (jh rfl) (Py (λ_=>rfl) (λ_=>B.zip) (aa 1.24 (aa 1.21 ao))) (Cv (λ_=>rfl) (mW (fK 0 (λ_=>pX)) (mW (fK 1 (λ_=>pX)) xR))) jj (dO (λ_=>z) (λ_=>O.mono 1.11) (aa 1.24 (aa 1.21 ao)))) ao))))))) bN)
  (au (cJ (lr (bf gh (λ_=>rfl) (λ_=>B.isinstance) abl (aa 1.21 (aa (pR (λ_=>rfl) (λ_=>B.str_) boot_str) ao)))) (aJ (cC (M8 (bf gh (λ_=>rfl) (λ_=>B.isinstance) abl (aa 1.24 (aa (pR (λ_=>rfl) (λ_=>B.str_) boot_str) ao))) (Lh (v9 (cb_eq _ (λ_=>rfl) O.units) 1.24 1.21))))) bN)
  (aJ jf)))))
theorem F_:bx R7 R7 (aK tQ):=by trivial
theorem FT{f:Addr}{fd:aai}(F:Fun K "counted" "counted" tQ f fd)(B:Blt mg):cR P w K mg base CX0 1 f fd R7 (spP ⟨K,mg⟩ dY):=
 qP 0 (λi=>false) F F_ λnd _ _ _ _ _ _ O=>(au (cJ (bL (cb_eq _ (λ_=>rfl) O.units) 1.24 aG) (aJ (il 1)) bN)
  (aJ (cC (cL n6 1.21 1.24))))
theorem vP:bx ["self","name","chain"] nl5 (aK lJ):=by trivial
theorem wI{f:Addr}{fd:aai}(F:Fun K "chain" "Stack.chain" lJ f fd)(B:Blt mg)(U:lA P w K mg base)(D:Kla K mg "Stack" nl1):cR P w K mg base CX0 2 f fd nl5 (spP ⟨K,mg⟩ bI):=
 qP 1 (λi=>false) F vP λnd _ _ _ _ _ _ O=>(au (nZ (b_ (dO (λ_=>U) 1.10 (aa (gB D 1.24) (aa 1.21 ao)))))
  (au (bT 2 nd (je (aa 1.21 ao)))
  (au (sS 1000000 (λ_=>aaS) (uK (bL (GF (λ_=>aN O)) (cZ (ixb (λ_=>aN O)) 1.36 (m5 jA aG)) (gB D 1.24))) (aJ (gY dI aag aar aas (bK 2) (aa (cZ (ixb (λ_=>aN O)) (cZ (ixb (λ_=>aN O)) (gB D 1.24) (cZ (ixb (λ_=>aN O)) 1.36 (m5 jA aG))) aG) ao))))
  (aJ (il 2)))))
theorem uq:bx nl7 nl7 (aK iJ):=by trivial
def p8:Scope:=sF [(".0",.local),("name",.local),("self",.free)]
theorem qW:(["name","self"]:List Str).Nodup:=by decide +kernel
theorem qM:eG (aK iJ) nl7 ["name","self"] p8 [none,some 0]:=by trivial
theorem uz{f:Addr}{fd:aai}(F:Fun K "offset" "Stack.offset" iJ f fd)(B:Blt mg)(D:Kla K mg "Stack" nl1):cR P w K mg base CX0 1 f fd nl7 (spP ⟨K,mg⟩ bF):=
 qP 0 (λi=>false) F uq λnd _ _ _ _ _ _ O=>(aJ (cC (bf (P0 (λ_=>rfl)) (λ_=>rfl) (λ_=>B.sum) boot_sum (aa (o6 [none,some 0] ob0 (λ_=>rfl) (λ_=>rfl) (λ_=>qM) (jh rfl) (gG (j7 slb 1.21 j_ (jV (m5 jA aG)))) (fK 0 (λ_=>qW)) jj (cZ (ixb (λ_=>aN O)) (cZ (ixb (λ_=>aN O)) (gB D 1.21) 1.24) aG)) ao))))
theorem vQ:bx ["self","one","other","here","there"] Wo (aK lL):=by trivial
theorem vq{f:Addr}{fd:aai}(F:Fun K "steps" "Stack.steps" lL f fd)(B:Blt mg)(U:lA P w K mg base)(q:yL P w K mg base)(Y:lH P w K mg base 2 "Stack" "chain" nl5 (spP ⟨K,mg⟩ bI))(V:lH P w K mg base 1 "Stack" "offset" nl7 (spP ⟨K,mg⟩ bF))(D:Kla K mg "Stack" nl1):cR P w K mg base CX0 3 f fd Wo (spI ⟨K,mg⟩ ob0 ob0 d8):=
 qI 2 ob0 ob0 F vQ λnd _ _ _ _ _ _ O=>(au (nZ (b_ (dO (λ_=>U) 1.10 (aa (gB D (aj true 0)) (aa 1.21 ao)))))
  (au (nZ (b_ (dO (λ_=>U) 1.10 (aa (gB D (aj true 0)) (aa 1.36 ao)))))
  (au (cJ (bL (cb_eq _ (λ_=>rfl) O.units) 1.21 1.36) (au (kO D (b_ aG) (bK 0))
  (aJ (cC aG))) bN)
  (au (Ac 3 4 (λ_=>rfl) nd (aa (jM (λ_=>Y) 1.10 (aj true 0) (aa 1.21 ao)) (aa (jM (λ_=>Y) 1.10 (aj true 0) (aa 1.36 ao)) ao)))
  (au (kO D (b_ (Fz (λ_=>rfl) (λ_=>B.len) (λ_=>B.set_) (aa (cL ik 1.56 1.61) ao))) (bK 0))
  (au (cJ (bL (DQ _ (λ_=>rfl) O.units) (cZ (ixb (λ_=>aN O)) 1.56 (m5 jA aG)) (cZ (ixb (λ_=>aN O)) 1.61 (m5 jA aG))) (aJ (cC nG)) bN)
  (aJ (cC (dO (λ_=>q) 1.10 (aa (gB D (aj true 0)) (aa (cL oR (jM (λ_=>V) 1.10 (aj true 0) (aa 1.61 ao)) (jM (λ_=>V) 1.10 (aj true 0) (aa 1.56 ao))) ao)))))))))))
theorem xr:bx ["self","one","other","step","here","there","gap","head","hung"] nl8 (aK mC):=by trivial
theorem wY{f:Addr}{fd:aai}(F:Fun K "hang" "Stack.hang" mC f fd)(B:Blt mg)(Y:lH P w K mg base 2 "Stack" "chain" nl5 (spP ⟨K,mg⟩ bI))(V:lH P w K mg base 1 "Stack" "offset" nl7 (spP ⟨K,mg⟩ bF))(D:Kla K mg "Stack" nl1):cR P w K mg base CX0 3 f fd nl8 (spI ⟨K,mg⟩ ob0 ob0 eV):=
 qI 2 ob0 ob0 F xr λnd _ _ _ _ _ _ O=>(au (Ac 4 5 (λ_=>rfl) nd (aa (jM (λ_=>Y) 1.10 (aj true 0) (aa 1.21 ao)) (aa (jM (λ_=>Y) 1.10 (aj true 0) (aa 1.36 ao)) ao)))
  (au (bT 6 nd (cL oR (cL ik (jM (λ_=>V) 1.10 (aj true 0) (aa 1.61 ao)) 1.56) (jM (λ_=>V) 1.10 (aj true 0) (aa (aj false 5) ao))))
  (au (Ac 7 8 (λ_=>rfl) nd (aa (cZ (ixb (λ_=>aN O)) 1.61 (m5 jA aG)) (aa (cZ (ixb (λ_=>aN O)) (aj false 5) (m5 jA aG)) ao)))
  (au (cJ (bL Hr (cZ (ixb (λ_=>aN O)) (gB D (aj true 0)) (aj false 7)) (cZ (ixb (λ_=>aN O)) (gB D (aj true 0)) (aj false 8))) (aJ (Ku 7 8 6 (λ_=>rfl) nd (aa (aj false 8) (aa (aj false 7) (aa (m5 jA (aj false 6)) ao))))) bN)
  (au (mK (ie (aa (aj false 7) (aa (aj false 6) ao))) (o8 (pF (λ_=>aN O)) (pC D (bK 0)) (aj false 8)))
  (au (Br (λ_=>Wx) Wq (λ_=>aN O) (pC D (bK 0)) (aj false 7) (cZ (ixb (λ_=>aN O)) (gB D (aj true 0)) (aj false 8)))
  (aJ (il 8))))))))
theorem xu:bx ["self","one","other","step","known","n","hung"] nl8 (aK mq):=by trivial
theorem xO{f:Addr}{fd:aai}(F:Fun K "join" "Stack.join" mq f fd)(B:Blt mg)(z:lH P w K mg base 3 "Stack" "steps" Wo (spI ⟨K,mg⟩ ob0 ob0 d8))(J:lH P w K mg base 1 "Stack" "standing" nl0 (spP ⟨K,mg⟩ bj))(I:lH P w K mg base 3 "Stack" "hang" nl8 (spI ⟨K,mg⟩ ob0 ob0 eV))(q:yL P w K mg base)(D:Kla K mg "Stack" nl1):cR P w K mg base CX0 4 f fd nl8 (spI ⟨K,mg⟩ ob0 ob0 eX):=
 qI 3 ob0 ob0 F xu λnd _ _ _ _ _ _ O=>(au (dm 4 nd (qR 0 (λ_=>z) 1.10 (bV (aa 1.21 (aa 1.36 ao)))))
  (au (cJ (Hh (Ri (bL Bm 1.61 nG) (K6 (bL (DQ _ (λ_=>rfl) O.units) 1.61 (dO (λ_=>q) 1.10 (aa (gB D (aj true 0)) (aa 1.56 ao))))))) (aJ (cC (ie (aa jX (aa 1.61 ao))))) bN)
  (au (bT 5 nd (bf iu (λ_=>rfl) (λ_=>B.len) ab2 (aa (oH (λ_=>J) 1.10 (aj true 0)) ao)))
  (au (dm 6 nd (Rp (uK (bL JV 1.61 nG)) (qR 0 (λ_=>I) 1.10 (bV (aa 1.21 (aa 1.36 (aa 1.56 ao))))) (b_ nG)))
  (au (gY dI aag aar aas (pC D (bK 0)) (aa (ie (aa (ie (aa jX (aa 1.21 (aa 1.36 (aa 1.56 ao))))) (aa (aj false 6) ao))) ao))
  (aJ (cC (ie (aa (UL (bL JV 1.61 nG) jX jX) (aa (aj false 5) ao))))))))))
theorem Uu:bx YC QD (aK Hd):=by trivial
def HW:Scope:=sF [(".0",.local),("_law_row",.local),("_law_name",.free)]
theorem N_:(["_law_row","_law_name"]:List Str).Nodup:=by decide +kernel
theorem Oi:eG (aK Hd) YC ["_law_row","_law_name"] HW [none,some 13]:=by trivial
theorem Wb{f:Addr}{fd:aai}(F:Fun K "law" "law" Hd f fd)(B:Blt mg)(Y:CG P w K mg base)(a2:Ab P w K mg base)(a4:Bl P w K mg base)(a1:zA P w K mg base)(D:KMk P w K mg base 4 "Stack" nl6 (spI ⟨K,mg⟩ ob0 ob0 cD))(a3:De P w K mg base)(U:vD P w K mg base)(q:lH P w K mg base 4 "Stack" "all_classes" nl0 (spP ⟨K,mg⟩ bJ))(I:jo P w K mg base)(Z:lH P w K mg base 2 "Stack" "back" nl0 (spI ⟨K,mg⟩ ob0 ob0 dH))(V:wR P w K mg base)(J:lH P w K mg base 3 "Stack" "class_of" nl5 (spP ⟨K,mg⟩ cF))(z:CT P w K mg base)(a0:lH P w K mg base 4 "Stack" "join" nl8 (spI ⟨K,mg⟩ ob0 ob0 eX)):cR P w K mg base CX0 6 f fd QD (spP ⟨K,mg⟩ mL):=
 qP 5 (λi=>i==1||i==5) F Uu λnd _ _ _ _ _ _ O=>(au (bT 1 nd (dO (λ_=>Y) 1.10 (aa 1.24 (aa aG ao))))
  (au (dm 2 nd (eO [1] (λ_=>a2) 1.10 (cX 1 (cY (bV ao)))))
  (au (dm 3 nd (eO [1] (λ_=>a4) 1.10 (cX 1 (cY (bV ao)))))
  (au (dm 4 nd (eO [1] (λ_=>a1) 1.10 (cX 1 (cY (bV (aa 1.36 ao))))))
  (au (bT 5 nd (Q0 (λ_=>D) () 1.10 (aa (oZ Im (λ_=>rfl) (λ_=>B.tuple) afn (aa 1.36 ao)) (aa 1.56 ao))))
  (au (bT 6 nd (je ao))
  (au (cJ (bL (cb_eq _ (λ_=>rfl) O.units) 1.36 (je ao)) (aJ (cC (v9 (cb_eq _ (λ_=>rfl) O.units) (oH (λ_=>q) 1.10 (aj true 5)) (je ao)))) bN)
  (au (jg (λ_=>aaS) (λ_=>rfl) (Mf (λ_=>rfl) (λ_=>B.range) (aa (cL ik aG (bf (Cu (λ_=>rfl)) (λ_=>rfl) (λ_=>B.min) boot_min (aa aG (aa (bf iu (λ_=>rfl) (λ_=>B.len) ab2 (aa 1.24 ao)) ao)))) ao)) (b8 7 nd) (au (bT 1 nd (dO (λ_=>Y) 1.10 (aa 1.24 (aa (cL ik (aj false 7) aG) ao))))
  (au (uQ (qN (cb_eq _ (λ_=>rfl) O.units) (eO [1] (λ_=>I) 1.10 (cX 1 (cY (bV (aa aG ao))))) (b_ aG)) (au (nZ (Jj 5 (λ_=>Z) 1.10))
  (aJ (bT 6 nd (j7 slb (aj false 6) j_ (jV (m5 jA aG)))))) (au (dm 8 nd (eO [1] (λ_=>V) 1.10 (cX 1 (cY (bV (aa 1.36 (aa 1.61 (aa 1.56 ao))))))))
  (aJ (uQ (qN (DQ _ (λ_=>rfl) O.units) (tO (ixb (λ_=>aN O)) (qR 5 (λ_=>a0) 1.10 (bV (aa (cZ (ixb (λ_=>aN O)) (aj false 8) aG) (aa (cZ (ixb (λ_=>aN O)) (aj false 8) aG) (aa (cZ (ixb (λ_=>aN O)) (aj false 8) aG) ao))))) (b_ aG)) (b_ jX)) (aJ (gY dI aag aar aas (bK 6) (aa (aj false 8) ao))) bN))))
  (au (bT 9 nd (dO (λ_=>a3) 1.10 (aa 1.36 (aa (aj false 6) ao))))
  (au (bT 10 nd (dO (λ_=>U) 1.10 (aa 1.36 (aa (aj false 9) ao))))
  (aJ (jg (λ_=>aaS) (λ_=>rfl) (Mf (λ_=>rfl) (λ_=>B.range) (aa aG ao)) (b8 11 nd) (au (bT 12 nd (oH (λ_=>q) 1.10 (aj true 5)))
  (au (cJ (uN (lr (dO (λ_=>z) 1.10 (aa (aj false 12) (aa (aj false 10) ao))))) (aJ (cC DG)) bN)
  (au (gY dI aag aar aas (zz (λ_=>aN O) (bK 12) aG) (aa jX ao))
  (au (MT Bv aag PySem.F.slot_list_reverse PySem.F.type_list_reverse (bK 12))
  (au (dm 13 nd (tO (ixb (λ_=>aN O)) (b_ 1.36) (eO [1] (λ_=>I) 1.10 (cX 1 (cY (bV (aa (bf iu (λ_=>rfl) (λ_=>B.len) ab2 (aa 1.36 ao)) ao)))))))
  (au (bT 14 nd (jM (λ_=>J) 1.10 (aj true 5) (aa (aj false 13) ao)))
  (au (cJ (uN (lr (dO (λ_=>z) 1.10 (aa (aj false 14) (aa (cZ (ixb (λ_=>aN O)) (o6 [none,some 13] ob0 (λ_=>rfl) (λ_=>rfl) (λ_=>Oi) (jh rfl) (gG (aj false 10)) (fK 0 (λ_=>N_)) (Dp (bL (GF (λ_=>aN O)) 1.21 1.24)) 1.24) aG) ao))))) (aJ (cC DG)) bN)
  (aJ (gY dI aag aar aas (bK 14) (aa jX ao)))))))))))))))))
  (aJ (cC DG))))))))))
end
section
variable{K:Frag}{x m qual c:Str}{st:Stmt}{f C:Addr}{oc:Value}{od an:Option Addr}{osl:Array (Option Value)}{kV doc pm cdv ct:Value}{fl:List Str}
structure Tp(K:Frag)(x:Str)(st:Stmt):Prop where
 ex:∃f fd,nsIn K aaI x=some (some (.ref f))/\Fun K x x st f fd
theorem tp_mk(a:nsIn K aaI x=some (some (.ref f)))(l:K.lookup f=some ⟨oc,od,.func (fnOf x x (jH st) (gJ st) (aK st) .none kV doc pm an cdv ct),osl⟩)(c:codeIn K cdv x=true)(k:keepIn K (.ref f)=true):Tp K x st:=⟨f,_,a,OJ l c k⟩
structure Mp(K:Frag)(C:Addr)(m qual:Str)(st:Stmt):Prop where
 ex:∃f fd,aaK K (.ref C) m=some (some (.ref f))/\adF K (.ref f)=true/\Fun K m qual st f fd
theorem mp_mk(a:aaK K (.ref C) m=some (some (.ref f)))(i:adF K (.ref f)=true)(l:K.lookup f=some ⟨oc,od,.func (fnOf m qual (jH st) (gJ st) (aK st) .none kV doc pm an cdv ct),osl⟩)(c:codeIn K cdv qual=true)(k:keepIn K (.ref f)=true):Mp K C m qual st:=⟨f,_,a,i,OJ l c k⟩
structure Cp(K:Frag)(C:Addr)(c:Str)(fl:List Str):Prop where
 a:nsIn K aaI c=some (some (.ref C))
 c:Cls K C
 m:adG K C=true
 k:keepIn K (.ref C)=true
 n:∀f∈fl,aaK K (.ref C) f=some none
theorem cp_mk(a:nsIn K aaI c=some (some (.ref C)))(h1:acJ K C Str.empty=true)(h2:ade K C=true)(Z:ad6 K C=true)(V:aaK K (.ref C) "__setattr__"=some (some (.builtin "object.__setattr__")))(m:adG K C=true)(k:keepIn K (.ref C)=true)(n:∀f∈fl,aaK K (.ref C) f=some none):Cp K C c fl:=⟨a,⟨h1,h2,Z,V⟩,m,k,n⟩
theorem al_nil{P:Str->Prop}:∀x∈([]:List Str),P x:=λ_ h=>by cases h
theorem al_cons{P:Str->Prop}{a:Str}{l:List Str}(h:P a)(t:∀x∈l,P x):∀x∈a::l,P x:=List.forall_mem_cons.mpr ⟨h,t⟩
end
section
variable(P:Program)(w:World){K:Frag}{mg:Str->Option Value}(base:Heap){h:Heap}(Xi:K.In h)(Gi:h.Ns mainGlobals mg){x m qual c:Str}{st:Stmt}{C:Addr}{fl ps:List Str}{k:Nat}{sp:Sp}
include Xi Gi
theorem YF(t:Tp K x st)(ok:∀{f fd},Fun K x x st f fd->cR P w K mg base CX0 k f fd ps sp)(U:∀(kV doc pm:Value)(an:Option Addr)(cdv ct:Value)(us:List Value),us.length=ps.length->afa (fnOf x x (jH st) (gJ st) (aK st) .none kV doc pm an cdv ct) ⟨us,[]⟩=pure (ps.zip us)):Cal P w K mg base k x ps sp:=
 let⟨f,fd,a,F⟩:=t.ex;⟨f,fd,ok F,mg_of Xi Gi a,F.kp,F.binds U⟩
theorem YH(p:Cp K C c fl)(t:Mp K C m qual st)(ok:∀{f fd},Fun K m qual st f fd->cR P w K mg base CX0 k f fd ps sp)(U:∀(kV doc pm:Value)(an:Option Addr)(cdv ct:Value)(us:List Value),us.length=ps.length->afa (fnOf m qual (jH st) (gJ st) (aK st) .none kV doc pm an cdv ct) ⟨us,[]⟩=pure (ps.zip us)):lH P w K mg base k c m ps sp:=
 let⟨f,fd,a,i,F⟩:=t.ex;⟨C,f,fd,mg_of Xi Gi p.a,p.c,⟨a,i,F.kp⟩,ok F,F.binds U⟩
theorem YS(p:Cp K C c fl)(t:Mp K C "__init__" qual st)(ok:∀{f fd},Fun K "__init__" qual st f fd->cR P w K mg base CX0 k f fd ps sp)(U:∀(kV doc pm:Value)(an:Option Addr)(cdv ct:Value)(us:List Value),us.length=ps.length->afa (fnOf "__init__" qual (jH st) (gJ st) (aK st) .none kV doc pm an cdv ct) ⟨us,[]⟩=pure (ps.zip us)):KMk P w K mg base k c ps sp:=
 let⟨f,fd,a,i,F⟩:=t.ex;⟨C,f,fd,mg_of Xi Gi p.a,⟨p.m,a,i,p.k⟩,ok F,F.binds U⟩
theorem Cp.kla(p:Cp K C c fl):Kla K mg c fl:=⟨C,mg_of Xi Gi p.a,p.c,p.n⟩
end
theorem iZ{K:Frag}(X:K.In h)(G:h.Ns aaI mg)(z:∀x∈l,nsIn K aaI x=some none)(J:l.contains x=true):mg x=none:=mg_none_of X G (z x (List.contains_iff_mem.mp J))
theorem Dc:∀ns:List Int,aF G H W (ns.map D.int) (ns.map V.int) []
 |[]=>.nil
 |x::r=>aF.cons (M:=[]) (M':=[]) di (Dc r)
theorem Uh{K:Frag}{ns:List Int}{Q:VK}{E:XK}(O:ns.length<=63)(B:SqL K H a (ns.map V.int))(q:∀H',Q (.bl true) H'):spP ⟨K,mg⟩ mL [.ref a] H Q E:=by
 refine⟨[.lst .scr (ns.map D.int)],λ_=>False,?_,?_,?_,λ_ z=>z.elim,.bl true,Oh ns O,λv H' L s r I nd c=>?_⟩
 .refine aF.one (M:=[]) ?_
  rw[Rep];refine⟨a,_,[],rfl,Dc ns,?_,rfl,rfl⟩;rcases B with z|z
  .exact .inl ⟨z,⟨λz=>z,λz=>z,λz=>z⟩⟩
  .exact .inr ⟨_,rfl,z⟩
 .simp[az,aC,bH (ds:=ns.map D.int) (by simp[aC])]
 .simp[aA,aB,bC (ds:=ns.map D.int) (by simp[aB])]
 .rw[(vm r).1];exact q H'
variable{P:List Value->Prop}
theorem un1(h:∀q,P [q]):∀us:List Value,us.length=1->P us
 |[q],_=>h q
theorem un2(h:∀q B,P [q,B]):∀us:List Value,us.length=2->P us
 |[q,B],_=>h q B
theorem un3(h:∀q B V,P [q,B,V]):∀us:List Value,us.length=3->P us
 |[q,B,V],_=>h q B V
theorem un4(h:∀q B V I,P [q,B,V,I]):∀us:List Value,us.length=4->P us
 |[q,B,V,I],_=>h q B V I
def Nz(K:Frag):Sp:=λvs H Q _=>∃(a:Addr)(ns:List Int),vs=[.ref a]/\SqL K H a (ns.map V.int)/\ns.length<=63/\∀H',Q (.bl true) H'
variable{l:aeD}
theorem all_mk{K:Frag}{fa C1:Addr}{f5 d4:Tok}(X:K.In h)(G:h.Ns aaI mg)(d8:mg "law"=some (.ref fa))
  (p1:Cp K C1 "Stack" nl1)
  (t1:Tp K "_law_tape" qD)
  (t2:Tp K "_law_draw" qg)
  (t3:Tp K "_law_names" nW)
  (t4:Tp K "_law_turn" qF)
  (t5:Tp K "_law_far" sG)
  (t6:Tp K "_law_marks" lw)
  (t7:Tp K "is_name" pB)
  (t8:Tp K "check_new" nM)
  (t9:Tp K "check_names" lM)
  (f1:Mp K C1 "__init__" "Stack.__init__" fB)
  (f3:Tp K "_law_beside" mz)
  (f6:Tp K "_law_walk" qb)
  (e7:Tp K "_law_classes" lK)
  (e1:Tp K "ends_by_name" iK)
  (f0:Tp K "ways_from" nO)
  (e8:Tp K "trees" zm)
  (d7:Tp K "classes" pA)
  (f7:Mp K C1 "standing" "Stack.standing" gU)
  (e9:Mp K C1 "all_classes" "Stack.all_classes" ig)
  (e2:Mp K C1 "unhang" "Stack.unhang" km)
  (e4:Mp K C1 "back" "Stack.back" mZ)
  (d5:Tp K "_law_joining" lG)
  (e6:Tp K "check_there" lC)
  (d2:Tp K "class_with" mR)
  (f4:Mp K C1 "class_of" "Stack.class_of" jb)
  (d1:Tp K "_law_same" mX)
  (d3:Tp K "counted" tQ)
  (d6:Mp K C1 "chain" "Stack.chain" lJ)
  (e0:Mp K C1 "offset" "Stack.offset" iJ)
  (d9:Mp K C1 "steps" "Stack.steps" lL)
  (e3:Mp K C1 "hang" "Stack.hang" mC)
  (f2:Mp K C1 "join" "Stack.join" mq)
  (e5:Tp K "law" Hd)
  (g1:nsIn K aaI "LETTERS"=some (some (.str "abcdefghijklmnopqrstuvwxyz" f5)))
  (g2:nsIn K aaI "LONGEST"=some (some (.int 8 d4)))
  (z:∀x:Str,x∈(["abs","all","bool","dict","enumerate","int","isinstance","len","list","max","min","range","set","sorted","str","sum","tuple","zip"]:List Str)->nsIn K aaI x=some none) :
  ∃fd:aai,(∀(s:Pr)(v:Value),aeS s fd ⟨[v],[]⟩ [("_law_script",v)])/\∀base:Heap,K.In base->base.Ns aaI mg->cR l.prog w K mg base CX0 6 fa fd QD (Nz K):=by
 obtain⟨f,fd,a,F⟩:=e5.ex;cases d8.symm.trans (mg_of X G a);have B:Blt mg:=⟨iZ X G z rfl,iZ X G z rfl,iZ X G z rfl,iZ X G z rfl,iZ X G z rfl,iZ X G z rfl,iZ X G z rfl,iZ X G z rfl,iZ X G z rfl,iZ X G z rfl,iZ X G z rfl,iZ X G z rfl,iZ X G z rfl,iZ X G z rfl,iZ X G z rfl,iZ X G z rfl,iZ X G z rfl,iZ X G z rfl⟩;have D:=p1.kla X G;have c7:Glb mg "LETTERS" (.str "abcdefghijklmnopqrstuvwxyz"):=⟨_,mg_of X G g1,⟨_,rfl⟩⟩;have c6:Glb mg "LONGEST" (.int 8):=⟨_,mg_of X G g2,⟨_,rfl⟩⟩;refine⟨fd,λs v=>by obtain⟨_,_,_,_,_,_,_,_,_,rfl,_⟩:=F.ex;exact .of_eq rfl,λbase _ _=>?_⟩;have T:=@YF l.prog w K mg base h X G;have M:=@YH l.prog w K mg base h X G;have c4:=T t1 (λF=>Bd F B) λ_ _ _ _ _ _=>un2 λ_ _=>rfl;have I:=T t2 (λF=>Cg F B) λ_ _ _ _ _ _=>un2 λ_ _=>rfl;have b9:=T t3 (λF=>Av F B I) λ_ _ _ _ _ _=>un1 λ_=>rfl;have c3:=T t4 (λF=>Cj F B I) λ_ _ _ _ _ _=>un1 λ_=>rfl;have a8:=T t5 (λF=>Fj F B I) λ_ _ _ _ _ _=>un1 λ_=>rfl;have c0:=T t6 (λF=>An F B a8) λ_ _ _ _ _ _=>un2 λ_ _=>rfl;have c8:=T t7 (λF=>Fp F B c7 c6) λ_ _ _ _ _ _=>un1 λ_=>rfl;have c1:=T t8 (λF=>Ae F B c8) λ_ _ _ _ _ _=>un3 λ_ _ _=>rfl;have a7:=T t9 (λF=>vZ F B c1) λ_ _ _ _ _ _=>un1 λ_=>rfl;have a3:=@YS l.prog w K mg base h X G _ _ _ _ _ _ _ _ p1 f1 (λF=>qL F B a7 D) λ_ _ _ _ _ _=>un3 λ_ _ _=>rfl;have b7:=T f3 (λF=>xm F B) λ_ _ _ _ _ _=>un2 λ_ _=>rfl;have c2:=T f6 (λF=>Cq F B b7) λ_ _ _ _ _ _=>un2 λ_ _=>rfl;have b0:=T e7 (λF=>wy F B) λ_ _ _ _ _ _=>un2 λ_ _=>rfl;have Z:=T e1 (λF=>uh F B) λ_ _ _ _ _ _=>un2 λ_ _=>rfl;have a2:=T f0 (λF=>zF F B) λ_ _ _ _ _ _=>un2 λ_ _=>rfl;have d0:=T e8 (λF=>J8 F B Z a2) λ_ _ _ _ _ _=>un2 λ_ _=>rfl;have c9:=T d7 (λF=>E_ F B d0) λ_ _ _ _ _ _=>un2 λ_ _=>rfl;have J:=M p1 f7 (λF=>qJ F B D) λ_ _ _ _ _ _=>un1 λ_=>rfl;have a0:=M p1 e9 (λF=>oF F B c9 J D) λ_ _ _ _ _ _=>un1 λ_=>rfl;have a4:=M p1 e2 (λF=>ux F B D) λ_ _ _ _ _ _=>un2 λ_ _=>rfl;have b5:=M p1 e4 (λF=>xn F B a4 D) λ_ _ _ _ _ _=>un1 λ_=>rfl;have a6:=T d5 (λF=>wG F B I a8) λ_ _ _ _ _ _=>un4 λ_ _ _ _=>rfl;have U:=T e6 (λF=>vK F B) λ_ _ _ _ _ _=>un2 λ_ _=>rfl;have b6:=T d2 (λF=>xq F B a2 Z) λ_ _ _ _ _ _=>un3 λ_ _ _=>rfl;have a1:=M p1 f4 (λF=>rQ F B U b6 J D) λ_ _ _ _ _ _=>un2 λ_ _=>rfl;have b4:=T (k:=(0+0)) (ps:=nl4) (sp:=(spP ⟨K,mg⟩ (λ_=>none))) d1 (λ_=>J4) λ_ _ _ _ _ _=>un2 λ_ _=>rfl;have b2:=T (k:=(0+1)) (ps:=nl4) (sp:=(spP ⟨K,mg⟩ (bc (λ_=>none)))) d1 (λF=>ou (n:=0) F B  b4) λ_ _ _ _ _ _=>un2 λ_ _=>rfl;have b3:=T (k:=(0+2)) (ps:=nl4) (sp:=(spP ⟨K,mg⟩ (bc (bc (λ_=>none))))) d1 (λF=>ou (n:=1) F B  b2) λ_ _ _ _ _ _=>un2 λ_ _=>rfl;have c5:=T (k:=3) (ps:=nl4) (sp:=(spP ⟨K,mg⟩ cT)) d1 (λF=>ou (n:=2) F B  b3) λ_ _ _ _ _ _=>un2 λ_ _=>rfl;have a5:=T d3 (λF=>FT F B) λ_ _ _ _ _ _=>un2 λ_ _=>rfl;have Y:=M p1 d6 (λF=>wI F B U D) λ_ _ _ _ _ _=>un2 λ_ _=>rfl;have V:=M p1 e0 (λF=>uz F B D) λ_ _ _ _ _ _=>un2 λ_ _=>rfl;have a9:=M p1 d9 (λF=>vq F B U a5 Y V D) λ_ _ _ _ _ _=>un3 λ_ _ _=>rfl;have b8:=M p1 e3 (λF=>wY F B Y V D) λ_ _ _ _ _ _=>un4 λ_ _ _ _=>rfl;have b1:=M p1 f2 (λF=>xO F B a9 J b8 a5 D) λ_ _ _ _ _ _=>un4 λ_ _ _ _=>rfl;exact cR.imp (Wb F B c4 b9 c3 c0 a3 c2 b0 a0 I b5 a6 a1 c5 b1) λvs H Q E ⟨a,ns,e,hS,O,q⟩=>by subst e;exact Uh O hS q
theorem walk{q:aae}{U:(Str->Option Value)->Heap->Prop}{J:World->Heap->Prop}{d:DefRec}{K:Params->Frag}(hn:l.most=some 63)(B:d.params.defaults=[])
  (V:∀(w:World)(h:Heap),J w h->(K w.params).In h)
  (F:∀(w:World)(mg:Str->Option Value)(fa:Addr)(h:Heap),(K w.params).In h->h.Ns aaI mg->mg d.name=some (.ref fa)->
   ∃fd:aai,(∀(s:Pr)(u:Value),aeS s fd ⟨[u],[]⟩ [("_law_script",u)])/\∀base:Heap,(K w.params).In base->base.Ns aaI mg->cR l.prog w (K w.params) mg base CX0 6 fa fd QD (Nz (K w.params))) :
  agu q I U J l.row.toRowW d [] (λf vs=>agi f vs):=
 L2.walk_of (n:=63) (k:=6) (x:="_law_script") (CX:=λ_=>CX0) (sp:=λw=>Nz (K w.params)) hn (by decide) B ⟨rfl,by decide,by decide,rfl⟩ V F (λ_ _ a ns O _ D=>⟨a,ns,rfl,D,O,λ_=>rfl⟩) λ_ _ _ _ _ z=>z
end Jb
end
namespace PySem.W.Fast
local macro_rules
 |`(universe $n*)=>(Lean.mkNullNode ·)<$>n.mapM fun n=>(·.raw)<$>`(noncomputable def $(Lean.mkIdent (.mkSimple s!"tw{n.getId.getString!.foldl (fun k c=>k*62+c.toNat-if c.isDigit then 48 else if c.isUpper then 55 else 61) 0-55*62^11}")):ident:=0)
universe t2a9X6cl3lTv t0L9aHzPgqEw t8VApAgFEXx1 tBnHxJtn4T6Q t7DO36BIjC1R tG4grkI0AGbl tCMqfekFw0nk t26ZdkapfVAa tAXqyeOiYd16 t1DLPh3BZKuL tBNNwXbYwtJE t5l1tUjuY68J t3aB1QiIjXeK tEkP6IjGZ7Hb t5K0DVkhRIzV t8q8Xz6BjXFL t8B8KgLmvnZG tFovaRhDK3i3 tIbsqhTSrfT6 t2xX0LGdilZn tERCSe37OmEj t0FhHIRgps0f tKLf6pP4x3jk t6TxYGoZFWNl t9ZW5MBAP1TF tLhSW52XBMKV tArY1E17X9De t605YmPeziMC tFNpSk6nx4lg t7K7fkeFZjVj tEF5lTwr1Xn6 tHpfwEATx9J2 t7ehNvWGJ460 tAvzGhnvORDn t0E4V5cH1Ynz tLKgthrjSFTJ tBVleN8BR8sn t1JYgDYDKERo tKCuFWypISJk t8IvgzWbmUjP tCpsQmXIeHAk t1lzteV5fdo4 t6hfGnfeF7AT t2qciStZBUHe t720KlxKdUMk t3AvdErnhyJe t8ZAkvC3HYez tEh41kxj7maa t5n0QhnjVLhE tHDEGG4T7WuZ tFDJJTZSHhVm t7w9TuWAiioq tE8pWZG2JLlH tDya09FtYBrU t0WrMi7ikAaS t4nyVEUpkEKn t5dScu73kxub t1YEHYyIG0BM tFpTbDZHZDmW tFNKBe9prPy3 tE9VGh2VyJ9T tBKc1h4tlvPm t9m9js1V0SZz tIkagQBZSLW9 t1Z8wyB4IOx3 tIMyTS507QlP t8sh3SioeHfu t0SF8a5VUAN7 tKocZ3ijz0tI t76YJoZBEzfm tJTbWQ6oUHnW tC9x5yEbi5sU tLEMDB3wPZqP tBRXIV2z6GoT t9w1DWkLqwKz t4QoKfcOJfKF t0pk82ZVAncY t9KNUrPzkfda t5RlgJcI1xyy t8rDdkr3h5Uh tLPorf1tn488 tB5M6nplN8OP tJNadk3YTfep tCidK7Yi0JfD tCAucgdxrGS5 tC5tX2c1qxwg t1dccvEZgovZ tGUCaoMAY62I tIQ1s0oDuMQR tGtzZrDwI49u tA961s39Iex7 t3x3IJKSqt4H tChonJNq3MCP t5Mr1ITNeGdZ t1CMxm2wxKtD tFW847I2G3P5 tGNClzzM848P t0itIzX6wYrb t7VtexSz9dxl tJhwyCFrlIh2 t6kGsICaZAIc tBtTKBMVkOKb tISWQE0lZzyd tCPbaIQ4bUfo tB0NIvhFqHVf t5PhzOO1PZtc tIu12vav5Wdf tCKoFmZoCYh4 t0oCYZC3Xfyd t1ASkqVliQgf t4jMvVexNMQW tIPZsfTvFNiC t2BIZbXP1i2i t1rvN3UdEkZO tHZc28tMTmo0 tGzT45ebpjS8 tIKT4i2B5RHf tEe8yaLWVP6P tJJXjwHgfCtP tL7DLQYm0D7q tEa0PXN1rJcN tJMvlevk9Rh6 t9QcwEu1Uxdg tIdkafCtXa2x tLvEecDl0KHL t5tsh0cI2cjk tDG3wpNSjijR tDvora6RbUtZ tCqMO1sDCl2O tAGvfkpKcguD tFJ6U9fu7wIE t70VnFKv5XGW t1PlaOKdeSkW tK69a0kGYAOm tKAow2cNOxLf t8xyWSh7Jncn t5iRkxJ12YHR t0BpRkEGRSzT tJT36Whtr3dV t1QNZYY6WSOV tDgl7W9Ob7mF tFSrjf3ixKWx t5fES384MNW0 t61GGMeKvdDe t5tt6Lg5xFh1 t0oyhCV4xF8e t6n02QnPw7sh t2aMet22w4rB t8bXbpyqmIt7 tHcwOyfcftpk tJJeRpDcKPbt tGLkjx8xYG8n t3j1YzKIMdMe t9diVSlaG6Ex tGFF3Lx3UJOs tDkmoIPlIXwT t4gm18yCUrtc tCWrlGRfVFLL tBqErnDw2uBs tCLlkpTGGeQy t3i4lG0NEopX t9Qx5GvJbKo2 tCT97XUcsq7Q t75q7k7nLNbg tGEx3QGLWUiz tJc9kNvsI2tZ t0nHGfanqYXr t9pcT8xdHBGA t54cVVC05UVU t7rkfGVvnu0y t2baJcKTp32B tE8hhpyBGlAa t2hqude0Q6xj t6sd4BlAK1Ik t9fCsXoldcd2 t2VOQBTQ06lA t0xgEGZMIIxq tDOYaKZ9SZHU t3vOnUUAOufd tFHgFsW5httC t35VXTkiPLXt t0yDNxHag7oS tD4RwVP2goRk tG9h4rOeFL3m t41yetdznJE0 tAigQJO2hhOW tEYkyfsrgQAG tLbE3DMPgyqS tEEiLMxqLQp5 tKEEw0vPOhkp t9tedaPkfl1g tHd9VHCYGUkL t02NWarWZwFZ tCL3276nyuJy tBxSlAZjXKUi t5kAleQeGCrC tFVGGifj7akg t5A59hC0VBCo tA6A7gDFex5j t02jVVlb0oA5 t4QVY1Jiv18U t0KtW3NkRsFI t5UFD85IgGlc tLRSaz6aSiPE t7S1M32tQT0L tJy0MBkvmwx4 tBW6j9JnOHQK t4frsBG846kS t1J6LNdFtMbJ tJENy20XdHBK t0mcQjFcBC0B t7bkgoQ9Fnb0 t0iSD4qwpEI5 tFEsegJS4A1G t656OWvDXmYo t9PeIFoVEhgx tEnQx3rfx4qG tFGwoCe4Y9OU tKsNYIogDNsC tDd2qXLRzaEF t2fKZ4ZStozE t0tZX2Z5dKtq t4l6rSwioDML tEj9qFS77YOj t8xR4uHqMlHa t5GCnxYoZYQY tCU0LQQ1iIzk t50dGHgTocwf t4CepsGmsnwN t3FIcnLEqas7 tJpbXz4R7DuR tLxs91SySrz2 tD2C01ps0mla tEkHuhz44MPE t2qEchnZWACs t0nPTvLjmo5d tLwEVjgQLbrh t5ESsBSjGySK t1H2ZTl7yCB9 tBrBkzHMaB5j t3QxxV9eH7dm tIY5LddlGi8M t7hTuTiB0Yg1 t6g9zhyvV4FK tAPxf2ocxexq t31Ev42paZoq t82zquZCCc3G tAzpxXYzeQAy tGbneu3z0bRF tF66SoiWEoPr t5iwv6tfHOGj tKwysgJuc3wD tBJcZB18RFNe tA0pTofLlPXr t8F3j4aqLdnf tBv1TeLUPwQz tBF4xSYkFcE0 t3NGAzf0o8I3 tICXNgqUvcKT tF6E2krEXkck tExYKHRLcUka tGAuEOzU2eYN t2qtJdcYTtkT tBNtHEaBzUB6 tC003a1QghmO tFLCbf9MhZL0 t831tW6LsMNE t0wdbrBB837A tBLM7H6Gzd0J t6hgvnzA9znj tL0erapcKBSf tGwet4kwWfnk tEcgDzBlmF1g t4J3fV94tUGo tAW6xcuQQjYH tFIcOSQMVurh tCRlk64LvIqX tL58SsyIvWfY tIC36dGQbkbP t5KYiCirdcgG t9j53nS6qGTw t87XUf64Sc97 tHOPMa7qzL1o t6Ple3K6fw1F t6y28knBDdHh tE62QEA2zVLB tFoPsnBelSyk tB9QHxbajHyt t1hKCQizIGF6 t2yP9yuJD0ad tAk0BnmeTRXk tF1CP1fOjak9 tB7k0HJmZoAn tLIars07dKMX tBaZmJ9pnmsC tHUNq1tMkR3V t8yJo9TTAp4G t8mTJx3lRHJ8 tF4cBvUAHos7 tI8a6pJqBr1O t2PnzhvS1rmh t61uDn0YSQ1Q t1VW3cm4REBW t6apsUkjJerK t0766CC1rSkw tFlHPM5Lffxy tBzcgpHSMhx2 tG0nXoPMHvdI t87wHSN61cC6 t0PUeiJs7BZB t7UtTYps1gzM tLYQQ49taPVA tIBJOeZUa1OE tBUNQqk7w8vk t5K248dR6p3J tHuazSLgSmtQ tGfKbSWQ3GSr t3OkrIxZwCOz t3MynM7v9va5 t37xBMSadKso tBD25nf57kcv tLe3V7TEw6Wy tLnaniFRucTd tD5RsOu8pVLb t85WRJBXMCdi tHMt54UajATS tKZIN9HPiEeW t1YLiu1KQxju tBSMKoi28Rw0 t8MJNYldgu7z t2et5jpKg2TZ tL7xHifmCqqt t1t6tNPz606H tBgRrn6EGpMu t2j8hfE1rAq1 t1miuOni6EJ8 tJnsBopYNwRr tJ1MxcDl6q6f tBiInMRFtH5J t7zVJirGeIbz t0MlX6n8VxPq tKzKACyxgzQR t8BvA6S0bPRR tCNUmxH9DTlO tJBWBMlcQ5bg t8iWTLEANNy0 tFuZtebO8ZPG t3SAQkvKo0hm tCvFWQ65TAdo tGUInDzZ5XMk t06DMbuMO7R4 tFXfR1TMGpjM t2RsTEMXO3PQ t24vYTuuiX1H tK7k9VzStdQ8 t6F0d0VtOrFk tGTMJrzVNm97 tI9pjJjyRC92 tGRH8EE5FcJ4 tL5Vrt09hLFl tBGwLHcYptNx tCrDaUJliiCq tJpo3d1gbV5G t840l9HWQKha t2JTSKKvT7SW t5ea9wEBJKcl tFL5GKEnh4ik t8vRdo07mrKH t1DXK75jEPHx tDUkVRKKs8y0 tB9kh9FH9HuH t0WXX91M0QrS t0fVMNxOXhEv t1O1RqY3mDHe t4D5tD3pAkA9 t05Y9DpV7gqU tIsgfSolgPBH tL0fKI8uTmeo tAN1al6UHkOe t8xzJpijVUn6 tKGF8cJ4RcmC tHVPvDewgIfX t9UCNhkVjjbO tGxo7yMTz7UB t8hFdnsCwItA t2mgglckHqZ1 tDVBDDdYvoS2 t2whsZUWVKbj tFojqn3gp6Gj tGiceAb96qVy tJiTfkpRGai9 t8ZbM1CnJtwD tF6JLhk9RVSh tJtPha6K5Jxe tDny2PBuC3Ln tKEwWj8zicMh tBRDENPgrLqX tGsKMjX9rEzA t47aS4rxXmXP t7hzLZii0E6k t0O1MYuMGCw9 t0P5jvkJIVOr tDHfsdX6l6Iw t5Wqbjmg9Exk t65Jowb0K5HX t5tJpT6pT7m0
end PySem.W.Fast
open PySem PySem.W PyProof.Rows
set_option maxRecDepth 100000 in
set_option maxHeartbeats 0 in
theorem PySem.Challenge.cw_joinback_k23_classes_holds : PySem.Challenge.rw_joinback_k23_classes.Holds := by
 w_on;o_law;k_head;(case hw=>w_witness2)
 k_fill
 refine Jb.walk (l:=PySem.Challenge.rw_joinback_k23_classes) rfl rfl (λw h Y=>PySem.W.kIn_of Y) ?F
 case F=>
  intro w mg fa h KX G hmg;refine' Jb.all_mk KX G hmg ?_ ?_ ?_ ?_ ?_ ?_ ?_ ?_ ?_ ?_ ?_ ?_ ?_ ?_ ?_ ?_ ?_ ?_ ?_ ?_ ?_ ?_ ?_ ?_ ?_ ?_ ?_ ?_ ?_ ?_ ?_ ?_ ?_ ?_ ?_ ?_ ?_
  all_goals repeat' (first|(refine' Jb.tp_mk ?_ ?_ ?_ ?_)|(refine' Jb.mp_mk ?_ ?_ ?_ ?_ ?_)|(refine' Jb.cp_mk ?_ ?_ ?_ ?_ ?_ ?_ ?_ ?_)|(refine' Jb.al_cons ?_ ?_)|exact Jb.al_nil|k_is)
