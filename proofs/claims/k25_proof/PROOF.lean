import PyProof.Rows.All
import Wide.All
import OpenK.AllK
import Wide.FinOn
import Lean
import PyProof.EqAt
import PyProof.EqKinds
import PyProof.TupleCall
import KE.KDictList
import KE.KMinBuiltin
import KE.KSortTup
import PyProof.AttrMissHeap
import PyProof.NeKinds
import PyProof.Rows.CallKwBuiltin
import PyProof.StrWalks
import PyProof.TupleIter
import PyProof.TupleOfSeq
import PySem.Challenge.RW_joinback_k25_sizes_and_sums
set_option Elab.async false
set_option linter.all false
set_option compiler.extract_closed false
set_option maxRecDepth 100000
set_option hygiene false
set_option hygiene false
local macro_rules
 |`(tactic|show 1)=>`(tactic|(repeat(any_goals(first|assumption|wp_step))))
 |`(tactic|show 2)=>`(tactic|(intro pins s σ H x y v u Q I rx Z h;obtain⟨i,j,rfl,rfl,q⟩:=h;obtain⟨t,rfl⟩:=rx;obtain⟨t',rfl⟩:=Z))
 |`(tactic|show 3)=>`(tactic|(obtain⟨x,rfl,rx⟩:=r.inv1;rw[Rep]at rx))
 |`(tactic|show 4)=>`(tactic|(intro pins s σ H Q I h))
 |`(tactic|show 5)=>`(tactic|(intro pins s σ H xs us Q I r h))
local macro_rules
 |`(1.10)=>`((λ_=>O.mono (by decide)))
 |`(1.11)=>`((by omega))
 |`(1.12)=>`((model X.prog X.w))
 |`(1.13)=>`((bC X N' scope C Y H fp))
 |`(1.14)=>`((ixb (λ_=>aM O)))
 |`(1.15)=>`((.lst .frz (ns.map D.str)))
 |`(1.16)=>`((model prog w))
 |`(1.17)=>`((.ListComp elt [⟨target,iter,ifs,0⟩] scope pos))
 |`(1.18)=>`((ao false 0))
 |`(1.19)=>`((.DictComp kx vx [⟨target,iter,ifs,0⟩] scope pos))
 |`(1.20)=>`((ao false 1))
 |`(1.21)=>`((x==("__debug__":Str)))
 |`(1.22)=>`((aj false 1))
 |`(1.23)=>`((.lst .frz (js.map jD)))
 |`(1.24)=>`((aj false 0))
 |`(1.25)=>`((λQ q=>?_))
 |`(1.26)=>`((cb_eq _ (λ_=>rfl) O.units))
 |`(1.27)=>`((eC (.int 0)))
 |`(1.28)=>`((eV [0] (λ_=>D) 1.10 (cW 0 (cY (bO (aa aF aq))))))
set_option hygiene true
local macro_rules
 |`(tactic|simp![$x,*]$[$l:location]?)=>`(tactic|simp only[$x,*]$[$l:location]?)
set_option hygiene true
open Lean.Parser.Command Lean.Parser.Term in
local macro_rules
 |`(command|def $i:declId $s:optDeclSig := $v)=>`(command|noncomputable def $i $s := $v)
 |`(command|def $i:declId $s:optDeclSig $[$a:matchAlt]*)=>`(command|noncomputable def $i $s:optDeclSig $[$a:matchAlt]*)
section
def Zd:=@if_pos
def Zk:=@if_neg
def Zy:=@decide_eq_false
def Zz:=@if_true
def aao:=@if_false
def aap:=@decide_eq_true
def aaU:=@beq_eq_false_iff_ne
def aa1:=@decide_eq_true_eq
open PySem renaming wpAny_bind->gD,Shared->Hq,wpAny_pure->YQ,sizeLine->YZ,starEach->Zb,mainGlobals->Zh,Program->ZL,FuncData->ZP,compareOp->aaa,Around->aad,wpAny_newObj_type->aat,wpAny_holding->aaz,backTo->aaA,assignEach->aaD,foldedSetIterable->aaE,wpAny_mono->aaG,codeAny_builtin->aaH,binaryOp->aaP,holding->aaY,bootBuiltins->aa4,attributeBase->aa8,swapsWithSole->abp,mem_of_lookup->abr,codeAny->abt,keywordEach->abw,swapsWith->abz,codeAny_mono->abD,wpAny_Call_Name_kw->abE,tupleKind_room_in1->abF,wpAny_passesOwn->abH,wpAny_standAt->abL,wpAny_truthy_bool->abN,sysModules->abP,codeAny_call_builtin->abQ,wpAny_comprehension_free->abV,wpAny_callSpecial?_slot->ab1,swappedStores->ab3,plainId_quiet->ab4,boot_len->acb,wpAny_pyIter_list->acd
open PySem renaming IsPart->acg,bindName->acj,backToKw->aco,sizeLine_eq->acr,sliceBounds->acs,letOwnedTupleGo->acw,assign->acy,rawInt->acz,getMethod->acA,wpAny_typeOf->acD,scanBound->acF,standAt->acH,wpAny_bindName->acI,wpAny_pyIter_enum->acO,wpAny_pyNext_list_item->acQ,wpAny_field->acT,assignInOrder->acW,behindInMarks->acX,NameKind->ac0,tupleKind->ac5,wpAny_pyNext_list_end->ac7,wpAny_execs_nil->adg,exec_Assign_arm->adh,wpAny_rule->adi,PlainAttrs->adk,call_meets->adl,call_meetsIn->adm,getItem->adt,Keyword->adu,wpAny_of_eq->adA,wpAny_pyIter_tuple->adF,wpAny_letOwnedTupleGo_enum->adL,valueAt->ad2,callerA->ad3,Paired->ad4,pyIter->ad5,Operator->ad6,Result->ad7,noFill_tuple_add->ad9,wpAny_call_entry->ad_
open PySem renaming wpAny_isInstance->aeb,callWith->aef,wpAny_pyNext_tuple_item->aei,wpAny_pyNext_tuple_end->aev,wpAny_throw->aeA,unsupported->aeB,isTrue->aeD,setItem->aeE,BindsTo->aeF,newList->aeH,builtinLookup_eq_fast->aeJ,wpAny_seqItems->aeK,wpAny_setAddHashed_of->aeM,wpAny_runValue->aeN,weight_type_call_type->aeO,wpAny_load->aeV,wpAny_call->aeW,wpAny_newFunctionEnv->ae1,attributeErrorLeaves->ae2,seq_tuple_add->ae6,wpAny_dictSet_pairs->afa,Within->afh,PassesOwn->afj,concat_meets->afp,seqIndex_neg->afq,Fin->afs,list_append->afD,seqIndex_of->afI,call->afX,holding->af_
open List renaming mem_append_right->YJ,mem_append->YL,map_cons->YT,mem_append_left->YW,mem_cons->Za,getElem?_eq_getElem->Zc,length_map->Ze,mem_map->Zf,nodup_append->Zi,map_map->Zj,mem_of_getElem?->Zo,length_cons->Zq,map_append->Zr,map->Zt,append_nil->Zu,nodup_cons->Zv,mem_cons_of_mem->Zw,getElem?_append_left->ZC,mem_singleton->ZJ,cons_append->ZK,findIdx?_eq_some_iff_getElem->ZM,nodup_nil->ZR,mem_iff_getElem?->ZS,mem_cons_self->ZW,length_nil->ZZ,range->Z_,replicate->aaf,map_nil->aai,map_congr_left->aak,sublist_append_right->aal,filter_cons->aan,getElem?_append_right->aaq,getElem?_cons_succ->aar,length_append->aay,Sublist->aaI,getElem?_cons_zero->aaO,getD_eq_getElem?_getD->aaR,append_assoc->aaT,findIdx?_eq_none_iff->aaV,findIdx?_cons->aaX
open List renaming Perm->aa2,eraseIdx_append_of_length_le->aa6,drop_length->aa9,mem_range->aa_,set_cons_succ->abb,filterMap_append->abd,getElem?_eq_none_iff->abe,find?_cons->abj,sublist_append_left->abk,forall_mem_cons->abl,getElem?_inj->abn,filterMap_cons->abq,length_take->abu,length->abv,getElem_cons_drop->abx,getElem?_set->abO,drop_eq_getElem_cons->abR,length_filterMap_le->abW,getElem_mem->abZ,pairwise_cons->ab7,lookup->ab9,take_of_length_le->aca,length_drop->acn,all_cons->acp,Pairwise->acq,mem_filter->acv,set_cons_zero->acG,getElem?_set_self->acP,drop_eq_nil_of_le->acV,any_cons->acY,map_take->acZ,nil_sublist->ac1,any_eq_true->ac2,take_length->ac3,countP_cons->ac4,length_filter_le->ac9,take_append_drop->ac_,getElem?_eq_none->ada,set_append_right->adb,perm_append_comm->ade
open List renaming eraseIdxIfInBounds_toArray->adf,drop_zero->adw,mem_filterMap->adB,set_comm->adJ,sum_cons->adP,ext_getElem?->adV,pairwise_map->adW,foldl_append->adX,mem_of_find?_eq_some->ad0,lookup_cons->aea,set_eq_of_length_le->aec,all_eq_true->aed,zip->aee,append_inj'->aeg,mem_flatMap->aeh,getElem?_replicate->aej,eraseIdx_cons_succ->aek,of_mem_zip->aer,range_succ_eq_map->aez,eraseIdx_sublist->aeL,eq_nil_or_concat->aeR,concat_eq_append->aeS,length_dropLast->aeZ,getElem?_of_mem->ae3,findIdx?_append->ae5,getElem?_range->afb,getElem_of_mem->afd,toArray->afv,find?_eq_none->afx,take_sublist->afC,map_id->afJ,getElem_inj->afK,foldl_cons->afZ,filterMap->af2
open Option renaming bind_some->YK,map_some->aaJ,isSome_map->adU,isSome_iff_exists->ad8,map_eq_some_iff->aey,getD_none->afP,getD_some->afT
open PySem.Heap renaming get?_push_of_some->YM,lt_size->Y_,get?_push_size->Zm,size_push->aam,get?_update_other->aa5,SameBut->ace,get?_update_self->ac8,get?_update_ne->afc,size_update->afR
open PySem.W renaming Frag->YS,findIn->ZF,isFn->aaB,kia_one->aaM,emptyDict->aaS,instObj->abh,keepIn->acf,plainGet->ack,fnOf->acB,hasDictIn->acK,kitx_list->acL,kitx_dict->acM,plainGet_of->ado,lookIn->adp,kitOne->adq,kitAny->adv,callWith_K->adC,methodObj->adQ,plainOver->adS,takerIn->aep,makesIn->aeq,OpenLaw->aet,cellsFrom_some->aew,codeIn->aeG,methodCall_KW->aeQ,kitx_float->afk,kitx_tuple->afl,kitx_none->afA,kitx_bool->afB,handedIn->afL,kitx_int->afM,kitx_str->afN,kitx_own->afO,kas_kind->afU,kdl_dict->afV,WalkO->af8
open Nat renaming le_refl->YX,ne_of_lt->Zg,lt_of_lt_of_le->Zn,le_trans->aas,lt_irrefl->aaK,lt_succ_self->aaW,lt_succ_of_lt->aa0,zero_le->abf,ne_of_gt->abB,le_of_lt->abU,sub_self->abY,lt_or_ge->ab0,zero_add->ach,le_succ->adz,succ_ne_self->afS,min_eq_right->afW,min_eq_left->af1
open Sum renaming inr->Zx,inl->ad1
open PySem.Value renaming ref->ZD,none->aag,type->abg,int->abT,str->aci,bool->adY,float->aeu,isStrOf->af7
open Bool renaming false_eq_true->ZG,and_eq_true->ZQ,false_ne_true->aae,eq_iff_iff->ab6,and_eq_true_iff->ae0,and_true->ae8,or_eq_true->afY,and_assoc->af4
open Ne renaming symm->ZV
open PySem.F renaming plainAttrs_list->ZX,slot_list_append->aab,type_list_append->aac,called_set->aaC,slot_tuple_iterator_next->aaQ,slot_dict_get->abJ,slot_list_getattribute->abX,entry_dict_get->ab_,args_tuple_add_2->acC,entry_tuple_add->acJ,slot_tuple_add->acS,args_tuple_iterator_next_1->adx,entry_tuple_iterator_next->adE,slot_dict_delitem->adZ,args_dict_get_2->ael,args_dict_get_3->aem,slot_list_pop->aeT,type_list_pop->aeU,args_list_append_2->aeY,entry_list_append->ae_,slot_list_append->afr,entry_type_call->afF,plain_list_iadd->afH
open Option.some renaming inj->aah,injEq->abm
open PySem.Builtin.Str renaming occurrences->aaj,strKind->acu,partsBetween->acE
open True renaming intro->aau
open PySem.Builtin.Slice renaming sliceAdjust->aav,slicePlaces->aaw,sliceApplied->abM
open PySem.Around renaming under_plainId->aax,under->afm,under_plain->afu
open PyProof.Rows renaming slot_tuple_getitem->aaF,assignInOrder_cons->abA,callWith_type1->abC,boot_isinstance->ab8,envOfC->acR,AllBare->ac6,setObjOf_fresh->adG,assignInOrder_nil->adR,subscriptTail_builtinR->aex,mirror_perm->aeC,seqObj->aeP,entry_tuple_getitem->ae9,IntsAre->afy
open Or renaming inr->aaL,inl->aba
open PySem.PassesOwn renaming never->aaN
open PyProof.Rows.F renaming plain_set_update_loop->aaZ,entry_set_update_loop->ab2
open Array renaming length_toList->aa3,getD_eq_getD_getElem?->abG,getElem?_toList->abI,getElem_toList->ae4
open False renaming elim->aa7
open PySem.Builtin.Tuple renaming tupleExact->abi,tupleItemsOf->adK
open List.Sublist renaming refl->abo
open Int renaming le_refl->aby,emod_eq_emod_iff_emod_sub_eq_zero->acx,toNat_natCast->acN,le_trans->adn,emod_lt_of_pos->afw,emod_nonneg->af0
open ForInStep renaming yield->abK
open PySem.Builtin.SmallTypes renaming nextOf->abS,stopIteration->adM,ownedTupleFields->afz,newRecord->af3
open PySem.Obj renaming mapSeq->ab5,data_mapFields->adD,isFreed_of_fields->aeI,cls_mapFields->afE
open PySem.Calls renaming callWith_builtin->acU,Name_function_global->adI,spliced_nil->adT,evalArgs_plain->aeX,spliced_cons->afo
open PySem.Builtin.Frozenset renaming updateFrom->ady
open PySem.Paired renaming length->adH
open Function renaming comp->adN
open PySem.Shared renaming TypeIs->adO
open PySem.Builtin.Dict renaming updateFrom->aen
open PySem.Challenge renaming pw_joinback_k25_sizes_and_sums->aeo
open PySem.Heap.DictOf renaming new->aes
open PySem.NameKind renaming free->ae7
open PySem.SeqAt.EqAt renaming int_str->afe,str_int->afg,same->af6
open PySem.Flow renaming next->afi
open PySem.Code renaming isFrame->afn,quiet_builtin->aft
open List.Perm renaming mem_iff->afG,refl->af5
open PySem.IsL renaming update->afQ
open Prod.mk renaming injEq->af9
open PySem
variable{XP:(Str->Option Value)->Heap->Prop}{a it f C dx sl l:Addr}{A:Around}{g':Array GenState}{p:Array Nat}{items:Array Value}{b led:Bool}{op:CmpOp}{d:DefRec}{d':Drawn}{env:Env}{e c tg value elt target:Expr}{h h' base:Heap}{s' Y:Hq}{g:Int->Int->Int}{pins:List (Addr×Obj)}{ks:List (List Str)}{J:List (Option Expr)}{ch M fp L:List Addr}{outer:List Env}{es ifs elts:List Expr}{js:List Nat}{N ns ps N' xs ys fl pre:List Str}{us its:List Value}{t' i j n tk x1 i0:Nat}{ob oc pr:Nat->Bool}{tn:Nat->Heap->Prop}{ρ:Nat->Int}{o:Obj}{pos pos' px py tpos apos p2 cpos pos2:Pos}{prog:Program}{scope:Scope}{s:Shared}{x y name Z:Str}{vs O:Str->Int}{mA mg:Str->Option Value}{q:Str->Option ac0}{R:Str->Str}{T:String}{κ α β ι:Type}{u v U:Value}{RR:Value->Addr->ad7->Hq->Prop}{Q:Value->Hq->Prop}{E:Value->Shared->Prop}{w:World}{YP:World->Heap->Prop}{P:ZL}{fd:ZP}{pl:ι->Sem Bool}
namespace L2
open PySem PySem.Spec PyProof.Rows
abbrev Key:=Sum Int Str
def uF:Key->Value->Bool
 |.inl k,v=>Value.isInt k v
 |.inr x,v=>af7 x v
def Yj(w:World):Key->Int
 |.inl k=>hashInt k
 |.inr x=>hashStr w x
theorem dz:∀{k:Key}{v:Value},uF k v=true->(∃i t,k=ad1 i/\v=abT i t)∨(∃x t,k=Zx x/\v=aci x t)
 |.inl i,v,h=>by
  obtain⟨t,e⟩:=Value.isInt_shape (k:=i) (v:=v) h;exact .inl ⟨i,t,rfl,e⟩
 |.inr x,v,h=>by
  obtain⟨t,e⟩:=Value.isStrOf_shape (x:=x) (v:=v) h;exact .inr ⟨x,t,rfl,e⟩
theorem Ha(i:Int)(t:Tok):uF (.inl i) (.int i t)=true:=by simp[uF,Value.isInt]
theorem HX(x:Str)(t:Tok):uF (.inr x) (.str x t)=true:=by simp[uF,af7]
theorem Um(a b:Int):decide ((ad1 a:Key)=ad1 b)=(a==b):=by
 by_cases e:a=b
 .subst e;simp
 .have h:¬(ad1 a:Key)=ad1 b:=λq=>e (Sum.inl.inj q)
  rw[Zy h];exact(aaU.mpr e).symm
theorem V1(a b:Str):decide ((Zx a:Key)=Zx b)=decide (a=b):=by
 by_cases e:a=b
 .subst e;simp
 .have h:¬(Zx a:Key)=Zx b:=λq=>e (Sum.inr.inj q)
  rw[Zy h,Zy e]
theorem Uo(a:Int)(b:Str):decide ((ad1 a:Key)=Zx b)=false:=Zy (λq=>nomatch q)
theorem Vu(a:Str)(b:Int):decide ((Zx a:Key)=ad1 b)=false:=Zy (λq=>nomatch q)
noncomputable def aY(prog:ZL)(w:World):PySem.KeyKind prog w Key where
 is:=uF
 hash:=Yj w
 inj:=λv a b Y U=>by
  rcases dz Y with⟨i,t,rfl,rfl⟩|⟨x,t,rfl,rfl⟩
  .rcases dz U with⟨j,u,rfl,e⟩|⟨y,u,rfl,e⟩
   .injection e with e1 _;rw[e1]
   .exact nomatch e
  .rcases dz U with⟨j,u,rfl,e⟩|⟨y,u,rfl,e⟩
   .exact nomatch e
   .injection e with e1 _;rw[e1]
 byValue:=λk v h=>by
  rcases dz h with⟨i,t,rfl,rfl⟩|⟨x,t,rfl,rfl⟩<;>rfl
 pyHash:=λz h=>by
  rcases dz z with⟨i,t,rfl,rfl⟩|⟨x,t,rfl,rfl⟩
  .exact wpAny_pyHash_int h
  .exact wpAny_pyHash_str h
 eqBool:=λJ z h=>by
  rcases dz J with⟨i,t,rfl,rfl⟩|⟨x,t,rfl,rfl⟩
  .rcases dz z with⟨j,u,rfl,rfl⟩|⟨y,u,rfl,rfl⟩
   .rw[Um]at h;exact wpAny_eqBool_int h
   .rw[Uo]at h;exact afe i t y u _ _ _ _ h
  .rcases dz z with⟨j,u,rfl,rfl⟩|⟨y,u,rfl,rfl⟩
   .rw[Vu]at h;exact afg x t j u _ _ _ _ h
   .rw[V1]at h;exact wpAny_eqBool_str h
 «strs»:=λk x t v h=>by
  rcases dz h with⟨i,u,rfl,e⟩|⟨y,u,rfl,e⟩
  .exact nomatch e
  .injection e with e1 _
   subst e1;cases v<;>rfl
theorem Cy(prog:ZL)(w:World)(i:Int)(t:Tok):(aY prog w).is (.inl i) (.int i t)=true:=Ha i t
theorem Cz(prog:ZL)(w:World)(x:Str)(t:Tok):(aY prog w).is (.inr x) (.str x t)=true:=HX x t
inductive V where
 |non|bl (b:Bool)|int (i:Int)|str (x:Str)|byt (b:Array UInt8)|flt (b:UInt64)|ref (a:Addr)|ty (n:String)
 deriving DecidableEq
def RelV:V->Value->Prop
 |.non,u=>u=aag
 |.bl b,u=>u=adY b
 |.int i,u=>∃t,u=abT i t
 |.str x,u=>∃t,u=aci x t
 |.byt b,u=>∃t,u=Value.bytes b t
 |.flt b,u=>∃t,u=aeu b t
 |.ref a,u=>u=ZD a
 |.ty n,u=>u=abg n
noncomputable abbrev Vals:List V->List Value->Prop:=ad4 RelV
variable{xs:List V}
theorem Vals.length(r:Vals xs us):xs.length=us.length:=adH r
theorem Vals.get:∀{xs:List V}{us:List Value}{i:Nat}{x:V},Vals xs us->xs[i]? =some x->∃u,us[i]? =some u/\RelV x u
 |_,_,_,_,.nil,e=>by simp at e
 |_,_,0,_,.cons r _,e=>by simp at e;subst e;exact⟨_,rfl,r⟩
 |_,_,i+1,x,.cons _ t,e=>by
  obtain⟨u,h1,h2⟩:=Vals.get (i:=i) (x:=x) t (by simpa using e);exact⟨u,by simpa using h1,h2⟩
theorem Vals.set{x:V}(r:RelV x u):∀{xs:List V}{us:List Value}(i:Nat),Vals xs us->Vals (xs.set i x) (us.set i u)
 |_,_,_,.nil=>.nil
 |_,_,0,.cons _ t=>.cons r t
 |_,_,i+1,.cons q t=>.cons q (Vals.set r i t)
theorem Vals.append:∀{xs ys:List V}{us ws:List Value},Vals xs us->Vals ys ws->Vals (xs++ys) (us++ws)
 |_,_,_,_,.nil,s=>s
 |_,_,_,_,.cons r t,s=>.cons r (Vals.append t s)
theorem Vals.take:∀{xs:List V}{us:List Value}(n:Nat),Vals xs us->Vals (xs.take n) (us.take n)
 |_,_,0,_=>.nil
 |_,_,_+1,.nil=>.nil
 |_,_,n+1,.cons r t=>.cons r (Vals.take n t)
theorem Vals.drop:∀{xs:List V}{us:List Value}(n:Nat),Vals xs us->Vals (xs.drop n) (us.drop n)
 |_,_,0,r=>r
 |_,_,_+1,.nil=>.nil
 |_,_,n+1,.cons _ t=>Vals.drop n t
def oA:Option V->Option Value->Prop
 |some v,some u=>RelV v u
 |none,none=>True
 |_,_=>False
def KV:List (κ×V)->List (κ×Value)->Prop:=ad4 λ(p:κ×V)(q:κ×Value)=>p.1=q.1/\RelV p.2 q.2
def kV:Key->V
 |.inl i=>.int i
 |.inr x=>.str x
inductive HO where
 |lst (xs:List V)
 |tup (xs:List V)
 |dK (kvs:List (Key×V))|dT (kvs:List (List Key×V))
 |set (S:Int->Bool) (n:Nat)
 |ins (C dx:Addr) (fs:List (Str×V))
 |own (x:Addr)
 |xd (fs:List (Str×V))
 |met (f x:Addr)
 |rng (lo hi:Int)
 |frz (o:Obj) (u:HO)
 |tbl (ps:Array Value)
 |ext (φ:Heap->Prop)
abbrev Hp:=Addr->Option HO
def upd(H:Hp)(a:Addr)(o:HO):Hp:=λb=>if b=a then some o else H b
variable{H:Hp}{o:HO}
theorem a_:upd H a o a=some o:=by unfold upd;rw[Zd rfl]
variable{b:Addr}
theorem aO(h:b≠a):upd H a o b=H b:=by unfold upd;rw[Zk h]
theorem GX{u:HO}:upd (upd H a o) a u=upd H a u:=by
 funext b;unfold upd;split<;>rfl
theorem Ew{u:HO}(h:H a=some o)(h':H b=some u)(d:o≠u):a≠b:=by
 intro e;subst e;rw[h]at h';exact d (aah h')
theorem aU(h:H a=some o)(h':H b=none):a≠b:=by
 intro e;subst e;rw[h]at h';cases h'
def qL(h:Heap)(a:Addr)(items:Array Value):Prop:=∃o,h.get? a=some o/\o.cls= .type "tuple"/\∃n,o.data= .seq items n/\o.dict=none
theorem qL.new(h:Heap)(items:Array Value):qL (h.push {cls:=.type "tuple",data:=.seq items}) h.objs.size items:=⟨_,Zm _ rfl,rfl,_,rfl,rfl⟩
theorem qL.t(x:qL h a items):IsTup h a items:=let⟨o,e,c,n,d,_⟩:=x;⟨o,e,c,n,d⟩
section
variable(P:Program)(w:World)
def cT(H:Hp)(h:Heap)(a:Addr):HO->Prop
 |.lst xs=>xs.length<=YZ/\∃(its:List Value)(n:Nat),Vals xs its/\h.get? a=some {cls:=.type "list",data:=.seq its.toArray n}
 |.tup xs=>xs.length<=YZ/\∃its:List Value,Vals xs its/\qL h a its.toArray
 |.dK kvs=>kvs.length<=YZ/\(a==abP)=false/\∃vs,KV kvs vs/\h.DictOf (aY P w) a vs
 |.dT kvs=>kvs.length<=YZ/\(a==abP)=false/\∃xs:List (List Key×Addr×Value),
  ad4 (λ(p:List Key×V)(q:List Key×Addr×Value)=>p.1=q.1/\H q.2.1=some (.tup (p.1.map kV))/\RelV p.2 q.2.2) kvs xs/\
  ∃o es ep,h.get? a=some o/\o.ExactDict/\o.data= .dict es ep/\es.toList=xs.map (entryOfKey (ac5 (aY P w)))/\(xs.map (·.1)).Nodup
 |.set S n=>h.SetOf (intKind P w) a S n
 |.ins C dx fs=>H dx=some (.own a)/\fs.length<=1000/\dx≠a/\h.get? a=some (abh C dx)/\
  ∃mA,h.Ns1 dx mA/\(∀f,oA (fs.lookup f) (mA f))/\afh mA (fs.map (·.1))
 |.own _=>∃o,h.get? a=some o
 |.xd fs=>∃mA,h.Ns1 a mA/\∀f,oA (fs.lookup f) (mA f)
 |.rng lo hi=>∃t u v,h.get? a=some {cls:=.type "range",data:=.fields #[.int lo t,.int hi u,.int 1 v]}
 |.frz o u=>h.get? a=some o/\cT H h a u
 |.tbl ps=>h.get? a=some {cls:=.none,data:=.fields ps}
 |.met f x=>h.get? a=some (adQ (.ref f) (.ref x))
 |.ext B=>B h/\(∃o,h.get? a=some o)/\∀h1 h2:Heap,B h1->(∀o,h1.get? a=some o->h2.get? a=some o)->B h2
def HOk(H:Hp)(h:Heap):Prop:=∀a o,H a=some o->cT P w H h a o
end
variable{P:Program}
theorem cT.lt(x:cT P w H h a o):a<h.objs.size:=by
 cases o with
 |lst xs=>obtain⟨_,_,_,_,e⟩:=x;exact Y_ e
 |tup xs=>obtain⟨_,_,_,p⟩:=x;exact p.t.lt
 |dK kvs=>obtain⟨_,_,_,_,o,_,_,e,_⟩:=x;exact Y_ e
 |dT kvs=>obtain⟨_,_,_,_,o,_,_,e,_⟩:=x;exact Y_ e
 |set S n=>obtain⟨o,_,_,_,e,_⟩:=x;exact Y_ e
 |ins C dx fs=>obtain⟨_,_,_,e,_⟩:=x;exact Y_ e
 |own y=>obtain⟨_,e⟩:=x;exact Y_ e
 |xd fs=>obtain⟨_,⟨_,_,_,e,_⟩,_⟩:=x;exact Y_ e
 |rng lo hi=>obtain⟨_,_,_,e⟩:=x;exact Y_ e
 |frz ob u=>obtain⟨e,_⟩:=x;exact Y_ e
 |tbl ps=>exact Y_ (show h.get? a=some _ from x)
 |met f y=>exact Y_ (show h.get? a=some _ from x)
 |ext B=>obtain⟨_,⟨_,e⟩,_⟩:=x;exact Y_ e
theorem Paired.mapP{F G:α->β->Prop}:∀{q:List α}{z:List β},ad4 F q z->(∀a b,F a b->G a b)->ad4 G q z
 |_,_,.nil,_=>.nil
 |_,_,.cons r t,f=>.cons (f _ _ r) (Paired.mapP t f)
variable{H':Hp}
theorem cT.stay(x:cT P w H h a o)(k:∀b u,(b=a∨H b=some (.own a))->h.get? b=some u->h'.get? b=some u)
  (N:∀b,H b=some (.own a)->H' b=some (.own a)) (U:∀b xs,H b=some (.tup xs)->H' b=some (.tup xs)):cT P w H' h' a o:=by
 induction o with
 |lst xs=>obtain⟨z,its,n,r,e⟩:=x;exact⟨z,its,n,r,k _ _ (.inl rfl) e⟩
 |tup xs=>obtain⟨z,its,r,ob,e,c⟩:=x;exact⟨z,its,r,ob,k _ _ (.inl rfl) e,c⟩
 |dK kvs=>obtain⟨z,y,vs,r,ob,es,ep,e,c⟩:=x;exact⟨z,y,vs,r,ob,es,ep,k _ _ (.inl rfl) e,c⟩
 |dT kvs=>
  obtain⟨z,y,xs,r,ob,es,ep,e,c⟩:=x;exact⟨z,y,xs,Paired.mapP r λp q z=>⟨z.1,U _ _ z.2.1,z.2.2⟩,ob,es,ep,k _ _ (.inl rfl) e,c⟩
 |set S n=>obtain⟨ob,es,ep,t,e,c⟩:=x;exact⟨ob,es,ep,t,k _ _ (.inl rfl) e,c⟩
 |ins C dx fs=>
  obtain⟨d,z,J,e,mA,⟨F,es,ep,e2,c⟩,r⟩:=x;exact⟨N _ d,z,J,k _ _ (.inl rfl) e,mA,⟨F,es,ep,k _ _ (.inr d) e2,c⟩,r⟩
 |own y=>obtain⟨ob,e⟩:=x;exact⟨ob,k _ _ (.inl rfl) e⟩
 |xd fs=>obtain⟨mA,⟨F,es,ep,e,c⟩,r⟩:=x;exact⟨mA,⟨F,es,ep,k _ _ (.inl rfl) e,c⟩,r⟩
 |rng lo hi=>obtain⟨t,u,v,e⟩:=x;exact⟨t,u,v,k _ _ (.inl rfl) e⟩
 |frz ob u D=>obtain⟨e,q⟩:=x;exact⟨k _ _ (.inl rfl) e,D q⟩
 |tbl ps=>
  have e:h.get? a=some {cls:=.none,data:=.fields ps}:=x;show h'.get? a=some {cls:=.none,data:=.fields ps};exact k a _ (.inl rfl) e
 |met f y=>
  have e:h.get? a=some (adQ (.ref f) (.ref y)):=x;show h'.get? a=some (adQ (.ref f) (.ref y));exact k a _ (.inl rfl) e
 |ext B=>obtain⟨p,⟨o,e⟩,st⟩:=x;exact⟨st _ _ p λo q=>k _ _ (.inl rfl) q,⟨o,k _ _ (.inl rfl) e⟩,st⟩
theorem HOk.lt(x:HOk P w H h)(e:H a=some o):a<h.objs.size:=(x a o e).lt
theorem HOk.fresh(x:HOk P w H h)(e:h.objs.size<=a):H a=none:=by
 cases q:H a with
 |none=>rfl
 |some u=>exact absurd (Zn (x.lt q) e) (aaK _)
theorem HOk.kept(x:HOk P w H h)(k:∀b u,h.get? b=some u->h'.get? b=some u):HOk P w H h':=λa o e=>
 (x a o e).stay (λb u _ q=>k b u q) (λ_ q=>q) λ_ _ q=>q
theorem HOk.laid(x:HOk P w H h)(k:∀b u,h.get? b=some u->h'.get? b=some u)(F:h.objs.size<=a)(new:cT P w (upd H a o) h' a o):HOk P w (upd H a o) h':=λb u e=>by
 have hn:=x.fresh F;by_cases U:b=a
 .subst U;rw[a_]at e;cases e;exact new
 .rw[aO U]at e
  exact(x b u e).stay (λc v _ q=>k c v q) (λc q=>by rw[aO (aU q hn)];exact q) λc xs q=>by rw[aO (aU q hn)];exact q
def Rd(H:Hp)(a:Addr)(u:HO):Prop:=H a=some u∨∃o,H a=some (.frz o u)
theorem Rd.ok{P:ZL}{u:HO}(r:Rd H a u)(x:HOk P w H h):cT P w H h a u:=by
 rcases r with r|⟨o,r⟩
 .exact x a u r
 .obtain⟨_,q⟩:=x a _ r
  exact q
def Mut:Option HO->Prop
 |some (.lst _)=>True
 |some (.dK _)=>True
 |some (.dT _)=>True
 |some (.set _ _)=>True
 |some (.ins _ _ _)=>True
 |some (.ext _)=>True
 |_=>False
variable{x e:Addr}{o':HO}
theorem HOk.write(ok:HOk P w H h)(mu:Mut (H x))(V:e=x∨H e=some (.own x))(k:∀b u,b≠e->h.get? b=some u->h'.get? b=some u)(D:∃u,h'.get? e=some u)
  (new:cT P w (upd H x o') h' x o'):HOk P w (upd H x o') h':=λb u q=>by
 have F:∀c y,H c=some (.own y)->c≠x:=λc y r z=>by subst z;rw[r]at mu;exact mu
 have I:∀c xs,H c=some (.tup xs)->c≠x:=λc xs r z=>by subst z;rw[r]at mu;exact mu
 by_cases U:b=x
 .subst U;rw[a_]at q;cases q;exact new
 .rw[aO U]at q
  by_cases B:b=e
  .have q':H b=some (.own x):=by
    rcases V with z|z
    .exact absurd (B.trans z) U
    .rw[B];exact z
   rw[q]at q';cases q';obtain⟨v,J⟩:=D;exact⟨v,by rw[B];exact J⟩
  .refine(ok b u q).stay (λc v Z r=>k c v ?_ r) (λc r=>by rw[aO (F c b r)];exact r) λc xs r=>by rw[aO (I c xs r)];exact r
   rcases Z with rfl|Z
   .exact B
   .rintro rfl
    rcases V with z|z
    .exact F c b Z z
    .rw[Z]at z;cases z;exact U rfl
structure Un(fs ex:List Addr)(H H':Hp)(h h':Heap):Prop where
 keep:∀b o,h.get? b=some o->H b=none->b∉fs->b∉ex->h'.get? b=some o
 slot:∀b o,h.get? b=some o->H b=none->b∈fs->b∉ex->∃sl,h'.get? b=some {o with slots:=sl}
 free:∀b o,h.get? b=some o->H b=none->b∉ex->H' b=none
 there:∀b o,h.get? b=some o->b∉ex->∃o',h'.get? b=some o'
 tups:∀b xs,H b=some (.tup xs)->H' b=some (.tup xs)
 frzs:∀b o u,H b=some (.frz o u)->H' b=some (.frz o u)
 tbls:∀b ps,H b=some (.tbl ps)->∃more,H' b=some (.tbl (ps++more))
section
variable{fs fs' ex ex':List Addr}{H H1 H2:Hp}{h h1 h2 h':Heap}{a x e:Addr}{o:HO}
theorem Un.any(u:Un fs ex H H1 h h1){b:Addr}{ob:Obj}(q:h.get? b=some ob)(n:H b=none)(J:b∉ex):∃sl,h1.get? b=some {ob with slots:=sl}:=by
 by_cases U:b∈fs
 .exact u.slot b ob q n U J
 .exact⟨ob.slots,u.keep b ob q n U J⟩
theorem Un.kept(k:∀b u,h.get? b=some u->h'.get? b=some u):Un fs ex H H h h':=
 ⟨λb ob q _ _ _=>k b ob q,λb ob q _ _ _=>⟨ob.slots,k b ob q⟩,λ_ _ _ n _=>n,λb ob q _=>⟨ob,k b ob q⟩,λ_ _ q=>q,λ_ _ _ q=>q,λ_ ps q=>⟨#[],by rw[q];simp⟩⟩
theorem Un.refl:Un fs ex H H h h:=Un.kept λ_ _ q=>q
theorem Un.laid(k:∀b u,h.get? b=some u->h'.get? b=some u)(F:h.objs.size<=a)(hn:H a=none):Un fs ex H (upd H a o) h h' where
 keep:=λb u q _ _ _=>k b u q
 slot:=λb u q _ _ _=>⟨u.slots,k b u q⟩
 free:=λb u q n _=>by rw[aO (Zg (Zn (Y_ q) F))];exact n
 there:=λb u q _=>⟨u,k b u q⟩
 tups:=λb xs q=>by rw[aO (aU q hn)];exact q
 frzs:=λb u xs q=>by rw[aO (aU q hn)];exact q
 tbls:=λb ps q=>⟨#[],by rw[aO (aU q hn),q];simp⟩
theorem Un.write(mu:Mut (H x))(V:e=x∨H e=some (.own x))(k:∀b u,b≠e->h.get? b=some u->h'.get? b=some u)(D:∃u,h'.get? e=some u):Un fs ex H (upd H x o) h h':=by
 have J:∀b,H b=none->b≠x:=λb n z=>by subst z;rw[n]at mu;exact mu
 have U:∀b,H b=none->b≠e:=λb n z=>by
  subst z;rcases V with r|r
  .exact J b n r
  .rw[n]at r;cases r
 have Z:∀b u,H b=some u->¬Mut (some u)->b≠x:=λb u q F z=>by subst z;rw[q]at mu;exact F mu
 refine⟨λb u q n _ _=>k b u (U b n) q,λb u q n _ _=>⟨u.slots,k b u (U b n) q⟩,λb u q n _=>by rw[aO (J b n)];exact n,λb u q _=>?_,
  λb xs q=>by rw[aO (Z b _ q λz=>z)];exact q,λb u xs q=>by rw[aO (Z b _ q λz=>z)];exact q,λb ps q=>⟨#[],by rw[aO (Z b _ q λz=>z),q];simp⟩⟩
 by_cases B:b=e
 .subst B;exact D
 .exact⟨u,k b u B q⟩
end
def trk(h:Heap)(H:Hp):List Addr:=(Z_ h.objs.size).filter λa=>(H a).isSome
def yZ(h:Heap)(H:Hp):Heap:=PySem.W.hideAll h (trk h H)
theorem Hw(h:Heap)(H:Hp):(yZ h H).objs.size=h.objs.size:=PySem.W.hideAll_size _ _
variable{o:Obj}
theorem K9(e:h.get? b=some o)(n:H b=none):(yZ h H).get? b=some o:=
 PySem.W.hideAll_get _ e λZ=>by
  have q:(H b).isSome=true:=(acv.mp Z).2;rw[n]at q;simp at q
theorem Py(e:(yZ h H).get? b=some o):h.get? b=some o/\H b=none:=by
 have N:h.get? b=some o:=PySem.W.of_hideAll (trk h H) e;refine⟨N,?_⟩;cases q:H b with
 |none=>rfl
 |some x=>
  have Z:b∈trk h H:=acv.mpr ⟨aa_.mpr (Y_ N),by simp[q]⟩;have z:(yZ h H).get? b=none:=PySem.W.hideAll_none (trk h H) Z;rw[z]at e;cases e
def Qh(g h:Heap)(L:Addr):List (Addr×Obj):=(Z_ h.objs.size).filterMap λa=>if a=L∨(g.get? a).isSome=true then none else(h.get? a).map λo=>(a,o)
def rest(g h:Heap)(L d:Addr):List (Addr×Obj):=(Qh g h L).filter λp=>decide (p.1≠d)
structure Mod(K:PySem.W.Frag)(mg:Str->Option Value)(base:Heap):Prop where
 kin:K.In base
 glob:base.Ns Zh mg
 blt:∃mb,base.Ns builtinsNs mb/\∀x:Str,x≠"__name__"->mb x=aa4 x
 nolimit:base.NoLimit
structure Cx where
 prog:ZL
 w:World
 K:YS
 mg:Str->Option Value
 base:Heap
 A:aad
 N:List Str
 s₀:Hq
 H₀:Hp
 env:Env
 outer:List Env
 stack:List Env
 ex:List Addr
 fn:Str->Bool
 calm:Bool
 pn:List (Addr×Obj)
 xe:Value->Hq->Prop
def frs(l:List Env):List Addr:=l.filterMap (·.frame)
noncomputable abbrev Cx.fs(X:Cx):List Addr:=frs X.outer
def Vis(z:Scope)(x:Str):Prop:=z.names.lookup x=some .local∨z.names.lookup x=some .cell∨z.names.lookup x=some .free
def Loc(z:Scope)(x:Str):Prop:=z.names.lookup x=some .local∨z.names.lookup x=some .cell
def Look(env:Env)(h:Heap)(m:Str->Option Value)(x:Str)(u:Value):Prop:=
 (env.kindOf x=some .local/\m x=some u)∨((env.kindOf x=some .cell∨env.kindOf x=some .free)/\∃c,env.cells.lookup x=some c/\h.IsCell c (some u))
structure Cx.Ok(X:Cx):Prop where
 mod:Mod X.K X.mg X.base
 kind:X.env.scope.kind= .function
 glob:X.env.globals=Zh
 blt:X.env.builtins=builtinsNs
 above:X.s₀.heap.objs.size<=X.env.locals
 inj:∀x y c,X.env.cells.lookup x=some c->X.env.cells.lookup y=some c->x=y
 has:∀x,(X.env.kindOf x=some .cell∨X.env.kindOf x=some .free)->∃c,X.env.cells.lookup x=some c
 cab:∀x c,X.fn x=true->X.env.cells.lookup x=some c->X.s₀.heap.objs.size<=c
 hd:X.calm=true->X.A.handled=none
 frames:X.A.frames=some X.stack
 stk:X.stack=X.outer∨(X.stack=X.env::X.outer/\X.env.frame=some X.env.locals)
 exf:∀b∈X.ex,b≠X.env.locals/\∀x c,X.env.cells.lookup x=some c->c≠b
 bs:∀b o,X.base.get? b=some o->X.s₀.heap.get? b=some o/\X.H₀ b=none
 bsz:X.base.objs.size<=X.s₀.heap.objs.size
 noex:∀b o,X.base.get? b=some o->b∉X.ex
 exfs:∀b∈X.ex,b∉X.fs
 funs:X.s₀.heap.FunFrames X.base X.outer
 frf:∀b∈X.fs,X.H₀ b=none
structure Inv(X:Cx)(pins:List (Addr×Obj))(σ:List (Option V))(H:Hp)(s:Shared):Prop where
 ok:X.Ok
 os:s.os=X.s₀.os
 bare:ac6 s.gens
 base:Un X.fs X.ex X.H₀ H X.s₀.heap s.heap
 loc:∃m,s.heap.Ns X.env.locals m/\∀(i:Nat)(x:Str)(v:V),X.N[i]? =some x->σ[i]? =some (some v)->Vis X.env.scope x->∃u,RelV v u/\Look X.env s.heap m x u
 cell:∀x c,X.env.cells.lookup x=some c->∃v,s.heap.IsCell c v
 free:H X.env.locals=none
 freeC:∀x c,X.env.cells.lookup x=some c->H c=none
 pin:∀p∈X.pn++pins,s.heap.get? p.1=some p.2/\H p.1=none/\p.1≠X.env.locals/\p.1∉X.fs/\∀v,p.2.data≠.cell v
 hok:HOk X.prog X.w H s.heap
 len:σ.length=X.N.length
variable{X:Cx}
theorem Cx.Ok.nofr(ok:X.Ok)(e:X.base.get? b=some o):b∉X.fs:=λU=>by
 have:=(ok.funs.mem U).1;rw[e]at this;cases this
variable{σ:List (Option V)}
theorem Inv.bs(I:Inv X pins σ H s):∀b o,X.base.get? b=some o->s.heap.get? b=some o/\H b=none:=λb o e=>
 ⟨I.base.keep b o (I.ok.bs b o e).1 (I.ok.bs b o e).2 (I.ok.nofr e) (I.ok.noex b o e),I.base.free b o (I.ok.bs b o e).1 (I.ok.bs b o e).2 (I.ok.noex b o e)⟩
theorem Inv.bk(I:Inv X pins σ H s):∀b o,X.base.get? b=some o->s.heap.get? b=some o:=λb o e=>(I.bs b o e).1
theorem Inv.mod(I:Inv X pins σ H s):Mod X.K X.mg X.base:=I.ok.mod
theorem Inv.kIn(I:Inv X pins σ H s):X.K.In s.heap:=I.ok.mod.kin.keeps I.bk
theorem Inv.lt(I:Inv X pins σ H s):X.env.locals<s.heap.objs.size:=let⟨_,hn,_⟩:=I.loc;hn.lt
theorem Inv.sz(I:Inv X pins σ H s):X.s₀.heap.objs.size<=s.heap.objs.size:=aas I.ok.above (abU I.lt)
theorem Inv.nofs(I:Inv X pins σ H s)(h:s.heap.objs.size<=a):a∉X.fs:=λU=>by
 obtain⟨_,o,N,_⟩:=I.ok.funs.mem U;exact absurd (Zn (Y_ N) (aas I.sz h)) (aaK _)
theorem Inv.cne(I:Inv X pins σ H s):∀x c,X.env.cells.lookup x=some c->c≠X.env.locals:=λx c e z=>by
 obtain⟨v,o,N,hd⟩:=I.cell x c e;obtain⟨m,⟨o',es,ep,J,D,_⟩,_⟩:=I.loc;rw[z,J]at N;cases N;rw[D]at hd;cases hd
theorem Inv.funs(I:Inv X pins σ H s):s.heap.FunFrames X.base X.outer:=by
 have all:∀(l:List Env),(∀b∈frs l,b∈X.fs)->X.s₀.heap.FunFrames X.base l->s.heap.FunFrames X.base l:=by
  intro l
  induction l with
  |nil=>intro _ _;trivial
  |cons env r F=>
   intro B Y;obtain⟨D,⟨L,o,V,hn,N,hd⟩,O⟩:=Y;have q:L∈X.fs:=B L (by unfold frs;rw[abq,V];exact ZW);obtain⟨sl,e⟩:=I.base.slot L o N (I.ok.frf L q) q λz=>I.ok.exfs L z q;exact⟨D,⟨L,_,V,hn,e,hd⟩,F (λb U=>B b (by unfold frs;rw[abq,V];exact Zw _ U)) O⟩
 exact all X.outer (λ_ U=>U) I.ok.funs
theorem Inv.stack(I:Inv X pins σ H s):s.heap.FunFrames X.base X.stack:=by
 rcases I.ok.stk with e|⟨e,V⟩
 .rw[e];exact I.funs
 .rw[e]
  obtain⟨m,hn,_⟩:=I.loc;refine .cons (by rw[I.ok.kind];decide) V hn ?_ I.funs;exact Heap.get?_none_of_le (aas I.ok.bsz I.ok.above)
theorem Inv.stkSub(I:Inv X pins σ H s):∀b∈frs X.stack,b∈X.env.locals::X.fs:=λb U=>by
 rcases I.ok.stk with e|⟨e,V⟩
 .rw[e]at U;exact Zw _ U
 .rw[e]at U
  unfold frs at U;rw[abq,V]at U;exact U
theorem Inv.stkFree(I:Inv X pins σ H s):∀b∈frs X.stack,H b=none:=λb U=>by
 rcases Za.mp (I.stkSub b U)with e|U
 .rw[e];exact I.free
 .obtain⟨_,o,ho,_⟩:=I.ok.funs.mem U
  exact I.base.free b o ho (I.ok.frf b U) λz=>I.ok.exfs b z U
theorem Inv.step(I:Inv X pins σ H s)
  (D:∀b∈ch,(b∈X.ex∨X.s₀.heap.objs.size<=b)/\b≠X.env.locals/\(∀x c,X.env.cells.lookup x=some c->c≠b)/\∀p∈X.pn++pins,p.1≠b)
  (keep:∀b o,b≠X.env.locals->b∉X.fs->b∉ch->s.heap.get? b=some o->H b=none->h'.get? b=some o)
  (slot:∀b o,b≠X.env.locals->b∈X.fs->b∉ch->s.heap.get? b=some o->H b=none->∃sl,h'.get? b=some {o with slots:=sl}) (free:∀b o,b∉ch->s.heap.get? b=some o->H b=none->H' b=none)
  (there:∀b o,b∉ch->s.heap.get? b=some o->∃o',h'.get? b=some o')
  (tups:∀b xs,H b=some (.tup xs)->H' b=some (.tup xs)) (frzs:∀b o u,H b=some (.frz o u)->H' b=some (.frz o u)) (tbls:∀b ps,H b=some (.tbl ps)->∃more,H' b=some (.tbl (ps++more)))
  (ns:∀m,s.heap.Ns X.env.locals m->h'.Ns X.env.locals m) (hok:HOk X.prog X.w H' h') (B:ac6 g') :
  Inv X pins σ H' {s with heap:=h',gens:=g',drawn:=d',toks:=t'}:=by
 have a1:∀b o,X.s₀.heap.get? b=some o->b≠X.env.locals:=λb o e=>Zg (Zn (Y_ e) I.ok.above);have a0:∀b o,X.s₀.heap.get? b=some o->b∉X.ex->b∉ch:=λb o e J U=>by
  rcases(D b U).1 with z|z
  .exact J z
  .exact absurd (Zn (Y_ e) z) (aaK _)
 have O:∀x c,X.env.cells.lookup x=some c->∀v,s.heap.IsCell c v->h'.IsCell c v:=λx c e v ⟨o,N,hd⟩=>by
  have Y:c∉ch:=λz=>(D c z).2.2.1 x c e rfl;by_cases Z:c∈X.fs
  .obtain⟨sl,q⟩:=slot c o (I.cne x c e) Z Y N (I.freeC x c e)
   exact⟨_,q,hd⟩
  .exact⟨o,keep c o (I.cne x c e) Z Y N (I.freeC x c e),hd⟩
 refine⟨I.ok,I.os,B,⟨λb o e n U J=>?_,λb o e n U J=>?_,λb o e n J=>?_,λb o e J=>?_,λb xs e=>tups b xs (I.base.tups b xs e),λb o xs e=>frzs b o xs (I.base.frzs b o xs e),λb ps e=>?_⟩,?_,λx c e=>?_,?_,λx c e=>?_,λp F=>?_,hok,I.len⟩
 .exact keep b o (a1 b o e) U (a0 b o e J) (I.base.keep b o e n U J) (I.base.free b o e n J)
 .obtain⟨sl,e1⟩:=I.base.slot b o e n U J
  obtain⟨a2,e2⟩:=slot b _ (a1 b o e) U (a0 b o e J) e1 (I.base.free b o e n J);exact⟨a2,e2⟩
 .obtain⟨o',e1⟩:=I.base.there b o e J
  exact free b o' (a0 b o e J) e1 (I.base.free b o e n J)
 .obtain⟨o',e1⟩:=I.base.there b o e J
  exact there b o' (a0 b o e J) e1
 .obtain⟨m1,e1⟩:=I.base.tbls b ps e
  obtain⟨m2,e2⟩:=tbls b _ e1;exact⟨m1++m2,by rw[e2,Array.append_assoc]⟩
 .obtain⟨m,hn,hl⟩:=I.loc
  refine⟨m,ns m hn,λi x v e1 e2 V=>?_⟩;obtain⟨u,r,l⟩:=hl i x v e1 e2 V;refine⟨u,r,?_⟩;rcases l with l|⟨k,c,e,z⟩
  .exact .inl l
  .exact .inr ⟨k,c,e,O x c e _ z⟩
 .obtain⟨v,z⟩:=I.cell x c e
  exact⟨v,O x c e v z⟩
 .obtain⟨m,⟨o,_,_,N,_⟩,_⟩:=I.loc
  exact free _ o (λz=>(D _ z).2.1 rfl) N I.free
 .obtain⟨v,o,N,hd⟩:=I.cell x c e
  exact free c o (λz=>(D c z).2.2.1 x c e rfl) N (I.freeC x c e)
 .obtain⟨e,n,ne,nf,d⟩:=I.pin p F
  have Y:p.1∉ch:=λz=>(D p.1 z).2.2.2 p F rfl;exact⟨keep p.1 p.2 ne nf Y e n,free p.1 p.2 Y e n,ne,nf,d⟩
theorem Inv.un(I:Inv X pins σ H s)(u:Un X.fs [] H H' s.heap h')(hok:HOk X.prog X.w H' h'):Inv X pins σ H' {s with heap:=h',toks:=t'}:=by
 obtain⟨m,⟨o,es,ep,N,r⟩,_⟩:=id I.loc;obtain⟨sl,O⟩:=u.any N I.free (by simp);exact I.step (g':=s.gens) (d':=s.drawn) (ch:=[]) (λ_ z=>nomatch z) (λb o _ U _ e n=>u.keep b o e n U (by simp)) (λb o _ U _ e n=>u.slot b o e n U (by simp)) (λb o _ e n=>u.free b o e n (by simp)) (λb o _ e=>u.there b o e (by simp)) u.tups u.frzs u.tbls (λB Z=>by
  obtain⟨o',q,V,J,F⟩:=Z;rw[N]at J;cases J;exact⟨_,q,V,O,F⟩) hok I.bare
theorem Inv.call(I:Inv X pins σ H s)(u:Un (frs X.stack) ch H H' s.heap h')(hok:HOk X.prog X.w H' h')(B:ac6 g')
  (D:∀b∈ch,(b∈X.ex∨X.s₀.heap.objs.size<=b)/\b≠X.env.locals/\(∀x c,X.env.cells.lookup x=some c->c≠b)/\∀p∈X.pn++pins,p.1≠b) :
  Inv X pins σ H' {s with heap:=h',gens:=g',drawn:=d',toks:=t'}:=by
 obtain⟨m,⟨o,es,ep,N,r⟩,_⟩:=id I.loc;obtain⟨sl,O⟩:=u.any N I.free λz=>(D _ z).2.1 rfl;exact I.step (ch:=ch) D (λb o O U Z e n=>u.keep b o e n (λz=>(Za.mp (I.stkSub b z)).elim O U) Z) (λb o _ _ Z e n=>u.any e n Z) (λb o Z e n=>u.free b o e n Z) (λb o Z e=>u.there b o e Z) u.tups u.frzs u.tbls (λm' Y=>by
  obtain⟨o',q,V,J,F⟩:=Y;rw[N]at J;cases J;exact⟨_,q,V,O,F⟩) hok B
theorem Inv.turned(I:Inv X pins σ H s)(k:∀b o,b≠it->s.heap.get? b=some o->h'.get? b=some o)(hn:H it=none)(O:it≠X.env.locals)
  (h1:it∈X.ex∨X.s₀.heap.objs.size<=it) (h2:∀x c,X.env.cells.lookup x=some c->c≠it) (B:∀p∈X.pn++pins,p.1≠it):Inv X pins σ H {s with heap:=h',toks:=t'}:=by
 have D:∀b u,H b=some u->b≠it:=λb u e z=>by rw[z,hn]at e;cases e
 refine I.step (g':=s.gens) (d':=s.drawn) (ch:=[it]) (λb U=>?_) (λb o _ _ Z e _=>k b o (λz=>Z (by simp[z])) e) (λb o _ _ Z e _=>⟨o.slots,k b o (λz=>Z (by simp[z])) e⟩) (λ_ _ _ _ n=>n)
  (λb o Z e=>⟨o,k b o (λz=>Z (by simp[z])) e⟩) (λ_ _ e=>e) (λ_ _ _ e=>e) (λb ps e=>⟨#[],by rw[e];simp⟩) (λm F=>?_) (λb u e=>?_) I.bare
 .have e:b=it:=by simpa using U
  subst e;exact⟨h1,O,h2,B⟩
 .obtain⟨o,es,ep,ho,r⟩:=F
  exact⟨o,es,ep,k _ o (ZV O) ho,r⟩
 .refine(I.hok b u e).stay (λc v Z q=>k c v ?_ q) (λ_ q=>q) λ_ _ q=>q
  rcases Z with z|z
  .rw[z];exact D b u e
  .exact D c _ z
theorem Inv.tok(I:Inv X pins σ H s)(t:Nat):Inv X pins σ H {s with toks:=t}:=I.un (h':=s.heap) (t':=t) Un.refl I.hok
theorem Inv.kept(I:Inv X pins σ H s)(k:∀b u,s.heap.get? b=some u->h'.get? b=some u):Inv X pins σ H {s with heap:=h',toks:=t'}:=I.un (Un.kept k) (I.hok.kept k)
theorem Inv.laid{o:HO}(I:Inv X pins σ H s)(k:∀b u,s.heap.get? b=some u->h'.get? b=some u)(F:s.heap.objs.size<=a)(new:cT X.prog X.w (upd H a o) h' a o) :
 Inv X pins σ (upd H a o) {s with heap:=h',toks:=t'}:=I.un (Un.laid k F (I.hok.fresh F)) (I.hok.laid k F new)
theorem Inv.write{o:HO}(I:Inv X pins σ H s)(mu:Mut (H x))(V:e=x∨H e=some (.own x))(k:∀b u,b≠e->s.heap.get? b=some u->h'.get? b=some u)(D:∃u,h'.get? e=some u)
 (new:cT X.prog X.w (upd H x o) h' x o):Inv X pins σ (upd H x o) {s with heap:=h',toks:=t'}:=I.un (Un.write mu V k D) (I.hok.write mu V k D new)
theorem Inv.weak{B:List (Option V)}(I:Inv X pins σ H s)(Y:B.length=σ.length)(w:∀(i:Nat) v,B[i]? =some (some v)->σ[i]? =some (some v)):Inv X pins B H s:=
 ⟨I.ok,I.os,I.bare,I.base,let⟨m,hn,hl'⟩:=I.loc;⟨m,hn,λi x v e1 e2 q=>hl' i x v e1 (w i v e2) q⟩,I.cell,I.free,I.freeC,I.pin,I.hok,Y.trans I.len⟩
theorem Inv.pins_of{q:List (Addr×Obj)}(I:Inv X pins σ H s)(h:∀p∈q,s.heap.get? p.1=some p.2/\H p.1=none/\p.1≠X.env.locals/\p.1∉X.fs/\∀v,p.2.data≠.cell v):Inv X q σ H s:=
 ⟨I.ok,I.os,I.bare,I.base,I.loc,I.cell,I.free,I.freeC,λp F=>(YL.mp F).elim (λz=>I.pin p (YW _ z)) (h p),I.hok,I.len⟩
variable{x:Str}
theorem Az(q:N.Nodup)(a:N[i]? =some x)(b:N[j]? =some x):i=j:=by
 obtain⟨h1,e1⟩:=List.getElem?_eq_some_iff.mp a;obtain⟨h2,e2⟩:=List.getElem?_eq_some_iff.mp b;exact(afK q).mp (e1.trans e2.symm)
variable{M:Model}{A:aad}{E:Value->Hq->Prop}{v:V}{Q:Unit->Hq->Prop}
theorem Io(I:Inv X pins σ H s)(hN:X.N.Nodup)(hi:X.N[i]? =some x)(J:Loc X.env.scope x)(r:RelV v u)
  (h:∀s',Inv X pins (σ.set i (some v)) H s'->(∃a,ace a s.heap s'.heap/\(a=X.env.locals∨X.env.cells.lookup x=some a))->Q () s') (hf:X.fn x=true∨X.env.scope.names.lookup x=some .local:=by first|exact .inl rfl|exact .inr rfl|assumption):wpAny M A (storeName X.env x u) Q E s:=by
 obtain⟨m,hn,hl⟩:=id I.loc;have a2:(X.env.scope.kind== .class||(X.env.scope.kind== .module&&X.env.locals !=X.env.globals))=false:=by rw[I.ok.kind];rfl
 have a1:i<σ.length:=by rw[I.len];exact(List.getElem?_eq_some_iff.mp hi).1
 have cne:=I.cne;have a0:∀{a:Addr}{h':Heap},(∃o,s.heap.get? a=some o/\H a=none)->ace a s.heap h'->HOk X.prog X.w H h':=λ{a h'} Y B b ob e=>by
  obtain⟨_,_,D⟩:=Y;refine(I.hok b ob e).stay (λc O Z q=>(B.2 c ?_).trans q) (λ_ q=>q) λ_ _ q=>q;rintro rfl;rcases Z with rfl|Z
  .rw[D]at e;cases e
  .rw[D]at Z;cases Z
 rcases J with hk|hk
 .refine wpAny_storeName_local hk hn (λh' a6 B=>?_) a2
  obtain⟨oL,_,_,a7,_⟩:=id hn;refine h _ ⟨I.ok,I.os,I.bare,⟨λb o e n U J=>?_,λb o e n U J=>?_,I.base.free,λb o e J=>?_,I.base.tups,I.base.frzs,I.base.tbls⟩,⟨_,a6,λj y v' e1 e2 e3=>?_⟩,λy c e=>?_,I.free,I.freeC,λp F=>?_,a0 ⟨oL,a7,I.free⟩ B,by simpa using I.len⟩ ⟨_,B,.inl rfl⟩
  .exact(B.2 b (Zg (Zn (Y_ e) I.ok.above))).trans (I.base.keep b o e n U J)
  .obtain⟨sl,e1⟩:=I.base.slot b o e n U J
   exact⟨sl,(B.2 b (Zg (Zn (Y_ e) I.ok.above))).trans e1⟩
  .obtain⟨o',e1⟩:=I.base.there b o e J
   exact⟨o',(B.2 b (Zg (Zn (Y_ e) I.ok.above))).trans e1⟩
  .by_cases hj:j=i
   .subst hj
    rw[hi]at e1;cases e1;rw[acP a1]at e2;cases e2;exact⟨u,r,.inl ⟨hk,by simp⟩⟩
   .rw[List.getElem?_set_ne (ZV hj)]at e2
    obtain⟨u',r',q⟩:=hl j y v' e1 e2 e3;refine⟨u',r',?_⟩;rcases q with⟨k,e⟩|⟨k,c,e,z⟩
    .refine .inl ⟨k,?_⟩
     have:y≠x:=λe=>hj (Az hN e1 (e▸hi));simp[this,e]
    .exact .inr ⟨k,c,e,z.sameBut B (cne y c e)⟩
  .obtain⟨O,z⟩:=I.cell y c e
   exact⟨O,z.sameBut B (cne y c e)⟩
  .obtain⟨e,n,ne,nf,d⟩:=I.pin p F
   exact⟨(B.2 p.1 ne).trans e,n,ne,nf,d⟩
 .have hfn:X.fn x=true:=by
   rcases hf with z|z
   .exact z
   .rw[z]at hk;cases hk
  obtain⟨c,Z⟩:=I.ok.has x (.inl hk);obtain⟨O,z⟩:=I.cell x c Z;refine wpAny_storeName_cell I.ok.kind hk Z z (λh' a3 B=>?_);obtain⟨oc,a5,a4⟩:=id z;refine h {s with heap:=h'} ⟨I.ok,I.os,I.bare,⟨λb o e n U J=>?_,λb o e n U J=>?_,I.base.free,λb o e J=>?_,I.base.tups,I.base.frzs,I.base.tbls⟩,⟨m,hn.sameBut B (ZV (cne x c Z)),λj y v' e1 e2 e3=>?_⟩,λy c' e=>?_,I.free,I.freeC,λp F=>?_,a0 ⟨oc,a5,I.freeC x c Z⟩ B,by simpa using I.len⟩ ⟨c,B,.inr Z⟩
  .exact(B.2 b (Zg (Zn (Y_ e) (I.ok.cab x c hfn Z)))).trans (I.base.keep b o e n U J)
  .obtain⟨sl,e1⟩:=I.base.slot b o e n U J
   exact⟨sl,(B.2 b (Zg (Zn (Y_ e) (I.ok.cab x c hfn Z)))).trans e1⟩
  .obtain⟨o',e1⟩:=I.base.there b o e J
   exact⟨o',(B.2 b (Zg (Zn (Y_ e) (I.ok.cab x c hfn Z)))).trans e1⟩
  .by_cases hj:j=i
   .subst hj
    rw[hi]at e1;cases e1;rw[acP a1]at e2;cases e2;exact⟨u,r,.inr ⟨.inl hk,c,Z,a3⟩⟩
   .rw[List.getElem?_set_ne (ZV hj)]at e2
    obtain⟨u',r',q⟩:=hl j y v' e1 e2 e3;refine⟨u',r',?_⟩;rcases q with q|⟨k,c',e,z'⟩
    .exact .inl q
    .refine .inr ⟨k,c',e,z'.sameBut B ?_⟩
     rintro rfl;exact hj (Az hN e1 (I.ok.inj _ _ _ e Z▸hi))
  .by_cases hcc:c'=c
   .subst hcc;exact⟨_,a3⟩
   .obtain⟨w2,z2⟩:=I.cell y c' e
    exact⟨w2,z2.sameBut B hcc⟩
  .obtain⟨e,n,ne,nf,d⟩:=I.pin p F
   refine⟨(B.2 p.1 ?_).trans e,n,ne,nf,d⟩;intro q;rw[q,a5]at e;have q':oc=p.2:=aah e;exact d O (by rw[←q'];exact a4)
theorem jX(I:Inv X pins σ H s)(q:X.N.Nodup)(hi:X.N[i]? =some x)(J:Loc X.env.scope x)(r:RelV v u)
  (h:∀s',Inv X pins (σ.set i (some v)) H s'->Q () s') (z:X.fn x=true∨X.env.scope.names.lookup x=some .local:=by first|exact .inl rfl|exact .inr rfl|assumption):wpAny M A (storeName X.env x u) Q E s:=
 Io I q hi J r (λs' Y _=>h s' Y) z
theorem Inv.call'(I:Inv X pins σ H s)(N:s'.os=s.os)(u:Un (frs X.stack) ch H H' s.heap s'.heap)(hok:HOk X.prog X.w H' s'.heap)(B:ac6 s'.gens)
  (D:∀b∈ch,(b∈X.ex∨X.s₀.heap.objs.size<=b)/\b≠X.env.locals/\(∀x c,X.env.cells.lookup x=some c->c≠b)/\∀p∈X.pn++pins,p.1≠b):Inv X pins σ H' s':=by
 obtain⟨h',g',d',t',o'⟩:=s';have e:o'=s.os:=N;subst e;exact I.call (g':=g') (t':=t') (d':=d') u hok B D
abbrev XK:=Value->Option Addr->Hp->Prop
abbrev St:=List (Option V)
abbrev VK:=V->Hp->Prop
abbrev TE:=St->Hp->VK->Prop
abbrev TT:=St->Hp->(Bool->Hp->Prop)->Prop
abbrev TA:=St->Hp->(List V->Hp->Prop)->Prop
structure Ends where
 nx:St->Hp->Prop
 rt:VK
 bk:St->Hp->Prop:=λ_ _=>False
 ct:St->Hp->Prop:=λ_ _=>False
abbrev TS:=Ends->St->Hp->Prop
def EP(X:Cx)(pins:List (Addr×Obj))(σ:St)(Q:VK)(u:Value)(s':Hq):Prop:=∃v H',Inv X pins σ H' s'/\RelV v u/\Q v H'
def TP(X:Cx)(pins:List (Addr×Obj))(σ:St)(Q:Bool->Hp->Prop)(b:Bool)(s':Hq):Prop:=∃H',Inv X pins σ H' s'/\Q b H'
def AP(X:Cx)(pins:List (Addr×Obj))(σ:St)(Q:List V->Hp->Prop)(us:List Value)(s':Hq):Prop:=∃vs H',Inv X pins σ H' s'/\Vals vs us/\Q vs H'
def SP(X:Cx)(pins:List (Addr×Obj))(D:Ends)(f:Flow)(s':Hq):Prop:=
 match f with
 |.next=>∃B H',Inv X pins B H' s'/\D.nx B H'
 |.brk=>∃B H',Inv X pins B H' s'/\D.bk B H'
 |.cont=>∃B H',Inv X pins B H' s'/\D.ct B H'
 |.ret u=>∃v B H',Inv X pins B H' s'/\RelV v u/\D.rt v H'
def PE(X:Cx)(e:Expr)(t:TE):Prop:=
 ∀(pins:List (Addr×Obj))(s:Hq)(σ:St)(H:Hp)(Q:VK),Inv X pins σ H s->t σ H Q->wpAny 1.12 X.A (eval e X.env) (EP X pins σ Q) X.xe s
def PT(X:Cx)(e:Expr)(t:TT):Prop:=
 ∀(pins:List (Addr×Obj))(s:Hq)(σ:St)(H:Hp)(Q:Bool->Hp->Prop),Inv X pins σ H s->t σ H Q->wpAny 1.12 X.A (aeD e X.env (eval e X.env)) (TP X pins σ Q) X.xe s
def PW(X:Cx)(e:Expr)(t:TT):Prop:=
 ∀(q:Sem Value)(pins:List (Addr×Obj))(s:Hq)(σ:St)(H:Hp)(Q:Bool->Hp->Prop),Inv X pins σ H s->t σ H Q->wpAny 1.12 X.A (aeD e X.env q) (TP X pins σ Q) X.xe s
variable{e:Expr}
theorem PW.pt{t:TT}(h:PW X e t):PT X e t:=h _
def PA(X:Cx)(es:List Expr)(t:TA):Prop:=
 ∀(pos:Pos)(pins:List (Addr×Obj))(s:Hq)(σ:St)(H:Hp)(Q:List V->Hp->Prop),Inv X pins σ H s->t σ H Q->wpAny 1.12 X.A (spliced (aaA pos (Zb es X.env))) (AP X pins σ Q) X.xe s
def PS(X:Cx)(st:Stmt)(t:TS):Prop:=
 ∀(pins:List (Addr×Obj))(s:Hq)(σ:St)(H:Hp)(D:Ends),Inv X pins σ H s->t D σ H->wpAny 1.12 X.A (exec st X.env) (SP X pins D) X.xe s
def PSs(X:Cx)(st:List Stmt)(t:TS):Prop:=
 ∀(pins:List (Addr×Obj))(s:Hq)(σ:St)(H:Hp)(D:Ends),Inv X pins σ H s->t D σ H->wpAny 1.12 X.A (execs st X.env) (SP X pins D) X.xe s
theorem thn{t:Sem α}{Q O:α->Hq->Prop}{s:Hq}(h:wpAny M A t Q E s)(q:∀a s,Q a s->O a s):wpAny M A t O E s:=aaG h q λ_ _ x=>x
section
variable{X:Cx}
def Il(i:Nat):TE:=λσ H Q=>∃v,σ[i]? =some (some v)/\Q v H
def tC(v:V):TE:=λ_ H Q=>Q v H
theorem Vm{i:Nat}{x:Str}{pos:Pos}(q:X.N[i]? =some x)(z:Vis X.env.scope x)(hd:1.21=false:=by decide)(V:(x==("__classdict__":Str))=false:=by decide):PE X (.Name x pos) (Il i):=by
 show 4;obtain⟨v,e,h⟩:=h;obtain⟨m,hn,Y⟩:=I.loc;obtain⟨u,r,l⟩:=Y i x v q e z;have B:EP X pins σ Q u s:=⟨v,H,I,r,h⟩;rcases l with⟨F,J⟩|⟨F,c,Z,D⟩
 .exact wpAny_Name (wpAny_loadName_local I.ok.kind F hn J B) hd
 .rcases F with F|F
  .exact wpAny_Name (wpAny_loadName_cell I.ok.kind F Z D B) hd
  .exact wpAny_Name (wpAny_loadName_free I.ok.kind F Z D B V) hd
theorem Vj{i j pos}:PE X (.Constant (.int i) j pos) (tC (.int i)):=λ_ _ _ H _ I h=>wpAny_Constant_int ⟨.int i,H,I.tok _,⟨_,rfl⟩,h⟩
theorem Wx{b j pos}:PE X (.Constant (.bool b) j pos) (tC (.bl b)):=λ_ _ _ H _ I h=>Constant_bool ⟨.bl b,H,I,rfl,h⟩
theorem Vw{j pos}:PE X (.Constant .none j pos) (tC .non):=λ_ _ _ H _ I h=>Constant_none ⟨.non,H,I,rfl,h⟩
theorem TF{x j pos}:PE X (.Constant (.str x) j pos) (tC (.str x)):=λ_ _ _ H _ I h=>Calls.Constant_str ⟨.str x,H,I.tok _,⟨_,rfl⟩,h⟩
def Gl(X:Cx)(x:Str):Prop:=X.env.kindOf x=some .globalImplicit
theorem zK{E:Value->Hq->Prop}{pins:List (Addr×Obj)}{s:Hq}{σ:St}{H:Hp}{x:Str}{u:Value}{pos:Pos}{Q:Value->Hq->Prop}(I:Inv X pins σ H s)(B:Gl X x)(Z:X.mg x=some u)(h:Q u s)
  (hd:1.21=false:=by decide):wpAny 1.12 X.A (eval (.Name x pos) X.env) Q E s:=
 adI I.ok.kind B (Calls.loadGlobal_global (by rw[I.ok.glob];exact I.mod.glob.keeps I.bk) Z h) hd
theorem qX{E:Value->Hq->Prop}{pins:List (Addr×Obj)}{s:Hq}{σ:St}{H:Hp}{x:Str}{u:Value}{pos:Pos}{Q:Value->Hq->Prop}(I:Inv X pins σ H s)(B:Gl X x)(Z:X.mg x=none)(z:aa4 x=some u)(h:Q u s)
  (hn:x≠"__name__":=by decide) (hd:1.21=false:=by decide):wpAny 1.12 X.A (eval (.Name x pos) X.env) Q E s:=by
 obtain⟨q,h1,h2⟩:=I.mod.blt;exact adI I.ok.kind B (Calls.loadGlobal_builtin (by rw[I.ok.glob];exact I.mod.glob.keeps I.bk) Z (by rw[I.ok.blt];exact h1.keeps I.bk) ((h2 x hn).trans z) h) hd
theorem Fj{x:Str}{v:V}{u:Value}{pos:Pos}(B:Gl X x)(Z:X.mg x=some u)(r:RelV v u)(hd:1.21=false:=by decide):PE X (.Name x pos) (tC v):=
 λ_ _ _ H _ I h=>zK I B Z ⟨v,H,I,r,h⟩ hd
theorem OJ{x:Str}{v:V}{u:Value}{pos:Pos}(B:Gl X x)(Z:X.mg x=none)(z:aa4 x=some u)(r:RelV v u)(hn:x≠"__name__":=by decide)(hd:1.21=false:=by decide):PE X (.Name x pos) (tC v):=
 λ_ _ _ H _ I h=>qX I B Z z ⟨v,H,I,r,h⟩ hn hd
variable{a b:Expr}{ta tb:TE}{pos:Pos}
variable{tA tB':TT}{rest:List Expr}
def Xx(t u:TT):TT:=λσ H Q=>t σ H λc H1=>if c=true then u σ H1 Q else Q false H1
def tOr(t u:TT):TT:=λσ H Q=>t σ H λc H1=>if c=true then Q true H1 else u σ H1 Q
def Xp(t:TT):TT:=λσ H Q=>t σ H λc H1=>Q (!c) H1
theorem O8(Y:PT X a tA):PW X (.BoolOp .And [a] pos) tA:=by
 intro q pins s σ H Q I h;refine isTrue_and (thn (Y pins s σ H Q I h) λc F e=>?_);cases c with
 |true=>exact isTrue_and_nil e
 |false=>exact e
theorem Tz(Y:PT X a tA):PW X (.BoolOp .Or [a] pos) tA:=by
 intro q pins s σ H Q I h;refine isTrue_or (thn (Y pins s σ H Q I h) λc F e=>?_);cases c with
 |false=>exact isTrue_or_nil e
 |true=>exact e
theorem Vx(Y:PT X a tA)(U:PW X (.BoolOp .And (b::rest) pos) tB'):PW X (.BoolOp .And (a::b::rest) pos) (Xx tA tB'):=by
 intro q pins s σ H Q I h;refine isTrue_and (thn (Y pins s σ H _ I h) λc F ⟨H1,N,q1⟩=>?_);cases c with
 |true=>exact U q pins F σ H1 Q N q1
 |false=>exact⟨H1,N,q1⟩
theorem X6(Y:PT X a tA)(U:PW X (.BoolOp .Or (b::rest) pos) tB'):PW X (.BoolOp .Or (a::b::rest) pos) (tOr tA tB'):=by
 intro q pins s σ H Q I h;refine isTrue_or (thn (Y pins s σ H _ I h) λc F ⟨H1,N,q1⟩=>?_);cases c with
 |true=>exact⟨H1,N,q1⟩
 |false=>exact U q pins F σ H1 Q N q1
theorem VF(Y:PT X a tA):PT X (.UnaryOp .Not a pos) (Xp tA):=by
 show 4;exact isTrue_not (Y pins s σ H (λc H1=>Q (!c) H1) I h)
def Sh(ta tb:TE):TE:=λσ H Q=>ta σ H λx H1=>∃c,x= .bl c/\if c=true then tb σ H1 Q else Q (.bl false) H1
def R9(ta:TE):TE:=λσ H Q=>ta σ H λx H1=>∃c,x= .bl c/\Q (.bl (!c)) H1
theorem V5{op}{t:TE}(h:PE X a t):PE X (.BoolOp op [a] pos) t:=λpins s σ H Q I V=>BoolOp_one (h pins s σ H Q I V)
theorem Us(Y:PE X a ta)(U:PE X (.BoolOp .And (b::rest) pos) tb):PE X (.BoolOp .And (a::b::rest) pos) (Sh ta tb):=by
 show 4;refine BoolOp_and (thn (Y pins s σ H _ I h) λv F ⟨x,H1,N,J,q1⟩=>?_);obtain⟨c,rfl,q1⟩:=q1;cases J;refine abN ?_;cases c with
 |true=>exact U pins F σ H1 Q N q1
 |false=>exact⟨.bl false,H1,N,rfl,q1⟩
theorem VD(Y:PE X a ta):PE X (.UnaryOp .Not a pos) (R9 ta):=by
 show 4;refine UnaryOp_ (thn (Y pins s σ H _ I h) λv F ⟨x,H1,N,J,q1⟩=>?_);obtain⟨c,rfl,q1⟩:=q1;cases J;exact not_of (abN ⟨.bl (!c),H1,N,rfl,q1⟩)
def tIf(t:TT)(ta tb:TE):TE:=λσ H Q=>t σ H λc H1=>if c=true then ta σ H1 Q else tb σ H1 Q
theorem Bl{c:Expr}(Z:PT X c tA)(Y:PE X a ta)(U:PE X b tb):PE X (.IfExp c a b pos) (tIf tA ta tb):=by
 show 4;refine wpAny_IfExp (thn (Z pins s σ H _ I h) λd F ⟨H1,N,q1⟩=>?_);cases d with
 |true=>exact Y pins F σ H1 Q N q1
 |false=>exact U pins F σ H1 Q N q1
end
def SqL(K:YS)(H:Hp)(a:Addr)(xs:List V):Prop:=
 Rd H a (.lst xs)∨
  ∃(o:Obj)(its:Array Value)(n:Nat),K.lookup a=some o/\o.cls= .type "list"/\o.dict=none/\o.data= .seq its n/\its.size<=YZ/\Vals xs its.toList
def SqT(K:YS)(H:Hp)(a:Addr)(xs:List V):Prop:=
 Rd H a (.tup xs)∨
  ∃(o:Obj)(its:Array Value)(n:Nat),K.lookup a=some o/\o.cls= .type "tuple"/\o.data= .seq its n/\its.size<=YZ/\Vals xs its.toList
def Yw:Value->Option V
 |.none=>some .non
 |.bool b=>some (.bl b)
 |.int i _=>some (.int i)
 |.str x _=>some (.str x)
 |.bytes b _=>some (.byt b)
 |.float b _=>some (.flt b)
 |.ref a=>some (.ref a)
 |.type n=>some (.ty n)
 |_=>none
theorem RelV.abs{x:V}(r:RelV x u):Yw u=some x:=by
 cases x with
 |non=>cases r;rfl
 |bl _=>cases r;rfl
 |int _=>obtain⟨t,rfl⟩:=r;rfl
 |str _=>obtain⟨t,rfl⟩:=r;rfl
 |byt _=>obtain⟨t,rfl⟩:=r;rfl
 |flt _=>obtain⟨t,rfl⟩:=r;rfl
 |ref _=>cases r;rfl
 |ty _=>cases r;rfl
theorem RelV.inj{x y:V}(r:RelV x u)(q:RelV y u):x=y:=aah (r.abs.symm.trans q.abs)
theorem Vals.inj:∀{xs ys:List V}{us:List Value},Vals xs us->Vals ys us->xs=ys
 |_,_,_,.nil,.nil=>rfl
 |_,_,_,.cons r t,.cons r' t'=>by rw[r.inj r',Vals.inj t t']
theorem SqL.of{K:YS}(h:H a=some (.lst xs)):SqL K H a xs:=.inl (.inl h)
theorem SqT.of{K:YS}(h:H a=some (.tup xs)):SqT K H a xs:=.inl (.inl h)
variable{σ:St}
theorem Inv.list(I:Inv X pins σ H s)(h:SqL X.K H a xs):∃its:List Value,Vals xs its/\PlainL s.heap a its.toArray/\xs.length<=YZ:=by
 rcases h with h|⟨o,its,n,q,Z,hd,B,O,r⟩
 .obtain⟨z,its,n,r,e⟩:=h.ok I.hok
  exact⟨its,r,⟨_,n,e,rfl,rfl,rfl⟩,z⟩
 .refine⟨its.toList,r,⟨o,n,I.kIn a o q,Z,hd,by simpa using B⟩,?_⟩
  have e:=r.length;simp![aa3]at e;omega
theorem Inv.tuple(I:Inv X pins σ H s)(h:SqT X.K H a xs):∃its:List Value,Vals xs its/\IsTup s.heap a its.toArray/\xs.length<=YZ:=by
 rcases h with h|⟨o,its,n,q,Z,B,O,r⟩
 .obtain⟨z,its,r,p⟩:=h.ok I.hok
  exact⟨its,r,p.t,z⟩
 .refine⟨its.toList,r,⟨o,I.kIn a o q,Z,n,by simpa using B⟩,?_⟩
  have e:=r.length;simp![aa3]at e;omega
variable{ys:List V}
theorem Inv.list_inj(I:Inv X pins σ H s)(h:SqL X.K H a xs)(h':SqL X.K H a ys):xs=ys:=by
 obtain⟨its,r,⟨o,n,e,_,_,d⟩,_⟩:=I.list h;obtain⟨its',F,⟨o',z,N,_,_,d'⟩,_⟩:=I.list h';rw[e]at N;cases N;rw[d]at d';injection d' with d1 _;have:its=its':=by simpa using congrArg Array.toList d1
 subst this;exact r.inj F
theorem Inv.tuple_inj(I:Inv X pins σ H s)(h:SqT X.K H a xs)(h':SqT X.K H a ys):xs=ys:=by
 obtain⟨its,r,⟨o,e,_,n,d⟩,_⟩:=I.tuple h;obtain⟨its',F,⟨o',N,_,z,d'⟩,_⟩:=I.tuple h';rw[e]at N;cases N;rw[d]at d';injection d' with d1 _;have:its=its':=by simpa using congrArg Array.toList d1
 subst this;exact r.inj F
abbrev Cx.wish(X:Cx)(E:Value->Hq->Prop):Cx:={X with xe:=E}
abbrev Cx.nox(X:Cx):Cx:=X.wish λ_ _=>False
theorem Cx.Ok.wish(ok:X.Ok)(E:Value->Hq->Prop):(X.wish E).Ok:=
 ⟨ok.mod,ok.kind,ok.glob,ok.blt,ok.above,ok.inj,ok.has,ok.cab,ok.hd,ok.frames,ok.stk,ok.exf,ok.bs,ok.bsz,ok.noex,ok.exfs,ok.funs,ok.frf⟩
theorem Cx.Ok.unwish(ok:(X.wish E).Ok):X.Ok:=
 ⟨ok.mod,ok.kind,ok.glob,ok.blt,ok.above,ok.inj,ok.has,ok.cab,ok.hd,ok.frames,ok.stk,ok.exf,ok.bs,ok.bsz,ok.noex,ok.exfs,ok.funs,ok.frf⟩
theorem Inv.wish(I:Inv X pins σ H s)(E:Value->Hq->Prop):Inv (X.wish E) pins σ H s:=⟨I.ok.wish E,I.os,I.bare,I.base,I.loc,I.cell,I.free,I.freeC,I.pin,I.hok,I.len⟩
variable{E:Value->Shared->Prop}
theorem Inv.unwish(I:Inv (X.wish E) pins σ H s):Inv X pins σ H s:=⟨I.ok.unwish,I.os,I.bare,I.base,I.loc,I.cell,I.free,I.freeC,I.pin,I.hok,I.len⟩
theorem SP.unwish{D:Ends}{f:Flow}(h:SP (X.wish E) pins D f s'):SP X pins D f s':=by
 cases f with
 |next=>obtain⟨B,H',I,q⟩:=h;exact⟨B,H',I.unwish,q⟩
 |brk=>obtain⟨B,H',I,q⟩:=h;exact⟨B,H',I.unwish,q⟩
 |cont=>obtain⟨B,H',I,q⟩:=h;exact⟨B,H',I.unwish,q⟩
 |ret u=>obtain⟨v,B,H',I,r,q⟩:=h;exact⟨v,B,H',I.unwish,r,q⟩
theorem PSs.nox{st:List Stmt}{t:TS}(h:PSs X.nox st t):PSs X st t:=λpins s σ H D I V=>
 aaG (h pins s σ H D (I.wish _) V) (λ_ _ q=>q.unwish) λ_ _ z=>aa7 z
section
variable{X:Cx}{st:Stmt}{rest:List Stmt}{t u:TS}{e:Expr}{te:TE}{pos:Pos}
def S8:TS:=λD σ H=>D.nx σ H
def X_(t u:TS):TS:=λD σ H=>t {D with nx:=u D} σ H
theorem RN:PSs X [] S8:=λ_ _ σ H _ I h=>adg ⟨σ,H,I,h⟩
theorem J8(h1:PS X st t)(h2:PSs X rest u):PSs X (st::rest) (X_ t u):=by
 intro pins s σ H D I h;refine wpAny_execs_cons (thn (h1 pins s σ H {D with nx:=u D} I h) λf F q=>?_);cases f with
 |next=>
  obtain⟨B,H',Y,q⟩:=q;exact h2 pins F B H' D Y q
 |ret v=>exact q
 |brk=>exact q
 |cont=>exact q
theorem Q4(h1:PS X st t):PSs X [st] t:=by
 intro pins s σ H D I h;refine wpAny_execs_cons (thn (h1 pins s σ H D I h) λf F q=>?_);cases f with
 |next=>exact adg q
 |ret v=>exact q
 |brk=>exact q
 |cont=>exact q
theorem Inv.quiet{pins:List (Addr×Obj)}{σ:St}{H:Hp}{s:Hq}(I:Inv X pins σ H s):interactive X.env=false:=by simp[interactive,I.ok.kind]
def M_(te:TE):TS:=λD σ H=>te σ H λ_ H1=>D.nx σ H1
theorem FW(V:PE X e te)(B:abz e none pos.line X.env=pure false:=by rfl):PS X (.Expr e pos) (M_ te):=by
 intro pins s σ H D I h;exact wpAny_Expr_any (thn (V pins s σ H _ I h) λv F ⟨x,H1,N,J,q1⟩=>⟨σ,H1,N,q1⟩) I.quiet B
def Ud(te:TE):TS:=λD σ H=>te σ H D.rt
theorem Dp(V:PE X e te):PS X (.Return (some e) pos) (Ud te):=by
 intro pins s σ H D I h;exact wpAny_Return_some (thn (V pins s σ H _ I h) λv F ⟨x,H1,N,J,q1⟩=>⟨x,σ,H1,N,J,q1⟩)
def XR(c:TT)(t u:TS):TS:=λD σ H=>c σ H λb H1=>if b=true then t D σ H1 else u D σ H1
theorem Sy{c:Expr}{a b:List Stmt}{tc:TT}(Z:PT X c tc)(Y:PSs X a t)(U:PSs X b u):PS X (.If c a b pos) (XR tc t u):=by
 intro pins s σ H D I h;refine wpAny_If (thn (Z pins s σ H _ I h) λd F ⟨H1,N,q1⟩=>?_);cases d with
 |true=>exact Y pins F σ H1 D N q1
 |false=>exact U pins F σ H1 D N q1
def TX:TS:=λ_ _ _=>False
theorem Oa:PS X st TX:=λ_ _ _ _ _ _ h=>h.elim
end
abbrev TG:=V->St->Hp->(St->Hp->Prop)->Prop
abbrev TGs:=List V->St->Hp->(St->Hp->Prop)->Prop
def PG(X:Cx)(target:Expr)(t:TG):Prop:=
 ∀(pins:List (Addr×Obj))(s:Hq)(σ:St)(H:Hp)(v:V)(u:Value)(Q:St->Hp->Prop),Inv X pins σ H s->RelV v u->t v σ H Q->
  wpAny 1.12 X.A (acy target X.env u) (λ_ s'=>∃B H',Inv X pins B H' s'/\Q B H') X.xe s
def PGs(X:Cx)(q:List Expr)(t:TGs):Prop:=
 ∀(pins:List (Addr×Obj))(s:Hq)(σ:St)(H:Hp)(vs:List V)(us:List Value)(Q:St->Hp->Prop),Inv X pins σ H s->Vals vs us->t vs σ H Q->
  wpAny 1.12 X.A (acW ((aaD q X.env).map (·.2)) us) (λ_ s'=>∃B H',Inv X pins B H' s'/\Q B H') X.xe s
abbrev Hn:=V->V->V->Hp->(Hp->Prop)->Prop
def RT(X:Cx)(t:Hn):Prop:=
 ∀(pins:List (Addr×Obj))(s:Hq)(σ:St)(H:Hp)(o i v:V)(q D u:Value)(Q:Hp->Prop),Inv X pins σ H s->RelV o q->RelV i D->RelV v u->t o i v H Q->
  wpAny 1.12 X.A (aeE q D u) (λ_ s'=>∃H',Inv X pins σ H' s'/\Q H') X.xe s
def w6(i:Nat):TG:=λv σ H Q=>Q (σ.set i (some v)) H
theorem zX(q:X.N.Nodup)(hi:X.N[i]? =some x)(J:Loc X.env.scope x)(V:X.fn x=true∨X.env.scope.names.lookup x=some .local:=by first|exact .inl rfl|exact .inr rfl|assumption):PG X (.Name x pos) (w6 i):=by
 intro pins s σ H v u Q I r h;exact wpAny_assign_Name (jX I q hi J r (λs' Y=>⟨_,H,Y,h⟩) V)
def O3:TGs:=λvs σ H Q=>vs=[]/\Q σ H
def JL(t:TG)(u:TGs):TGs:=λvs σ H Q=>∃v r,vs=v::r/\t v σ H λB H'=>u r B H' Q
theorem GQ:PGs X [] O3:=by
 intro pins s σ H vs us Q I r h;obtain⟨e,h⟩:=h;subst e;cases r;exact adR ⟨σ,H,I,h⟩
theorem Aq{t:TG}{u:TGs}(h1:PG X e t)(h2:PGs X es u)
  (B:(aaD (e::es) X.env).map (·.2)=acy e X.env::(aaD es X.env).map (·.2):=by rfl):PGs X (e::es) (JL t u):=by
 intro pins s σ H vs us Q I r h;obtain⟨v,q,e1,h⟩:=h;subst e1;cases r with
 |cons r z=>
  rw[B];refine abA (thn (h1 pins s σ H _ _ _ I r h) λ_ F ⟨J,H1,N,q1⟩=>?_);exact h2 pins F J H1 _ _ Q N z q1
def Ur(K:YS)(n:Nat)(t:TGs):TG:=λv σ H Q=>∃a xs,v= .ref a/\SqT K H a xs/\xs.length=n/\t xs σ H Q
variable{k:Nat}
theorem Ku{t:TGs}(Z:X.calm=true)(h:PGs X es t)
  (hn:(aaD es X.env).length=n:=by rfl) (z:(aaD es X.env).findIdx? (·.1)=none:=by rfl):PG X (.Tuple es k pos) (Ur X.K n t):=by
 intro pins s σ H v u Q I r V;obtain⟨a,xs,e1,D,Y,V⟩:=V;subst e1;cases r;obtain⟨its,B,U,O⟩:=I.tuple D;refine assign_Tuple_tuple (I.ok.hd Z) U (by simp[hn,←Y,B.length]) z λh' J=>?_;have N:Inv X pins σ H {s with heap:=h'}:=I.kept (t':=s.toks) λb o e=>J b o (Zg (Y_ e)) e;exact h pins _ σ H xs _ Q N (by simpa using B) V
def jq(to V:TE)(t:Hn):TG:=λv σ H Q=>to σ H λo H1=>V σ H1 λi H2=>t o i v H2 λY=>Q σ Y
theorem UT{o i:Expr}{to V:TE}{t:Hn}(N:PE X o to)(hi:PE X i V)(B:RT X t)
  (Y:∀v,acy (.Subscript o i pos) X.env v=(do
   let q ←aaY [v] (eval o X.env)
   let D ←aaY [v,q] (eval i X.env)
   acH pos
   aaY [v,q,D] (aeE q D v)
   release [v,q,D] []):=by intro _;rfl):PG X (.Subscript o i pos) (jq to V t):=by
 intro pins s σ H v u Q I r h;rw[Y];refine gD (aaz (thn (N pins s σ H _ I h) λq F ⟨x,H1,I1,J,q1⟩=>?_));refine gD (aaz (thn (hi pins F σ H1 _ I1 q1) λD O ⟨y,H2,z,Z,q2⟩=>?_));refine gD (abL (gD (aaz (thn (B pins O σ H2 x y v q D u _ z J Z r q2) λ_ s3 ⟨H3,U,q3⟩=>?_))));exact wpAny_release ⟨σ,H3,U,q3⟩
def KQ(te:TE)(g:TG):TS:=λD σ H=>te σ H λx H1=>g x σ H1 D.nx
variable{te:TE}
theorem N7{g:TG}(V:PE X e te)(z:PG X tg g)(B:abp [tg] e pos.line X.env=pure false:=by rfl)(U:ab3 [tg] e X.env=pure none:=by rfl)
  (h1:(aaD [tg] X.env).map (·.2)=[acy tg X.env]:=by rfl):PS X (.Assign [tg] e pos) (KQ te g):=by
 intro pins s σ H D I h;refine wpAny_Assign_stores (thn (V pins s σ H _ I h) λv F ⟨x,H1,N,J,q1⟩=>?_) B U;rw[h1];exact thn (z pins F σ H1 x v _ N J q1) λ_ O q=>q
theorem Nf(q:X.N.Nodup)(hi:X.N[i]? =some x)(J:Loc X.env.scope x)(V:PE X e te)(B:abz e (some (.Name x pos')) pos.line X.env=pure false:=by rfl)(Y:X.fn x=true∨X.env.scope.names.lookup x=some .local:=by first|exact .inl rfl|exact .inr rfl|assumption) :
  PS X (.Assign [.Name x pos'] e pos) (KQ te (w6 i)):=by
 intro pins s σ H D I h;refine wpAny_Assign_Name (thn (V pins s σ H _ I h) λv F ⟨y,H1,Z,U,q1⟩=>?_) B;exact jX Z q hi J U (λO z=>⟨_,H1,z,q1⟩) Y
def XD(i j:Nat)(ta:TA):TS:=λD σ H=>ta σ H λvs H1=>∃v w,vs=[v,w]/\D.nx ((σ.set i (some v)).set j (some w)) H1
variable{a:Expr}{ta:TA}
theorem TJ{b:Expr}{pt:Pos}{kt k2 pt2}(Z:X.calm=true)(hN:X.N.Nodup)(hi:X.N[i]? =some x)(hj:X.N[j]? =some y)(a1:i≠j)
  (J:X.env.scope.names.lookup x=some .local) (U:X.env.scope.names.lookup y=some .local) (Y:PA X [a,b] ta)
  (V:ab3 [.Tuple [.Name x px,.Name y py] kt pt] (.Tuple [a,b] k2 pt2) X.env=pure (some [x,y]))
  (B:abp [.Tuple [.Name x px,.Name y py] kt pt] (.Tuple [a,b] k2 pt2) pos.line X.env=pure false:=by rfl) :
  PS X (.Assign [.Tuple [.Name x px,.Name y py] kt pt] (.Tuple [a,b] k2 pt2) pos) (XD i j ta):=by
 intro pins s σ H D I h;rw[adh];refine gD (abL ?_);rw[B];refine gD (YQ ?_);rw[Zk (by decide)];refine gD (Tuple_ (thn (Y _ pins s σ H _ I h) λus F ⟨vs,H1,I1,r1,q1⟩=>?_));obtain⟨v,w,e1,q1⟩:=q1;subst e1;obtain⟨u1,u2,rfl,rv,a0⟩:∃u1 u2,us=[u1,u2]/\RelV v u1/\RelV w u2:=by
  cases r1 with
  |cons p q=>
   cases q with
   |cons p' q'=>
    cases q';exact⟨_,_,rfl,p,p'⟩
 refine aat ?_ (by show 2<=YZ;decide);have z:Inv X pins σ H1 {F with heap:=F.heap.push {cls:=.type "tuple",data:=.seq [u1,u2].toArray}}:=I1.kept (t':=F.toks) λb o e=>YM _ e;rw[V];refine gD (YQ ?_);show wpAny 1.12 X.A (do rule "assign.swapped-stores";let items ←unpackItems (.ref F.heap.objs.size) 2 none;acW [λv=>acj X.env y v,λv=>acj X.env x v] items.reverse;pure afi) _ _ _;refine gD (adi (gD (unpackItems_tuple (items:=#[u1,u2]) (I.ok.hd Z) (IsTup.new F.heap _) λh' a2=>?_)));have I3:=z.kept (h':=h') (t':=F.toks) λb o e=>a2 b o (Zg (Y_ e)) e;show wpAny _ _ (acW [λv=>acj X.env y v,λv=>acj X.env x v] [u2,u1] >>=λ_=>pure afi) _ _ _;refine gD (abA (acI (jX I3 hN hj (.inl U) a0 (λO I4=>?_) (.inr U))));refine abA (acI (jX I4 hN hi (.inl J) rv (λs3 I5=>adR (YQ ?_)) (.inr J)));rw[adJ _ _ (ZV a1)]at I5;exact⟨_,H1,I5,q1⟩
def Lj(c:TT)(tb:TS):TS:=λD σ H=>∃W:Nat->St->Hp->Prop,(∃m,W m σ H)/\∀m σ H,W m σ H->
 c σ H λb H1=>if b=true then ∃N:St->Hp->Prop,(∀B H',N B H'->∃I,I<m/\W I B H')/\tb {D with nx:=N,ct:=N,bk:=D.nx} σ H1 else D.nx σ H1
variable{tb:TS}
theorem Mi{V:List Stmt}{tc:TT}(hp:afj 1.12 X.A X.env X.xe)(Z:PT X c tc)(U:PSs X V tb):PS X (.While c V [] pos) (Lj tc tb):=by
 intro pins s σ H D I h;obtain⟨W,⟨m0,w0⟩,a1⟩:=h;refine wpAny_While (codeAny_whileLoop (λn s'=>∃B H',Inv X pins B H' s'/\W n B H') ?_ m0 ⟨σ,H,I,w0⟩);rintro n F ⟨J,H1,I1,w1⟩;refine abH hp (thn (Z pins F J H1 _ I1 (a1 n J H1 w1)) λb O ⟨H2,z,q2⟩=>?_);cases b with
 |true=>
  obtain⟨N,q,q2⟩:=q2;rw[Zd rfl];refine abH hp (thn (U pins O J H2 _ z q2) λf s3 q3=>?_);cases f with
  |next=>
   obtain⟨a0,Y,I3,n3⟩:=q3;obtain⟨m',hm,w3⟩:=q a0 Y n3;exact⟨m',hm,a0,Y,I3,w3⟩
  |cont=>
   obtain⟨a0,Y,I3,n3⟩:=q3;obtain⟨m',hm,w3⟩:=q a0 Y n3;exact⟨m',hm,a0,Y,I3,w3⟩
  |brk=>exact q3
  |ret v=>exact q3
 |false=>
  rw[Zk aae];exact adg ⟨J,H2,z,q2⟩
structure It where
 go:Nat->Hp->Prop
 yld:Nat->Hp->V->Hp->Prop
 stop:Nat->Hp->Prop
def my(X:Cx)(pins:List (Addr×Obj))(H:Hp)(b:Addr):Prop:=
 H b=none/\b≠X.env.locals/\b∉X.fs/\(b∈X.ex∨X.s₀.heap.objs.size<=b)/\(∀x c,X.env.cells.lookup x=some c->c≠b)/\∀p∈X.pn++pins,p.1≠b
variable{s:Hq}
theorem Inv.fpOk(I:Inv X pins σ H s)(U:s.heap.objs.size<=b)(hn:H' b=none):my X pins H' b:=by
 refine⟨hn,abB (Zn I.lt U),I.nofs U,.inr (aas I.sz U),λx c e z=>?_,λp F z=>?_⟩
 .obtain⟨v,q⟩:=I.cell x c e
  exact absurd (Zn q.lt (by rw[z];exact U)) (aaK _)
 .exact absurd (Zn (Y_ (I.pin p F).1) (by rw[z];exact U)) (aaK _)
structure Turn(P:Program)(w:World)(K:PySem.W.Frag)(tg:Expr)(J:It)(fp:List Addr)(it:Addr)(tn:Nat->Heap->Prop):Prop where
 mem:it∈fp
 obj:∀i h,tn i h->∀b∈fp,∃o,h.get? b=some o/\∀v,o.data≠.cell v
 keep:∀i h h',tn i h->(∀b∈fp,∀o,h.get? b=some o->h'.get? b=some o)->tn i h'
 item:∀(X:Cx),X.prog=P->X.w=w->X.K=K->X.calm=true->∀(i:Nat)(pins:List (Addr×Obj))(s:Hq)(σ:St)(H:Hp)(E:Value->Hq->Prop),Inv X pins σ H s->(∀b∈fp,my X pins H b)->tn i s.heap->J.go i H->
  wpAny (model P w) X.A (pyNext (.ref it)) (λr s1=>∃u,r=some u/\
   wpAny (model P w) X.A (acw tg (.ref it) u) (λ_ s2=>∃x H',Inv X pins σ H' s2/\RelV x u/\J.yld i H x H'/\tn (i+1) s2.heap/\∀b∈fp,H' b=none) E s1) E s
 done:∀(X:Cx),X.prog=P->X.w=w->X.K=K->X.calm=true->∀(i:Nat)(pins:List (Addr×Obj))(s:Hq)(σ:St)(H:Hp)(E:Value->Hq->Prop),Inv X pins σ H s->(∀b∈fp,my X pins H b)->tn i s.heap->J.stop i H->
  wpAny (model P w) X.A (pyNext (.ref it)) (λr s1=>r=none/\Inv X pins σ H s1) E s
 self:∀(A:aad)(i:Nat)(s:Hq)(Q:Value->Hq->Prop)(E:Value->Hq->Prop),tn i s.heap->Q (.ref it) s->wpAny (model P w) A (ad5 (.ref it)) Q E s
abbrev TI:=St->Hp->(It->Hp->Prop)->Prop
def PIE(X:Cx)(pins:List (Addr×Obj))(σ:St)(tg:Expr)(R:It->Hp->Prop)(z:Value)(O:Hq):Prop:=
 ∃(it:Addr)(fp:List Addr)(q:Nat->Heap->Prop)(J:It)(H':Hp),z= .ref it/\Inv X pins σ H' O/\Turn X.prog X.w X.K tg J fp it q/\q 0 O.heap/\(∀b∈fp,my X pins H' b)/\R J H'
def PI(X:Cx)(tg iter:Expr)(wi:TI):Prop:=
 ∀(pins:List (Addr×Obj))(s:Hq)(σ:St)(H:Hp)(R:It->Hp->Prop),Inv X pins σ H s->wi σ H R->
  wpAny 1.12 X.A (eval iter X.env) (λv F=>wpAny 1.12 X.A (ad5 v) (PIE X pins σ tg R) X.xe F) X.xe s
theorem Gb   {E:Value->Hq->Prop}      {n:String} {vs:Array Value}  (N:s.heap.get? it=some o) (Z:o.cls = .type n) (hd:o.data = .fields vs)
    (hn:["enumerate", "zip", "dict_itemiterator", "dict_reverseitemiterator", "odict_iterator", "itertools.zip_longest", "itertools.pairwise"].contains n=false) (q:Q () s):wpAny M A (acw tg (.ref it) u) Q E s:=by
  unfold acw
  cases tg <;> first
    | exact YQ q
    | (cases u <;> first
        | exact YQ q
        | (refine gD (aeV N ?_)
           rw [Z,hd]
           show wpAny M A (if (["enumerate", "zip", "dict_itemiterator", "dict_reverseitemiterator", "odict_iterator", "itertools.zip_longest", "itertools.pairwise"].contains n && vs[0]? == some (acz _))=true then _ else _) Q E s
           rw [Zk (by intro h; rw [hn,Bool.false_and] at h; cases h)]
           exact YQ q))
def Itl(K:YS)(a:Addr):It:=
 ⟨λi H=>∃xs x,SqL K H a xs/\xs[i]? =some x,λi H x H'=>H'=H/\∀xs,SqL K H a xs->xs[i]? =some x,λi H=>∃xs,SqL K H a xs/\xs.length<=i⟩
def Itt(K:YS)(a:Addr):It:=
 ⟨λi H=>∃xs x,SqT K H a xs/\xs[i]? =some x,λi H x H'=>H'=H/\∀xs,SqT K H a xs->xs[i]? =some x,λi H=>∃xs,SqT K H a xs/\xs.length<=i⟩
def Itr(lo:Int)(n:Nat):It:=⟨λi _=>i<n,λi H x H'=>H'=H/\x= .int (lo+i),λi _=>n<=i⟩
variable{P:ZL}
theorem Hs{K:YS}(a it:Addr):Turn P w K tg (Itl K a) [it] it (λi h=>h.IsListIter it a i)where
 mem:=by simp
 obj:=λi h st b U=>by
  have e:b=it:=by simpa using U
  subst e;obtain⟨o,e,c,d⟩:=st;exact⟨o,e,λv z=>by rw[d]at z;cases z⟩
 keep:=λi h h' st k=>st.at λo e=>k it (by simp) o e
 item:=by
  intro X q hw F Z i pins s σ H E I V st B;subst q hw F;obtain⟨xs,x,D,J⟩:=B;obtain⟨its,rv,p,O⟩:=I.list D;obtain⟨u,hu,ru⟩:=rv.get J;obtain⟨f0,f1,f2,f3,f4,f5⟩:=V it (by simp);refine acQ st p.isList (x:=u) (by simpa using hu) λh' a0 sb=>?_;have N:Inv X pins σ H {s with heap:=h'}:=I.turned (t':=s.toks) (λb o U e=>(sb.2 b U).trans e) f0 f1 f3 f4 f5;obtain⟨o,e,c,d⟩:=id a0;exact⟨u,rfl,Gb (s:={s with heap:=h'}) e c d (by decide) ⟨x,H,N,ru,⟨rfl,λys hy=>by rw[I.list_inj hy D];exact J⟩,a0,λb U=>(V b U).1⟩⟩
 done:=by
  intro X q hw F Z i pins s σ H E I V st B;subst q hw F;obtain⟨xs,D,J⟩:=B;obtain⟨its,rv,p,O⟩:=I.list D;obtain⟨f0,f1,f2,f3,f4,f5⟩:=V it (by simp);have Y:=rv.length;exact ac7 (I.ok.hd Z) st p.isList (by simp;omega) λh' eb=>⟨rfl,I.turned (t':=s.toks) (λb o U e=>eb b o U e) f0 f1 f3 f4 f5⟩
 self:=λ_ _ _ _ _ st h=>wpAny_pyIter_listiter st h
theorem Ed{K:YS}(a it:Addr):Turn P w K tg (Itt K a) [it] it (λi h=>h.IsTupleIter it a i)where
 mem:=by simp
 obj:=λi h st b U=>by
  have e:b=it:=by simpa using U
  subst e;obtain⟨o,e,c,d⟩:=st;exact⟨o,e,λv z=>by rw[d]at z;cases z⟩
 keep:=λi h h' st k=>st.at λo e=>k it (by simp) o e
 item:=by
  intro X q hw F Z i pins s σ H E I V st B;subst q hw F;obtain⟨xs,x,D,J⟩:=B;obtain⟨its,rv,p,O⟩:=I.tuple D;obtain⟨u,hu,ru⟩:=rv.get J;obtain⟨f0,f1,f2,f3,f4,f5⟩:=V it (by simp);refine aei st (show s.heap.IsTuple a its.toArray from p) (x:=u) (by simpa using hu) λh' a0 sb=>?_;have N:Inv X pins σ H {s with heap:=h'}:=I.turned (t':=s.toks) (λb o U e=>(sb.2 b U).trans e) f0 f1 f3 f4 f5;obtain⟨o,e,c,d⟩:=id a0;exact⟨u,rfl,Gb (s:={s with heap:=h'}) e c d (by decide) ⟨x,H,N,ru,⟨rfl,λys hy=>by rw[I.tuple_inj hy D];exact J⟩,a0,λb U=>(V b U).1⟩⟩
 done:=by
  intro X q hw F Z i pins s σ H E I V st B;subst q hw F;obtain⟨xs,D,J⟩:=B;obtain⟨its,rv,p,O⟩:=I.tuple D;obtain⟨f0,f1,f2,f3,f4,f5⟩:=V it (by simp);have Y:=rv.length;exact aev (I.ok.hd Z) st (show s.heap.IsTuple a its.toArray from p) (by simp;omega) λh' eb=>⟨rfl,I.turned (t':=s.toks) (λb o U e=>eb b o U e) f0 f1 f3 f4 f5⟩
 self:=λ_ _ _ _ _ st h=>wpAny_pyIter_tupleiter st h
theorem Dh{K:YS}(it:Addr)(lo:Int)(n:Nat):Turn P w K tg (Itr lo n) [it] it (λi h=>IsRangeIter h it (lo+(i:Nat)*1) ((n:Int)-(i:Nat)) 1)where
 mem:=by simp
 obj:=λi h st b U=>by
  have e:b=it:=by simpa using U
  subst e;exact⟨_,st,λv z=>by
   have z':Data.fields _=Data.cell v:=z;cases z'⟩
 keep:=λi h h' st k=>k it (by simp) _ st
 item:=by
  intro X q hw F Z i pins s σ H E I V st B;subst q hw F;obtain⟨f0,O,f2,f3,D,J⟩:=V it (by simp);have W:=Walks.range (prog:=X.prog) (w:=X.w) (I.ok.hd Z) it lo 1 n;refine W.item i s _ _ B st λv h' tk hv Y kk=>?_;obtain⟨t,rfl⟩:=hv;have N:Inv X pins σ H {s with heap:=h',toks:=tk}:=I.turned (λb o U e=>kk b o (by simpa using U) e) f0 O f3 D J;refine⟨_,rfl,Gb (s:={s with heap:=h',toks:=tk}) (n:="range_iterator") Y rfl rfl (by decide) ⟨.int (lo+i),H,N,⟨t,?_⟩,⟨rfl,rfl⟩,Y,λb U=>(V b U).1⟩⟩;rw[Int.mul_one]
 done:=by
  intro X q hw F Z i pins s σ H E I V st B;subst q hw F;obtain⟨f0,O,f2,f3,D,J⟩:=V it (by simp);exact wpAny_pyNext_range_end (I.ok.hd Z) st (by have:n<=i:=B;omega) λh' eb=>⟨rfl,I.turned (t':=s.toks) (λb o U e=>eb b o U e) f0 O f3 D J⟩
 self:=λ_ _ _ _ _ st h=>wpAny_pyIter_rangeiter st h
theorem K5{R:It->Hp->Prop}{E:Value->Hq->Prop}{lo hi:Int}{t u v:Tok}(I:Inv X pins σ H s)(h1: -(2 ^ 62)<=lo)(h2:lo<2 ^ 62)(B: -(2 ^ 62)<=hi)(z:hi<2 ^ 62)
  (q:R (Itr lo (hi-lo).toNat) H):wpAny 1.12 X.A (ad5 (.ref s.heap.objs.size)) (PIE X pins σ tg R) E {s with heap:=s.heap.push {cls:=.type "range",data:=.fields #[.int lo t,.int hi u,.int 1 v]},toks:=tk}:=by
 refine wpAny_pyIter_range (IsRange.new ..) (small_one h1 h2 B z) ?_;have N:Inv X pins σ H {s with heap:=s.heap.push {cls:=.type "range",data:=.fields #[.int lo t,.int hi u,.int 1 v]},toks:=tk}:=I.kept λb o e=>YM _ e;refine⟨(s.heap.push {cls:=.type "range",data:=.fields #[.int lo t,.int hi u,.int 1 v]}).objs.size,[(s.heap.push {cls:=.type "range",data:=.fields #[.int lo t,.int hi u,.int 1 v]}).objs.size],_,_,H,rfl,
  N.kept (t':=tk) λb o e=>YM _ e,Dh _ lo (hi-lo).toNat,?_,λb U=>?_,q⟩
 .have e1:lo+((0:Nat):Int)*1=lo:=by simp
  have e2:(((hi-lo).toNat:Nat):Int)-((0:Nat):Int)=Builtin.Range.rangeSize lo hi 1:=by rw[rangeSize_one];split<;>omega
  show IsRangeIter _ _ (lo+((0:Nat):Int)*1) ((((hi-lo).toNat:Nat):Int)-((0:Nat):Int)) 1;rw[e1,e2];exact Zm _ rfl
 .have e:b=(s.heap.push {cls:=.type "range",data:=.fields #[.int lo t,.int hi u,.int 1 v]}).objs.size:=by simpa using U
  subst e;exact N.fpOk (YX _) (N.hok.fresh (YX _))
def R_(ta:TA):TI:=λσ H R=>ta σ H λvs H1=>∃j:Int,vs=[.int j]/\-(2 ^ 62)<=j/\j<2 ^ 62/\R (Itr 0 j.toNat) H1
theorem Hh{p:Pos}(D:Gl X "range")(Z:X.mg "range"=none)(Y:PA X [a] ta)(B:Zb [a] X.env=[(false,eval a X.env)]:=by rfl):PI X tg (.Call (.Name "range" p) [a] [] pos) (R_ ta):=by
 intro pins s σ H R I h;refine Call_ (qX I D Z boot_range (abC (thn (Y pos pins s σ H _ I h) λus F ⟨vs,H1,N,J,q1⟩=>?_) B rfl));obtain⟨j,e,q1,q2,q⟩:=q1;subst e;cases J with
 |cons r z=>
  cases z;obtain⟨t,rfl⟩:=r;exact call_range_1 (K5 N 1.11 1.11 q1 q2 (by simpa using q))
def Xz(wi:TI)(g:TG)(tb:TS):TS:=λD σ H=>wi σ H λJ H1=>∃W:Nat->Nat->St->Hp->Prop,(∃m,W 0 m σ H1)/\∀i m σ H,W i m σ H->
 (J.stop i H/\D.nx σ H)∨(J.go i H/\∃N:St->Hp->Prop,(∀B H',N B H'->∃I,I<m/\W (i+1) I B H')/\∀x H',J.yld i H x H'->g x σ H' λσ2 H2=>tb {D with nx:=N,ct:=N,bk:=D.nx} σ2 H2)
def mj(fp:List Addr)(h:Heap):List (Addr×Obj):=fp.filterMap λb=>(h.get? b).map λo=>(b,o)
theorem d_(U:b∈fp)(e:h.get? b=some o):(b,o)∈mj fp h:=adB.mpr ⟨b,U,by rw[e];rfl⟩
theorem tX{p:Addr×Obj}(F:p∈mj fp h):p.1∈fp/\h.get? p.1=some p.2:=by
 obtain⟨b,U,e⟩:=adB.mp F;cases q:h.get? b with
 |none=>rw[q]at e;cases e
 |some o=>
  rw[q]at e;have N:(b,o)=p:=aah e;subst N;exact⟨U,q⟩
theorem Inv.pinned(I:Inv X pins σ H s)(V:∀b∈fp,my X pins H b)(N:∀b∈fp,∃o,s.heap.get? b=some o/\∀v,o.data≠.cell v):Inv X (pins++mj fp s.heap) σ H s:=
 I.pins_of λp F=>(YL.mp F).elim (λz=>I.pin p (YJ _ z)) λz=>by
  obtain⟨U,e⟩:=tX z;obtain⟨q,O,D,_⟩:=V p.1 U;obtain⟨o,B,d⟩:=N p.1 U;rw[e]at B;cases B;exact⟨e,q,O,D,d⟩
theorem Inv.unpinned{pl:List (Addr×Obj)}(I:Inv X (pins++pl) σ H s):Inv X pins σ H s:=I.pins_of λp F=>I.pin p (YJ _ (YW _ F))
theorem U6{iter:Expr}{V:List Stmt}{wi:TI}{g:TG}(hp:afj 1.12 X.A X.env X.xe)(Z:X.calm=true)(hi:PI X tg iter wi)(hg:PG X tg g)(U:PSs X V tb)
  (B:∀x,aaE iter X.env x=pure x:=by intro _;rfl):PS X (.For tg iter V [] pos) (Xz wi g tb):=by
 intro pins s σ H D I h;refine wpAny_For (thn (hi pins s σ H _ I h) λv F h1=>thn h1 λb3 s2 h2=>?_) B;obtain⟨it,fp,tn,J,H2,e,z,T,b1,f2,W,⟨m0,w0⟩,a7⟩:=h2;subst e;have a3:∀{H':Hp},(∀b∈fp,H' b=none)->∀b∈fp,my X pins H' b:=λhn b U=>⟨hn b U,(f2 b U).2⟩;refine codeAny_forLoop_any (λn s'=>∃i a2 H',Inv X pins a2 H' s'/\tn i s'.heap/\(∀b∈fp,H' b=none)/\W i n a2 H') ?_ m0 ⟨0,σ,H2,z,b1,λb U=>(f2 b U).1,w0⟩;rintro n s3 ⟨i,a1,Y,I3,a6,a8,w3⟩;rcases a7 i n a1 Y w3 with⟨stop,qn⟩|⟨go,N,q,step⟩
 .refine abH hp (thn (T.done X rfl rfl rfl Z i pins s3 a1 Y X.xe I3 (a3 a8) a6 stop) λr s4 ⟨O,I4⟩=>?_)
  subst O;exact adg ⟨a1,Y,I4,qn⟩
 .refine abH hp (thn (T.item X rfl rfl rfl Z i pins s3 a1 Y X.xe I3 (a3 a8) a6 go) λr s4 ⟨u,O,h4⟩=>?_)
  subst O;refine abH hp (thn h4 λ_ s5 ⟨x,H5,I5,r5,y5,a5,b0⟩=>?_);have b2:=I5.pinned (a3 b0) (T.obj _ _ a5);refine abH hp (thn (hg _ s5 a1 H5 x u _ b2 r5 (step x H5 y5)) λ_ s6 ⟨a9,H6,I6,q6⟩=>?_);refine abH hp (thn (U _ s6 a9 H6 _ I6 q6) λf s7 q7=>?_);have a4:∀{a0:St}{H7:Hp},Inv X (pins++mj fp s5.heap) a0 H7 s7->N a0 H7->∃m,m<n/\∃i a2 H',Inv X pins a2 H' s7/\tn i s7.heap/\(∀b∈fp,H' b=none)/\W i m a2 H':=λ{a0 H7} I7 n7=>by
   obtain⟨m',hm,w7⟩:=q a0 H7 n7;refine⟨m',hm,i+1,a0,H7,I7.unpinned,T.keep _ _ _ a5 λb U o e=>(I7.pin (b,o) (YJ _ (YJ _ (d_ U e)))).1,λb U=>?_,w7⟩;obtain⟨o,e,d⟩:=T.obj _ _ a5 b U;exact(I7.pin (b,o) (YJ _ (YJ _ (d_ U e)))).2.1
  cases f with
  |next=>obtain⟨a0,H7,I7,n7⟩:=q7;exact a4 I7 n7
  |cont=>obtain⟨a0,H7,I7,n7⟩:=q7;exact a4 I7 n7
  |brk=>obtain⟨a0,H7,I7,q7⟩:=q7;exact⟨a0,H7,I7.unpinned,q7⟩
  |ret v=>obtain⟨x7,a0,H7,I7,r7,q7⟩:=q7;exact⟨x7,a0,H7,I7.unpinned,r7,q7⟩
abbrev R2:=V->V->Hp->VK->Prop
def OpR(X:Cx)(f:Value->Value->Sem Value)(r:R2):Prop:=
 ∀(pins:List (Addr×Obj))(s:Hq)(σ:St)(H:Hp)(x y:V)(v u:Value)(Q:VK),Inv X pins σ H s->RelV x v->RelV y u->r x y H Q->
  wpAny 1.12 X.A (f v u) (EP X pins σ Q) X.xe s
def UnR(X:Cx)(f:Value->Sem Value)(r:V->Hp->VK->Prop):Prop:=
 ∀(pins:List (Addr×Obj))(s:Hq)(σ:St)(H:Hp)(x:V)(v:Value)(Q:VK),Inv X pins σ H s->RelV x v->r x H Q->
  wpAny 1.12 X.A (f v) (EP X pins σ Q) X.xe s
def gA(X:Cx)(f:Value)(r:List V->Hp->VK->Prop):Prop:=
 ∀(pins:List (Addr×Obj))(s:Hq)(σ:St)(H:Hp)(xs:List V)(us:List Value)(Q:VK),Inv X pins σ H s->Vals xs us->r xs H Q->
  wpAny 1.12 X.A (call f us) (EP X pins σ Q) X.xe s
def Yx(X:Cx)(r:V->Hp->(Bool->Hp->Prop)->Prop):Prop:=
 ∀(pins:List (Addr×Obj))(s:Hq)(σ:St)(H:Hp)(x:V)(v:Value)(Q:Bool->Hp->Prop),Inv X pins σ H s->RelV x v->r x H Q->
  wpAny 1.12 X.A (truthy v) (TP X pins σ Q) X.xe s
def tOp(r:R2)(ta tb:TE):TE:=λσ H Q=>ta σ H λx H1=>tb σ H1 λy H2=>r x y H2 Q
def tUn(r:V->Hp->VK->Prop)(ta:TE):TE:=λσ H Q=>ta σ H λx H1=>r x H1 Q
def rI(C:Int->Int->Prop)(g:Int->Int->V):R2:=λx y H Q=>∃i j,x= .int i/\y= .int j/\C i j/\Q (g i j) H
def rI0(g:Int->Int->V):R2:=λx y H Q=>∃i j,x= .int i/\y= .int j/\Q (g i j) H
def rU(g:Int->V):V->Hp->VK->Prop:=λx H Q=>∃i,x= .int i/\Q (g i) H
variable{b:Expr}{f:Value->Value->Sem Value}{ta tb:TE}
theorem VJ(Y:PE X a ta)(U:PE X b tb){R:V->V->Hp->Prop}(I:Inv X pins σ H s)
  (h:ta σ H λx H1=>tb σ H1 λy H2=>R x y H2) {Q:Value->Hq->Prop} 
  (D:∀v u O x y H2,Inv X pins σ H2 O->RelV x v->RelV y u->R x y H2->wpAny 1.12 X.A (f v u) Q X.xe O) :
  wpAny 1.12 X.A (eval a X.env) (λv J=>wpAny 1.12 X.A (eval b X.env) (λu q=>wpAny 1.12 X.A (f v u) Q X.xe q) X.xe J) X.xe s:=by
 refine thn (Y pins s σ H _ I h) λv F ⟨x,H1,N,B,q1⟩=>?_;refine thn (U pins F σ H1 _ N q1) λu O ⟨y,H2,z,Z,q2⟩=>?_;exact D v u O x y H2 z B Z q2
variable{r:R2}
theorem Su{op:ad6}(N:OpR X (aaP op) r)(Y:PE X a ta)(U:PE X b tb):PE X (.BinOp a op b pos) (tOp r ta tb):=by
 show 4;exact wpAny_BinOp (VJ Y U I h λv u O x y H2 z rx Z q=>N pins O σ H2 x y v u Q z rx Z q)
theorem W0{op:UnaryOp}{r:V->Hp->VK->Prop}(N:UnR X (unaryOp op) r)(Y:PE X a ta):PE X (.UnaryOp op a pos) (tUn r ta):=by
 show 4;exact UnaryOp_ (thn (Y pins s σ H _ I h) λv F ⟨x,H1,q,J,q1⟩=>N pins F σ H1 x v Q q J q1)
theorem opI{C:Int->Int->Prop}
  (z:∀(i j:Int)(t u:Tok)(s:Hq)(Q:Value->Hq->Prop)(E:Value->Hq->Prop),C i j->Q (.int (g i j) s.toks) {s with toks:=s.toks+1}->wpAny 1.12 X.A (f (.int i t) (.int j u)) Q E s) :
  OpR X f (rI C λi j=>.int (g i j)):=by
 intro pins s σ H x y v u Q I rx B h;obtain⟨i,j,rfl,rfl,Z,q⟩:=h;obtain⟨t,rfl⟩:=rx;obtain⟨t',rfl⟩:=B;exact z i j t t' s _ _ Z ⟨.int (g i j),H,I.tok _,⟨_,rfl⟩,q⟩
theorem Ww
  (z:∀(i j:Int)(t u:Tok)(s:Hq)(Q:Value->Hq->Prop)(E:Value->Hq->Prop),Q (.int (g i j) s.toks) {s with toks:=s.toks+1}->wpAny 1.12 X.A (f (.int i t) (.int j u)) Q E s) :
  OpR X f (rI0 λi j=>.int (g i j)):=by
 show 2;exact z i j t t' s _ _ ⟨.int (g i j),H,I.tok _,⟨_,rfl⟩,q⟩
theorem V7{g:Int->Int->Bool}
  (z:∀(i j:Int)(t u:Tok)(s:Hq)(Q:Value->Hq->Prop)(E:Value->Hq->Prop),Q (.bool (g i j)) s->wpAny 1.12 X.A (f (.int i t) (.int j u)) Q E s) :
  OpR X f (rI0 λi j=>.bl (g i j)):=by
 show 2;exact z i j t t' s _ _ ⟨.bl (g i j),H,I,rfl,q⟩
def YD(i j:Int):Prop:=0<=j/\j<=1000000/\i.natAbs<2 ^ 64
def TV(i j:Int):Prop:=(-(2 ^ 64)<i/\i<2 ^ 64)∨(-(2 ^ 64)<j/\j<2 ^ 64)
theorem TV.ok{i j:Int}(h:TV i j):IntMulOk i j:=by
 rcases h with⟨h1,h2⟩|⟨h1,h2⟩
 .exact .of_left (intBits_le_64 h1 h2)
 .exact .of_right (intBits_le_64 h1 h2)
theorem U4:OpR X (aaP .Add) (rI0 λi j=>.int (i+j)):=Ww λ_ _ _ _ _ _ _ q=>add_int q
theorem T7:OpR X (aaP .Sub) (rI0 λi j=>.int (i-j)):=Ww λ_ _ _ _ _ _ _ q=>sub_int q
theorem Ve:OpR X (aaP .Mult) (rI TV λi j=>.int (i*j)):=opI λ_ _ _ _ _ _ _ Z q=>mul_int q Z.ok
theorem VB:OpR X (aaP .Mod) (rI (λ_ j=>0<j) λi j=>.int (i % j)):=opI λi j _ _ _ _ _ Z q=>by
 have h1:(0:Int)<j:=Z;exact mod_int' 1.11 (by rw[Int.fmod_eq_emod_of_nonneg i 1.11];exact q)
theorem Ul:OpR X (aaP .Pow) (rI YD λi j=>.int (i ^ j.toNat)):=opI λ_ _ _ _ _ _ _ Z q=>pow_int_small Z.1 Z.2.1 Z.2.2 q
theorem unI{f:Value->Sem Value}{g:Int->Int}
  (z:∀(i:Int)(t:Tok)(s:Hq)(Q:Value->Hq->Prop)(E:Value->Hq->Prop),Q (.int (g i) s.toks) {s with toks:=s.toks+1}->wpAny 1.12 X.A (f (.int i t)) Q E s) :
  UnR X f (rU λi=>.int (g i)):=by
 intro pins s σ H x v Q I rx h;obtain⟨i,rfl,q⟩:=h;obtain⟨t,rfl⟩:=rx;exact z i t s _ _ ⟨.int (g i),H,I.tok _,⟨_,rfl⟩,q⟩
theorem VH:UnR X (unaryOp .USub) (rU λi=>.int (-i)):=unI λ_ _ _ _ _ q=>neg_int q
theorem zW{Q:VK}{k Y:Bool}(I:Inv X pins σ H s)(q:Q (.bl k) H)(e:k=Y):EP X pins σ Q (.bool Y) s:=by
 subst e;exact⟨.bl k,H,I,rfl,q⟩
theorem W6:OpR X (aaa .Lt) (rI0 λi j=>.bl (decide (i<j))):=V7 λ_ _ _ _ _ _ _ q=>lt_int q
theorem Xe:OpR X (aaa .Gt) (rI0 λi j=>.bl (decide (j<i))):=V7 λ_ _ _ _ _ _ _ q=>gt_int q
theorem W4:OpR X (aaa .GtE) (rI0 λi j=>.bl (decide (j<=i))):=V7 λ_ _ _ _ _ _ _ q=>ge_int q
theorem Hj:OpR X (aaa .Lt) (λx y H Q=>∃i j,x= .str i/\y= .str j/\Q (.bl (decide (i.cps.toList<j.cps.toList))) H):=by
 show 2;exact lt_str (zW I q rfl)
theorem Jh:OpR X (aaa .In) (λx y H Q=>∃i j,x= .str i/\y= .str j/\Q (.bl (!(aaj j i 0 j.length 1).isEmpty)) H):=by
 show 2;exact in_str (zW I q rfl)
theorem V8:OpR X (aaa .Is) (λx y H Q=>y= .non/\Q (.bl (decide (x= .non))) H):=by
 intro pins s σ H x y v u Q I rx Z h;obtain⟨rfl,q⟩:=h;cases Z;refine is_none_gen (zW I q ?_);cases x<;>first
  |(cases rx;rfl)
  |(obtain⟨t,rfl⟩:=rx;rfl)
theorem PN:OpR X (aaa .IsNot) (λx y H Q=>y= .non/\Q (.bl (!decide (x= .non))) H):=by
 intro pins s σ H x y v u Q I rx Z h;obtain⟨rfl,q⟩:=h;cases Z;refine isnot_none_gen (zW I q ?_);cases x<;>first
  |(cases rx;rfl)
  |(obtain⟨t,rfl⟩:=rx;rfl)
theorem PL(N:OpR X (aaa op) r)(Y:PE X a ta)(U:PE X b tb)(B:acX op b=false):PE X (.Compare a [op] [b] pos) (tOp r ta tb):=by
 show 4;exact wpAny_Compare1 (VJ Y U I h λv u O x y H2 z rx Z q=>N pins O σ H2 x y v u Q z rx Z q) B
def KD(t:TE):TT:=λσ H Q=>t σ H λx H'=>∃k,x= .bl k/\Q k H'
theorem Gw(N:OpR X (aaa op) r)(Y:PE X a ta)(U:PE X b tb)(Z:acX op b=false):PT X (.Compare a [op] [b] pos) (KD (tOp r ta tb)):=by
 intro pins s σ H Q I h;refine wpAny_isTrue_Compare1 (thn (Y pins s σ H _ I h) λv F ⟨x,H1,I1,J,q1⟩=>thn (U pins F σ H1 _ I1 q1) λu O ⟨y,H2,B,r2,q2⟩=>
  thn (N pins O σ H2 x y v u _ B J r2 q2) λc s3 ⟨z,D,I3,q,k,e,V⟩=>?_) Z
 subst e;cases q;exact abN ⟨D,I3,V⟩
def PX(K:YS)(x:V)(H:Hp)(k:Bool):Prop:=
 match x with
 |.non=>k=false
 |.bl b=>k=b
 |.int i=>k=(i !=0)
 |.str y=>y.length<=YZ/\k=((y.length:Int)!=0)
 |.byt y=>y.size<=YZ/\k=((y.size:Int)!=0)
 |.ref p=>(∃xs,SqL K H p xs/\k= !xs.isEmpty)∨(∃xs,SqT K H p xs/\k= !xs.isEmpty)∨∃kvs,H p=some (.dK kvs)/\k= !kvs.isEmpty
 |_=>False
theorem Eo{kvs:List (κ×V)}{vs:List (κ×Value)}(r:KV kvs vs):(!vs.isEmpty)= !kvs.isEmpty:=by
 cases r<;>rfl
theorem wO(r:Vals xs its):(!its.toArray.isEmpty)= !xs.isEmpty:=by
 cases r<;>simp
theorem qP:(YZ:Nat)<2 ^ 63:=by rw[acr];decide
theorem Vh:Yx X (λx H Q=>∃k,PX X.K x H k/\Q k H):=by
 intro pins s σ H x v Q I rx h;obtain⟨k,e,q⟩:=h;have Y:=qP;have B:YZ=16777216:=acr;cases x with
 |non=>
  cases rx;have N:k=false:=e;subst N;exact truthy_none ⟨H,I,q⟩
 |bl b=>
  cases rx;have N:k=b:=e;subst N;exact abN ⟨H,I,q⟩
 |int i=>
  obtain⟨t,rfl⟩:=rx;have N:k=(i !=0):=e;subst N;exact PySem.P.truthy_int ⟨H,I,q⟩
 |str y=>
  obtain⟨t,rfl⟩:=rx;obtain⟨U,N⟩:y.length<=YZ/\k=((y.length:Int)!=0):=e;subst N;exact PySem.P.truthy_str 1.11 ⟨H,I.tok _,q⟩
 |byt y=>
  obtain⟨t,rfl⟩:=rx;obtain⟨U,N⟩:y.size<=YZ/\k=((y.size:Int)!=0):=e;subst N;exact PySem.W.truthy_bytes 1.11 ⟨H,I.tok _,q⟩
 |ref p=>
  cases rx;have N:(∃xs,SqL X.K H p xs/\k= !xs.isEmpty)∨(∃xs,SqT X.K H p xs/\k= !xs.isEmpty)∨∃kvs,H p=some (.dK kvs)/\k= !kvs.isEmpty:=e;rcases N with⟨xs,J,N⟩|⟨xs,J,N⟩|⟨kvs,J,N⟩
  .subst N
   obtain⟨its,r,pl,O⟩:=I.list J;have z:=r.length;exact wpAny_truthy_list pl.isList (by simp![List.size_toArray];omega) ⟨H,I.tok _,by rw[wO r];exact q⟩
  .subst N
   obtain⟨its,r,pl,O⟩:=I.tuple J;have z:=r.length;exact truthy_tuple pl (by simp![List.size_toArray];omega) ⟨H,I.tok _,by rw[wO r];exact q⟩
  .subst N
   obtain⟨O,D,vs,r,m⟩:kvs.length<=YZ/\(p==abP)=false/\∃vs,KV kvs vs/\s.heap.DictOf (aY X.prog X.w) p vs:=I.hok p _ J;have z:kvs.length=vs.length:=adH r;exact wpAny_truthy_dict D m 1.11 ⟨H,I.tok _,by rw[Eo r];exact q⟩
 |_=>exact(show False from e).elim
theorem KR(Y:PE X a ta)(V:∀q,aeD a X.env q=(do let v ←q;acH a.pos;aaY [v] (truthy v))) :
  PT X a (λσ H Q=>ta σ H λx H'=>∃k,PX X.K x H' k/\Q k H'):=by
 show 4;exact isTrue_plain (thn (Y pins s σ H _ I h) λv F ⟨x,H1,N,J,q1⟩=>Vh pins F σ H1 x v Q N J q1) (V _)
theorem CT:OpR X (aaP .Add) (λx y H Q=>∃i j,x= .str i/\y= .str j/\i.length+j.length<=YZ/\Q (.str (i++j)) H):=by
 intro pins s σ H x y v u Q I rx Z h;obtain⟨i,j,rfl,rfl,O,q⟩:=h;obtain⟨t,rfl⟩:=rx;obtain⟨t',rfl⟩:=Z;exact add_str (λt' tk=>⟨.str (i++j),H,I.tok _,⟨_,rfl⟩,q⟩) O
theorem vals1{x:V}(r:Vals [x] us):∃u,us=[u]/\RelV x u:=by
 cases r with
 |cons J Z=>cases Z;exact⟨_,rfl,J⟩
theorem vals2{x y:V}(r:Vals [x,y] us):∃u O,us=[u,O]/\RelV x u/\RelV y O:=by
 cases r with
 |cons J Z=>
  cases Z with
  |cons q F=>cases F;exact⟨_,_,rfl,J,q⟩
theorem Jq:gA X (.builtin "abs") (λxs H Q=>∃i,xs=[.int i]/\Q (.int (if i<0 then -i else i)) H):=by
 show 5;obtain⟨i,rfl,q⟩:=h;obtain⟨u,rfl,t,rfl⟩:=vals1 r;exact call_abs_int λu tk=>⟨.int (if i<0 then -i else i),H,I.tok _,⟨_,rfl⟩,q⟩
theorem Ie(Z:X.calm=true):gA X (.builtin "max") (λxs H Q=>∃i j,xs=[.int i,.int j]/\Q (.int (if j>i then j else i)) H):=by
 show 5;obtain⟨i,j,rfl,q⟩:=h;obtain⟨u,O,rfl,⟨t,rfl⟩,⟨t',rfl⟩⟩:=vals2 r;refine max_two_ints (I.ok.hd Z) λh' tk k=>⟨_,H,I.kept k,?_,q⟩;by_cases F:j>i
 .rw[Zd F,Zd F];exact⟨_,rfl⟩
 .rw[Zk F,Zk F];exact⟨_,rfl⟩
theorem Ii(Z:X.calm=true):gA X (.builtin "min") (λxs H Q=>∃i j,xs=[.int i,.int j]/\Q (.int (if j<i then j else i)) H):=by
 show 5;obtain⟨i,j,rfl,q⟩:=h;obtain⟨u,O,rfl,⟨t,rfl⟩,⟨t',rfl⟩⟩:=vals2 r;refine min_two_ints (I.ok.hd Z) λh' tk k=>⟨_,H,I.kept k,?_,q⟩;by_cases F:j<i
 .rw[Zd F,Zd F];exact⟨_,rfl⟩
 .rw[Zk F,Zk F];exact⟨_,rfl⟩
theorem H_:gA X (.type "int") (λxs H Q=>(∃i,xs=[.int i]/\Q (.int i) H)∨∃k,xs=[.bl k]/\Q (.int (if k then 1 else 0)) H):=by
 show 5;rcases h with⟨i,rfl,q⟩|⟨k,rfl,q⟩
 .obtain⟨u,rfl,t,rfl⟩:=vals1 r
  exact call_int_int ⟨.int i,H,I,⟨_,rfl⟩,q⟩
 .obtain⟨u,rfl,r1⟩:=vals1 r
  cases r1;exact call_int_bool ⟨.int (if k then 1 else 0),H,I.tok _,⟨_,rfl⟩,q⟩
structure De(h:Heap)(x dx C:Addr)(mA:Str->Option Value):Prop where
 obj:h.get? x=some (abh C dx)
 ns:h.Ns1 dx mA
 ne:dx≠x
theorem Hm(n:h.Ns1 dx mA):∃F,h.get? dx=some F/\∀name,adp name F=some (mA name):=by
 obtain⟨o,es,ep,N,hd,I,_,Z⟩:=n;refine⟨o,N,λname=>?_⟩;have e:=Z name;unfold nsFind findBy at e;rw[←Array.find?_toList]at e;unfold adp;rw[hd];dsimp only;split
 .rename_i y q
  rw[q]at e;exact congrArg some e
 .rename_i q
  rw[q]at e;have a:es.toList.any (·.refKey)=false:=by
   rw[List.any_eq_false];intro y U;obtain⟨z,t,D⟩:=I y (Array.mem_toList_iff.mp U);simp[DictEntry.refKey,D]
  have B:¬es.toList.any (·.refKey)=true:=by rw[a];exact aae
  rw[Zk B];exact congrArg some e
theorem De.look{x:Addr}(I:De h x dx C mA):∃F,PySem.W.InstAt h x (abh C dx) C (some F)/\∀name,adp name F=some (mA name):=
 let⟨F,ho,hl⟩:=Hm I.ns
 ⟨F,⟨I.obj,rfl,rfl,ho⟩,hl⟩
section
variable{prog:Program}{w:World}{A:Around}{E:Value->Shared->Prop}{s:Shared}{K:PySem.W.Frag}{x dx C f:Addr}{mA:Str->Option Value}{name:Str}{v:Value}
theorem O1{q:Bool}{Q:Value->Hq->Prop}(X:K.In s.heap)(I:De s.heap x dx C mA)(B:ack K C name=true)(N:acK K C=true)
  (Y:ZF K (.ref C) name=some none) (z:mA name=some v) (D:afL v=true) (h:Q v {s with toks:=s.toks+1}) :
  wpAny 1.16 A (getAttr (.ref x) name q) Q E s:=by
 obtain⟨F,J,O⟩:=I.look;exact PySem.W.get_value X J (ado B).1 (PySem.W.findObj_own N Y rfl (by rw[O,z])) D h
theorem Jl{pl:Sem Bool}{Q:Value×List Value->Hq->Prop}(X:K.In s.heap)(I:De s.heap x dx C mA)(B:ack K C name=true)
  (V:ZF K (.ref C) name=some (some (.ref f))) (U:aaB K (.ref f)=true) (z:mA name=none) (h:Q (.ref f,[.ref x]) s) :
  wpAny 1.16 A (acA (.ref x) name pl) Q E s:=by
 obtain⟨F,J,Y⟩:=I.look;exact PySem.W.method_fn X J (ado B).1 (ado B).2 V (beq_iff_eq.mp U) (by show(adp name F).map (·.isSome)=some false;rw[Y,z];rfl) h
theorem Rn{ns:List Str}{Q:Unit->Hq->Prop}(X:K.In s.heap)(I:De s.heap x dx C mA)
  (B:ZF K (.ref C) "__setattr__"=some (some (.builtin "object.__setattr__"))) (F:adS K C=true) (U:aep K C name=some none) (z:acK K C=true)
  (V:afh mA ns) (hsz:ns.length<=YZ)
  (h:∀h',De h' x dx C (λy=>if y=name then some v else mA y)->ace dx s.heap h'->Q () {s with heap:=h',toks:=s.toks+2}) :
  wpAny 1.16 A (setAttr (.ref x) name v) Q E s:=by
 obtain⟨od,J,Y⟩:=I.look;refine PySem.W.set_plain X J B (PySem.W.osa_open (s:={s with toks:=s.toks+1}) (r:=none) X J F U λb=>?_);obtain⟨cd,Z,D⟩:=PySem.W.any_some z;have hx:s.heap.get? x=some ⟨.ref C,some dx,.plain,#[]⟩:=I.obj;refine gD (YQ (gD (gD (wpAny_loadPart hx (gD (PySem.W.Looks.here (s:={s with toks:=s.toks+1}) (PySem.W.looks_clsIn X Z) ?_))))));rw[D];refine YQ (a:=some dx) (gD (YQ (gD ?_)));refine wpAny_nsSet1 (s:={s with toks:=s.toks+1}) I.ns λh' a0 q=>?_;obtain⟨oD,a2,a3,a1,O,N⟩:=a0.count (PySem.Within.cons name v V);refine gD (wpAny_lookBehind a1 (by rw[O];exact pastItsLine_dict (aas N (by rw[Zq];omega))) ?_);exact YQ (h _ ⟨(q.2 _ (ZV I.ne)).trans I.obj,a0,I.ne⟩ q)
theorem J6{R:ad7->Hq->Prop}{vs:List Value}{q:List (Str×Value)}(X:K.In s.heap)(Z:aeq K C=true)
  (hi:ZF K (.ref C) "__init__"=some (some (.ref f))) (V:PySem.W.typeIn K (.ref f)=some (.type "function"))
  (h:abt 1.16 (A.under (.builtin "type.__call__" ⟨.ref C::vs,q⟩)) (.call (.ref f) ⟨.ref (s.heap.objs.size+1)::vs,q⟩) (PySem.W.InitBack (s.heap.objs.size+1) R)
   {s with heap:=(s.heap.push aaS).push (abh C s.heap.objs.size)}) :
  abt 1.16 A (.call (.ref C) ⟨vs,q⟩) R s:=by
 obtain⟨z,g,d,t,os⟩:=s;exact PySem.W.make_core (PySem.W.makes_of X Z) (PySem.W.looks_findIn X hi) (λself=>PySem.W.bind_fn X self V) (.inl rfl) h
end
def lu(f:Str)(v:V):List (Str×V)->List (Str×V)
 |[]=>[(f,v)]
 |(g,x)::r=>if g=f then(g,v)::r else(g,x)::lu f v r
theorem uB(f g:Str)(v:V):∀fs:List (Str×V),(lu f v fs).lookup g=if g=f then some v else fs.lookup g
 |[]=>by
  show ab9 g [(f,v)]=_;by_cases h:g=f
  .have hb:(g==f)=true:=beq_iff_eq.mpr h
   simp![ab9,hb,Zd h]
  .have hb:(g==f)=false:=aaU.mpr h
   simp![ab9,hb,Zk h]
 |(k,x)::r=>by
  have N:=uB f g v r;rw[show lu f v ((k,x)::r)=(if k=f then(k,v)::r else(k,x)::lu f v r)from rfl];by_cases I:k=f
  .rw[Zd I]
   by_cases h:g=k
   .have hb:(g==k)=true:=beq_iff_eq.mpr h
    simp![ab9,hb,Zd (h.trans I)]
   .have hb:(g==k)=false:=aaU.mpr h
    simp![ab9,hb,Zk (λe:g=f=>h (e.trans I.symm))]
  .rw[Zk I]
   by_cases h:g=k
   .have hb:(g==k)=true:=beq_iff_eq.mpr h
    simp![ab9,hb,Zk (λe:g=f=>I (h.symm.trans e))]
   .have hb:(g==k)=false:=aaU.mpr h
    simp![ab9,hb];exact N
theorem t8(f:Str)(v:V):∀fs:List (Str×V),f∈(lu f v fs).map (·.1)/\∀g,g∈fs.map (·.1)->g∈(lu f v fs).map (·.1)
 |[]=>⟨by simp[lu],λg h=>by simp at h⟩
 |(k,x)::r=>by
  obtain⟨z,B⟩:=t8 f v r;rw[show lu f v ((k,x)::r)=(if k=f then(k,v)::r else(k,x)::lu f v r)from rfl];by_cases I:k=f
  .rw[Zd I]
   subst I;exact⟨by simp,λg h=>by simpa using h⟩
  .rw[Zk I]
   refine⟨?_,λg h=>?_⟩
   .rw[YT]
    exact Zw _ z
   .rw[YT]at h⊢
    rcases Za.mp h with e|e
    .exact Za.mpr (.inl e)
    .exact Zw _ (B g e)
theorem ux(f:Str)(v:V):∀fs:List (Str×V),(lu f v fs).length<=fs.length+1
 |[]=>by simp[lu]
 |(k,x)::r=>by
  have N:=ux f v r;rw[show lu f v ((k,x)::r)=(if k=f then(k,v)::r else(k,x)::lu f v r)from rfl];by_cases I:k=f
  .rw[Zd I,Zq,Zq];omega
  .rw[Zk I,Zq,Zq];omega
variable{o:Option Value}
theorem oA.some_of(r:oA (some v) o):∃u,o=some u/\RelV v u:=by
 cases o with
 |none=>exact(show False from r).elim
 |some u=>exact⟨u,rfl,r⟩
theorem oA.none_of(r:oA none o):o=none:=by
 cases o with
 |none=>rfl
 |some u=>exact(show False from r).elim
theorem Hk(r:RelV v u):afL u=true:=by
 cases v with
 |non=>cases (show u=aag from r);rfl
 |bl b=>cases (show u=adY b from r);rfl
 |int i=>obtain⟨t,e⟩:=(show ∃t,u=abT i t from r);cases e;rfl
 |str x=>obtain⟨t,e⟩:=(show ∃t,u=aci x t from r);cases e;rfl
 |byt b=>obtain⟨t,e⟩:=(show ∃t,u=Value.bytes b t from r);cases e;rfl
 |flt b=>obtain⟨t,e⟩:=(show ∃t,u=aeu b t from r);cases e;rfl
 |ref a=>cases (show u=ZD a from r);rfl
 |ty n=>cases (show u=abg n from r);rfl
section
variable{P:Program}{w:World}{H H':Hp}{h h':Heap}{a C dx:Addr}{fs fs':List (Str×V)}
theorem sV(hok:HOk P w H h)(e:H a=some (.ins C dx fs)):∃mA,De h a dx C mA/\(∀f,oA (fs.lookup f) (mA f))/\afh mA (fs.map (·.1))/\fs.length<=1000/\H dx=some (.own a):=by
 obtain⟨d,z,J,ob,mA,n,r,q⟩:=(show cT P w H h a (.ins C dx fs)from hok a _ e);exact⟨mA,⟨ob,n,J⟩,r,q,z,d⟩
end
structure Cls(K:PySem.W.Frag)(C:Addr):Prop where
 pg:ack K C Str.empty=true
 hd:acK K C=true
 po:adS K C=true
 sa:ZF K (.ref C) "__setattr__"=some (some (.builtin "object.__setattr__"))
theorem Cls.get{K:YS}(c:Cls K C)(f:Str):ack K C f=true:=c.pg
def lD(K:YS)(C:Addr)(f:Str):Prop:=ZF K (.ref C) f=some none
variable{f:Str}
theorem lD.taker{K:YS}(n:lD K C f):aep K C f=some none:=by
 unfold aep;rw[show ZF K (.ref C) f=some none from n];rfl
structure Meth(K:PySem.W.Frag)(C:Addr)(m:Str)(f:Addr):Prop where
 at_:ZF K (.ref C) m=some (some (.ref f))
 fn:aaB K (.ref f)=true
 kp:acf K (.ref f)=true
section
variable{X:Cx}{pins:List (Addr×Obj)}{σ:St}{H:Hp}{s:Shared}{a C dx:Addr}{fs:List (Str×V)}{f:Str}{v:V}{A:Around}{E:Value->Shared->Prop}
theorem CW{b:Bool}{Q:Value->Hq->Prop}(I:Inv X pins σ H s)(e:H a=some (.ins C dx fs))(c:Cls X.K C)(n:lD X.K C f)(l:fs.lookup f=some v)
  (h:∀u s',Inv X pins σ H s'->RelV v u->Q u s'):wpAny 1.12 A (getAttr (.ref a) f b) Q E s:=by
 obtain⟨mA,O,r,_,_,_⟩:=sV I.hok e;obtain⟨u,J,D⟩:=oA.some_of (v:=v) (o:=mA f) (by rw[←l];exact r f);exact O1 I.kIn O (c.get f) c.hd n J (Hk D) (h u _ (I.tok _) D)
theorem vD{m:Str}{g:Addr}{pl:Sem Bool}{Q:Value×List Value->Hq->Prop}(I:Inv X pins σ H s)(e:H a=some (.ins C dx fs))(c:Cls X.K C)(k:Meth X.K C m g)(l:fs.lookup m=none)
  (h:Q (.ref g,[.ref a]) s):wpAny 1.12 A (acA (.ref a) m pl) Q E s:=by
 obtain⟨mA,O,r,_,_,_⟩:=sV I.hok e;have hn:mA m=none:=oA.none_of (by rw[←l];exact r m);exact Jl I.kIn O (c.get m) k.at_ k.fn hn h
theorem DX{y:V}{u:Value}{Q:Unit->Hq->Prop}(I:Inv X pins σ H s)(e:H a=some (.ins C dx fs))(c:Cls X.K C)(n:lD X.K C f)(Y:fs.length<1000)(Z:RelV y u)
  (h:∀s',Inv X pins σ (upd H a (.ins C dx (lu f y fs))) s'->Q () s'):wpAny 1.12 A (setAttr (.ref a) f u) Q E s:=by
 obtain⟨mA,O,r,wi,_,N⟩:=sV I.hok e;have F:(fs.map (·.1)).length<=YZ:=by rw[Ze,acr];omega
 refine Rn I.kIn O c.sa c.po n.taker c.hd wi F λh' D J=>h _ ?_;have hd:∃o,h'.get? dx=some o:=let⟨o,_,_,e',_⟩:=D.ns;⟨o,e'⟩;refine I.write (x:=a) (e:=dx) (by rw[e];exact aau) (.inr N) (λb q U z=>(J.2 b U).trans z) hd ?_;refine⟨by rw[aO O.ne];exact N,?_,O.ne,D.obj,_,D.ns,λg=>?_,λg B=>?_⟩
 .have:=ux f y fs;omega
 .show oA ((lu f y fs).lookup g) (if g=f then some u else mA g)
  rw[uB];by_cases q:g=f
  .rw[Zd q,Zd q];exact Z
  .rw[Zk q,Zk q];exact r g
 .by_cases q:g=f
  .rw[q];exact(t8 f y fs).1
  .refine(t8 f y fs).2 g (wi g λz=>B ?_)
   show(if g=f then some u else mA g)=none;rw[Zk q];exact z
theorem Inv.made(I:Inv X pins σ H s):Inv X pins σ (upd (upd H s.heap.objs.size (.own (s.heap.objs.size+1))) (s.heap.objs.size+1) (.ins C s.heap.objs.size []))
  {s with heap:=(s.heap.push aaS).push (abh C s.heap.objs.size)}:=by
 have e1:(s.heap.push aaS).get? s.heap.objs.size=some aaS:=Zm s.heap rfl;have e2:((s.heap.push aaS).push (abh C s.heap.objs.size)).get? (s.heap.objs.size+1)=some (abh C s.heap.objs.size):=by
  have:=Zm (s.heap.push aaS) (o:=abh C s.heap.objs.size) rfl;rwa[aam]at this
 have z:(s.heap.push aaS).Ns s.heap.objs.size (λ_=>none):=⟨aaS,#[],_,e1,rfl,(λe V=>absurd V (by simp)),λ_=>rfl⟩;have N:=I.laid (a:=s.heap.objs.size) (o:=.own (s.heap.objs.size+1)) (h':=s.heap.push aaS) (t':=s.toks) (λb u q=>YM _ q) (YX _) ⟨_,e1⟩;refine N.laid (a:=s.heap.objs.size+1) (o:=.ins C s.heap.objs.size []) (t':=s.toks) (λb u q=>YM _ q) (Nat.le_of_eq (aam _ _)) ?_;have J:s.heap.objs.size≠s.heap.objs.size+1:=Zg (aaW _);refine⟨by rw[aO J,a_],abf _,J,e2,λ_=>none,(Heap.Ns1.of_empty z).at λo q=>YM _ q,λ_=>aau,λy U=>absurd rfl U⟩
theorem Pn{prog:ZL}{w:World}{env:Env}{e:Expr}{f:Str}{pos:Pos}{s:Hq}{Q:Value->Hq->Prop}(U:aa8 e f env (eval e env)=eval e env)
  (h:wpAny 1.16 A (eval e env) (λo J=>wpAny 1.16 A (getAttr o f true) Q E J) E s):wpAny 1.16 A (eval (.Attribute e f pos) env) Q E s:=
 Attribute_any_ h (by rw[arm_eval_Attribute,U])
end
def Wm(K:YS)(ta:TE)(f:Str):TE:=λσ H Q=>ta σ H λx H1=>∃a C dx fs v,x= .ref a/\H1 a=some (.ins C dx fs)/\Cls K C/\lD K C f/\fs.lookup f=some v/\Q v H1
def Yp(K:YS)(ta tv:TE)(f:Str):TS:=λD σ H=>tv σ H λy H1=>ta σ H1 λx H2=>∃a C dx fs,x= .ref a/\H2 a=some (.ins C dx fs)/\Cls K C/\lD K C f/\fs.length<1000/\
 D.nx σ (upd H2 a (.ins C dx (lu f y fs)))
def Rb(X:Cx)(op:ad6)(rd:V->V->Hp->VK->Prop):Prop:=
 ∀(pins:List (Addr×Obj))(s:Hq)(σ:St)(H:Hp)(x y:V)(u v:Value)(Q:VK),Inv X pins σ H s->RelV x u->RelV y v->rd x y H Q->wpAny 1.12 X.A (inplaceOp op u v) (EP X pins σ Q) X.xe s
theorem JT(V:PE X e ta)(U:aa8 e f X.env (eval e X.env)=eval e X.env):PE X (.Attribute e f pos) (Wm X.K ta f):=by
 show 4;refine Pn U (thn (V pins s σ H _ I h) λu F ⟨x,H1,N,rx,a,C,dx,fs,v,ex,B,c,n,l,q⟩=>?_);subst ex;obtain rfl:u=ZD a:=rx;exact CW N B c n l λJ O z D=>⟨v,H1,z,D,q⟩
variable{o:Expr}{tv:TE}
theorem V6(Y:PE X o ta)(z:PE X value tv)(B:abz value (some (.Attribute o f pos')) pos.line X.env=pure false):PS X (.Assign [.Attribute o f pos'] value pos) (Yp X.K ta tv f):=by
 intro pins s σ H D I h;refine plainObj_wpAny_Assign_Attribute (thn (z pins s σ H _ I h) λu F ⟨y,H1,N,Z,q⟩=>thn (Y pins F σ H1 _ N q) λov O ⟨x,H2,J,rx,a,C,dx,fs,ex,V,c,n,l,q2⟩=>?_) B;subst ex;obtain rfl:ov=ZD a:=rx;exact DX J V c n l Z λs3 U=>⟨σ,_,U,q2⟩
def Wf:V->V->Hp->VK->Prop:=λx y H Q=>∃i j,x= .int i/\y= .int j/\Q (.int (i+j)) H
def Xo:V->V->Hp->VK->Prop:=λx y H Q=>∃i j,x= .int i/\y= .int j/\Q (.int (i-j)) H
theorem VM:Rb X .Add Wf:=by
 rintro pins s σ H x y u v Q I rx Z ⟨i,j,rfl,rfl,q⟩;obtain⟨t,rfl⟩:=(show ∃t,u=abT i t from rx);obtain⟨t',rfl⟩:=(show ∃t',v=abT j t' from Z);exact PyProof.Rows.iadd_int ⟨.int (i+j),H,I.tok _,⟨_,rfl⟩,q⟩
theorem VG:Rb X .Sub Xo:=by
 rintro pins s σ H x y u v Q I rx Z ⟨i,j,rfl,rfl,q⟩;obtain⟨t,rfl⟩:=(show ∃t,u=abT i t from rx);obtain⟨t',rfl⟩:=(show ∃t',v=abT j t' from Z);exact PyProof.Rows.isub_int ⟨.int (i-j),H,I.tok _,⟨_,rfl⟩,q⟩
inductive ou(K:PySem.W.Frag)(H:Hp):V->Value->Prop where
 |non:ou K H .non (.type "NoneType")
 |bl (x:Bool):ou K H (.bl x) (.type "bool")
 |int (i:Int):ou K H (.int i) (.type "int")
 |str (x:Str):ou K H (.str x) (.type "str")
 |flt (x:UInt64):ou K H (.flt x) (.type "float")
 |lst {a:Addr} {xs:List V} (e:H a=some (.lst xs)):ou K H (.ref a) (.type "list")
 |frz {a:Addr} {o:Obj} {xs:List V} (e:H a=some (.frz o (.lst xs))):ou K H (.ref a) (.type "list")
 |tup {a:Addr} {xs:List V} (e:H a=some (.tup xs)):ou K H (.ref a) (.type "tuple")
 |dK {a:Addr} {kvs:List (Key×V)} (e:H a=some (.dK kvs)):ou K H (.ref a) (.type "dict")
 |dT {a:Addr} {kvs:List (List Key×V)} (e:H a=some (.dT kvs)):ou K H (.ref a) (.type "dict")
 |ins {a C dx:Addr} {fs:List (Str×V)} (e:H a=some (.ins C dx fs)) (cl:Cls K C) (ha:ZF K (.ref C) "__class__"=some (some (.builtin "object.__class__")))
  (hn:PySem.W.specialIn K (.builtin "object.__class__") "__get__"=some (some (.builtin "getset_descriptor.__get__"))) (htk:PySem.W.takesIn K (.builtin "object.__class__")=some true)
  (hm:PySem.W.mroIn K C (.type "object")=some true):ou K H (.ref a) (.ref C)
variable{b:Bool}{s:Shared}{A:Around}{Q:Value->Shared->Prop}{c:Value}
theorem Iw{x:V}{t:Value}(I:Inv X pins σ H s)(rx:RelV x u)(ty:ou X.K H x t)(e:adq X.K t c=some b)(h:∀tk,Q (.bool b) {s with toks:=tk}) :
  wpAny 1.12 A (call (.builtin "isinstance") [u,c]) Q E s:=by
 cases ty with
 |non=>cases (show u=aag from rx);exact aaM afA I.kIn aau e (λz=>nomatch z) h
 |bl y=>cases (show u=adY y from rx);exact aaM afB I.kIn aau e (λz=>nomatch z) h
 |int i=>obtain⟨t,q⟩:=(show ∃t,u=abT i t from rx);cases q;exact aaM afM I.kIn aau e (λz=>nomatch z) h
 |str y=>obtain⟨t,q⟩:=(show ∃t,u=aci y t from rx);cases q;exact aaM afN I.kIn aau e (λz=>nomatch z) h
 |flt y=>obtain⟨t,q⟩:=(show ∃t,u=aeu y t from rx);cases q;exact aaM afk I.kIn aau e (λz=>nomatch z) h
 |@lst a xs B=>
  cases (show u=ZD a from rx);obtain⟨_,_,n,_,h1⟩:=(show cT X.prog X.w H s.heap a (.lst xs)from I.hok a _ B);exact aaM acL I.kIn ⟨_,h1,rfl⟩ e (λz=>nomatch z) h
 |@frz a ob xs B=>
  cases (show u=ZD a from rx);obtain⟨_,_,_,n,_,h1⟩:=(show cT X.prog X.w H s.heap a (.frz ob (.lst xs))from I.hok a _ B);exact aaM acL I.kIn ⟨_,h1,rfl⟩ e (λz=>nomatch z) h
 |@tup a xs B=>
  cases (show u=ZD a from rx);obtain⟨_,_,_,p⟩:=(show cT X.prog X.w H s.heap a (.tup xs)from I.hok a _ B);obtain⟨o,h1,h2,_⟩:=p;exact aaM afl I.kIn ⟨o,h1,h2⟩ e (λz=>nomatch z) h
 |@dK a kvs B=>
  cases (show u=ZD a from rx);obtain⟨_,_,vs,_,p⟩:=(show cT X.prog X.w H s.heap a (.dK kvs)from I.hok a _ B);obtain⟨o,es,ep,h1,h2,_⟩:=p;exact aaM acM I.kIn ⟨o,h1,h2.1⟩ e (λz=>nomatch z) h
 |@dT a kvs B=>
  cases (show u=ZD a from rx);obtain⟨_,_,xs,_,o,es,ep,h1,h2,_⟩:=(show cT X.prog X.w H s.heap a (.dT kvs)from I.hok a _ B);exact aaM acM I.kIn ⟨o,h1,h2.1⟩ e (λz=>nomatch z) h
 |@ins a C dx fs B D Y hn N Z=>
  cases (show u=ZD a from rx);obtain⟨mA,O,_⟩:=sV I.hok B;obtain⟨F,J,_⟩:=O.look;exact aaM (afO (D.get _) D.hd Y hn N Z) I.kIn J e (λz=>nomatch z) h
structure gV(k:Nat)(A:Around):Prop where
 hd:A.handled=none
 dp:A.depth+3*k+5<recursionLimit
 un:A.units+16*k+200<cLine
 gd:A.guards=some []
variable{A:aad}
theorem gV.mono(r:gV k A)(h:j<=k):gV j A:=⟨r.hd,by have:=r.dp;omega,by have:=r.un;omega,r.gd⟩
theorem gV.deeper(r:gV (k+1) A)(env:Env):gV k (A.deeper env):=
 ⟨r.hd,by have:=r.dp;show A.depth+1+3*k+5<_;omega,by have:=r.un;show A.units+3+16*k+200<_;omega,r.gd⟩
theorem Df{q:List (Str×Value)}:(A.under (.builtin "type.__call__" ⟨.ref C::us,q⟩)).depth=A.depth+1:=by
 first|rfl|simp[afm,Code.weight,Code.isCreation,Code.isGuard,Code.isCaller,Code.frames,afn,guardIds]
theorem Dg{q:List (Str×Value)}:(A.under (.builtin "type.__call__" ⟨.ref C::us,q⟩)).units=A.units+1:=by
 first|rfl|simp[afm,Code.cUnits,Code.frames,afn]
theorem gV.make(r:gV (k+1) A)(C:Addr)(us:List Value)(q:List (Str×Value)):gV k (A.under (.builtin "type.__call__" ⟨.ref C::us,q⟩)):=
 ⟨r.hd,by have:=r.dp;rw[Df];omega,by have:=r.un;rw[Dg];omega,(by first|exact r.gd|(show pushGuards _ A.guards=_;rw[r.gd];rfl))⟩
theorem gV.depth(r:gV k A):A.depth<recursionLimit:=by have:=r.dp;omega
theorem gV.units(r:gV k A):A.units+64<cLine:=by have:=r.un;omega
def Ug:TA:=λ_ H Q=>Q [] H
def Gh(ta:TE)(q:TA):TA:=λσ H Q=>ta σ H λx H1=>q σ H1 λxs H2=>Q (x::xs) H2
section
variable{X:Cx}{e:Expr}{es:List Expr}{te:TE}{t:TA}{pos:Pos}
theorem Vq:PA X [] Ug:=λ_ _ _ _ H Q I h=>adT ⟨[],H,I,.nil,h⟩
theorem Aa(Y:PE X e te)(O:PA X es t)(B:Zb (e::es) X.env=(false,eval e X.env)::Zb es X.env:=by rfl):PA X (e::es) (Gh te t):=by
 intro pos pins s σ H Q I h;rw[B];show wpAny _ _ (spliced ((false,eval e X.env)::aaA pos (Zb es X.env))) _ _ s;refine afo (thn (Y pins s σ H _ I h) λu F ⟨x,H1,N,J,q1⟩=>?_);exact thn (O pos pins F σ H1 _ N q1) λus q ⟨xs,H2,z,Z,q2⟩=>⟨x::xs,H2,z,.cons J Z,q2⟩
def Yi(t:TA):TE:=λσ H Q=>t σ H λxs H1=>xs.length<=YZ/\∀p,H1 p=none->Q (.ref p) (upd H1 p (.tup xs))
def Yq(t:TA):TE:=λσ H Q=>t σ H λxs H1=>xs.length<=YZ/\∀p,H1 p=none->Q (.ref p) (upd H1 p (.lst xs))
theorem J9{x1}(h:PA X es t):PE X (.Tuple es x1 pos) (Yi t):=by
 intro pins s σ H Q I D;refine wpAny_Tuple_spliced (thn (h pos pins s σ H _ I D) λus F ⟨xs,H1,N,r,z,q⟩=>⟨by rw[←r.length];exact z,?_⟩);have V:H1 F.heap.objs.size=none:=N.hok.fresh (YX _);refine⟨.ref F.heap.objs.size,upd H1 F.heap.objs.size (.tup xs),N.laid (t':=F.toks) (λb u e=>YM _ e) (YX _) ?_,rfl,q _ V⟩;exact⟨z,us,r,⟨_,Zm _ rfl,rfl,_,rfl,rfl⟩⟩
theorem M9(h:PA X es t):PE X (.List es pos) (Yq t):=by
 intro pins s σ H Q I D;refine wpAny_List_spliced (thn (h pos pins s σ H _ I D) λus F ⟨xs,H1,N,r,z,q⟩=>⟨by rw[←r.length];exact z,?_⟩);have V:H1 F.heap.objs.size=none:=N.hok.fresh (YX _);refine⟨.ref F.heap.objs.size,upd H1 F.heap.objs.size (.lst xs),N.laid (t':=F.toks) (λb u e=>YM _ e) (YX _) ?_,rfl,q _ V⟩;exact⟨z,us,0,r,Zm _ rfl⟩
end
abbrev Sp:=List V->Hp->VK->XK->Prop
abbrev CXT:=List Env->Hp->Hq->XK->Value->Hq->Prop
structure Dy(P:Program)(w:World)(K:PySem.W.Frag)(mg:Str->Option Value)(base:Heap)(A:Around)(outer:List Env)(s:Shared)(H:Hp):Prop where
 frames:A.frames=some outer
 mod:Mod K mg base
 bs:∀b o,base.get? b=some o->s.heap.get? b=some o/\H b=none
 bsz:base.objs.size<=s.heap.objs.size
 funs:s.heap.FunFrames base outer
 frf:∀b∈frs outer,H b=none
 hok:HOk P w H s.heap
 bare:ac6 s.gens
def CE(outer:List Env)(P:ZL)(w:World)(H:Hp)(s:Hq)(Q:VK)(u:Value)(s':Hq):Prop:=
 ∃v H',s'.os=s.os/\ac6 s'.gens/\Un (frs outer) [] H H' s.heap s'.heap/\HOk P w H' s'.heap/\RelV v u/\Q v H'
def CR(CX:CXT)(outer:List Env)(P:ZL)(w:World)(H:Hp)(s:Hq)(Q:VK)(E:XK)(r:ad7)(s':Hq):Prop:=
 match r with
 |.ok (.ret u)=>CE outer P w H s Q u s'
 |.ok _=>False
 |.error e=>CX outer H s E e s'
structure dD(P:Program)(w:World)(K:PySem.W.Frag)(mg:Str->Option Value)(base:Heap)(CX:CXT)(k:Nat)(f:Addr)(fd:FuncData)(ps:List Str)(sp:Sp):Prop where
 len:∀vs H Q E,sp vs H Q E->vs.length=ps.length
 run:∀(A:aad)(outer:List Env)(s:Hq)(H:Hp)(args:Args)(us:List Value)(vs:List V)(Q:VK)(E:XK),gV k A->Dy P w K mg base A outer s H->aeF s fd args (ps.zip us)->Vals vs us->sp vs H Q E->
  abt (model P w) A (.call (.ref f) args) (CR CX outer P w H s Q E) s
variable{f:Addr}{CX:CXT}
theorem dD.imp{K:YS}{sp D:Sp}(F:dD P w K mg base CX k f fd ps sp)
  (h:∀vs H Q E,D vs H Q E->sp vs H Q E):dD P w K mg base CX k f fd ps D:=
 ⟨λvs H Q E q=>F.len vs H Q E (h _ _ _ _ q),λA outer s H args us vs Q E O V U z B=>F.run A outer s H args us vs Q E O V U z (h _ _ _ _ B)⟩
theorem Dy.make{K:YS}{s:Hq}(e:Dy P w K mg base A outer s H)(C:Addr)(us:List Value)(q:List (Str×Value)) :
 Dy P w K mg base (A.under (.builtin "type.__call__" ⟨.ref C::us,q⟩)) outer s H:=⟨by first|exact e.frames|(simpa[afm,Code.envs,afn,pushEnvs]using e.frames),e.mod,e.bs,e.bsz,e.funs,e.frf,e.hok,e.bare⟩
theorem Inv.env0(I:Inv X pins σ H s):Dy X.prog X.w X.K X.mg X.base X.A X.stack s H:=
 ⟨I.ok.frames,I.ok.mod,I.bs,aas I.ok.bsz I.sz,I.stack,I.stkFree,I.hok,I.bare⟩
variable{s':Shared}
theorem Inv.after{Q:VK}(I:Inv X pins σ H s)(h:CE X.stack X.prog X.w H s Q u s'):EP X pins σ Q u s':=by
 obtain⟨v,H',os,bare,un,hok,r,q⟩:=h;obtain⟨B,g,d,t,F⟩:=s';obtain rfl:F=s.os:=os;exact⟨v,H',I.call (h':=B) (g':=g) (d':=d) (t':=t) (ch:=[]) un hok bare (λb z=>absurd z (by simp)),r,q⟩
def S_(sp:Sp)(dvs:List V)(E:XK)(t:TA):TE:=λσ H Q=>t σ H λvs H1=>sp (vs++dvs) H1 Q E
def XN(C:Addr)(sp:Sp)(dvs:List V)(E:XK)(t:TA):TE:=λσ H Q=>t σ H λvs H1=>∀x dx,H1 x=none->H1 dx=none->dx≠x->
 sp (.ref x::(vs++dvs)) (upd (upd H1 dx (.own x)) x (.ins C dx [])) (λv H2=>v= .non/\Q (.ref x) H2) E
def Binds(K:YS)(fd:ZP)(ps:List Str)(ds:List Value):Prop:=
 ∀(s:Hq)(us:List Value),K.In s.heap->(us++ds).length=ps.length->aeF s fd ⟨us,[]⟩ (ps.zip (us++ds))
theorem Binds.all{K:YS}(h:∀us:List Value,us.length=ps.length->bindArgs fd ⟨us,[]⟩=pure (ps.zip us)):Binds K fd ps []:=λs us _ Y=>by
 rw[Zu]at Y⊢;exact .of_eq (h us Y)
def wW(CX:CXT)(X:Cx)(E:XK):Prop:=∀(pins:List (Addr×Obj))(σ:St)(H:Hp)(s:Hq)(e:Value)(s':Hq),Inv X pins σ H s->CX X.stack H s E e s'->X.xe e s'
section
variable{X:Cx}{CX:CXT}{k:Nat}{f C:Addr}{fd:FuncData}{ps:List Str}{sp:Sp}{dvs:List V}{ds:List Value}{E:XK}{x m:Str}{p pos apos:Pos}{e o:Expr}{es:List Expr}{ta:TE}{t:TA}
theorem Dj{pins:List (Addr×Obj)}{σ:St}{H:Hp}{s:Hq}{Q:VK}{us:List Value}{vs:List V}(F:dD X.prog X.w X.K X.mg X.base CX k f fd ps sp)(O:gV k X.A)(U:Binds X.K fd ps ds)(hd:Vals dvs ds)(J:wW CX X E)
  (I:Inv X pins σ H s) (r:Vals vs us) (h:sp (vs++dvs) H Q E):wpAny 1.12 X.A (call (.ref f) us) (EP X pins σ Q) X.xe s:=by
 have Z:Vals (vs++dvs) (us++ds):=r.append hd;have Y:(us++ds).length=ps.length:=by rw[←Z.length];exact F.len _ _ _ _ h
 refine aeW (abD (F.run X.A X.stack s H ⟨us,[]⟩ (us++ds) (vs++dvs) Q E O I.env0 (U s us I.kIn Y) Z h) λr s' D=>?_);cases r with
 |error e=>exact J pins σ H s e s' I D
 |ok fl=>
  cases fl with
  |ret u=>exact I.after D
  |next=>exact aa7 D
  |brk=>exact aa7 D
  |cont=>exact aa7 D
theorem RL(F:dD X.prog X.w X.K X.mg X.base CX k f fd ps sp)(O:gV k X.A)(B:Gl X x)(Z:X.mg x=some (.ref f))(hk:acf X.K (.ref f)=true)(U:Binds X.K fd ps ds)(hd:Vals dvs ds)(J:wW CX X E)
  (Y:PA X (e::es) t) (D:1.21=false:=by decide) (V:Zb (e::es) X.env=(false,eval e X.env)::Zb es X.env:=by rfl) (z:(aaA pos (Zb es X.env)).any (·.1)=false:=by rfl) :
  PE X (.Call (.Name x p) (e::es) [] pos) (S_ sp dvs E t):=by
 show 4;refine abE (zK I B Z ?_ D);refine adC (h₀:=X.base) I.ok.mod.kin hk (thn (Y pos pins s σ H _ I h) λus s1 ⟨vs,H1,N,r,q⟩=>⟨N.kIn,?_⟩) V z;exact Dj F O U hd J N r q
structure Mk(K:PySem.W.Frag)(C f:Addr):Prop where
 makes:aeq K C=true
 init:ZF K (.ref C) "__init__"=some (some (.ref f))
 fn:aaB K (.ref f)=true
 kp:acf K (.ref C)=true
theorem KC{pins:List (Addr×Obj)}{σ:St}{H:Hp}{s:Hq}{Q:VK}{us:List Value}{vs:List V}(M:Mk X.K C f)(F:dD X.prog X.w X.K X.mg X.base CX k f fd ps sp)(O:gV (k+1) X.A)(U:Binds X.K fd ps ds)(hd:Vals dvs ds)
  (J:wW CX X E) (I:Inv X pins σ H s) (r:Vals vs us)
  (h:∀x dx,H x=none->H dx=none->dx≠x->sp (.ref x::(vs++dvs)) (upd (upd H dx (.own x)) x (.ins C dx [])) (λv H2=>v= .non/\Q (.ref x) H2) E) :
  wpAny 1.12 X.A (call (.ref C) us) (EP X pins σ Q) X.xe s:=by
 have D:=h (s.heap.objs.size+1) s.heap.objs.size (I.hok.fresh (adz _)) (I.hok.fresh (YX _)) (Zg (aaW _));have z:=Inv.made (C:=C) I;have Z:Vals (V.ref (s.heap.objs.size+1)::(vs++dvs)) (ZD (s.heap.objs.size+1)::(us++ds)):=.cons rfl (r.append hd);have Y:(ZD (s.heap.objs.size+1)::us++ds).length=ps.length:=by
  have e:=Z.length;rw[F.len _ _ _ _ D]at e;exact e.symm
 refine aeW (J6 (f:=f) I.kIn M.makes M.init (beq_iff_eq.mp M.fn) (abD (F.run _ X.stack _ _ ⟨ZD (s.heap.objs.size+1)::us,[]⟩ (ZD (s.heap.objs.size+1)::(us++ds)) _ _ E (O.make C us [])
  (z.env0.make C us []) (U _ (ZD (s.heap.objs.size+1)::us) z.kIn Y) Z D) λr s' q=>?_))
 cases r with
 |error e=>exact J pins σ _ _ e s' z q
 |ok fl=>
  cases fl with
  |ret u=>
   obtain⟨v,H',I3,B,ev,N⟩:=z.after q;subst ev;exact⟨B,⟨V.ref (s.heap.objs.size+1),H',I3,rfl,N⟩⟩
  |next=>exact aa7 q
  |brk=>exact aa7 q
  |cont=>exact aa7 q
theorem QX(M:Mk X.K C f)(F:dD X.prog X.w X.K X.mg X.base CX k f fd ps sp)(O:gV (k+1) X.A)(B:Gl X x)(Z:X.mg x=some (.ref C))(U:Binds X.K fd ps ds)(hd:Vals dvs ds)(J:wW CX X E)
  (Y:PA X (e::es) t) (D:1.21=false:=by decide) (V:Zb (e::es) X.env=(false,eval e X.env)::Zb es X.env:=by rfl) (z:(aaA pos (Zb es X.env)).any (·.1)=false:=by rfl) :
  PE X (.Call (.Name x p) (e::es) [] pos) (XN C sp dvs E t):=by
 show 4;refine abE (zK I B Z ?_ D);refine adC (h₀:=X.base) I.ok.mod.kin M.kp (thn (Y pos pins s σ H _ I h) λus s1 ⟨vs,H1,N,r,q⟩=>⟨N.kIn,?_⟩) V z;exact KC M F O U hd J N r q
end
structure bz(N P:List Str)(sc:Scope):Prop where
 kind:sc.kind= .function
 co:sc.isCoroutine=false
 gen:sc.isGenerator=false
 nd:N.Nodup
 pre:N.take P.length=P
 par:∀x∈P,sc.names.lookup x=some .local∨sc.names.lookup x=some .cell
 nofree:∀y∈sc.names,y.2≠.free
theorem yz:∀{binds:List (Str×Value)}{m:Str->Option Value},(∀v,(x,v)∉binds)->bindL q binds m x=m x
 |[],_,_=>rfl
 |(n,v)::r,m,h=>by
  unfold bindL;rw[yz λw V=>h w (Zw _ V)];split
  .have:x≠n:=by rintro rfl;exact h v ZW
   simp[this]
  .rfl
theorem xO:∀{binds:List (Str×Value)}{m:Str->Option Value},(∀v,(x,v)∉binds)->bindC q binds m x=m x
 |[],_,_=>rfl
 |(n,v)::r,m,h=>by
  unfold bindC;rw[xO λw V=>h w (Zw _ V)];split
  .rfl
  .have:x≠n:=by rintro rfl;exact h v ZW
   simp[this]
variable{v:Value}
theorem xW{q:Str->Option ac0}{x:Str}{v:Value}:∀{P:List Str}{vs:List Value}{i:Nat}{m:Str->Option Value},P.Nodup->P[i]? =some x->vs[i]? =some v->q x=some .local->
  bindL q (P.zip vs) m x=some v
 |[],_,_,_,_,h,_,_=>by simp at h
 |_::_,[],_,_,_,_,h,_=>by simp at h
 |p::P,w::vs,0,m,nd,h1,h2,hk=>by
  simp at h1 h2;subst h1;subst h2;show bindL q ((p,w)::P.zip vs) m p=_;unfold bindL;rw[yz λv z=>(Zv.mp nd).1 (aer z).1,Zd hk];simp
 |p::P,w::vs,i+1,m,nd,h1,h2,hk=>by
  show bindL q ((p,w)::P.zip vs) m x=_;unfold bindL;exact xW (i:=i) (Zv.mp nd).2 (by simpa using h1) (by simpa using h2) hk
theorem xN{q:Str->Option ac0}{x:Str}{v:Value}:∀{P:List Str}{vs:List Value}{i:Nat}{m:Str->Option Value},P.Nodup->P[i]? =some x->vs[i]? =some v->q x≠some .local->
  bindC q (P.zip vs) m x=some v
 |[],_,_,_,_,h,_,_=>by simp at h
 |_::_,[],_,_,_,_,h,_=>by simp at h
 |p::P,w::vs,0,m,nd,h1,h2,hk=>by
  simp at h1 h2;subst h1;subst h2;show bindC q ((p,w)::P.zip vs) m p=_;unfold bindC;rw[xO λv z=>(Zv.mp nd).1 (aer z).1,Zk hk];simp
 |p::P,w::vs,i+1,m,nd,h1,h2,hk=>by
  show bindC q ((p,w)::P.zip vs) m x=_;unfold bindC;exact xN (i:=i) (Zv.mp nd).2 (by simpa using h1) (by simpa using h2) hk
def start(N:List Str)(vs:List V):St:=vs.map some++aaf (N.length-vs.length) none
noncomputable def Cd(CX:CXT)(P:ZL)(w:World)(K:YS)(mg:Str->Option Value)(base:Heap)(N:List Str)(D:Str)(scope:Scope)(f:Addr)(Z:Value)(A:aad)(outer:List Env)(s:Hq)(H:Hp)(E:XK):Cx where
 prog:=P
 w:=w
 K:=K
 mg:=mg
 base:=base
 A:=A.deeper (acR D scope s.heap.objs.size f Z)
 N:=N
 s₀:=s
 H₀:=H
 env:=acR D scope s.heap.objs.size f Z
 outer:=outer
 stack:=acR D scope s.heap.objs.size f Z::outer
 ex:=[]
 calm:=true
 fn:=λ_=>true
 pn:=[]
 xe:=λe s'=>wpAny (model P w) (A.deeper (acR D scope s.heap.objs.size f Z)) (leaving (acR D scope s.heap.objs.size f Z) e) (λ_ U=>CX outer H s E e U) (λq U=>CX outer H s E q U) s'
theorem Cr{z:Scope}(h:z.names.lookup x=some .cell):∃c,(cellsFrom n z.names []).lookup x=some c:=by
 have q:=aew z.names n [] (.inl h);exact ad8.mp q
theorem HW{K:YS}{D:Str}{Z:Value}{s F:Hq}{E:XK}{vs:List V}
  (S:bz N ps scope) (hd:A.handled=none) (O:Dy P w K mg base A outer s H) (hl:vs.length=ps.length) (r:Vals vs us)
  (x:InCallC s s.heap.objs.size (bindL (acR D scope s.heap.objs.size f Z).kindOf (ps.zip us) λ_=>none) (cellsFrom (s.heap.objs.size+1) scope.names []) (bindC (acR D scope s.heap.objs.size f Z).kindOf (ps.zip us) λ_=>none) F) :
  Inv (Cd CX P w K mg base N D scope f Z A outer s H E) [] (start N vs) H F:=by
 have a2:ps.length<=N.length:=by have:=congrArg abv S.pre;rw[abu]at this;omega
 obtain⟨h1,tk,rfl,I⟩:=x.done;have a0:∀b:Addr,b∉(Cd CX P w K mg base N D scope f Z A outer s H E).ex:=λb z=>absurd (show b∈([]:List Addr)from z) (by simp);refine⟨⟨O.mod,S.kind,rfl,rfl,YX _,λy z c h1 h2=>?_,λy U=>?_,λy c _ h=>?_,λ_=>hd,Around.frames_deeper O.frames,.inr ⟨rfl,rfl⟩,λb z=>absurd z (a0 b),O.bs,O.bsz,λb _ _=>a0 b,λb z=>absurd z (a0 b),O.funs,O.frf⟩,
  rfl,O.bare,Un.kept I,⟨_,x.toInCall.ns,λi y v h1 h2 B=>?_⟩,λy c h=>⟨_,x.cell y c h⟩,O.hok.fresh (YX _),λy c h=>?_,λp hp=>absurd (show p∈([]:List (Addr×Obj))from hp) (by simp),O.hok.kept I,?_⟩
 .exact name_of_addr x.apart (abr h1) (abr h2)
 .have U:scope.names.lookup y=some .cell∨scope.names.lookup y=some .free:=U
  rcases U with U|U
  .exact Cr U
  .exact absurd rfl (S.nofree _ (abr U))
 .exact abU (x.above y c (abr h))
 .have hi:i<vs.length:=by
   unfold start at h2;by_cases hi:i<vs.length
   .exact hi
   .rw[aaq (by simpa using hi)]at h2
    rw[aej]at h2;split at h2<;>cases h2
  have Y:vs[i]? =some v:=by
   unfold start at h2;rw[ZC (by simpa using hi),List.getElem?_map]at h2;cases e:vs[i]? with
   |none=>rw[e]at h2;cases h2
   |some a=>rw[e]at h2;cases h2;rfl
  obtain⟨u,J,rv⟩:=r.get Y;have hp:ps[i]? =some y:=by
   rw[←S.pre,List.getElem?_take_of_lt 1.11];exact h1
  have a1:ps.Nodup:=by rw[←S.pre];exact S.nd.sublist (afC _ _)
  refine⟨u,rv,?_⟩;rcases S.par y (Zo hp)with k|k
  .exact .inl ⟨k,xW a1 hp J k⟩
  .obtain⟨c,e⟩:=Cr (n:=s.heap.objs.size+1) k
   refine .inr ⟨.inl k,c,e,?_⟩;have q:=x.cell y c e;rw[xN a1 hp J (by show scope.names.lookup y≠_;rw[k];decide)]at q;exact q
 .exact O.hok.fresh (abU (x.above y c (abr h)))
 .unfold start
  show _=N.length;rw[aay,Ze,List.length_replicate];omega
theorem Yc{K:YS}{a0:Str}{a1:Arguments}{a2:List Stmt}{dV kV a6 pm Z ct oc:Value}{an od:Option Addr}
  {a8:Array (Option Value)}  {sp:Sp} (lk:K.lookup f=some ⟨oc,od,.func (acB name a0 a1 a2 scope dV kV a6 pm an Z ct),a8⟩) (a9:aeG K Z a0=true) (S:bz N ps scope)
  (len:∀vs H Q E,sp vs H Q E->vs.length=ps.length)
  (a5:∀(A:aad)(outer:List Env)(s:Hq)(H:Hp)(vs:List V)(Q:VK)(E:XK),gV k (A.deeper (acR a0 scope s.heap.objs.size f Z))->sp vs H Q E->
   ∃t,PSs (Cd CX P w K mg base N a0 scope f Z A outer s H E) a2 t/\t {nx:=λ_ H'=>Q .non H',rt:=Q} (start N vs) H) :
  dD P w K mg base CX (k+1) f (acB name a0 a1 a2 scope dV kV a6 pm an Z ct) ps sp:=by
 refine⟨len,λA outer s H args us vs Q E O e0 U r z=>?_⟩;have Y:=len _ _ _ _ z;have KX:K.In s.heap:=e0.mod.kin.keeps λb o e=>(e0.bs b o e).1;have b0:s.heap.NoLimit:=e0.mod.nolimit.keeps λb o e=>(e0.bs b o e).1;have a4:∀y∈ps.zip us,scope.names.lookup y.1=some .local∨(scope.names.lookup y.1=some .cell/\((cellsFrom (s.heap.objs.size+1) scope.names []).lookup y.1).isSome=true):=λ⟨n,v⟩ hy=>by
  rcases S.par n (aer hy).1 with q|q
  .exact .inl q
  .exact .inr ⟨q,aew _ _ _ (.inl q)⟩
 refine codeAny_call_function O.depth (KX _ _ lk) rfl S.co S.gen rfl (PySem.W.codeRec_of KX a9) (U _ _ _ _ ?_);refine wpAny_newFunctionEnv_cells S.kind a4 λenv he F x=>?_;subst he;refine⟨b0.keeps x.toInCall.keep,codeAny_func ?_⟩;obtain⟨t,ht,D⟩:=a5 A outer s H vs Q E (O.deeper _) z;have I:Inv (Cd CX P w K mg base N a0 scope f Z A outer s H E) [] (start N vs) H F:=HW S O.hd e0 Y r x;refine aaG (ht [] F (start N vs) H _ I D) (λfl s' B=>?_) λe s' B=>B;have a7:∀{a3:St}{H':Hp}{v:V}{u:Value},Inv (Cd CX P w K mg base N a0 scope f Z A outer s H E) [] a3 H' s'->RelV v u->Q v H'->CE outer P w H s Q u s':=
  λ{a3 H' v u} J rv q=>⟨v,H',J.os,J.bare,J.base,J.hok,rv,q⟩
 cases fl with
 |ret u=>
  obtain⟨v,a3,H',J,rv,q⟩:=B;exact a7 J rv q
 |next=>
  obtain⟨a3,H',J,q⟩:=B;exact a7 (v:=V.non) (u:=aag) J rfl q
 |brk=>
  obtain⟨_,_,_,q⟩:=B;exact aa7 q
 |cont=>
  obtain⟨_,_,_,q⟩:=B;exact aa7 q
section
variable{X:Cx}{x:Str}{p pos:Pos}{e:Expr}{es:List Expr}{t:TA}{id T:String}{r:List V->Hp->VK->Prop}
def tCB(r:List V->Hp->VK->Prop)(t:TA):TE:=λσ H Q=>t σ H λvs H1=>r vs H1 Q
theorem Kg(Z:gA X (.builtin id) r)(B:Gl X x)(O:X.mg x=none)(z:aa4 x=some (.builtin id))(Y:PA X (e::es) t)(hn:x≠"__name__":=by decide)(D:1.21=false:=by decide)
  (V:Zb (e::es) X.env=(false,eval e X.env)::Zb es X.env:=by rfl) (q:(aaA pos (Zb es X.env)).any (·.1)=false:=by rfl):PE X (.Call (.Name x p) (e::es) [] pos) (tCB r t):=by
 show 4;refine abE (qX I B O z ?_ hn D);exact PyProof.Rows.callWith_builtin1 (thn (Y pos pins s σ H _ I h) λus F ⟨vs,H1,N,J,q1⟩=>Z pins F σ H1 vs us Q N J q1) V q
theorem yd(Z:gA X (.type T) r)(B:Gl X x)(O:X.mg x=none)(z:aa4 x=some (.type T))(Y:PA X (e::es) t)(hn:x≠"__name__":=by decide)(D:1.21=false:=by decide)
  (V:Zb (e::es) X.env=(false,eval e X.env)::Zb es X.env:=by rfl) (q:(aaA pos (Zb es X.env)).any (·.1)=false:=by rfl):PE X (.Call (.Name x p) (e::es) [] pos) (tCB r t):=by
 show 4;refine abE (qX I B O z ?_ hn D);exact abC (thn (Y pos pins s σ H _ I h) λus F ⟨vs,H1,N,J,q1⟩=>Z pins F σ H1 vs us Q N J q1) V q
end
end L2
namespace HT
open PySem PyProof.Rows
theorem cat_tup{t b:Addr}{vs ws:List Value}(ht:IsTup s.heap t vs.toArray)(U:IsTup s.heap b ws.toArray)(z:vs≠[])
  (h1:ws=[]->Q (.ref t) s) (h2:ws≠[]->Q (.ref s.heap.objs.size) {s with heap:=s.heap.push {cls:=.type "tuple",data:=.seq (vs++ws).toArray}})
  (hsz:vs.length+ws.length<=YZ):wpAny 1.16 A (aaP .Add (.ref t) (.ref b)) Q E s:=by
 obtain⟨⟨cls,D,data,sl⟩,N,Z,n,hd⟩:=id ht;obtain⟨⟨J,I,a1,O⟩,q,Y,B,a0⟩:=id U;simp only at Z hd Y a0;subst Z hd Y a0;have e:vs.toArray++ws.toArray=(vs++ws).toArray:=by simp
 by_cases V:ws=[]
 .exact afp ⟨_,N,rfl⟩ ⟨_,q,rfl⟩ ad9 ae6 acS acJ (acC _ _)
   (tuple_addW1 t b vs.toArray ws.toArray n B D I sl O (by simpa using z) (by simp[V])) ⟨N,q,h1 V⟩
 .refine afp ⟨_,N,rfl⟩ ⟨_,q,rfl⟩ ad9 ae6 acS acJ (acC _ _)
   (tuple_addW2 t b vs.toArray ws.toArray n B D I sl O (by simpa using z) (by simpa using V) (by rw[List.size_toArray,List.size_toArray];exact hsz)) ⟨N,q,?_⟩
  rw[e];exact h2 V
def sIx(n d:Nat):Option Int->Nat
 |none=>d
 |some v=>if v<0 then(v+(n:Int)).toNat else min v.toNat n
theorem sIx_none(n d:Nat):sIx n d none=d:=rfl
theorem sIx_nat(n d k:Nat):sIx n d (some (k:Int))=min k n:=by
 show(if(k:Int)<0 then((k:Int)+(n:Int)).toNat else min (k:Int).toNat n)=min k n;rw[Zk 1.11,acN]
theorem Vk(n d:Nat)(hd:d<=n)(o:Option Int):sIx n d o<=n:=by
 cases o with
 |none=>exact hd
 |some v=>
  show(if v<0 then(v+(n:Int)).toNat else min v.toNat n)<=n;by_cases z:v<0
  .rw[Zd z];omega
  .rw[Zk z];exact Nat.min_le_right _ _
theorem Gy(v:Int)(n d:Nat):(if v<0 then max (v+(n:Int)) 0 else min v (n:Int))=((sIx n d (some v):Nat):Int):=by
 show(if v<0 then max (v+(n:Int)) 0 else min v (n:Int))=(((if v<0 then(v+(n:Int)).toNat else min v.toNat n):Nat):Int);by_cases z:v<0
 .simp![Zd z];omega
 .simp![Zk z];omega
theorem adjust_gen(lo hi:Option Int)(n:Nat):aav lo hi 1 (n:Int)=(((sIx n 0 lo:Nat):Int),((sIx n n hi:Nat):Int)):=by
 have h1:¬((1:Int)<0):=by omega
 unfold aav;simp![h1,aao];refine Prod.ext ?_ ?_
 .cases lo with
  |none=>rfl
  |some v=>exact Gy v n 0
 .cases hi with
  |none=>rfl
  |some v=>exact Gy v n n
theorem places_gen(i j:Nat):aaw (i:Int) (j:Int) 1=j-i:=by
 unfold aaw;have h1:(1:Int)>0:=by omega
 simp![h1,Zz,Int.ediv_one];split<;>omega
theorem slicePart_{o:Option Int}{Q:Option Int->Hq->Prop}(p:acg v o)(h:Q o s):wpAny 1.16 A (Builtin.Slice.slicePartIndex v) Q E s:=by
 cases p with
 |none=>exact slicePart_none h
 |int i t=>exact slicePart_int h
theorem ud{vl D:Value}{lo hi:Option Int}{Q:Int×Int×Nat->Hq->Prop}(B:s.heap.IsSliceOf sl vl D .none)(pl:acg vl lo)(N:acg D hi)
  (h:Q (((sIx n 0 lo:Nat):Int),1,sIx n n hi-sIx n 0 lo) s):wpAny 1.16 A (abM (.ref sl) (pure (n:Int))) Q E s:=by
 obtain⟨os,J,O,I⟩:=id B;unfold abM Builtin.Slice.sliceFields;refine gD (gD (acT J I (x:=vl) rfl (gD (acT J I (x:=D) rfl (gD (acT J I (x:=.none) rfl (YQ ?_)))))));refine gD (slicePart_none ?_);show wpAny _ _ (if((1:Int)==0)=true then _ else _) _ _ s;rw[Zk (by decide)];refine gD (slicePart_ pl (gD (slicePart_ N (gD (YQ ?_)))));show wpAny _ _ (match aav lo hi 1 (n:Int)with|(lo,hi)=>pure (lo,(1:Int),aaw lo hi 1)) _ _ s;rw[adjust_gen lo hi n];show wpAny _ _ (pure (((sIx n 0 lo:Nat):Int),(1:Int),aaw ((sIx n 0 lo:Nat):Int) ((sIx n n hi:Nat):Int) 1)) _ _ s;rw[places_gen];exact YQ h
theorem Nt(xs:Array Value)(i k:Nat):((Z_ k).filterMap λ(m:Nat)=>xs[((i:Int)+(m:Int)*1).toNat]?).toArray=((xs.toList.drop i).take k).toArray:=by
 have e:(λ(m:Nat)=>xs[((i:Int)+(m:Int)*1).toNat]?)=λm=>xs[i+m]?:=by
  funext m;have:((i:Int)+(m:Int)*1).toNat=i+m:=by omega
  rw[this]
 rw[e];have:=pick_run xs i k;rw[List.filterMap_map]at this;have e2:((λx=>xs[x]?)∘λx=>i+x)=λm=>xs[i+m]?:=rfl;rw[e2]at this;rw[this]
theorem getItem_tuple_cut{t:Addr}{vl D:Value}{lo hi:Option Int}(U:IsTup s.heap t items)(B:s.heap.IsSliceOf sl vl D .none)(pl:acg vl lo)(N:acg D hi)
  (V:¬(sIx items.size 0 lo=0/\sIx items.size items.size hi=items.size))
  (h:Q (.ref s.heap.objs.size) {s with heap:=s.heap.push {cls:=.type "tuple",data:=.seq ((items.toList.drop (sIx items.size 0 lo)).take (sIx items.size items.size hi-sIx items.size 0 lo)).toArray}})
  (hsz:items.size<=YZ):wpAny 1.16 A (adt (.ref t) (.ref sl)) Q E s:=by
 have z:sizeOk (.seq ((items.toList.drop (sIx items.size 0 lo)).take (sIx items.size items.size hi-sIx items.size 0 lo)).toArray):=by
  show((items.toList.drop (sIx items.size 0 lo)).take (sIx items.size items.size hi-sIx items.size 0 lo)).toArray.size<=YZ;rw[List.size_toArray,abu,acn,aa3];omega
 have F:sIx items.size items.size hi<=items.size:=Vk _ _ (YX _) hi;obtain⟨os,J,O,I⟩:=id B;have Y:s.TypeIs (.ref sl) "slice":=⟨os,J,O⟩;unfold adt
 try with_reducible refine aaz ?_
 first|refine gD (YQ ?_)|skip
 refine gD (wpAny_sequenceKey U.typeIs (by decide) ?_);refine gD (ab1 (name:=Str.ofString "__getitem__") U.typeIs aaF
  (ad_ aaF U.typeIs ae9 ?_ (args_tuple_getitem _ _)))
 show wpAny _ _ (adK (.ref t) >>=_) _ _ s;refine gD (tupleItemsOf_ U ?_);refine gD (acD Y ?_);rw[Zd (by decide)];refine gD (ud B pl N ?_);have Z:¬((((sIx items.size 0 lo:Nat):Int)==0&&(1:Int)==1&&(sIx items.size items.size hi-sIx items.size 0 lo)==items.size)=true):=by
  intro q;rw[ZQ,ZQ]at q;have q1:((sIx items.size 0 lo:Nat):Int)=0:=eq_of_beq q.1.1;have q2:sIx items.size items.size hi-sIx items.size 0 lo=items.size:=eq_of_beq q.2;exact V ⟨by omega,by omega⟩
 show wpAny _ _ (if(((sIx items.size 0 lo:Nat):Int)==0&&(1:Int)==1&&(sIx items.size items.size hi-sIx items.size 0 lo)==items.size)=true then _ else _) _ _ s;rw[Zk Z,Nt]
 first
  |exact gD (m:=abi _) (aat (YQ ⟨_,rfl,YQ h⟩) z)
  |exact gD (m:=abi _) (aat (gD (YQ (YQ ⟨_,rfl,YQ h⟩))) z)
  |exact gD (gD (m:=abi _) (aat (YQ (YQ ⟨_,rfl,YQ h⟩)) z))
  |exact gD (gD (m:=abi _) (aat (YQ ⟨_,rfl,YQ h⟩) z))
end HT
namespace L2
open PySem PySem.Spec PyProof.Rows
abbrev TO:=St->Hp->(Option Int->Hp->Prop)->Prop
def PO(X:Cx)(e:Option Expr)(t:TO):Prop:=
 ∀(pins:List (Addr×Obj))(s:Hq)(σ:St)(H:Hp)(Q:Option Int->Hp->Prop),Inv X pins σ H s->t σ H Q->
  wpAny 1.12 X.A (evalPart e X.env) (λu s'=>∃o H',Inv X pins σ H' s'/\acg u o/\Q o H') X.xe s
def Pj:TO:=λ_ H Q=>Q none H
def Wa(t:TE):TO:=λσ H Q=>t σ H λx H1=>∃i,x= .int i/\Q (some i) H1
section
variable{X:Cx}{e:Expr}{te:TE}{lo hi:Option Expr}{tl th:TO}{pos p2:Pos}
theorem QG:PO X none Pj:=by
 show 4;rw[evalPart_none];exact YQ ⟨none,H,I,.none,h⟩
theorem RQ(h:PE X e te):PO X (some e) (Wa te):=by
 intro pins s σ H Q I V;rw[evalPart_some];refine thn (h pins s σ H _ I V) λu F ⟨x,H1,N,J,q1⟩=>?_;obtain⟨i,rfl,q⟩:=q1;obtain⟨t,rfl⟩:=J;exact⟨some i,H1,N,.int i t,q⟩
def SlR(X:Cx)(r:V->Option Int->Option Int->Hp->VK->Prop):Prop:=
 ∀(pins:List (Addr×Obj))(s:Hq)(σ:St)(H:Hp)(x:V)(v vl D:Value)(lo hi:Option Int)(sl:Addr)(Q:VK),Inv X pins σ H s->RelV x v->s.heap.IsSliceOf sl vl D .none->acg vl lo->acg D hi->r x lo hi H Q->
  ∃T id,typeLookup (.type T) "__getitem__"=pure (some (.builtin id))/\s.TypeIs v T/\wpAny 1.12 X.A (adt v (.ref sl)) (EP X pins σ Q) X.xe s
theorem SlR.or{r F:V->Option Int->Option Int->Hp->VK->Prop}(h:SlR X r)(h':SlR X F):SlR X (λx lo hi H Q=>r x lo hi H Q∨F x lo hi H Q):=by
 intro pins s σ H x v vl D lo hi sl Q I rx B pl N q;rcases q with q|q
 .exact h pins s σ H x v vl D lo hi sl Q I rx B pl N q
 .exact h' pins s σ H x v vl D lo hi sl Q I rx B pl N q
def tSl(r:V->Option Int->Option Int->Hp->VK->Prop)(te:TE)(tl th:TO):TE:=λσ H Q=>te σ H λx H1=>tl σ H1 λl H2=>th σ H2 λu Y=>r x l u Y Q
theorem Lp{r:V->Option Int->Option Int->Hp->VK->Prop}(O:SlR X r)(he:PE X e te)(Y:PO X lo tl)(J:PO X hi th):PE X (.Subscript e (.Slice lo hi none p2) pos) (tSl r te tl th):=by
 show 4;refine Subscript_ (thn (he pins s σ H _ I h) λv F ⟨x,H1,N,r1,q1⟩=>?_);refine wpAny_Slice (thn (Y pins F σ H1 _ N q1) λvl s2 ⟨l,H2,z,pl,q2⟩=>thn (J pins s2 σ H2 _ z q2) λD Z ⟨u,H3,I3,pu,q3⟩=>?_);rw[evalPart_none];refine YQ ?_;have I4:Inv X pins σ H3 {Z with heap:=Z.heap.push {cls:=.type "slice",data:=.fields #[vl,D,.none]}}:=I3.kept (t':=Z.toks) λb ob q=>YM _ q;obtain⟨T,id,hT,U,B⟩:=O pins {Z with heap:=Z.heap.push {cls:=.type "slice",data:=.fields #[vl,D,.none]}} σ H3 x v vl D l u Z.heap.objs.size Q I4 r1 (Heap.IsSliceOf.new ..) pl pu q3;show wpAny 1.12 X.A (subscriptTail e (.Slice lo hi none p2) v (.ref Z.heap.objs.size)) (EP X pins σ Q) X.xe {Z with heap:=Z.heap.push {cls:=.type "slice",data:=.fields #[vl,D,.none]}};exact tail_any (ops:=[.ref Z.heap.objs.size,v]) U hT B (by with_unfolding_all rfl)
def vK(xs:List V)(lo hi:Option Int):List V:=(xs.drop (HT.sIx xs.length 0 lo)).take (HT.sIx xs.length xs.length hi-HT.sIx xs.length 0 lo)
theorem uH(xs:List V)(lo hi:Option Int):(vK xs lo hi).length<=xs.length:=by
 unfold vK;rw[abu,acn];omega
def Ym(K:YS):V->Option Int->Option Int->Hp->VK->Prop:=λx lo hi H Q=>∃a xs,x= .ref a/\SqT K H a xs/\
 ¬(HT.sIx xs.length 0 lo=0/\HT.sIx xs.length xs.length hi=xs.length)/\∀p,H p=none->Q (.ref p) (upd H p (.tup (vK xs lo hi)))
theorem Vt:SlR X (Ym X.K):=by
 intro pins s σ H x v vl D lo hi sl Q I rx B pl N h;obtain⟨a,xs,rfl,J,V,q⟩:=h;cases rx;obtain⟨its,r,U,O⟩:=I.tuple J;have z:its.toArray.size=xs.length:=by rw[List.size_toArray];exact r.length.symm
 refine⟨"tuple",_,aaF.lookup,U.typeIs,?_⟩;refine HT.getItem_tuple_cut U B pl N (by rw[z];exact V) ?_ (by rw[z];exact O);rw[z];refine⟨.ref s.heap.objs.size,_,I.laid (t':=s.toks) (o:=.tup (vK xs lo hi)) (λb ob q=>YM _ q) (YX _) ?_,rfl,q _ (I.hok.fresh (YX _))⟩;exact⟨aas (uH xs lo hi) O,_,(r.drop (HT.sIx xs.length 0 lo)).take (HT.sIx xs.length xs.length hi-HT.sIx xs.length 0 lo),qL.new _ _⟩
def Xm(K:YS):R2:=λx y H Q=>∃a b xs ys,x= .ref a/\y= .ref b/\SqT K H a xs/\SqT K H b ys/\xs≠[]/\xs.length+ys.length<=YZ/\
 (ys=[]->Q (.ref a) H)/\(ys≠[]->∀p,H p=none->Q (.ref p) (upd H p (.tup (xs++ys))))
theorem Vals.nil_iff{xs:List V}{us:List Value}(r:Vals xs us):us=[]↔xs=[]:=by
 cases r with
 |nil=>simp
 |cons _ _=>simp
theorem Qq:OpR X (aaP .Add) (Xm X.K):=by
 intro pins s σ H x y v u Q I rx Z h;obtain⟨a,b,xs,ys,rfl,rfl,Y,U,J,O,q1,q2⟩:=h;cases rx;cases Z;obtain⟨its,F,p1,_⟩:=I.tuple Y;obtain⟨D,B,p2,_⟩:=I.tuple U;refine HT.cat_tup p1 p2 (λz=>J (F.nil_iff.mp z)) (λz=>⟨.ref a,H,I,rfl,q1 (B.nil_iff.mp z)⟩) (λz=>?_) (by rw[←F.length,←B.length];exact O);refine⟨.ref s.heap.objs.size,_,I.laid (t':=s.toks) (o:=.tup (xs++ys)) (λb ob q=>YM _ q) (YX _) ?_,rfl,q2 (λw=>z (B.nil_iff.mpr w)) _ (I.hok.fresh (YX _))⟩;exact⟨by rw[aay];exact O,_,F.append B,qL.new _ _⟩
end
def ixN(n:Nat)(i:Int):Option Nat:=if 0<=i then(if i<n then some i.toNat else none)else if -(n:Int)<=i then some (i+n).toNat else none
def atI(xs:List α)(i:Int):Option α:=(ixN xs.length i).bind λj=>xs[j]?
variable{i:Int}
theorem yW(h:ixN n i=some j):seqIndex? i n=some j/\j<n/\-(n:Int)<=i/\i<n:=by
 unfold ixN at h;by_cases Z:0<=i
 .rw[Zd Z]at h
  by_cases h1:i<n
  .rw[Zd h1]at h
   have e:i.toNat=j:=aah h;exact⟨by rw[afI Z h1,e],by omega,by omega,h1⟩
  .rw[Zk h1]at h;cases h
 .rw[Zk Z]at h
  by_cases h1: -(n:Int)<=i
  .rw[Zd h1]at h
   have e:(i+n).toNat=j:=aah h;exact⟨by rw[afq 1.11 h1,e],by omega,h1,by omega⟩
  .rw[Zk h1]at h;cases h
theorem y_{xs:List α}{v:α}(h:atI xs i=some v):∃j,seqIndex? i xs.length=some j/\xs[j]? =some v/\j<xs.length/\-(xs.length:Int)<=i/\i<xs.length:=by
 unfold atI at h;cases e:ixN xs.length i with
 |none=>rw[e]at h;cases h
 |some j=>
  rw[e]at h;obtain⟨h1,h2,B,U⟩:=yW e;exact⟨j,h1,h,h2,B,U⟩
def vg(b:Expr):Prop:=∀o i,subscripted b false o i=operate [o,i] (adt o i)
def IxR(X:Cx)(r:R2):Prop:=
 ∀(value D:Expr)(pins:List (Addr×Obj))(s:Hq)(σ:St)(H:Hp)(x y:V)(v u:Value)(Q:VK),Inv X pins σ H s->RelV x v->RelV y u->r x y H Q->
  subscripted D false v u=operate [v,u] (adt v u)->wpAny 1.12 X.A (subscriptTail value D v u) (EP X pins σ Q) X.xe s
def MtR(X:Cx)(id:String)(r:V->List V->Hp->VK->Prop):Prop:=
 ∀(pins:List (Addr×Obj))(s:Hq)(σ:St)(H:Hp)(x:V)(xs:List V)(v:Value)(us:List Value)(Q:VK),Inv X pins σ H s->RelV x v->Vals xs us->r x xs H Q->
  wpAny 1.12 X.A (call (.builtin id) (v::us)) (EP X pins σ Q) X.xe s
section
variable{X:Cx}{a b:Expr}{ta tb:TE}{pos:Pos}
theorem IxR.or{r F:R2}(h:IxR X r)(h':IxR X F):IxR X (λx y H Q=>r x y H Q∨F x y H Q):=by
 intro value D pins s σ H x y v u Q I rx Z q B;rcases q with q|q
 .exact h value D pins s σ H x y v u Q I rx Z q B
 .exact h' value D pins s σ H x y v u Q I rx Z q B
theorem KJ{r:R2}(O:IxR X r)(Y:PE X a ta)(U:PE X b tb)(B:vg b):PE X (.Subscript a b pos) (tOp r ta tb):=by
 show 4;exact Subscript_ (VJ Y U I h λv u D x y H2 z rx Z q=>O a b pins D σ H2 x y v u Q z rx Z q (B _ _))
def W5(K:YS):R2:=λx y H Q=>∃p xs i v,x= .ref p/\y= .int i/\SqL K H p xs/\atI xs i=some v/\Q v H
def Xv(K:YS):R2:=λx y H Q=>∃p xs i v,x= .ref p/\y= .int i/\SqT K H p xs/\atI xs i=some v/\Q v H
def WM:R2:=λx y H Q=>∃z i c,x= .str z/\y= .int i/\z.length<=YZ/\atI z.cps.toList i=some c/\Q (.str ⟨#[c]⟩) H
theorem Qg:IxR X (W5 X.K):=by
 intro value a1 pins s σ H x y v u Q I rx Z h B;obtain⟨p,xs,i,z,rfl,rfl,D,V,q⟩:=h;cases rx;obtain⟨t,rfl⟩:=Z;obtain⟨its,r,pl,O⟩:=I.list D;obtain⟨j,h1,h2,h3,U,J⟩:=y_ V;obtain⟨w,F,N⟩:=r.get h2;have Y:=r.length;have hn:=qP;have a0:EP X pins σ Q w s:=⟨z,H,I,N,q⟩;by_cases h0:0<=i
 .have hj:i.toNat=j:=by
   rw[afI h0 J]at h1;exact aah h1
  exact item_listR pl.isList h0 1.11 (by rw[hj];simpa using F) a0 B
 .have hj:(i+(its.toArray.size:Int)).toNat=j:=by
   rw[afq 1.11 U]at h1;rw[List.size_toArray,←Y];exact aah h1
  exact aex (x:=w) pl.isList.typeIs slot_list_getitem.lookup
   (wpAny_getItem_list_neg (Q:=λr s'=>r=w/\EP X pins σ Q r s') pl.isList 1.11 (by rw[List.size_toArray]<;>omega) 1.11 (by rw[hj];simpa using F) ⟨rfl,a0⟩) B
theorem Vn:IxR X (Xv X.K):=by
 intro value a0 pins s σ H x y v u Q I rx Z h B;obtain⟨p,xs,i,z,rfl,rfl,D,V,q⟩:=h;cases rx;obtain⟨t,rfl⟩:=Z;obtain⟨its,r,pl,O⟩:=I.tuple D;obtain⟨j,h1,h2,h3,U,J⟩:=y_ V;obtain⟨w,F,N⟩:=r.get h2;have Y:=r.length;have hn:=qP;have a1:EP X pins σ Q w s:=⟨z,H,I,N,q⟩;exact aex (x:=w) pl.typeIs slot_tuple_getitem.lookup
  (getItem_tuple (j:=j) (Q:=λr s'=>r=w/\EP X pins σ Q r s') pl 1.11 1.11 (by rw[List.size_toArray,←Y];exact h1) (by simpa using F) ⟨rfl,a1⟩) B
theorem Vy:IxR X WM:=by
 intro value D pins s σ H x y v u Q I rx Z h B;obtain⟨z,i,c,rfl,rfl,O,V,q⟩:=h;obtain⟨t,rfl⟩:=rx;obtain⟨t',rfl⟩:=Z;obtain⟨j,h1,h2,F,U,J⟩:=y_ V;have Y:z.cps.toList.length=z.length:=by simp[Str.length]
 rw[Y]at h1 U J;have hn:=qP;exact tail_any (typeIs_str s z t) slot_str_getitem.lookup (getItem_str (c:=c) (by
  have e1:decide (i< -(2 ^ 63:Int))=false:=Zy 1.11;have e2:decide (i>=2 ^ 63)=false:=Zy 1.11;rw[e1,e2,Bool.or_false]) (by rw[h1];simpa using h2) ⟨.str ⟨#[c]⟩,H,I.tok _,⟨_,rfl⟩,q⟩) B
def rIx(K:YS):R2:=λx y H Q=>W5 K x y H Q∨Xv K x y H Q∨WM x y H Q
theorem UV:IxR X (rIx X.K):=Qg.or (Vn.or Vy)
theorem Dc(its:List Value)(n j:Nat)(u:Value):ab5 (·.setIfInBounds j u) {cls:=.type "list",data:=.seq its.toArray n}={cls:=.type "list",data:=.seq (its.set j u).toArray n}:=by
 simp[ab5]
theorem Inv.lst{pins:List (Addr×Obj)}{σ:St}{H:Hp}{s:Hq}{p:Addr}{xs:List V}(I:Inv X pins σ H s)(h:H p=some (.lst xs)) :
  ∃(its:List Value)(n:Nat),Vals xs its/\s.heap.get? p=some {cls:=.type "list",data:=.seq its.toArray n}/\xs.length<=YZ:=by
 obtain⟨z,its,n,r,e⟩:=I.hok p _ h;exact⟨its,n,r,e,z⟩
theorem Inv.lstUpd{pins:List (Addr×Obj)}{σ:St}{H:Hp}{s:Hq}{p:Addr}{xs ys:List V}{its its':List Value}{n z:Nat}{f:Obj->Obj}(I:Inv X pins σ H s)(h:H p=some (.lst xs))
  (N:s.heap.get? p=some {cls:=.type "list",data:=.seq its.toArray n}) (B:f {cls:=.type "list",data:=.seq its.toArray n}={cls:=.type "list",data:=.seq its'.toArray z}) (r:Vals ys its') (O:ys.length<=YZ) (t:Nat) :
  Inv X pins σ (upd H p (.lst ys)) {s with heap:=s.heap.update p f,toks:=t}:=by
 have e:(s.heap.update p f).get? p=some {cls:=.type "list",data:=.seq its'.toArray z}:=by
  rw[ac8 f N (by rw[B]<;>rfl),B]
 refine I.write (x:=p) (e:=p) (by rw[h];trivial) (.inl rfl) (λb u U q=>(aa5 _ _ (ZV U)).trans q) ⟨_,e⟩ ?_;exact⟨O,its',z,r,e⟩
def Sg:V->V->V->Hp->(Hp->Prop)->Prop:=λo i v H Q=>∃p xs k j,o= .ref p/\i= .int k/\H p=some (.lst xs)/\ixN xs.length k=some j/\Q (upd H p (.lst (xs.set j v)))
theorem set_list:RT X Sg:=by
 intro pins s σ H o i v ov D u Q I z ri rv h;obtain⟨p,xs,k,j,rfl,rfl,F,V,q⟩:=h;cases z;obtain⟨t,rfl⟩:=ri;obtain⟨its,n,r,N,O⟩:=I.lst F;obtain⟨h1,h2,B,U⟩:=yW V;have Y:=r.length;have hn:=qP;have J:Inv X pins σ (upd H p (.lst (xs.set j v))) {s with heap:=s.heap.update p (ab5 (·.setIfInBounds j u))}:=
  I.lstUpd F N (Dc its n j u) (r.set rv j) (by rw[List.length_set];exact O) s.toks
 by_cases Z:0<=k
 .have hk:k.toNat=j:=by
   rw[afI Z U]at h1;exact aah h1
  exact PySem.W.ki_setAt N Z 1.11 (by rw[List.size_toArray,←Y];exact U) (by rw[hk];exact⟨_,J,q⟩)
 .have hk:(k+(its.toArray.size:Int)).toNat=j:=by
   rw[afq 1.11 B]at h1;rw[List.size_toArray,←Y];exact aah h1
  exact PySem.W.ki_setBack N 1.11 (by rw[List.size_toArray,←Y];exact B) 1.11 (by rw[hk];exact⟨_,J,q⟩)
theorem yX(lo hi:Option Int)(n:Nat):(acs lo hi none n).1=((HT.sIx n 0 lo:Nat):Int)/\(acs lo hi none n).2.1=((HT.sIx n n hi:Nat):Int)/\(acs lo hi none n).2.2=1:=by
 refine⟨?_,?_,rfl⟩
 .cases lo with
  |none=>simp[acs,HT.sIx]
  |some i=>
   simp![acs,HT.sIx,afP,show(1:Int)>0 by decide,Zz];by_cases h:i<0
   .simp![h,Zz]<;>omega
   .simp![h,aao]<;>omega
 .cases hi with
  |none=>simp[acs,HT.sIx]
  |some i=>
   simp![acs,HT.sIx,afP,show(1:Int)>0 by decide,Zz];by_cases h:i<0
   .simp![h,Zz]<;>omega
   .simp![h,aao]<;>omega
theorem xJ(its:List Value)(lo hi:Option Int):slicePick its.toArray lo hi none=((its.drop (HT.sIx its.length 0 lo)).take (HT.sIx its.length its.length hi-HT.sIx its.length 0 lo)).toArray:=by
 obtain⟨h1,h2,B⟩:=yX lo hi its.toArray.size;unfold slicePick;rw[h1,h2,B];simp![sliceRange_one,pick_run,List.size_toArray]<;>rfl
def Xd(K:YS):V->Option Int->Option Int->Hp->VK->Prop:=λx lo hi H Q=>∃a xs,x= .ref a/\SqL K H a xs/\∀p,H p=none->Q (.ref p) (upd H p (.lst (vK xs lo hi)))
theorem Ph:SlR X (Xd X.K):=by
 intro pins s σ H x v vl D lo hi sl Q I rx B pl N h;obtain⟨a,xs,rfl,J,q⟩:=h;cases rx;obtain⟨its,r,U,O⟩:=I.list J;have z:=r.length;refine⟨"list",_,slot_list_getitem.lookup,U.isList.typeIs,?_⟩;refine wpAny_getItem_list_slice U.isList B pl N .none (by simp) ?_ (by rw[List.size_toArray]<;>omega);rw[xJ,←z];refine⟨.ref s.heap.objs.size,_,I.laid (t':=s.toks) (o:=.lst (vK xs lo hi)) (λb ob q=>YM _ q) (YX _) ?_,rfl,q _ (I.hok.fresh (YX _))⟩;exact⟨aas (uH xs lo hi) O,_,0,(r.drop (HT.sIx xs.length 0 lo)).take (HT.sIx xs.length xs.length hi-HT.sIx xs.length 0 lo),Zm _ rfl⟩
def nZ:V->Bool
 |.non=>true
 |.bl _=>true
 |.int _=>true
 |.str _=>true
 |_=>false
def eqV:V->V->Bool
 |.non,.non=>true
 |.bl a,.bl b=>a==b
 |.bl a,.int b=>(if a then 1 else 0)==b
 |.int a,.bl b=>a==(if b then 1 else 0)
 |.int a,.int b=>a==b
 |.str a,.str b=>a==b
 |_,_=>false
theorem Ux{A:aad}{s:Hq}{y x:V}{u v:Value}(Z:RelV y u)(rx:RelV x v)(q:nZ y=true)(z:nZ x=true):SeqAt.EqAt A s u v (eqV y x):=by
 cases y with
 |non=>
  cases Z;cases x with
  |non=>cases rx;exact SeqAt.EqAt.same _
  |bl b=>cases rx;exact SeqAt.EqAt.none_bool b
  |int b=>obtain⟨t,rfl⟩:=rx;exact SeqAt.EqAt.none_int b t
  |str b=>obtain⟨t,rfl⟩:=rx;exact SeqAt.EqAt.none_str b t
  |_=>exact absurd (show false=true from z) aae
 |bl a=>
  cases Z;cases x with
  |non=>cases rx;exact SeqAt.EqAt.bool_none a
  |bl b=>cases rx;exact SeqAt.EqAt.bool_bool a b
  |int b=>obtain⟨t,rfl⟩:=rx;exact SeqAt.EqAt.bool_int a b t
  |str b=>obtain⟨t,rfl⟩:=rx;exact SeqAt.EqAt.bool_str a b t
  |_=>exact absurd (show false=true from z) aae
 |int a=>
  obtain⟨t',rfl⟩:=Z;cases x with
  |non=>cases rx;exact SeqAt.EqAt.int_none a t'
  |bl b=>cases rx;exact SeqAt.EqAt.int_bool a t' b
  |int b=>obtain⟨t,rfl⟩:=rx;exact SeqAt.EqAt.int_int a t' b t
  |str b=>obtain⟨t,rfl⟩:=rx;exact afe a t' b t
  |_=>exact absurd (show false=true from z) aae
 |str a=>
  obtain⟨t',rfl⟩:=Z;cases x with
  |non=>cases rx;exact SeqAt.EqAt.str_none a t'
  |bl b=>cases rx;exact SeqAt.EqAt.str_bool a t' b
  |int b=>obtain⟨t,rfl⟩:=rx;exact afg a t' b t
  |str b=>obtain⟨t,rfl⟩:=rx;exact SeqAt.EqAt.str_str a t' b t
  |_=>exact absurd (show false=true from z) aae
 |_=>exact absurd (show false=true from q) aae
def eqU(x:V)(u:Value):Bool:=match u with
 |.none=>eqV .non x
 |.bool b=>eqV (.bl b) x
 |.int i _=>eqV (.int i) x
 |.str z _=>eqV (.str z) x
 |_=>false
theorem Mq{x y:V}{u:Value}(r:RelV y u)(f:nZ y=true):eqU x u=eqV y x:=by
 cases y with
 |non=>cases r;rfl
 |bl b=>cases r;rfl
 |int i=>obtain⟨t,rfl⟩:=r;rfl
 |str z=>obtain⟨t,rfl⟩:=r;rfl
 |_=>exact absurd (show false=true from f) aae
theorem sr{x:V}:∀{xs:List V}{us:List Value},Vals xs us->xs.all nZ=true->us.any (eqU x)=xs.any λy=>eqV y x
 |_,_,.nil,_=>rfl
 |y::xs,u::us,.cons r t,f=>by
  rw[acp,ZQ]at f;rw[acY,acY,Mq r f.1,sr t f.2]
theorem oO{A:aad}{s:Hq}{x:V}{v:Value}(rx:RelV x v)(z:nZ x=true):∀{xs:List V}{us:List Value},Vals xs us->xs.all nZ=true->∀u∈us,SeqAt.EqAt A s u v (eqU x u)
 |_,_,.nil,_=>λu J=>by cases J
 |y::xs,u::us,.cons r t,f=>λF J=>by
  rw[acp,ZQ]at f;rcases Za.mp J with rfl|J
  .rw[Mq r f.1];exact Ux r rx f.1 z
  .exact oO rx z t f.2 F J
def inV(x:V)(xs:List V):Bool:=xs.any λy=>eqV y x
def rIn(K:YS)(q:Bool):R2:=λx y H Q=>∃p xs,y= .ref p/\(SqL K H p xs∨SqT K H p xs)/\nZ x=true/\xs.all nZ=true/\Q (.bl (if q then !inV x xs else inV x xs)) H
theorem Ih:OpR X (aaa .In) (rIn X.K false):=by
 intro pins s σ H x y v u Q I rx Z h;obtain⟨p,xs,rfl,D,z,fs,q⟩:=h;cases Z;rcases D with D|D
 .obtain⟨its,r,pl,hz⟩:=I.list D
  refine SeqAt.in_listAt (eqU x) pl.isList (λw V=>oO rx z r fs w (by simpa using V)) ⟨.bl _,H,I,rfl,?_⟩;rw[show its.toArray.any (eqU x)=its.any (eqU x)by simp,sr r fs];exact q
 .obtain⟨its,r,pl,hz⟩:=I.tuple D
  refine SeqAt.in_tupleAt (eqU x) pl (λw V=>oO rx z r fs w (by simpa using V)) ⟨.bl _,H,I,rfl,?_⟩;rw[show its.toArray.any (eqU x)=its.any (eqU x)by simp,sr r fs];exact q
theorem zj:OpR X (aaa .NotIn) (rIn X.K true):=by
 intro pins s σ H x y v u Q I rx Z h;obtain⟨p,xs,rfl,D,z,fs,q⟩:=h;cases Z;rcases D with D|D
 .obtain⟨its,r,pl,hz⟩:=I.list D
  refine SeqAt.notIn_listAt (eqU x) pl.isList (λw V=>oO rx z r fs w (by simpa using V)) ⟨.bl _,H,I,rfl,?_⟩;rw[show its.toArray.any (eqU x)=its.any (eqU x)by simp,sr r fs];exact q
 .obtain⟨its,r,pl,hz⟩:=I.tuple D
  refine SeqAt.notIn_tupleAt (eqU x) pl (λw V=>oO rx z r fs w (by simpa using V)) ⟨.bl _,H,I,rfl,?_⟩;rw[show its.toArray.any (eqU x)=its.any (eqU x)by simp,sr r fs];exact q
theorem zg:OpR X (aaa .NotIn) (λx y H Q=>∃i j,x= .str i/\y= .str j/\Q (.bl (!(!(aaj j i 0 j.length 1).isEmpty))) H):=by
 show 2;exact notIn_str ⟨.bl _,H,I,rfl,q⟩
theorem zx:gA X (.builtin "len") (λxs H Q=>∃p ys,xs=[.ref p]/\(SqL X.K H p ys∨SqT X.K H p ys)/\Q (.int ys.length) H):=by
 show 5;obtain⟨p,ys,rfl,D,q⟩:=h;obtain⟨u,rfl,rx⟩:=vals1 r;cases rx;have hn:=qP;rcases D with D|D
 .obtain⟨its,r',pl,hz⟩:=I.list D
  have z:=r'.length;exact Calls.call_len_list pl.isList (by simp![List.size_toArray]<;>omega) ⟨.int ys.length,H,I.tok _,⟨s.toks+1,by rw[List.size_toArray,z]⟩,q⟩
 .obtain⟨its,r',pl,hz⟩:=I.tuple D
  have z:=r'.length;exact len_tuple pl (by simp![List.size_toArray]<;>omega) ⟨.int ys.length,H,I.tok _,⟨s.toks+1,by rw[List.size_toArray,z]⟩,q⟩
theorem yJ:gA X (.builtin "len") (λxs H Q=>∃z,xs=[.str z]/\z.length<=YZ/\Q (.int z.length) H):=by
 show 5;obtain⟨z,rfl,O,q⟩:=h;obtain⟨u,rfl,t,rfl⟩:=vals1 r;have hn:=qP;exact len_str 1.11 ⟨.int z.length,H,I.tok _,⟨_,rfl⟩,q⟩
theorem yK:gA X (.type "list") (λxs H Q=>∃p ys,xs=[.ref p]/\(SqL X.K H p ys∨SqT X.K H p ys)/\∀l,H l=none->Q (.ref l) (upd H l (.lst ys))):=by
 show 5;obtain⟨p,ys,rfl,D,q⟩:=h;obtain⟨u,rfl,rx⟩:=vals1 r;cases rx;have B:∀(its:List Value),Vals ys its->ys.length<=YZ->∀(h':Heap)(J:Nat),(∀b o',s.heap.get? b=some o'->h'.get? b=some o')->
   h'.get? s.heap.objs.size=some {cls:=.type "list",dict:=none,data:=.seq its.toArray J,slots:=#[]}->EP X pins σ Q (.ref s.heap.objs.size) {s with heap:=h'}:=λits F O h' J kp e=>
  ⟨.ref s.heap.objs.size,_,I.laid (t':=s.toks) kp (YX _) (show cT X.prog X.w _ h' _ (.lst ys)from⟨O,its,J,F,e⟩),rfl,q _ (I.hok.fresh (YX _))⟩
 rcases D with D|D
 .obtain⟨its,F,pl,O⟩:=I.list D
  have z:=F.length;obtain⟨o,N,Z,n,hd⟩:=pl.isList;exact call_list_seq p (.inl rfl) N Z hd (λh' J kp e=>B its F O h' J kp e) (by simp![List.size_toArray]<;>omega)
 .obtain⟨its,F,pl,O⟩:=I.tuple D
  have z:=F.length;obtain⟨o,N,Z,n,hd⟩:=pl;exact call_list_seq p (.inr rfl) N Z hd (λh' J kp e=>B its F O h' J kp e) (by simp![List.size_toArray]<;>omega)
def tyV(K:YS)(T:String)(x:V)(H:Hp):Prop:=match x with
 |.str _=>T="str"
 |.int _=>T="int"
 |.ref p=>(T="list"/\∃xs,SqL K H p xs)∨(T="tuple"/\∃o,K.lookup p=some o/\o.cls= .type "tuple"/\o.dict=none)∨
  (T="dict"/\((∃kvs,H p=some (.dK kvs))∨∃kvs,H p=some (.dT kvs)))∨(T="set"/\∃S n,H p=some (.set S n))
 |_=>False
theorem Nj{pins:List (Addr×Obj)}{σ:St}{H:Hp}{s:Hq}{T:String}{x:V}{v:Value}(I:Inv X pins σ H s)(r:RelV x v)(ty:tyV X.K T x H) :
  s.TypeIs v T/\∀a,v= .ref a->∃ob,s.heap.get? a=some ob/\ob.dict=none:=by
 cases x with
 |str z=>
  obtain⟨t,rfl⟩:=r;cases (show T="str" from ty);exact⟨typeIs_str s z t,λ_ e=>nomatch e⟩
 |int i=>
  obtain⟨t,rfl⟩:=r;cases (show T="int" from ty);exact⟨typeIs_int s i t,λ_ e=>nomatch e⟩
 |ref p=>
  cases r;rcases ty with⟨rfl,xs,D⟩|⟨rfl,o,q,Z,hd⟩|⟨rfl,q⟩|⟨rfl,S,n,q⟩
  .obtain⟨its,_,pl,_⟩:=I.list D
   refine⟨pl.isList.typeIs,λa e=>?_⟩;cases e;obtain⟨o,n,e,c,hd,_⟩:=pl;exact⟨o,e,hd⟩
  .refine⟨⟨o,I.kIn p o q,Z⟩,λa e=>?_⟩
   cases e;exact⟨o,I.kIn _ o q,hd⟩
  .have z:∃o,s.heap.get? p=some o/\o.ExactDict:=by
    rcases q with⟨kvs,q⟩|⟨kvs,q⟩
    .obtain⟨_,_,_,_,o,_,_,e,ex,_⟩:=I.hok p _ q
     exact⟨o,e,ex⟩
    .obtain⟨_,_,_,_,o,_,_,e,ex,_⟩:=I.hok p _ q
     exact⟨o,e,ex⟩
   obtain⟨o,e,ex⟩:=z;refine⟨⟨o,e,ex.1⟩,λa e2=>?_⟩;cases e2;exact⟨o,e,ex.2.1⟩
  .obtain⟨o,_,_,_,e,ex,_⟩:=I.hok p _ q
   refine⟨⟨o,e,ex.1⟩,λa e2=>?_⟩;cases e2;exact⟨o,e,ex.2.1⟩
 |_=>exact aa7 ty
def Yn(K:YS)(T:String)(r:V->List V->Hp->VK->Prop)(to:TE):TE:=λσ H Q=>to σ H λx H1=>tyV K T x H1/\r x [] H1 Q
def tBM(K:YS)(T:String)(r:V->List V->Hp->VK->Prop)(to:TE)(t:TA):TE:=λσ H Q=>to σ H λx H1=>tyV K T x H1/\t σ H1 λxs H2=>r x xs H2 Q
variable{o e:Expr}{es:List Expr}{to:TE}{t:TA}{name:Str}{apos cpos:Pos}{T id:String}{r:V->List V->Hp->VK->Prop}
theorem U7(O:adk T)(slot:Slot T name id)(z:typeOf (.builtin id)=pure (.type "method_descriptor"))(Z:MtR X id r)(N:PE X o to)
  (q:aa8 o name X.env (eval o X.env)=eval o X.env:=by rfl) (U:(apos.endLine==cpos.line)=true:=by rfl):PE X (.Call (.Attribute o name apos) [] [] cpos) (Yn X.K T r to):=by
 show 4;refine wpAny_Call_method0_late q U (thn (N pins s σ H _ I h) λv F ⟨x,H1,B,J,ty,q1⟩=>?_);obtain⟨h1,h2⟩:=Nj B J ty;exact⟨T,id,O,slot,z,h1,h2,acU rfl (PySem.evalArgs_none (Z pins F σ H1 x [] v [] Q B J .nil q1))⟩
theorem J0(pa:adk T)(slot:Slot T name id)(a1:typeOf (.builtin id)=pure (.type "method_descriptor"))(Z:MtR X id r)(N:PE X o to)(Y:PA X (e::es) t)
  (q:aa8 o name X.env (eval o X.env)=eval o X.env:=by rfl)
  (a0:((aaA cpos (Zb (e::es) X.env)).all (λx=>!x.1)&&(aco cpos (abw [] X.env)).all (λx=>x.1.isSome)
   &&decide ((e::es).length+([]:List adu).length+(if([]:List adu).isEmpty then 0 else 1)<30))=true:=by rfl)
  (U:(apos.endLine==cpos.line)=true:=by rfl) (B:Zb (e::es) X.env=(false,eval e X.env)::Zb es X.env:=by rfl) (V:(aaA cpos (Zb es X.env)).any (·.1)=false:=by rfl) :
  PE X (.Call (.Attribute o name apos) (e::es) [] cpos) (tBM X.K T r to t):=by
 show 4;refine wpAny_Call_method_late q a0 U rfl (thn (N pins s σ H _ I h) λv F ⟨x,H1,I1,J,ty,q1⟩=>?_);obtain⟨h1,h2⟩:=Nj I1 J ty;refine⟨T,id,pa,slot,a1,h1,h2,?_⟩;have D:=Y cpos pins F σ H1 _ I1 q1;rw[B]at D⊢;refine acU (by show(false||(aaA cpos (Zb es X.env)).any (·.1))=false;rw[V]<;>rfl) (aeX ?_);exact thn D λus O ⟨vs,H2,z,r2,q2⟩=>Z pins O σ H2 x vs v us Q z J r2 q2
end
def MtM(X:Cx)(id:String)(r:V->List V->Hp->VK->Prop):Prop:=
 ∀(pins:List (Addr×Obj))(s:Hq)(σ:St)(H:Hp)(x:V)(xs:List V)(v:Value)(us:List Value)(Q:VK),Inv X pins σ H s->RelV x v->Vals xs us->r x xs H Q->
  wpAny 1.12 X.A (call (.builtin id) (v::us)) (EP X pins σ Q) X.xe s
theorem Vals.one:∀{x:V}{us:List Value},Vals [x] us->∃u,us=[u]/\RelV x u
 |_,_,.cons r .nil=>⟨_,rfl,r⟩
theorem Vals.zero:∀{us:List Value},Vals [] us->us=[]
 |_,.nil=>rfl
variable{xs:List V}
theorem Vals.dropLast(h:Vals xs us):Vals xs.dropLast us.dropLast:=by
 induction h with
 |nil=>exact .nil
 |cons r t N=>
  cases t with
  |nil=>exact .nil
  |cons q t'=>exact .cons r N
theorem Vals.eraseIdx:∀{xs:List V}{us:List Value}(i:Nat),Vals xs us->Vals (xs.eraseIdx i) (us.eraseIdx i)
 |_,_,_,.nil=>.nil
 |_,_,0,.cons _ t=>t
 |_,_,i+1,.cons r t=>.cons r (Vals.eraseIdx i t)
theorem qY(l:List α):l.eraseIdx (l.length-1)=l.dropLast:=by
 induction l with
 |nil=>rfl
 |cons a r N=>
  cases r with
  |nil=>rfl
  |cons b r=>
   have e:(a::b::r).length-1=((b::r).length-1)+1:=by
    have h1:(a::b::r).length=r.length+2:=rfl;have h2:(b::r).length=r.length+1:=rfl;omega
   rw[e,aek,N]
   all_goals rfl
theorem xV:∀(l:List α)(i:Nat),(l.eraseIdx i).length<=l.length
 |[],_=>YX _
 |_::_,0=>adz _
 |_::r,i+1=>Nat.succ_le_succ (xV r i)
variable{X:Cx}{σ:St}{H:Hp}{ys:List V}
theorem Inv.lset{its':List Value}{f:Array Value->Array Value}(I:Inv X pins σ H s)(Z:H l=some (.lst xs))
  (e:s.heap.get? l=some {cls:=.type "list",data:=.seq its.toArray n}) (V:f its.toArray=its'.toArray) (z:Vals ys its') (O:ys.length<=YZ) :
  Inv X pins σ (upd H l (.lst ys)) {s with heap:=s.heap.update l (ab5 f),toks:=t'}:=by
 have q:=afQ e f;rw[V]at q;refine I.write (x:=l) (e:=l) (by rw[Z];exact trivial) (.inl rfl) (λN u U J=>(aa5 s.heap (ab5 f) (ZV U)).trans J) ⟨_,q⟩ ?_;exact⟨O,its',_,z,q⟩
theorem Inv.lnew(I:Inv X pins σ H s)(z:Vals ys its)(O:ys.length<=YZ) :
  Inv X pins σ (upd H s.heap.objs.size (.lst ys)) {s with heap:=s.heap.push {cls:=.type "list",data:=.seq its.toArray},toks:=t'}:=
 I.laid (λ_ _ q=>YM _ q) (YX _) ⟨O,its,0,z,Zm _ rfl⟩
theorem Inv.fresh(I:Inv X pins σ H s):H s.heap.objs.size=none:=I.hok.fresh (YX _)
theorem Inv.lstM(I:Inv X pins σ H s)(Z:H l=some (.lst xs)):xs.length<=YZ/\∃(its:List Value)(n:Nat),Vals xs its/\xs.length=its.length/\s.heap.get? l=some {cls:=.type "list",data:=.seq its.toArray n}:=by
 obtain⟨z,its,n,r,e⟩:=I.hok l _ Z;exact⟨z,its,n,r,r.length,e⟩
def Gg:V->List V->Hp->VK->Prop:=λx vs H Q=>∃l xs y,x= .ref l/\vs=[y]/\H l=some (.lst xs)/\xs.length<YZ/\Q .non (upd H l (.lst (xs++[y])))
theorem Hl:MtM X "list.append" Gg:=by
 intro pins s σ H x vs v us Q I rx B h;obtain⟨l,xs,y,rfl,rfl,Z,O,q⟩:=h;cases rx;obtain⟨u,rfl,D⟩:=B.one;obtain⟨z,its,n,r,Y,e⟩:=I.lstM Z;refine adl afr ⟨_,e,rfl⟩ ae_ (aeY _ _) (afD l its.toArray n u (by rw[List.size_toArray];omega)) ⟨e,?_⟩;refine⟨.non,_,I.lset (its':=its++[u]) Z e (by simp) (r.append (.cons D .nil)) ?_,rfl,q⟩;rw[aay,List.length_singleton];omega
def XM:V->List V->Hp->VK->Prop:=λx vs H Q=>∃l xs y,x= .ref l/\vs=[]/\H l=some (.lst xs)/\xs[xs.length-1]? =some y/\Q y (upd H l (.lst xs.dropLast))
theorem Tf:MtM X "list.pop" XM:=by
 intro pins s σ H x vs v us Q I rx B h;obtain⟨l,xs,y,rfl,rfl,Z,U,q⟩:=h;cases rx;have N:=B.zero;subst N;obtain⟨z,its,n,r,Y,e⟩:=I.lstM Z;obtain⟨u,J,D⟩:=r.get U;have O:its.toArray[its.toArray.size-1]? =some u:=by
  show its.toArray[its.length-1]? =some u;rw[←abI,←Y];exact J
 refine adl F.slot_list_pop ⟨_,e,rfl⟩ F.entry_list_pop (F.args_list_pop_1 _) (MeetsSeq.list_pop_last l its.toArray n u O (by rw[List.size_toArray];omega)) ⟨e,?_⟩;refine⟨y,_,I.lset (its':=its.dropLast) Z e ?_ r.dropLast ?_,D,q⟩
 .show its.toArray.eraseIdxIfInBounds (its.toArray.size-1)=its.dropLast.toArray
  rw[List.size_toArray,adf,qY]
 .rw[aeZ]
  omega
def LQ:V->List V->Hp->VK->Prop:=λx vs H Q=>∃l xs i k y,x= .ref l/\vs=[.int i]/\H l=some (.lst xs)/\-(2 ^ 63)<=i/\i<2 ^ 63/\seqIndex? i xs.length=some k/\xs[k]? =some y/\Q y (upd H l (.lst (xs.eraseIdx k)))
theorem KN:MtM X "list.pop" LQ:=by
 intro pins s σ H x vs v us Q I rx B h;obtain⟨l,xs,i,k,y,rfl,rfl,Z,h1,h2,J,U,q⟩:=h;cases rx;obtain⟨u,rfl,D⟩:=B.one;obtain⟨t,rfl⟩:=D;obtain⟨z,its,n,r,Y,e⟩:=I.lstM Z;obtain⟨w,V,N⟩:=r.get U;refine adl F.slot_list_pop ⟨_,e,rfl⟩ F.entry_list_pop (F.args_list_pop_2 _ _)
  (MeetsSeq.list_pop_at l its.toArray n i t k w (fitsIndex_both h1 h2) (by rw[List.size_toArray,←Y];exact J) (by rw[←abI];exact V) (by rw[List.size_toArray];omega)) ⟨e,?_⟩
 refine⟨y,_,I.lset (its':=its.eraseIdx k) Z e ?_ (r.eraseIdx k) ?_,N,q⟩
 .show its.toArray.eraseIdxIfInBounds k=(its.eraseIdx k).toArray
  rw[adf]
 .have:=xV xs k
  omega
def V_:R2:=λx y H Q=>∃l b xs zs,x= .ref l/\y= .ref b/\H l=some (.lst xs)/\H b=some (.lst zs)/\xs.length+zs.length<=YZ/\∀p,H p=none->Q (.ref p) (upd H p (.lst (xs++zs)))
theorem T9:OpR X (aaP .Add) V_:=by
 intro pins s σ H x y v u Q I rx Z h;obtain⟨l,b,xs,zs,rfl,rfl,hH,F,O,q⟩:=h;cases rx;cases Z;obtain⟨z,its,n,r,Y,e⟩:=I.lstM hH;obtain⟨J,D,B,V,N,e2⟩:=I.lstM F;refine PySem.P.add_list e e2 ?_ (by rw[List.size_toArray,List.size_toArray];omega);have U:its.toArray++D.toArray=(its++D).toArray:=by simp
 rw[U];exact⟨.ref _,_,I.lnew (t':=s.toks) (r.append V) (by rw[aay];omega),rfl,q _ I.fresh⟩
section
variable{κ:Type}[DecidableEq κ]
def lG(kvs:List (κ×V))(k:κ):Option V:=(kvs.find? λF=>decide (F.1=k)).map (·.2)
def putK(kvs:List (κ×V))(k:κ)(v:V):List (κ×V):=
 if(kvs.any λF=>decide (F.1=k))=true then kvs.map (λF=>if F.1=k then(F.1,v)else F)else kvs++[(k,v)]
def rm(kvs:List (κ×V))(k:κ):List (κ×V):=kvs.filter λF=>decide (F.1≠k)
theorem v8{p:κ×V}{r:List (κ×V)}{k:κ}(e:p.1=k):lG (p::r) k=some p.2:=by simp[lG,abj,e]
theorem wX{p:κ×V}{r:List (κ×V)}{k:κ}(e:¬p.1=k):lG (p::r) k=lG r k:=by simp[lG,abj,e]
theorem vR(k:κ):∀kvs:List (κ×V),(kvs.any λF=>decide (F.1=k))=(lG kvs k).isSome
 |[]=>rfl
 |p::r=>by
  rw[acY];by_cases e:p.1=k
  .simp![v8 e,aap e,Bool.true_or,Option.isSome_some]
  .rw[wX e,Zy e,Bool.false_or];exact vR k r
theorem jR(kvs:List (κ×V))(k:κ)(v:V):(putK kvs k v).length<=kvs.length+1:=by
 unfold putK;split
 .rw[Ze];omega
 .rw[aay,Zq,ZZ];omega
theorem pL{kvs:List (κ×V)}{k:κ}(v:V)(h:lG kvs k=none):putK kvs k v=kvs++[(k,v)]:=by
 unfold putK;rw[vR,h];exact Zk (by decide)
theorem oA.isSome_eq{o:Option V}{u:Option Value}(r:oA o u):o.isSome=u.isSome:=by
 cases o with
 |none=>cases u with
  |none=>rfl
  |some _=>exact(show False from r).elim
 |some _=>cases u with
  |none=>exact(show False from r).elim
  |some _=>rfl
theorem oA.getD{o:Option V}{u:Option Value}{d:V}{d':Value}(r:oA o u)(rd:RelV d d'):RelV (o.getD d) (u.getD d'):=by
 cases o with
 |none=>cases u with
  |none=>exact rd
  |some _=>exact(show False from r).elim
 |some _=>cases u with
  |none=>exact(show False from r).elim
  |some _=>exact r
theorem KV.val{kvs:List (κ×V)}{vs:List (κ×Value)}(r:KV kvs vs)(k:κ):oA (lG kvs k) (ad2 vs k):=by
 unfold KV at r
 induction r with
 |nil=>exact aau
 |@cons p q ps I h t N=>
  obtain⟨h1,h2⟩:=h;by_cases e:p.1=k
  .have e':q.1=k:=h1.symm.trans e
   have b:ad2 (q::I) k=some q.2:=by simp[ad2,abj,e']
   rw[v8 e,b];exact h2
  .have e':¬q.1=k:=λz=>e (h1.trans z)
   have b:ad2 (q::I) k=ad2 I k:=by simp[ad2,abj,e']
   rw[wX e,b];exact N
theorem KV.any{kvs:List (κ×V)}{vs:List (κ×Value)}(r:KV kvs vs)(k:κ):(kvs.any λF=>decide (F.1=k))=vs.any λF=>decide (F.1=k):=by
 unfold KV at r
 induction r with
 |nil=>rfl
 |cons h t N=>rw[acY,acY,N,h.1]
theorem KV.repl{kvs:List (κ×V)}{vs:List (κ×Value)}(r:KV kvs vs)(k:κ){y:V}{u:Value}(Z:RelV y u) :
  KV (kvs.map λF=>if F.1=k then(F.1,y)else F) (vs.map λF=>if F.1=k then(F.1,u)else F):=by
 unfold KV at r⊢
 induction r with
 |nil=>exact .nil
 |@cons p q ps I h t N=>
  rw[YT,YT];refine .cons ?_ N;obtain⟨h1,h2⟩:=h;by_cases e:p.1=k
  .rw[Zd e,Zd (h1.symm.trans e)];exact⟨h1,Z⟩
  .rw[Zk e,Zk (λz=>e (h1.trans z))];exact⟨h1,h2⟩
theorem KV.put{kvs:List (κ×V)}{vs:List (κ×Value)}(r:KV kvs vs)(k:κ){y:V}{u:Value}(Z:RelV y u):KV (putK kvs k y) (stored vs k u):=by
 unfold putK stored;rw[r.any k];by_cases e:(vs.any λF=>decide (F.1=k))=true
 .rw[Zd e,Zd e];exact r.repl k Z
 .rw[Zk e,Zk e];exact Paired.snoc r ⟨rfl,Z⟩
theorem KV.drop{kvs:List (κ×V)}{vs:List (κ×Value)}(r:KV kvs vs)(k:κ):KV (rm kvs k) (without vs k):=by
 unfold KV at r⊢;unfold rm without
 induction r with
 |nil=>exact .nil
 |@cons p q ps I h t N=>
  obtain⟨h1,h2⟩:=h;rw[aan,aan];by_cases e:p.1=k
  .have a:¬decide (p.1≠k)=true:=by simp[e]
   have b:¬decide (q.1≠k)=true:=by simp[h1.symm.trans e]
   rw[Zk a,Zk b];exact N
  .have e':¬q.1=k:=λz=>e (h1.trans z)
   have a:decide (p.1≠k)=true:=by simp[e]
   have b:decide (q.1≠k)=true:=by simp[e']
   rw[Zd a,Zd b];exact .cons ⟨h1,h2⟩ N
theorem KV.length{kvs:List (κ×V)}{vs:List (κ×Value)}(r:KV kvs vs):kvs.length=vs.length:=adH r
theorem Kl(kvs:List (κ×V))(k:κ):(rm kvs k).length<=kvs.length:=ac9 _ _
end
theorem lz{k:Key}(r:RelV (kV k) u):(aY P w).is k u=true:=by
 cases k with
 |inl i=>obtain⟨t,e⟩:=(show ∃t,u=abT i t from r);subst e;exact Cy P w i t
 |inr x=>obtain⟨t,e⟩:=(show ∃t,u=aci x t from r);subst e;exact Cz P w x t
theorem xU:∀{ks:List Key}{us:List Value},Vals (ks.map kV) us->ItemsAre (aY P w) ks us
 |[],_,r=>by rw[aai]at r;cases r;exact .nil
 |k::ks,_,r=>by
  rw[YT]at r;cases r with
  |cons h t=>exact .cons (lz h) (xU t)
noncomputable abbrev KT(H:Hp):List (List Key×V)->List (List Key×Addr×Value)->Prop:=ad4 λp q=>p.1=q.1/\H q.2.1=some (.tup (p.1.map kV))/\RelV p.2 q.2.2
variable{xs:List (List Key×Addr×Value)}{kvs:List (List Key×V)}
theorem KT.val(r:KT H kvs xs)(k:List Key):oA (lG kvs k) ((atKey xs k).map (·.2)):=by
 induction r with
 |nil=>exact aau
 |@cons p q ps I h t N=>
  obtain⟨h1,_,h2⟩:=h;by_cases e:p.1=k
  .have e':q.1=k:=h1.symm.trans e
   have b:atKey (q::I) k=some q.2:=by simp[atKey,abj,e']
   rw[v8 e,b];exact h2
  .have e':¬q.1=k:=λz=>e (h1.trans z)
   have b:atKey (q::I) k=atKey I k:=by simp[atKey,abj,e']
   rw[wX e,b];exact N
variable{y:V}
theorem KT.repl(r:KT H kvs xs)(k:List Key)(Z:RelV y u) :
  KT H (kvs.map λF=>if F.1=k then(F.1,y)else F) (xs.map (putAt k u)):=by
 induction r with
 |nil=>exact .nil
 |@cons p q ps I h t N=>
  rw[YT,YT];refine .cons ?_ N;obtain⟨h1,h2,B⟩:=h;unfold putAt;by_cases e:p.1=k
  .rw[Zd e,Zd (h1.symm.trans e)];exact⟨h1,h2,Z⟩
  .rw[Zk e,Zk (λz=>e (h1.trans z))];exact⟨h1,h2,B⟩
theorem KT.put(r:KT H kvs xs)(k:List Key){b:Addr}(U:H b=some (.tup (k.map kV)))(Z:RelV y u) :
  KT H (putK kvs k y) (storedH xs k b u):=by
 have e:(kvs.any λF=>decide (F.1=k))=(atKey xs k).isSome:=by
  rw[vR,(r.val k).isSome_eq,adU]
 unfold putK storedH;rw[e];by_cases q:(atKey xs k).isSome=true
 .rw[Zd q,Zd q];exact r.repl k Z
 .rw[Zk q,Zk q];exact Paired.snoc r ⟨rfl,U,Z⟩
variable{H':Hp}
theorem KT.keeps(r:KT H kvs xs)(U:∀b ys,H b=some (.tup ys)->H' b=some (.tup ys)):KT H' kvs xs:=
 Paired.mapP r λ_ _ z=>⟨z.1,U _ _ z.2.1,z.2.2⟩
variable{P:Program}
theorem R3{u:HO}(ok:HOk P w H h)(e:Rd H a u):cT P w H h a u:=e.ok ok
theorem qI{kvs:List (Key×V)}(ok:HOk P w H h)(e:Rd H a (.dK kvs)):kvs.length<=YZ/\(a==abP)=false/\∃vs,KV kvs vs/\h.DictOf (aY P w) a vs:=
 show cT P w H h a (.dK kvs)from R3 ok e
theorem Gz{kvs:List (Key×V)}(ok:HOk P w H h)(e:H a=some (.dK kvs)):kvs.length<=YZ/\(a==abP)=false/\∃vs,KV kvs vs/\h.DictOf (aY P w) a vs:=qI ok (.inl e)
theorem qQ{ks:List Key}(ok:HOk P w H h)(e:H a=some (.tup (ks.map kV))):(ac5 (aY P w)).is h ks a:=by
 obtain⟨_,its,r,o,h1,h2,n,B⟩:=(show cT P w H h a (.tup (ks.map kV))from ok a _ e);exact⟨o,its.toArray,n,h1,h2,B.1,by simpa using xU r⟩
theorem wg(ok:HOk P w H h)(e:Rd H a (.dT kvs)):kvs.length<=YZ/\(a==abP)=false/\
  ∃xs,KT H kvs xs/\h.DictOfH (ac5 (aY P w)) a xs:=by
 obtain⟨z,y,xs,r,o,es,ep,h1,h2,B,U,F⟩:=(show cT P w H h a (.dT kvs)from R3 ok e);refine⟨z,y,xs,r,o,es,ep,h1,h2,B,U,λx J=>?_,F⟩;have all:∀{l:List (List Key×V)}{m:List (List Key×Addr×Value)},KT H l m->∀x∈m,(ac5 (aY P w)).is h x.1 x.2.1:=by
  intro l m q
  induction q with
  |nil=>intro x J;exact nomatch J
  |@cons p q ps I D t N=>
   intro x J;rcases Za.mp J with e|J
   .subst e
    exact qQ ok (by rw[←D.1];exact D.2.1)
   .exact N x J
 exact all r x J
theorem Xg(ok:HOk P w H h)(e:H a=some (.dT kvs)):kvs.length<=YZ/\(a==abP)=false/\
 ∃xs,KT H kvs xs/\h.DictOfH (ac5 (aY P w)) a xs:=wg ok (.inl e)
def nA(H:Hp)(a:Addr)(y:V)(r:Option V):Prop:=
 (∃kvs k,Rd H a (.dK kvs)/\y=kV k/\r=lG kvs k)∨∃kvs k b,Rd H a (.dT kvs)/\y= .ref b/\H b=some (.tup (k.map kV))/\r=lG kvs k
def IV(H:Hp)(a:Addr)(y v:V)(H':Hp):Prop:=
 (∃kvs k,H a=some (.dK kvs)/\y=kV k/\kvs.length<YZ/\H'=upd H a (.dK (putK kvs k v)))∨
 ∃kvs k b,H a=some (.dT kvs)/\y= .ref b/\H b=some (.tup (k.map kV))/\kvs.length<YZ/\H'=upd H a (.dT (putK kvs k v))
variable{kvs:List (Key×V)}
theorem nA.k{k:Key}(e:H a=some (.dK kvs)):nA H a (kV k) (lG kvs k):=.inl ⟨kvs,k,.inl e,rfl,rfl⟩
variable{v:V}
theorem IV.k{k:Key}(e:H a=some (.dK kvs))(Y:kvs.length<YZ):IV H a (kV k) v (upd H a (.dK (putK kvs k v))):=.inl ⟨kvs,k,e,rfl,Y,rfl⟩
theorem Inv.big(I:Inv X pins σ H s):abP<s.heap.objs.size:=by
 have h:Zh<s.heap.objs.size:=(I.mod.glob.keeps I.bk).lt;exact Nat.lt_trans (by decide) h
theorem yt(J:A.units+1<cLine)(I:Inv X pins σ H s)(g:nA H a y (some v))(Z:RelV y u)(h:∀O s',Inv X pins σ H s'->RelV v O->Q O s') :
  wpAny 1.12 A (adt (.ref a) u) Q E s:=by
 rcases g with⟨kvs,k,e,Y,l⟩|⟨kvs,k,b,e,Y,B,l⟩
 .subst Y
  obtain⟨z,hd,vs,rel,D⟩:=qI I.hok e;obtain⟨O,V,N⟩:=oA.some_of (v:=v) (o:=ad2 vs k) (by rw[l];exact rel.val k);exact wpAny_getItem_of (lz Z) D.mapOf V (h O _ (I.tok _) N)
 .subst Y
  cases (show u=ZD b from Z);obtain⟨z,hd,xs,rel,D⟩:=wg I.hok e;obtain⟨O,V,N⟩:=oA.some_of (v:=v) (o:=(atKey xs k).map (·.2)) (by rw[l];exact rel.val k);obtain⟨p,F,q⟩:=aey.mp V;refine wpAny_getItem_heap (abF J) (qQ I.hok B) D F ?_;rw[q];exact h O _ (I.tok _) N
variable{o:Option V}
theorem Yo(J:A.units+1<cLine)(I:Inv X pins σ H s)(g:nA H a y o)(Z:RelV y u)(h:∀s',Inv X pins σ H s'->Q (.bool o.isSome) s') :
  wpAny 1.12 A (aaa .In u (.ref a)) Q E s:=by
 rcases g with⟨kvs,k,e,Y,l⟩|⟨kvs,k,b,e,Y,B,l⟩
 .subst Y
  obtain⟨z,hd,vs,rel,D⟩:=qI I.hok e;refine wpAny_in_of (lz Z) hd D.mapOf ?_;rw[←(rel.val k).isSome_eq,←l];exact h _ (I.tok _)
 .subst Y
  cases (show u=ZD b from Z);obtain⟨z,hd,xs,rel,D⟩:=wg I.hok e;refine wpAny_in_heap (abF J) (qQ I.hok B) hd D ?_;have q:=(rel.val k).isSome_eq;rw[adU]at q;rw[←q,←l];exact h _ (I.tok _)
theorem O5(J:A.units+1<cLine)(I:Inv X pins σ H s)(g:nA H a y o)(Z:RelV y u)(h:∀s',Inv X pins σ H s'->Q (.bool (!o.isSome)) s') :
  wpAny 1.12 A (aaa .NotIn u (.ref a)) Q E s:=by
 rcases g with⟨kvs,k,e,Y,l⟩|⟨kvs,k,b,e,Y,B,l⟩
 .subst Y
  obtain⟨z,hd,vs,rel,D⟩:=qI I.hok e;refine wpAny_notIn_of (lz Z) hd D.mapOf ?_;rw[←(rel.val k).isSome_eq,←l];exact h _ (I.tok _)
 .subst Y
  cases (show u=ZD b from Z);obtain⟨z,hd,xs,rel,D⟩:=wg I.hok e;refine wpAny_notIn_heap (abF J) (qQ I.hok B) hd D ?_;have q:=(rel.val k).isSome_eq;rw[adU]at q;rw[←q,←l];exact h _ (I.tok _)
theorem rZ{ob:HO}(I:Inv X pins σ H s)(mu:Mut (H a))(B:ace a s.heap h')(V:∃q,h'.get? a=some q)(new:cT X.prog X.w (upd H a ob) h' a ob) :
  Inv X pins σ (upd H a ob) {s with heap:=h',toks:=t'}:=
 I.write (x:=a) (e:=a) mu (.inl rfl) (λb q U z=>(B.2 b U).trans z) V new
variable{P:ZL}
theorem yH{vs:List (Key×Value)}(z:kvs.length<=YZ)(hd:(a==abP)=false)(rel:KV kvs vs)(D:h'.DictOf (aY P w) a vs) :
 cT P w H' h' a (.dK kvs):=⟨z,hd,vs,rel,D⟩
variable{r:Value}
theorem x_{Q:Unit->Hq->Prop}(J:A.units+1<cLine)(I:Inv X pins σ H s)(g:IV H a y v H')(Z:RelV y u)(rv:RelV v r)(h:∀s',Inv X pins σ H' s'->Q () s') :
  wpAny 1.12 A (aeE (.ref a) u r) Q E s:=by
 rcases g with⟨kvs,k,e,ey,l,eH⟩|⟨kvs,k,b,e,ey,eb,l,eH⟩
 .subst ey eH
  obtain⟨z,hd,vs,rel,dd⟩:=Gz I.hok e;have O:vs.length<=YZ:=by rw[←rel.length];exact z
  have Y:(putK kvs k v).length<=YZ:=by have:=jR kvs k v;omega
  refine wpAny_setItem_pairs (hsz:=O) (lz Z) dd λh' N B=>h _ ?_;have V:∃q,h'.get? a=some q:=let⟨q,_,_,D,_⟩:=N;⟨q,D⟩;exact rZ I (by rw[e];exact aau) B V (yH Y hd (rel.put k rv) N)
 .subst ey eH
  cases (show u=ZD b from Z);obtain⟨z,hd,xs,rel,dd⟩:=Xg I.hok e;have O:xs.length<=YZ:=by rw[←adH rel];exact z
  have Y:(putK kvs k v).length<=YZ:=by have:=jR kvs k v;omega
  refine wpAny_setItem_heap (hsz:=O) (abF J) (qQ I.hok eb) dd λh' N B=>h _ ?_;obtain⟨q,es,ep,D,h2,h3,U,_,h5⟩:=N;refine rZ I (by rw[e];exact aau) B ⟨q,D⟩ ⟨Y,hd,_,(rel.put k eb rv).keeps λc ys F=>?_,q,es,ep,D,h2,h3,U,h5⟩;rw[aO (Ew F e (λz=>nomatch z))];exact F
section
variable{X:Cx}{pins:List (Addr×Obj)}{σ:St}{H:Hp}{s:Shared}{a:Addr}{kvs:List (Key×V)}{k:Key}{u:Value}{A:Around}{E:Value->Shared->Prop}
theorem HH{Q:Unit->Hq->Prop}(I:Inv X pins σ H s)(e:H a=some (.dK kvs))(Z:RelV (kV k) u)(l:(lG kvs k).isSome=true)(h:∀s',Inv X pins σ (upd H a (.dK (rm kvs k))) s'->Q () s') :
  wpAny 1.12 A (delItem (.ref a) u) Q E s:=by
 obtain⟨z,hd,vs,rel,D⟩:=Gz I.hok e;refine wpAny_delItem_slot D.typeIs (by decide) adZ
  (adm adZ D.typeIs PySem.F.entry_dict_delitem (PySem.F.args_dict_delitem_2 _ _) (meets_dict_delitem_pairs (aY X.prog X.w) a (lz Z)) ⟨vs,D,by rw[←rel.length];exact z,by rw[←(rel.val k).isSome_eq];exact l,λh' N B=>h _ ?_⟩)
 have V:∃q,h'.get? a=some q:=let⟨q,_,_,hq,_⟩:=N;⟨q,hq⟩;exact rZ I (by rw[e];exact aau) B V (yH (aas (Kl kvs k) z) hd (rel.drop k) N)
theorem WP{Q:Value->Hq->Prop}(I:Inv X pins σ H s)(e:Rd H a (.dK kvs))(h:∀t s',Inv X pins σ H s'->Q (.int kvs.length t) s'):wpAny 1.12 A (call (.builtin "len") [.ref a]) Q E s:=by
 obtain⟨z,hd,vs,rel,D⟩:=qI I.hok e;refine call_len_dict hd D (by rw[←rel.length];rw[acr]at z;omega) ?_;rw[←rel.length];exact h _ _ (I.tok _)
end
theorem Am{s:Hq}(I:Inv X pins σ H s)(g:nA H a y o):s.TypeIs (.ref a) "dict":=by
 rcases g with⟨kvs,k,e,_,_⟩|⟨kvs,k,b,e,_,_,_⟩
 .obtain⟨_,_,vs,_,dd⟩:=qI I.hok e
  exact dd.typeIs
 .obtain⟨_,_,xs,_,dd⟩:=wg I.hok e
  exact dd.typeIs
def Tc(td ty tv:TE)(rd:V->V->Hp->VK->Prop):TS:=λD σ H=>td σ H λx H1=>ty σ H1 λy H2=>∃a v,x= .ref a/\nA H2 a y (some v)/\
 tv σ H2 λF Y=>rd v F Y λz q=>∃B,IV q a y z B/\D.nx σ B
def S9(td ty:TE):TS:=λD σ H=>td σ H λx H1=>ty σ H1 λy H2=>∃a kvs k,x= .ref a/\H2 a=some (.dK kvs)/\y=kV k/\(lG kvs k).isSome=true/\D.nx σ (upd H2 a (.dK (rm kvs k)))
variable{i o:Expr}{td ty tv:TE}
theorem Ra{op:ad6}{rd:V->V->Hp->VK->Prop}(J:X.A.units+1<cLine)(N:PE X o td)(hi:PE X i ty)(hv:PE X value tv)(a1:Rb X op rd)
  (Y:∀ov iv new,augStore i ov iv new=(do aaY [new,ov,iv] (aeE ov iv new);release [new,ov,iv] [];pure .next)):PS X (.AugAssign (.Subscript o i tpos) op value pos) (Tc td ty tv rd):=by
 intro pins s σ H D I h;refine wpAny_AugAssign_SubscriptAny (thn (N pins s σ H _ I h) λu F ⟨x,H1,I1,rx,q1⟩=>thn (hi pins F σ H1 _ I1 q1) λiv O ⟨y,H2,I2,Z,a,v,ex,g,q2⟩=>?_) Y;subst ex;obtain rfl:u=ZD a:=rx;refine yt J I2 g Z λw' s3 U a0=>thn (hv pins s3 σ H2 _ U q2) λw2 s4 ⟨y2,H3,I4,a2,q3⟩=>thn (a1 pins s4 σ H3 v y2 w' w2 _ I4 a0 a2 q3) λw3 s5 ⟨z,q,I5,rz,B,g5,q4⟩=>?_;exact x_ J I5 g5 Z rz λs6 I6=>⟨σ,B,I6,q4⟩
theorem Q7(N:PE X o td)(hi:PE X i ty):PS X (.Delete [.Subscript o i tpos] pos) (S9 td ty):=by
 intro pins s σ H D I h;refine wpAny_Delete (wpAny_deleteEach_cons (wpAny_delete_Subscript (thn (N pins s σ H _ I h) λu F ⟨x,H1,q,rx,q1⟩=>thn (hi pins F σ H1 _ q q1) λB O ⟨y,H2,z,Z,a,kvs,k,ex,e,Y,l,q2⟩=>?_)));subst ex Y;obtain rfl:u=ZD a:=rx;exact HH z e Z l λJ U=>wpAny_deleteEach_nil ⟨σ,_,U,q2⟩
theorem v7(h:Heap)(U:abP<h.objs.size):cT P w H (h.push {cls:=.type "dict",data:=.dict #[]}) h.objs.size (.dK []):=
 ⟨abf _,aaU.mpr (ZV (Zg U)),[],.nil,aes h⟩
def Va:TE:=λ_ H Q=>∀p,H p=none->Q (.ref p) (upd H p (.dK []))
theorem Ng:PE X (.Dict [] [] pos) Va:=λpins s σ H Q I h=>
 wpAny_Dict_empty ⟨.ref s.heap.objs.size,_,I.laid (a:=s.heap.objs.size) (o:=.dK []) (t':=s.toks) (λ_ _ q=>YM _ q) (YX _) (v7 s.heap I.big),rfl,h _ (I.hok.fresh (YX _))⟩
def z_:List (TE×TE)->St->Hp->(List (V×V)->Hp->Prop)->Prop
 |[],_,H,Q=>Q [] H
 |(tk,tv)::r,σ,H,Q=>tk σ H λx H1=>tv σ H1 λy H2=>z_ r σ H2 λps Y=>Q ((x,y)::ps) Y
noncomputable abbrev VV:List (V×V)->List (Value×Value)->Prop:=ad4 λp q=>RelV p.1 q.1/\RelV p.2 q.2
def PPs(X:Cx)(pos:Pos)(J:List (Option Expr))(F:List Expr)(q:List (TE×TE)):Prop:=
 ∀(pins:List (Addr×Obj))(s:Hq)(σ:St)(H:Hp)(Q:List (V×V)->Hp->Prop),Inv X pins σ H s->z_ q σ H Q->
  wpAny 1.12 X.A (evalPairs (pairTrees J F X.env pos)) (λvs s'=>∃ps H',Inv X pins σ H' s'/\VV ps vs/\Q ps H') X.xe s
theorem PK:PPs X pos [] [] []:=λpins s σ H Q I h=>pairTrees_nil_walk ⟨[],H,I,.nil,h⟩
theorem M4{k v:Expr}{ks:List (Option Expr)}{vs:List Expr}{tk:TE}{q:List (TE×TE)}(D:PE X k tk)(z:PE X v tv)(O:PPs X pos ks vs q) :
  PPs X pos (some k::ks) (v::vs) ((tk,tv)::q):=λpins s σ H Q I h=>
 pairTrees_cons_walk (thn (D pins s σ H _ I h) λu F ⟨x,H1,N,rx,q1⟩=>thn (z pins F σ H1 _ N q1) λV B ⟨y,H2,J,Z,q2⟩=>
  thn (O pins B σ H2 _ J q2) λws s3 ⟨ps,Y,U,rel,q3⟩=>⟨(x,y)::ps,Y,U,.cons ⟨rx,Z⟩ rel,q3⟩)
def oF(kvs more:List (Key×V)):List (Key×V):=more.foldl (λacc F=>putK acc F.1 F.2) kvs
theorem KV.merge:∀{more:List (Key×V)}{B:List (Key×Value)}{kvs:List (Key×V)}{vs:List (Key×Value)},KV more B->KV kvs vs->KV (oF kvs more) (merged vs B):=by
 intro more B kvs vs r;unfold KV at r
 induction r generalizing kvs vs with
 |nil=>intro q;exact q
 |@cons p q ps I h t N=>
  intro U;have e:KV (putK kvs p.1 p.2) (stored vs q.1 q.2):=by
   have:=U.put p.1 h.2;rw[←h.1];exact this
  exact N e
theorem qG:∀(more kvs:List (Key×V)),(oF kvs more).length<=kvs.length+more.length
 |[],kvs=>by show kvs.length<=kvs.length+0;omega
 |p::r,kvs=>by
  have h1:=qG r (putK kvs p.1 p.2);have h2:=jR kvs p.1 p.2;show(oF (putK kvs p.1 p.2) r).length<=_;rw[Zq];omega
theorem vU{P:ZL}{w:World}:∀{kvs:List (Key×V)}{ws:List (Value×Value)},VV (kvs.map λF=>(kV F.1,F.2)) ws->∃B,Carries (aY P w) ws B/\KV kvs B
 |[],_,r=>by rw[aai]at r;cases r;exact⟨[],aau,.nil⟩
 |p::kvs,_,r=>by
  rw[YT]at r;cases r with
  |@cons a b D bs h t=>
   obtain⟨B,c,q⟩:=vU (P:=P) (w:=w) t;obtain⟨z,I⟩:=b;exact⟨(p.1,I)::B,⟨lz h.1,rfl,c⟩,.cons ⟨rfl,h.2⟩ q⟩
def R1(q:List (TE×TE)):TE:=λσ H Q=>∀p,H p=none->z_ q σ (upd H p (.dK [])) λps H2=>H2 p=some (.dK [])/\∃kvs:List (Key×V),ps=kvs.map (λF=>(kV F.1,F.2))/\kvs.length<=15/\Q (.ref p) (upd H2 p (.dK (oF [] kvs)))
theorem O4{F:List Expr}{a0:List (TE×TE)}(h:PPs X pos J F a0)(U:J.all (·.isSome)=true)(Y:J.length=F.length)(Z:J≠[])
  (a2:J.length<=15):PE X (.Dict J F pos) (R1 a0):=by
 intro pins s σ H Q I q;have hn:=I.hok.fresh (YX s.heap.objs.size);have N:=I.laid (a:=s.heap.objs.size) (o:=.dK []) (h':=s.heap.push {cls:=.type "dict",data:=.dict #[]}) (t':=s.toks) (λ_ _ q=>YM _ q) (YX _) (v7 s.heap I.big);refine wpAny_Dict_walk (knd:=aY X.prog X.w) U Y Z a2 (thn (h pins _ σ _ _ N (q _ hn)) λws O ⟨ps,H2,I2,rel,e,kvs,ep,lk,q2⟩=>?_);subst ep;obtain⟨rs,c,rk⟩:=vU (P:=X.prog) (w:=X.w) rel;obtain⟨z,hd,a3,r0,D⟩:=Gz I2.hok e;cases r0;refine⟨rs,c,D,λh' a1 B=>⟨.ref s.heap.objs.size,_,?_,rfl,q2⟩⟩;have hz:(oF [] kvs).length<=YZ:=by
  have h1:=qG kvs [];rw[ZZ]at h1;rw[acr];omega
 have V:∃q,h'.get? s.heap.objs.size=some q:=let⟨q,_,_,hq,_⟩:=a1;⟨q,hq⟩;exact rZ I2 (by rw[e];exact aau) B V (yH hz hd (rk.merge .nil) a1)
variable{o:Option V}
theorem V2(J:A.units+1<cLine)(I:Inv X pins σ H s)(g:nA H a y o)(Z:RelV y u)(h:∀O s',Inv X pins σ H s'->RelV (o.getD .non) O->Q O s') :
  wpAny 1.12 A (call (.builtin "dict.get") [.ref a,u]) Q E s:=by
 rcases g with⟨kvs,k,e,Y,l⟩|⟨kvs,k,b,e,Y,B,l⟩
 .subst Y
  obtain⟨z,hd,vs,rel,D⟩:=qI I.hok e;refine adm abJ D.typeIs ab_ (ael _ _) (meets_dict_get (aY X.prog X.w) a (lz Z) hd) ⟨_,D.mapOf,h _ _ (I.tok _) ?_⟩;rw[l];exact(rel.val k).getD rfl
 .subst Y
  cases (show u=ZD b from Z);obtain⟨z,hd,xs,rel,D⟩:=wg I.hok e;refine adm abJ D.typeIs ab_ (ael _ _) (meetsH_dict_get (ac5 (aY X.prog X.w)) a b hd) ⟨abF J,k,xs,qQ I.hok B,D,h _ _ (I.tok _) ?_⟩;rw[l];exact(rel.val k).getD rfl
variable{d:V}
theorem U9(J:A.units+1<cLine)(I:Inv X pins σ H s)(g:nA H a y o)(Z:RelV y u)(rd:RelV d r)(h:∀O s',Inv X pins σ H s'->RelV (o.getD d) O->Q O s') :
  wpAny 1.12 A (call (.builtin "dict.get") [.ref a,u,r]) Q E s:=by
 rcases g with⟨kvs,k,e,Y,l⟩|⟨kvs,k,b,e,Y,B,l⟩
 .subst Y
  obtain⟨z,hd,vs,rel,D⟩:=qI I.hok e;refine adm abJ D.typeIs ab_ (aem _ _ _) (meets_dict_get_default (aY X.prog X.w) a (lz Z) hd r) ⟨_,D.mapOf,h _ _ (I.tok _) ?_⟩;rw[l];exact(rel.val k).getD rd
 .subst Y
  cases (show u=ZD b from Z);obtain⟨z,hd,xs,rel,D⟩:=wg I.hok e;refine adm abJ D.typeIs ab_ (aem _ _ _) (meetsH_dict_get_default (ac5 (aY X.prog X.w)) a b hd r) ⟨abF J,k,xs,qQ I.hok B,D,h _ _ (I.tok _) ?_⟩;rw[l];exact(rel.val k).getD rd
end L2
namespace Att
open PySem PySem.W PySem.Calls PyProof.Rows
variable{P:Params}
theorem uL:∀(ns:List Int)(vs:List Value),WellAll P h vs (ns.map WData.int)->afy vs ns:=by
 intro ns
 induction ns with
 |nil=>
  intro vs w;rw[aai]at w;cases w;exact .nil
 |cons n ns N=>
  intro vs w;rw[YT]at w;cases w with
  |cons a b=>
   cases a;exact .cons _ _ (N _ b)
variable{l:OpenLaw}
theorem Hy(hn:l.most=some n){args:List WData}{I:List Value}
  (O:l.row.toRowW.claim.pre args=true) (F:WellAll P h I args) :
  ∃a vs ns,I=[ZD a]/\args=[WData.list (ns.map WData.int)]/\h.get? a=some {cls:=.type "list",data:=.seq vs.toArray}/\afy vs ns/\ns.length<=n:=by
 have Y:WShape.hasAll [] args [.list .int]=true:=(pre_splitW O).1;have Z:l.pre.holds [] {args:=args}=true:=(pre_splitW O).2;obtain⟨d,r,rfl,h1,h2⟩:=hasAllW_cons Y;obtain rfl:=hasAllW_nil h2;obtain⟨xs,rfl,B⟩:=hasW_list h1;obtain⟨ns,rfl⟩:=items_int B;have z:ns.length<=n:=by
  unfold OpenLaw.pre at Z;have U:(WTm.not (.lt (.lit (.int (n:Int))) (.len (.arg 0)))).holds [] {args:=[.list (ns.map .int)]}=true:=by
   have U:=(holds_andW Z).1;rw[hn]at U;exact U
  have J:=condW_of U (w_not (w_lt w_lit (w_len_list (w_arg rfl))));rw[Ze]at J;refine Nat.le_of_not_lt λq=>?_;have q':(n:Int)<((ns.length:Nat):Int):=by omega
  first
   |(rw[aap q']at J;exact absurd J (by decide))
   |(simp at J;omega)
 cases F with
 |cons D V=>
  cases V;cases D with
  |list N a0=>exact⟨_,_,ns,rfl,rfl,N,uL ns _ a0,z⟩
theorem Ip(l:OpenLaw)(args:List WData):l.row.toRowW.claim.post args (.bool true) args=true:=
 postW_of (r:=l.row.toRowW) (X:=(true==true))
  (show WShape.has [] (.bool true) .bool=true by first|rfl|decide|simp[WShape.has,WShape.arms,WShape.armsAll])
  (show(WTm.eq .res (.lit (.bool true))).value [] {args:=args,res:=some (.bool true),after:=args}=some (.bool (true==true))from w_eq_bool (w_res rfl) w_lit) rfl
theorem attach_call{q:ZL}{O:List Str}
  (hn:l.most=some n) (a5:d.params.defaults=[])
  (call:∀(w:World)(s₀ J:Hq)(mg mb:Str->Option Value)(fa:Addr)(o:Obj)(pm cd I:Value)(a:Addr)(vs:List Value)(ns:List Int),
   Ground q O [] XP w s₀ mg mb J.heap->YP w J.heap->
   J.heap.get? fa=some o->o.data= .func (docDef d.name d.params d.body d.scope pm cd I)->J.heap.CodeRec cd d.name->mg d.name=some (.ref fa)->
   J.heap.get? a=some {cls:=.type "list",data:=.seq vs.toArray}->afy vs ns->ns.length<=n->J.gens= #[]->
   abt (model l.prog w) ad3 (.call (.ref fa) ⟨[.ref a],[]⟩) (λr s'=>r= .ok (.ret (.bool true))/\OldK J.heap s'.heap/\s'.os=J.os/\ac6 s'.gens) J) :
  WalkO q O XP YP l.row.toRowW d [] (λf vs=>afX f vs):=by
 intro w s₀ J mg mb G Y fa o pm cd I dV kV N hd V F a3 hg args a7 as a1 a6 a8 a4 a9;obtain rfl:dV= .none:=Dflts.none F a5;obtain rfl:kV= .none:=Dflts.noKw F;obtain⟨a,vs,ns,rfl,rfl,a2,a0,z⟩:=Hy hn a1 a4;refine enter_call (abD (call w s₀ J mg mb fa o pm cd I a vs ns G Y N (fd_plain hd) V a3 a2 a0 z hg) λr s' D=>?_);obtain⟨rfl,h2,B,U⟩:=D;exact⟨.inl ⟨.bool true,.bool true,[],rfl,λ_=>rfl,.bool true,Ip l _,λ_=>⟨List.Pairwise.nil,λ_ Z=>(nomatch Z)⟩⟩,h2,B,U⟩
end Att
namespace L2
open PySem PySem.Spec PyProof.Rows
theorem ye:∀{vs:List Value}{ns:List Int},afy vs ns->Vals (ns.map V.int) vs
 |_,_,.nil=>.nil
 |_,_,.cons n t h=>.cons ⟨t,rfl⟩ (ye h)
def Only(H:Hp):Prop:=∀b,H b=none∨∃o xs,H b=some (.frz o (.lst xs))
theorem Ny{K:YS}{mb:Str->Option Value}{CX:CXT}{k:Nat}{fa:Addr}{sp:Sp}{J:Hq}{vs:List Value}{ns:List Int}
  (KX:K.In J.heap) (Z:J.heap.Ns Zh mg) (U:J.heap.Ns builtinsNs mb) (a8:∀x:Str,x≠"__name__"->mb x=aa4 x) (a7:J.heap.NoLimit) (B:J.gens= #[])
  (Y:J.heap.get? a=some {cls:=.type "list",data:=.seq vs.toArray}) (hi:afy vs ns) (hl:ns.length<=YZ) (O:gV k ad3)
  (F:∀base:Heap,K.In base->base.Ns Zh mg->dD P w K mg base CX k fa fd [x] sp) (a3:∀(s:Hq)(u:Value),aeF s fd ⟨[u],[]⟩ [(x,u)])
  (a9:∀H:Hp,Only H->SqL K H a (ns.map V.int)->sp [.ref a] H (λv _=>v= .bl true) λ_ _ _=>False)
  (b0:∀H e s',CX [] H J (λ_ _ _=>False) e s'->False) :
  abt (model P w) ad3 (.call (.ref fa) ⟨[.ref a],[]⟩) (λr s'=>r= .ok (.ret (.bool true))/\OldK J.heap s'.heap/\s'.os=J.os/\ac6 s'.gens) J:=by
 have rv:=ye hi;have a5:=hi.length;have a2:∀H:Hp,Only H->SqL K H a (ns.map V.int)->HOk P w H J.heap->(∀b,H b≠none->b=a)->(H a≠none->K.lookup a=none)->
   abt (model P w) ad3 (.call (.ref fa) ⟨[.ref a],[]⟩) (λr s'=>r= .ok (.ret (.bool true))/\OldK J.heap s'.heap/\s'.os=J.os/\ac6 s'.gens) J:=by
  intro H hO D hok hA hK;have a0:∀{b:Addr}{o:Obj},J.heap.get? b=some o->H b=none->(yZ J.heap H).get? b=some o:=λe n=>K9 e n;have b1:∀{b:Addr}{o:Obj}{es:Array DictEntry}{ep:Nat},J.heap.get? b=some o->o.data= .dict es ep->H b=none:=λ{b o es ep} e d=>by
   cases q:H b with
   |none=>rfl
   |some u=>
    have N:b=a:=hA b (by rw[q];simp);subst N;rw[Y]at e;cases e;have d':Data.seq vs.toArray _=Data.dict es ep:=d;cases d'
  have a1:∀{b:Addr}{m:Str->Option Value},J.heap.Ns b m->(yZ J.heap H).Ns b m:=λ{b m}⟨o,es,ep,e,d,r⟩=>⟨o,es,ep,a0 e (b1 e d),d,r⟩;have a6:K.In (yZ J.heap H):=λb o e=>a0 (KX b o e) (by
   cases q:H b with
   |none=>rfl
   |some u=>
    have N:b=a:=hA b (by rw[q];simp);subst N;rw[hK (by rw[q];simp)]at e;cases e)
  have hM:Mod K mg (yZ J.heap H):=⟨a6,a1 Z,⟨mb,a1 U,a8⟩,let⟨mc,h1,h2⟩:=a7;⟨mc,a1 h1,h2⟩⟩;have e0:Dy P w K mg (yZ J.heap H) ad3 [] J H:=⟨rfl,hM,λb o e=>Py e,Nat.le_of_eq (Hw _ _),trivial,λb U=>absurd (show b∈([]:List Addr)from U) (by simp),hok,.of_eq B⟩;refine abD ((F _ a6 (a1 Z)).run ad3 [] J H ⟨[.ref a],[]⟩ [.ref a] [.ref a] _ _ O e0 (a3 J (.ref a)) (.cons rfl .nil) (a9 H hO D)) λr s' h=>?_;cases r with
  |error e=>exact(b0 H e s' h).elim
  |ok fl=>
   cases fl with
   |next=>exact aa7 h
   |brk=>exact aa7 h
   |cont=>exact aa7 h
   |ret u=>
    obtain⟨v,H',os,bare,un,a4,r',q⟩:=h;have q':v= .bl true:=q;subst q';obtain rfl:u=adY true:=r';refine⟨rfl,OldK.of_keep λb o e=>?_,os,bare⟩;cases q:H b with
    |none=>exact un.keep b o e q (by intro z;exact absurd (show b∈([]:List Addr)from z) (by simp)) (by simp)
    |some u=>
     rcases hO b with z|⟨ob,xs,z⟩
     .rw[q]at z;cases z
     .have z2:=un.frzs b ob _ z
      obtain⟨e1,_⟩:=hok b _ z;obtain⟨e2,_⟩:=a4 b _ z2;rw[e]at e1;cases e1;exact e2
 cases I:K.lookup a with
 |some o=>
  have e:=KX a o I;rw[Y]at e;cases e;refine a2 (λ_=>none) (λ_=>.inl rfl) (.inr ⟨_,vs.toArray,_,I,rfl,rfl,rfl,by rw[List.size_toArray,a5];exact hl,by simpa using rv⟩) (λb u z=>by have z':(none:Option HO)=some u:=z;cases z') (λb z=>absurd rfl z) λz=>absurd rfl z
 |none=>
  refine a2 (λb=>if b=a then some (.frz {cls:=.type "list",data:=.seq vs.toArray} (.lst (ns.map V.int)))else none) (λb=>?_) (.inl (.inr ⟨{cls:=.type "list",data:=.seq vs.toArray},Zd rfl⟩)) (λb u z=>?_) (λb z=>?_) λ_=>I
  .by_cases U:b=a
   .exact .inr ⟨_,_,Zd U⟩
   .exact .inl (Zk U)
  .by_cases U:b=a
   .have z':=(Zd U).symm.trans z
    cases z';subst U;exact⟨Y,by rw[Ze];exact hl,vs,_,rv,Y⟩
   .have z':=(Zk U).symm.trans z
    cases z'
  .by_cases U:b=a
   .exact U
   .exact absurd (Zk U) z
theorem walk_of{l:aet}{k:Nat}{q:ZL}{a1:List Str}{K:Params->YS}{CX:World->CXT}{sp:World->Sp}
  (hn:l.most=some n) (a4:n<=YZ) (a7:d.params.defaults=[]) (O:gV k ad3)
  (hY:∀(w:World)(h:Heap),YP w h->(K w.params).In h)
  (F:∀(w:World)(mg:Str->Option Value)(fa:Addr)(h:Heap),(K w.params).In h->h.Ns Zh mg->mg d.name=some (.ref fa)->
   ∃fd:ZP,(∀(s:Hq)(u:Value),aeF s fd ⟨[u],[]⟩ [(x,u)])/\
    ∀base:Heap,(K w.params).In base->base.Ns Zh mg->dD l.prog w (K w.params) mg base (CX w) k fa fd [x] (sp w))
  (a5:∀(w:World)(H:Hp)(a:Addr)(ns:List Int),ns.length<=n->Only H->SqL (K w.params) H a (ns.map V.int)->sp w [.ref a] H (λv _=>v= .bl true) λ_ _ _=>False)
  (a6:∀(w:World)(H:Hp)(s:Hq)(e:Value)(s':Hq),CX w [] H s (λ_ _ _=>False) e s'->False) :
  af8 q a1 XP YP l.row.toRowW d [] (λf vs=>afX f vs):=by
 refine Att.attach_call hn a7 λw s₀ J mg mb fa o pm cd I a vs ns G Y N hd a8 a3 a2 a0 z B=>?_;have KX:=hY w _ Y;obtain⟨fd,U,Z⟩:=F w mg fa _ KX G.T.g a3;exact Ny KX G.T.g G.T.b G.T.builtins G.T.nolimit B a2 a0 (aas z a4) O Z U (λH hO D=>a5 w H a ns z hO D) λH e s'=>a6 w H J e s'
def inClass(s:Stmt)(j:Nat):Stmt:=match s with
 |.ClassDef _ _ _ V _ _ _ _ _ _ _=>V.getD j (.Pass ⟨0,0,0,0⟩)
 |_=>.Pass ⟨0,0,0,0⟩
def bx(s:Stmt):Arguments:=match s with
 |.FunctionDef _ a _ _ _ _ _ _ _ _=>a
 |_=>{posonlyargs:=[],args:=[],vararg:=none,kwonlyargs:=[],kw_defaults:=[],kwarg:=none,defaults:=[]}
def bc(s:Stmt):List Stmt:=match s with
 |.FunctionDef _ _ b _ _ _ _ _ _ _=>b
 |_=>[]
def aA(s:Stmt):Scope:=match s with
 |.FunctionDef _ _ _ _ _ _ z _ _ _=>z
 |_=>{kind:=.function,names:=[],isGenerator:=false,isCoroutine:=false}
abbrev CX0:CXT:=λ_ _ _ _ _ _=>False
abbrev E0:XK:=λ_ _ _=>False
variable{X:Cx}
theorem FZ:wW CX0 X E0:=λ_ _ _ _ _ _ _ h=>h.elim
structure Fun(K:PySem.W.Frag)(x qual:Str)(st:Stmt)(f:Addr)(fd:FuncData):Prop where
 ex:∃(oc:Value)(od:Option Addr)(kV doc pm:Value)(an:Option Addr)(cdv ct:Value)(osl:Array (Option Value)),
  fd=acB x qual (bx st) (bc st) (aA st) .none kV doc pm an cdv ct/\K.lookup f=some ⟨oc,od,.func fd,osl⟩/\aeG K cdv qual=true
 kp:acf K (.ref f)=true
section
variable{P:Program}{w:World}{K:PySem.W.Frag}{mg:Str->Option Value}{base:Heap}
theorem Fun.ok{x D:Str}{st:Stmt}{f:Addr}{fd:ZP}{N ps:List Str}{k:Nat}{sp:Sp}(F:Fun K x D st f fd)(S:bz N ps (aA st))(len:∀vs H Q E,sp vs H Q E->vs.length=ps.length)
  (B:∀(Z:Value)(A:aad)(outer:List Env)(s:Hq)(H:Hp)(vs:List V)(Q:VK)(E:XK),gV k (A.deeper (acR D (aA st) s.heap.objs.size f Z))->sp vs H Q E->
   ∃t,PSs (Cd CX0 P w K mg base N D (aA st) f Z A outer s H E).nox (bc st) t/\t {nx:=λ_ H'=>Q .non H',rt:=Q} (start N vs) H):dD P w K mg base CX0 (k+1) f fd ps sp:=by
 obtain⟨oc,od,kV,I,Y,U,Z,ct,J,rfl,lk,a0⟩:=F.ex;refine Yc lk a0 S len λA outer s H vs Q E O z=>?_;obtain⟨t,h,q⟩:=B Z A outer s H vs Q E O z;exact⟨t,h.nox,q⟩
theorem Fun.binds{x D:Str}{st:Stmt}{f:Addr}{fd:ZP}{ps:List Str}(F:Fun K x D st f fd)
  (h:∀(kV I Y:Value)(U:Option Addr)(Z ct:Value)(us:List Value),us.length=ps.length->bindArgs (acB x D (bx st) (bc st) (aA st) .none kV I Y U Z ct) ⟨us,[]⟩=pure (ps.zip us)):Binds K fd ps []:=by
 obtain⟨oc,q,kV,I,Y,U,Z,ct,J,rfl,lk,V⟩:=F.ex;exact .all (h kV I Y U Z ct)
theorem cA{x D:Str}{st:Stmt}{f:Addr}{oc:Value}{F U:Option Addr}{J:Array (Option Value)}{kV I Y Z ct:Value}(l:K.lookup f=some ⟨oc,F,.func (acB x D (bx st) (bc st) (aA st) .none kV I Y U Z ct),J⟩)
 (c:aeG K Z D=true) (k:acf K (.ref f)=true):Fun K x D st f (acB x D (bx st) (bc st) (aA st) .none kV I Y U Z ct):=⟨⟨oc,F,kV,I,Y,U,Z,ct,J,rfl,l,c⟩,k⟩
end
theorem pv(i:Nat)(q:X.N[i]? =some x:=by rfl)(z:Vis X.env.scope x:=by first|exact aba rfl|exact aaL (aba rfl)|exact aaL (aaL rfl))(hd:1.21=false:=by decide)
 (V:(x==("__classdict__":Str))=false:=by decide):PE X (.Name x pos) (Il i):=Vm q z hd V
theorem wA{A B:Prop}(h:B):if false=true then A else B:=by
 rw[Zk aae];exact h
theorem uc{A B:Prop}(h:A):if true=true then A else B:=by
 rw[Zd rfl];exact h
def Same(H H':Hp):Prop:=∀b o,H b=some o->H' b=some o
theorem Same.refl(H:Hp):Same H H:=λ_ _ h=>h
theorem Same.trans{H H1 H2:Hp}(a:Same H H1)(b:Same H1 H2):Same H H2:=λc o h=>b c o (a c o h)
theorem Same.free{H H':Hp}(e:Same H H')(h:H' l=Option.none):H l=Option.none:=by
 cases q:H l with
 |none=>rfl
 |some o=>
  rw[e l o q]at h;cases h
theorem HD:gA X (.builtin "len") (λxs H Q=>∃a kvs,xs=[V.ref a]/\H a=some (.dK kvs)/\Q (.int kvs.length) H):=by
 show 5;obtain⟨a,kvs,rfl,Y,q⟩:=h;obtain⟨u,rfl,D⟩:=vals1 r;cases D;exact WP I (.inl Y) λt s' z=>⟨.int kvs.length,H,z,⟨t,rfl⟩,q⟩
end L2
set_option maxHeartbeats 4000000
namespace Jb
open PySem PySem.Spec PyProof.Rows L2
structure Cal(P:Program)(w:World)(K:PySem.W.Frag)(mg:Str->Option Value)(base:Heap)(k:Nat)(x:Str)(ps:List Str)(sp:Sp):Prop where
 ex:∃f fd,dD P w K mg base CX0 k f fd ps sp/\mg x=some (.ref f)/\acf K (.ref f)=true/\Binds K fd ps []
variable{X:Cx}{t:TA}{p:Pos}{k:Nat}
theorem MT{sp:Sp}(C:Cal X.prog X.w X.K X.mg X.base k x ps sp)(O:gV k X.A)(B:Gl X x)(Y:PA X (e::es) t)
  (J:1.21=false:=by decide) (V:Zb (e::es) X.env=(false,eval e X.env)::Zb es X.env:=by rfl) (q:(aaA pos (Zb es X.env)).any (·.1)=false:=by rfl) :
  PE X (.Call (.Name x p) (e::es) [] pos) (S_ sp [] E0 t):=by
 obtain⟨f,fd,F,Z,I,U⟩:=C.ex;exact RL F O B Z I U .nil FZ Y J V q
theorem Wo{n:String}(B:Gl X x)(Z:X.mg x=none)(z:aa4 x=some (.type n))(hn:x≠"__name__":=by decide)(hd:1.21=false:=by decide):PE X (.Name x pos) (tC (.ty n)):=
 OJ B Z z rfl hn hd
def Xk(_ j:Int):Prop:=0<j/\j<18446744073709551616
theorem Lf:OpR X (aaP .FloorDiv) (rI Xk λi j=>.int (i / j)):=opI λi j _ _ _ _ _ Z q=>by
 have h1:(0:Int)<j:=Z.1;have h2:j<18446744073709551616:=Z.2;have B:j.natAbs<2 ^ 64:=by omega
 have U:j.natAbs≠0:=by omega
 have J:j.natAbs.log2<64:=(Nat.log2_lt U).mpr B;exact floordiv_int 1.11 (by rw[Int.fdiv_eq_ediv_of_nonneg i 1.11];exact q) (.inl (PyProof.noPylong_of_log2 1.11))
variable{b:Expr}
theorem Cm:gA X (.builtin "isinstance") (λxs H Q=>∃x n t b,xs=[x,.ty n]/\ou X.K H x t/\adq X.K t (.type n)=some b/\Q (.bl b) H):=by
 show 5;obtain⟨x,n,t,b,rfl,ty,e,q⟩:=h;obtain⟨u,O,rfl,J,Z⟩:=vals2 r;cases Z;exact Iw I J ty e λtk=>⟨.bl b,H,I.tok tk,rfl,q⟩
variable{H:Hp}
theorem Same.new{q:Addr}{o:HO}(h:H q=none):Same H (L2.upd H q o):=λb u e=>by rw[aO (aU e h)];exact e
theorem Dq{l:List α}{f:α->β->Sem (ForInStep β)}(g:β->α->β):∀(q:β),(∀x∈l,∀c,f x c=pure (.yield (g c x)))->forIn l q f=pure (l.foldl g q):=by
 induction l with
 |nil=>intro q _;rfl
 |cons x r N=>
  intro q h;rw[List.forIn_cons,h x ZW q];show(pure (abK (g q x)) >>=_)=_;rw[pure_bind];exact N (g q x) λy U c=>h y (Zw _ U) c
def qJ(env:Env)(q:List (Str×Addr))(y:Str×ac0):List (Str×Addr):=if y.2== .free then(y.1,(env.cells.lookup y.1).getD 0)::q else q
def qO(scope:Scope)(env:Env):List (Str×Addr):=scope.names.foldl (qJ env) []
theorem jN(h:∀y∈scope.names,y.2= .free->∃c,env.cells.lookup y.1=some c):closureFor scope env=pure (qO scope env):=by
 unfold closureFor;dsimp only;rw[Dq (qJ env) [] λy U c=>?_]
 .rw[pure_bind]
  rfl
 .obtain⟨n,k⟩:=y
  unfold qJ;dsimp only;by_cases I:(k==ae7)=true
  .rw[Zd I,Zd I]
   obtain⟨a,Y⟩:=h (n,k) U (by simpa using I);have Y:env.cells.lookup n=some a:=Y;unfold cellOf;rw[Y];rfl
  .rw[Zk I,Zk I]
theorem yp(R:Str->Addr->Prop):∀(l:List (Str×ac0))(acc:List (Str×Addr)),(∀x c,acc.lookup x=some c->R x c)->(∀y∈l,y.2= .free->R y.1 ((env.cells.lookup y.1).getD 0))->
  ∀x c,(l.foldl (qJ env) acc).lookup x=some c->R x c
 |[],acc,h,_=>h
 |y::r,acc,h,hy=>by
  refine yp R r (qJ env acc y) (λx c e=>?_) λz O=>hy z (Zw _ O);unfold qJ at e;split at e
  .rename_i hk
   rw[aea]at e;cases J:(x==y.1)with
   |true=>
    rw[J]at e;have ex:x=y.1:=by simpa using J
    cases e;rw[ex];exact hy y ZW (by simpa using hk)
   |false=>
    rw[J]at e;exact h x c e
  .exact h x c e
theorem tW{env:Env}:∀(l:List (Str×ac0))(acc:List (Str×Addr))(x:Str),((∃c,acc.lookup x=some c)∨(x,ae7)∈l)->∃c,(l.foldl (qJ env) acc).lookup x=some c
 |[],acc,x,h=>by
  rcases h with h|h
  .exact h
  .cases h
 |y::r,acc,x,h=>by
  refine tW r (qJ env acc y) x ?_;rcases h with⟨c,h⟩|h
  .left
   unfold qJ;split
   .rw[aea]
    cases J:(x==y.1)with
    |true=>exact⟨_,rfl⟩
    |false=>exact⟨c,h⟩
   .exact⟨c,h⟩
  .rcases Za.mp h with e|e
   .left
    unfold qJ;subst e;rw[Zd (by rfl),aea,show(x==x)=true by simp];exact⟨_,rfl⟩
   .exact .inr e
def bC(X:Cx)(N':List Str)(scope:Scope)(C:Addr)(Y:Hq)(q:Hp)(fp:List Addr):Cx:=
 {X with N:=N',s₀:=Y,H₀:=q,env:=compEnvC scope (qO scope X.env) C X.env,outer:=X.stack,stack:=X.stack,ex:=fp,fn:=λ_=>false,pn:=[],xe:=λ_ _=>False}
def gR(cap:List (Option Nat))(σ:L2.St):L2.St:=cap.map λo=>o.bind λj=>(σ[j]?).bind id
structure du(sc:Scope)(N N':List Str)(scope:Scope)(cap:List (Option Nat)):Prop where
 kind:scope.kind= .function
 nocell:∀y∈scope.names,y.2≠.cell
 nm:∀y∈scope.names,y.2= .local->scope.names.lookup y.1=some .local
 free:∀y∈scope.names,y.2= .free->sc.names.lookup y.1=some .cell∨sc.names.lookup y.1=some .free
 len:cap.length=N'.length
 cap:∀i∈Z_ cap.length,∀j∈Z_ N.length,cap[i]? =some (some j)->N[j]? =N'[i]?/\∀x∈N'[i]?,scope.names.lookup x=some .free
theorem o7{l:List (Str×α)}{k:α}(h:l.lookup x=some k):(x,k)∈l:=abr h
theorem rJ{k:ac0}(I:(relabel scope env).names.lookup x=some k)(B:k= .cell∨k= .free)(D:∀y∈scope.names,y.2≠.cell):(x,ae7)∈scope.names:=by
 have h:=o7 I;obtain⟨⟨n,q⟩,Z,e⟩:=Zf.mp h;dsimp only at e;split at e
 .rename_i hc
  cases e;have:q= .free:=by
   have:=(ae0.mp (ae0.mp hc).1).1;simpa using this
  subst this;exact Z
 .cases e
  rcases B with z|z
  .subst z;exact absurd rfl (D _ Z)
  .subst z;exact Z
variable{σ:L2.St}{cap:List (Option Nat)}
theorem j6(I:Inv X pins σ H s)(O:du X.env.scope X.N N' scope cap){c:Addr}(h:(qO scope X.env).lookup x=some c):X.env.cells.lookup x=some c:=by
 refine yp (λx c=>X.env.cells.lookup x=some c) scope.names [] (λx c e=>by simp at e) (λy U q=>?_) x c h;obtain⟨c,e⟩:=I.ok.has y.1 (O.free y U q);rw[e];rfl
theorem Rz(I:Inv X pins σ H s)(O:du X.env.scope X.N N' scope cap)(V:∀b∈fp,my X pins H b)(J:∀b∈fp,b<s.heap.objs.size)(F:s.heap.objs.size<=C):(bC X N' scope C s H fp).Ok where
 mod:=I.ok.mod
 kind:=O.kind
 glob:=I.ok.glob
 blt:=I.ok.blt
 above:=F
 inj:=λx y c h1 h2=>I.ok.inj x y c (j6 I O h1) (j6 I O h2)
 has:=λx h=>by
  refine tW scope.names [] x (.inr ?_);rcases h with h|h
  .exact rJ h (.inl rfl) O.nocell
  .exact rJ h (.inr rfl) O.nocell
 cab:=λx c h _=>by cases h
 hd:=I.ok.hd
 frames:=I.ok.frames
 stk:=.inl rfl
 exf:=λb U=>⟨Zg (Zn (J b U) F),λx c e=>(V b U).2.2.2.2.1 x c (j6 I O e)⟩
 bs:=I.bs
 bsz:=aas I.ok.bsz I.sz
 noex:=λb o e U=>by
  rcases(V b U).2.2.2.1 with z|z
  .exact I.ok.noex b o e z
  .exact absurd (Zn (Y_ (I.ok.bs b o e).1) z) (aaK _)
 exfs:=λb U z=>by
  rcases Za.mp (I.stkSub b z)with q|q
  .exact(V b U).2.1 q
  .exact(V b U).2.2.1 q
 funs:=I.stack
 frf:=I.stkFree
theorem Ay{B:Heap}{D:Addr}(I:Inv X pins σ H s)(O:du X.env.scope X.N N' scope cap)(V:∀b∈fp,my X pins H b)(J:∀b∈fp,b<s.heap.objs.size)
  (hC:s.heap.objs.size<=C) (hD:s.heap.objs.size<=D) (a8:D≠C) (a0:∀b u,s.heap.get? b=some u->B.get? b=some u) {m:Str->Option Value} (b0:B.Ns C m) (a9:B.get? D=some o) (b1:∀v,o.data≠.cell v) :
  Inv (bC X N' scope C s H fp) [(D,o)] (gR cap σ) H {s with heap:=B,toks:=tk}where
 ok:=Rz I O V J hC
 os:=rfl
 bare:=I.bare
 base:=Un.kept a0
 loc:=by
  refine⟨m,b0,λi x v e1 e2 e3=>?_⟩;have e1:N'[i]? =some x:=e1;unfold gR at e2;rw[List.getElem?_map]at e2;cases Z:cap[i]? with
  |none=>rw[Z]at e2;cases e2
  |some q=>
   rw[Z]at e2;cases q with
   |none=>cases e2
   |some j=>
    have e2:(σ[j]?).bind id=some v:=aah e2;have a4:σ[j]? =some (some v):=by
     cases z:σ[j]? with
     |none=>rw[z]at e2;cases e2
     |some y=>
      rw[z]at e2;have:y=some v:=e2;rw[this]
    have hi:i<cap.length:=(List.getElem?_eq_some_iff.mp Z).1;have hj:j<X.N.length:=by
     have:=(List.getElem?_eq_some_iff.mp a4).1;rw[I.len]at this;exact this
    obtain⟨c1,c2⟩:=O.cap i (aa_.mpr hi) j (aa_.mpr hj) Z;have a5:scope.names.lookup x=some .free:=c2 x (by rw[e1];rfl);have hN:X.N[j]? =some x:=c1.trans e1;have a2:=o7 a5;have a7:Vis X.env.scope x:=(O.free _ a2 rfl).elim (λz=>.inr (.inl z)) λz=>.inr (.inr z);obtain⟨m0,_,Y⟩:=I.loc;obtain⟨u,r,lk⟩:=Y j x v hN a4 a7;refine⟨u,r,?_⟩;rcases lk with⟨k,_⟩|⟨_,c,ec,a1⟩
    .have k:X.env.scope.names.lookup x=some .local:=k
     rcases O.free _ a2 rfl with z|z
     .rw[k]at z;cases z
     .rw[k]at z;cases z
    .right
     obtain⟨c',a6⟩:=tW (env:=X.env) scope.names [] x (.inr a2);have a3:=j6 I O a6;rw[ec]at a3;cases a3;refine⟨?_,c,a6,?_⟩
     .have e3:Vis (relabel scope X.env) x:=e3
      rcases e3 with e3|e3|e3
      .exfalso
       have hm:=o7 e3;obtain⟨⟨n,q⟩,b2,e⟩:=Zf.mp hm;dsimp only at e;split at e
       .cases e
       .cases e
        have:=O.nm _ b2 rfl;rw[a5]at this;cases this
      .exact .inl e3
      .exact .inr e3
     .obtain⟨oc,h1,h2⟩:=a1
      exact⟨oc,a0 _ _ h1,h2⟩
 cell:=λx c e=>by
  obtain⟨v,oc,h1,h2⟩:=I.cell x c (j6 I O e);exact⟨v,oc,a0 _ _ h1,h2⟩
 free:=I.hok.fresh hC
 freeC:=λx c e=>I.freeC x c (j6 I O e)
 pin:=λp F=>by
  have e:p=(D,o):=by simpa[bC]using F
  subst e;refine⟨a9,I.hok.fresh hD,a8,λz=>?_,b1⟩;obtain⟨b,U,e⟩:=adB.mp z;have hz:D∈X.env.locals::X.fs:=I.stkSub D z;rcases Za.mp hz with q|q
  .exact absurd (Zn (by rw[q];exact I.lt) hD) (aaK _)
  .exact I.nofs hD q
 hok:=I.hok.kept a0
 len:=by
  unfold gR;rw[Ze];exact O.len
abbrev NoX:Value->Hq->Prop:=λ_ _=>False
variable{R:Result->Shared->Prop}
theorem zp{iter:Expr}{it acc:Value}(I:Nat->Hq->Prop)
  (N:∀n s,I n s->wpAny 1.16 A (pyNext it) (λr J=>match r with
   |none=>R (.ok .next) J
   |some v=>wpAny 1.16 A (acw target it v) (λ_ U=>wpAny 1.16 A (acy target env v) (λ_ Y=>
    wpAny 1.16 A (forIn ifs true λc r=>if r=true then do let ok ←aeD c env (eval c env);pure (abK ok)else pure (abK r)) (λok z=>
     if ok=true then wpAny 1.16 A (eval elt env) (λx O=>wpAny 1.16 A (call (.builtin "list.append") [acc,x]) (λ_ Z=>∃m,m<n/\I m Z) NoX O) NoX z
     else ∃m,m<n/\I m z) NoX Y) NoX U) NoX J) NoX s)
  (n:Nat) (h:I n s):abt 1.16 A (.compLoop 1.17 0 it acc env) R s:=by
 refine codeAny_loop rfl I (λn s q=>?_) n h;show wpAny _ A ((compTurn 1.17 0 it acc env).onRaise (λx=>do noteFrame x env;theTreesLotGoes x)) _ _ s;refine wpAny_noted ?_;rw[compTurn_list];refine gD (abL (gD (aaG (N n s q) (λr J B=>?_) λ_ _ h'=>h'.elim)));cases r with
 |none=>exact YQ B
 |some v=>
  refine gD (aaG B (λ_ U D=>?_) λ_ _ h'=>h'.elim);refine gD (aaG D (λ_ Y F=>gD (aaG F (λok z V=>?_) λ_ _ h'=>h'.elim)) λ_ _ h'=>h'.elim);cases ok with
  |false=>exact YQ ⟨rfl,V⟩
  |true=>
   exact gD (gD (aaG V (λx O a0=>gD (aaG a0 (λ_ Z a1=>YQ (YQ ⟨rfl,a1⟩)) λ_ _ h'=>h'.elim)) λ_ _ h'=>h'.elim))
def PTs(X:Cx)(ifs:List Expr)(t:TT):Prop:=
 ∀(pins:List (Addr×Obj))(s:Hq)(σ:L2.St)(H:Hp)(Q:Bool->Hp->Prop),Inv X pins σ H s->t σ H Q->
  wpAny 1.12 X.A (forIn ifs true λc r=>if r=true then do let ok ←aeD c X.env (eval c X.env);pure (abK ok)else pure (abK r)) (TP X pins σ Q) X.xe s
def WF:TT:=λ_ H Q=>Q true H
theorem O_:PTs X [] WF:=λ_ _ _ H _ I h=>wpAny_tests_nil ⟨H,I,h⟩
theorem Pg{t:TT}(h:PT X c t):PTs X [c] t:=λpins s σ H Q I q=>wpAny_tests_one (h pins s σ H Q I q)
def Kp(σ q:L2.St):Prop:=∀(i:Nat) v,σ[i]? =some (some v)->q[i]? =some (some v)
def Sw(J:It)(H:Hp)(g:TG)(tt:TT)(te:TE)(σ:L2.St)(Q:List V->Hp->Prop):Prop:=
 ∃W:Nat->Nat->List V->Hp->Prop,(∃m,W 0 m [] H)/\∀i m ys H,W i m ys H->
  (J.stop i H/\Q ys H)∨(J.go i H/\ys.length<YZ/\∃N:List V->Hp->Prop,(∀F H',N F H'->∃I,I<m/\W (i+1) I F H')/\
   ∀x H',J.yld i H x H'->g x σ H' λσ2 H2=>Kp σ σ2/\tt σ2 H2 λb Y=>if b=true then te σ2 Y λv q=>N (ys++[v]) q else N ys Y)
def Fq(cap:List (Option Nat))(wi:TI)(g:TG)(tt:TT)(te:TE):TE:=λσ H Q=>wi σ H λJ H1=>
 Sw J H1 g tt te (gR cap σ) λys H2=>ys.length<=YZ/\∀D,H2 D=none->Q (.ref D) (upd H2 D (.lst ys))
section
variable{X:Cx}{elt target iter:Expr}{ifs:List Expr}{scope:Scope}{pos:Pos}{N':List Str}{cap:List (Option Nat)}{wi:TI}{g:TG}{tt:TT}{te:TE}
def lobj(its:List Value)(n:Nat):Obj:={cls:=.type "list",data:=.seq its.toArray n}
theorem wR{pins:List (Addr×Obj)}{σ:L2.St}{H:Hp}{Y:Hq}{it:Addr}{fp:List Addr}{tn:Nat->Heap->Prop}{J:It}{Q:List V->Hp->Prop}{RR:Value->Addr->ad7->Hq->Prop}{E:Value->Hq->Prop}
  (Z:X.calm=true) (O:du X.env.scope X.N N' scope cap) (I:Inv X pins σ H Y) (T:Turn X.prog X.w X.K target J fp it tn) (st:tn 0 Y.heap) (f2:∀b∈fp,my X pins H b)
  (hg:∀C,PG 1.13 target g) (ht:∀C,PTs 1.13 ifs tt) (he:∀C,PE 1.13 elt te) (cw:Sw J H g tt te (gR cap σ) Q)
  (c3:∀(D C:Addr)(s':Hq)(H':Hp)(ys:List V)(its:List Value)(n:Nat)(B:L2.St),Y.heap.objs.size<=D->Y.heap.objs.size<=C->D≠C->Inv 1.13 [(D,lobj its n)] B H' s'->Vals ys its->Q ys H'->
   RR (.ref D) C (.ok .next) s') :
  wpAny 1.12 X.A (aeH []) (λacc c0=>wpAny 1.12 X.A (newFunctionEnv scope X.env.globals (qO scope X.env) [] X.env.qual none .none (some X.env)) (λb0 b3=>
   abt 1.12 X.A (.compStart 1.17 0 (.ref it) acc {b0 with scope:=relabel scope X.env}) (RR acc b0.locals) b3) E c0) E Y:=by
 refine aat (ae1 O.nocell (by intro y hy;simp at hy) (λa2 a1 a0=>?_) O.kind);dsimp only at a1 a0⊢;generalize b2:Y.heap.push {cls:=.type "list",dict:=none,data:=.seq ([]:List Value).toArray}=H2 at a1 a0⊢;have hC:H2.objs.size=Y.heap.objs.size+1:=by rw[←b2,aam]
 have a6:Y.heap.objs.size≠H2.objs.size:=by rw[hC];exact Zg (aaW _)
 have a8:Y.heap.objs.size<=H2.objs.size:=by rw[hC];exact adz _
 have b8:∀b o,Y.heap.get? b=some o->a2.get? b=some o:=λb o e=>a0.extBut b o (by rw[hC];exact Zg (aa0 (Y_ e))) (YM _ (b2▸YM _ e));have c1:a2.get? Y.heap.objs.size=some (lobj [] 0):=a0.extBut _ _ a6 (YM _ (b2▸Zm _ rfl));have a9:∀b∈fp,b<Y.heap.objs.size:=λb U=>by
  obtain⟨o,e,_⟩:=T.obj 0 _ st b U;exact Y_ e
 have I1:=Ay (tk:=Y.toks+([]:List (Str×Value)).length) I O f2 a9 a8 (YX _) a6 b8 a1 c1 (λv z=>by cases z);have b4:tn 0 a2:=T.keep _ _ _ st λb _ o e=>b8 b o e;obtain⟨W,⟨m0,w0⟩,b6⟩:=cw;generalize hD:Y.heap.objs.size=D at *
 generalize c7:H2.objs.size=C at *
 have a3:∀{H':Hp}{o:Obj},(∀b∈fp,H' b=none)->∀b∈fp,my 1.13 [(D,o)] H' b:=λ{H' o} hn b U=>by
  refine⟨hn b U,Zg (Zn (a9 b U) a8),I1.ok.exfs b U,.inl U,(I1.ok.exf b U).2,λp hp=>?_⟩;have e:p=(D,o):=by simpa[bC]using hp
  subst e;exact abB (a9 b U)
 have b1:abt 1.12 X.A (.compLoop 1.17 0 (.ref it) (.ref D) (compEnvC scope (qO scope X.env) C X.env)) (RR (.ref D) C) {Y with heap:=a2,toks:=Y.toks+([]:List (Str×Value)).length}:=by
  refine zp (λn s'=>∃i ys its k H',Inv 1.13 [(D,lobj its k)] (gR cap σ) H' s'/\Vals ys its/\tn i s'.heap/\(∀b∈fp,H' b=none)/\W i n ys H') ?_ m0 ⟨0,[],[],0,H,I1,.nil,b4,λb U=>(f2 b U).1,w0⟩;rintro n s3 ⟨i,ys,its,k,H3,I3,rv,b5,c2,w3⟩;rcases b6 i n ys H3 w3 with⟨stop,qn⟩|⟨go,hsz,N,hN,step⟩
  .refine thn (T.done 1.13 rfl rfl rfl Z i _ s3 _ H3 NoX I3 (a3 c2) b5 stop) λr s4 ⟨hr,I4⟩=>?_
   subst hr;exact c3 D C s4 H3 ys its k _ (YX _) a8 a6 I4 rv qn
  .refine thn (T.item 1.13 rfl rfl rfl Z i _ s3 _ H3 NoX I3 (a3 c2) b5 go) λr s4 ⟨u,hr,h4⟩=>?_
   subst hr;refine thn h4 λ_ s5 ⟨x,H5,I5,r5,y5,a4,c4⟩=>?_;have c6:=I5.pinned (a3 c4) (T.obj _ _ a4);refine thn (hg C _ s5 _ H5 x u _ c6 r5 (step x H5 y5)) λ_ s6 ⟨a5,H6,I6,b9,q6⟩=>?_;refine thn (ht C _ s6 a5 H6 _ I6 q6) λok s7 ⟨H7,I7,q7⟩=>?_;have a7:∀{s':Hq}{H':Hp}{B:L2.St},Inv 1.13 ([(D,lobj its k)]++mj fp s5.heap) B H' s'->tn (i+1) s'.heap/\∀b∈fp,H' b=none:=λ{s' H' B} Ix=>by
    refine⟨T.keep _ _ _ a4 λb U o e=>(Ix.pin (b,o) (YJ _ (YJ _ (d_ U e)))).1,λb U=>?_⟩;obtain⟨o,e,d⟩:=T.obj _ _ a4 b U;exact(Ix.pin (b,o) (YJ _ (YJ _ (d_ U e)))).2.1
   have b7:(gR cap σ).length=a5.length:=by rw[I6.len,I1.len]
   cases ok with
   |false=>
    have n7:N ys H7:=by simpa using q7
    obtain⟨m',hm,w7⟩:=hN _ _ n7;exact⟨m',hm,i+1,ys,its,k,H7,I7.unpinned.weak b7 b9,rv,(a7 I7).1,(a7 I7).2,w7⟩
   |true=>
    have q7:te a5 H7 λv H4=>N (ys++[v]) H4:=by simpa using q7
    refine thn (he C _ s7 a5 H7 _ I7 q7) λu8 s8 ⟨v,H8,I8,r8,n8⟩=>?_;obtain⟨eD,nD,_,c5,_⟩:=I8.pin (D,lobj its k) (YJ _ (YW _ ZW));have lv:=rv.length;refine adl afr ⟨_,eD,rfl⟩ ae_ (aeY _ _) (afD D its.toArray k u8 (by rw[List.size_toArray];omega)) ⟨eD,?_⟩;obtain⟨m',hm,w8⟩:=hN _ _ n8;obtain⟨k',eN⟩:∃k',(s8.heap.update D (ab5 (·.push u8))).get? D=some (lobj (its++[u8]) k'):=by
     have q:=afQ eD (·.push u8);dsimp only at q;rw[List.push_toArray]at q;exact⟨_,q⟩
    have I9:Inv 1.13 (mj fp s5.heap) a5 H8 {s8 with heap:=s8.heap.update D (ab5 (·.push u8))}:=by
     refine Inv.turned (it:=D) (t':=s8.toks) (I8.pins_of λp hp=>I8.pin p (YJ _ (YJ _ hp))) (λb o U e=>(aa5 s8.heap (ab5 _) (ZV U)).trans e) nD a6 (.inr (by rw[←hD];exact YX _)) (λx c e z=>?_) (λp hp z=>?_)
     .obtain⟨vc,oc,h1,_⟩:=I.cell x c (j6 I O e)
      have hh:=Y_ h1;rw[z,hD]at hh;exact aaK _ hh
     .have hp:p∈mj fp s5.heap:=hp
      have hh:=a9 p.1 (tX hp).1;rw[z]at hh;exact aaK _ hh
    refine⟨m',hm,i+1,ys++[v],its++[u8],k',H8,(I9.weak b7 b9).pins_of (λp hp=>?_),rv.append (.cons r8 .nil),?_,λb U=>?_,w8⟩
    .have e:p=(D,lobj (its++[u8]) k'):=ZJ.mp hp
     rw[e];exact⟨eN,nD,a6,c5,λv z=>by cases z⟩
    .exact T.keep _ _ _ a4 λb U o e=>(I9.pin (b,o) (YJ _ (d_ U e))).1
    .obtain⟨o,e,d⟩:=T.obj _ _ a4 b U
     exact(I9.pin (b,o) (YJ _ (d_ U e))).2.1
 exact codeAny_compStart_list b1 (T.self _ 0 _ _ _ b4 b1)
theorem E_(hx:X.xe=NoX)(Z:X.calm=true)(O:du X.env.scope X.N N' scope cap)(hi:PI X target iter wi)
  (hg:∀C Y H fp,PG 1.13 target g) (ht:∀C Y H fp,PTs 1.13 ifs tt) (V:∀C Y H fp,PE 1.13 elt te)
  (B:∀x,aaE iter X.env x=pure x:=by intro _;rfl):PE X 1.17 (Fq cap wi g tt te):=by
 show 4;rw[eval_ListComp];refine abV (use:=none) rfl B (jN λy hy hk=>I.ok.has y.1 (O.free y hy hk)) O.kind O.nm (thn (hi pins s σ H _ I h) λv F h1=>thn h1 λa4 s2 h2=>?_);obtain⟨it,fp,tn,J,H2,e,I2,T,a1,f2,cw⟩:=h2;subst e;refine wR (RR:=λacc C=>compPost 1.12 X.A X.xe none (EP X pins σ Q) acc C) Z O I2 T a1 f2 (λC=>hg C _ _ _) (λC=>ht C _ _ _) (λC=>V C _ _ _) cw ?_;intro D C s' H' ys its n a5 hD hC a0 I' rv q;obtain⟨hz,q⟩:=q;obtain⟨m,a2,_⟩:=I'.loc;refine⟨m,a2,λh' sb=>?_⟩;obtain⟨eD,nD,_,a6,_⟩:=I'.pin (D,lobj its n) (YJ _ ZW);have a3:Inv X pins σ (upd H' D (.lst ys)) {s' with heap:=h'}:=by
  refine I2.call' (ch:=fp) I'.os ?_ ?_ I'.bare (λb U=>⟨(f2 b U).2.2.2.1,(f2 b U).2.1,(f2 b U).2.2.2.2.1,(f2 b U).2.2.2.2.2⟩)
  .have ne:∀b o,s2.heap.get? b=some o->b≠C/\b≠D:=λb o e=>⟨Zg (Zn (Y_ e) hC),Zg (Zn (Y_ e) hD)⟩
   refine⟨λb o e n U V=>sb.extBut b o (ne b o e).1 (I'.base.keep b o e n U V),λb o e n U V=>?_,λb o e n V=>?_,λb o e V=>?_,λb xs e=>?_,λb o u e=>?_,λb ps e=>?_⟩
   .obtain⟨sl,e1⟩:=I'.base.slot b o e n U V
    exact⟨sl,sb.extBut b _ (ne b o e).1 e1⟩
   .rw[aO (ne b o e).2]
    exact I'.base.free b o e n V
   .obtain⟨o',e1⟩:=I'.base.there b o e V
    exact⟨o',sb.extBut b _ (ne b o e).1 e1⟩
   .have e1:=I'.base.tups b xs e
    rw[aO (aU e1 nD)];exact e1
   .have e1:=I'.base.frzs b o u e
    rw[aO (aU e1 nD)];exact e1
   .obtain⟨more,e1⟩:=I'.base.tbls b ps e
    refine⟨more,?_⟩;rw[aO (aU e1 nD)];exact e1
  .intro b u e
   by_cases U:b=D
   .subst U
    rw[a_]at e;cases e;exact⟨hz,its,n,rv,sb.extBut _ _ a0 eD⟩
   .rw[aO U]at e
    have nC:∀b u,H' b=some u->b≠C:=λb u e z=>by
     have hf:H' C=none:=I'.free;rw[z,hf]at e;cases e
    refine(I'.hok b u e).stay (λc v Z q=>sb.extBut c v ?_ q) (λc q=>by rw[aO (aU q nD)];exact q) λc xs q=>by rw[aO (aU q nD)];exact q
    rcases Z with z|z
    .rw[z]
     exact nC b u e
    .exact nC c _ z
 exact⟨.ref D,_,a3,rfl,q D nD⟩
end
theorem U0{x:V}{t:Value}(I:Inv X pins σ H s)(rx:RelV x u)(ty:ou X.K H x t):∃U,PySem.W.KitX X.K u t U/\U s.heap/\u≠.builtin "__main__.__loader__#opaque":=by
 cases ty with
 |non=>cases (show u=aag from rx);exact⟨_,afA,aau,λz=>nomatch z⟩
 |bl y=>cases (show u=adY y from rx);exact⟨_,afB,aau,λz=>nomatch z⟩
 |int i=>obtain⟨t,q⟩:=(show ∃t,u=abT i t from rx);cases q;exact⟨_,afM,aau,λz=>nomatch z⟩
 |str y=>obtain⟨t,q⟩:=(show ∃t,u=aci y t from rx);cases q;exact⟨_,afN,aau,λz=>nomatch z⟩
 |flt y=>obtain⟨t,q⟩:=(show ∃t,u=aeu y t from rx);cases q;exact⟨_,afk,aau,λz=>nomatch z⟩
 |@lst a xs B=>
  cases (show u=ZD a from rx);obtain⟨_,_,n,_,h1⟩:=(show cT X.prog X.w H s.heap a (.lst xs)from I.hok a _ B);exact⟨_,acL,⟨_,h1,rfl⟩,λz=>nomatch z⟩
 |@frz a ob xs B=>
  cases (show u=ZD a from rx);obtain⟨_,_,_,n,_,h1⟩:=(show cT X.prog X.w H s.heap a (.frz ob (.lst xs))from I.hok a _ B);exact⟨_,acL,⟨_,h1,rfl⟩,λz=>nomatch z⟩
 |@tup a xs B=>
  cases (show u=ZD a from rx);obtain⟨_,_,_,p⟩:=(show cT X.prog X.w H s.heap a (.tup xs)from I.hok a _ B);obtain⟨o,h1,h2,_⟩:=p;exact⟨_,afl,⟨o,h1,h2⟩,λz=>nomatch z⟩
 |@dK a kvs B=>
  cases (show u=ZD a from rx);obtain⟨_,_,vs,_,p⟩:=(show cT X.prog X.w H s.heap a (.dK kvs)from I.hok a _ B);obtain⟨o,es,ep,h1,h2,_⟩:=p;exact⟨_,acM,⟨o,h1,h2.1⟩,λz=>nomatch z⟩
 |@dT a kvs B=>
  cases (show u=ZD a from rx);obtain⟨_,_,xs,_,o,es,ep,h1,h2,_⟩:=(show cT X.prog X.w H s.heap a (.dT kvs)from I.hok a _ B);exact⟨_,acM,⟨o,h1,h2.1⟩,λz=>nomatch z⟩
 |@ins a C dx fs B D Y hn N Z=>
  cases (show u=ZD a from rx);obtain⟨mA,O,_⟩:=sV I.hok B;obtain⟨F,J,_⟩:=O.look;exact⟨_,afO (D.get _) D.hd Y hn N Z,J,λz=>nomatch z⟩
theorem Gq:∀{z:List String}{us:List Value},Vals (z.map V.ty) us->us=z.map abg
 |[],_,.nil=>rfl
 |t::r,_,.cons h q=>by cases (show _=abg t from h);rw[Gq q];rfl
theorem zq:gA X (.builtin "isinstance") (λxs H Q=>∃x tp z t b,xs=[x,.ref tp]/\H tp=some (.tup (Zt V.ty z))/\ou X.K H x t/\adv X.K t (z.map abg)=some b/\Q (.bl b) H):=by
 show 5;obtain⟨x,tp,z,t,b,rfl,F,ty,e,q⟩:=h;obtain⟨u,w',rfl,J,Y⟩:=vals2 r;cases Y;obtain⟨U,Z,O,hn⟩:=U0 I J ty;obtain⟨_,its,N,o,h1,h2,n,B,_⟩:=(show cT X.prog X.w H s.heap tp (.tup (z.map V.ty))from I.hok tp _ F);rw[Gq N]at B;obtain⟨cls,D,data,sl⟩:=o;cases h2;cases B;exact PySem.W.kia_tup Z I.kIn O h1 e hn λtk=>⟨.bl b,H,I.tok tk,rfl,q⟩
theorem yq:∀(tk:Nat)(l:List Str),Vals (l.map V.str) (strsFrom tk l)
 |_,[]=>.nil
 |tk,x::r=>.cons ⟨_,rfl⟩ (yq (tk+1) r)
def Uq:V->List V->Hp->VK->Prop:=λx vs H Q=>∃(a b:Str)(l:List Str),x= .str a/\vs=[.str b]/\(decide (a.length<b.length)||decide (acu a<acu b))=false/\(b.length==0)=false/\
 (aaj a b 0 a.length (a.length+1)).isEmpty=false/\a.length<=YZ/\acE a (aaj a b 0 a.length (a.length+1)) b.length=l/\l.length<=YZ/\
 ∀p,H p=none->Q (.ref p) (upd H p (.lst (l.map V.str)))
theorem Oq:MtR X "str.split" Uq:=by
 intro pins s σ H x vs v us Q I rx B h;obtain⟨a,b,l,rfl,rfl,Z,V,z,J,rfl,D,q⟩:=h;obtain⟨t,rfl⟩:=rx;obtain⟨u,rfl,t',rfl⟩:=B.one;refine adl F.slot_str_split (typeIs_str s a t) F.entry_str_split (F.args_str_split_2 _ _) (meets_str_split_sep a b t t' Z V z J D) ?_;exact⟨.ref s.heap.objs.size,_,I.lnew (yq _ _) (by rw[Ze];exact D),rfl,q _ I.fresh⟩
inductive Dt where
 |non|bl (b:Bool)|int (i:Int)|str (x:Str)|lst (ds:List Dt)|tup (ds:List Dt)
mutual
noncomputable def eqD:Dt->Dt->Bool
 |.non,.non=>true
 |.bl a,.bl b=>a==b
 |.int a,.int b=>a==b
 |.bl a,.int b=>(if a then 1 else 0)==b
 |.int a,.bl b=>a==(if b then 1 else 0)
 |.str a,.str b=>a==b
 |.lst a,.lst b=>eqL a b
 |.tup a,.tup b=>eqL a b
 |_,_=>false
noncomputable def eqL:List Dt->List Dt->Bool
 |[],[]=>true
 |a::r,b::q=>eqD a b&&eqL r q
 |_,_=>false
end
mutual
noncomputable def Brs(K:YS)(H:Hp):Dt->V->Prop
 |.non,v=>v= .non
 |.bl b,v=>v= .bl b
 |.int i,v=>v= .int i
 |.str x,v=>v= .str x
 |.lst ds,v=>∃a xs,v= .ref a/\SqL K H a xs/\kZ K H ds xs
 |.tup ds,v=>∃a xs,v= .ref a/\SqT K H a xs/\kZ K H ds xs
noncomputable def kZ(K:YS)(H:Hp):List Dt->List V->Prop
 |[],xs=>xs=[]
 |d::r,xs=>∃x ys,xs=x::ys/\Brs K H d x/\kZ K H r ys
end
theorem kZ.length{K:YS}:∀{ds:List Dt}{xs:List V},kZ K H ds xs->ds.length=xs.length
 |[],xs,h=>by
  have h:xs=[]:=by simpa[kZ]using h
  rw[h];rfl
 |d::r,xs,h=>by
  obtain⟨x,ys,rfl,_,h⟩:=(by simpa[kZ]using h:∃x ys,xs=x::ys/\Brs K H d x/\kZ K H r ys);simp[kZ.length h]
theorem zT:∀{ds es:List Dt},ds.length≠es.length->eqL ds es=false
 |[],[],h=>absurd rfl h
 |[],_::_,_=>by simp[eqL]
 |_::_,[],_=>by simp[eqL]
 |d::r,e::q,h=>by
  have:r.length≠q.length:=by simpa using h
  simp[eqL,zT this]
def eqJ(ds es:List Dt)(j:Nat):Bool:=eqD (ds.getD j .non) (es.getD j .non)
theorem zJ:∀{ds es:List Dt},ds.length=es.length->(Z_ ds.length).all (eqJ ds es)=eqL ds es
 |[],[],_=>by simp[eqL]
 |[],_::_,h=>by simp at h
 |_::_,[],h=>by simp at h
 |d::r,e::q,h=>by
  have h':r.length=q.length:=by simpa using h
  have N:=zJ h';rw[Zq,aez,acp,List.all_map,eqL];congr 1
theorem uM{vl D vs:Value}{lo hi st:Option Int}{Q:Int×Int×Nat->Hq->Prop}(B:s.heap.IsSliceOf sl vl D vs)(pl:acg vl lo)(N:acg D hi)(ps:acg vs st)(Z:st.getD 1≠0)
  (h:Q ((aav lo hi (st.getD 1) (n:Int)).1,st.getD 1,aaw (aav lo hi (st.getD 1) (n:Int)).1 (aav lo hi (st.getD 1) (n:Int)).2 (st.getD 1)) s) :
  wpAny 1.16 A (abM (.ref sl) (pure (n:Int))) Q E s:=by
 obtain⟨os,J,O,I⟩:=id B;unfold abM;refine gD (gD (acT J I (x:=vl) rfl (gD (acT J I (x:=D) rfl (gD (acT J I (x:=vs) rfl (YQ ?_)))))));refine gD (HT.slicePart_ ps ?_);have h1:(st.getD 1==0)=false:=by simpa using Z
 simp![h1,ZG,aao,pure_bind];exact gD (HT.slicePart_ pl (gD (HT.slicePart_ N (YQ h))))
def ul(xs:List α)(l st:Int)(k:Nat):List α:=(Z_ k).filterMap λ(m:Nat)=>xs[(l+(m:Int)*st).toNat]?
theorem tE{t:Addr}{items:List Value}{vl D vs:Value}{lo hi st:Option Int}(U:IsTup s.heap t items.toArray)(B:s.heap.IsSliceOf sl vl D vs)(pl:acg vl lo)(N:acg D hi)(ps:acg vs st)(h0:st.getD 1≠0)
  {l h':Int} (F:aav lo hi (st.getD 1) (items.length:Int)=(l,h'))  (q:aaw l h' (st.getD 1)=k)
  (V:(l=0/\st.getD 1=1/\k=items.length)->Q (.ref t) s)
  (hn:¬(l=0/\st.getD 1=1/\k=items.length)->Q (.ref s.heap.objs.size) {s with heap:=s.heap.push {cls:=.type "tuple",data:=.seq (ul items l (st.getD 1) k).toArray}})
  (hsz:(ul items l (st.getD 1) k).length<=YZ):wpAny 1.16 A (adt (.ref t) (.ref sl)) Q E s:=by
 have z:sizeOk (.seq (ul items l (st.getD 1) k).toArray):=by
  show(ul items l (st.getD 1) k).toArray.size<=YZ;rw[List.size_toArray];exact hsz
 obtain⟨os,J,O,I⟩:=id B;have Y:s.TypeIs (.ref sl) "slice":=⟨os,J,O⟩;unfold adt
 try with_reducible refine aaz ?_
 first|refine gD (YQ ?_)|skip
 refine gD (wpAny_sequenceKey U.typeIs (by decide) ?_);refine gD (ab1 (name:=Str.ofString "__getitem__") U.typeIs aaF
  (ad_ aaF U.typeIs ae9 ?_ (args_tuple_getitem _ _)))
 show wpAny _ _ (adK (.ref t) >>=_) _ _ s;refine gD (tupleItemsOf_ U ?_);refine gD (acD Y ?_);rw[Zd (by decide)];rw[List.size_toArray];refine gD (uM B pl N ps h0 ?_);rw[F,q];dsimp only;by_cases Z:(l=0/\st.getD 1=1/\k=items.length)
 .rw[Zd (by simp[Z])]
  refine gD ?_;unfold Builtin.Tuple.tupleIsExact;refine gD (acD U.typeIs (YQ ?_));rw[Zd (by decide)];exact gD (adi (YQ ⟨_,rfl,YQ (V Z)⟩))
 .rw[Zk (by simpa using Z)]
  have e:(af2 (λ(k:Nat)=>items.toArray[(l+(k:Int)*st.getD 1).toNat]?) (Z_ k)).toArray=(ul items l (st.getD 1) k).toArray:=by
   unfold ul;simp
  rw[e];exact gD (m:=abi _) (aat (YQ ⟨_,rfl,YQ (hn Z)⟩) z)
theorem JR(xs:List α)(l st:Int)(k:Nat):(ul xs l st k).length<=k:=by
 unfold ul;have:=abW (λ(m:Nat)=>xs[(l+(m:Int)*st).toNat]?) (Z_ k);rw[List.length_range]at this;exact this
def We(K:YS):V->Option Int->Option Int->Hp->VK->Prop:=λx lo hi H Q=>∃a xs,x= .ref a/\SqT K H a xs/\(vK xs lo hi=xs->Q (.ref a) H)/\∀p,H p=none->Q (.ref p) (upd H p (.tup (vK xs lo hi)))
theorem V4:SlR X (We X.K):=by
 intro pins s σ H x v vl D lo hi sl Q I rx B pl N h;obtain⟨a,xs,rfl,J,q1,q2⟩:=h;by_cases V:(HT.sIx xs.length 0 lo=0/\HT.sIx xs.length xs.length hi=xs.length)
 .have rx0:=rx
  cases rx;obtain⟨its,r,U,O⟩:=I.tuple J;have z:=r.length;refine⟨"tuple",_,aaF.lookup,U.typeIs,?_⟩;have e1:aav lo hi ((none:Option Int).getD 1) (its.length:Int)=(((0:Nat):Int),((xs.length:Nat):Int)):=by
   have e1:=HT.adjust_gen lo hi its.length;rw[←z,V.1,V.2]at e1;rw[←z];exact e1
  refine tE (items:=its) (st:=none) U B pl N .none (by decide) e1 rfl (λ_=>?_) (λZ=>?_) ?_
  .refine⟨.ref a,H,I,rfl,q1 ?_⟩
   unfold vK;rw[V.1,V.2];simp
  .refine absurd ⟨rfl,rfl,?_⟩ Z
   show aaw ((0:Nat):Int) ((xs.length:Nat):Int) 1=its.length;rw[HT.places_gen];omega
  .refine aas (JR _ _ _ _) ?_
   show aaw ((0:Nat):Int) ((xs.length:Nat):Int) 1<=YZ;rw[HT.places_gen];omega
 .exact Vt pins s σ H _ v vl D lo hi sl Q I rx B pl N ⟨a,xs,rfl,J,V,q2⟩
def Oh(K:YS):R2:=λx y H Q=>∃a b xs ys,x= .ref a/\y= .ref b/\SqT K H a xs/\SqT K H b ys/\xs.length+ys.length<=YZ/\
 (xs=[]->Q (.ref b) H)/\(xs≠[]->ys=[]->Q (.ref a) H)/\(xs≠[]->ys≠[]->∀p,H p=none->Q (.ref p) (upd H p (.tup (xs++ys))))
theorem JS:OpR X (aaP .Add) (Oh X.K):=by
 intro pins s σ H x y v u Q I rx ry h;obtain⟨a,b,xs,ys,rfl,rfl,Y,U,O,q0,q1,q2⟩:=h;by_cases J:xs=[]
 .cases rx
  cases ry;obtain⟨its,r1,p1,_⟩:=I.tuple Y;obtain⟨a1,r2,p2,_⟩:=I.tuple U;obtain⟨⟨cls,D,data,sl⟩,N,Z,n,hd⟩:=id p1;obtain⟨⟨a4,a2,V,a3⟩,q,a0,B,z⟩:=id p2;simp only at Z hd a0 z;subst Z hd a0 z;exact afp ⟨_,N,rfl⟩ ⟨_,q,rfl⟩ ad9 ae6 acS acJ (acC _ _)
   (tuple_addW0 a b its.toArray a1.toArray n B D a2 sl a3 (by rw[r1.nil_iff.mpr J];rfl)) ⟨N,q,⟨.ref b,H,I,rfl,q0 J⟩⟩
 .exact Qq pins s σ H _ _ v u Q I rx ry ⟨a,b,xs,ys,rfl,rfl,Y,U,J,O,q1 J,q2 J⟩
theorem Cu{p:Addr}{o:HO}(I:Inv X pins σ H s)(V:∀b∈fp,my X pins H b)(keep:∀b u,b∉fp->s.heap.get? b=some u->h'.get? b=some u)(F:s.heap.objs.size<=p)
  (new:cT X.prog X.w (upd H p o) h' p o):Inv X pins σ (upd H p o) {s with heap:=h',toks:=t'}:=by
 have hn:H p=none:=I.hok.fresh F;have B:∀b u,H b=some u->b∉fp:=λb u e U=>by rw[(V b U).1]at e;cases e
 have D:∀b u,s.heap.get? b=some u->b≠p:=λb u e=>Zg (Zn (Y_ e) F);refine I.step (g':=s.gens) (d':=s.drawn) (ch:=fp) (λb U=>⟨(V b U).2.2.2.1,(V b U).2.1,(V b U).2.2.2.2.1,(V b U).2.2.2.2.2⟩) (λb u _ _ Z e _=>keep b u Z e) (λb u _ _ Z e _=>⟨u.slots,keep b u Z e⟩)
  (λb u _ e n=>by rw[aO (D b u e)];exact n) (λb u Z e=>⟨u,keep b u Z e⟩) (λb xs e=>by rw[aO (aU e hn)];exact e) (λb ob u e=>by rw[aO (aU e hn)];exact e)
  (λb ps e=>⟨#[],by rw[aO (aU e hn),e];simp⟩) (λm J=>?_) (λb u e=>?_) I.bare
 .obtain⟨ob,es,ep,ho,r⟩:=J
  exact⟨ob,es,ep,keep _ ob (λz=>(V _ z).2.1 rfl) ho,r⟩
 .by_cases U:b=p
  .subst U
   rw[a_]at e;cases e;exact new
  .rw[aO U]at e
   refine(I.hok b u e).stay (λc v Z q=>keep c v ?_ q) (λc q=>by rw[aO (aU q hn)];exact q) λc xs q=>by rw[aO (aU q hn)];exact q
   rcases Z with z|z
   .rw[z]
    exact B b u e
   .exact B c _ z
theorem qg(I:Inv X pins σ H s)(V:∀b∈fp,my X pins H b)(keep:∀b u,b∉fp->s.heap.get? b=some u->h'.get? b=some u):Inv X pins σ H {s with heap:=h',toks:=t'}:=by
 have B:∀b u,H b=some u->b∉fp:=λb u e U=>by rw[(V b U).1]at e;cases e
 refine I.step (g':=s.gens) (d':=s.drawn) (ch:=fp) (λb U=>⟨(V b U).2.2.2.1,(V b U).2.1,(V b U).2.2.2.2.1,(V b U).2.2.2.2.2⟩) (λb u _ _ Z e _=>keep b u Z e) (λb u _ _ Z e _=>⟨u.slots,keep b u Z e⟩)
  (λb u _ e n=>n) (λb u Z e=>⟨u,keep b u Z e⟩) (λb xs e=>e) (λb ob u e=>e) (λb ps e=>⟨#[],by rw[e];simp⟩) (λm D=>?_) (λb u e=>?_) I.bare
 .obtain⟨ob,es,ep,ho,r⟩:=D
  exact⟨ob,es,ep,keep _ ob (λz=>(V _ z).2.1 rfl) ho,r⟩
 .refine(I.hok b u e).stay (λc v Z q=>keep c v ?_ q) (λc q=>q) λc xs q=>q
  rcases Z with z|z
  .rw[z]
   exact B b u e
  .exact B c _ z
def Ite(K:YS)(a:Addr):It:=
 ⟨λi H=>∃xs x,SqL K H a xs/\xs[i]? =some x,λi H x H'=>∃p v,H p=none/\x= .ref p/\(∀xs,SqL K H a xs->xs[i]? =some v)/\H'=upd H p (.tup [.int i,v]),λi H=>∃xs,SqL K H a xs/\xs.length<=i⟩
theorem Hr{K:YS}{x1}(a e it:Addr)(a3:e≠it) :
  Turn P w K (.Tuple elts x1 pos) (Ite K a) [e,it] e (λi h=>(∃a0,IsEnum h e it (i:Int) a0)/\h.IsListIter it a i)where
 mem:=by simp
 obj:=λi h st b U=>by
  obtain⟨⟨a0,V⟩,o,N,c,d⟩:=st;rcases Za.mp U with z|z
  .subst z
   exact⟨_,V,λv z=>by cases z⟩
  .have z:b=it:=by simpa using z
   subst z;exact⟨o,N,λv z=>by rw[d]at z;cases z⟩
 keep:=λi h h' st k=>by
  obtain⟨⟨a0,V⟩,a1⟩:=st;exact⟨⟨a0,k e (by simp) _ V⟩,a1.at λo q=>k it (by simp) o q⟩
 item:=by
  intro X hP hw F Z i pins s σ H E I hf st B;subst hP hw F;obtain⟨xs,x,D,J⟩:=B;obtain⟨its,rv,p,O⟩:=I.list D;obtain⟨u,hu,ru⟩:=rv.get J;obtain⟨⟨a0,V⟩,a1⟩:=st;refine wpAny_pyNext_enum_item V a1 p.isList (x:=u) (by simpa using hu) a3 λh1 a6 a5 a8 b1 k1=>?_;refine⟨.ref s.heap.objs.size,rfl,adL a6 λh2 b0 a2=>?_⟩;have a7:e<s.heap.objs.size:=Y_ V;have a4:s.heap.objs.size≠e:=abB a7;have a9:h2.get? s.heap.objs.size=some {cls:=.type "tuple",data:=.seq #[.int i s.toks,u]}:=a2.extBut _ _ a4 a8;have I2:Inv X pins σ (upd H s.heap.objs.size (.tup [.int i,x])) {s with heap:=h2,toks:=s.toks+1}:=by
   refine Cu (fp:=[e,it]) (t':=s.toks+1) I hf (λb o U q=>?_) (YX _) ?_
   .have n1:b≠e:=λz=>U (by simp[z])
    have n2:b≠it:=λz=>U (by simp[z]);exact a2.extBut b o n1 (k1 b o n1 n2 q)
   .exact⟨by show 2<=YZ;decide,[.int i s.toks,u],.cons ⟨_,rfl⟩ (.cons ru .nil),_,a9,rfl,_,rfl,rfl⟩
  refine⟨.ref s.heap.objs.size,upd H s.heap.objs.size (.tup [.int i,x]),I2,rfl,⟨_,x,I.hok.fresh (YX _),rfl,λys hy=>by rw[I.list_inj hy D];exact J,rfl⟩,?_,λb U=>?_⟩
  .refine⟨⟨u,?_⟩,a5.extBut a2.extBut (ZV a3)⟩
   have e1:(((i+1:Nat)):Int)=(i:Int)+1:=by omega
   rw[e1];exact b0
  .rw[aO]
   .exact(hf b U).1
   .intro z
    rw[z]at U;rcases Za.mp U with q|q
    .exact a4 q
    .have q:s.heap.objs.size=it:=by simpa using q
     obtain⟨o,N,_⟩:=a1;exact absurd (Y_ N) (by rw[q];exact aaK _)
 done:=by
  intro X hP hw F Z i pins s σ H E I hf st B;subst hP hw F;obtain⟨xs,D,J⟩:=B;obtain⟨its,rv,p,O⟩:=I.list D;obtain⟨⟨a0,V⟩,a1⟩:=st;have Y:=rv.length;refine wpAny_pyNext_enum_end (I.ok.hd Z) V a1 p.isList (by simp;omega) λh1 eb=>⟨rfl,?_⟩;exact qg (fp:=[e,it]) (t':=s.toks) I hf λb o U q=>eb b o (λz=>U (by simp[z])) q
 self:=λA i s Q E st h=>by
  obtain⟨⟨a0,V⟩,_⟩:=st;exact acO V h
end Jb
namespace PySem
theorem F.first_AttributeError:((Manifest.find? "AttributeError").elim false λt=>t.mro.contains "StopIteration"||t.mro.contains "SystemExit")=false:=by decide +kernel
theorem F.sub_AttributeError:isSubtype (.type "AttributeError") (.type "AttributeError")=pure true:=by rw[isSubtype_type];kernel_rfl
section
variable{prog:Program}{w:World}{A:Around}{E:Value->Shared->Prop}
theorem uT{α:Type}{o:Value}{name N:Str}{Q:α->Hq->Prop}{h:Heap}{g:Array GenState}{d:Drawn}{t:Nat}{os:OsState}(z:A.handled=none)(Z:N.length<=YZ)
  (D:∀h' tk e,(∀b u,h.get? b=some u->h'.get? b=some u)->(∃U,h'.get? e=some U/\U.cls= .type "AttributeError")->E (.ref e) ⟨h',g,d,tk,os⟩):wpAny 1.16 A (raiseAttrError o name N:Sem α) Q E ⟨h,g,d,t,os⟩:=by
 unfold raiseAttrError;refine gD (wpAny_mkStr (gD ?_) Z);unfold newExc newTuple;refine gD (aat ?_);refine gD (m:=firstArgMember _ _) (adA (a:=aag) (by simp![firstArgMember,F.first_AttributeError];rfl) ?_);refine aat ?_;refine gD (wpAny_mkText (gD ?_));dsimp only;generalize Y:h.push {cls:=.type "tuple",dict:=none,data:=.seq [aci N t].toArray}=H1;generalize a0:({cls:=.type "AttributeError",dict:=none,data:=.fields (#[.ref h.objs.size,.none,.none,.none,.bool false,.none]++ownMembersOf (.type "AttributeError") [aci N t])}:Obj)=ob;have V:(H1.push ob).get? H1.objs.size=some ob:=Zm _ (by subst a0;rfl);have q:(⟨H1.push ob,g,d,t+1+1,os⟩:Hq).TypeIs (.ref H1.objs.size) "AttributeError":=⟨_,V,by subst a0;rfl⟩;have O:=F.sub_AttributeError;have I:∀b u,h.get? b=some u->(H1.push ob).get? b=some u:=λb u e=>YM _ (Y▸YM _ e);have B:ob.cls= .type "AttributeError":=by subst a0;rfl
 obtain⟨vs,a1,a2,a3⟩:∃vs,ob.data= .fields vs/\vs[6]? =some unsetMember/\vs[7]? =some unsetMember:=by subst a0;exact⟨_,rfl,rfl,rfl⟩
 unfold noteAttr;dsimp only;refine gD ?_;unfold lacksNameAndObj;refine gD (aeb q O ?_);simp![Bool.not_true,ZG,aao];refine gD (aeV V ?_);rw[a1];dsimp only;rw[a2,a3];show wpAny 1.16 A (pure true) _ _ _;refine YQ ?_;rw[Zd rfl];refine gD (adi (gD (acD q ?_)));dsimp only;unfold layMembers;refine gD (aeV V ?_);rw[a1];dsimp only;refine wpAny_update V ?_;unfold raiseNew;refine gD (wpAny_handled ?_);rw[z];dsimp only;have J:h.objs.size<H1.objs.size:=by rw[←Y,aam];exact aaW _
 refine aeA (D _ _ _ (λb u e=>?_) ⟨_,ac8 _ V (aeI (adD a1 _)),(afE ..).trans B⟩);exact(aa5 (H1.push ob) _ (ZV (Zg (Nat.lt_trans (Y_ e) J)))).trans (I b u e)
theorem F.lk_list_keys:typeLookup (.type "list") "keys"=pure none:=by rw[typeLookup_type,aeJ];kernel_rfl
theorem F.lk_list_getattr:typeLookup (.type "list") "__getattr__"=pure none:=by rw[typeLookup_type,aeJ];kernel_rfl
variable{h:Heap}{g:Array GenState}{d:Drawn}{t:Nat}{os:OsState}{a:Addr}{items:Array Value}{n:Nat}
def Ea(E:Value->Hq->Prop)(h:Heap)(g:Array GenState)(d:Drawn)(os:OsState):Prop:=∀h' tk e,(∀b u,h.get? b=some u->h'.get? b=some u)->(∃U,h'.get? e=some U/\U.cls= .type "AttributeError")->E (.ref e) ⟨h',g,d,tk,os⟩
theorem uZ{tk:Tok}{Q:Fin->Hq->Prop}(z:A.handled=none)(J:h.get? a=some {cls:=.type "list",data:=.seq items n})(D:Ea E h g d os) :
  wpAny 1.16 A (Builtin.«object.__getattribute__» ⟨[.ref a,.str "keys" tk],[]⟩) Q E ⟨h,g,d,t,os⟩:=by
 have q:(⟨h,g,d,t,os⟩:Hq).TypeIs (.ref a) "list":=⟨_,J,rfl⟩;have B:=F.lk_list_keys
 show 1
 exact uT z (by decide +kernel) D
theorem vI{tk:Tok}{R:ad7->Hq->Prop}(z:A.handled=none)(J:h.get? a=some {cls:=.type "list",data:=.seq items n})(D:Ea (λe s=>R (.error e) s) h g d os) :
  abt 1.16 A (.call (.builtin "list.__getattribute__") ⟨[.ref a,.str "keys" tk],[]⟩) R ⟨h,g,d,t,os⟩:=
 abQ abX.plain F.entry_list_ga (abX.check _ _ _ _ _ _ _ _ (show(⟨h,g,d,t,os⟩:Hq).TypeIs (.ref a) "list" from⟨_,J,rfl⟩) (F.args_list_getattribute_2 _ _) (uZ z J D))
theorem zH{tk:Tok}{Q:Value->Hq->Prop}(z:A.handled=none)(J:h.get? a=some {cls:=.type "list",data:=.seq items n})(D:Ea E h g d os):wpAny 1.16 A (getAttrBy (.ref a) (.str "keys" tk) false) Q E ⟨h,g,d,t,os⟩:=by
 have q:(⟨h,g,d,t,os⟩:Hq).TypeIs (.ref a) "list":=⟨_,J,rfl⟩;have N:=abX.lookup;have f3:=abX.bind (.ref a)
 show 1
 refine vI z J λh' B e I V=>?_;obtain⟨U,Z,O⟩:=id V;have Y:(⟨h',g,d,B,os⟩:Hq).TypeIs (.ref e) "AttributeError":=⟨U,Z,O⟩;dsimp only;unfold getattributeRaised;refine gD (aeb Y F.sub_AttributeError ?_);rw[Zd rfl];refine gD (adA (show hookBehind (.type "list") none=pure none from F.lk_list_getattr) ?_);show wpAny 1.16 A (ae2 (.ref a) (.str "keys" tk) (.ref e) false false) Q E ⟨h',g,d,B,os⟩;unfold ae2;dsimp only;rw[Zd (show(!false)=true from rfl)]
 first|exact aeA (D h' B e I V)|exact gD (aeA (D h' B e I V))
theorem vB{Q:Option Value->Hq->Prop}(z:A.handled=none)(J:h.get? a=some {cls:=.type "list",data:=.seq items n})
  (D:∀h' tk,(∀b u,h.get? b=some u->h'.get? b=some u)->Q none ⟨h',g,d,tk,os⟩):wpAny 1.16 A (getAttr? (.ref a) "keys") Q E ⟨h,g,d,t,os⟩:=by
 unfold getAttr? getAttrBy?;refine gD (wpAny_mkText (gD (wpAny_attempt (zH z J λh' B e I V=>?_))));obtain⟨U,Z,O⟩:=id V;have Y:(⟨h',g,d,B,os⟩:Hq).TypeIs (.ref e) "AttributeError":=⟨U,Z,O⟩;dsimp only;refine gD (aeb Y F.sub_AttributeError ?_);rw[Zd rfl];exact YQ (D h' B I)
end
namespace F
theorem entry_dict_update_loop:entryFor table "dict.update.loop"=some Builtin.«dict.update.loop»:=entryFor_of_tree (by kernel_rfl)
theorem plain_dict_update_loop:plainId "dict.update.loop"=true:=by decide +kernel
end F
end PySem
namespace Jb
open PySem PySem.Spec PyProof.Rows L2
def putAll(kvs:List (Key×V))(prs:List (Key×V)):List (Key×V):=prs.foldl (λacc F=>putK acc F.1 F.2) kvs
variable{X:Cx}{σ:L2.St}
theorem Hz{D:Addr}{xs:List V}{prs:List (Key×V)}{R:ad7->Hq->Prop}(hh:A.handled=none)(a6:prs.length=xs.length):∀(m i:Nat)(kvs:List (Key×V))(H:Hp)(s:Hq),xs.length-i=m->i<=xs.length->
  Inv X pins σ H s->H D=some (.dK kvs)->SqL X.K H l xs->my X pins H it->s.heap.IsListIter it l i->(∀(j:Nat)(k:Key)(v:V),prs[j]? =some (k,v)->∃p:Addr,xs[j]? =some (V.ref p)/\H p=some (.tup [kV k,v]))->kvs.length+m<=100000->
  (∀s',Inv X pins σ (upd H D (.dK (putAll kvs (prs.drop i)))) s'->R (.ok (.ret .none)) s')->abt 1.12 A (.builtin "dict.update.loop" ⟨[.ref D,.ref it,acz i,.none],[]⟩) R s:=by
 intro m
 induction m with
 |zero=>
  intro i kvs H s Z hi I hD hq hf a0 hp O k;have e:i=xs.length:=by omega
  subst e;obtain⟨its,B,p,_⟩:=I.list hq;have Y:=B.length;refine aaH F.entry_dict_update_loop ?_;rw[aax F.plain_dict_update_loop _];unfold Builtin.«dict.update.loop»;dsimp only;refine gD (ac7 (show A.in1.handled=none from hh) a0 p.isList (by simp;omega) λh' eb=>?_);dsimp only;have N:Inv X pins σ H {s with heap:=h'}:=qg (fp:=[it]) (t':=s.toks) I (λb U=>by rw[ZJ.mp U];exact hf) λb o U q=>eb b o (λz=>U (by simp[z])) q;have e1:prs.drop xs.length=[]:=by rw[←a6,aa9]
  have k1:=k _ (by
   rw[e1];show Inv X pins σ (upd H D (.dK kvs)) {s with heap:=h'};have:upd H D (.dK kvs)=H:=by
    funext b;unfold upd;split
    .rename_i z
     rw[z,hD]
    .rfl
   rw[this];exact N)
  show wpAny 1.12 A.in1 (Builtin.Dict.addKeywords D [] >>=λ_=>ret .none) _ _ _;exact gD (YQ (YQ k1))
 |succ m ih=>
  intro i kvs H s Z hi I hD hq hf a0 hp O k;have b3:i<xs.length:=by omega
  obtain⟨its,B,p,_⟩:=I.list hq;have Y:=B.length;have a3:i<prs.length:=by omega
  obtain⟨t,ht,hT⟩:=hp i prs[i].1 prs[i].2 (by rw[Zc a3]);obtain⟨u,J,ru⟩:=B.get ht;cases ru;refine aaH F.entry_dict_update_loop ?_;rw[aax F.plain_dict_update_loop _];unfold Builtin.«dict.update.loop»;dsimp only;refine gD (acQ a0 p.isList (x:=.ref t) (by simpa using J) λh1 a5 a9=>?_);dsimp only;have N:Inv X pins σ H {s with heap:=h1}:=qg (fp:=[it]) (t':=s.toks) I (λb U=>by rw[ZJ.mp U];exact hf) λb o U q=>(a9.2 b (λz=>U (by simp[z]))).trans q;obtain⟨_,b4,rj,oj,ej,cj,nj,dj,_⟩:=(show cT X.prog X.w H h1 t (.tup [kV prs[i].1,prs[i].2])from N.hok t _ hT);obtain⟨ku,vu,rfl,rk,b0⟩:=vals2 rj;have b2:(({s with heap:=h1}:Hq)).TypeIs (.ref t) "tuple":=⟨oj,ej,cj⟩;refine gD (aaz (gD (wpAny_tryCatch ?_)));unfold Builtin.Dict.pairItems;refine gD (acD b2 ?_);rw[Zd (by decide)];refine gD (aeK ej dj (YQ ?_));show wpAny 1.12 A.in1 (aaY [ku,vu] (dictSet D ku vu)) _ _ _;obtain⟨z,hd,vs,rel,dd⟩:=Gz N.hok hD;have a7:vs.length<=YZ:=by rw[←rel.length];exact z
  have b6:200000<=YZ:=by decide
  have a8:(putK kvs prs[i].1 prs[i].2).length<=YZ:=by have:=jR kvs prs[i].1 prs[i].2;omega
  refine aaz (afa (hsz:=a7) (lz rk) dd λh2 a1 a4=>?_);have I2:Inv X pins σ (upd H D (.dK (putK kvs prs[i].1 prs[i].2))) {s with heap:=h2,toks:=s.toks+1}:=by
   have he:∃q,h2.get? D=some q:=let⟨q,_,_,hq,_⟩:=a1;⟨q,hq⟩;exact rZ (s:=({s with heap:=h1}:Hq)) (t':=s.toks+1) N (by rw[hD];exact aau) a4 he (yH a8 hd (rel.put prs[i].1 b0) a1)
  have b1:∀p ys,H p=some (.tup ys)->p≠D:=λp ys e=>Ew e hD (by intro z;cases z);have a2:it≠D:=λz=>by have:=hf.1;rw[z,hD]at this;cases this
  show wpAny 1.12 A.in1 (again (.builtin "dict.update.loop" ⟨[.ref D,.ref it,acz ((i:Int)+1),.none],[]⟩)) _ _ _;refine YQ ⟨ab4 F.plain_dict_update_loop _,?_⟩;have ei:((i:Int)+1)=((i+1:Nat):Int):=by omega
  rw[ei];have b5:=jR kvs prs[i].1 prs[i].2;refine ih (i+1) (putK kvs prs[i].1 prs[i].2) _ _ 1.11 b3 I2 a_ ?_ ?_ (a5.extBut a4.extBut a2) ?_ 1.11 (λs' I'=>k s' ?_)
  .rcases hq with(hq|⟨o,hq⟩)|hq
   .exact .inl (.inl (by rw[aO (Ew hq hD (by intro z;cases z))];exact hq))
   .exact .inl (.inr ⟨o,by rw[aO (Ew hq hD (by intro z;cases z))];exact hq⟩)
   .exact .inr hq
  .exact⟨by rw[aO a2];exact hf.1,hf.2⟩
  .intro j kk vv e
   obtain⟨p,h1,h2⟩:=hp j kk vv e;exact⟨p,h1,by rw[aO (b1 p _ h2)];exact h2⟩
  .rw[GX]at I'
   rw[abR a3];exact I'
theorem u9(Z:X.calm=true):gA X (.type "dict") (λxs H Q=>∃l ys prs,xs=[.ref l]/\H l=some (.lst ys)/\abv prs=abv ys/\abv prs<=50000/\
  (∀(j:Nat)(k:Key)(v:V),prs[j]? =some (k,v)->∃p:Addr,ys[j]? =some (V.ref p)/\H p=some (.tup [kV k,v]))/\∀D,H D=none->Q (.ref D) (upd H D (.dK (putAll [] prs)))):=by
 show 5;obtain⟨l,ys,prs,rfl,Y,a4,hsz,hp,q⟩:=h;obtain⟨u,rfl,ru⟩:=vals1 r;cases ru;have hh:X.A.handled=none:=I.ok.hd Z;refine callType_codes (Q₁:=λobj J=>obj= .ref s.heap.objs.size/\J={s with heap:=s.heap.push {cls:=.type "dict",data:=.dict #[]}}) F.kt_called_dict (F.kt_typeCall_dict_1 _) F.entry_dict_init (kt_code_dict_new _ ⟨rfl,rfl⟩) ?_;rintro obj J ⟨rfl,rfl⟩;have a1:H s.heap.objs.size=none:=I.fresh;have N:Inv X pins σ (upd H s.heap.objs.size (.dK [])) {s with heap:=s.heap.push {cls:=.type "dict",data:=.dict #[]}}:=I.laid (t':=s.toks) (λ_ _ z=>YM _ z) (YX _) (v7 s.heap I.big);have O:(s.heap.push {cls:=.type "dict",data:=.dict #[]}).DictOf (aY X.prog X.w) s.heap.objs.size []:=aes s.heap;have nl:l≠s.heap.objs.size:=aU Y a1;have a2:(upd H s.heap.objs.size (.dK [])) l=some (.lst ys):=by rw[aO nl];exact Y
 obtain⟨_,its,n,B,el⟩:=(show cT X.prog X.w _ _ l (.lst ys)from N.hok l _ a2);have a5:({s with heap:=s.heap.push {cls:=.type "dict",data:=.dict #[]}}:Hq).TypeIs (.ref l) "list":=⟨_,el,rfl⟩;refine⟨O.typeIs,F.args_dict_init_2 _ _,?_⟩;unfold Builtin.«dict.__init__»;refine gD ?_;unfold Builtin.Dict.selfAndRest;refine gD (wpAny_notOrdered_dict O.typeIs ?_);show wpAny _ _ (pure (s.heap.objs.size,[ZD l])) _ _ _;refine YQ ?_;show wpAny _ _ (aen "dict.__init__" s.heap.objs.size (.ref l) [] .none) _ _ _;unfold aen;refine gD (acD a5 ?_);rw[Zd (by decide)];refine gD (vB (show X.A.in1.in1.handled=none from hh) el λh2 a0 a3=>?_);rw[Zd (by rfl)];have I2:Inv X pins σ (upd H s.heap.objs.size (.dK [])) {s with heap:=h2,toks:=a0}:=N.kept (t':=a0) a3;obtain⟨a7,a8,p2,_⟩:=I2.list (SqL.of a2);refine gD (adi (gD (acd p2.isList ?_)));have U:Inv X pins σ (upd H s.heap.objs.size (.dK [])) {s with heap:=h2.push {cls:=.type "list_iterator",data:=.fields #[.ref l,.int 0 0]},toks:=a0}:=I2.kept (t':=a0) λb o e=>YM _ e;have a6:my X pins (upd H s.heap.objs.size (.dK [])) h2.objs.size:=I2.fpOk (YX _) (I2.hok.fresh (YX _));refine YQ ⟨ab4 F.plain_dict_update_loop _,?_⟩;refine Hz (A:=X.A.in1) (l:=l) (xs:=ys) (prs:=prs) hh a4 ys.length 0 [] _ _ rfl (abf _) U a_ (SqL.of a2) a6 ⟨_,Zm _ rfl,rfl,rfl⟩ ?_ (by simp;omega) λs' I'=>?_
 .intro j k v e
  obtain⟨p,h1,h2⟩:=hp j k v e;exact⟨p,h1,by rw[aO (aU h2 a1)];exact h2⟩
 .rw[GX,adw]at I'
  exact⟨rfl,.ref _,_,I',rfl,q _ a1⟩
variable{R:Result->Shared->Prop}
theorem xx{kx vx iter:Expr}{it:Value}{D:Addr}(I:Nat->Hq->Prop)
  (N:∀n s,I n s->wpAny 1.16 A (pyNext it) (λr J=>match r with
   |none=>R (.ok .next) J
   |some v=>wpAny 1.16 A (acw target it v) (λ_ U=>wpAny 1.16 A (acy target env v) (λ_ Y=>
    wpAny 1.16 A (forIn ifs true λc r=>if r=true then do let ok ←aeD c env (eval c env);pure (abK ok)else pure (abK r)) (λok z=>
     if ok=true then wpAny 1.16 A (eval kx env) (λF O=>wpAny 1.16 A (eval vx env) (λvv Z=>wpAny 1.16 A (dictSet D F vv) (λ_ a0=>∃m,m<n/\I m a0) NoX Z) NoX O) NoX z
     else ∃m,m<n/\I m z) NoX Y) NoX U) NoX J) NoX s)
  (n:Nat) (h:I n s):abt 1.16 A (.compLoop 1.19 0 it (.ref D) env) R s:=by
 refine codeAny_loop rfl I (λn s q=>?_) n h;show wpAny _ A ((compTurn 1.19 0 it (.ref D) env).onRaise (λx=>do noteFrame x env;theTreesLotGoes x)) _ _ s;refine wpAny_noted ?_;rw[compTurn_dict];refine gD (abL (gD (aaG (N n s q) (λr J B=>?_) λ_ _ h'=>h'.elim)));cases r with
 |none=>exact YQ B
 |some v=>
  refine gD (aaG B (λ_ U a1=>?_) λ_ _ h'=>h'.elim);refine gD (aaG a1 (λ_ Y a4=>gD (aaG a4 (λok z V=>?_) λ_ _ h'=>h'.elim)) λ_ _ h'=>h'.elim);cases ok with
  |false=>exact YQ ⟨rfl,V⟩
  |true=>
   exact gD (gD (aaG V (λF O a3=>gD (aaz (aaG a3 (λvv Z a5=>gD (abL (aaz (aaG a5 (λ_ a0 a2=>YQ ⟨rfl,a2⟩) λ_ _ h'=>h'.elim)))) λ_ _ h'=>h'.elim))) λ_ _ h'=>h'.elim))
def MN(J:It)(H:Hp)(g:TG)(tt:TT)(tk tv:TE)(σ:L2.St)(Q:List (Key×V)->Hp->Prop):Prop:=
 ∃W:Nat->Nat->List (Key×V)->Hp->Prop,(∃m,W 0 m [] H)/\∀i m ys H,W i m ys H->
  (J.stop i H/\Q ys H)∨(J.go i H/\ys.length<YZ/\∃N:List (Key×V)->Hp->Prop,(∀F H',N F H'->∃I,I<m/\W (i+1) I F H')/\
   ∀x H',J.yld i H x H'->g x σ H' λσ2 H2=>Kp σ σ2/\tt σ2 H2 λb Y=>if b=true then tk σ2 Y λx q=>∃k,x=kV k/\tv σ2 q λv B=>N (putK ys k v) B else N ys Y)
def Dl(cap:List (Option Nat))(wi:TI)(g:TG)(tt:TT)(tk tv:TE):TE:=λσ H Q=>wi σ H λJ H1=>
 MN J H1 g tt tk tv (gR cap σ) λys H2=>ys.length<=YZ/\∀D,H2 D=none->Q (.ref D) (upd H2 D (.dK ys))
section
variable{X:Cx}{kx vx target iter:Expr}{ifs:List Expr}{scope:Scope}{pos:Pos}{N':List Str}{cap:List (Option Nat)}{wi:TI}{g:TG}{tt:TT}{tk tv:TE}
structure DO(P:Program)(w:World)(vs:List (Key×Value))(o:Obj):Prop where
 ex:o.ExactDict
 es:∃es ep,o.data= .dict es ep/\KeysOf (aY P w) es/\Pairs (aY P w) es.toList vs/\(vs.map (·.1)).Nodup
theorem DO.at{P:ZL}{w:World}{vs:List (Key×Value)}{o:Obj}(d:DO P w vs o){h:Heap}{a:Addr}(e:h.get? a=some o):h.DictOf (aY P w) a vs:=let⟨es,ep,h1,h2,h3,h4⟩:=d.es;⟨o,es,ep,e,d.ex,h1,h2,h3,h4⟩
theorem DO.of{P:ZL}{w:World}{vs:List (Key×Value)}{h:Heap}{a:Addr}(d:h.DictOf (aY P w) a vs):∃o,h.get? a=some o/\DO P w vs o:=let⟨o,es,ep,e,x,h1,h2,h3,h4⟩:=d;⟨o,e,⟨x,es,ep,h1,h2,h3,h4⟩⟩
theorem DO.nc{P:ZL}{w:World}{vs:List (Key×Value)}{o:Obj}(d:DO P w vs o):∀v,o.data≠.cell v:=λv z=>by
 obtain⟨es,ep,h1,_⟩:=d.es;rw[h1]at z;cases z
theorem ut{pins:List (Addr×Obj)}{σ:L2.St}{H:Hp}{Y:Hq}{it:Addr}{fp:List Addr}{tn:Nat->Heap->Prop}{J:It}{Q:List (Key×V)->Hp->Prop}{RR:Value->Addr->ad7->Hq->Prop}{E:Value->Hq->Prop}
  (Z:X.calm=true) (O:du X.env.scope X.N N' scope cap) (I:Inv X pins σ H Y) (T:Turn X.prog X.w X.K target J fp it tn) (st:tn 0 Y.heap) (f2:∀b∈fp,my X pins H b)
  (hg:∀C,PG 1.13 target g) (ht:∀C,PTs 1.13 ifs tt) (hk:∀C,PE 1.13 kx tk) (he:∀C,PE 1.13 vx tv) (cw:MN J H g tt tk tv (gR cap σ) Q)
  (c6:∀(D C:Addr)(s':Hq)(H':Hp)(ys:List (Key×V))(its:List (Key×Value))(o:Obj)(B:L2.St),Y.heap.objs.size<=D->Y.heap.objs.size<=C->D≠C->Inv 1.13 [(D,o)] B H' s'->KV ys its->DO X.prog X.w its o->Q ys H'->
   RR (.ref D) C (.ok .next) s') :
  wpAny 1.12 X.A newDict (λacc c3=>wpAny 1.12 X.A (newFunctionEnv scope X.env.globals (qO scope X.env) [] X.env.qual none .none (some X.env)) (λb0 b4=>
   abt 1.12 X.A (.compStart 1.19 0 (.ref it) acc {b0 with scope:=relabel scope X.env}) (RR acc b0.locals) b4) E c3) E Y:=by
 refine aat (ae1 O.nocell (by intro y hy;simp at hy) (λa3 a1 a0=>?_) O.kind);dsimp only at a1 a0⊢;generalize b2:Y.heap.push {cls:=.type "dict",dict:=none,data:=.dict #[]}=H2 at a1 a0⊢;have hC:H2.objs.size=Y.heap.objs.size+1:=by rw[←b2,aam]
 have a6:Y.heap.objs.size≠H2.objs.size:=by rw[hC];exact Zg (aaW _)
 have a8:Y.heap.objs.size<=H2.objs.size:=by rw[hC];exact adz _
 have c0:∀b o,Y.heap.get? b=some o->a3.get? b=some o:=λb o e=>a0.extBut b o (by rw[hC];exact Zg (aa0 (Y_ e))) (YM _ (b2▸YM _ e));have b6:H2.DictOf (aY X.prog X.w) Y.heap.objs.size []:=b2▸aes Y.heap;obtain⟨o0,d1,c2⟩:=DO.of b6;have c4:a3.get? Y.heap.objs.size=some o0:=a0.extBut _ _ a6 (YM _ d1);have a9:∀b∈fp,b<Y.heap.objs.size:=λb U=>by
  obtain⟨o,e,_⟩:=T.obj 0 _ st b U;exact Y_ e
 have I1:=Ay (tk:=Y.toks+([]:List (Str×Value)).length) I O f2 a9 a8 (YX _) a6 c0 a1 c4 c2.nc;have b5:tn 0 a3:=T.keep _ _ _ st λb _ o e=>c0 b o e;obtain⟨W,⟨m0,w0⟩,b8⟩:=cw;generalize hD:Y.heap.objs.size=D at *
 generalize d8:H2.objs.size=C at *
 have a4:∀{H':Hp}{o:Obj},(∀b∈fp,H' b=none)->∀b∈fp,my 1.13 [(D,o)] H' b:=λ{H' o} hn b U=>by
  refine⟨hn b U,Zg (Zn (a9 b U) a8),I1.ok.exfs b U,.inl U,(I1.ok.exf b U).2,λp F=>?_⟩;have e:p=(D,o):=by simpa[bC]using F
  subst e;exact abB (a9 b U)
 have b1:abt 1.12 X.A (.compLoop 1.19 0 (.ref it) (.ref D) (compEnvC scope (qO scope X.env) C X.env)) (RR (.ref D) C) {Y with heap:=a3,toks:=Y.toks+([]:List (Str×Value)).length}:=by
  refine xx (λn s'=>∃i ys its k H',Inv 1.13 [(D,k)] (gR cap σ) H' s'/\(KV ys its/\DO X.prog X.w its k)/\tn i s'.heap/\(∀b∈fp,H' b=none)/\W i n ys H') ?_ m0 ⟨0,[],[],o0,H,I1,⟨.nil,c2⟩,b5,λb U=>(f2 b U).1,w0⟩;rintro n s3 ⟨i,ys,its,k,H3,I3,⟨rv,dk⟩,b7,c5,w3⟩;rcases b8 i n ys H3 w3 with⟨stop,qn⟩|⟨go,hsz,N,q,step⟩
  .refine thn (T.done 1.13 rfl rfl rfl Z i _ s3 _ H3 NoX I3 (a4 c5) b7 stop) λr s4 ⟨hr,I4⟩=>?_
   subst hr;exact c6 D C s4 H3 ys its k _ (YX _) a8 a6 I4 rv dk qn
  .refine thn (T.item 1.13 rfl rfl rfl Z i _ s3 _ H3 NoX I3 (a4 c5) b7 go) λr s4 ⟨u,hr,h4⟩=>?_
   subst hr;refine thn h4 λ_ s5 ⟨x,H5,I5,r5,y5,a5,d0⟩=>?_;have d5:=I5.pinned (a4 d0) (T.obj _ _ a5);refine thn (hg C _ s5 _ H5 x u _ d5 r5 (step x H5 y5)) λ_ s6 ⟨a2,H6,I6,c1,q6⟩=>?_;refine thn (ht C _ s6 a2 H6 _ I6 q6) λok s7 ⟨H7,I7,q7⟩=>?_;have a7:∀{s':Hq}{H':Hp}{B:L2.St},Inv 1.13 ([(D,k)]++mj fp s5.heap) B H' s'->tn (i+1) s'.heap/\∀b∈fp,H' b=none:=λ{s' H' B} Ix=>by
    refine⟨T.keep _ _ _ a5 λb U o e=>(Ix.pin (b,o) (YJ _ (YJ _ (d_ U e)))).1,λb U=>?_⟩;obtain⟨o,e,d⟩:=T.obj _ _ a5 b U;exact(Ix.pin (b,o) (YJ _ (YJ _ (d_ U e)))).2.1
   have b9:(gR cap σ).length=a2.length:=by rw[I6.len,I1.len]
   cases ok with
   |false=>
    have n7:N ys H7:=by simpa using q7
    obtain⟨m',hm,w7⟩:=q _ _ n7;exact⟨m',hm,i+1,ys,its,k,H7,I7.unpinned.weak b9 c1,⟨rv,dk⟩,(a7 I7).1,(a7 I7).2,w7⟩
   |true=>
    have q7:tk a2 H7 λx H4=>∃k',x=kV k'/\tv a2 H4 λv H5=>N (putK ys k' v) H5:=by simpa using q7
    refine thn (hk C _ s7 a2 H7 _ I7 q7) λuk d2 ⟨xk,d7,c9,c8,kk,ek,d6⟩=>?_;subst ek;refine thn (he C _ d2 a2 d7 _ c9 d6) λu8 s8 ⟨v,H8,I8,r8,n8⟩=>?_;obtain⟨eD,nD,_,d3,_⟩:=I8.pin (D,k) (YJ _ (YW _ ZW));have lv:=rv.length;refine afa (lz c8) (dk.at eD) (λh9 d4 c7=>?_) 1.11;obtain⟨m',hm,w8⟩:=q _ _ n8;obtain⟨o9,eN,b3⟩:=DO.of d4;have I9:Inv 1.13 (mj fp s5.heap) a2 H8 {s8 with heap:=h9,toks:=s8.toks+1}:=by
     refine Inv.turned (it:=D) (t':=s8.toks+1) (I8.pins_of λp F=>I8.pin p (YJ _ (YJ _ F))) (λb o U e=>c7.extBut b o U e) nD a6 (.inr (by rw[←hD];exact YX _)) (λx c e z=>?_) (λp F z=>?_)
     .obtain⟨vc,oc,h1,_⟩:=I.cell x c (j6 I O e)
      have hh:=Y_ h1;rw[z,hD]at hh;exact aaK _ hh
     .have F:p∈mj fp s5.heap:=F
      have hh:=a9 p.1 (tX F).1;rw[z]at hh;exact aaK _ hh
    refine⟨m',hm,i+1,putK ys kk v,stored its kk u8,o9,H8,(I9.weak b9 c1).pins_of (λp F=>?_),⟨rv.put kk r8,b3⟩,?_,λb U=>?_,w8⟩
    .have e:p=(D,o9):=ZJ.mp F
     rw[e];exact⟨eN,nD,a6,d3,b3.nc⟩
    .exact T.keep _ _ _ a5 λb U o e=>(I9.pin (b,o) (YJ _ (d_ U e))).1
    .obtain⟨o,e,d⟩:=T.obj _ _ a5 b U
     exact(I9.pin (b,o) (YJ _ (d_ U e))).2.1
 exact codeAny_compStart_dict b1 (T.self _ 0 _ _ _ b5 b1)
theorem Lh(hx:X.xe=NoX)(Z:X.calm=true)(O:du X.env.scope X.N N' scope cap)(hi:PI X target iter wi)
  (hg:∀C Y H fp,PG 1.13 target g) (ht:∀C Y H fp,PTs 1.13 ifs tt) (hk:∀C Y H fp,PE 1.13 kx tk) (V:∀C Y H fp,PE 1.13 vx tv)
  (B:∀x,aaE iter X.env x=pure x:=by intro _;rfl):PE X 1.19 (Dl cap wi g tt tk tv):=by
 show 4;rw[arm_eval_DictComp];dsimp only;refine abV (use:=none) rfl B (jN λy hy hk=>I.ok.has y.1 (O.free y hy hk)) O.kind O.nm (thn (hi pins s σ H _ I h) λv F h1=>thn h1 λa4 s2 h2=>?_);obtain⟨it,fp,tn,J,H2,e,I2,T,a1,f2,cw⟩:=h2;subst e;refine ut (RR:=λacc C=>compPost 1.12 X.A X.xe none (EP X pins σ Q) acc C) Z O I2 T a1 f2 (λC=>hg C _ _ _) (λC=>ht C _ _ _) (λC=>hk C _ _ _) (λC=>V C _ _ _) cw ?_;intro D C s' H' ys its o a5 hD hC a0 I' rv dk q;obtain⟨hz,q⟩:=q;obtain⟨m,a2,_⟩:=I'.loc;refine⟨m,a2,λh' sb=>?_⟩;obtain⟨eD,nD,_,a6,_⟩:=I'.pin (D,o) (YJ _ ZW);have a3:Inv X pins σ (upd H' D (.dK ys)) {s' with heap:=h'}:=by
  refine I2.call' (ch:=fp) I'.os ?_ ?_ I'.bare (λb U=>⟨(f2 b U).2.2.2.1,(f2 b U).2.1,(f2 b U).2.2.2.2.1,(f2 b U).2.2.2.2.2⟩)
  .have ne:∀b o,s2.heap.get? b=some o->b≠C/\b≠D:=λb o e=>⟨Zg (Zn (Y_ e) hC),Zg (Zn (Y_ e) hD)⟩
   refine⟨λb o e n U V=>sb.extBut b o (ne b o e).1 (I'.base.keep b o e n U V),λb o e n U V=>?_,λb o e n V=>?_,λb o e V=>?_,λb xs e=>?_,λb o u e=>?_,λb ps e=>?_⟩
   .obtain⟨sl,e1⟩:=I'.base.slot b o e n U V
    exact⟨sl,sb.extBut b _ (ne b o e).1 e1⟩
   .rw[aO (ne b o e).2]
    exact I'.base.free b o e n V
   .obtain⟨o',e1⟩:=I'.base.there b o e V
    exact⟨o',sb.extBut b _ (ne b o e).1 e1⟩
   .have e1:=I'.base.tups b xs e
    rw[aO (aU e1 nD)];exact e1
   .have e1:=I'.base.frzs b o u e
    rw[aO (aU e1 nD)];exact e1
   .obtain⟨more,e1⟩:=I'.base.tbls b ps e
    refine⟨more,?_⟩;rw[aO (aU e1 nD)];exact e1
  .intro b u e
   by_cases U:b=D
   .subst U
    rw[a_]at e;cases e;exact⟨hz,aaU.mpr (ZV (Zg (Zn I2.big hD))),its,rv,dk.at (sb.extBut _ _ a0 eD)⟩
   .rw[aO U]at e
    have nC:∀b u,H' b=some u->b≠C:=λb u e z=>by
     have hf:H' C=none:=I'.free;rw[z,hf]at e;cases e
    refine(I'.hok b u e).stay (λc v Z q=>sb.extBut c v ?_ q) (λc q=>by rw[aO (aU q nD)];exact q) λc xs q=>by rw[aO (aU q nD)];exact q
    rcases Z with z|z
    .rw[z]
     exact nC b u e
    .exact nC c _ z
 exact⟨.ref D,_,a3,rfl,q D nD⟩
end
theorem tZ{F:α->β->Prop}:∀{xs:List α}{ys:List β},ad4 F xs ys->∀{i:Nat}{a:α}{b:β},xs[i]? =some a->ys[i]? =some b->F a b
 |_,_,.nil,i,a,b,h,_=>by simp at h
 |_,_,.cons p r,0,a,b,h1,h2=>by cases h1;cases h2;exact p
 |_,_,.cons p r,i+1,a,b,h1,h2=>tZ r (i:=i) (by simpa using h1) (by simpa using h2)
theorem KY{B:L2.St}{H2 H':Hp}{O:Hq}{D:Addr}{ob:HO}(I2:Inv X pins σ H2 O)(N:∀b∈fp,my X pins H2 b)
  (hD:O.heap.objs.size<=D) (F:O.heap.objs.size<=C) (I:D≠C) (Y:Inv (bC X N' scope C O H2 fp) [(D,o)] B H' s') (new:∀h',h'.get? D=some o->cT X.prog X.w (upd H' D ob) h' D ob)
  (h':Heap) (J:ace C s'.heap h'):Inv X pins σ (upd H' D ob) {s' with heap:=h'}:=by
 obtain⟨eD,nD,_,a0,_⟩:=Y.pin (D,o) (YJ _ ZW);refine I2.call' (ch:=fp) Y.os ?_ ?_ Y.bare (λb U=>⟨(N b U).2.2.2.1,(N b U).2.1,(N b U).2.2.2.2.1,(N b U).2.2.2.2.2⟩)
 .have ne:∀b o,O.heap.get? b=some o->b≠C/\b≠D:=λb o e=>⟨Zg (Zn (Y_ e) F),Zg (Zn (Y_ e) hD)⟩
  refine⟨λb o e n U V=>J.extBut b o (ne b o e).1 (Y.base.keep b o e n U V),λb o e n U V=>?_,λb o e n V=>?_,λb o e V=>?_,λb xs e=>?_,λb o u e=>?_,λb ps e=>?_⟩
  .obtain⟨sl,e1⟩:=Y.base.slot b o e n U V
   exact⟨sl,J.extBut b _ (ne b o e).1 e1⟩
  .rw[aO (ne b o e).2]
   exact Y.base.free b o e n V
  .obtain⟨o',e1⟩:=Y.base.there b o e V
   exact⟨o',J.extBut b _ (ne b o e).1 e1⟩
  .have e1:=Y.base.tups b xs e
   rw[aO (aU e1 nD)];exact e1
  .have e1:=Y.base.frzs b o u e
   rw[aO (aU e1 nD)];exact e1
  .obtain⟨more,e1⟩:=Y.base.tbls b ps e
   refine⟨more,?_⟩;rw[aO (aU e1 nD)];exact e1
 .intro b u e
  by_cases U:b=D
  .subst U
   rw[a_]at e;cases e;exact new h' (J.extBut _ _ I eD)
  .rw[aO U]at e
   have nC:∀b u,H' b=some u->b≠C:=λb u e z=>by
    have hf:H' C=none:=Y.free;rw[z,hf]at e;cases e
   refine(Y.hok b u e).stay (λc v Z q=>J.extBut c v ?_ q) (λc q=>by rw[aO (aU q nD)];exact q) λc xs q=>by rw[aO (aU q nD)];exact q
   rcases Z with z|z
   .rw[z]
    exact nC b u e
   .exact nC c _ z
section
variable{X:Cx}{elt kx vx target iter:Expr}{ifs:List Expr}{scope:Scope}{pos pos' pos2:Pos}{N':List Str}{cap:List (Option Nat)}{wi:TI}{g:TG}{tt:TT}{te tk tv:TE}
theorem EY{pins:List (Addr×Obj)}{σ B:L2.St}{H2 H':Hp}{O s':Hq}{fp:List Addr}{D C:Addr}{o:Obj}{ob:HO}{i:Nat}{x:Str}{Dn:Ends}(I2:Inv X pins σ H2 O)(f2:∀b∈fp,my X pins H2 b)
  (hD:O.heap.objs.size<=D) (F:O.heap.objs.size<=C) (I:D≠C) (Y:Inv (bC X N' scope C O H2 fp) [(D,o)] B H' s') (new:∀h',h'.get? D=some o->cT X.prog X.w (upd H' D ob) h' D ob)
  (hN:X.N.Nodup) (hi:X.N[i]? =some x) (J:Loc X.env.scope x) (V:X.fn x=true∨X.env.scope.names.lookup x=some .local) (q:Dn.nx (σ.set i (some (.ref D))) (upd H' D ob)) :
  wpAny 1.12 X.A (assignAll (.ref D) ((aaD [.Name x pos'] X.env).map (·.2))) (λ_ a0=>∃m,a0.heap.Ns C m/\∀h',ace C a0.heap h'->SP X pins Dn .next {a0 with heap:=h'}) X.xe s':=by
 have I3:Inv X pins σ (upd H' D ob) s':=KY I2 f2 hD F I Y new s'.heap ⟨rfl,λ_ _=>rfl⟩;obtain⟨m,Z,_⟩:=Y.loc;obtain⟨a3,nD,_,a4,_⟩:=Y.pin (D,o) (YJ _ ZW);have Z:s'.heap.Ns C m:=Z;have a1:upd H' D ob C=none:=by
  rw[aO (ZV I)];exact Y.free
 obtain⟨f0,f1,a2,f3,f4,f5⟩:=I2.fpOk F (I2.hok.fresh F);have fC:my X pins (upd H' D ob) C:=⟨a1,f1,a2,f3,f4,f5⟩;obtain⟨oC,es,ep,gC,dC,k1,k2⟩:=Z;have I4:=I3.pinned (fp:=[C]) (λb U=>by rw[ZJ.mp U];exact fC) λb U=>⟨oC,by rw[ZJ.mp U];exact gC,λv z=>by rw[dC]at z;cases z⟩;have ea:assignAll (.ref D) ((aaD [.Name x pos'] X.env).map (·.2))=acy (.Name x pos') X.env (.ref D):=by
  unfold assignAll;simp[aaD]
 rw[ea];refine wpAny_assign_Name (jX I4 hN hi J (v:=.ref D) rfl (λa0 I5=>⟨m,?_,λh' sb=>?_⟩) V)
 .exact⟨oC,es,ep,(I5.pin (C,oC) (YJ _ (YJ _ (d_ (ZJ.mpr rfl) gC)))).1,dC,k1,k2⟩
 .exact⟨_,_,I5.unpinned.turned (t':=a0.toks) (λb o U e=>sb.extBut b o U e) a1 f1 f3 f4 f5,q⟩
theorem Qy{i:Nat}{x:Str}(hx:X.xe=NoX)(Z:X.calm=true)(hN:X.N.Nodup)(hi:X.N[i]? =some x)(hl:Loc X.env.scope x)(O:du X.env.scope X.N N' scope cap)(a1:PI X target iter wi)
  (hg:∀C Y H fp,PG 1.13 target g) (ht:∀C Y H fp,PTs 1.13 ifs tt) (V:∀C Y H fp,PE 1.13 elt te)
  (hw:abz 1.17 (some (.Name x pos')) pos2.line X.env=pure true:=by rfl) (B:∀x,aaE iter X.env x=pure x:=by intro _;rfl)
  (hf:X.fn x=true∨X.env.scope.names.lookup x=some .local:=by first|exact .inl rfl|exact .inr rfl|assumption):PS X (.Assign [.Name x pos'] 1.17 pos2) (KQ (Fq cap wi g tt te) (w6 i)):=by
 intro pins s σ H Dn I h;rw[adh];refine gD (abL ?_);rw[show abp [.Name x pos'] 1.17 pos2.line X.env=pure true from hw];refine gD (YQ ?_);rw[Zd rfl,arm_evalThenUse_ListComp];refine gD (gD (abV (use:=some _) rfl B (jN λy U hk=>I.ok.has y.1 (O.free y U hk)) O.kind O.nm (thn (a1 pins s σ H _ I h) λv F h1=>thn h1 λa3 s2 h2=>?_)));obtain⟨it,fp,tn,J,H2,e,z,T,a2,f2,cw⟩:=h2;subst e;refine wR (RR:=λacc C=>compPost 1.12 X.A X.xe (some _) _ acc C) Z O z T a2 f2 (λC=>hg C _ _ _) (λC=>ht C _ _ _) (λC=>V C _ _ _) cw ?_;intro D C s' H' ys its n a4 hD hC a0 I' rv q;obtain⟨hz,q⟩:=q;have nD:=(I'.pin (D,lobj its n) (YJ _ ZW)).2.1;refine thn (EY (ob:=.lst ys) (Dn:=Dn) (pos':=pos') z f2 hD hC a0 I' (λh' e=>⟨hz,its,n,rv,e⟩) hN hi hl hf (q D nD)) λ_ a5 ⟨m,h1,h2⟩=>⟨m,h1,λh' sb=>YQ (YQ (h2 h' sb))⟩
theorem QR{i:Nat}{x:Str}(hx:X.xe=NoX)(Z:X.calm=true)(hN:X.N.Nodup)(hi:X.N[i]? =some x)(hl:Loc X.env.scope x)(O:du X.env.scope X.N N' scope cap)(a1:PI X target iter wi)
  (hg:∀C Y H fp,PG 1.13 target g) (ht:∀C Y H fp,PTs 1.13 ifs tt) (hk:∀C Y H fp,PE 1.13 kx tk) (V:∀C Y H fp,PE 1.13 vx tv)
  (hw:abz 1.19 (some (.Name x pos')) pos2.line X.env=pure true:=by rfl) (B:∀x,aaE iter X.env x=pure x:=by intro _;rfl)
  (hf:X.fn x=true∨X.env.scope.names.lookup x=some .local:=by first|exact .inl rfl|exact .inr rfl|assumption):PS X (.Assign [.Name x pos'] 1.19 pos2) (KQ (Dl cap wi g tt tk tv) (w6 i)):=by
 intro pins s σ H Dn I h;rw[adh];refine gD (abL ?_);rw[show abp [.Name x pos'] 1.19 pos2.line X.env=pure true from hw];refine gD (YQ ?_);rw[Zd rfl,arm_evalThenUse_DictComp];refine gD (gD (abV (use:=some _) rfl B (jN λy U hk=>I.ok.has y.1 (O.free y U hk)) O.kind O.nm (thn (a1 pins s σ H _ I h) λv F h1=>thn h1 λa3 s2 h2=>?_)));obtain⟨it,fp,tn,J,H2,e,z,T,a2,f2,cw⟩:=h2;subst e;refine ut (RR:=λacc C=>compPost 1.12 X.A X.xe (some _) _ acc C) Z O z T a2 f2 (λC=>hg C _ _ _) (λC=>ht C _ _ _) (λC=>hk C _ _ _) (λC=>V C _ _ _) cw ?_;intro D C s' H' ys its o a4 hD hC a0 I' rv dk q;obtain⟨hz,q⟩:=q;have nD:=(I'.pin (D,o) (YJ _ ZW)).2.1;refine thn (EY (ob:=.dK ys) (Dn:=Dn) (pos':=pos') z f2 hD hC a0 I' (λh' e=>⟨hz,aaU.mpr (ZV (Zg (Zn z.big hD))),its,rv,dk.at e⟩) hN hi hl hf (q D nD)) λ_ a5 ⟨m,h1,h2⟩=>⟨m,h1,λh' sb=>YQ (YQ (h2 h' sb))⟩
end
end Jb
namespace PySem
open PySem.Builtin PySem.Builtin.SmallTypes
def yI(id:String):Builtin:=λargs=>do
 let x ←slotArgs "__next__" 0 args
 match x with
 |(self,snd)=>do
  let seq ←field self 0
  let q:Unit->Sem afs:=λ_=>do
   let y ←field self 1
   match y with
   |abT i tok=>do
    let z ←seqItems? seq
    match z with
    |some xs=>
     match xs[i.toNat]? with
     |some v=>do
      setField self 1 (acz (i+1))
      ret v
     |none=>do
      rule (toString id++toString ".end")
      setField self 0 aag
      adM
    |_=>aeB (toString "internal:"++toString id)
   |_=>aeB (toString "internal:"++toString id)
  if(seq==aag)=true then do
   rule (toString id++toString ".ended")
   let r ←adM
   q r
  else q ()
theorem uI:Builtin.«tuple_iterator.__next__»=yI "tuple_iterator.__next__":=rfl
section
variable{prog:Program}{w:World}{A:Around}{E:Value->Shared->Prop}{it t:Addr}{i:Nat}{items:Array Value}{h:Heap}{g:Array GenState}{d:Drawn}{tk:Nat}{os:OsState}
theorem rH{x:Value}{Q:Value->Hq->Prop}(st:h.IsTupleIter it t i)(p:h.IsTuple t items)(J:items[i]? =some x)
  (D:∀h',h'.IsTupleIter it t (i+1)->ace it h h'->Q x ⟨h',g,d,tk,os⟩):wpAny 1.16 A (abS (.ref it)) Q E ⟨h,g,d,tk,os⟩:=by
 have q:(⟨h,g,d,tk,os⟩:Hq).TypeIs (.ref it) "tuple_iterator":=st.typeIs;unfold abS;refine gD (ab1 q aaQ ?_);obtain⟨o,N,Z,hd⟩:=st;obtain⟨O,h1,h2,n,B⟩:=p
 show 1
 refine abQ aaQ.plain adE (aaQ.check _ _ _ _ _ _ _ _ q (adx _) ?_);rw[uI];unfold yI
 show 1
 rw[hd];refine YQ (YQ ?_);show wpAny _ _ (if(ZD t==aag)=true then _ else _) _ _ _;rw[show(ZD t==aag)=false from rfl,Zk aae]
 show 1
 rw[hd];refine YQ (YQ ?_);show wpAny _ _ (seqItems? (ZD t) >>=_) _ _ _;refine gD (aeK h1 B ?_);dsimp only;have hi:(i:Int).toNat=i:=acN i;rw[hi,J];dsimp only;refine gD (wpAny_setField N hd (by show 1<2;decide) ?_);refine YQ ?_;dsimp only;refine YQ (D _ ?_ ⟨afR ..,λb U=>aa5 h _ (ZV U)⟩);refine⟨_,ac8 _ N (aeI (adD hd _)),(afE ..).trans Z,?_⟩;rw[adD hd];have e1:(((i+1:Nat)):Int)=(i:Int)+1:=by omega
 rw[e1];rfl
theorem Lg{α:Type}{Q:α->Hq->Prop}(z:A.handled=none)
  (D:∀h' e,(∀b o,h.get? b=some o->h'.get? b=some o)->(∃o,h'.get? e=some o/\o.cls= .type "StopIteration")->E (.ref e) ⟨h',g,d,tk,os⟩):wpAny 1.16 A (adM:Sem α) Q E ⟨h,g,d,tk,os⟩:=by
 unfold adM
 show 1
 unfold raiseNew;refine gD (wpAny_handled ?_);rw[z];dsimp only;exact aeA (D _ _ (λb o e=>YM _ (YM _ e)) ⟨_,Zm _ rfl,rfl⟩)
theorem mJ{Q:Value->Hq->Prop}(z:A.handled=none)(st:h.IsTupleIter it t i)(p:h.IsTuple t items)(J:items[i]? =none)
  (D:∀h' e,Heap.ExtBut it h h'->(∃o,h'.get? e=some o/\o.cls= .type "StopIteration")->E (.ref e) ⟨h',g,d,tk,os⟩):wpAny 1.16 A (abS (.ref it)) Q E ⟨h,g,d,tk,os⟩:=by
 have q:(⟨h,g,d,tk,os⟩:Hq).TypeIs (.ref it) "tuple_iterator":=st.typeIs;unfold abS;refine gD (ab1 q aaQ ?_);obtain⟨o,N,Z,hd⟩:=st;obtain⟨O,h1,h2,n,B⟩:=p
 show 1
 refine abQ aaQ.plain adE (aaQ.check _ _ _ _ _ _ _ _ q (adx _) ?_);rw[uI];unfold yI
 show 1
 rw[hd];refine YQ (YQ ?_);show wpAny _ _ (if(ZD t==aag)=true then _ else _) _ _ _;rw[show(ZD t==aag)=false from rfl,Zk aae]
 show 1
 rw[hd];refine YQ (YQ ?_);show wpAny _ _ (seqItems? (ZD t) >>=_) _ _ _;refine gD (aeK h1 B ?_);dsimp only;have hi:(i:Int).toNat=i:=acN i;rw[hi,J];dsimp only;refine gD (adi ?_);refine gD (wpAny_setField N hd (by show 0<2;decide) ?_);refine Lg (show A.in1.handled=none from z) λh' e I V=>?_;exact D h' e (λb ob U Y=>I b ob ((aa5 h _ (ZV U)).trans Y)) V
theorem Draws.tuple(z:A.handled=none)(it t:Addr)(B:t≠it)(items:Array Value):Draws prog w A it [it,t] items.size (λi v=>items[i]? =some v) λi h=>h.IsTupleIter it t i/\h.IsTuple t items where
 live:=λi h st=>let⟨o,ho,_⟩:=st.1;⟨o,ho⟩
 frame:=λi h h' st k=>⟨st.1.at λo e=>k it (by simp) o e,let⟨o,h1,h2⟩:=st.2;⟨o,k t (by simp) o h1,h2⟩⟩
 item:=λi s Q E hi st k=>by
  obtain⟨h,g,d,tk,os⟩:=s;refine rH st.1 st.2 (x:=items[i]) (by simp[hi]) λh' Y J=>k _ h' tk (by simp[hi]) ⟨Y,?_⟩ J;obtain⟨o,h1,h2⟩:=st.2;exact⟨o,(J.2 t B).trans h1,h2⟩
 done:=λs Q E st k=>by
  obtain⟨h,g,d,tk,os⟩:=s;exact mJ z st.1 st.2 (by simp) λh' e q V=>k h' e q V
theorem Draws.tupleEnd(z:A.handled=none)(it t:Addr)(i:Nat)(items:Array Value)(J:items[i]? =none):Draws prog w A it [it,t] i (λ_ _=>False) λj h=>j=i/\h.IsTupleIter it t i/\h.IsTuple t items where
 live:=λj h st=>let⟨o,ho,_⟩:=st.2.1;⟨o,ho⟩
 frame:=λj h h' st k=>⟨st.1,st.2.1.at λo e=>k it (by simp) o e,let⟨o,h1,h2⟩:=st.2.2;⟨o,k t (by simp) o h1,h2⟩⟩
 item:=λj s Q E F st k=>absurd st.1 (Zg F)
 done:=λs Q E st k=>by
  obtain⟨h,g,d,tk,os⟩:=s;exact mJ z st.2.1 st.2.2 J λh' e B V=>k h' e B V
theorem vM{Q:afs->Hq->Prop}(F:h.IsTuple t items)
  (D:Q (.done (.ret (.ref (h.objs.size+1)))) ⟨(h.push {cls:=.type "tuple_iterator",data:=.fields #[.ref t,.int 0 0]}).push {cls:=.type "enumerate",data:=.fields #[.none,.bool false,.ref h.objs.size,acz 0,.none,.none]},g,d,tk,os⟩) :
  wpAny 1.16 A (Builtin.«enumerate.__new__» ⟨[.type "enumerate",.ref t],[]⟩) Q E ⟨h,g,d,tk,os⟩:=by
 have O:=sub_enumerate
 show 1
 refine wpAny_stack λst _ _ _=>?_;refine YQ ?_;have V:wpAny 1.16 A (do let it ←ad5 (.ref t);let r ←af3 (abg "enumerate") (afz++[it,acz 0,aag,aag]);ret r) Q E ⟨h,g,d,tk,os⟩:=by
  refine gD (adF F ?_)
  show 1
  rw[aam];exact D
 dsimp only;split
 .split
  .refine gD (adA (a:=(ZD t,none)) (by rfl) ?_)
   exact V
  .refine gD (adA (a:=(ZD t,none)) (by rfl) ?_)
   exact V
 .rw[Zk (by decide)]
  refine gD (adA (a:=(ZD t,none)) (by rfl) ?_);exact V
theorem oY{Q:Value->Hq->Prop}(q:h.IsTuple t items)
  (D:∀h',IsEnum h' (h.objs.size+1) h.objs.size 0 .none->h'.IsTupleIter h.objs.size t 0->h'.objs.size=h.objs.size+2->(∀b o,h.get? b=some o->h'.get? b=some o)->Q (.ref (h.objs.size+1)) ⟨h',g,d,tk,os⟩) :
  wpAny 1.16 A (call (.type "enumerate") [.ref t]) Q E ⟨h,g,d,tk,os⟩:=by
 have e1:((h.push {cls:=.type "tuple_iterator",data:=.fields #[.ref t,.int 0 0]}).push {cls:=.type "enumerate",data:=.fields #[.none,.bool false,.ref h.objs.size,acz 0,.none,.none]}).get? (h.objs.size+1)=some {cls:=.type "enumerate",data:=.fields #[.none,.bool false,.ref h.objs.size,acz 0,.none,.none]}:=by
  rw[←aam h {cls:=.type "tuple_iterator",data:=.fields #[.ref t,.int 0 0]}];exact Zm _ rfl
 refine callType_newIn F.called_enumerate (by decide) (F.typeCall_enumerate_1 _) (F.newCall_enumerate_1 _) (λobj=>F.args_object_init_2 _ _) F.entry_enumerate_new (S:=λZ R s'=>s'=⟨h,g,d,tk,os⟩/\R (.ok (.ret (.ref (h.objs.size+1)))) ⟨(h.push {cls:=.type "tuple_iterator",data:=.fields #[.ref t,.int 0 0]}).push {cls:=.type "enumerate",data:=.fields #[.none,.bool false,.ref h.objs.size,acz 0,.none,.none]},g,d,tk,os⟩) ?_ ⟨rfl,⟨⟨_,e1,rfl⟩,D _ e1 ⟨_,YM _ (Zm _ rfl),rfl,rfl⟩ (by rw[aam,aam]) λb o e=>YM _ (YM _ e)⟩⟩;rintro Z R s' ⟨rfl,J⟩;exact vM q J
end
end PySem
namespace Jb
open PySem PySem.Spec PyProof.Rows L2
def Wh(K:YS)(a:Addr):It:=
 ⟨λi H=>∃xs x,SqT K H a xs/\xs[i]? =some x,λi H x H'=>∃p v,H p=none/\x= .ref p/\(∀xs,SqT K H a xs->xs[i]? =some v)/\H'=upd H p (.tup [.int i,v]),λi H=>∃xs,SqT K H a xs/\xs.length<=i⟩
theorem Do{K:YS}{x1}(a e it:Addr)(a2:e≠it)(a8:e≠a)(b0:it≠a) :
  Turn P w K (.Tuple elts x1 pos) (Wh K a) [e,it] e (λi h=>(∃a0,IsEnum h e it (i:Int) a0)/\h.IsTupleIter it a i)where
 mem:=by simp
 obj:=λi h st b U=>by
  obtain⟨⟨a0,V⟩,o,N,c,d⟩:=st;rcases Za.mp U with z|z
  .subst z
   exact⟨_,V,λv z=>by cases z⟩
  .have z:b=it:=by simpa using z
   subst z;exact⟨o,N,λv z=>by rw[d]at z;cases z⟩
 keep:=λi h h' st k=>by
  obtain⟨⟨a0,V⟩,a1⟩:=st;exact⟨⟨a0,k e (by simp) _ V⟩,a1.at λo q=>k it (by simp) o q⟩
 item:=by
  intro X hP hw F Z i pins s σ H E I hf st B;subst hP hw F;obtain⟨xs,x,D,J⟩:=B;obtain⟨its,rv,p,O⟩:=I.tuple D;obtain⟨u,hu,ru⟩:=rv.get J;obtain⟨⟨a0,V⟩,a1⟩:=st;have b2:i<its.toArray.size:=by simp;exact(List.getElem?_eq_some_iff.mp hu).1
  have p':s.heap.IsTuple a its.toArray:=p;refine wpAny_pyNext_enum_itemD (Draws.tuple (show X.A.in1.handled=none from I.ok.hd Z) it a (ZV b0) its.toArray) V ⟨a1,p'⟩ b2 a2 (λz=>by rcases Za.mp z with q|q;exact a2 q;exact a8 (ZJ.mp q)) λy h1 tk hy a6 a5 a9 b4 k1=>?_;have ey:y=u:=by
   have:its[i]? =some y:=by simpa using hy
   rw[hu]at this;exact(aah this).symm
  subst ey;refine⟨.ref s.heap.objs.size,rfl,adL a6 λh2 b3 a3=>?_⟩;have a7:e<s.heap.objs.size:=Y_ V;have a4:s.heap.objs.size≠e:=abB a7;have b1:h2.get? s.heap.objs.size=some {cls:=.type "tuple",data:=.seq #[.int i tk,y]}:=a3.extBut _ _ a4 a9;have I2:Inv X pins σ (upd H s.heap.objs.size (.tup [.int i,x])) {s with heap:=h2,toks:=tk+1}:=by
   refine Cu (fp:=[e,it]) (t':=tk+1) I hf (λb o U q=>?_) (YX _) ?_
   .have n1:b≠e:=λz=>U (by simp[z])
    have n2:b≠it:=λz=>U (by simp[z]);exact a3.extBut b o n1 (k1 b o n1 n2 q)
   .exact⟨by show 2<=YZ;decide,[.int i tk,y],.cons ⟨_,rfl⟩ (.cons ru .nil),_,b1,rfl,_,rfl,rfl⟩
  refine⟨.ref s.heap.objs.size,upd H s.heap.objs.size (.tup [.int i,x]),I2,rfl,⟨_,x,I.hok.fresh (YX _),rfl,λys hy=>by rw[I.tuple_inj hy D];exact J,rfl⟩,?_,λb U=>?_⟩
  .refine⟨⟨y,?_⟩,a5.1.extBut a3.extBut (ZV a2)⟩
   have e1:(((i+1:Nat)):Int)=(i:Int)+1:=by omega
   rw[e1];exact b3
  .rw[aO]
   .exact(hf b U).1
   .intro z
    rw[z]at U;rcases Za.mp U with q|q
    .exact a4 q
    .have q:s.heap.objs.size=it:=by simpa using q
     obtain⟨o,N,_⟩:=a1;exact absurd (Y_ N) (by rw[q];exact aaK _)
 done:=by
  intro X hP hw F Z i pins s σ H E I hf st B;subst hP hw F;obtain⟨xs,D,J⟩:=B;obtain⟨its,rv,p,O⟩:=I.tuple D;obtain⟨⟨a0,V⟩,a1⟩:=st;have Y:=rv.length;have p':s.heap.IsTuple a its.toArray:=p;refine wpAny_pyNext_enum_endD (Draws.tupleEnd (show X.A.in1.handled=none from I.ok.hd Z) it a i its.toArray (by simp;omega)) V ⟨rfl,a1,p'⟩ λh1 eb=>⟨rfl,?_⟩;exact qg (fp:=[e,it]) (t':=s.toks) I hf λb o U q=>eb b o (λz=>U (by simp[z])) q
 self:=λA i s Q E st h=>by
  obtain⟨⟨a0,V⟩,_⟩:=st;exact acO V h
def M7(K:YS)(ta:TA):TI:=λσ H R=>ta σ H λvs H1=>∃a,vs=[.ref a]/\(((∃xs,SqL K H1 a xs)/\R (Ite K a) H1)∨((∃xs,SqT K H1 a xs)/\R (Wh K a) H1))
variable{X:Cx}{p:Pos}
theorem Mf{a:Expr}{ta:TA}{x1}(hg:Gl X "enumerate")(Z:X.mg "enumerate"=none)(Y:PA X [a] ta)(B:Zb [a] X.env=[(false,eval a X.env)]:=by rfl):PI X (.Tuple elts x1 tpos) (.Call (.Name "enumerate" p) [a] [] pos) (M7 X.K ta):=by
 intro pins s σ H R I h;refine Call_ (qX I hg Z boot_enumerate (abC (thn (Y pos pins s σ H _ I h) λus F ⟨vs,H1,N,J,q1⟩=>?_) B rfl));obtain⟨l,e,q⟩:=q1;subst e;obtain⟨u,rfl,ru⟩:=vals1 J;cases ru;have a2:∀b∈[F.heap.objs.size+1,F.heap.objs.size],my X pins H1 b:=λb U=>by
  have a0:F.heap.objs.size<=b:=by
   rcases Za.mp U with z|z
   .rw[z];exact adz _
   .have z:b=F.heap.objs.size:=by simpa using z
    rw[z];exact YX _
  exact N.fpOk a0 (N.hok.fresh a0)
 rcases q with⟨⟨xs,D⟩,q⟩|⟨⟨xs,D⟩,q⟩
 .obtain⟨its,rv,pl,hz⟩:=N.list D
  refine call_enumerate_list pl.isList λh1 V O hsz k1=>?_;have I2:Inv X pins σ H1 {F with heap:=h1}:=N.kept (t':=F.toks) k1;refine acO V ?_;exact⟨F.heap.objs.size+1,[F.heap.objs.size+1,F.heap.objs.size],_,_,H1,rfl,I2,Hr l _ _ (afS _),⟨⟨_,V⟩,O⟩,a2,q⟩
 .obtain⟨its,rv,pl,hz⟩:=N.tuple D
  have a1:F.heap.IsTuple l its.toArray:=pl;have a3:l<F.heap.objs.size:=let⟨_,h1,_⟩:=a1;Y_ h1;obtain⟨hp,g,d,tk,os⟩:=F;refine oY a1 λh1 V O hsz k1=>?_;have I2:Inv X pins σ H1 {heap:=h1,gens:=g,drawn:=d,toks:=tk,os:=os}:=N.kept (t':=tk) k1;refine acO V ?_;exact⟨hp.objs.size+1,[hp.objs.size+1,hp.objs.size],_,_,H1,rfl,I2,Do l _ _ (afS _) (abB (aa0 a3)) (abB a3),⟨⟨_,V⟩,O⟩,a2,q⟩
def Xa(K:YS)(te:TE):TI:=λσ H R=>te σ H λx H1=>∃a,x= .ref a/\(((∃xs,SqL K H1 a xs)/\R (Itl K a) H1)∨((∃xs,SqT K H1 a xs)/\R (Itt K a) H1))
variable{te:TE}
theorem Vr(Y:PE X e te):PI X tg e (Xa X.K te):=by
 intro pins s σ H R I h;refine thn (Y pins s σ H _ I h) λv F ⟨x,H1,N,J,q1⟩=>?_;obtain⟨a,ex,q⟩:=q1;subst ex;cases J;have B:∀b∈[F.heap.objs.size],my X pins H1 b:=λb U=>by
  rw[ZJ.mp U];exact N.fpOk (YX _) (N.hok.fresh (YX _))
 rcases q with⟨⟨xs,D⟩,q⟩|⟨⟨xs,D⟩,q⟩
 .obtain⟨its,rv,p,hz⟩:=N.list D
  refine acd p.isList ?_;exact⟨F.heap.objs.size,[F.heap.objs.size],_,_,H1,rfl,N.kept (t':=F.toks) λb o e=>YM _ e,Hs a _,⟨_,Zm _ rfl,rfl,rfl⟩,B,q⟩
 .obtain⟨its,rv,p,hz⟩:=N.tuple D
  refine adF (show F.heap.IsTuple a its.toArray from p) ?_;exact⟨F.heap.objs.size,[F.heap.objs.size],_,_,H1,rfl,N.kept (t':=F.toks) λb o e=>YM _ e,Ed a _,⟨_,Zm _ rfl,rfl,rfl⟩,B,q⟩
inductive Mk where
 |own|frz|brw|bro|scr
 deriving DecidableEq
inductive D where
 |non|bl (b:Bool)|int (i:Int)|str (x:Str)|ty (n:String)
 |tup (ds:List D)
 |lst (m:Mk) (ds:List D)
 |dct (m:Mk) (ks:List Key) (ds:List D)
 |ins (m:Mk) (c:Str) (fs:List Str) (ds:List D)
structure Gc where
 K:YS
 mg:Str->Option Value
structure Wn where
 n:Addr->Prop
 s:Addr->Prop
 o:Addr->Prop
def Wn.free(W:Wn)(a:Addr):Prop:=¬W.n a/\¬W.s a/\¬W.o a
def KO(K:YS)(a:Addr)(o:HO):Prop:=∃xs,o= .lst xs/\∃(ob:Obj)(its:Array Value)(n:Nat),K.lookup a=some ob/\ob.cls= .type "list"/\ob.dict=none/\ob.data= .seq its n/\its.size<=YZ/\Vals xs its.toList
def dY(D:Addr->HO->Prop)(H:Hp)(W:Wn)(a:Addr)(o:HO):Mk->List Addr->List Addr->Prop
 |.own,L,M=>H a=some o/\L=a::M
 |.frz,L,M=>H a=some o/\W.free a/\M=[]/\L=[]
 |.brw,L,M=>H a=some o/\W.s a/\M=[]/\L=[]
 |.bro,L,M=>H a=some o/\M=[]/\L=[]
 |.scr,L,M=>((Rd H a o/\W.free a)∨D a o)/\M=[]/\L=[]
variable{H:Hp}{W:Wn}{o:HO}{m:Mk}
theorem dY.sub{D:Addr->HO->Prop}(h:dY D H W a o m L M):aaI M L:=by
 cases m with
 |own=>rw[h.2];exact List.sublist_cons_self a M
 |frz=>rw[h.2.2.1];exact ac1 L
 |brw=>rw[h.2.2.1];exact ac1 L
 |bro=>rw[h.2.1];exact ac1 L
 |scr=>rw[h.2.1];exact ac1 L
theorem dY.rx{D:Addr->HO->Prop}(h:dY D H W a o m L M):Rd H a o∨D a o:=by
 cases m with
 |own=>exact .inl (.inl h.1)
 |frz=>exact .inl (.inl h.1)
 |brw=>exact .inl (.inl h.1)
 |bro=>exact .inl (.inl h.1)
 |scr=>exact h.1.imp (λz=>z.1) id
variable{xs:List V}
theorem dY.sq{K:YS}(h:dY (KO K) H W a (.lst xs) m L M):SqL K H a xs:=by
 rcases h.rx with z|⟨ys,e,z⟩
 .exact .inl z
 .cases e
  exact .inr z
variable{kvs:List (Key×V)}
theorem dY.rdD{K:YS}(h:dY (KO K) H W a (.dK kvs) m L M):Rd H a (.dK kvs):=by
 rcases h.rx with z|⟨ys,e,z⟩
 .exact z
 .cases e
theorem dY.at{D:Addr->HO->Prop}(h:dY D H W a o m L M)(Z:m≠.scr):H a=some o:=by
 cases m with
 |own=>exact h.1
 |frz=>exact h.1
 |brw=>exact h.1
 |bro=>exact h.1
 |scr=>exact absurd rfl Z
mutual
noncomputable def Rep(G:Gc)(H:Hp)(W:Wn):D->V->List Addr->Prop
 |.non,v,L=>v= .non/\L=[]
 |.bl b,v,L=>v= .bl b/\L=[]
 |.int i,v,L=>v= .int i/\L=[]
 |.str x,v,L=>v= .str x/\L=[]
 |.ty n,v,L=>v= .ty n/\L=[]
 |.tup ds,v,L=>∃a xs,v= .ref a/\H a=some (.tup xs)/\aH G H W ds xs L
 |.lst m ds,v,L=>∃a xs M,v= .ref a/\aH G H W ds xs M/\dY (KO G.K) H W a (.lst xs) m L M
 |.dct m ks ds,v,L=>∃a kvs M,v= .ref a/\(Zt (·.1) kvs=ks/\ks.Nodup)/\aH G H W ds (Zt (·.2) kvs) M/\dY (KO G.K) H W a (.dK kvs) m L M
 |.ins m c fs ds,v,L=>∃a C dx kvs M,v= .ref a/\G.mg c=some (.ref C)/\Zt (·.1) kvs=fs/\aH G H W ds (Zt (·.2) kvs) M/\dY (KO G.K) H W a (.ins C dx kvs) m L M
noncomputable def aH(G:Gc)(H:Hp)(W:Wn):List D->List V->List Addr->Prop
 |[],xs,L=>xs=[]/\L=[]
 |d::r,xs,L=>∃x ys M M',xs=x::ys/\L=M++M'/\Rep G H W d x M/\aH G H W r ys M'
end
variable{G:Gc}
theorem aH.nil:aH G H W [] [] []:=by simp[aH]
theorem aH.cons{d:D}{r:List D}{x:V}{ys:List V}{M M':List Addr}(h:Rep G H W d x M)(t:aH G H W r ys M'):aH G H W (d::r) (x::ys) (M++M'):=by
 rw[aH];exact⟨x,ys,M,M',rfl,rfl,h,t⟩
variable{d:D}
theorem aH.one{x:V}(h:Rep G H W d x M):aH G H W [d] [x] M:=by
 have:=aH.cons h aH.nil;rwa[Zu]at this
theorem aH.inv{r:List D}(h:aH G H W (d::r) xs L):∃x ys M M',xs=x::ys/\L=M++M'/\Rep G H W d x M/\aH G H W r ys M':=by
 rw[aH]at h;exact h
theorem aH.inv0(h:aH G H W [] xs L):xs=[]/\L=[]:=by
 rw[aH]at h;exact h
theorem aH.length:∀{ds:List D}{xs:List V}{L:List Addr},aH G H W ds xs L->ds.length=xs.length
 |[],xs,L,h=>by rw[h.inv0.1];rfl
 |d::r,xs,L,h=>by
  obtain⟨x,ys,M,M',rfl,_,_,h⟩:=h.inv;simp[aH.length h]
theorem aH.append:∀{ds es:List D}{xs ys:List V}{L M:List Addr},aH G H W ds xs L->aH G H W es ys M->aH G H W (ds++es) (xs++ys) (L++M)
 |[],es,xs,ys,L,M,h,h'=>by obtain⟨rfl,rfl⟩:=h.inv0;exact h'
 |d::r,es,xs,ys,L,M,h,h'=>by
  obtain⟨x,zs,A,B,rfl,rfl,h1,h2⟩:=h.inv;rw[aaT];exact .cons h1 (aH.append h2 h')
theorem aH.split:∀{ds es:List D}{xs:List V}{L:List Addr},aH G H W (ds++es) xs L->∃ys zs A B,xs=ys++zs/\L=A++B/\aH G H W ds ys A/\aH G H W es zs B
 |[],es,xs,L,h=>⟨[],xs,[],L,rfl,rfl,.nil,h⟩
 |d::r,es,xs,L,h=>by
  obtain⟨x,zs,A,B,rfl,rfl,h1,h2⟩:=aH.inv (r:=r++es) h;obtain⟨ys,ws,Z,Y,rfl,rfl,q,U⟩:=aH.split h2;exact⟨x::ys,ws,A++Z,Y,rfl,by rw[aaT],.cons h1 q,U⟩
variable{ds:List D}
theorem aH.at(h:aH G H W ds xs L)(e:ds[j]? =some d) :
  ∃A B x ys zs z M Z,ds=A++d::B/\A.length=j/\xs=ys++x::zs/\ys.length=j/\L=z++(M++Z)/\aH G H W A ys z/\Rep G H W d x M/\aH G H W B zs Z:=by
 have F:j<ds.length:=(List.getElem?_eq_some_iff.mp e).1;have hd:ds=ds.take j++d::ds.drop (j+1):=by
  have:ds[j]=d:=(List.getElem?_eq_some_iff.mp e).2;rw[←this,abx,ac_]
 rw[hd]at h;obtain⟨ys,zs,A,B,rfl,rfl,h1,h2⟩:=aH.split h;obtain⟨x,ws,M,M',rfl,rfl,q,U⟩:=h2.inv;have Y:(ds.take j).length=j:=by rw[abu];omega
 exact⟨_,_,x,ys,ws,A,M,M',hd,Y,rfl,by rw[←h1.length];exact Y,rfl,h1,q,U⟩
theorem aH.get(h:aH G H W ds xs L)(e:ds[j]? =some d):∃x M,xs[j]? =some x/\Rep G H W d x M/\aaI M L:=by
 obtain⟨A,B,x,ys,zs,z,M,Z,_,_,rfl,Y,rfl,_,h,_⟩:=h.at e;exact⟨x,M,by rw[aaq 1.11,Y,abY];rfl,h,(abk M Z).trans (aal z _)⟩
def muO:HO->Bool
 |.lst _=>true
 |.dK _=>true
 |.ins _ _ _=>true
 |_=>false
def Mu(H:Hp)(a:Addr):Prop:=∃o,H a=some o/\muO o=true
mutual
noncomputable def aD:D->Bool
 |.tup ds=>az ds
 |.lst m ds=>m != .brw&&az ds
 |.dct m _ ds=>m != .brw&&az ds
 |.ins m _ _ ds=>m != .brw&&az ds
 |_=>true
noncomputable def az:List D->Bool
 |[]=>true
 |d::r=>aD d&&az r
end
mutual
noncomputable def aC:D->Bool
 |.tup ds=>aB ds
 |.lst m ds=>m != .bro&&aB ds
 |.dct m _ ds=>m != .bro&&aB ds
 |.ins m _ _ ds=>m != .bro&&aB ds
 |_=>true
noncomputable def aB:List D->Bool
 |[]=>true
 |d::r=>aC d&&aB r
end
def clean(d:D):Bool:=aD d&&aC d
structure Evo(H H':Hp)(W W':Wn):Prop where
 k:∀b u,H b=some u->W.free b->H' b=some u/\W'.free b
 t:∀b xs,H b=some (.tup xs)->H' b=some (.tup xs)
def Mr(H H':Hp)(W W':Wn):Prop:=∀b u,H b=some u->W.s b->H' b=some u/\W'.s b
variable{H':Hp}{W':Wn}
theorem Evo.rd(e:Evo H H' W W')(h:Rd H a o)(f:W.free a):Rd H' a o/\W'.free a:=by
 rcases h with h|⟨u,h⟩
 .exact⟨.inl (e.k a _ h f).1,(e.k a _ h f).2⟩
 .exact⟨.inr ⟨u,(e.k a _ h f).1⟩,(e.k a _ h f).2⟩
theorem dY.mono{D:Addr->HO->Prop}(e:Evo H H' W W')(h:dY D H W a o m L M)(U:m≠.brw∨Mr H H' W W')(N:m≠.bro∨Same H H')(O:∀c∈L,∀u,H c=some u->H' c=some u):dY D H' W' a o m L M:=by
 cases m with
 |own=>exact⟨O a (by rw[h.2];simp) o h.1,h.2⟩
 |frz=>exact⟨(e.k a o h.1 h.2.1).1,(e.k a o h.1 h.2.1).2,h.2.2⟩
 |brw=>
  have q:=(U.resolve_left λz=>z rfl) a o h.1 h.2.1;exact⟨q.1,q.2,h.2.2⟩
 |bro=>exact⟨(N.resolve_left λz=>z rfl) a o h.1,h.2⟩
 |scr=>exact⟨h.1.imp (λz=>e.rd z.1 z.2) id,h.2⟩
theorem Same.rd(s:Same H H')(h:Rd H a o):Rd H' a o:=h.imp (s _ _) λ⟨u,z⟩=>⟨u,s _ _ z⟩
mutual
theorem Rep.mono(e:Evo H H' W W'):∀{d:D}{v:V}{L:List Addr},Rep G H W d v L->(aD d=true∨Mr H H' W W')->(aC d=true∨Same H H')->(∀c∈L,∀u,H c=some u->H' c=some u)->Rep G H' W' d v L
 |.non,v,L,h,_,_,_=>by rw[Rep]at h⊢;exact h
 |.bl _,v,L,h,_,_,_=>by rw[Rep]at h⊢;exact h
 |.int _,v,L,h,_,_,_=>by rw[Rep]at h⊢;exact h
 |.str _,v,L,h,_,_,_=>by rw[Rep]at h⊢;exact h
 |.ty _,v,L,h,_,_,_=>by rw[Rep]at h⊢;exact h
 |.tup ds,v,L,h,b,o,hl=>by
  rw[Rep]at h⊢;obtain⟨a,xs,rfl,U,O⟩:=h;exact⟨a,xs,rfl,e.t a xs U,aH.mono e O (by simpa[aD]using b) (by simpa[aC]using o) hl⟩
 |.lst m ds,v,L,h,b,o,hl=>by
  rw[Rep]at h⊢;obtain⟨a,xs,M,rfl,O,B⟩:=h;exact⟨a,xs,M,rfl,aH.mono e O (b.imp (λz=>by simp[aD]at z;exact z.2) id) (o.imp (λz=>by simp[aC]at z;exact z.2) id) λc Z=>hl c (B.sub.subset Z),B.mono e (b.imp (λz=>by simp[aD]at z;exact z.1) id) (o.imp (λz=>by simp[aC]at z;exact z.1) id) hl⟩
 |.dct m ks ds,v,L,h,b,o,hl=>by
  rw[Rep]at h⊢;obtain⟨a,xs,M,rfl,I,O,B⟩:=h;exact⟨a,xs,M,rfl,I,aH.mono e O (b.imp (λz=>by simp[aD]at z;exact z.2) id) (o.imp (λz=>by simp[aC]at z;exact z.2) id) λc Z=>hl c (B.sub.subset Z),B.mono e (b.imp (λz=>by simp[aD]at z;exact z.1) id) (o.imp (λz=>by simp[aC]at z;exact z.1) id) hl⟩
 |.ins m c fs ds,v,L,h,b,o,hl=>by
  rw[Rep]at h⊢;obtain⟨a,C,dx,xs,M,rfl,F,I,O,B⟩:=h;exact⟨a,C,dx,xs,M,rfl,F,I,aH.mono e O (b.imp (λz=>by simp[aD]at z;exact z.2) id) (o.imp (λz=>by simp[aC]at z;exact z.2) id) λc Z=>hl c (B.sub.subset Z),B.mono e (b.imp (λz=>by simp[aD]at z;exact z.1) id) (o.imp (λz=>by simp[aC]at z;exact z.1) id) hl⟩
theorem aH.mono(e:Evo H H' W W'):∀{ds:List D}{vs:List V}{L:List Addr},aH G H W ds vs L->(az ds=true∨Mr H H' W W')->(aB ds=true∨Same H H')->(∀c∈L,∀u,H c=some u->H' c=some u)->aH G H' W' ds vs L
 |[],vs,L,h,_,_,_=>by rw[aH]at h⊢;exact h
 |d::r,vs,L,h,b,o,hl=>by
  obtain⟨x,ys,M,M',rfl,rfl,h1,h2⟩:=h.inv;exact .cons (Rep.mono e h1 (b.imp (λz=>by simp[az]at z;exact z.1) id) (o.imp (λz=>by simp[aB]at z;exact z.1) id) λb U=>hl b (YW _ U))
   (aH.mono e h2 (b.imp (λz=>by simp[az]at z;exact z.2) id) (o.imp (λz=>by simp[aB]at z;exact z.2) id) λb U=>hl b (YJ _ U))
end
structure Up(H H':Hp)(W W':Wn):Prop where
 s:Same H H'
 f:∀b u,H b=some u->W.free b->W'.free b
 n:∀b u,H b=some u->W.s b->W'.s b
theorem Up.evo(u:Up H H' W W'):Evo H H' W W':=⟨λb o h f=>⟨u.s b o h,u.f b o h f⟩,λb xs h=>u.s b _ h⟩
theorem Up.evoN(u:Up H H' W W'):Mr H H' W W':=λb o h f=>⟨u.s b o h,u.n b o h f⟩
theorem Up.refl:Up H H W W:=⟨Same.refl H,λ_ _ _ f=>f,λ_ _ _ f=>f⟩
variable{H2:Hp}
theorem Up.trans{N:Wn}(a:Up H H' W W')(b:Up H' H2 W' N):Up H H2 W N:=⟨a.s.trans b.s,λc u h f=>b.f c u (a.s c u h) (a.f c u h f),λc u h f=>b.n c u (a.s c u h) (a.n c u h f)⟩
variable{v:V}
theorem Rep.up(h:Rep G H W d v L)(u:Up H H' W W'):Rep G H' W' d v L:=h.mono u.evo (.inr u.evoN) (.inr u.s) λc _ o e=>u.s c o e
theorem aH.up{d:List D}{v:List V}(h:aH G H W d v L)(u:Up H H' W W'):aH G H' W' d v L:=h.mono u.evo (.inr u.evoN) (.inr u.s) λc _ o e=>u.s c o e
def Wn.add(W:Wn)(L:List Addr):Wn:=⟨λa=>a∈L∨W.n a,W.s,W.o⟩
theorem Up.add(s:Same H H')(O:∀a∈L,H a=none):Up H H' W (W.add L):=⟨s,λb u h f=>⟨λz=>z.elim (λz=>by rw[O b z]at h;cases h) f.1,f.2⟩,λb u h f=>f⟩
theorem Up.same(s:Same H H'):Up H H' W W:=⟨s,λ_ _ _ f=>f,λ_ _ _ f=>f⟩
def mkV(ob:Bool):Mk->Mk
 |.own=>if ob then .bro else .brw
 |m=>m
def mkF:Mk->Mk
 |.scr=>.scr
 |_=>.frz
mutual
noncomputable def view(ob:Bool):D->D
 |.tup ds=>.tup (cU ob ds)
 |.lst m ds=>.lst (mkV ob m) (cU ob ds)
 |.dct m ks ds=>.dct (mkV ob m) ks (cU ob ds)
 |.ins m c fs ds=>.ins (mkV ob m) c fs (cU ob ds)
 |d=>d
noncomputable def cU(ob:Bool):List D->List D
 |[]=>[]
 |d::r=>view ob d::cU ob r
end
mutual
noncomputable def fz:D->D
 |.tup ds=>.tup (fzL ds)
 |.lst m ds=>.lst (mkF m) (fzL ds)
 |.dct m ks ds=>.dct (mkF m) ks (fzL ds)
 |.ins m c fs ds=>.ins (mkF m) c fs (fzL ds)
 |d=>d
noncomputable def fzL:List D->List D
 |[]=>[]
 |d::r=>fz d::fzL r
end
theorem dG(ob:Bool):∀ds:List D,cU ob ds=ds.map (view ob)
 |[]=>rfl
 |d::r=>by rw[cU,dG ob r];rfl
theorem jP:∀ds:List D,fzL ds=ds.map fz
 |[]=>rfl
 |d::r=>by rw[fzL,jP r];rfl
theorem dY.view{D:Addr->HO->Prop}{ob:Bool}(hn:ob=false->∀c∈L,W.s c)(h:dY D H W a o m L M):dY D H W a o (mkV ob m) [] []:=by
 cases m with
 |own=>
  cases ob with
  |false=>exact⟨h.1,hn rfl a (by rw[h.2];simp),rfl,rfl⟩
  |true=>exact⟨h.1,rfl,rfl⟩
 |frz=>exact⟨h.1,h.2.1,rfl,rfl⟩
 |brw=>exact⟨h.1,h.2.1,rfl,rfl⟩
 |bro=>exact⟨h.1,rfl,rfl⟩
 |scr=>exact⟨h.1,rfl,rfl⟩
mutual
theorem Rep.view{ob:Bool}:∀{d:D}{v:V}{L:List Addr},Rep G H W d v L->(ob=false->∀c∈L,W.s c)->Rep G H W (view ob d) v []
 |.non,v,L,h,_=>by rw[Rep]at h;simp[Jb.view,Rep,h]
 |.bl _,v,L,h,_=>by rw[Rep]at h;simp[Jb.view,Rep,h]
 |.int _,v,L,h,_=>by rw[Rep]at h;simp[Jb.view,Rep,h]
 |.str _,v,L,h,_=>by rw[Rep]at h;simp[Jb.view,Rep,h]
 |.ty _,v,L,h,_=>by rw[Rep]at h;simp[Jb.view,Rep,h]
 |.tup ds,v,L,h,hn=>by
  rw[Rep]at h;rw[Jb.view,Rep];obtain⟨a,xs,rfl,U,O⟩:=h;exact⟨a,xs,rfl,U,aH.view O hn⟩
 |.lst m ds,v,L,h,hn=>by
  rw[Rep]at h;rw[Jb.view,Rep];obtain⟨a,xs,M,rfl,O,B⟩:=h;exact⟨a,xs,[],rfl,aH.view O λz c Z=>hn z c (B.sub.subset Z),B.view hn⟩
 |.dct m ks ds,v,L,h,hn=>by
  rw[Rep]at h;rw[Jb.view,Rep];obtain⟨a,xs,M,rfl,I,O,B⟩:=h;exact⟨a,xs,[],rfl,I,aH.view O λz c Z=>hn z c (B.sub.subset Z),B.view hn⟩
 |.ins m c fs ds,v,L,h,hn=>by
  rw[Rep]at h;rw[Jb.view,Rep];obtain⟨a,C,dx,xs,M,rfl,F,I,O,B⟩:=h;exact⟨a,C,dx,xs,[],rfl,F,I,aH.view O λz c Z=>hn z c (B.sub.subset Z),B.view hn⟩
theorem aH.view{ob:Bool}:∀{ds:List D}{vs:List V}{L:List Addr},aH G H W ds vs L->(ob=false->∀c∈L,W.s c)->aH G H W (cU ob ds) vs []
 |[],vs,L,h,_=>by obtain⟨rfl,_⟩:=h.inv0;rw[cU];exact .nil
 |d::r,vs,L,h,hn=>by
  obtain⟨x,ys,M,M',rfl,rfl,h1,h2⟩:=h.inv;rw[cU];exact .cons (M:=[]) (M':=[]) (Rep.view h1 λz c Z=>hn z c (YW _ Z)) (aH.view h2 λz c Z=>hn z c (YJ _ Z))
end
structure Les(H:Hp)(W W':Wn)(L:List Addr):Prop where
 f:∀a,W.free a->W'.free a
 l:∀a∈L,W'.free a
theorem Les.sub(h:Les H W W' L)(s:∀a∈M,a∈L):Les H W W' M:=⟨h.f,λa Y=>h.l a (s a Y)⟩
def pQ(W:Wn):Prop:=∀a,W.free a
theorem dY.fz{D:Addr->HO->Prop}(B:Les H W W' L)(hn:(m≠.brw/\m≠.bro)∨pQ W')(h:dY D H W a o m L M):dY D H W' a o (mkF m) [] []:=by
 cases m with
 |own=>exact⟨h.1,B.l a (by rw[h.2];simp),rfl,rfl⟩
 |frz=>exact⟨h.1,B.f a h.2.1,rfl,rfl⟩
 |brw=>exact⟨h.1,hn.elim (λz=>absurd rfl z.1) λz=>z a,rfl,rfl⟩
 |bro=>exact⟨h.1,hn.elim (λz=>absurd rfl z.2) λz=>z a,rfl,rfl⟩
 |scr=>exact⟨h.1.imp (λz=>⟨z.1,B.f a z.2⟩) id,rfl,rfl⟩
mutual
theorem Rep.fz:∀{d:D}{v:V}{L:List Addr},Rep G H W d v L->Les H W W' L->(clean d=true∨pQ W')->Rep G H W' (fz d) v []
 |.non,v,L,h,_,_=>by rw[Rep]at h;simp[Jb.fz,Rep,h]
 |.bl _,v,L,h,_,_=>by rw[Rep]at h;simp[Jb.fz,Rep,h]
 |.int _,v,L,h,_,_=>by rw[Rep]at h;simp[Jb.fz,Rep,h]
 |.str _,v,L,h,_,_=>by rw[Rep]at h;simp[Jb.fz,Rep,h]
 |.ty _,v,L,h,_,_=>by rw[Rep]at h;simp[Jb.fz,Rep,h]
 |.tup ds,v,L,h,B,c=>by
  rw[Rep]at h;rw[Jb.fz,Rep];obtain⟨a,xs,rfl,U,O⟩:=h;exact⟨a,xs,rfl,U,aH.fz O B (c.imp (λz=>by simpa[clean,aD,aC]using z) id)⟩
 |.lst m ds,v,L,h,he,c=>by
  rw[Rep]at h;rw[Jb.fz,Rep];obtain⟨a,xs,M,rfl,O,B⟩:=h;exact⟨a,xs,[],rfl,aH.fz O (he.sub λc Z=>B.sub.subset Z) (c.imp (λz=>by simp[clean,aD,aC]at z;exact⟨z.1.2,z.2.2⟩) id),B.fz he (c.imp (λz=>by simp[clean,aD,aC]at z;exact⟨z.1.1,z.2.1⟩) id)⟩
 |.dct m ks ds,v,L,h,he,c=>by
  rw[Rep]at h;rw[Jb.fz,Rep];obtain⟨a,xs,M,rfl,I,O,B⟩:=h;exact⟨a,xs,[],rfl,I,aH.fz O (he.sub λc Z=>B.sub.subset Z) (c.imp (λz=>by simp[clean,aD,aC]at z;exact⟨z.1.2,z.2.2⟩) id),B.fz he (c.imp (λz=>by simp[clean,aD,aC]at z;exact⟨z.1.1,z.2.1⟩) id)⟩
 |.ins m c' fs ds,v,L,h,he,c=>by
  rw[Rep]at h;rw[Jb.fz,Rep];obtain⟨a,C,dx,xs,M,rfl,F,I,O,B⟩:=h;exact⟨a,C,dx,xs,[],rfl,F,I,aH.fz O (he.sub λc Z=>B.sub.subset Z) (c.imp (λz=>by simp[clean,aD,aC]at z;exact⟨z.1.2,z.2.2⟩) id),B.fz he (c.imp (λz=>by simp[clean,aD,aC]at z;exact⟨z.1.1,z.2.1⟩) id)⟩
theorem aH.fz:∀{ds:List D}{vs:List V}{L:List Addr},aH G H W ds vs L->Les H W W' L->((az ds=true/\aB ds=true)∨pQ W')->aH G H W' (fzL ds) vs []
 |[],vs,L,h,_,_=>by obtain⟨rfl,_⟩:=h.inv0;rw[fzL];exact .nil
 |d::r,vs,L,h,he,c=>by
  obtain⟨x,ys,M,M',rfl,rfl,h1,h2⟩:=h.inv;rw[fzL];exact .cons (M:=[]) (M':=[]) (Rep.fz h1 (he.sub λc Z=>YW _ Z) (c.imp (λz=>by simp[clean,az,aB]at z⊢;exact⟨z.1.1,z.2.1⟩) id))
   (aH.fz h2 (he.sub λc Z=>YJ _ Z) (c.imp (λz=>by simp[clean,az,aB]at z⊢;exact⟨z.1.2,z.2.2⟩) id))
end
mutual
theorem Cw:∀d:D,aD (Jb.fz d)=true
 |.non=>rfl|.bl _=>rfl|.int _=>rfl|.str _=>rfl|.ty _=>rfl
 |.tup ds=>by simp[Jb.fz,aD,il ds]
 |.lst m ds=>by cases m<;>simp[Jb.fz,aD,il ds,mkF]
 |.dct m _ ds=>by cases m<;>simp[Jb.fz,aD,il ds,mkF]
 |.ins m _ _ ds=>by cases m<;>simp[Jb.fz,aD,il ds,mkF]
theorem il:∀ds:List D,az (fzL ds)=true
 |[]=>rfl
 |d::r=>by simp[fzL,az,Cw d,il r]
end
mutual
theorem Br:∀d:D,aC (Jb.fz d)=true
 |.non=>rfl|.bl _=>rfl|.int _=>rfl|.str _=>rfl|.ty _=>rfl
 |.tup ds=>by simp[Jb.fz,aC,iu ds]
 |.lst m ds=>by cases m<;>simp[Jb.fz,aC,iu ds,mkF]
 |.dct m _ ds=>by cases m<;>simp[Jb.fz,aC,iu ds,mkF]
 |.ins m _ _ ds=>by cases m<;>simp[Jb.fz,aC,iu ds,mkF]
theorem iu:∀ds:List D,aB (fzL ds)=true
 |[]=>rfl
 |d::r=>by simp[fzL,aB,Br d,iu r]
end
theorem J2(d:D):clean (Jb.fz d)=true:=by simp[clean,Cw,Br]
mutual
theorem Rep.dom:∀{d:D}{v:V}{L:List Addr},Rep G H W d v L->∀a∈L,Mu H a
 |.non,v,L,h=>by rw[Rep]at h;rw[h.2];simp
 |.bl _,v,L,h=>by rw[Rep]at h;rw[h.2];simp
 |.int _,v,L,h=>by rw[Rep]at h;rw[h.2];simp
 |.str _,v,L,h=>by rw[Rep]at h;rw[h.2];simp
 |.ty _,v,L,h=>by rw[Rep]at h;rw[h.2];simp
 |.tup ds,v,L,h=>by
  rw[Rep]at h;obtain⟨a,xs,rfl,q,O⟩:=h;exact aH.dom O
 |.lst m ds,v,L,h=>by
  rw[Rep]at h;obtain⟨a,xs,M,rfl,O,B⟩:=h;intro b U;cases m with
  |own=>
   rw[B.2]at U;rcases Za.mp U with z|z
   .rw[z];exact⟨_,B.1,rfl⟩
   .exact aH.dom O b z
  |frz=>rw[B.2.2.2]at U;cases U
  |brw=>rw[B.2.2.2]at U;cases U
  |bro=>rw[B.2.2]at U;cases U
  |scr=>rw[B.2.2]at U;cases U
 |.dct m ks ds,v,L,h=>by
  rw[Rep]at h;obtain⟨a,xs,M,rfl,I,O,B⟩:=h;intro b U;cases m with
  |own=>
   rw[B.2]at U;rcases Za.mp U with z|z
   .rw[z];exact⟨_,B.1,rfl⟩
   .exact aH.dom O b z
  |frz=>rw[B.2.2.2]at U;cases U
  |brw=>rw[B.2.2.2]at U;cases U
  |bro=>rw[B.2.2]at U;cases U
  |scr=>rw[B.2.2]at U;cases U
 |.ins m c fs ds,v,L,h=>by
  rw[Rep]at h;obtain⟨a,C,dx,xs,M,rfl,F,I,O,B⟩:=h;intro b U;cases m with
  |own=>
   rw[B.2]at U;rcases Za.mp U with z|z
   .rw[z];exact⟨_,B.1,rfl⟩
   .exact aH.dom O b z
  |frz=>rw[B.2.2.2]at U;cases U
  |brw=>rw[B.2.2.2]at U;cases U
  |bro=>rw[B.2.2]at U;cases U
  |scr=>rw[B.2.2]at U;cases U
theorem aH.dom:∀{ds:List D}{vs:List V}{L:List Addr},aH G H W ds vs L->∀a∈L,Mu H a
 |[],vs,L,h=>by rw[h.inv0.2];simp
 |d::r,vs,L,h=>by
  obtain⟨x,ys,M,M',rfl,rfl,h1,h2⟩:=h.inv;intro a Y;rcases YL.mp Y with z|z
  .exact Rep.dom h1 a z
  .exact aH.dom h2 a z
end
abbrev En:=List (Option D)
abbrev Ad:=Nat->List Addr
def Rel(G:Gc)(H:Hp)(W:Wn)(ob:Nat->Bool)(ρ:En)(σ:L2.St):Prop:=∀(i:Nat)(d:D),ρ[i]? =some (some d)->∃v L,σ[i]? =some (some v)/\Rep G H W d v L/\(ob i=false->∀c∈L,W.s c)
def WOk(H:Hp)(W:Wn):Prop:=∀a,W.n a∨W.s a∨W.o a->Mu H a
variable{ρ:En}{σ:L2.St}
theorem Rel.up(r:Rel G H W ob ρ σ)(u:Up H H' W W'):Rel G H' W' ob ρ σ:=λi d e=>let⟨v,L,h1,h2,h3⟩:=r i d e;⟨v,L,h1,h2.up u,λz c Z=>let⟨o,ho,_⟩:=h2.dom c Z;u.n c o ho (h3 z c Z)⟩
theorem WOk.add(h:WOk H W)(s:Same H H')(O:∀a∈L,Mu H' a):WOk H' (W.add L):=λa Y=>by
 rcases Y with(z|z)|z
 .exact O a z
 .obtain⟨o,h1,h2⟩:=h a (.inl z);exact⟨o,s a o h1,h2⟩
 .obtain⟨o,h1,h2⟩:=h a (.inr z);exact⟨o,s a o h1,h2⟩
def wn(ob:Nat->Bool)(S:Ad)(Fr:Addr->Prop):Wn:=⟨Fr,λa=>∃i,ob i=false/\a∈S i,λa=>∃i,ob i=true/\a∈S i⟩
def inS(S:Ad)(a:Addr):Prop:=∃i,a∈S i
def inO(ob:Nat->Bool)(S:Ad)(a:Addr):Prop:=∃i,ob i=true/\a∈S i
def plus(M:List Addr)(Fr:Addr->Prop):Addr->Prop:=λa=>a∈M∨Fr a
structure Sta(G:Gc)(H:Hp)(ob:Nat->Bool)(ρ:En)(σ:L2.St)(S:Ad)(Fr:Addr->Prop):Prop where
 len:ρ.length=σ.length
 sl:∀(i:Nat)(d:D),ρ[i]? =some (some d)->∃v,σ[i]? =some (some v)/\Rep G H (wn ob S Fr) d v (S i)/\clean d=true
 em:∀i,(∀d,ρ[i]?≠some (some d))->S i=[]
 nd:∀i,(S i).Nodup
 dj:∀i j a,a∈S i->a∈S j->i=j
 fdj:∀i a,Fr a->a∉S i
 fdm:∀a,Fr a->Mu H a
section
variable{G:Gc}{H H':Hp}{ob:Nat->Bool}{ρ:En}{σ:L2.St}{S S':Ad}{Fr Fr':Addr->Prop}
theorem Sta.mu(s:Sta G H ob ρ σ S Fr){i:Nat}{a:Addr}(h:a∈S i):Mu H a:=by
 by_cases e:∃d,ρ[i]? =some (some d)
 .obtain⟨d,e⟩:=e
  obtain⟨v,_,r,_⟩:=s.sl i d e;exact r.dom a h
 .rw[s.em i λd z=>e ⟨d,z⟩]at h
  cases h
theorem Sta.wok(s:Sta G H ob ρ σ S Fr):WOk H (wn ob S Fr):=λa Y=>by
 rcases Y with z|⟨i,_,z⟩|⟨i,_,z⟩
 .exact s.fdm a z
 .exact s.mu z
 .exact s.mu z
theorem Sta.rel(s:Sta G H ob ρ σ S Fr):Rel G H (wn ob S Fr) ob ρ σ:=λi d e=>by
 obtain⟨v,h1,h2,_⟩:=s.sl i d e;exact⟨v,S i,h1,h2,λz c Z=>⟨i,z,Z⟩⟩
theorem Sta.grow(s:Sta G H ob ρ σ S Fr)(B:Same H H')(h1:∀a,Fr' a->Fr a∨(H a=none/\Mu H' a)):Sta G H' ob ρ σ S Fr' where
 len:=s.len
 sl:=λi d e=>by
  obtain⟨v,q1,q2,O⟩:=s.sl i d e;have Z:aD d=true/\aC d=true:=by simpa[clean]using O
  have I:Evo H H' (wn ob S Fr) (wn ob S Fr'):=⟨λb u h f=>⟨B b u h,⟨λz=>(h1 b z).elim f.1 (λz=>by rw[z.1]at h;cases h),f.2⟩⟩,λb xs h=>B b _ h⟩;exact⟨v,q1,q2.mono I (.inl Z.1) (.inl Z.2) λc _ u e=>B c u e,O⟩
 em:=s.em
 nd:=s.nd
 dj:=s.dj
 fdj:=λi a h z=>by
  rcases h1 a h with q|q
  .exact s.fdj i a q z
  .obtain⟨o,ho,_⟩:=s.mu z
   rw[q.1]at ho;cases ho
 fdm:=λa h=>by
  rcases h1 a h with q|q
  .obtain⟨o,ho,hm⟩:=s.fdm a q
   exact⟨o,B a o ho,hm⟩
  .exact q.2
theorem Sta.lessF(s:Sta G H ob ρ σ S Fr)(h1:∀a,Fr' a->Fr a):Sta G H ob ρ σ S Fr':=s.grow (Same.refl H) λa h=>.inl (h1 a h)
end
def RfE(G:Gc)(ob:Nat->Bool)(t:TE)(f:En->Option D):Prop:=∀(ρ:En)(d:D),f ρ=some d->∀(σ:L2.St)(H:Hp)(W:Wn),Rel G H W ob ρ σ->WOk H W->∀Q:VK,
 (∀v H' L,Same H H'->Rep G H' (W.add L) d v L->(∀a∈L,H a=none)->L.Nodup->Q v H')->t σ H Q
def RfT(G:Gc)(ob:Nat->Bool)(t:TT)(f:En->Option Bool):Prop:=∀(ρ:En)(b:Bool),f ρ=some b->∀(σ:L2.St)(H:Hp)(W:Wn),Rel G H W ob ρ σ->WOk H W->∀Q:Bool->Hp->Prop,
 (∀H',Same H H'->Q b H')->t σ H Q
def RfA(G:Gc)(ob:Nat->Bool)(t:TA)(f:En->Option (List D)):Prop:=∀(ρ:En)(ds:List D),f ρ=some ds->∀(σ:L2.St)(H:Hp)(W:Wn),Rel G H W ob ρ σ->WOk H W->∀Q:List V->Hp->Prop,
 (∀vs H' L,Same H H'->aH G H' (W.add L) ds vs L->(∀a∈L,H a=none)->L.Nodup->Q vs H')->t σ H Q
structure Eff(ob:Nat->Bool)(H H':Hp)(S S':Ad)(M:List Addr):Prop where
 kp:∀b u,H b=some u->¬inO ob S b->H' b=some u
 sn:∀i,ob i=false->S' i=S i
 gr:∀i a,ob i=true->a∈S' i->inO ob S a∨H a=none
 fm:∀a∈M,inO ob S a∨H a=none
def lE(G:Gc)(ob:Nat->Bool)(t:TE)(f:En->Option (D×En)):Prop:=∀(ρ:En)(d:D)(I:En),f ρ=some (d,I)->∀(σ:L2.St)(H:Hp)(S:Ad)(Fr:Addr->Prop),Sta G H ob ρ σ S Fr->∀Q:VK,
 (∀v H' M S',Sta G H' ob I σ S' (plus M Fr)->Rep G H' (wn ob S' (plus M Fr)) d v M->M.Nodup->Eff ob H H' S S' M->Q v H')->t σ H Q
def HB(G:Gc)(ob:Nat->Bool)(t:TT)(f:En->Option (Bool×En)):Prop:=∀(ρ:En)(b:Bool)(I:En),f ρ=some (b,I)->∀(σ:L2.St)(H:Hp)(S:Ad)(Fr:Addr->Prop),Sta G H ob ρ σ S Fr->∀Q:Bool->Hp->Prop,
 (∀H' S',Sta G H' ob I σ S' Fr->Eff ob H H' S S' []->Q b H')->t σ H Q
def An(G:Gc)(ob:Nat->Bool)(t:TA)(f:En->Option (List D×En)):Prop:=∀(ρ:En)(ds:List D)(I:En),f ρ=some (ds,I)->∀(σ:L2.St)(H:Hp)(S:Ad)(Fr:Addr->Prop),Sta G H ob ρ σ S Fr->∀Q:List V->Hp->Prop,
 (∀vs H' M S',Sta G H' ob I σ S' (plus M Fr)->aH G H' (wn ob S' (plus M Fr)) ds vs M->M.Nodup->Eff ob H H' S S' M->Q vs H')->t σ H Q
inductive Fl where
 |nx (ρ:En)|ret (d:D) (ρ:En)|brk (ρ:En)|cnt (ρ:En)
def CZ(P:Nat->Bool)(σ B:L2.St):Prop:=∀i,P i=true->B[i]? =σ[i]?
variable{P:Nat->Bool}
theorem CZ.refl:CZ P σ σ:=λ_ _=>rfl
theorem CZ.trans{J σ2:L2.St}(a:CZ P σ J)(b:CZ P J σ2):CZ P σ σ2:=λi h=>(b i h).trans (a i h)
structure Mv(P:Nat->Bool)(H H':Hp)(σ σ':L2.St)(S S':Ad)(M:List Addr):Prop where
 kp:∀b u,H b=some u->¬inS S b->b∉M->H' b=some u
 gr:∀i a,a∈S' i->inS S a∨a∈M∨H a=none
 pr:CZ P σ σ'
variable{S:Ad}
theorem Mv.trans{H1:Hp}{J σ2:L2.St}{S1 S2:Ad}(a:Mv P H H1 σ J S S1 M)(b:Mv P H1 H2 J σ2 S1 S2 []):Mv P H H2 σ σ2 S S2 M where
 kp:=λc u h n m=>b.kp c u (a.kp c u h n m) (λ⟨i,z⟩=>(a.gr i c z).elim n λz=>z.elim m λe=>by rw[h]at e;cases e) (by simp)
 gr:=λi c z=>by
  rcases b.gr i c z with⟨j,q⟩|q|q
  .exact a.gr j c q
  .cases q
  .by_cases h:inS S c
   .exact .inl h
   .by_cases hm:c∈M
    .exact .inr (.inl hm)
    .refine .inr (.inr ?_)
     cases e:H c with
     |none=>rfl
     |some u=>rw[a.kp c u e h hm]at q;cases q
 pr:=a.pr.trans b.pr
theorem Eff.mv{S':Ad}(e:Eff ob H H' S S' M):Mv P H H' σ σ S S' []where
 kp:=λb u h n _=>e.kp b u h λ⟨i,_,z⟩=>n ⟨i,z⟩
 gr:=λi a z=>by
  cases h:ob i with
  |false=>rw[e.sn i h]at z;exact .inl ⟨i,z⟩
  |true=>exact(e.gr i a h z).imp (λ⟨j,_,q⟩=>⟨j,q⟩) .inr
 pr:=.refl
def Aft(G:Gc)(ob P:Nat->Bool)(H:Hp)(σ:L2.St)(S:Ad)(Fr:Addr->Prop)(E:Ends):Fl->Prop
 |.nx I=>∀B H' S',Sta G H' ob I B S' Fr->Mv P H H' σ B S S' []->E.nx B H'
 |.brk I=>∀B H' S',Sta G H' ob I B S' Fr->Mv P H H' σ B S S' []->E.bk B H'
 |.cnt I=>∀B H' S',Sta G H' ob I B S' Fr->Mv P H H' σ B S S' []->E.ct B H'
 |.ret d I=>∀v B H' M S',Sta G H' ob I B S' (plus M Fr)->Rep G H' (wn ob S' (plus M Fr)) d v M->clean d=true->M.Nodup->(∀a∈M,inS S a∨H a=none)->Mv P H H' σ B S S' []->E.rt v H'
def RfS(G:Gc)(ob P:Nat->Bool)(t:TS)(f:En->Option Fl):Prop:=∀(ρ:En)(r:Fl),f ρ=some r->∀(σ:L2.St)(H:Hp)(S:Ad)(Fr:Addr->Prop),Sta G H ob ρ σ S Fr->∀E:Ends,Aft G ob P H σ S Fr E r->t E σ H
def RfG(G:Gc)(ob P:Nat->Bool)(g:TG)(f:D->En->Option En):Prop:=∀(d:D)(ρ I:En),f d ρ=some I->∀(v:V)(σ:L2.St)(H:Hp)(S:Ad)(M:List Addr)(Fr:Addr->Prop),Sta G H ob ρ σ S (plus M Fr)->Rep G H (wn ob S (plus M Fr)) d v M->M.Nodup->(∀a∈M,¬Fr a)->
 ∀Q:L2.St->Hp->Prop,(∀B H' S',Sta G H' ob I B S' Fr->Mv P H H' σ B S S' M->Q B H')->g v σ H Q
def YG(G:Gc)(ob P:Nat->Bool)(g:TGs)(f:List D->En->Option En):Prop:=∀(ds:List D)(ρ I:En),f ds ρ=some I->∀(vs:List V)(σ:L2.St)(H:Hp)(S:Ad)(M:List Addr)(Fr:Addr->Prop),Sta G H ob ρ σ S (plus M Fr)->aH G H (wn ob S (plus M Fr)) ds vs M->M.Nodup->(∀a∈M,¬Fr a)->
 ∀Q:L2.St->Hp->Prop,(∀B H' S',Sta G H' ob I B S' Fr->Mv P H H' σ B S S' M->Q B H')->g vs σ H Q
structure PV{ι:Type}(X:ι->Cx)(G:Gc)(ob:Nat->Bool)(e:Expr)(f:En->Option D):Prop where
 mk::(ex:∃t,(∀c,PE (X c) e t)/\RfE G ob t f)
structure PVT{ι:Type}(X:ι->Cx)(G:Gc)(ob:Nat->Bool)(e:Expr)(f:En->Option Bool):Prop where
 mk::(ex:∃t,(∀c,PT (X c) e t)/\RfT G ob t f)
structure PVW{ι:Type}(X:ι->Cx)(G:Gc)(ob:Nat->Bool)(e:Expr)(f:En->Option Bool):Prop where
 mk::(ex:∃t,(∀c,PW (X c) e t)/\RfT G ob t f)
structure PVA{ι:Type}(X:ι->Cx)(G:Gc)(ob:Nat->Bool)(es:List Expr)(f:En->Option (List D)):Prop where
 mk::(ex:∃t,(∀c,PA (X c) es t)/\RfA G ob t f)
structure PVe{ι:Type}(X:ι->Cx)(G:Gc)(ob:Nat->Bool)(e:Expr)(f:En->Option (D×En)):Prop where
 mk::(ex:∃t,(∀c,PE (X c) e t)/\lE G ob t f)
structure J5{ι:Type}(X:ι->Cx)(G:Gc)(ob:Nat->Bool)(e:Expr)(f:En->Option (Bool×En)):Prop where
 mk::(ex:∃t,(∀c,PT (X c) e t)/\HB G ob t f)
structure Bq{ι:Type}(X:ι->Cx)(G:Gc)(ob:Nat->Bool)(es:List Expr)(f:En->Option (List D×En)):Prop where
 mk::(ex:∃t,(∀c,PA (X c) es t)/\An G ob t f)
structure PVS{ι:Type}(X:ι->Cx)(G:Gc)(ob P:Nat->Bool)(st:Stmt)(f:En->Option Fl):Prop where
 mk::(ex:∃t,(∀c,PS (X c) st t)/\RfS G ob P t f)
structure uP{ι:Type}(X:ι->Cx)(G:Gc)(ob P:Nat->Bool)(st:List Stmt)(f:En->Option Fl):Prop where
 mk::(ex:∃t,(∀c,PSs (X c) st t)/\RfS G ob P t f)
structure PVG{ι:Type}(X:ι->Cx)(G:Gc)(ob P:Nat->Bool)(tg:Expr)(f:D->En->Option En):Prop where
 mk::(ex:∃t,(∀c,PG (X c) tg t)/\RfG G ob P t f)
theorem dX(h1:L.Nodup)(h2:M.Nodup)(B:∀a∈L,a∉M):(L++M).Nodup:=Zi.mpr ⟨h1,h2,λa Y b U e=>B a Y (e▸U)⟩
def Wn.drop(W:Wn)(L:List Addr):Wn:=⟨λa=>W.n a/\a∉L,W.s,W.o⟩
def Wn.tmp(W:Wn)(a:Addr):Prop:=W.n a/\¬W.s a/\¬W.o a
theorem WOk.tmp(w:WOk H W)(I:∀a∈L,H a=none):∀a∈L,(W.add L).tmp a:=λa Y=>by
 refine⟨.inl Y,λz=>?_,λz=>?_⟩
 .obtain⟨o,ho,_⟩:=w a (.inr (.inl z));rw[I a Y]at ho;cases ho
 .obtain⟨o,ho,_⟩:=w a (.inr (.inr z));rw[I a Y]at ho;cases ho
def Done(G:Gc)(H:Hp)(W:Wn)(J:List Addr)(d:D)(Q:VK):Prop:=∀v H' L,Same H H'->Rep G H' ((W.drop J).add L) d v L->(∀a∈L,a∈J∨H a=none)->L.Nodup->Q v H'
def OpV(G:Gc)(r:R2)(g:D->D->Option D):Prop:=∀(dx Y d:D),g dx Y=some d->∀(x y:V)(H:Hp)(W:Wn)(I Ly:List Addr),Rep G H W dx x I->Rep G H W Y y Ly->(I++Ly).Nodup->(∀a∈I++Ly,W.tmp a)->WOk H W->∀Q:VK,Done G H W (I++Ly) d Q->r x y H Q
def UnV(G:Gc)(r:V->Hp->VK->Prop)(g:D->Option D):Prop:=∀(dx d:D),g dx=some d->∀(x:V)(H:Hp)(W:Wn)(I:List Addr),Rep G H W dx x I->I.Nodup->(∀a∈I,W.tmp a)->WOk H W->∀Q:VK,Done G H W I d Q->r x H Q
def CaV(G:Gc)(r:List V->Hp->VK->Prop)(g:List D->Option D):Prop:=∀(ds:List D)(d:D),g ds=some d->∀(xs:List V)(H:Hp)(W:Wn)(J:List Addr),aH G H W ds xs J->J.Nodup->(∀a∈J,W.tmp a)->WOk H W->∀Q:VK,Done G H W J d Q->r xs H Q
def MtV(G:Gc)(r:V->List V->Hp->VK->Prop)(g:D->List D->Option D):Prop:=∀(dx:D)(ds:List D)(d:D),g dx ds=some d->∀(x:V)(xs:List V)(H:Hp)(W:Wn)(I J:List Addr),Rep G H W dx x I->aH G H W ds xs J->(I++J).Nodup->(∀a∈I++J,W.tmp a)->WOk H W->∀Q:VK,Done G H W (I++J) d Q->r x xs H Q
theorem WOk.new(w:WOk H W)(I:∀a∈L,H a=none)(h:W.n a):a∉L:=λz=>by
 obtain⟨o,N,_⟩:=w a (.inl h);rw[I a z]at N;cases N
variable{Q:VK}
theorem Done.scal{J:List Addr}(h:Done G H W J d Q)(r:∀W,Rep G H W d v []):Q v H:=h v H [] (Same.refl H) (r _) (by simp) ZR
theorem _root_.L2.Same.none'(s:Same H H')(h:H' a=none):H a=none:=Same.free s h
variable{ta tb:TE}{fa fb:En->Option D}{R:V->V->Hp->Prop}
theorem RfE.two(Y:RfE G ob ta fa)(U:RfE G ob tb fb){dx dy:D}(e1:fa ρ=some dx)(e2:fb ρ=some dy)(r:Rel G H W ob ρ σ)(w:WOk H W)
  (h:∀x y H' L M,Same H H'->Rep G H' (W.add (L++M)) dx x L->Rep G H' (W.add (L++M)) dy y M->(∀a∈L++M,H a=none)->(L++M).Nodup->WOk H' (W.add (L++M))->R x y H'):ta σ H λx H1=>tb σ H1 λy H2=>R x y H2:=by
 refine Y ρ dx e1 σ H W r w _ λx H1 L F rx fx nx=>?_;have B:Up H H1 W (W.add L):=.add F fx;have w1:WOk H1 (W.add L):=w.add F rx.dom;refine U ρ dy e2 σ H1 (W.add L) (r.up B) w1 _ λy H2 M O Z q ny=>?_;have I:∀a∈L,a∉M:=λa h1 h2=>by
  obtain⟨o,N,_⟩:=rx.dom a h1;rw[q a h2]at N;cases N
 have eW:∀a,((W.add L).add M).n a↔(W.add (L++M)).n a:=λa=>by
  show(a∈M∨a∈L∨W.n a)↔(a∈L++M∨W.n a);rw[YL];constructor
  .rintro(z|z|z)
   .exact .inl (.inr z)
   .exact .inl (.inl z)
   .exact .inr z
  .rintro((z|z)|z)
   .exact .inr (.inl z)
   .exact .inl z
   .exact .inr (.inr z)
 have a0:(W.add L).add M=W.add (L++M):=by
  show Wn.mk _ _ _=Wn.mk _ _ _;congr 1;funext a;exact propext (eW a)
 have J:Up H1 H2 (W.add L) (W.add (L++M)):=by rw[←a0];exact .add O q
 rw[a0]at Z;refine h x y H2 L M (F.trans O) (rx.up J) Z (λa Y=>?_) (dX nx ny I) ?_
 .rcases YL.mp Y with z|z
  .exact fx a z
  .exact F.none' (q a z)
 .rw[←a0]
  exact w1.add O Z.dom
def ao(b:Bool)(i:Nat):En->Option D:=λρ=>match ρ[i]? with
 |some (some d)=>some (view b d)
 |_=>none
def eC(d:D):En->Option D:=λ_=>some d
theorem tH(W:Wn):W.add []=W:=by
 cases W;simp[Wn.add]
theorem VL:RfE G ob (Il i) (ao (ob i) i):=λρ d e σ H W r w Q q=>by
 unfold ao at e;split at e
 .rename_i d0 e0
  cases e;obtain⟨v,L,h1,h2,B⟩:=r i d0 e0;refine⟨v,h1,q v H [] (Same.refl H) ?_ (by simp) ZR⟩;rw[tH];exact h2.view B
 .cases e
variable{X:ι->Cx}
theorem aj(b:Bool)(i:Nat)(U:ob i=b:=by rfl)(q:∀c,(X c).N[i]? =some x:=by intro _;rfl)(z:∀c,Vis (X c).env.scope x:=by intro _;first|exact aba rfl|exact aaL (aba rfl)|exact aaL (aaL rfl))(hd:1.21=false:=by decide)(V:(x==("__classdict__":Str))=false:=by decide):PV X G ob (.Name x pos) (ao b i):=⟨_,λc=>pv i (q c) (z c) hd V,by rw[←U];exact VL⟩
theorem Di(h:∀H W,Rep G H W d v []):RfE G ob (tC v) (eC d):=λρ d' e σ H W r w Q q=>by
 cases e;exact q v H [] (Same.refl H) (h _ _) (by simp) ZR
theorem aF{i j pos}:PV X G ob (.Constant (.int i) j pos) (eC (.int i)):=⟨_,λc=>Vj,Di λ_ _=>by simp[Rep]⟩
theorem Al{b j pos}:PV X G ob (.Constant (.bool b) j pos) (eC (.bl b)):=⟨_,λc=>Wx,Di λ_ _=>by simp[Rep]⟩
theorem oU{j pos}:PV X G ob (.Constant .none j pos) (eC .non):=⟨_,λc=>Vw,Di λ_ _=>by simp[Rep]⟩
theorem jo{x j pos}:PV X G ob (.Constant (.str x) j pos) (eC (.str x)):=⟨_,λc=>TF,Di λ_ _=>by simp[Rep]⟩
theorem wB{n:String}(B:∀c,Gl (X c) x)(Z:∀c,(X c).mg x=none)(z:aa4 x=some (.type n))(hn:x≠"__name__":=by decide)(hd:1.21=false:=by decide):PV X G ob (.Name x pos) (eC (.ty n)):=⟨_,λc=>Wo (B c) (Z c) z hn hd,Di λ_ _=>by simp[Rep]⟩
structure OpB{ι:Type}(X:ι->Cx)(G:Gc)(f:Value->Value->Sem Value)(g:D->D->Option D):Prop where
 ex:∃r,(∀c,OpR (X c) f r)/\OpV G r g
structure UnB{ι:Type}(X:ι->Cx)(G:Gc)(f:Value->Sem Value)(g:D->Option D):Prop where
 ex:∃r,(∀c,UnR (X c) f r)/\UnV G r g
structure IxB{ι:Type}(X:ι->Cx)(G:Gc)(g:D->D->Option D):Prop where
 ex:∃r,(∀c,IxR (X c) r)/\OpV G r g
structure CaB{ι:Type}(X:ι->Cx)(G:Gc)(f:Value)(g:List D->Option D):Prop where
 ex:∃r,(∀c,gA (X c) f r)/\CaV G r g
structure MtB{ι:Type}(X:ι->Cx)(G:Gc)(T id:String)(g:D->List D->Option D):Prop where
 ex:∃r,(∀c,MtR (X c) id r)/\MtV G r g/\∀dx ds d,g dx ds=some d->∀(x:V)(H:Hp)(W:Wn)(Lx:List Addr),Rep G H W dx x Lx->tyV G.K T x H
def e2(g:D->D->Option D)(fa fb:En->Option D):En->Option D:=λρ=>(fa ρ).bind λx=>(fb ρ).bind λy=>g x y
def e1(g:D->Option D)(fa:En->Option D):En->Option D:=λρ=>(fa ρ).bind g
variable{g:D->D->Option D}
theorem GJ{r:R2}(N:OpV G r g)(Y:RfE G ob ta fa)(U:RfE G ob tb fb):RfE G ob (tOp r ta tb) (e2 g fa fb):=λρ d e σ H W V w Q q=>by
 unfold e2 at e;cases h1:fa ρ with
 |none=>rw[h1]at e;cases e
 |some dx=>
  rw[h1]at e;cases h2:fb ρ with
  |none=>simp[h2]at e
  |some F=>
   have e:g dx F=some d:=by simpa[h2]using e
   refine RfE.two Y U h1 h2 V w λx y H' L M s rx Z I nd w'=>?_;refine N dx F d e x y H' _ L M rx Z nd (w.tmp I) w' Q λv H2 L2 O r2 J B=>?_;refine q v H2 L2 (s.trans O) ?_ (λa Y=>(J a Y).elim (I a) λz=>s.none' z) B;exact r2.up ⟨Same.refl _,λb u U f=>⟨λz=>z.elim (λz=>f.1 (.inl z)) λz=>f.1 (.inr ⟨.inr z,WOk.new w I z⟩),f.2⟩,λ_ _ _ f=>f⟩
theorem Sv{r:V->Hp->VK->Prop}{g:D->Option D}(N:UnV G r g)(Y:RfE G ob ta fa):RfE G ob (tUn r ta) (e1 g fa):=λρ d e σ H W J w Q q=>by
 unfold e1 at e;cases h1:fa ρ with
 |none=>rw[h1]at e;cases e
 |some dx=>
  rw[h1]at e;have e:g dx=some d:=by simpa using e
  refine Y ρ dx h1 σ H W J w _ λx H' L s rx I nd=>?_;refine N dx d e x H' _ L rx nd (w.tmp I) (w.add s rx.dom) Q λv H2 L2 O Z F B=>?_;refine q v H2 L2 (s.trans O) ?_ (λa Y=>(F a Y).elim (I a) λz=>s.none' z) B;exact Z.up ⟨Same.refl _,λb u U f=>⟨λz=>z.elim (λz=>f.1 (.inl z)) λz=>f.1 (.inr ⟨.inr z,WOk.new w I z⟩),f.2⟩,λ_ _ _ f=>f⟩
def aK:En->Option (List D):=λ_=>some []
def ak(fa:En->Option D)(I:En->Option (List D)):En->Option (List D):=λρ=>(fa ρ).bind λx=>(I ρ).bind λxs=>some (x::xs)
theorem wJ:RfA G ob Ug aK:=λρ ds e σ H W V w Q q=>by
 cases e;exact q [] H [] (Same.refl H) .nil (by simp) ZR
variable{t:TA}{I:En->Option (List D)}
theorem QK(Y:RfE G ob ta fa)(O:RfA G ob t I):RfA G ob (Gh ta t) (ak fa I):=λρ ds e σ H W V w Q q=>by
 unfold ak at e;cases h1:fa ρ with
 |none=>rw[h1]at e;cases e
 |some dx=>
  rw[h1]at e;cases h2:I ρ with
  |none=>simp[h2]at e
  |some es=>
   have e:dx::es=ds:=by simpa[h2]using e
   subst e;refine Y ρ dx h1 σ H W V w _ λx H1 L F rx fx nx=>?_;have B:Up H H1 W (W.add L):=.add F fx;have w1:WOk H1 (W.add L):=w.add F rx.dom;refine O ρ es h2 σ H1 (W.add L) (V.up B) w1 _ λys H2 M s2 Z fy ny=>?_;have a0:∀a∈L,a∉M:=λa h1 h2=>by
    obtain⟨o,N,_⟩:=rx.dom a h1;rw[fy a h2]at N;cases N
   have J:Up H1 H2 (W.add L) (W.add (L++M)):=⟨s2,λb u U f=>⟨λz=>z.elim (λz=>(YL.mp z).elim (λz=>f.1 (.inl z)) λz=>by rw[fy b z]at U;cases U) λz=>f.1 (.inr z),f.2⟩,λ_ _ _ f=>f⟩;refine q (x::ys) H2 (L++M) (F.trans s2) (.cons (rx.up J) (Z.up ⟨Same.refl _,λb u U f=>⟨λz=>?_,f.2⟩,λ_ _ _ f=>f⟩)) (λa Y=>?_) (dX nx ny a0)
   .rcases z with z|z
    .exact(YL.mp z).elim (λz=>f.1 (.inr (.inl z))) λz=>f.1 (.inl z)
    .exact f.1 (.inr (.inr z))
   .rcases YL.mp Y with z|z
    .exact fx a z
    .exact F.none' (fy a z)
variable{r:List V->Hp->VK->Prop}{f:En->Option (List D)}
theorem ur{g:List D->Option D}(N:CaV G r g)(h:RfA G ob t f):RfE G ob (λσ H Q=>t σ H λvs H1=>r vs H1 Q) (λρ=>(f ρ).bind g):=λρ d e σ H W J w Q q=>by
 cases h1:f ρ with
 |none=>simp[h1]at e
 |some ds=>
  have e:g ds=some d:=by simpa[h1]using e
  refine h ρ ds h1 σ H W J w _ λxs H' L s rx I nd=>?_;refine N ds d e xs H' _ L rx nd (w.tmp I) (w.add s rx.dom) Q λv H2 L2 O Z F B=>?_;refine q v H2 L2 (s.trans O) ?_ (λa Y=>(F a Y).elim (I a) λz=>s.none' z) B;exact Z.up ⟨Same.refl _,λb u U f=>⟨λz=>z.elim (λz=>f.1 (.inl z)) λz=>f.1 (.inr ⟨.inr z,WOk.new w I z⟩),f.2⟩,λ_ _ _ f=>f⟩
def eAp(g:List D->Option D)(f:En->Option (List D)):En->Option D:=λρ=>(f ρ).bind g
theorem J4{r:V->List V->Hp->VK->Prop}{g:D->List D->Option D}{ty:V->Hp->Prop}{to:TE}{fo:En->Option D}(N:MtV G r g)(a0:∀dx ds d,g dx ds=some d->∀(x:V)(H:Hp)(W:Wn)(I:List Addr),Rep G H W dx x I->ty x H)
  (h0:RfE G ob to fo) (h:RfA G ob t f):RfE G ob (λσ H Q=>to σ H λx H1=>ty x H1/\t σ H1 λxs H2=>r x xs H2 Q) (λρ=>(fo ρ).bind λx=>(f ρ).bind λds=>g x ds):=λρ d e σ H W rl w Q q=>by
 cases h1:fo ρ with
 |none=>simp[h1]at e
 |some dx=>
  cases h2:f ρ with
  |none=>simp[h1,h2]at e
  |some ds=>
   have e:g dx ds=some d:=by simpa[h1,h2]using e
   refine h0 ρ dx h1 σ H W rl w _ λx H1 L F rx fx nx=>⟨a0 dx ds d e x H1 _ L rx,?_⟩;have B:Up H H1 W (W.add L):=.add F fx;have w1:WOk H1 (W.add L):=w.add F rx.dom;refine h ρ ds h2 σ H1 (W.add L) (rl.up B) w1 _ λys H2 M O Z fy ny=>?_;have a1:∀a∈L,a∉M:=λa h1 h2=>by
    obtain⟨o,N,_⟩:=rx.dom a h1;rw[fy a h2]at N;cases N
   have J:Up H1 H2 (W.add L) (W.add (L++M)):=⟨O,λb u U f=>⟨λz=>z.elim (λz=>(YL.mp z).elim (λz=>f.1 (.inl z)) λz=>by rw[fy b z]at U;cases U) λz=>f.1 (.inr z),f.2⟩,λ_ _ _ f=>f⟩;have u3:Up H2 H2 ((W.add L).add M) (W.add (L++M)):=⟨Same.refl _,λb u U f=>⟨λz=>by
    rcases z with z|z
    .exact(YL.mp z).elim (λz=>f.1 (.inr (.inl z))) λz=>f.1 (.inl z)
    .exact f.1 (.inr (.inr z)),f.2⟩,λ_ _ _ f=>f⟩
   have w2:WOk H2 (W.add (L++M)):=w.add (F.trans O) λa Y=>(YL.mp Y).elim (λz=>let⟨o,h,m⟩:=rx.dom a z;⟨o,O a o h,m⟩) (Z.dom a);refine N dx ds d e x ys H2 (W.add (L++M)) L M (rx.up J) (Z.up u3) (dX nx ny a1) (w.tmp λa Y=>(YL.mp Y).elim (fx a) λz=>F.none' (fy a z)) w2 Q λv H3 L3 s3 r3 f3 n3=>?_;refine q v H3 L3 ((F.trans O).trans s3) ?_ (λa Y=>(f3 a Y).elim (λz=>?_) λz=>(F.trans O).none' z) n3
   .exact r3.up ⟨Same.refl _,λb u U f=>⟨λz=>z.elim (λz=>f.1 (.inl z)) λz=>f.1 (.inr ⟨.inr z,WOk.new w (λa Y=>(YL.mp Y).elim (fx a) λz=>F.none' (fy a z)) z⟩),f.2⟩,λ_ _ _ f=>f⟩
   .rcases YL.mp z with z|z
    .exact fx a z
    .exact F.none' (fy a z)
variable{a b:Expr}
theorem cG{op:ad6}(o:OpB X G (aaP op) g)(Y:PV X G ob a fa)(U:PV X G ob b fb):PV X G ob (.BinOp a op b pos) (e2 g fa fb):=let⟨r,o1,o2⟩:=o.ex;let⟨t,a1,a2⟩:=Y.ex;let⟨u,b1,b2⟩:=U.ex;⟨_,λc=>Su (o1 c) (a1 c) (b1 c),GJ o2 a2 b2⟩
theorem zR(o:OpB X G (aaa op) g)(Y:PV X G ob a fa)(U:PV X G ob b fb)(Z:acX op b=false:=by with_unfolding_all rfl):PV X G ob (.Compare a [op] [b] pos) (e2 g fa fb):=let⟨r,o1,o2⟩:=o.ex;let⟨t,a1,a2⟩:=Y.ex;let⟨u,b1,b2⟩:=U.ex;⟨_,λc=>PL (o1 c) (a1 c) (b1 c) Z,GJ o2 a2 b2⟩
theorem mQ{op:UnaryOp}{g:D->Option D}(o:UnB X G (unaryOp op) g)(Y:PV X G ob a fa):PV X G ob (.UnaryOp op a pos) (e1 g fa):=let⟨r,o1,o2⟩:=o.ex;let⟨t,a1,a2⟩:=Y.ex;⟨_,λc=>W0 (o1 c) (a1 c),Sv o2 a2⟩
theorem bU(o:IxB X G g)(Y:PV X G ob a fa)(U:PV X G ob b fb)(B:vg b:=by exact λ_ _=>rfl):PV X G ob (.Subscript a b pos) (e2 g fa fb):=let⟨r,o1,o2⟩:=o.ex;let⟨t,a1,a2⟩:=Y.ex;let⟨u,b1,b2⟩:=U.ex;⟨_,λc=>KJ (o1 c) (a1 c) (b1 c) B,GJ o2 a2 b2⟩
theorem aq:PVA X G ob [] aK:=⟨_,λc=>Vq,wJ⟩
theorem aa{f:En->Option D}(Y:PV X G ob e f)(O:PVA X G ob es I)(B:∀c,Zb (e::es) (X c).env=(false,eval e (X c).env)::Zb es (X c).env:=by intro _;rfl):PVA X G ob (e::es) (ak f I):=let⟨t,a1,a2⟩:=Y.ex;let⟨u,b1,b2⟩:=O.ex;⟨_,λc=>Aa (a1 c) (b1 c) (B c),QK a2 b2⟩
variable{g:List D->Option D}
theorem bJ{id:String}(o:CaB X G (.builtin id) g)(B:∀c,Gl (X c) x)(Z:∀c,(X c).mg x=none)(z:aa4 x=some (.builtin id))(Y:PVA X G ob (e::es) f)(hn:x≠"__name__":=by decide)(J:1.21=false:=by decide)(V:∀c,Zb (e::es) (X c).env=(false,eval e (X c).env)::Zb es (X c).env:=by intro _;rfl)(q:∀c,(aaA pos (Zb es (X c).env)).any (·.1)=false:=by intro _;rfl):PV X G ob (.Call (.Name x p) (e::es) [] pos) (eAp g f):=let⟨r,o1,o2⟩:=o.ex;let⟨t,a1,a2⟩:=Y.ex;⟨_,λc=>Kg (o1 c) (B c) (Z c) z (a1 c) hn J (V c) (q c),ur o2 a2⟩
theorem mD(o:CaB X G (.type T) g)(B:∀c,Gl (X c) x)(Z:∀c,(X c).mg x=none)(z:aa4 x=some (.type T))(Y:PVA X G ob (e::es) f)(hn:x≠"__name__":=by decide)(J:1.21=false:=by decide)(V:∀c,Zb (e::es) (X c).env=(false,eval e (X c).env)::Zb es (X c).env:=by intro _;rfl)(q:∀c,(aaA pos (Zb es (X c).env)).any (·.1)=false:=by intro _;rfl):PV X G ob (.Call (.Name x p) (e::es) [] pos) (eAp g f):=let⟨r,o1,o2⟩:=o.ex;let⟨t,a1,a2⟩:=Y.ex;⟨_,λc=>yd (o1 c) (B c) (Z c) z (a1 c) hn J (V c) (q c),ur o2 a2⟩
def bL(ds:List D):Option D:=if ds.length<=1000 then some (.tup ds)else none
def dN(ds:List D):Option D:=if ds.length<=1000 then some (.lst .own ds)else none
theorem Ba(h:n<=1000):n<=YZ:=aas h (by decide)
theorem Gu:CaV G (λxs H Q=>xs.length<=YZ/\∀p,H p=none->Q (.ref p) (upd H p (.tup xs))) bL:=λds d e xs H W J r nd hn w Q q=>by
 unfold bL at e;split at e
 .rename_i hl
  cases e;refine⟨Ba (by rw[←r.length];exact hl),λp F=>?_⟩;have B:Same H (upd H p (.tup xs)):=Same.new F;refine q (.ref p) _ J B ?_ (λa Y=>.inl Y) nd;rw[Rep];exact⟨p,xs,rfl,a_,r.up ⟨B,λb u U f=>⟨λz=>z.elim (λz=>f.1 (hn b z).1) λz=>f.1 z.1,f.2⟩,λ_ _ _ f=>f⟩⟩
 .cases e
theorem G7:CaV G (λxs H Q=>xs.length<=YZ/\∀p,H p=none->Q (.ref p) (upd H p (.lst xs))) dN:=λds d e xs H W J r nd hn w Q q=>by
 unfold dN at e;split at e
 .rename_i hl
  cases e;refine⟨Ba (by rw[←r.length];exact hl),λp F=>?_⟩;have B:Same H (upd H p (.lst xs)):=Same.new F;refine q (.ref p) _ (p::J) B ?_ (λa Y=>(Za.mp Y).elim (λz=>.inr (by rw[z];exact F)) .inl) (Zv.mpr ⟨λz=>?_,nd⟩)
  .rw[Rep]
   exact⟨p,xs,J,rfl,r.up ⟨B,λb u U f=>⟨λz=>z.elim (λz=>(Za.mp z).elim (λz=>by rw[z,F]at U;cases U) λz=>f.1 (hn b z).1) λz=>f.1 z.1,f.2⟩,λ_ _ _ f=>f⟩,a_,rfl⟩
  .obtain⟨o,ho,_⟩:=r.dom p z
   rw[F]at ho;cases ho
 .cases e
variable{k:Nat}
theorem fK(h:PVA X G ob es f):PV X G ob (.Tuple es k pos) (eAp bL f):=let⟨t,a1,a2⟩:=h.ex;⟨_,λc=>J9 (a1 c),ur Gu a2⟩
theorem l_(h:PVA X G ob es f):PV X G ob (.List es pos) (eAp dN f):=let⟨t,a1,a2⟩:=h.ex;⟨_,λc=>M9 (a1 c),ur G7 a2⟩
section
variable{G:Gc}{ob:Nat->Bool}{H H1 H2:Hp}{S S1 S2:Ad}{L M:List Addr}{ρ ρ1:En}{σ:L2.St}{Fr:Addr->Prop}
theorem Eff.refl:Eff ob H H S S []:=⟨λ_ _ h _=>h,λ_ _=>rfl,λi a h z=>.inl ⟨i,h,z⟩,by simp⟩
theorem Eff.back(e:Eff ob H H1 S S1 L){a:Addr}(h:H1 a=none):inO ob S a∨H a=none:=by
 by_cases z:inO ob S a
 .exact .inl z
 .refine .inr ?_
  cases q:H a with
  |none=>rfl
  |some u=>rw[e.kp a u q z]at h;cases h
theorem Eff.inO(e:Eff ob H H1 S S1 L){a:Addr}(h:inO ob S1 a):inO ob S a∨H a=none:=let⟨i,h1,h2⟩:=h;e.gr i a h1 h2
theorem Eff.notO(e:Eff ob H H1 S S1 L){a:Addr}{u:HO}(h:H a=some u)(n:¬Jb.inO ob S a):¬Jb.inO ob S1 a:=λz=>(e.inO z).elim n λz=>by rw[h]at z;cases z
theorem Eff.trans(a:Eff ob H H1 S S1 L)(b:Eff ob H1 H2 S1 S2 M):Eff ob H H2 S S2 (L++M)where
 kp:=λc u h n=>b.kp c u (a.kp c u h n) (a.notO h n)
 sn:=λi h=>(b.sn i h).trans (a.sn i h)
 gr:=λi c h z=>(b.gr i c h z).elim a.inO a.back
 fm:=λc Z=>(YL.mp Z).elim (a.fm c) λz=>(b.fm c z).elim a.inO a.back
theorem Eff.same(a:Eff ob H H1 S S1 L)(s:Same H1 H2)(h:∀c∈M,c∈L∨H1 c=none):Eff ob H H2 S S1 M where
 kp:=λc u Z n=>s c u (a.kp c u Z n)
 sn:=a.sn
 gr:=a.gr
 fm:=λc Z=>(h c Z).elim (a.fm c) a.back
theorem Sta.notO(s:Sta G H ob ρ σ S Fr){a:Addr}(h:Fr a):¬inO ob S a:=λ⟨i,_,z⟩=>s.fdj i a h z
theorem Sta.tmp(s:Sta G H ob ρ σ S Fr){a:Addr}(h:Fr a):(wn ob S Fr).tmp a:=⟨h,λ⟨i,_,z⟩=>s.fdj i a h z,λ⟨i,_,z⟩=>s.fdj i a h z⟩
theorem Eff.evo(s:Sta G H ob ρ σ S Fr)(e:Eff ob H H1 S S1 M):Evo H H1 (wn ob S Fr) (wn ob S1 (plus M Fr))where
 k:=λb u h f=>⟨e.kp b u h f.2.2,λz=>z.elim (λz=>(e.fm b z).elim f.2.2 λq=>by rw[h]at q;cases q) f.1,λ⟨i,h1,h2⟩=>f.2.1 ⟨i,h1,by rw[←e.sn i h1];exact h2⟩,e.notO h f.2.2⟩
 t:=λb xs h=>by
  have D:∀u,H b=some u->muO u=false->H1 b=some u:=λu J m=>e.kp b u J λ⟨i,_,z⟩=>by
   obtain⟨o,N,Z⟩:=s.mu z;rw[J]at N;cases N;rw[m]at Z;cases Z
  exact D _ h rfl
theorem Eff.evoN(s:Sta G H ob ρ σ S Fr)(e:Eff ob H H1 S S1 M):Mr H H1 (wn ob S Fr) (wn ob S1 (plus M Fr)):=λb u h ⟨i,h1,h2⟩=>
 ⟨e.kp b u h (λ⟨j,q1,q2⟩=>by rw[s.dj i j b h2 q2,q1]at h1;cases h1),⟨i,h1,by rw[e.sn i h1];exact h2⟩⟩
theorem Eff.keepsF(s:Sta G H ob ρ σ S Fr)(e:Eff ob H H1 S S1 M){a:Addr}(h:Fr a):∀u,H a=some u->H1 a=some u:=λu J=>e.kp a u J (s.notO h)
theorem pZ{L M:List Addr}:plus M (plus L Fr)=plus (L++M) Fr:=by
 funext a;simp![plus,YL,eq_iff_iff];constructor
 .rintro(z|z|z)
  .exact .inl (.inr z)
  .exact .inl (.inl z)
  .exact .inr z
 .rintro((z|z)|z)
  .exact .inr (.inl z)
  .exact .inl z
  .exact .inr (.inr z)
theorem R7{J:List Addr}{d:D}{v:V}(s:Sta G H1 ob ρ1 σ S1 (plus L Fr))(e:Eff ob H H1 S S1 L)(B:Same H1 H2)(r:Rep G H2 (((wn ob S1 (plus L Fr)).drop L).add J) d v J)(f:∀a∈J,a∈L∨H1 a=none)(F:Sta G H ob ρ σ S Fr) :
  Sta G H2 ob ρ1 σ S1 (plus J Fr)/\Rep G H2 (wn ob S1 (plus J Fr)) d v J/\Eff ob H H2 S S1 J:=by
 refine⟨s.grow B λa h=>?_,r.up ⟨Same.refl _,λb u U q=>⟨λz=>?_,q.2⟩,λ_ _ _ q=>q⟩,e.same B f⟩
 .rcases h with h|h
  .exact(f a h).imp .inl λz=>⟨z,r.dom a h⟩
  .exact .inl (.inr h)
 .rcases z with z|z
  .exact q.1 (.inl z)
  .refine q.1 (.inr ⟨.inr z,λh=>?_⟩)
   rcases e.fm b h with y|y
   .exact F.notO z y
   .obtain⟨o,ho,_⟩:=F.fdm b z
    rw[y]at ho;cases ho
end
def eUp(f:En->Option D):En->Option (D×En):=λρ=>(f ρ).map λd=>(d,ρ)
theorem yf{f:En->Option D}(h:RfE G ob ta f):lE G ob ta (eUp f):=λρ d I e σ H S Fr s Q q=>by
 unfold eUp at e;cases h1:f ρ with
 |none=>rw[h1]at e;cases e
 |some d0=>
  rw[h1]at e;cases e;refine h ρ d h1 σ H _ s.rel s.wok Q λv H' L B r F nd=>?_;exact q v H' L S (s.grow B λa z=>z.elim (λz=>.inr ⟨F a z,r.dom a z⟩) .inl) r nd ⟨λb u U _=>B b u U,λ_ _=>rfl,λi a h z=>.inl ⟨i,h,z⟩,λa Y=>.inr (F a Y)⟩
def kO(f:En->Option Bool):En->Option (Bool×En):=λρ=>(f ρ).map λd=>(d,ρ)
theorem Oc{t:TT}{f:En->Option Bool}(h:RfT G ob t f):HB G ob t (kO f):=λρ d I e σ H S Fr s Q q=>by
 unfold kO at e;cases h1:f ρ with
 |none=>rw[h1]at e;cases e
 |some d0=>
  rw[h1]at e;cases e;refine h ρ d h1 σ H _ s.rel s.wok Q λH' B=>?_;exact q H' S (s.grow B λa z=>.inl z) ⟨λb u U _=>B b u U,λ_ _=>rfl,λi a h z=>.inl ⟨i,h,z⟩,by simp⟩
def dM(f:En->Option (List D)):En->Option (List D×En):=λρ=>(f ρ).map λd=>(d,ρ)
theorem Ab(h:RfA G ob t f):An G ob t (dM f):=λρ d I e σ H S Fr s Q q=>by
 unfold dM at e;cases h1:f ρ with
 |none=>rw[h1]at e;cases e
 |some d0=>
  rw[h1]at e;cases e;refine h ρ d h1 σ H _ s.rel s.wok Q λv H' L B r F nd=>?_;exact q v H' L S (s.grow B λa z=>z.elim (λz=>.inr ⟨F a z,r.dom a z⟩) .inl) r nd ⟨λb u U _=>B b u U,λ_ _=>rfl,λi a h z=>.inl ⟨i,h,z⟩,λa Y=>.inr (F a Y)⟩
theorem cg{f:En->Option D}(h:PV X G ob e f):PVe X G ob e (eUp f):=let⟨t,a1,a2⟩:=h.ex;⟨t,a1,yf a2⟩
theorem u_{f:En->Option Bool}(h:PVT X G ob e f):J5 X G ob e (kO f):=let⟨t,a1,a2⟩:=h.ex;⟨t,a1,Oc a2⟩
theorem bO{e:List Expr}(h:PVA X G ob e f):Bq X G ob e (dM f):=let⟨t,a1,a2⟩:=h.ex;⟨t,a1,Ab a2⟩
variable{fa fb:En->Option (D×En)}
theorem lE.two(Y:lE G ob ta fa)(U:lE G ob tb fb){ρ1 ρ2:En}{dx I:D}(e1:fa ρ=some (dx,ρ1))(e2:fb ρ1=some (I,ρ2))(J:aC dx=true){Fr:Addr->Prop}(s:Sta G H ob ρ σ S Fr)
  (h:∀x y H' L M S',Sta G H' ob ρ2 σ S' (plus (L++M) Fr)->Rep G H' (wn ob S' (plus (L++M) Fr)) dx x L->Rep G H' (wn ob S' (plus (L++M) Fr)) I y M->(L++M).Nodup->Eff ob H H' S S' (L++M)->R x y H'):ta σ H λx H1=>tb σ H1 λy H2=>R x y H2:=by
 refine Y ρ dx ρ1 e1 σ H S Fr s _ λx H1 L S1 F rx nx f1=>?_;refine U ρ1 I ρ2 e2 σ H1 S1 (plus L Fr) F _ λy H2 M S2 O ry B N=>?_;have q:=rx.mono (N.evo F) (.inr (N.evoN F)) (.inl J) λc Z u hu=>N.keepsF F (.inl Z) u hu;rw[pZ]at O ry q;refine h x y H2 L M S2 O q ry (dX nx B λa h1 h2=>?_) (f1.trans N);rcases N.fm a h2 with z|z
 .exact F.notO (.inl h1) z
 .obtain⟨o,ho,_⟩:=rx.dom a h1
  rw[z]at ho;cases ho
def ee2(g:D->D->Option D)(fa fb:En->Option (D×En)):En->Option (D×En):=λρ=>(fa ρ).bind λp=>(fb p.2).bind λq=>if aC p.1 then(g p.1 q.1).map λd=>(d,q.2)else none
theorem DP{r:R2}{g:D->D->Option D}(N:OpV G r g)(Y:lE G ob ta fa)(U:lE G ob tb fb):lE G ob (tOp r ta tb) (ee2 g fa fb):=λρ d I e σ H S Fr s Q q=>by
 unfold ee2 at e;cases h1:fa ρ with
 |none=>simp[h1]at e
 |some p=>
  obtain⟨dx,ρ1⟩:=p;cases h2:fb ρ1 with
  |none=>simp[h1,h2]at e
  |some p=>
   obtain⟨V,ρ2⟩:=p;cases J:aC dx with
   |false=>simp[h1,h2,J]at e
   |true=>
    cases B:g dx V with
    |none=>simp[h1,h2,J,B]at e
    |some d'=>
     obtain⟨rfl,rfl⟩:d'=d/\ρ2=I:=by simpa[h1,h2,J,B]using e
     refine lE.two Y U h1 h2 J s λx y H' L M S' s' rx Z nd ef=>?_;refine N dx V _ B x y H' _ L M rx Z nd (λa Y=>s'.tmp (.inl Y)) s'.wok Q λv H3 L3 s3 r3 z F=>?_;obtain⟨q1,q2,O⟩:=R7 s' ef s3 r3 z s;exact q v H3 L3 S' q1 q2 F O
def fO(fa:En->Option (D×En))(I:En->Option (List D×En)):En->Option (List D×En):=λρ=>(fa ρ).bind λp=>(I p.2).bind λq=>if aC p.1 then some (p.1::q.1,q.2)else none
theorem JP{V:En->Option (List D×En)}(Y:lE G ob ta fa)(O:An G ob t V):An G ob (Gh ta t) (fO fa V):=λρ ds I e σ H S Fr s Q q=>by
 unfold fO at e;cases h1:fa ρ with
 |none=>simp[h1]at e
 |some p=>
  obtain⟨dx,ρ1⟩:=p;cases h2:V ρ1 with
  |none=>simp[h1,h2]at e
  |some p=>
   obtain⟨es,ρ2⟩:=p;cases J:aC dx with
   |false=>simp[h1,h2,J]at e
   |true=>
    obtain⟨rfl,rfl⟩:dx::es=ds/\ρ2=I:=by simpa[h1,h2,J]using e
    refine Y ρ dx ρ1 h1 σ H S Fr s _ λx H1 L S1 F rx nx f1=>?_;refine O ρ1 es _ h2 σ H1 S1 (plus L Fr) F _ λys H2 M S2 s2 ry B N=>?_;have U:=rx.mono (N.evo F) (.inr (N.evoN F)) (.inl J) λc Z u hu=>N.keepsF F (.inl Z) u hu;rw[pZ]at s2 ry U;refine q (x::ys) H2 (L++M) S2 s2 (.cons U ry) (dX nx B λa h1 h2=>?_) (f1.trans N);rcases N.fm a h2 with z|z
    .exact F.notO (.inl h1) z
    .obtain⟨o,ho,_⟩:=rx.dom a h1
     rw[z]at ho;cases ho
def mO(g:List D->Option D)(f:En->Option (List D×En)):En->Option (D×En):=λρ=>(f ρ).bind λp=>(g p.1).map λd=>(d,p.2)
variable{f:En->Option (List D×En)}
theorem Eg(N:CaV G r g)(h:An G ob t f):lE G ob (λσ H Q=>t σ H λvs H1=>r vs H1 Q) (mO g f):=λρ d I e σ H S Fr s Q q=>by
 unfold mO at e;cases h1:f ρ with
 |none=>simp[h1]at e
 |some p=>
  obtain⟨ds,ρ1⟩:=p;cases B:g ds with
  |none=>simp[h1,B]at e
  |some d'=>
   obtain⟨rfl,rfl⟩:d'=d/\ρ1=I:=by simpa[h1,B]using e
   refine h ρ ds _ h1 σ H S Fr s _ λxs H' L S' s' rx nd U=>?_;refine N ds _ B xs H' _ L rx nd (λa Y=>s'.tmp (.inl Y)) s'.wok Q λv H3 J Z r3 z F=>?_;obtain⟨q1,q2,O⟩:=R7 s' U Z r3 z s;exact q v H3 J S' q1 q2 F O
theorem o4{op:ad6}{g:D->D->Option D}(o:OpB X G (aaP op) g)(Y:PVe X G ob a fa)(U:PVe X G ob b fb):PVe X G ob (.BinOp a op b pos) (ee2 g fa fb):=let⟨r,o1,o2⟩:=o.ex;let⟨t,a1,a2⟩:=Y.ex;let⟨u,b1,b2⟩:=U.ex;⟨_,λc=>Su (o1 c) (a1 c) (b1 c),DP o2 a2 b2⟩
theorem wY{g:D->D->Option D}(o:IxB X G g)(Y:PVe X G ob a fa)(U:PVe X G ob b fb)(B:vg b:=by exact λ_ _=>rfl):PVe X G ob (.Subscript a b pos) (ee2 g fa fb):=let⟨r,o1,o2⟩:=o.ex;let⟨t,a1,a2⟩:=Y.ex;let⟨u,b1,b2⟩:=U.ex;⟨_,λc=>KJ (o1 c) (a1 c) (b1 c) B,DP o2 a2 b2⟩
theorem lg{f:En->Option (D×En)}{I:En->Option (List D×En)}(Y:PVe X G ob e f)(O:Bq X G ob es I)(B:∀c,Zb (e::es) (X c).env=(false,eval e (X c).env)::Zb es (X c).env:=by intro _;rfl):Bq X G ob (e::es) (fO f I):=let⟨t,a1,a2⟩:=Y.ex;let⟨u,b1,b2⟩:=O.ex;⟨_,λc=>Aa (a1 c) (b1 c) (B c),JP a2 b2⟩
theorem Ec(o:CaB X G (.type T) g)(B:∀c,Gl (X c) x)(Z:∀c,(X c).mg x=none)(z:aa4 x=some (.type T))(Y:Bq X G ob (e::es) f)(hn:x≠"__name__":=by decide)(J:1.21=false:=by decide)(V:∀c,Zb (e::es) (X c).env=(false,eval e (X c).env)::Zb es (X c).env:=by intro _;rfl)(q:∀c,(aaA pos (Zb es (X c).env)).any (·.1)=false:=by intro _;rfl):PVe X G ob (.Call (.Name x p) (e::es) [] pos) (mO g f):=let⟨r,o1,o2⟩:=o.ex;let⟨t,a1,a2⟩:=Y.ex;⟨_,λc=>yd (o1 c) (B c) (Z c) z (a1 c) hn J (V c) (q c),Eg o2 a2⟩
theorem QH(h:Bq X G ob es f):PVe X G ob (.Tuple es k pos) (mO bL f):=let⟨t,a1,a2⟩:=h.ex;⟨_,λc=>J9 (a1 c),Eg Gu a2⟩
theorem O6(h:Bq X G ob es f):PVe X G ob (.List es pos) (mO dN f):=let⟨t,a1,a2⟩:=h.ex;⟨_,λc=>M9 (a1 c),Eg G7 a2⟩
def truth:D->Option Bool
 |.non=>some false
 |.bl b=>some b
 |.int i=>some (i !=0)
 |.str y=>if y.length<=YZ then some ((y.length:Int)!=0)else none
 |.lst _ ds=>some (!ds.isEmpty)
 |.tup ds=>some (!ds.isEmpty)
 |.dct m _ ds=>if m= .scr then none else some (!ds.isEmpty)
 |_=>none
theorem tV(r:aH G H W ds xs L):ds.isEmpty=xs.isEmpty:=by
 have:=r.length;cases ds<;>cases xs<;>simp_all
theorem Nv{k:Bool}(r:Rep G H W d v L)(h:truth d=some k):PX G.K v H k:=by
 cases d with
 |non=>rw[Rep]at r;obtain⟨rfl,_⟩:=r;cases h;rfl
 |bl b=>rw[Rep]at r;obtain⟨rfl,_⟩:=r;cases h;rfl
 |int i=>rw[Rep]at r;obtain⟨rfl,_⟩:=r;cases h;rfl
 |str y=>
  rw[Rep]at r;obtain⟨rfl,_⟩:=r;simp![truth]at h;split at h
  .cases h;exact⟨‹_›,rfl⟩
  .cases h
 |ty n=>cases h
 |tup ds=>
  rw[Rep]at r;obtain⟨a,xs,rfl,U,O⟩:=r;cases h;exact .inr (.inl ⟨xs,SqT.of U,by rw[tV O]⟩)
 |lst m ds=>
  rw[Rep]at r;obtain⟨a,xs,M,rfl,O,B⟩:=r;cases h;exact .inl ⟨xs,B.sq,by rw[tV O]⟩
 |dct m ks ds=>
  rw[Rep]at r;obtain⟨a,kvs,M,rfl,I,O,B⟩:=r;simp![truth]at h;split at h
  .cases h
  .cases h
   refine .inr (.inr ⟨kvs,B.at ‹_›,?_⟩);rw[tV O];cases kvs<;>rfl
 |ins m c fs ds=>cases h
section
variable{ι:Type}{X:ι->Cx}{G:Gc}{ob:Nat->Bool}{a b:Expr}{pos:Pos}
def jK(f:En->Option D):En->Option Bool:=λρ=>(f ρ).bind truth
theorem Uj{ta:TE}{f:En->Option D}(h:RfE G ob ta f):RfT G ob (λσ H Q=>ta σ H λx H'=>∃k,PX G.K x H' k/\Q k H') (jK f):=λρ k e σ H W V w Q q=>by
 unfold jK at e;cases h1:f ρ with
 |none=>simp[h1]at e
 |some d=>
  have e:truth d=some k:=by simpa[h1]using e
  exact h ρ d h1 σ H W V w _ λx H' L s r I nd=>⟨k,Nv r e,q H' s⟩
theorem lH{f:En->Option D}(h:PV X G ob a f)(V:∀c,∀q,aeD a (X c).env q=(do let v ←q;acH a.pos;aaY [v] (truthy v)):=by intro _;intro _;rfl)(F:∀c,(X c).K=G.K:=by intro _;rfl):PVT X G ob a (jK f):=let⟨t,a1,a2⟩:=h.ex;⟨_,λc=>(by have h:=KR (a1 c) (V c);rw[F c]at h;exact h),Uj a2⟩
def isB:D->Option Bool
 |.bl b=>some b
 |_=>none
def eB(f:En->Option D):En->Option Bool:=λρ=>(f ρ).bind isB
def eeB(f:En->Option (D×En)):En->Option (Bool×En):=λρ=>(f ρ).bind λp=>(isB p.1).map λb=>(b,p.2)
theorem rR{d:D}{k:Bool}(h:isB d=some k):d= .bl k:=by
 cases d<;>simp[isB]at h;rw[h]
theorem Yv{ta:TE}{f:En->Option D}(h:RfE G ob ta f):RfT G ob (KD ta) (eB f):=λρ k e σ H W V w Q q=>by
 unfold eB at e;cases h1:f ρ with
 |none=>simp[h1]at e
 |some d=>
  have e:isB d=some k:=by simpa[h1]using e
  have:=rR e;subst this;refine h ρ _ h1 σ H W V w _ λx H' L s r I nd=>⟨k,?_,q H' s⟩;rw[Rep]at r;exact r.1
theorem XX{ta:TE}{f:En->Option (D×En)}(h:lE G ob ta f):HB G ob (KD ta) (eeB f):=λρ k I e σ H S Fr s Q q=>by
 unfold eeB at e;cases h1:f ρ with
 |none=>simp[h1]at e
 |some p=>
  obtain⟨d,ρ1⟩:=p;cases h2:isB d with
  |none=>simp[h1,h2]at e
  |some Y=>
   obtain⟨rfl,rfl⟩:Y=k/\ρ1=I:=by simpa[h1,h2]using e
   have:=rR h2;subst this;refine h ρ _ _ h1 σ H S Fr s _ λx H' M S' s' r nd U=>⟨Y,?_,q H' S' (s'.lessF λa z=>.inr z) (U.same (Same.refl _) (by simp))⟩;rw[Rep]at r;exact r.1
theorem bG{fa fb:En->Option D}{op:CmpOp}{g:D->D->Option D}(o:OpB X G (aaa op) g)(Y:PV X G ob a fa)(U:PV X G ob b fb)(Z:acX op b=false:=by with_unfolding_all rfl):PVT X G ob (.Compare a [op] [b] pos) (eB (e2 g fa fb)):=let⟨r,o1,o2⟩:=o.ex;let⟨t,a1,a2⟩:=Y.ex;let⟨u,b1,b2⟩:=U.ex;⟨_,λc=>Gw (o1 c) (a1 c) (b1 c) Z,Yv (GJ o2 a2 b2)⟩
theorem wZ{fa fb:En->Option (D×En)}{op:CmpOp}{g:D->D->Option D}(o:OpB X G (aaa op) g)(Y:PVe X G ob a fa)(U:PVe X G ob b fb)(Z:acX op b=false:=by with_unfolding_all rfl):J5 X G ob (.Compare a [op] [b] pos) (eeB (ee2 g fa fb)):=let⟨r,o1,o2⟩:=o.ex;let⟨t,a1,a2⟩:=Y.ex;let⟨u,b1,b2⟩:=U.ex;⟨_,λc=>Gw (o1 c) (a1 c) (b1 c) Z,XX (DP o2 a2 b2)⟩
def qw(f g:En->Option Bool):En->Option Bool:=λρ=>(f ρ).bind λc=>if c then g ρ else some false
def eOr(f g:En->Option Bool):En->Option Bool:=λρ=>(f ρ).bind λc=>if c then some true else g ρ
def lZ(f:En->Option Bool):En->Option Bool:=λρ=>(f ρ).map λc=>!c
def nT(f g:En->Option (Bool×En)):En->Option (Bool×En):=λρ=>(f ρ).bind λp=>if p.1 then g p.2 else some (false,p.2)
theorem Vp{t u:TT}{f g:En->Option Bool}(h:RfT G ob t f)(h':RfT G ob u g):RfT G ob (Xx t u) (qw f g):=λρ k e σ H W V w Q q=>by
 unfold qw at e;cases h1:f ρ with
 |none=>simp[h1]at e
 |some c=>
  refine h ρ c h1 σ H W V w _ λH1 F=>?_;cases c with
  |false=>
   have:false=k:=by simpa[h1]using e
   subst this;exact wA (q H1 F)
  |true=>
   have e:g ρ=some k:=by simpa[h1]using e
   exact uc (h' ρ k e σ H1 W (V.up (Up.same F)) (λa Y=>let⟨o,z,m⟩:=w a Y;⟨o,F a o z,m⟩) Q λH2 O=>q H2 (F.trans O))
theorem Xb{t u:TT}{f g:En->Option Bool}(h:RfT G ob t f)(h':RfT G ob u g):RfT G ob (tOr t u) (eOr f g):=λρ k e σ H W V w Q q=>by
 unfold eOr at e;cases h1:f ρ with
 |none=>simp[h1]at e
 |some c=>
  refine h ρ c h1 σ H W V w _ λH1 F=>?_;cases c with
  |true=>
   have:true=k:=by simpa[h1]using e
   subst this;exact uc (q H1 F)
  |false=>
   have e:g ρ=some k:=by simpa[h1]using e
   exact wA (h' ρ k e σ H1 W (V.up (Up.same F)) (λa Y=>let⟨o,z,m⟩:=w a Y;⟨o,F a o z,m⟩) Q λH2 O=>q H2 (F.trans O))
theorem Tg{t:TT}{f:En->Option Bool}(h:RfT G ob t f):RfT G ob (Xp t) (lZ f):=λρ k e σ H W V w Q q=>by
 unfold lZ at e;cases h1:f ρ with
 |none=>simp[h1]at e
 |some c=>
  have:(!c)=k:=by simpa[h1]using e
  subst this;exact h ρ c h1 σ H W V w _ λH1 F=>q H1 F
variable{rest:List Expr}{fa fb:En->Option Bool}{ga gb:En->Option (Bool×En)}
theorem Rg(Y:PVT X G ob a fa)(U:PVW X G ob (.BoolOp .And (b::rest) pos) fb):PVW X G ob (.BoolOp .And (a::b::rest) pos) (qw fa fb):=let⟨t,a1,a2⟩:=Y.ex;let⟨u,b1,b2⟩:=U.ex;⟨_,λc=>Vx (a1 c) (b1 c),Vp a2 b2⟩
theorem Lz(Y:PVT X G ob a fa)(U:PVW X G ob (.BoolOp .Or (b::rest) pos) fb):PVW X G ob (.BoolOp .Or (a::b::rest) pos) (eOr fa fb):=let⟨t,a1,a2⟩:=Y.ex;let⟨u,b1,b2⟩:=U.ex;⟨_,λc=>X6 (a1 c) (b1 c),Xb a2 b2⟩
theorem JF(Y:PVT X G ob a fa):PVW X G ob (.BoolOp .And [a] pos) fa:=let⟨t,a1,a2⟩:=Y.ex;⟨_,λc=>O8 (a1 c),a2⟩
theorem FJ(Y:PVT X G ob a fa):PVW X G ob (.BoolOp .Or [a] pos) fa:=let⟨t,a1,a2⟩:=Y.ex;⟨_,λc=>Tz (a1 c),a2⟩
theorem Jy(h:PVW X G ob a fa):PVT X G ob a fa:=let⟨t,a1,a2⟩:=h.ex;⟨_,λc=>PW.pt (a1 c),a2⟩
theorem vf(Y:PVT X G ob a fa):PVT X G ob (.UnaryOp .Not a pos) (lZ fa):=let⟨t,a1,a2⟩:=Y.ex;⟨_,λc=>VF (a1 c),Tg a2⟩
def pF(f g:En->Option D):En->Option D:=λρ=>(f ρ).bind λx=>(isB x).bind λc=>if c then g ρ else some (.bl false)
def Jf(x:D):Option D:=(isB x).map λc=>.bl !c
def aR(c:En->Option Bool)(f g:En->Option D):En->Option D:=λρ=>(c ρ).bind λb=>if b then f ρ else g ρ
def aJ(c:En->Option (Bool×En))(f g:En->Option (D×En)):En->Option (D×En):=λρ=>(c ρ).bind λp=>if p.1 then f p.2 else g p.2
theorem WOk.up{H H':Hp}{W:Wn}(w:WOk H W)(s:Same H H'):WOk H' W:=λa Y=>let⟨o,z,m⟩:=w a Y;⟨o,s a o z,m⟩
theorem NP{G:Gc}{H:Hp}{W:Wn}{b:Bool}:Rep G H W (.bl b) (.bl b) []:=by rw[Rep];exact⟨rfl,rfl⟩
theorem QD{ta tb:TE}{f g:En->Option D}(h:RfE G ob ta f)(h':RfE G ob tb g):RfE G ob (Sh ta tb) (pF f g):=λρ d e σ H W V w Q q=>by
 unfold pF at e;cases h1:f ρ with
 |none=>simp[h1]at e
 |some x=>
  cases h2:isB x with
  |none=>simp[h1,h2]at e
  |some c=>
   have:=rR h2;subst this;refine h ρ _ h1 σ H W V w _ λv H1 L F r I nd=>?_;rw[Rep]at r;refine⟨c,r.1,?_⟩;cases c with
   |false=>
    have:D.bl false=d:=by simpa[h1,isB]using e
    subst this;exact wA (q _ H1 [] F NP (by simp) ZR)
   |true=>
    have e:g ρ=some d:=by simpa[h1,isB]using e
    exact uc (h' ρ d e σ H1 W (V.up (Up.same F)) (w.up F) Q λv H2 L O r I nd=>q v H2 L (F.trans O) r (λa Y=>F.none' (I a Y)) nd)
theorem Qu{ta:TE}{f:En->Option D}(h:RfE G ob ta f):RfE G ob (R9 ta) (e1 Jf f):=λρ d e σ H W V w Q q=>by
 unfold e1 at e;cases h1:f ρ with
 |none=>simp[h1]at e
 |some x=>
  cases h2:isB x with
  |none=>simp[h1,h2,Jf]at e
  |some c=>
   have:=rR h2;subst this;have:D.bl (!c)=d:=by simpa[h1,Jf,isB]using e
   subst this;refine h ρ _ h1 σ H W V w _ λv H1 L F r I nd=>?_;rw[Rep]at r;exact⟨c,r.1,q _ H1 [] F NP (by simp) ZR⟩
theorem Uu{t:TT}{ta tb:TE}{c:En->Option Bool}{f g:En->Option D}(Z:RfT G ob t c)(h:RfE G ob ta f)(h':RfE G ob tb g):RfE G ob (tIf t ta tb) (aR c f g):=λρ d e σ H W V w Q q=>by
 unfold aR at e;cases h1:c ρ with
 |none=>simp[h1]at e
 |some b=>
  refine Z ρ b h1 σ H W V w _ λH1 F=>?_;cases b with
  |true=>
   have e:f ρ=some d:=by simpa[h1]using e
   exact uc (h ρ d e σ H1 W (V.up (Up.same F)) (w.up F) Q λv H2 L O r I nd=>q v H2 L (F.trans O) r (λa Y=>F.none' (I a Y)) nd)
  |false=>
   have e:g ρ=some d:=by simpa[h1]using e
   exact wA (h' ρ d e σ H1 W (V.up (Up.same F)) (w.up F) Q λv H2 L O r I nd=>q v H2 L (F.trans O) r (λa Y=>F.none' (I a Y)) nd)
theorem Qs{t:TT}{ta tb:TE}{c:En->Option (Bool×En)}{f g:En->Option (D×En)}(Z:HB G ob t c)(h:lE G ob ta f)(h':lE G ob tb g):lE G ob (tIf t ta tb) (aJ c f g):=λρ d I e σ H S Fr s Q q=>by
 unfold aJ at e;cases h1:c ρ with
 |none=>simp[h1]at e
 |some p=>
  obtain⟨b,ρ1⟩:=p;refine Z ρ b ρ1 h1 σ H S Fr s _ λH1 S1 F z=>?_;cases b with
  |true=>
   have e:f ρ1=some (d,I):=by simpa[h1]using e
   exact uc (h ρ1 d I e σ H1 S1 Fr F Q λv H2 M S2 O r nd N=>q v H2 M S2 O r nd (z.trans N))
  |false=>
   have e:g ρ1=some (d,I):=by simpa[h1]using e
   exact wA (h' ρ1 d I e σ H1 S1 Fr F Q λv H2 M S2 O r nd N=>q v H2 M S2 O r nd (z.trans N))
section
variable{c:Expr}{fa fb:En->Option D}{fc:En->Option Bool}
theorem Mg(Y:PV X G ob a fa)(U:PV X G ob (.BoolOp .And (b::rest) pos) fb):PV X G ob (.BoolOp .And (a::b::rest) pos) (pF fa fb):=let⟨t,a1,a2⟩:=Y.ex;let⟨u,b1,b2⟩:=U.ex;⟨_,λc=>Us (a1 c) (b1 c),QD a2 b2⟩
theorem Ue{op}(Y:PV X G ob a fa):PV X G ob (.BoolOp op [a] pos) fa:=let⟨t,a1,a2⟩:=Y.ex;⟨_,λc=>V5 (a1 c),a2⟩
theorem V9(Y:PV X G ob a fa):PV X G ob (.UnaryOp .Not a pos) (e1 Jf fa):=let⟨t,a1,a2⟩:=Y.ex;⟨_,λc=>VD (a1 c),Qu a2⟩
theorem T8(Z:PVT X G ob c fc)(Y:PV X G ob a fa)(U:PV X G ob b fb):PV X G ob (.IfExp c a b pos) (aR fc fa fb):=let⟨v,c1,c2⟩:=Z.ex;let⟨t,a1,a2⟩:=Y.ex;let⟨u,b1,b2⟩:=U.ex;⟨_,λc=>Bl (c1 c) (a1 c) (b1 c),Uu c2 a2 b2⟩
theorem OD{fa fb:En->Option (D×En)}{fc:En->Option (Bool×En)}(Z:J5 X G ob c fc)(Y:PVe X G ob a fa)(U:PVe X G ob b fb):PVe X G ob (.IfExp c a b pos) (aJ fc fa fb):=let⟨v,c1,c2⟩:=Z.ex;let⟨t,a1,a2⟩:=Y.ex;let⟨u,b1,b2⟩:=U.ex;⟨_,λc=>Bl (c1 c) (a1 c) (b1 c),Qs c2 a2 b2⟩
end
end
section
variable{G:Gc}{ob P:Nat->Bool}{H H1 H2:Hp}{S S1 S2:Ad}{L M:List Addr}{ρ ρ1:En}{σ:L2.St}{Fr:Addr->Prop}
def gW(S:Ad)(i:Nat)(M:List Addr):Ad:=λj=>if j=i then M else S j
theorem cR{i:Nat}:gW S i M i=M:=Zd rfl
theorem cI{i j:Nat}(h:j≠i):gW S i M j=S j:=Zk h
theorem d8{i j:Nat}{a:Addr}(h:a∈gW S i M j):(j=i/\a∈M)∨(j≠i/\a∈S j):=by
 by_cases e:j=i
 .rw[e,cR]at h;exact .inl ⟨e,h⟩
 .rw[cI e]at h;exact .inr ⟨e,h⟩
theorem Mv.refl:Mv P H H σ σ S S M:=⟨λ_ _ h _ _=>h,λi a z=>.inl ⟨i,z⟩,.refl⟩
theorem Sta.store{i:Nat}{d:D}{v:V}(s:Sta G H ob ρ σ S (plus M Fr))(r:Rep G H (wn ob S (plus M Fr)) d v M)(Z:clean d=true)(nd:M.Nodup)(N:∀a∈M,¬Fr a) :
  ∃S',Sta G H ob (ρ.set i (some d)) (σ.set i (some v)) S' Fr/\∀j a,a∈S' j->inS S a∨a∈M:=by
 by_cases hi:i<ρ.length
 .refine⟨gW S i M,⟨by simp[s.len],λj e I=>?_,λj F=>?_,λj=>?_,λj k a h1 h2=>?_,λj a h1 h2=>?_,λa h=>s.fdm a (.inr h)⟩,λj a h=>?_⟩
  .have ev:Evo H H (wn ob S (plus M Fr)) (wn ob (gW S i M) Fr):=⟨λb u h f=>⟨h,⟨λz=>f.1 (.inr z),λ⟨k,h1,h2⟩=>?_,λ⟨k,h1,h2⟩=>?_⟩⟩,λ_ _ h=>h⟩
   .by_cases e:j=i
    .subst e
     have:d=e:=by simpa[hi]using I
     have:d=e:=this;subst this;have Y:j<σ.length:=by rw[←s.len];exact hi
     refine⟨v,by simp[Y],?_,Z⟩;rw[cR];have q:aD d=true/\aC d=true:=by simpa[clean]using Z
     exact r.mono ev (.inl q.1) (.inl q.2) λ_ _ _ h=>h
    .rw[List.getElem?_set_ne (ZV e)]at I
     obtain⟨U,h1,h2,B⟩:=s.sl j _ I;refine⟨U,by rw[List.getElem?_set_ne (ZV e)];exact h1,?_,B⟩;rw[cI e];have q:=(by simpa[clean]using B:aD _=true/\aC _=true);exact h2.mono ev (.inl q.1) (.inl q.2) λ_ _ _ h=>h
   .rcases d8 h2 with⟨_,z⟩|⟨_,z⟩
    .exact f.1 (.inl z)
    .exact f.2.1 ⟨k,h1,z⟩
   .rcases d8 h2 with⟨_,z⟩|⟨_,z⟩
    .exact f.1 (.inl z)
    .exact f.2.2 ⟨k,h1,z⟩
  .by_cases e:j=i
   .subst e
    exact absurd (by simp[hi]) (F d)
   .rw[cI e]
    exact s.em j λd'=>by have:=F d';rwa[List.getElem?_set_ne (ZV e)]at this
  .by_cases e:j=i
   .rw[e,cR];exact nd
   .rw[cI e];exact s.nd j
  .rcases d8 h1 with⟨e1,z1⟩|⟨e1,z1⟩<;>rcases d8 h2 with⟨e2,J⟩|⟨e2,J⟩
   .rw[e1,e2]
   .exact absurd J (s.fdj k a (.inl z1))
   .exact absurd z1 (s.fdj j a (.inl J))
   .exact s.dj j k a z1 J
  .rcases d8 h2 with⟨_,z⟩|⟨_,z⟩
   .exact N a z h1
   .exact s.fdj j a (.inr h1) z
  .rcases d8 h with⟨_,z⟩|⟨_,z⟩
   .exact .inr z
   .exact .inl ⟨j,z⟩
 .have h1:ρ.set i (some d)=ρ:=aec 1.11
  have h2:σ.set i (some v)=σ:=aec (by rw[←s.len];omega);rw[h1,h2];exact⟨S,s.lessF λa z=>.inr z,λj a h=>.inl ⟨j,h⟩⟩
end
section
variable{ι:Type}{X:ι->Cx}{G:Gc}{ob P:Nat->Bool}
def dO:En->Option Fl:=λρ=>some (.nx ρ)
def bf(f g:En->Option Fl):En->Option Fl:=λρ=>match f ρ with
 |some (.nx ρ')=>g ρ'
 |r=>r
theorem Aft.from{G:Gc}{H H1:Hp}{σ J:L2.St}{S S1:Ad}{Fr:Addr->Prop}{E:Ends}(m:Mv P H H1 σ J S S1 []):∀{r:Fl},Aft G ob P H σ S Fr E r->Aft G ob P H1 J S1 Fr E r
 |.nx ρ',h=>λB H' S' s I=>h B H' S' s (m.trans I)
 |.brk ρ',h=>λB H' S' s I=>h B H' S' s (m.trans I)
 |.cnt ρ',h=>λB H' S' s I=>h B H' S' s (m.trans I)
 |.ret d ρ',h=>λv B H' M S' s r c n f I=>h v B H' M S' s r c n (λa Y=>by
  rcases f a Y with⟨i,z⟩|z
  .exact(m.gr i a z).elim .inl λz=>z.elim (λz=>by cases z) .inr
  .by_cases q:inS S a
   .exact .inl q
   .refine .inr ?_
    cases e:H a with
    |none=>rfl
    |some u=>rw[m.kp a u e q (by simp)]at z;cases z) (m.trans I)
theorem Rj:RfS G ob P S8 dO:=λρ r e σ H S Fr s E h=>by
 cases e;exact h σ H S s .refl
theorem PP{t u:TS}{f g:En->Option Fl}(h1:RfS G ob P t f)(h2:RfS G ob P u g):RfS G ob P (X_ t u) (bf f g):=λρ r e σ H S Fr s E h=>by
 unfold bf at e;cases q:f ρ with
 |none=>rw[q]at e;cases e
 |some fl=>
  rw[q]at e;refine h1 ρ fl q σ H S Fr s _ ?_;cases fl with
  |nx I=>exact λB H' S' s' m=>h2 I r e B H' S' Fr s' E (h.from m)
  |brk I=>cases e;exact h
  |cnt I=>cases e;exact h
  |ret d I=>cases e;exact h
theorem bT:uP X G ob P [] dO:=⟨_,λc=>RN,Rj⟩
theorem au{st:Stmt}{rest:List Stmt}{f g:En->Option Fl}(h1:PVS X G ob P st f)(h2:uP X G ob P rest g):uP X G ob P (st::rest) (bf f g):=let⟨t,a1,a2⟩:=h1.ex;let⟨u,b1,b2⟩:=h2.ex;⟨_,λc=>J8 (a1 c) (b1 c),PP a2 b2⟩
theorem aL{st:Stmt}{f:En->Option Fl}(h1:PVS X G ob P st f):uP X G ob P [st] f:=let⟨t,a1,a2⟩:=h1.ex;⟨_,λc=>Q4 (a1 c),a2⟩
def oV:En->Option Fl:=λ_=>none
theorem jM{st:Stmt}:PVS X G ob P st oV:=⟨_,λc=>Oa,λρ r e=>by cases e⟩
def tgN(i:Nat):D->En->Option En:=λd ρ=>if clean d then some (ρ.set i (some d))else none
theorem iM{i:Nat}(B:P i=false):RfG G ob P (w6 i) (tgN i):=λd ρ I e v σ H S M Fr s r nd Z Q q=>by
 unfold tgN at e;split at e
 .rename_i hc
  cases e;obtain⟨S',s',h⟩:=s.store r hc nd Z (i:=i);refine q _ H S' s' ⟨λb u h _ _=>h,λj a z=>(h j a z).imp id .inl,λj F=>?_⟩;have:j≠i:=λz=>by rw[z,B]at F;cases F
  rw[List.getElem?_set_ne (ZV this)]
 .cases e
def cC:List D->En->Option En:=λds ρ=>match ds with
 |[]=>some ρ
 |_=>none
def aQ(f:D->En->Option En)(g:List D->En->Option En):List D->En->Option En:=λds ρ=>match ds with
 |d::r=>(f d ρ).bind λρ1=>g r ρ1
 |[]=>none
def tgT(n:Nat)(g:List D->En->Option En):D->En->Option En:=λd ρ=>match d with
 |.tup ds=>if ds.length=n/\aB ds=true/\az ds=true then g ds ρ else none
 |_=>none
theorem K3:YG G ob P O3 cC:=λds ρ I e vs σ H S M Fr s r nd Z Q q=>by
 cases ds with
 |nil=>
  cases e;obtain⟨rfl,rfl⟩:=r.inv0;exact⟨rfl,q σ H S (s.lessF λa z=>.inr z) .refl⟩
 |cons d r=>cases e
def Nz(G:Gc)(ob P:Nat->Bool)(g:TGs)(f:List D->En->Option En):Prop:=∀(ds:List D)(ρ I:En),az ds=true->aB ds=true->f ds ρ=some I->∀(vs:List V)(σ:L2.St)(H:Hp)(S:Ad)(M:List Addr)(Fr:Addr->Prop),Sta G H ob ρ σ S (plus M Fr)->aH G H (wn ob S (plus M Fr)) ds vs M->M.Nodup->(∀a∈M,¬Fr a)->
 ∀Q:L2.St->Hp->Prop,(∀B H' S',Sta G H' ob I B S' Fr->Mv P H H' σ B S S' M->Q B H')->g vs σ H Q
theorem vN:Nz G ob P O3 cC:=λds ρ I _ _ e=>K3 ds ρ I e
theorem lr{t:TG}{u:TGs}{f:D->En->Option En}{g:List D->En->Option En}(h1:RfG G ob P t f)(h2:Nz G ob P u g):Nz G ob P (JL t u) (aQ f g):=λds ρ I c1 V e vs σ H S M Fr s r nd hF Q q=>by
 cases ds with
 |nil=>cases e
 |cons d ds=>
  obtain⟨x,ys,M1,M2,rfl,rfl,J,O⟩:=r.inv;simp![az,aB,ZQ]at c1 V;simp![aQ]at e;cases B:f d ρ with
  |none=>rw[B]at e;cases e
  |some ρ1=>
   have e:g ds ρ1=some I:=by simpa[B]using e
   have a0:=Zi.mp nd;have a1:plus (M1++M2) Fr=plus M1 (plus M2 Fr):=by
    funext a;simp![plus,YL,or_assoc]
   rw[a1]at s J O;refine⟨x,ys,rfl,h1 d ρ ρ1 B x σ H S M1 (plus M2 Fr) s J a0.1 (λa Y z=>?_) _ λa2 H1 S1 F m1=>?_⟩
   .rcases z with z|z
    .exact a0.2.2 a Y a z rfl
    .exact hF a (YW _ Y) z
   .have ev:Evo H H1 (wn ob S (plus M1 (plus M2 Fr))) (wn ob S1 (plus M2 Fr)):=⟨λb u U f=>?_,λb xs h=>?_⟩
    .have hr1:aH G H1 (wn ob S1 (plus M2 Fr)) ds ys M2:=O.mono ev (.inl c1.2) (.inl V.2) λc Z u hu=>m1.kp c u hu (λ⟨i,z⟩=>s.fdj i c (.inr (.inl Z)) z) λz=>a0.2.2 c z c Z rfl
     refine h2 ds ρ1 I c1.2 V.2 e ys a2 H1 S1 M2 Fr F hr1 a0.2.1 (λa Y=>hF a (YJ _ Y)) Q λσ2 H2 S2 s2 m2=>q σ2 H2 S2 s2 ⟨λb u U n1 n2=>?_,λi a z=>?_,m1.pr.trans m2.pr⟩
     .have n3:b∉M1:=λz=>n2 (YW _ z)
      exact m2.kp b u (m1.kp b u U n1 n3) (λ⟨i,z⟩=>(m1.gr i b z).elim n1 λz=>z.elim n3 λz=>by rw[U]at z;cases z) λz=>n2 (YJ _ z)
     .rcases m2.gr i a z with⟨j,z⟩|z|z
      .exact(m1.gr j a z).imp id λz=>z.imp (YW _) id
      .exact .inr (.inl (YJ _ z))
      .by_cases q1:inS S a
       .exact .inl q1
       .by_cases q2:a∈M1
        .exact .inr (.inl (YW _ q2))
        .refine .inr (.inr ?_)
         cases e:H a with
         |none=>rfl
         |some u=>rw[m1.kp a u e q1 q2]at z;cases z
    .have n1:¬inS S b:=λ⟨i,z⟩=>by
      cases N:ob i with
      |false=>exact f.2.1 ⟨i,N,z⟩
      |true=>exact f.2.2 ⟨i,N,z⟩
     have n2:b∉M1:=λz=>f.1 (.inl z);refine⟨m1.kp b u U n1 n2,λz=>f.1 (.inr z),λ⟨i,_,z⟩=>?_,λ⟨i,_,z⟩=>?_⟩
     .exact(m1.gr i b z).elim n1 λz=>z.elim n2 λz=>by rw[U]at z;cases z
     .exact(m1.gr i b z).elim n1 λz=>z.elim n2 λz=>by rw[U]at z;cases z
    .have no:∀u,H b=some u->muO u=false->H1 b=some u:=λu hu m=>m1.kp b u hu (λ⟨i,z⟩=>by
       obtain⟨o,N,hm⟩:=s.mu z;rw[hu]at N;cases N;rw[m]at hm;cases hm) λz=>by
       obtain⟨o,N,hm⟩:=J.dom b z;rw[hu]at N;cases N;rw[m]at hm;cases hm
     exact no _ h rfl
theorem Ri{n:Nat}{t:TGs}{g:List D->En->Option En}(h:Nz G ob P t g):RfG G ob P (Ur G.K n t) (tgT n g):=λd ρ I e v σ H S M Fr s r nd Z Q q=>by
 cases d with
 |tup ds=>
  simp![tgT]at e;split at e
  .rename_i hl
   rw[Rep]at r;obtain⟨a,xs,rfl,U,O⟩:=r;exact⟨a,xs,rfl,SqT.of U,by rw[←O.length];exact hl.1,h ds ρ I hl.2.2 hl.2.1 e xs σ H S M Fr s O nd Z Q q⟩
  .cases e
 |_=>cases e
structure Ow{ι:Type}(X:ι->Cx)(G:Gc)(ob P:Nat->Bool)(tg:List Expr)(f:List D->En->Option En):Prop where
 mk::(ex:∃t,(∀c,PGs (X c) tg t)/\Nz G ob P t f)
theorem cD(i:Nat){x:Str}{pos:Pos}(q:∀c,(X c).N.Nodup)(z:P i=false:=by rfl)(hi:∀c,(X c).N[i]? =some x:=by intro _;rfl)(J:∀c,Loc (X c).env.scope x:=by intro _;first|exact aba rfl|exact aaL rfl)(V:∀c,(X c).fn x=true∨(X c).env.scope.names.lookup x=some .local:=by intro _;first|exact .inl rfl|exact .inr rfl):PVG X G ob P (.Name x pos) (tgN i):=⟨_,λc=>zX (q c) (hi c) (J c) (V c),iM z⟩
theorem j7:Ow X G ob P [] cC:=⟨_,λc=>GQ,vN⟩
theorem b_{e:Expr}{es:List Expr}{f:D->En->Option En}{g:List D->En->Option En}(h1:PVG X G ob P e f)(h2:Ow X G ob P es g)(B:∀c,(aaD (e::es) (X c).env).map (·.2)=acy e (X c).env::(aaD es (X c).env).map (·.2):=by intro _;rfl):Ow X G ob P (e::es) (aQ f g):=let⟨t,a1,a2⟩:=h1.ex;let⟨u,b1,b2⟩:=h2.ex;⟨_,λc=>Aq (a1 c) (b1 c) (B c),lr a2 b2⟩
theorem lY{es:List Expr}{k n:Nat}{pos:Pos}{g:List D->En->Option En}(Z:∀c,(X c).calm=true)(h:Ow X G ob P es g)(hn:∀c,(aaD es (X c).env).length=n:=by intro _;rfl)(z:∀c,(aaD es (X c).env).findIdx? (·.1)=none:=by intro _;rfl)(F:∀c,(X c).K=G.K:=by intro _;rfl):PVG X G ob P (.Tuple es k pos) (tgT n g):=let⟨t,a1,a2⟩:=h.ex;⟨_,λc=>(by rw[←F c];exact Ku (Z c) (a1 c) (hn c) (z c)),Ri a2⟩
def cN(f:En->Option D)(g:D->En->Option En):En->Option Fl:=λρ=>(f ρ).bind λd=>(g d ρ).map .nx
def b7(f:En->Option (D×En))(g:D->En->Option En):En->Option Fl:=λρ=>(f ρ).bind λp=>(g p.1 p.2).map .nx
theorem sG{Fr:Addr->Prop}:plus [] Fr=Fr:=by funext a;simp[plus]
theorem lB{te:TE}{t:TG}{f:En->Option (D×En)}{g:D->En->Option En}(h:lE G ob te f)(V:RfG G ob P t g):RfS G ob P (KQ te t) (b7 f g):=λρ r e σ H S Fr s E q=>by
 unfold b7 at e;cases h1:f ρ with
 |none=>simp[h1]at e
 |some p=>
  obtain⟨d,ρ1⟩:=p;cases h2:g d ρ1 with
  |none=>simp[h1,h2]at e
  |some ρ2=>
   have:Fl.nx ρ2=r:=by simpa[h1,h2]using e
   subst this;refine h ρ d ρ1 h1 σ H S Fr s _ λv H1 M S1 F J nd O=>?_;have Z:∀a∈M,¬Fr a:=λa Y z=>by
    rcases O.fm a Y with q|q
    .exact s.notO z q
    .obtain⟨o,N,_⟩:=s.fdm a z
     rw[q]at N;cases N
   refine V d ρ1 ρ2 h2 v σ H1 S1 M Fr F J nd Z _ λB H' S' s' m=>q B H' S' s' ⟨λb u U I n2=>?_,λi a z=>?_,m.pr⟩
   .have hno:¬inO ob S b:=λ⟨i,_,z⟩=>I ⟨i,z⟩
    refine m.kp b u (O.kp b u U hno) (λ⟨i,z⟩=>?_) λz=>(O.fm b z).elim hno λz=>by rw[U]at z;cases z
    cases N:ob i with
    |false=>rw[O.sn i N]at z;exact I ⟨i,z⟩
    |true=>exact(O.gr i b N z).elim hno λz=>by rw[U]at z;cases z
   .rcases m.gr i a z with⟨j,z⟩|z|z
    .cases N:ob j with
     |false=>rw[O.sn j N]at z;exact .inl ⟨j,z⟩
     |true=>exact(O.gr j a N z).imp (λ⟨k,_,z⟩=>⟨k,z⟩) .inr
    .exact(O.fm a z).imp (λ⟨k,_,z⟩=>⟨k,z⟩) .inr
    .exact(O.back z).imp (λ⟨k,_,z⟩=>⟨k,z⟩) .inr
theorem zm{f:En->Option D}{g:D->En->Option En}:b7 (eUp f) g=cN f g:=by
 funext ρ;unfold b7 cN eUp;cases f ρ<;>rfl
section
variable{tg e:Expr}{pos:Pos}{g:D->En->Option En}
theorem kJ{f:En->Option D}(V:PV X G ob e f)(z:PVG X G ob P tg g)(B:∀c,abp [tg] e pos.line (X c).env=pure false:=by intro _;rfl)(q:∀c,ab3 [tg] e (X c).env=pure none:=by intro _;rfl)(h1:∀c,(aaD [tg] (X c).env).map (·.2)=[acy tg (X c).env]:=by intro _;rfl):PVS X G ob P (.Assign [tg] e pos) (cN f g):=let⟨t,a1,a2⟩:=V.ex;let⟨u,b1,b2⟩:=z.ex;⟨_,λc=>N7 (a1 c) (b1 c) (B c) (q c) (h1 c),by rw[←zm];exact lB (yf a2) b2⟩
theorem Le{f:En->Option (D×En)}(V:PVe X G ob e f)(z:PVG X G ob P tg g)(B:∀c,abp [tg] e pos.line (X c).env=pure false:=by intro _;rfl)(q:∀c,ab3 [tg] e (X c).env=pure none:=by intro _;rfl)(h1:∀c,(aaD [tg] (X c).env).map (·.2)=[acy tg (X c).env]:=by intro _;rfl):PVS X G ob P (.Assign [tg] e pos) (b7 f g):=let⟨t,a1,a2⟩:=V.ex;let⟨u,b1,b2⟩:=z.ex;⟨_,λc=>N7 (a1 c) (b1 c) (B c) (q c) (h1 c),lB a2 b2⟩
theorem cJ(i:Nat){x:Str}{pos':Pos}{f:En->Option D}(q:∀c,(X c).N.Nodup)(V:PV X G ob e f)(F:P i=false:=by rfl)(hi:∀c,(X c).N[i]? =some x:=by intro _;rfl)(J:∀c,Loc (X c).env.scope x:=by intro _;first|exact aba rfl|exact aaL rfl)(B:∀c,abz e (some (.Name x pos')) pos.line (X c).env=pure false:=by intro _;rfl)(z:∀c,(X c).fn x=true∨(X c).env.scope.names.lookup x=some .local:=by intro _;first|exact .inl rfl|exact .inr rfl):PVS X G ob P (.Assign [.Name x pos'] e pos) (cN f (tgN i)):=let⟨t,a1,a2⟩:=V.ex;⟨_,λc=>Nf (q c) (hi c) (J c) (a1 c) (B c) (z c),by rw[←zm];exact lB (yf a2) (iM F)⟩
theorem dg(i:Nat){x:Str}{pos':Pos}{f:En->Option (D×En)}(q:∀c,(X c).N.Nodup)(V:PVe X G ob e f)(F:P i=false:=by rfl)(hi:∀c,(X c).N[i]? =some x:=by intro _;rfl)(J:∀c,Loc (X c).env.scope x:=by intro _;first|exact aba rfl|exact aaL rfl)(B:∀c,abz e (some (.Name x pos')) pos.line (X c).env=pure false:=by intro _;rfl)(z:∀c,(X c).fn x=true∨(X c).env.scope.names.lookup x=some .local:=by intro _;first|exact .inl rfl|exact .inr rfl):PVS X G ob P (.Assign [.Name x pos'] e pos) (b7 f (tgN i)):=let⟨t,a1,a2⟩:=V.ex;⟨_,λc=>Nf (q c) (hi c) (J c) (a1 c) (B c) (z c),lB a2 (iM F)⟩
end
def gk(f:En->Option (List D×En))(g:List D->En->Option En):En->Option Fl:=λρ=>(f ρ).bind λp=>if az p.1/\aB p.1 then(g p.1 p.2).map .nx else none
def aG(f:En->Option (List D))(g:List D->En->Option En):En->Option Fl:=λρ=>(f ρ).bind λp=>if az p/\aB p then(g p ρ).map .nx else none
theorem PJ{f:En->Option (List D)}{g:List D->En->Option En}:gk (dM f) g=aG f g:=by
 funext ρ;unfold gk aG dM;cases f ρ<;>rfl
theorem JV{ta:TA}{i j:Nat}(hi:P i=false)(hj:P j=false){f:En->Option (List D×En)}(h:An G ob ta f):RfS G ob P (XD i j ta) (gk f (aQ (tgN i) (aQ (tgN j) cC))):=λρ r e σ H S Fr s E q=>by
 unfold gk at e;cases h1:f ρ with
 |none=>simp[h1]at e
 |some p=>
  obtain⟨ds,ρ1⟩:=p;by_cases Z:az ds/\aB ds
  .cases h2:(aQ (tgN i) (aQ (tgN j) cC)) ds ρ1 with
   |none=>simp[h1,h2,Z]at e
   |some ρ2=>
    have:Fl.nx ρ2=r:=by simpa[h1,h2,Z]using e
    subst this;refine h ρ ds ρ1 h1 σ H S Fr s _ λvs H1 M S1 F J nd O=>?_;have hF:∀a∈M,¬Fr a:=λa Y z=>by
     rcases O.fm a Y with q|q
     .exact s.notO z q
     .obtain⟨o,N,_⟩:=s.fdm a z
      rw[q]at N;cases N
    have V:=lr (iM (G:=G) (ob:=ob) hi) (lr (iM hj) vN) ds ρ1 ρ2 Z.1 Z.2 h2 vs σ H1 S1 M Fr F J nd hF (λB H'=>E.nx B H') λB H' S' s' m=>q B H' S' s' ⟨λb u U I n2=>?_,λi a z=>?_,m.pr⟩
    .obtain⟨v,rr,e1,v2,r2,e2,e3,k⟩:=V
     subst e3;exact⟨v,v2,by rw[e1,e2],k⟩
    .have hno:¬inO ob S b:=λ⟨i,_,z⟩=>I ⟨i,z⟩
     refine m.kp b u (O.kp b u U hno) (λ⟨i,z⟩=>?_) λz=>(O.fm b z).elim hno λz=>by rw[U]at z;cases z
     cases N:ob i with
     |false=>rw[O.sn i N]at z;exact I ⟨i,z⟩
     |true=>exact(O.gr i b N z).elim hno λz=>by rw[U]at z;cases z
    .rcases m.gr i a z with⟨j,z⟩|z|z
     .cases N:ob j with
      |false=>rw[O.sn j N]at z;exact .inl ⟨j,z⟩
      |true=>exact(O.gr j a N z).imp (λ⟨k,_,z⟩=>⟨k,z⟩) .inr
     .exact(O.fm a z).imp (λ⟨k,_,z⟩=>⟨k,z⟩) .inr
     .exact(O.back z).imp (λ⟨k,_,z⟩=>⟨k,z⟩) .inr
  .simp[h1,Z]at e
section
variable{x y:Str}{a b:Expr}{px py pt pos:Pos}{kt k2 pt2}
theorem zN(i j:Nat){f:En->Option (List D)}(Z:∀c,(X c).calm=true)(q:∀c,(X c).N.Nodup)(Y:PVA X G ob [a,b] f)(z:P i=false:=by rfl)(I:P j=false:=by rfl)(hi:∀c,(X c).N[i]? =some x:=by intro _;rfl)(F:∀c,(X c).N[j]? =some y:=by intro _;rfl)(O:i≠j:=by decide)(J:∀c,(X c).env.scope.names.lookup x=some .local:=by intro _;rfl)(U:∀c,(X c).env.scope.names.lookup y=some .local:=by intro _;rfl)(V:∀c,ab3 [.Tuple [.Name x px,.Name y py] kt pt] (.Tuple [a,b] k2 pt2) (X c).env=pure (some [x,y]):=by intro _;rfl)(B:∀c,abp [.Tuple [.Name x px,.Name y py] kt pt] (.Tuple [a,b] k2 pt2) pos.line (X c).env=pure false:=by intro _;rfl) :
 PVS X G ob P (.Assign [.Tuple [.Name x px,.Name y py] kt pt] (.Tuple [a,b] k2 pt2) pos) (aG f (aQ (tgN i) (aQ (tgN j) cC))):=let⟨t,a1,a2⟩:=Y.ex;⟨_,λc=>TJ (Z c) (q c) (hi c) (F c) O (J c) (U c) (a1 c) (V c) (B c),by rw[←PJ];exact JV z I (Ab a2)⟩
end
def sIf(c:En->Option Bool)(f g:En->Option Fl):En->Option Fl:=λρ=>(c ρ).bind λb=>if b then f ρ else g ρ
def mV(c:En->Option (Bool×En))(f g:En->Option Fl):En->Option Fl:=λρ=>(c ρ).bind λp=>if p.1 then f p.2 else g p.2
theorem Xw{c:En->Option Bool}{f g:En->Option Fl}:mV (kO c) f g=sIf c f g:=by
 funext ρ;unfold mV sIf kO;cases c ρ<;>rfl
theorem GF{tc:TT}{t u:TS}{c:En->Option (Bool×En)}{f g:En->Option Fl}(Z:HB G ob tc c)(h1:RfS G ob P t f)(h2:RfS G ob P u g):RfS G ob P (XR tc t u) (mV c f g):=λρ r e σ H S Fr s E q=>by
 unfold mV at e;cases B:c ρ with
 |none=>simp[B]at e
 |some p=>
  obtain⟨b,ρ1⟩:=p;refine Z ρ b ρ1 B σ H S Fr s _ λH1 S1 F O=>?_;have m:Mv P H H1 σ σ S S1 []:=O.mv;cases b with
  |true=>exact uc (h1 ρ1 r (by simpa[B]using e) σ H1 S1 Fr F E (q.from m))
  |false=>exact wA (h2 ρ1 r (by simpa[B]using e) σ H1 S1 Fr F E (q.from m))
theorem cO{c:Expr}{a b:List Stmt}{pos:Pos}{fc:En->Option Bool}{f g:En->Option Fl}(Z:PVT X G ob c fc)(Y:uP X G ob P a f)(U:uP X G ob P b g):PVS X G ob P (.If c a b pos) (sIf fc f g):=let⟨v,c1,c2⟩:=Z.ex;let⟨t,a1,a2⟩:=Y.ex;let⟨u,b1,b2⟩:=U.ex;⟨_,λc=>Sy (c1 c) (a1 c) (b1 c),by rw[←Xw];exact GF (Oc c2) a2 b2⟩
theorem yF{c:Expr}{a b:List Stmt}{pos:Pos}{fc:En->Option (Bool×En)}{f g:En->Option Fl}(Z:J5 X G ob c fc)(Y:uP X G ob P a f)(U:uP X G ob P b g):PVS X G ob P (.If c a b pos) (mV fc f g):=let⟨v,c1,c2⟩:=Z.ex;let⟨t,a1,a2⟩:=Y.ex;let⟨u,b1,b2⟩:=U.ex;⟨_,λc=>Sy (c1 c) (a1 c) (b1 c),GF c2 a2 b2⟩
def sEx(f:En->Option (D×En)):En->Option Fl:=λρ=>(f ρ).map λp=>.nx p.2
theorem Tj{te:TE}{f:En->Option (D×En)}(h:lE G ob te f):RfS G ob P (M_ te) (sEx f):=λρ r e σ H S Fr s E q=>by
 unfold sEx at e;cases h1:f ρ with
 |none=>simp[h1]at e
 |some p=>
  obtain⟨d,ρ1⟩:=p;have:Fl.nx ρ1=r:=by simpa[h1]using e
  subst this;exact h ρ d ρ1 h1 σ H S Fr s _ λv H1 M S1 F J nd O=>q σ H1 S1 (F.lessF λa z=>.inr z) O.mv
theorem mz{e:Expr}{pos:Pos}{f:En->Option (D×En)}(V:PVe X G ob e f)(B:∀c,abz e none pos.line (X c).env=pure false:=by intro _;rfl):PVS X G ob P (.Expr e pos) (sEx f):=let⟨t,a1,a2⟩:=V.ex;⟨_,λc=>FW (a1 c) (B c),Tj a2⟩
def iJ(f:En->Option (D×En)):En->Option Fl:=λρ=>(f ρ).bind λp=>if clean p.1 then some (.ret p.1 p.2)else none
def fP(f:En->Option D):En->Option Fl:=λρ=>(f ρ).bind λd=>if clean d then some (.ret d ρ)else none
theorem Te{f:En->Option D}:iJ (eUp f)=fP f:=by
 funext ρ;unfold iJ fP eUp;cases f ρ<;>rfl
theorem BV{te:TE}{f:En->Option (D×En)}(h:lE G ob te f):RfS G ob P (Ud te) (iJ f):=λρ r e σ H S Fr s E q=>by
 unfold iJ at e;cases h1:f ρ with
 |none=>simp[h1]at e
 |some p=>
  obtain⟨d,ρ1⟩:=p;cases Z:clean d with
  |false=>simp[h1,Z]at e
  |true=>
   have:Fl.ret d ρ1=r:=by simpa[h1,Z]using e
   subst this;exact h ρ d ρ1 h1 σ H S Fr s _ λv H1 M S1 F J nd O=>q v σ H1 M S1 F J Z nd (λa Y=>(O.fm a Y).imp (λ⟨i,_,z⟩=>⟨i,z⟩) id) O.mv
theorem cF{e:Expr}{pos:Pos}{f:En->Option D}(V:PV X G ob e f):PVS X G ob P (.Return (some e) pos) (fP f):=let⟨t,a1,a2⟩:=V.ex;⟨_,λc=>Dp (a1 c),by rw[←Te];exact BV (yf a2)⟩
theorem rE{e:Expr}{pos:Pos}{f:En->Option (D×En)}(V:PVe X G ob e f):PVS X G ob P (.Return (some e) pos) (iJ f):=let⟨t,a1,a2⟩:=V.ex;⟨_,λc=>Dp (a1 c),BV a2⟩
theorem Sta.move{G:Gc}{H:Hp}{ρ:En}{σ:L2.St}{S:Ad}{Fr:Addr->Prop}{i:Nat}{d:D}(s:Sta G H ob ρ σ S Fr)(e:ρ[i]? =some (some d)) :
  ∃v,σ[i]? =some (some v)/\clean d=true/\Sta G H ob (ρ.set i none) σ (gW S i []) (plus (S i) Fr)/\Rep G H (wn ob (gW S i []) (plus (S i) Fr)) d v (S i):=by
 obtain⟨v,h1,h2,B⟩:=s.sl i d e;have I:Evo H H (wn ob S Fr) (wn ob (gW S i []) (plus (S i) Fr)):=⟨λb u h f=>⟨h,⟨λz=>z.elim (λz=>?_) f.1,λ⟨k,q1,q2⟩=>?_,λ⟨k,q1,q2⟩=>?_⟩⟩,λ_ _ h=>h⟩
 .have q:=(by simpa[clean]using B:aD d=true/\aC d=true)
  refine⟨v,h1,B,⟨by simp[s.len],λj d' V=>?_,λj F=>?_,λj=>?_,λj k a q1 q2=>?_,λj a q1 q2=>?_,λa h=>?_⟩,h2.mono I (.inl q.1) (.inl q.2) λ_ _ _ h=>h⟩
  .by_cases e':j=i
   .subst e'
    rw[abO]at V;split at V
    .split at V
     .simp at V
     .cases V
    .exact absurd rfl ‹_›
   .rw[List.getElem?_set_ne (ZV e')]at V
    obtain⟨U,q1,q2,O⟩:=s.sl j _ V;refine⟨U,q1,?_,O⟩;rw[cI e'];have q:=(by simpa[clean]using O:aD d'=true/\aC d'=true);exact q2.mono I (.inl q.1) (.inl q.2) λ_ _ _ h=>h
  .by_cases e':j=i
   .rw[e',cR]
   .rw[cI e']
    exact s.em j λd'=>by have:=F d';rwa[List.getElem?_set_ne (ZV e')]at this
  .by_cases e':j=i
   .rw[e',cR];exact ZR
   .rw[cI e'];exact s.nd j
  .rcases d8 q1 with⟨_,z⟩|⟨_,z⟩
   .cases z
   .rcases d8 q2 with⟨_,z'⟩|⟨_,z'⟩
    .cases z'
    .exact s.dj j k a z z'
  .rcases d8 q2 with⟨_,z⟩|⟨n,z⟩
   .cases z
   .rcases q1 with q1|q1
    .exact n (s.dj j i a z q1)
    .exact s.fdj j a q1 z
  .rcases h with h|h
   .exact s.mu h
   .exact s.fdm a h
 .cases ho:ob i with
  |false=>exact f.2.1 ⟨i,ho,z⟩
  |true=>exact f.2.2 ⟨i,ho,z⟩
 .rcases d8 q2 with⟨_,z⟩|⟨_,z⟩
  .cases z
  .exact f.2.1 ⟨k,q1,z⟩
 .rcases d8 q2 with⟨_,z⟩|⟨_,z⟩
  .cases z
  .exact f.2.2 ⟨k,q1,z⟩
def fH(i:Nat):En->Option Fl:=λρ=>match ρ[i]? with
 |some (some d)=>some (.ret d (ρ.set i none))
 |_=>none
theorem Nb{i:Nat}:RfS G ob P (Ud (Il i)) (fH i):=λρ r e σ H S Fr s E q=>by
 unfold fH at e;split at e
 .rename_i d h1
  cases e;obtain⟨v,h2,B,U,J⟩:=s.move h1;exact⟨v,h2,q v σ H (S i) (gW S i []) U J B (s.nd i) (λa Y=>.inl ⟨i,Y⟩) ⟨λ_ _ h _ _=>h,λj a z=>(d8 z).elim (λz=>by cases z.2) λz=>.inl ⟨j,z.2⟩,.refl⟩⟩
 .cases e
theorem jm(i:Nat){x:Str}{pos pos':Pos}(q:∀c,(X c).N[i]? =some x:=by intro _;rfl)(z:∀c,Vis (X c).env.scope x:=by intro _;first|exact aba rfl|exact aaL (aba rfl)|exact aaL (aaL rfl))(hd:1.21=false:=by decide)(V:(x==("__classdict__":Str))=false:=by decide):PVS X G ob P (.Return (some (.Name x pos)) pos') (fH i):=⟨_,λc=>Dp (pv i (q c) (z c) hd V),Nb⟩
end
def mkO:Mk->Mk
 |.own=>.frz
 |m=>m
mutual
noncomputable def fzo:D->D
 |.tup ds=>.tup (g_ ds)
 |.lst m ds=>.lst (mkO m) (g_ ds)
 |.dct m ks ds=>.dct (mkO m) ks (g_ ds)
 |.ins m c fs ds=>.ins (mkO m) c fs (g_ ds)
 |d=>d
noncomputable def g_:List D->List D
 |[]=>[]
 |d::r=>fzo d::g_ r
end
theorem jV:∀ds:List D,g_ ds=ds.map fzo
 |[]=>rfl
 |d::r=>by rw[g_,jV r];rfl
variable{a:Addr}
theorem dY.fzo{D:Addr->HO->Prop}(B:Les H W W' L)(hn:∀a,W.s a->W'.s a)(h:dY D H W a o m L M):dY D H W' a o (mkO m) [] []:=by
 cases m with
 |own=>exact⟨h.1,B.l a (by rw[h.2];simp),rfl,rfl⟩
 |frz=>exact⟨h.1,B.f a h.2.1,rfl,rfl⟩
 |brw=>exact⟨h.1,hn a h.2.1,rfl,rfl⟩
 |bro=>exact⟨h.1,rfl,rfl⟩
 |scr=>exact⟨h.1.imp (λz=>⟨z.1,B.f a z.2⟩) id,rfl,rfl⟩
mutual
theorem Rep.fzo(hn:∀a,W.s a->W'.s a):∀{d:D}{v:V}{L:List Addr},Rep G H W d v L->Les H W W' L->Rep G H W' (fzo d) v []
 |.non,v,L,h,_=>by rw[Rep]at h;simp[Jb.fzo,Rep,h]
 |.bl _,v,L,h,_=>by rw[Rep]at h;simp[Jb.fzo,Rep,h]
 |.int _,v,L,h,_=>by rw[Rep]at h;simp[Jb.fzo,Rep,h]
 |.str _,v,L,h,_=>by rw[Rep]at h;simp[Jb.fzo,Rep,h]
 |.ty _,v,L,h,_=>by rw[Rep]at h;simp[Jb.fzo,Rep,h]
 |.tup ds,v,L,h,B=>by
  rw[Rep]at h;rw[Jb.fzo,Rep];obtain⟨a,xs,rfl,U,O⟩:=h;exact⟨a,xs,rfl,U,aH.fzo hn O B⟩
 |.lst m ds,v,L,h,he=>by
  rw[Rep]at h;rw[Jb.fzo,Rep];obtain⟨a,xs,M,rfl,O,B⟩:=h;exact⟨a,xs,[],rfl,aH.fzo hn O (he.sub λc Z=>B.sub.subset Z),B.fzo he hn⟩
 |.dct m ks ds,v,L,h,he=>by
  rw[Rep]at h;rw[Jb.fzo,Rep];obtain⟨a,xs,M,rfl,I,O,B⟩:=h;exact⟨a,xs,[],rfl,I,aH.fzo hn O (he.sub λc Z=>B.sub.subset Z),B.fzo he hn⟩
 |.ins m c' fs ds,v,L,h,he=>by
  rw[Rep]at h;rw[Jb.fzo,Rep];obtain⟨a,C,dx,xs,M,rfl,F,I,O,B⟩:=h;exact⟨a,C,dx,xs,[],rfl,F,I,aH.fzo hn O (he.sub λc Z=>B.sub.subset Z),B.fzo he hn⟩
theorem aH.fzo(hn:∀a,W.s a->W'.s a):∀{ds:List D}{vs:List V}{L:List Addr},aH G H W ds vs L->Les H W W' L->aH G H W' (g_ ds) vs []
 |[],vs,L,h,_=>by obtain⟨rfl,_⟩:=h.inv0;rw[g_];exact .nil
 |d::r,vs,L,h,he=>by
  obtain⟨x,ys,M,M',rfl,rfl,h1,h2⟩:=h.inv;rw[g_];exact .cons (M:=[]) (M':=[]) (Rep.fzo hn h1 (he.sub λc Z=>YW _ Z)) (aH.fzo hn h2 (he.sub λc Z=>YJ _ Z))
end
mutual
theorem IW:∀{d:D},aD d=true->aD (Jb.fzo d)=true
 |.non,_=>rfl|.bl _,_=>rfl|.int _,_=>rfl|.str _,_=>rfl|.ty _,_=>rfl
 |.tup ds,h=>by simp[aD]at h;simp[Jb.fzo,aD,iZ h]
 |.lst m ds,h=>by simp[aD]at h;cases m<;>simp[Jb.fzo,aD,iZ h.2,mkO]<;>simp at h
 |.dct m _ ds,h=>by simp[aD]at h;cases m<;>simp[Jb.fzo,aD,iZ h.2,mkO]<;>simp at h
 |.ins m _ _ ds,h=>by simp[aD]at h;cases m<;>simp[Jb.fzo,aD,iZ h.2,mkO]<;>simp at h
theorem iZ:∀{ds:List D},az ds=true->az (g_ ds)=true
 |[],_=>rfl
 |d::r,h=>by simp[az]at h;simp[g_,az,IW h.1,iZ h.2]
end
mutual
theorem Ht:∀{d:D},aC d=true->aC (Jb.fzo d)=true
 |.non,_=>rfl|.bl _,_=>rfl|.int _,_=>rfl|.str _,_=>rfl|.ty _,_=>rfl
 |.tup ds,h=>by simp[aC]at h;simp[Jb.fzo,aC,iY h]
 |.lst m ds,h=>by simp[aC]at h;cases m<;>simp[Jb.fzo,aC,iY h.2,mkO]<;>simp at h
 |.dct m _ ds,h=>by simp[aC]at h;cases m<;>simp[Jb.fzo,aC,iY h.2,mkO]<;>simp at h
 |.ins m _ _ ds,h=>by simp[aC]at h;cases m<;>simp[Jb.fzo,aC,iY h.2,mkO]<;>simp at h
theorem iY:∀{ds:List D},aB ds=true->aB (g_ ds)=true
 |[],_=>rfl
 |d::r,h=>by simp[aB]at h;simp[g_,aB,Ht h.1,iY h.2]
end
structure Wk(G:Gc)(J:It)(Lt:Hp->Wn->Prop)(items:List D):Prop where
 go:∀(i:Nat)(d:D),items[i]? =some d->∀H W,Lt H W->J.go i H
 yld:∀(i:Nat)(d:D),items[i]? =some d->∀H W,Lt H W->∀x H',J.yld i H x H'->Same H H'/\Rep G H' W d x []
 stop:∀H W,Lt H W->J.stop items.length H
def LtB(b:Bool)(H:Hp)(W:Wn):Hp->Wn->Prop:=λH2 N=>if b=true then Evo H H2 W N else Up H H2 W N
variable{b:Bool}
theorem LtB.up{N:Wn}(u:Up H H2 W N):LtB b H W H2 N:=by
 cases b with
 |true=>exact uc u.evo
 |false=>exact wA u
def RfI(G:Gc)(ob:Nat->Bool)(wi:TI)(f:En->Option (Bool×List D)):Prop:=∀(ρ:En)(b:Bool)(items:List D),f ρ=some (b,items)->∀(σ:L2.St)(H:Hp)(W:Wn),Rel G H W ob ρ σ->WOk H W->∀R:It->Hp->Prop,
 (∀J H',Same H H'->Wk G J (LtB b H' W) items->R J H')->wi σ H R
structure PVI{ι:Type}(X:ι->Cx)(G:Gc)(ob:Nat->Bool)(tg it:Expr)(f:En->Option (Bool×List D)):Prop where
 mk::(ex:∃t,(∀c,PI (X c) tg it t)/\RfI G ob t f)
def qi(lo:Int)(n:Nat):List D:=(Z_ n).map λ(k:Nat)=>D.int (lo+(k:Int))
def mR(f:En->Option (List D)):En->Option (Bool×List D):=λρ=>(f ρ).bind λds=>match ds with
 |[.int j]=>if -(2 ^ 62)<=j/\j<2 ^ 62 then some (true,qi 0 j.toNat)else none
 |_=>none
theorem U_{q:Hp->Wn->Prop}{lo:Int}:Wk G (Itr lo n) q (qi lo n)where
 go:=λi d e H W _=>by
  have:=(List.getElem?_eq_some_iff.mp e).1;show i<n;simpa[qi]using this
 yld:=λi d e H W _ x H' h=>by
  obtain⟨rfl,rfl⟩:=h;have:d= .int (lo+(i:Int)):=by
   unfold qi at e;rw[List.getElem?_map]at e;have hi:i<n:=by
    have:=(List.getElem?_eq_some_iff.mp (show(qi lo n)[i]? =some d by unfold qi;rw[List.getElem?_map];exact e)).1;simpa[qi]using this
   rw[afb hi]at e;simpa using e.symm
  subst this;exact⟨Same.refl _,by rw[Rep];exact⟨rfl,rfl⟩⟩
 stop:=λH W _=>by
  show n<=(qi lo n).length;simp[qi]
variable{f:En->Option (List D)}
theorem Uy(h:RfA G ob t f):RfI G ob (R_ t) (mR f):=λρ b items e σ H W V w R q=>by
 unfold mR at e;cases h1:f ρ with
 |none=>simp[h1]at e
 |some ds=>
  rw[h1]at e;simp![YK]at e;split at e
  .rename_i j
   split at e
   .rename_i hj
    cases e;refine h ρ _ h1 σ H W V w _ λvs H' L s r I nd=>?_;obtain⟨x,ys,M,M',rfl,_,J,U⟩:=r.inv;obtain⟨rfl,_⟩:=U.inv0;rw[Rep]at J;obtain⟨rfl,_⟩:=J;exact⟨j,rfl,hj.1,hj.2,q _ H' s U_⟩
   .cases e
  .cases e
def cL:D->Option (Bool×List D)
 |.lst m ds=>some (clean (.lst m ds),g_ ds)
 |.tup ds=>some (clean (.tup ds),g_ ds)
 |_=>none
def itS(f:En->Option D):En->Option (Bool×List D):=λρ=>(f ρ).bind cL
theorem I_{D:Addr->HO->Prop}{W1 N:Wn}(h:dY D H W1 a o m L M)(V:Les H W1 W L)(hn:W1.s a->W.s a)(U:b=true->m≠.brw/\m≠.bro)(l:LtB b H W H2 N):Rd H2 a o∨D a o:=by
 cases b with
 |false=>
  have u:Up H H2 W N:=(Zk aae).mp l;exact h.rx.imp (Same.rd u.s) id
 |true=>
  have e:Evo H H2 W N:=(Zd rfl).mp l;cases m with
  |own=>exact .inl (.inl (e.k a o h.1 (V.l a (by rw[h.2];simp))).1)
  |frz=>exact .inl (.inl (e.k a o h.1 (V.f a h.2.1)).1)
  |brw=>exact absurd rfl (U rfl).1
  |bro=>exact absurd rfl (U rfl).2
  |scr=>exact h.1.imp (λz=>(e.rd z.1 (V.f a z.2)).1) id
theorem Wq{K:YS}(h:Rd H a (.lst xs)∨KO K a (.lst xs)):SqL K H a xs:=by
 rcases h with z|⟨ys,e,z⟩
 .exact .inl z
 .cases e
  exact .inr z
theorem LtB.rep{N:Wn}(l:LtB b H W H2 N)(U:b=true->aD d=true/\aC d=true)(r:Rep G H W d v []):Rep G H2 N d v []:=by
 cases b with
 |false=>exact r.up ((Zk aae).mp l)
 |true=>exact r.mono ((Zd rfl).mp l) (.inl (U rfl).1) (.inl (U rfl).2) (by simp)
theorem LtB.tup{H H2:Hp}{W N:Wn}{b:Bool}{K:YS}{a:Addr}{xs:List V}(l:LtB b H W H2 N)(h:H a=some (.tup xs)):SqT K H2 a xs:=by
 cases b with
 |false=>exact SqT.of (((Zk aae).mp l).s a _ h)
 |true=>exact SqT.of (((Zd rfl).mp l).t a xs h)
theorem iV(h:az ds=true)(e:ds[i]? =some d):aD d=true:=by
 induction ds generalizing i with
 |nil=>simp at e
 |cons a r N=>
  simp![az,ZQ]at h;cases i with
  |zero=>
   have:a=d:=by simpa using e
   rw[←this];exact h.1
  |succ i=>exact N h.2 (by simpa using e)
theorem iW(h:aB ds=true)(e:ds[i]? =some d):aC d=true:=by
 induction ds generalizing i with
 |nil=>simp at e
 |cons a r N=>
  simp![aB,ZQ]at h;cases i with
  |zero=>
   have:a=d:=by simpa using e
   rw[←this];exact h.1
  |succ i=>exact N h.2 (by simpa using e)
structure Parts(G:Gc)(H:Hp)(W:Wn)(b:Bool)(es:List D)(xs:List V):Prop where
 r:aH G H W es xs []
 c:b=true->az es=true/\aB es=true
theorem Parts.at{G:Gc}{H H2:Hp}{W N:Wn}{b:Bool}{es:List D}{xs:List V}(p:Parts G H W b es xs)(l:LtB b H W H2 N){i:Nat}{d:D}{x:V}(e:es[i]? =some d)(J:xs[i]? =some x):Rep G H2 N d x []:=by
 obtain⟨y,M,h1,h2,B⟩:=p.r.get e;rw[J]at h1;cases h1;have:M=[]:=by simpa using B
 subst this;exact l.rep (λz=>⟨iV (p.c z).1 e,iW (p.c z).2 e⟩) h2
theorem GP{es:List D}(w:WOk H W)(s:Same H H')(r:Rep G H' (W.add L) d v L)(I:∀a∈L,H a=none)(e:cL d=some (b,es)) :
  ∃a xs,v= .ref a/\Parts G H' W b es xs/\((∀H2 N,LtB b H' W H2 N->SqL G.K H2 a xs)∨(∀H2 N,LtB b H' W H2 N->SqT G.K H2 a xs)):=by
 have free:∀a∈L,W.free a:=λa Y=>⟨λz=>?_,λz=>?_,λz=>?_⟩
 .have les:Les H' (W.add L) W L:=⟨λa f=>⟨λz=>f.1 (.inr z),f.2⟩,free⟩
  cases d with
  |lst m ds=>
   simp![cL,abm,af9]at e;obtain⟨rfl,rfl⟩:=e;rw[Rep]at r;obtain⟨a,xs,M,rfl,O,B⟩:=r;refine⟨a,xs,rfl,⟨aH.fzo (W:=W.add L) (W':=W) (λ_ z=>z) O (les.sub λc Z=>B.sub.subset Z),λz=>?_⟩,.inl λH2 N l=>Wq (I_ B les (λz=>z) (λz=>?_) l)⟩
   .simp[clean,aD,aC]at z
    exact⟨iZ z.1.2,iY z.2.2⟩
   .simp[clean,aD,aC]at z
    exact⟨z.1.1,z.2.1⟩
  |tup ds=>
   simp![cL,abm,af9]at e;obtain⟨rfl,rfl⟩:=e;rw[Rep]at r;obtain⟨a,xs,rfl,U,O⟩:=r;refine⟨a,xs,rfl,⟨aH.fzo (W:=W.add L) (W':=W) (λ_ z=>z) O les,λz=>?_⟩,.inr λH2 N l=>l.tup U⟩;simp[clean,aD,aC]at z;exact⟨iZ z.1,iY z.2⟩
  |_=>simp[cL]at e
 .obtain⟨o,ho,_⟩:=w a (.inl z);rw[I a Y]at ho;cases ho
 .obtain⟨o,ho,_⟩:=w a (.inr (.inl z));rw[I a Y]at ho;cases ho
 .obtain⟨o,ho,_⟩:=w a (.inr (.inr z));rw[I a Y]at ho;cases ho
theorem aH.getV(h:aH G H W ds xs L)(e:ds[i]? =some d):∃x,xs[i]? =some x:=let⟨x,_,h,_⟩:=h.get e;⟨x,h⟩
theorem Qf{f:En->Option D}(h:RfE G ob te f):RfI G ob (Xa G.K te) (itS f):=λρ b items e σ H W V w R q=>by
 unfold itS at e;cases h1:f ρ with
 |none=>simp[h1]at e
 |some d=>
  have e:cL d=some (b,items):=by simpa[h1]using e
  refine h ρ d h1 σ H W V w _ λv H' L s r I nd=>?_;obtain⟨a,xs,rfl,p,B⟩:=GP w s r I e;refine⟨a,rfl,?_⟩;rcases B with B|B
  .refine .inl ⟨⟨xs,B H' W (LtB.up Up.refl)⟩,q _ H' s ⟨λi d e H2 N l=>?_,λi d e H2 N l x Y y=>?_,λH2 N l=>?_⟩⟩
   .obtain⟨x,hx⟩:=p.r.getV e
    exact⟨xs,x,B H2 N l,hx⟩
   .obtain⟨rfl,y⟩:=y
    exact⟨Same.refl _,p.at l e (y xs (B _ N l))⟩
   .exact⟨xs,B H2 N l,by rw[p.r.length];exact YX _⟩
  .refine .inr ⟨⟨xs,B H' W (LtB.up Up.refl)⟩,q _ H' s ⟨λi d e H2 N l=>?_,λi d e H2 N l x Y y=>?_,λH2 N l=>?_⟩⟩
   .obtain⟨x,hx⟩:=p.r.getV e
    exact⟨xs,x,B H2 N l,hx⟩
   .obtain⟨rfl,y⟩:=y
    exact⟨Same.refl _,p.at l e (y xs (B _ N l))⟩
   .exact⟨xs,B H2 N l,by rw[p.r.length];exact YX _⟩
def nR:Nat->List D->List D
 |_,[]=>[]
 |i,d::r=>.tup [.int (i:Int),d]::nR (i+1) r
theorem mH:∀(ds:List D)(k i:Nat),(nR k ds)[i]? =(ds[i]?).map λd=>.tup [.int ((k+i:Nat):Int),d]
 |[],k,i=>by simp[nR]
 |d::r,k,i=>by
  cases i with
  |zero=>simp[nR]
  |succ i=>
   simp![nR,aar];rw[mH r (k+1) i,show k+1+i=k+(i+1)by omega]
theorem qd:∀(ds:List D)(k:Nat),(nR k ds).length=ds.length
 |[],k=>rfl
 |d::r,k=>by simp[nR,qd r (k+1)]
def itE(f:En->Option (List D)):En->Option (Bool×List D):=λρ=>(f ρ).bind λds=>match ds with
 |[d]=>(cL d).map λp=>(p.1,nR 0 p.2)
 |_=>none
theorem NT(h:RfA G ob t f):RfI G ob (M7 G.K t) (itE f):=λρ b items e σ H W rl w R q=>by
 unfold itE at e;cases h1:f ρ with
 |none=>simp[h1]at e
 |some ds=>
  rw[h1]at e;simp![YK]at e;split at e
  .rename_i d
   cases h2:cL d with
   |none=>simp[h2]at e
   |some p=>
    obtain⟨b',es⟩:=p;obtain⟨rfl,rfl⟩:b'=b/\nR 0 es=items:=by simpa[h2]using e
    refine h ρ _ h1 σ H W rl w _ λvs H' L s r I nd=>?_;obtain⟨v,ys,M,M',rfl,rfl,z,U⟩:=r.inv;obtain⟨rfl,rfl⟩:=U.inv0;rw[Zu]at z I;obtain⟨a,xs,rfl,p,B⟩:=GP w s z I h2;have a0:∀(i:Nat)(d':D)(O:Addr)(x:V)(H2:Hp)(N:Wn),(nR 0 es)[i]? =some d'->LtB b' H' W H2 N->H2 O=none->xs[i]? =some x->Same H2 (upd H2 O (.tup [.int i,x]))/\Rep G (upd H2 O (.tup [.int i,x])) N d' (.ref O) []:=λi d' O x H2 N e l F J=>by
     rw[mH]at e;cases h3:es[i]? with
     |none=>rw[h3]at e;cases e
     |some d0=>
      rw[h3]at e;have e:D.tup [.int (i:Int),d0]=d':=by simpa using e
      subst e;have sm:Same H2 (upd H2 O (.tup [.int i,x])):=Same.new F;refine⟨sm,?_⟩;rw[Rep];refine⟨O,_,rfl,a_,.cons (M:=[]) (M':=[]) (by rw[Rep];exact⟨rfl,rfl⟩) (.one ((p.at l h3 J).up (Up.same sm)))⟩
    refine⟨a,rfl,?_⟩;have Z:∀(i:Nat)(d':D),(nR 0 es)[i]? =some d'->∃x,xs[i]? =some x:=λi d' e=>by
     rw[mH]at e;cases h3:es[i]? with
     |none=>rw[h3]at e;cases e
     |some d0=>exact p.r.getV h3
    rcases B with B|B
    .refine .inl ⟨⟨xs,B H' W (LtB.up Up.refl)⟩,q _ H' s ⟨λi d e H2 N l=>?_,λi d e H2 N l x Y y=>?_,λH2 N l=>?_⟩⟩
     .obtain⟨x,J⟩:=Z i d e
      exact⟨xs,x,B H2 N l,J⟩
     .obtain⟨O,v,F,rfl,z,rfl⟩:=y
      exact a0 i d O v H2 N e l F (z xs (B _ N l))
     .exact⟨xs,B H2 N l,by rw[qd,p.r.length];exact YX _⟩
    .refine .inr ⟨⟨xs,B H' W (LtB.up Up.refl)⟩,q _ H' s ⟨λi d e H2 N l=>?_,λi d e H2 N l x Y y=>?_,λH2 N l=>?_⟩⟩
     .obtain⟨x,J⟩:=Z i d e
      exact⟨xs,x,B H2 N l,J⟩
     .obtain⟨O,v,F,rfl,z,rfl⟩:=y
      exact a0 i d O v H2 N e l F (z xs (B _ N l))
     .exact⟨xs,B H2 N l,by rw[qd,p.r.length];exact YX _⟩
  .cases e
variable{a:Expr}
theorem V3(q:∀c,Gl (X c) "range")(Z:∀c,(X c).mg "range"=none)(Y:PVA X G ob [a] f)(B:∀c,Zb [a] (X c).env=[(false,eval a (X c).env)]:=by intro _;rfl):PVI X G ob tg (.Call (.Name "range" p) [a] [] pos) (mR f):=let⟨t,a1,a2⟩:=Y.ex;⟨_,λc=>Hh (q c) (Z c) (a1 c) (B c),Uy a2⟩
theorem fW{f:En->Option D}(Y:PV X G ob a f)(F:∀c,(X c).K=G.K:=by intro _;rfl):PVI X G ob tg a (itS f):=let⟨t,a1,a2⟩:=Y.ex;⟨_,λc=>(by rw[←F c];exact Vr (a1 c)),Qf a2⟩
theorem Ai(q:∀c,Gl (X c) "enumerate")(Z:∀c,(X c).mg "enumerate"=none)(Y:PVA X G ob [a] f)(B:∀c,Zb [a] (X c).env=[(false,eval a (X c).env)]:=by intro _;rfl)(F:∀c,(X c).K=G.K:=by intro _;rfl):PVI X G ob (.Tuple elts x1 tpos) (.Call (.Name "enumerate" p) [a] [] pos) (itE f):=let⟨t,a1,a2⟩:=Y.ex;⟨_,λc=>(by rw[←F c];exact Mf (q c) (Z c) (a1 c) (B c)),NT a2⟩
def forL(tg:D->En->Option En)(V:En->Option Fl):List D->En->Option Fl
 |[],ρ=>some (.nx ρ)
 |d::r,ρ=>(tg d ρ).bind λρ1=>match V ρ1 with
  |some (.nx ρ2)=>forL tg V r ρ2
  |some (.cnt ρ2)=>forL tg V r ρ2
  |some (.brk ρ2)=>some (.nx ρ2)
  |o=>o
def jg(it:En->Option (Bool×List D))(tg:D->En->Option En)(V:En->Option Fl):En->Option Fl:=λρ=>(it ρ).bind λp=>if p.1=true then forL tg V p.2 ρ else none
theorem JB{σ2:L2.St}{S2:Ad}{Fr:Addr->Prop}(s:Sta G H ob ρ σ S Fr)(m:Mv P H H2 σ σ2 S S2 []):Evo H H2 (wn ob S Fr) (wn ob S2 Fr)where
 k:=λb u U f=>by
  have I:¬inS S b:=λ⟨i,z⟩=>by
   cases N:ob i with
   |false=>exact f.2.1 ⟨i,N,z⟩
   |true=>exact f.2.2 ⟨i,N,z⟩
  have B:¬inS S2 b:=λ⟨i,z⟩=>(m.gr i b z).elim I λz=>z.elim (λz=>by cases z) λz=>by rw[U]at z;cases z
  exact⟨m.kp b u U I (by simp),f.1,λ⟨i,_,z⟩=>B ⟨i,z⟩,λ⟨i,_,z⟩=>B ⟨i,z⟩⟩
 t:=λb xs h=>by
  have D:∀u,H b=some u->muO u=false->H2 b=some u:=λu J mu=>m.kp b u J (λ⟨i,z⟩=>by
   obtain⟨o,N,Z⟩:=s.mu z;rw[J]at N;cases N;rw[mu]at Z;cases Z) (by simp)
  exact D _ h rfl
variable{tg:D->En->Option En}{tb:TS}{it:En->Option (Bool×List D)}
theorem Qi{wi:TI}{g:TG}{V:En->Option Fl}(hi:RfI G ob wi it)(hg:RfG G ob P g tg)(U:RfS G ob P tb V):RfS G ob P (Xz wi g tb) (jg it tg V):=λρ r e σ H S Fr s E q=>by
 unfold jg at e;cases h1:it ρ with
 |none=>simp[h1]at e
 |some p=>
  obtain⟨b,items⟩:=p;cases b with
  |false=>simp[h1]at e
  |true=>
   have e:forL tg V items ρ=some r:=by simpa[h1]using e
   refine hi ρ true items h1 σ H _ s.rel s.wok _ λJ H1 sm wk=>?_;have F:Sta G H1 ob ρ σ S Fr:=s.grow sm λa z=>.inl z;have m1:Mv P H H1 σ σ S S []:=⟨λb u h _ _=>sm b u h,λi a z=>.inl ⟨i,z⟩,.refl⟩;have q1:=q.from m1;have a0:∀{ρ2:En}{σ2:L2.St}{H2:Hp}{S2:Ad},Mv P H1 H2 σ σ2 S S2 []->LtB true H1 (wn ob S Fr) H2 (wn ob S2 Fr):=λm=>uc (JB F m);refine⟨λi m σ2 H2=>i+m=items.length/\∃ρ2 S2,Sta G H2 ob ρ2 σ2 S2 Fr/\Mv P H1 H2 σ σ2 S S2 []/\forL tg V (items.drop i) ρ2=some r,⟨items.length,by omega,ρ,S,F,.refl,e⟩,?_⟩;rintro i m σ2 H2 ⟨a6,ρ2,S2,O,m2,e2⟩;by_cases N:i<items.length
   .refine .inr ⟨wk.go i items[i] (by simp[N]) H2 _ (a0 (ρ2:=ρ2) m2),λB H'=>(i+1)+(m-1)=items.length/\∃ρ2 S2,Sta G H' ob ρ2 B S2 Fr/\Mv P H1 H' σ B S S2 []/\forL tg V (items.drop (i+1)) ρ2=some r,λB H' h=>⟨m-1,by omega,h⟩,λx Y hy=>?_⟩
    obtain⟨Z,rx⟩:=wk.yld i items[i] (by simp[N]) H2 _ (a0 (ρ2:=ρ2) m2) x Y hy;rw[←abx N,forL]at e2;cases h3:tg items[i] ρ2 with
    |none=>simp[h3]at e2
    |some a3=>
     rw[h3]at e2;simp![YK]at e2;have a5:Sta G Y ob ρ2 σ2 S2 Fr:=O.grow Z λa z=>.inl z;refine hg items[i] ρ2 a3 h3 x σ2 Y S2 [] Fr (by rw[sG];exact a5) (by rw[sG];exact rx) ZR (by simp) _ λa4 H4 S4 s4 m4=>?_;have a2:Mv P H1 H4 σ a4 S S4 []:=(m2.trans (S2:=S2) ⟨λb u h _ _=>Z b u h,λi a z=>.inl ⟨i,z⟩,.refl⟩).trans m4;cases h5:V a3 with
     |none=>rw[h5]at e2;cases e2
     |some fl=>
      rw[h5]at e2;refine U a3 fl h5 a4 H4 S4 Fr s4 _ ?_;cases fl with
      |nx a1=>exact λB H' S' s' I=>⟨by omega,a1,S',s',a2.trans I,e2⟩
      |cnt a1=>exact λB H' S' s' I=>⟨by omega,a1,S',s',a2.trans I,e2⟩
      |brk a1=>cases e2;exact λB H' S' s' I=>q1 B H' S' s' (a2.trans I)
      |ret d a1=>cases e2;exact q1.from a2
   .have hl:i=items.length:=by omega
    rw[hl,aa9,forL]at e2;cases e2;subst hl;exact .inl ⟨wk.stop H2 _ (a0 (ρ2:=ρ2) m2),q1 σ2 H2 S2 O m2⟩
variable{f:En->Option Fl}
theorem lV{tg iter:Expr}{V:List Stmt}{g:D->En->Option En}(F:∀c,afj (model (X c).prog (X c).w) (X c).A (X c).env (X c).xe)(Z:∀c,(X c).calm=true)(hi:PVI X G ob tg iter it)(q:PVG X G ob P tg g)(U:uP X G ob P V f)(B:∀c,∀x,aaE iter (X c).env x=pure x:=by intro _;intro _;rfl):PVS X G ob P (.For tg iter V [] pos) (jg it g f):=let⟨v,c1,c2⟩:=hi.ex;let⟨t,a1,a2⟩:=q.ex;let⟨u,b1,b2⟩:=U.ex;⟨_,λc=>U6 (F c) (Z c) (c1 c) (a1 c) (b1 c) (B c),Qi c2 a2 b2⟩
def km(c:En->Option (Bool×En))(V:En->Option Fl):Nat->En->Option Fl
 |0,_=>none
 |n+1,ρ=>(c ρ).bind λp=>if p.1=true then(match V p.2 with
  |some (.nx ρ2)=>km c V n ρ2
  |some (.cnt ρ2)=>km c V n ρ2
  |some (.brk ρ2)=>some (.nx ρ2)
  |o=>o)else some (.nx p.2)
theorem Im{tc:TT}{c:En->Option (Bool×En)}{V:En->Option Fl}(n:Nat)(Z:HB G ob tc c)(U:RfS G ob P tb V):RfS G ob P (Lj tc tb) (km c V n):=λρ r e σ H S Fr s E q=>by
 refine⟨λm σ2 H2=>∃ρ2 S2,Sta G H2 ob ρ2 σ2 S2 Fr/\Mv P H H2 σ σ2 S S2 []/\km c V m ρ2=some r,⟨n,ρ,S,s,.refl,e⟩,?_⟩;rintro m σ2 H2 ⟨ρ2,S2,O,m2,e2⟩;cases m with
 |zero=>cases e2
 |succ m=>
  rw[km]at e2;cases h1:c ρ2 with
  |none=>simp[h1]at e2
  |some p=>
   obtain⟨b,F⟩:=p;rw[h1]at e2;simp![YK]at e2;refine Z ρ2 b F h1 σ2 H2 S2 Fr O _ λY S3 s3 z=>?_;have N:Mv P H Y σ σ2 S S3 []:=m2.trans z.mv;cases b with
   |false=>
    simp![ZG,aao]at e2;cases e2;exact wA (q σ2 Y S3 s3 N)
   |true=>
    simp![Zz]at e2;refine uc ⟨λB H'=>∃ρ2 S2,Sta G H' ob ρ2 B S2 Fr/\Mv P H H' σ B S S2 []/\km c V m ρ2=some r,λB H' h=>⟨m,aaW m,h⟩,?_⟩;cases J:V F with
    |none=>rw[J]at e2;cases e2
    |some fl=>
     rw[J]at e2;refine U F fl J σ2 Y S3 Fr s3 _ ?_;cases fl with
     |nx D=>exact λB H' S' s' I=>⟨D,S',s',N.trans I,e2⟩
     |cnt D=>exact λB H' S' s' I=>⟨D,S',s',N.trans I,e2⟩
     |brk D=>cases e2;exact λB H' S' s' I=>q B H' S' s' (N.trans I)
     |ret d D=>cases e2;exact q.from N
theorem sX(n:Nat){V:List Stmt}{fc:En->Option (Bool×En)}(F:∀c,afj (model (X c).prog (X c).w) (X c).A (X c).env (X c).xe)(Z:J5 X G ob c fc)(U:uP X G ob P V f):PVS X G ob P (.While c V [] pos) (km fc f n):=let⟨v,c1,c2⟩:=Z.ex;let⟨u,b1,b2⟩:=U.ex;⟨_,λc=>Mi (F c) (c1 c) (b1 c),Im n c2 b2⟩
def jU(i:Nat)(ρ:En):Option En:=match ρ[i]? with
 |some (some d)=>some (ρ.set i (some (fz d)))
 |_=>none
theorem Sta.freeze{I:En}{Fr:Addr->Prop}(s:Sta G H ob ρ σ S Fr)(e:jU i ρ=some I):Sta G H ob I σ (gW S i []) Fr:=by
 unfold jU at e;split at e
 .rename_i d h1
  cases e;obtain⟨v,h2,B,U,J⟩:=s.move h1;have Z:Sta G H ob (ρ.set i none) σ (gW S i []) Fr:=U.lessF λa z=>.inr z;have N:i<ρ.length:=(List.getElem?_eq_some_iff.mp h1).1;have q:Rep G H (wn ob (gW S i []) Fr) (fz d) v []:=by
   refine J.fz ⟨λa f=>⟨λz=>f.1 (.inr z),f.2⟩,λa Y=>⟨λz=>s.fdj i a z Y,λ⟨j,q1,q2⟩=>?_,λ⟨j,q1,q2⟩=>?_⟩⟩ (.inl B)
   .rcases d8 q2 with⟨_,z⟩|⟨n,z⟩
    .cases z
    .exact n (s.dj j i a z Y)
   .rcases d8 q2 with⟨_,z⟩|⟨n,z⟩
    .cases z
    .exact n (s.dj j i a z Y)
  refine⟨by simp[s.len],λj d' V=>?_,λj F=>?_,Z.nd,Z.dj,Z.fdj,Z.fdm⟩
  .by_cases e':j=i
   .subst e'
    have:fz d=d':=by simpa[N]using V
    subst this;exact⟨v,h2,by rw[cR];exact q,J2 d⟩
   .rw[List.getElem?_set_ne (ZV e')]at V
    exact Z.sl j d' (by rw[List.getElem?_set_ne (ZV e')];exact V)
  .by_cases e':j=i
   .rw[e',cR]
   .exact Z.em j λd'=>by have:=F d';rw[List.getElem?_set_ne (ZV e')]at this⊢;exact this
 .cases e
def sFz(i:Nat)(f:En->Option Fl):En->Option Fl:=λρ=>(jU i ρ).bind f
theorem VP{t:TS}(h:RfS G ob P t f):RfS G ob P t (sFz i f):=λρ r e σ H S Fr s E q=>by
 unfold sFz at e;cases h1:jU i ρ with
 |none=>simp[h1]at e
 |some ρ1=>
  have e:f ρ1=some r:=by simpa[h1]using e
  have m:Mv P H H σ σ S (gW S i []) []:=⟨λ_ _ h _ _=>h,λj a z=>(d8 z).elim (λz=>by cases z.2) λz=>.inl ⟨j,z.2⟩,.refl⟩;exact h ρ1 r e σ H (gW S i []) Fr (s.freeze h1) E (q.from m)
theorem Vf(i:Nat){st:Stmt}(h:PVS X G ob P st f):PVS X G ob P st (sFz i f):=let⟨t,a1,a2⟩:=h.ex;⟨t,a1,VP a2⟩
mutual
noncomputable def bj:D->Bool
 |.tup ds=>bB ds
 |.lst m ds=>m== .own&&bB ds
 |.dct m _ ds=>m== .own&&bB ds
 |.ins m _ _ ds=>m== .own&&bB ds
 |_=>true
noncomputable def bB:List D->Bool
 |[]=>true
 |d::r=>bj d&&bB r
end
mutual
theorem Rep.own:∀{d:D}{v:V}{L:List Addr},Rep G H W d v L->bj d=true->Rep G H W' d v L
 |.non,v,L,h,_=>by rw[Rep]at h⊢;exact h
 |.bl _,v,L,h,_=>by rw[Rep]at h⊢;exact h
 |.int _,v,L,h,_=>by rw[Rep]at h⊢;exact h
 |.str _,v,L,h,_=>by rw[Rep]at h⊢;exact h
 |.ty _,v,L,h,_=>by rw[Rep]at h⊢;exact h
 |.tup ds,v,L,h,o=>by
  rw[Rep]at h⊢;obtain⟨a,xs,rfl,U,O⟩:=h;exact⟨a,xs,rfl,U,aH.own O (by simpa[bj]using o)⟩
 |.lst m ds,v,L,h,o=>by
  rw[Rep]at h⊢;obtain⟨a,xs,M,rfl,O,B⟩:=h;simp[bj]at o;obtain⟨rfl,o⟩:=o;exact⟨a,xs,M,rfl,aH.own O o,B⟩
 |.dct m ks ds,v,L,h,o=>by
  rw[Rep]at h⊢;obtain⟨a,xs,M,rfl,I,O,B⟩:=h;simp[bj]at o;obtain⟨rfl,o⟩:=o;exact⟨a,xs,M,rfl,I,aH.own O o,B⟩
 |.ins m c fs ds,v,L,h,o=>by
  rw[Rep]at h⊢;obtain⟨a,C,dx,xs,M,rfl,F,I,O,B⟩:=h;simp[bj]at o;obtain⟨rfl,o⟩:=o;exact⟨a,C,dx,xs,M,rfl,F,I,aH.own O o,B⟩
theorem aH.own:∀{ds:List D}{vs:List V}{L:List Addr},aH G H W ds vs L->bB ds=true->aH G H W' ds vs L
 |[],vs,L,h,_=>by rw[aH]at h⊢;exact h
 |d::r,vs,L,h,o=>by
  obtain⟨x,ys,M,M',rfl,rfl,h1,h2⟩:=h.inv;simp[bB]at o;exact .cons (Rep.own h1 o.1) (aH.own h2 o.2)
end
def W1(Fr:Addr->Prop):Wn:=⟨Fr,λ_=>False,λ_=>False⟩
def spP(G:Gc)(F:List D->Option D):Sp:=λvs H Q _=>∃(ds:List D)(Fr:Addr->Prop),aH G H (W1 Fr) ds vs []/\az ds=true/\aB ds=true/\(∀a,Fr a->Mu H a)/\∃d,F ds=some d/\
 ∀v H' L,Same H H'->Rep G H' (W1 (plus L Fr)) d v L->(∀a∈L,H a=none)->L.Nodup->clean d=true->Q v H'
def en0(n:Nat)(ds:List D):En:=ds.map some++aaf (n-ds.length) none
def fnP(I n:Nat)(V:En->Option Fl):List D->Option D:=λds=>if ds.length=I then(V (en0 n ds)).bind λr=>match r with
 |.ret d _=>some d
 |.nx _=>some .non
 |_=>none else none
theorem GZ(h:(en0 n ds)[i]? =some (some d)):ds[i]? =some d:=by
 unfold en0 at h;by_cases hi:i<ds.length
 .rw[ZC (by simpa using hi)]at h
  simpa using h
 .rw[aaq (by simpa using Nat.le_of_not_lt hi)]at h
  rw[aej]at h;split at h
  .simp at h
  .cases h
variable{vs:List V}
theorem Yy{Fr:Addr->Prop}(r:aH G H (W1 Fr) ds vs [])(Z:az ds=true)(q:aB ds=true)(fm:∀a,Fr a->Mu H a):Sta G H ob (en0 N.length ds) (L2.start N vs) (λ_=>[]) Fr where
 len:=by simp[en0,L2.start,r.length]
 sl:=λi d e=>by
  have e:=GZ e;obtain⟨x,M,h1,h2,B⟩:=r.get e;have:M=[]:=by simpa using B
  subst this;refine⟨x,?_,h2.up ⟨Same.refl _,λb u U f=>⟨f.1,λ⟨j,_,z⟩=>(by cases z),λ⟨j,_,z⟩=>(by cases z)⟩,λb u U f=>f.elim⟩,by simp[clean,iV Z e,iW q e]⟩;unfold L2.start;have hi:i<vs.length:=(List.getElem?_eq_some_iff.mp h1).1;rw[ZC (by simpa using hi)];simp[h1]
 em:=λ_ _=>rfl
 nd:=λ_=>ZR
 dj:=λi j a h=>by cases h
 fdj:=λi a _ h=>by cases h
 fdm:=fm
section
variable{P:Program}{w:World}{K:PySem.W.Frag}{mg:Str->Option Value}{base:Heap}
theorem UW{a:Addr}:¬inS (λ_=>[]) a:=λ⟨_,z⟩=>by cases z
theorem okP{x D:Str}{st:Stmt}{f:Addr}{fd:ZP}{N ps:List Str}{k:Nat}{ob Pr:Nat->Bool}{V:En->Option Fl}(F:Fun K x D st f fd)(S:bz N ps (aA st))
  (U:∀(Z:Value)(A:aad)(outer:List Env)(s:Hq)(H:Hp)(E:XK),gV k (A.deeper (acR D (aA st) s.heap.objs.size f Z))->uP (λ_:Unit=>(Cd CX0 P w K mg base N D (aA st) f Z A outer s H E).nox) ⟨K,mg⟩ ob Pr (bc st) V) :
  dD P w K mg base CX0 (k+1) f fd ps (spP ⟨K,mg⟩ (fnP ps.length N.length V)):=by
 refine F.ok S (λvs H Q E h=>?_) (λZ A outer s H vs Q E O h=>?_)
 .obtain⟨ds,Fr,r,_,_,_,d,e,_⟩:=h
  unfold fnP at e;split at e
  .rename_i hl
   rw[←r.length];exact hl
  .cases e
 .obtain⟨ds,Fr,r,c1,c2,fm,d,e,q⟩:=h
  obtain⟨t,a1,a2⟩:=(U Z A outer s H E O).ex;refine⟨t,a1 (),?_⟩;unfold fnP at e;split at e
  .cases h1:V (en0 N.length ds)with
   |none=>simp[h1]at e
   |some fl=>
    rw[h1]at e;simp![YK]at e;refine a2 _ fl h1 (L2.start N vs) H (λ_=>[]) Fr (Yy (ob:=ob) r c1 c2 fm) _ ?_;have J:∀{S':Ad}{M:List Addr}{b:Addr},(wn ob S' (plus M Fr)).free b->(W1 (plus M Fr)).free b:=λz=>⟨z.1,id,id⟩;cases fl with
    |nx I=>
     cases e;exact λB H' S' s' m=>q .non H' [] (λb o h=>m.kp b o h UW (by simp)) (by rw[Rep];exact⟨rfl,rfl⟩) (by simp) ZR rfl
    |ret d' I=>
     cases e;exact λv B H' M S' s' r' c n f m=>q v H' M (λb o h=>m.kp b o h UW (by simp)) (by
      have a0:=(by simpa[clean]using c:aD d=true/\aC d=true);have ev:Evo H' H' (wn ob S' (plus M Fr)) (W1 (plus M Fr)):=⟨λb u h z=>⟨h,J z⟩,λ_ _ h=>h⟩;exact r'.mono ev (.inl a0.1) (.inl a0.2) λ_ _ _ h=>h) (λa Y=>(f a Y).resolve_left UW) n c
    |brk I=>cases e
    |cnt I=>cases e
  .cases e
end
def bI(F:List D->Option D)(ds:List D):Option D:=(F (fzL ds)).bind λd=>if(az ds&&aB ds)||bj d then some d else none
variable{E:XK}
theorem BK{F:List D->Option D}:CaV G (λvs H Q=>spP G F (vs++[]) H Q E) (bI F):=λds d e xs H W J r nd hn w Q q=>by
 unfold bI at e;cases h1:F (fzL ds)with
 |none=>simp[h1]at e
 |some d'=>
  rw[h1]at e;simp![YK]at e;split at e
  .rename_i hc
   cases e;rw[Zu];by_cases B:az ds=true/\aB ds=true
   .refine⟨fzL ds,λa=>(W.n a∨W.s a∨W.o a)/\a∉J,r.fz ⟨λa f=>⟨λz=>z.1.elim f.1 λz=>z.elim f.2.1 f.2.2,id,id⟩,λa Y=>⟨λz=>z.2 Y,id,id⟩⟩ (.inl B),il ds,iu ds,λa h=>w a h.1,d,h1,λv H' L s V I n c=>?_⟩
    refine q v H' L s ?_ (λa Y=>.inr (I a Y)) n;have U:=(by simpa[clean]using c:aD d=true/\aC d=true);have O:∀a∈L,a∉J:=λa Y z=>by
     obtain⟨o,N,_⟩:=r.dom a z;rw[I a Y]at N;cases N
    have Z:Evo H' H' (W1 (plus L λa=>(W.n a∨W.s a∨W.o a)/\a∉J)) ((W.drop J).add L):=⟨λb u h f=>⟨h,⟨λz=>z.elim (λz=>f.1 (.inl z)) λz=>f.1 (.inr ⟨.inl z.1,z.2⟩),λz=>f.1 (.inr ⟨.inr (.inl z),λy=>?_⟩),λz=>f.1 (.inr ⟨.inr (.inr z),λy=>?_⟩)⟩⟩,λ_ _ h=>h⟩
    .exact V.mono Z (.inl U.1) (.inl U.2) λ_ _ _ h=>h
    .exact(hn b y).2.1 z
    .exact(hn b y).2.2 z
   .have N:bj d=true:=by
     simp![afY,ZQ]at hc;exact hc.resolve_left B
    refine⟨fzL ds,λ_=>False,r.fz ⟨λa f=>⟨id,id,id⟩,λa Y=>⟨id,id,id⟩⟩ (.inr λa=>⟨id,id,id⟩),il ds,iu ds,λa h=>h.elim,d,h1,λv H' L s V I n c=>?_⟩;exact q v H' L s (V.own N) (λa Y=>.inr (I a Y)) n
  .cases e
theorem gm{F:List D->Option D}{f:En->Option (List D)}(C:∀c,Cal (X c).prog (X c).w (X c).K (X c).mg (X c).base k x ps (spP G F))(O:∀c,gV k (X c).A)(Y:PVA X G ob (e::es) f)(B:∀c,Gl (X c) x:=by intro _;rfl)(J:1.21=false:=by decide)(V:∀c,Zb (e::es) (X c).env=(false,eval e (X c).env)::Zb es (X c).env:=by intro _;rfl)(q:∀c,(aaA pos (Zb es (X c).env)).any (·.1)=false:=by intro _;rfl) :
 PV X G ob (.Call (.Name x p) (e::es) [] pos) (eAp (bI F) f):=let⟨t,a1,a2⟩:=Y.ex;⟨_,λc=>MT (C c) (O c) (B c) (a1 c) J (V c) (q c),ur BK a2⟩
variable{a:Addr}
theorem dY.fz2{D:Addr->HO->Prop}(B:Les H W W' L)(U:m≠.brw∨∀a,W.s a->W'.free a)(N:m≠.bro∨pQ W')(h:dY D H W a o m L M):dY D H W' a o (mkF m) [] []:=by
 cases m with
 |own=>exact⟨h.1,B.l a (by rw[h.2];simp),rfl,rfl⟩
 |frz=>exact⟨h.1,B.f a h.2.1,rfl,rfl⟩
 |brw=>exact⟨h.1,U.elim (λz=>absurd rfl z) λz=>z a h.2.1,rfl,rfl⟩
 |bro=>exact⟨h.1,N.elim (λz=>absurd rfl z) λz=>z a,rfl,rfl⟩
 |scr=>exact⟨h.1.imp (λz=>⟨z.1,B.f a z.2⟩) id,rfl,rfl⟩
mutual
theorem Rep.fz2:∀{d:D}{v:V}{L:List Addr},Rep G H W d v L->Les H W W' L->(aD d=true∨∀a,W.s a->W'.free a)->(aC d=true∨pQ W')->Rep G H W' (fz d) v []
 |.non,v,L,h,_,_,_=>by rw[Rep]at h;simp[Jb.fz,Rep,h]
 |.bl _,v,L,h,_,_,_=>by rw[Rep]at h;simp[Jb.fz,Rep,h]
 |.int _,v,L,h,_,_,_=>by rw[Rep]at h;simp[Jb.fz,Rep,h]
 |.str _,v,L,h,_,_,_=>by rw[Rep]at h;simp[Jb.fz,Rep,h]
 |.ty _,v,L,h,_,_,_=>by rw[Rep]at h;simp[Jb.fz,Rep,h]
 |.tup ds,v,L,h,B,c,o=>by
  rw[Rep]at h;rw[Jb.fz,Rep];obtain⟨a,xs,rfl,U,O⟩:=h;exact⟨a,xs,rfl,U,aH.fz2 O B (by simpa[aD]using c) (by simpa[aC]using o)⟩
 |.lst m ds,v,L,h,he,c,o=>by
  rw[Rep]at h;rw[Jb.fz,Rep];obtain⟨a,xs,M,rfl,O,B⟩:=h;exact⟨a,xs,[],rfl,aH.fz2 O (he.sub λc Z=>B.sub.subset Z) (c.imp (λz=>by simp[aD]at z;exact z.2) id) (o.imp (λz=>by simp[aC]at z;exact z.2) id),B.fz2 he (c.imp (λz=>by simp[aD]at z;exact z.1) id) (o.imp (λz=>by simp[aC]at z;exact z.1) id)⟩
 |.dct m ks ds,v,L,h,he,c,o=>by
  rw[Rep]at h;rw[Jb.fz,Rep];obtain⟨a,xs,M,rfl,I,O,B⟩:=h;exact⟨a,xs,[],rfl,I,aH.fz2 O (he.sub λc Z=>B.sub.subset Z) (c.imp (λz=>by simp[aD]at z;exact z.2) id) (o.imp (λz=>by simp[aC]at z;exact z.2) id),B.fz2 he (c.imp (λz=>by simp[aD]at z;exact z.1) id) (o.imp (λz=>by simp[aC]at z;exact z.1) id)⟩
 |.ins m c' fs ds,v,L,h,he,c,o=>by
  rw[Rep]at h;rw[Jb.fz,Rep];obtain⟨a,C,dx,xs,M,rfl,F,I,O,B⟩:=h;exact⟨a,C,dx,xs,[],rfl,F,I,aH.fz2 O (he.sub λc Z=>B.sub.subset Z) (c.imp (λz=>by simp[aD]at z;exact z.2) id) (o.imp (λz=>by simp[aC]at z;exact z.2) id),B.fz2 he (c.imp (λz=>by simp[aD]at z;exact z.1) id) (o.imp (λz=>by simp[aC]at z;exact z.1) id)⟩
theorem aH.fz2:∀{ds:List D}{vs:List V}{L:List Addr},aH G H W ds vs L->Les H W W' L->(az ds=true∨∀a,W.s a->W'.free a)->(aB ds=true∨pQ W')->aH G H W' (fzL ds) vs []
 |[],vs,L,h,_,_,_=>by obtain⟨rfl,_⟩:=h.inv0;rw[fzL];exact .nil
 |d::r,vs,L,h,he,c,o=>by
  obtain⟨x,ys,M,M',rfl,rfl,h1,h2⟩:=h.inv;rw[fzL];exact .cons (M:=[]) (M':=[]) (Rep.fz2 h1 (he.sub λc Z=>YW _ Z) (c.imp (λz=>by simp[az]at z;exact z.1) id) (o.imp (λz=>by simp[aB]at z;exact z.1) id))
   (aH.fz2 h2 (he.sub λc Z=>YJ _ Z) (c.imp (λz=>by simp[az]at z;exact z.2) id) (o.imp (λz=>by simp[aB]at z;exact z.2) id))
end
def spI(G:Gc)(ob pr:Nat->Bool)(F:List D->Option (D×List D)):Sp:=λvs H Q _=>∃(ds:List D)(S:Ad)(Fr:Addr->Prop),Sta G H ob (ds.map some) (vs.map some) S Fr/\(∀i,pr i=false->S i=[])/\∃d Z,F ds=some (d,Z)/\
 ∀v H' M S',Sta G H' ob (Z.map some) (vs.map some) S' (plus M Fr)->Rep G H' (wn ob S' (plus M Fr)) d v M->clean d=true->M.Nodup->(∀a∈M,inS S a∨H a=none)->Mv (λ_=>false) H H' [] [] S S' []->Q v H'
def outs(pr:Nat->Bool)(ρ:En):Nat->List D->Option (List D)
 |_,[]=>some []
 |i,d::r=>(if pr i=true then(match ρ[i]? with
  |some (some e)=>some e
  |_=>none)else some d).bind λe=>(outs pr ρ (i+1) r).map λt=>e::t
def fnI(pr:Nat->Bool)(I n:Nat)(V:En->Option Fl):List D->Option (D×List D):=λds=>if ds.length=I then(V (en0 n ds)).bind λr=>match r with
 |.ret d ρ=>(outs pr ρ 0 ds).map λo=>(d,o)
 |.nx ρ=>(outs pr ρ 0 ds).map λo=>(.non,o)
 |_=>none else none
theorem FT{pr:Nat->Bool}{ρ:En}:∀{ds Z:List D}{k:Nat},outs pr ρ k ds=some Z->Z.length=ds.length/\∀i d,Z[i]? =some d->(pr (k+i)=true/\ρ[k+i]? =some (some d))∨(pr (k+i)=false/\ds[i]? =some d)
 |[],Z,k,e=>by
  cases e;exact⟨rfl,λi d h=>by simp at h⟩
 |d0::r,Z,k,e=>by
  rw[outs]at e;cases h2:outs pr ρ (k+1) r with
  |none=>
   rw[h2]at e;simp at e
  |some t=>
   rw[h2]at e;obtain⟨B,J⟩:=FT h2;have V:∃O,Z=O::t/\((pr k=true/\ρ[k]? =some (some O))∨(pr k=false/\d0=O)):=by
    split at e
    .rename_i hp
     split at e
     .rename_i O h0
      exact⟨O,by simpa using e.symm,.inl ⟨hp,h0⟩⟩
     .simp at e
    .rename_i hp
     exact⟨d0,by simpa using e.symm,.inr ⟨by simpa using hp,rfl⟩⟩
   obtain⟨O,rfl,I⟩:=V;refine⟨by simp[B],λi d h=>?_⟩;cases i with
   |zero=>
    have:O=d:=by simpa using h
    subst this;exact I.imp id λz=>⟨z.1,by simp[z.2]⟩
   |succ i=>
    have:=J i d (by simpa using h);rw[show k+1+i=k+(i+1)by omega]at this;simpa using this
theorem kY{xs:List α}{x:α}(h:(xs.map some)[i]? =some (some x)):xs[i]? =some x:=by
 rw[List.getElem?_map]at h;cases e:xs[i]? with
 |none=>rw[e]at h;cases h
 |some y=>rw[e]at h;simpa using h
theorem fD{xs:List α}{x:α}(h:xs[i]? =some x):(xs.map some)[i]? =some (some x):=by rw[List.getElem?_map,h];rfl
theorem YF{Fr:Addr->Prop}(s:Sta G H ob (ds.map some) (vs.map some) S Fr):Sta G H ob (en0 N.length ds) (L2.start N vs) S Fr where
 len:=by have:=s.len;simp at this;simp[en0,L2.start,this]
 sl:=λi d e=>by
  obtain⟨v,h1,h2,B⟩:=s.sl i d (fD (GZ e));refine⟨v,?_,h2,B⟩;unfold L2.start;have hi:i<(vs.map some).length:=(List.getElem?_eq_some_iff.mp h1).1;rw[ZC hi];exact h1
 em:=λi h=>s.em i λd e=>h d (by
  unfold en0;have hi:i<(ds.map some).length:=(List.getElem?_eq_some_iff.mp e).1;rw[ZC hi];exact e)
 nd:=s.nd
 dj:=s.dj
 fdj:=s.fdj
 fdm:=s.fdm
section
variable{P:Program}{w:World}{K:PySem.W.Frag}{mg:Str->Option Value}{base:Heap}
theorem Ci{G:Gc}{H H':Hp}{ob pr:Nat->Bool}{ds Z:List D}{vs:List V}{N:List Str}{S S1:Ad}{Fr:Addr->Prop}{ρ:En}{σ:L2.St}{M:List Addr}(s:Sta G H ob (ds.map some) (vs.map some) S Fr)(hp:∀i,pr i=false->S i=[])(F:Sta G H' ob ρ σ S1 (plus M Fr))
  (m:Mv pr H H' (L2.start N vs) σ S S1 []) (hM:∀a∈M,inS S a∨H a=none) (e:outs pr ρ 0 ds=some Z) :
  Sta G H' ob (Z.map some) (vs.map some) (λi=>if pr i=true/\i<ds.length then S1 i else[]) (plus M Fr):=by
 obtain⟨Y,B⟩:=FT e;have lv:ds.length=vs.length:=by have:=s.len;simpa using this
 have sub:∀{i a},a∈(if pr i=true/\i<ds.length then S1 i else[])->a∈S1 i:=λ{i a} z=>by
  split at z
  .exact z
  .cases z
 refine⟨by simp[Y,lv],λi d h=>?_,λi h=>?_,λi=>?_,λi j a h1 h2=>F.dj i j a (sub h1) (sub h2),λi a h z=>F.fdj i a h (sub z),F.fdm⟩
 .have h:=kY h
  have hi:i<ds.length:=by rw[←Y];exact(List.getElem?_eq_some_iff.mp h).1
  rcases B i d h with⟨h1,h2⟩|⟨h1,h2⟩
  .rw[ach]at h1 h2
   obtain⟨v,q1,q2,O⟩:=F.sl i d h2;have e1:=m.pr i h1;rw[q1]at e1;refine⟨v,?_,?_,O⟩
   .unfold L2.start at e1
    rw[ZC (by simp;omega)]at e1;exact e1.symm
   .rw[Zd ⟨h1,hi⟩]
    have q:=(by simpa[clean]using O:aD d=true/\aC d=true);have I:Evo H' H' (wn ob S1 (plus M Fr)) (wn ob (λi=>if pr i=true/\i<ds.length then S1 i else[]) (plus M Fr)):=⟨λb u U f=>⟨U,⟨f.1,λ⟨j,z1,J⟩=>f.2.1 ⟨j,z1,sub J⟩,λ⟨j,z1,J⟩=>f.2.2 ⟨j,z1,sub J⟩⟩⟩,λ_ _ h=>h⟩;exact q2.mono I (.inl q.1) (.inl q.2) λ_ _ _ h=>h
  .rw[ach]at h1
   obtain⟨v,q1,q2,O⟩:=s.sl i d (fD h2);refine⟨v,q1,?_,O⟩;rw[Zk λz=>by rw[h1]at z;cases z.1];rw[hp i h1]at q2;have q:=(by simpa[clean]using O:aD d=true/\aC d=true);have a0:=JB s (σ2:=σ) (H2:=H') (S2:=S1) (P:=λ_=>false) ⟨m.kp,m.gr,λi h=>by cases h⟩;have I:Evo H H' (wn ob S Fr) (wn ob (λi=>if pr i=true/\i<ds.length then S1 i else[]) (plus M Fr)):=⟨λb u U f=>?_,a0.t⟩
   .exact q2.mono I (.inl q.1) (.inl q.2) (by simp)
   .obtain⟨k1,k2⟩:=a0.k b u U f
    refine⟨k1,λz=>z.elim (λz=>?_) f.1,λ⟨j,z1,J⟩=>k2.2.1 ⟨j,z1,sub J⟩,λ⟨j,z1,J⟩=>k2.2.2 ⟨j,z1,sub J⟩⟩;rcases hM b z with⟨j,y⟩|y
    .cases ho:ob j with
     |false=>exact f.2.1 ⟨j,ho,y⟩
     |true=>exact f.2.2 ⟨j,ho,y⟩
    .rw[U]at y;cases y
 .split
  .rename_i z
   exfalso;have hi:i<Z.length:=by rw[Y];exact z.2
   exact h Z[i] (fD (by simp[hi]))
  .rfl
 .show(if pr i=true/\i<ds.length then S1 i else[]).Nodup
  split
  .exact F.nd i
  .exact ZR
theorem okI{x Y:Str}{st:Stmt}{f:Addr}{fd:ZP}{N ps:List Str}{k:Nat}{ob pr:Nat->Bool}{V:En->Option Fl}(F:Fun K x Y st f fd)(S:bz N ps (aA st))
  (U:∀(Z:Value)(A:aad)(outer:List Env)(s:Hq)(H:Hp)(E:XK),gV k (A.deeper (acR Y (aA st) s.heap.objs.size f Z))->uP (λ_:Unit=>(Cd CX0 P w K mg base N Y (aA st) f Z A outer s H E).nox) ⟨K,mg⟩ ob pr (bc st) V) :
  dD P w K mg base CX0 (k+1) f fd ps (spI ⟨K,mg⟩ ob pr (fnI pr ps.length N.length V)):=by
 refine F.ok S (λvs H Q E h=>?_) (λZ A outer s H vs Q E O h=>?_)
 .obtain⟨ds,S,Fr,st,_,d,ds',e,_⟩:=h
  unfold fnI at e;split at e
  .rename_i hl
   have:=st.len;simp at this;rw[←this];exact hl
  .cases e
 .obtain⟨ds,S0,Fr,st,hp,d,ds',e,q⟩:=h
  obtain⟨t,a1,a2⟩:=(U Z A outer s H E O).ex;refine⟨t,a1 (),?_⟩;unfold fnI at e;split at e
  .cases h1:V (en0 N.length ds)with
   |none=>simp[h1]at e
   |some fl=>
    rw[h1]at e;simp![YK]at e;refine a2 _ fl h1 (L2.start N vs) H S0 Fr (YF st) _ ?_;have sub:∀{S1:Ad}{i a},a∈(if pr i=true/\i<ds.length then S1 i else[])->a∈S1 i:=λ{S1 i a} z=>by
     split at z
     .exact z
     .cases z
    cases fl with
    |nx I=>
     cases h2:outs pr I 0 ds with
     |none=>simp[h2]at e
     |some o=>
      obtain⟨rfl,rfl⟩:D.non=d/\o=ds':=by simpa[h2]using e
      refine λB H' S1 s1 m=>q .non H' [] _ (Ci st hp (M:=[]) (by rw[sG];exact s1) m (by simp) h2) (by rw[Rep];exact⟨rfl,rfl⟩) rfl ZR (by simp) ⟨m.kp,λi a z=>m.gr i a (sub z),λi h=>by cases h⟩
    |ret d' I=>
     cases h2:outs pr I 0 ds with
     |none=>simp[h2]at e
     |some o=>
      obtain⟨rfl,rfl⟩:d'=d/\o=ds':=by simpa[h2]using e
      refine λv B H' M S1 s1 r c n f m=>q v H' M _ (Ci st hp s1 m f h2) ?_ c n f ⟨m.kp,λi a z=>m.gr i a (sub z),λi h=>by cases h⟩;have a0:=(by simpa[clean]using c:aD d'=true/\aC d'=true);have ev:Evo H' H' (wn ob S1 (plus M Fr)) (wn ob (λi=>if pr i=true/\i<ds.length then S1 i else[]) (plus M Fr)):=⟨λb u U f=>⟨U,⟨f.1,λ⟨j,z1,J⟩=>f.2.1 ⟨j,z1,sub J⟩,λ⟨j,z1,J⟩=>f.2.2 ⟨j,z1,sub J⟩⟩⟩,λ_ _ h=>h⟩;exact r.mono ev (.inl a0.1) (.inl a0.2) λ_ _ _ h=>h
    |brk I=>cases e
    |cnt I=>cases e
  .cases e
end
def RfM(G:Gc)(ob:Nat->Bool)(t:TA)(js:List Nat)(f:En->Option (List D×En)):Prop:=∀(ρ:En)(ds:List D)(I:En),f ρ=some (ds,I)->∀(σ:L2.St)(H:Hp)(S:Ad)(Fr:Addr->Prop),Sta G H ob ρ σ S Fr->
 ∀us:List V,js.map (λj=>σ[j]?)=us.map (λu=>some (some u))->∀Q:List V->Hp->Prop,
 (∀vs H' M S',Sta G H' ob I σ S' (plus M Fr)->aH G H' (wn ob S' (plus M Fr)) ds vs M->M.Nodup->Eff ob H H' S S' M->Q (us++vs) H')->t σ H Q
structure PVM{ι:Type}(X:ι->Cx)(G:Gc)(ob:Nat->Bool)(es:List Expr)(js:List Nat)(f:En->Option (List D×En)):Prop where
 mk::(ex:∃t,(∀c,PA (X c) es t)/\RfM G ob t js f)
variable{f:En->Option (List D×En)}
theorem cY(h:Bq X G ob es f):PVM X G ob es [] f:=by
 obtain⟨t,N,z⟩:=h.ex;refine⟨t,N,λρ ds I e σ H S Fr s us J Q q=>?_⟩;have:us=[]:=by simpa using J
 subst this;exact z ρ ds I e σ H S Fr s Q q
theorem cW(i:Nat)(h:PVM X G ob es js f)(Y:∀c,(X c).N[i]? =some x:=by intro _;rfl)(z:∀c,Vis (X c).env.scope x:=by intro _;first|exact aba rfl|exact aaL (aba rfl)|exact aaL (aaL rfl))(hd:1.21=false:=by decide)(V:(x==("__classdict__":Str))=false:=by decide)(B:∀c,Zb (.Name x pos::es) (X c).env=(false,eval (.Name x pos) (X c).env)::Zb es (X c).env:=by intro _;rfl):PVM X G ob (.Name x pos::es) (i::js) f:=by
 obtain⟨t,O,F⟩:=h.ex;refine⟨_,λc=>Aa (pv i (Y c) (z c) hd V) (O c) (B c),λρ ds I e σ H S Fr s us J Q q=>?_⟩;cases us with
 |nil=>simp at J
 |cons u us=>
  rw[YT,YT]at J;injection J with h1 h2;exact⟨u,h1,F ρ ds I e σ H S Fr s us h2 _ λvs H' M S' s' r n U=>q vs H' M S' s' r n U⟩
def objs(js:List Nat)(ρ:En):Option (List D):=js.mapM λj=>ρ[j]?.bind id
def iH:List Nat->List D->En->En
 |j::js,d::ds,ρ=>iH js ds (ρ.set j (some d))
 |_,_,ρ=>ρ
def eIo(F:List D->Option (D×List D))(js:List Nat)(f:En->Option (List D×En)):En->Option (D×En):=λρ=>if(objs js ρ).isSome=true then(f ρ).bind λp=>(objs js p.2).bind λos=>if aB p.1=true then(F (os++fzL p.1)).bind λq=>
 if az p.1=true∨(bj q.1=true/\bB (q.2.take js.length)=true)then some (q.1,iH js q.2 p.2)else none else none else none
theorem zA{ρ:En}:∀{js:List Nat}{os:List D},objs js ρ=some os->os.length=js.length/\∀(k j:Nat),js[k]? =some j->∃d,os[k]? =some d/\ρ[j]? =some (some d)
 |[],os,h=>by
  have:os=[]:=by simpa[objs]using h.symm
  subst this;exact⟨rfl,λk j h=>by simp at h⟩
 |j::js,os,h=>by
  unfold objs at h;rw[List.mapM_cons]at h;cases h1:ρ[j]?.bind id with
  |none=>simp[h1]at h
  |some d=>
   cases h2:js.mapM (λj=>ρ[j]?.bind id)with
   |none=>simp[h1,h2]at h
   |some t=>
    have:os=d::t:=by simpa[h1,h2]using h.symm
    subst this;obtain⟨l,g⟩:=zA (js:=js) (os:=t) h2;refine⟨by simp[l],λk i e=>?_⟩;cases k with
    |zero=>
     have:j=i:=by simpa using e
     subst this;refine⟨d,rfl,?_⟩;cases B:ρ[j]? with
     |none=>rw[B]at h1;cases h1
     |some o=>rw[B]at h1;simpa using h1
    |succ k=>simpa using g k i (by simpa using e)
theorem xZ:∀(js:List Nat)(ds:List D)(ρ:En),(iH js ds ρ).length=ρ.length
 |[],ds,ρ=>by cases ds<;>rfl
 |_::_,[],ρ=>rfl
 |j::js,d::ds,ρ=>by rw[iH,xZ js ds];simp
theorem su:∀{js:List Nat}{ds:List D}{ρ:En}{j:Nat},j∉js->(iH js ds ρ)[j]? =ρ[j]?
 |[],ds,ρ,j,_=>by cases ds<;>rfl
 |_::_,[],ρ,j,_=>rfl
 |i::js,d::ds,ρ,j,h=>by
  rw[iH,su (λz=>h (Zw _ z)),List.getElem?_set_ne λz=>h (by rw[z];exact ZW)]
theorem wN:∀{js:List Nat}{ds:List D}{ρ:En}{k j:Nat}{d:D},js.Nodup->js[k]? =some j->ds[k]? =some d->j<ρ.length->(iH js ds ρ)[j]? =some (some d)
 |[],ds,ρ,k,j,d,_,h,_,_=>by simp at h
 |_::_,[],ρ,k,j,d,_,_,h,_=>by simp at h
 |i::js,d0::ds,ρ,k,j,d,n,h1,h2,hl=>by
  rw[iH];cases k with
  |zero=>
   have e1:i=j:=by simpa using h1
   have e2:d0=d:=by simpa using h2
   subst e1 e2;rw[su (Zv.mp n).1];simp[hl]
  |succ k=>exact wN (Zv.mp n).2 (by simpa using h1) (by simpa using h2) (by simpa using hl)
def pick(S:Ad)(js:List Nat):Ad:=λi=>match js[i]? with
 |some j=>S j
 |none=>[]
theorem kj(h:a∈pick S js i):∃j,js[i]? =some j/\a∈S j:=by
 unfold pick at h;split at h
 .rename_i j e;exact⟨j,e,h⟩
 .cases h
def back(S:Ad)(js:List Nat)(Sc:Ad):Ad:=λj=>match js.idxOf? j with
 |some i=>Sc i
 |none=>S j
theorem vG(h:js.idxOf? j=some i):js[i]? =some j:=by
 obtain⟨h1,h2,B⟩:=ZM.mp h;have:js[i]=j:=by simpa using h2
 rw[Zc h1,this]
theorem Cq(h:js.idxOf? j=none):j∉js:=by
 intro z;have:=aaV.mp h j z;simp at this
theorem Uc(n:js.Nodup)(h:js[i]? =some j):js.idxOf? j=some i:=by
 cases e:js.idxOf? j with
 |none=>exact absurd (Zo h) (Cq e)
 |some k=>
  have:=vG e;have I:k<js.length:=(List.getElem?_eq_some_iff.mp this).1;rw[(abn I n).mp (this.trans h.symm)]
theorem QW{Sc:Ad}(n:js.Nodup)(h:js[i]? =some j):back S js Sc j=Sc i:=by unfold back;rw[Uc n h]
theorem yE{Sc:Ad}(h:j∉js):back S js Sc j=S j:=by
 unfold back;split
 .rename_i i e;exact absurd (Zo (vG e)) h
 .rfl
theorem mY{Sc:Ad}(h:a∈back S js Sc j):(∃i,js[i]? =some j/\a∈Sc i)∨(j∉js/\a∈S j):=by
 unfold back at h;split at h
 .rename_i i e;exact .inl ⟨i,vG e,h⟩
 .rename_i e;exact .inr ⟨Cq e,h⟩
theorem zO(h:bB (ds.take k)=true)(e:ds[i]? =some d)(hi:i<k):bj d=true:=by
 induction ds generalizing k i with
 |nil=>simp at e
 |cons a r N=>
  cases k with
  |zero=>omega
  |succ k=>
   rw[List.take_succ_cons,bB,ZQ]at h;cases i with
   |zero=>
    have:a=d:=by simpa using e
    rw[←this];exact h.1
   |succ i=>exact N h.2 (by simpa using e) 1.11
theorem Gk:∀{js:List Nat},(∀j∈js,∃u,σ[j]? =some (some u))->∃us:List V,js.map (λj=>σ[j]?)=us.map (λu=>some (some u))
 |[],_=>⟨[],rfl⟩
 |j::js,h=>by
  obtain⟨us,J⟩:=Gk (js:=js) λi hi=>h i (Zw _ hi);obtain⟨u,q⟩:=h j ZW;exact⟨u::us,by rw[YT,YT,J,q]⟩
theorem Oj{F:List D->Option (D×List D)}(hj:js.Nodup)(N:∀j∈js,ob j=true)(hp:∀i,i<js.length->pr i=true)(h:RfM G ob t js f) :
  lE G ob (λσ H Q=>t σ H λvs H1=>spI G oc pr F (vs++[]) H1 Q E) (eIo F js f):=λρ d c9 e σ H S Fr s Q q=>by
 unfold eIo at e;split at e
 .rename_i hsome
  cases h0:objs js ρ with
  |none=>rw[h0]at hsome;cases hsome
  |some d6=>
   cases h1:f ρ with
   |none=>simp[h1]at e
   |some p=>
    obtain⟨ds,ρ1⟩:=p;rw[h1]at e;simp![YK]at e;cases h2:objs js ρ1 with
    |none=>simp[h2]at e
    |some os=>
     rw[h2]at e;simp![YK]at e;split at e
     .rename_i hbro
      cases B:F (os++fzL ds)with
      |none=>simp[B]at e
      |some z=>
       obtain⟨d1,a2⟩:=z;rw[B]at e;simp![YK]at e;split at e
       .rename_i b5
        obtain⟨rfl,rfl⟩:d1=d/\iH js a2 ρ1=c9:=by simpa using e
        obtain⟨l0,g0⟩:=zA h0;obtain⟨l1,g1⟩:=zA h2;have a9:∃us:List V,js.map (λj=>σ[j]?)=us.map (λu=>some (some u)):=by
         have:∀j∈js,∃u,σ[j]? =some (some u):=λj hj=>by
          obtain⟨k,I⟩:=ZS.mp hj;obtain⟨d0,_,q2⟩:=g0 k j I;obtain⟨v,q3,_⟩:=s.sl j d0 q2;exact⟨v,q3⟩
         exact Gk this
        obtain⟨us,a9⟩:=a9;have b8:us.length=js.length:=by have:=congrArg abv a9;simpa using this.symm
        have c6:∀(k j:Nat)(u:V),js[k]? =some j->us[k]? =some u->σ[j]? =some (some u):=λk j u h1 h2=>by
         have:=congrArg (λl=>l[k]?) a9;simp![List.getElem?_map,h1,h2,aaJ,abm]at this;exact this
        refine h ρ ds ρ1 h1 σ H S Fr s us a9 _ λvs H1 M S1 s1 r1 d5 c4=>?_;rw[Zu];have b0:∀{i a},a∈pick S1 js i->inO ob S1 a:=λ{i a} z=>by
         obtain⟨j,e,y⟩:=kj z;exact⟨j,N j (Zo e),y⟩
        have a1:∀{a},inS (pick S1 js) a->inO ob S1 a:=λ⟨i,z⟩=>b0 z;have a8:∀{i a},a∈S1 i->¬(wn ob S1 (plus M Fr)).free a:=λ{i a} z f=>by
         cases b2:ob i with
         |false=>exact f.2.1 ⟨i,b2,z⟩
         |true=>exact f.2.2 ⟨i,b2,z⟩
        let a4:Addr->Prop:=λa=>az ds=true/\((Fr a∨inS S1 a)/\¬inS (pick S1 js) a)
        have b3:∀a,(wn ob S1 (plus M Fr)).free a->(wn oc (pick S1 js) a4).free a:=λa f=>by
         refine⟨λz=>?_,λ⟨i,_,z⟩=>?_,λ⟨i,_,z⟩=>?_⟩
         .rcases z.2.1 with y|⟨i,y⟩
          .exact f.1 (.inr y)
          .exact a8 y f
         .exact f.2.2 (b0 z)
         .exact f.2.2 (b0 z)
        have c8:∀a∈M,¬Fr a:=λa Y z=>by
         rcases c4.fm a Y with y|y
         .exact s.notO z y
         .obtain⟨o,N,_⟩:=s.fdm a z
          rw[y]at N;cases N
        have b9:∀a∈M,(wn oc (pick S1 js) a4).free a:=λa Y=>by
         refine⟨λz=>?_,λ⟨i,_,z⟩=>?_,λ⟨i,_,z⟩=>?_⟩
         .rcases z.2.1 with y|⟨i,y⟩
          .exact c8 a Y y
          .exact s1.fdj i a (.inl Y) y
         .obtain⟨j,_,y⟩:=kj z;exact s1.fdj j a (.inl Y) y
         .obtain⟨j,_,y⟩:=kj z;exact s1.fdj j a (.inl Y) y
        have c7:aH G H1 (wn oc (pick S1 js) a4) (fzL ds) vs []:=by
         refine r1.fz2 ⟨b3,b9⟩ ?_ (.inl hbro);by_cases c5:az ds=true
         .exact .inl c5
         .refine .inr λa Y=>⟨λz=>c5 z.1,λ⟨i,_,z⟩=>?_,λ⟨i,_,z⟩=>?_⟩
          .obtain⟨i1,o1,y1⟩:=Y
           obtain⟨i2,o2,y2⟩:=b0 z;rw[s1.dj i1 i2 a y1 y2,o2]at o1;cases o1
          .obtain⟨i1,o1,y1⟩:=Y
           obtain⟨i2,o2,y2⟩:=b0 z;rw[s1.dj i1 i2 a y1 y2,o2]at o1;cases o1
        have sc:Sta G H1 oc ((os++fzL ds).map some) ((us++vs).map some) (pick S1 js) a4:=by
         refine⟨by simp[l1,b8,c7.length],λi d0 hi=>?_,λi hi=>?_,λi=>?_,λi k a h1 h2=>?_,λi a h1 h2=>h1.2.2 ⟨i,h2⟩,λa Y=>?_⟩
         .have hi:=kY hi
          by_cases b4:i<js.length
          .obtain⟨dd,q1,q2⟩:=g1 i js[i] (by simp[b4])
           rw[ZC 1.11,q1]at hi;cases hi;obtain⟨v,q3,q4,q5⟩:=s1.sl _ _ q2;have a5:=(by simpa[clean]using q5:aD d0=true/\aC d0=true);have d4:∃u,us[i]? =some u:=⟨us[i],by simp[b8,b4]⟩;obtain⟨u,J⟩:=d4;have:=c6 i js[i] u (by simp[b4]) J;rw[q3]at this;cases this;refine⟨v,fD (by rw[ZC 1.11];exact J),?_,q5⟩;have:pick S1 js i=S1 js[i]:=by unfold pick;rw[Zc b4]
           rw[this];have ev:Evo H1 H1 (wn ob S1 (plus M Fr)) (wn oc (pick S1 js) a4):=⟨λb u h f=>⟨h,b3 b f⟩,λ_ _ h=>h⟩;exact q4.mono ev (.inl a5.1) (.inl a5.2) λ_ _ _ h=>h
          .rw[aaq 1.11]at hi
           obtain⟨x,M',q1,q2,q3⟩:=c7.get hi;have:M'=[]:=by simpa using q3
           subst this;refine⟨x,fD (by rw[aaq 1.11,b8,←l1];exact q1),?_,by simp[clean,iV (il ds) hi,iW (iu ds) hi]⟩;have:pick S1 js i=[]:=by unfold pick;rw[ada 1.11]
           rw[this];exact q2
         .unfold pick
          split
          .rename_i j hj'
           exfalso;obtain⟨dd,q1,q2⟩:=g1 i j hj';exact hi dd (fD (by rw[ZC (by rw[l1];exact(List.getElem?_eq_some_iff.mp hj').1)];exact q1))
          .rfl
         .unfold pick
          split
          .exact s1.nd _
          .exact ZR
         .obtain⟨j1,e1,y1⟩:=kj h1
          obtain⟨j2,e2,y2⟩:=kj h2;have:=s1.dj j1 j2 a y1 y2;rw[this,←e2]at e1;exact(abn (by
           cases hh:js[i]? with
           |none=>rw[hh,e2]at e1;cases e1
           |some _=>exact(List.getElem?_eq_some_iff.mp hh).1) hj).mp e1
         .rcases Y.2.1 with y|⟨i,y⟩
          .exact s1.fdm a (.inr y)
          .exact s1.mu y
        refine⟨os++fzL ds,pick S1 js,a4,sc,λi hi=>?_,d1,a2,B,λv H2 Mc Sc O r2 c2 n2 b7 m2=>?_⟩
        .unfold pick
         split
         .rename_i j hj'
          rw[hp i (List.getElem?_eq_some_iff.mp hj').1]at hi;cases hi
         .rfl
        .have l2:a2.length=(os++fzL ds).length:=by
          have h1:=O.len;have h2:=sc.len;simp![Ze]at h1 h2;rw[h1,←h2]
         have kept:∀b u,H1 b=some u->¬inS (pick S1 js) b->H2 b=some u:=λb u U n=>m2.kp b u U n (by simp);have a3:∀{i b},b∈Sc i->inS (pick S1 js) b∨H1 b=none:=λ{i b} z=>(m2.gr i b z).imp id λy=>y.resolve_left (by simp);have c0:∀{b},Fr b->¬inS (pick S1 js) b:=λ{b} z ⟨i,y⟩=>by obtain⟨j,_,y⟩:=kj y;exact s1.fdj j b (.inr z) y
         have a0:∀{j b},j∉js->b∈S1 j->¬inS (pick S1 js) b:=λ{j b} hn z ⟨i,y⟩=>by
          obtain⟨k,e,y⟩:=kj y;rw[s1.dj j k b z y]at hn;exact hn (Zo e)
         have b6:∀{i b},b∈S1 i->H1 b≠none:=λ{i b} z y=>by obtain⟨o,N,_⟩:=s1.mu z;rw[y]at N;cases N
         have ev:Evo H1 H2 (wn ob S1 (plus M Fr)) (wn ob (back S1 js Sc) (plus Mc Fr)):=by
          refine⟨λb u U f=>?_,λb xs h=>?_⟩
          .have n1:¬inS (pick S1 js) b:=λz=>f.2.2 (a1 z)
           have n2:∀i,b∉back S1 js Sc i:=λi z=>by
            rcases mY z with⟨k,_,y⟩|⟨_,y⟩
            .rcases a3 y with y|y
             .exact n1 y
             .rw[U]at y;cases y
            .exact a8 y f
           refine⟨kept b u U n1,λz=>?_,λ⟨i,_,z⟩=>n2 i z,λ⟨i,_,z⟩=>n2 i z⟩;rcases z with z|z
           .rcases b7 b z with y|y
            .exact n1 y
            .rw[U]at y;cases y
           .exact f.1 (.inr z)
          .have no:∀u,H1 b=some u->muO u=false->H2 b=some u:=λu J mu=>kept b u J λ⟨i,z⟩=>by
            obtain⟨j,_,z⟩:=kj z;obtain⟨o,N,hm⟩:=s1.mu z;rw[J]at N;cases N;rw[mu]at hm;cases hm
           exact no _ h rfl
         have conv:∀(e:D)(x:V)(L:List Addr),(az ds=true∨bj e=true)->clean e=true->Rep G H2 (wn oc Sc (plus Mc a4)) e x L->Rep G H2 (wn ob (back S1 js Sc) (plus Mc Fr)) e x L:=λe x L Z b5 r=>by
          rcases Z with Z|Z
          .have a5:=(by simpa[clean]using b5:aD e=true/\aC e=true)
           have d3:Evo H2 H2 (wn oc Sc (plus Mc a4)) (wn ob (back S1 js Sc) (plus Mc Fr)):=⟨λb u U f=>?_,λ_ _ h=>h⟩
           .exact r.mono d3 (.inl a5.1) (.inl a5.2) λ_ _ _ h=>h
           .have nSc:∀i,b∉Sc i:=λi z=>by
             cases b2:oc i with
             |false=>exact f.2.1 ⟨i,b2,z⟩
             |true=>exact f.2.2 ⟨i,b2,z⟩
            have nb:∀j,b∉back S1 js Sc j:=λj z=>by
             rcases mY z with⟨k,_,y⟩|⟨hn,y⟩
             .exact nSc k y
             .exact f.1 (.inr ⟨Z,.inr ⟨j,y⟩,a0 hn y⟩)
            refine⟨U,λz=>?_,λ⟨i,_,z⟩=>nb i z,λ⟨i,_,z⟩=>nb i z⟩;rcases z with z|z
            .exact f.1 (.inl z)
            .exact f.1 (.inr ⟨Z,.inl z,c0 z⟩)
          .exact r.own Z
         have d2:∀(j:Nat)(d0:D),(iH js a2 ρ1)[j]? =some (some d0)->∃v,σ[j]? =some (some v)/\Rep G H2 (wn ob (back S1 js Sc) (plus Mc Fr)) d0 v (back S1 js Sc j)/\clean d0=true:=λj d0 a7=>by
          by_cases a6:j∈js
          .obtain⟨k,I⟩:=ZS.mp a6
           have c3:k<js.length:=(List.getElem?_eq_some_iff.mp I).1;obtain⟨dd,q1,q2⟩:=g1 k j I;have c1:j<ρ1.length:=(List.getElem?_eq_some_iff.mp q2).1;have b1:k<a2.length:=by rw[l2,aay];omega
           rw[wN hj I (d:=a2[k]) (by simp[b1]) c1]at a7;cases a7;obtain⟨v,q3,q4,q5⟩:=O.sl k a2[k] (fD (by simp[b1]));have q3:=kY q3;rw[ZC 1.11]at q3;refine⟨v,c6 k j v I q3,?_,q5⟩;rw[QW hj I];refine conv _ _ _ (b5.imp id λz=>zO z.2 (by simp[b1]) c3) q5 q4
          .rw[su a6]at a7
           obtain⟨v,q1,q2,q3⟩:=s1.sl j d0 a7;have a5:=(by simpa[clean]using q3:aD d0=true/\aC d0=true);refine⟨v,q1,?_,q3⟩;rw[yE a6];exact q2.mono ev (.inl a5.1) (.inl a5.2) λc Z u J=>kept c u J (a0 a6 Z)
         refine q v H2 Mc (back S1 js Sc) ⟨?_,d2,?_,?_,?_,?_,?_⟩ (conv _ _ _ (b5.imp id λz=>z.1) c2 r2) n2 ?_
         .rw[xZ];exact s1.len
         .intro j a7
          by_cases a6:j∈js
          .obtain⟨k,I⟩:=ZS.mp a6
           obtain⟨dd,q1,q2⟩:=g1 k j I;have c1:j<ρ1.length:=(List.getElem?_eq_some_iff.mp q2).1;have c3:k<js.length:=(List.getElem?_eq_some_iff.mp I).1;have b1:k<a2.length:=by rw[l2,aay];omega
           exact absurd (wN hj I (d:=a2[k]) (by simp[b1]) c1) (a7 _)
          .rw[yE a6]
           exact s1.em j λd0=>by have:=a7 d0;rwa[su a6]at this
         .intro j
          unfold back;split
          .exact O.nd _
          .exact s1.nd j
         .intro i k a y1 y2
          rcases mY y1 with⟨i1,e1,z1⟩|⟨e1,z1⟩<;>rcases mY y2 with⟨i2,e2,z2⟩|⟨e2,z2⟩
          .have:=O.dj i1 i2 a z1 z2
           rw[this,e2]at e1;exact(aah e1).symm
          .rcases a3 z1 with y|y
           .exact absurd y (a0 e2 z2)
           .exact absurd y (b6 z2)
          .rcases a3 z2 with y|y
           .exact absurd y (a0 e1 z1)
           .exact absurd y (b6 z1)
          .exact s1.dj i k a z1 z2
         .intro j a Y z
          rcases mY z with⟨i,_,y⟩|⟨hn,y⟩
          .rcases Y with Y|Y
           .exact O.fdj i a (.inl Y) y
           .rcases a3 y with y|y
            .exact c0 Y y
            .obtain⟨o,N,_⟩:=s1.fdm a (.inr Y)
             rw[y]at N;cases N
          .rcases Y with Y|Y
           .rcases b7 a Y with y'|y'
            .exact a0 hn y y'
            .exact b6 y y'
           .exact s1.fdj j a (.inr Y) y
         .intro a Y
          rcases Y with Y|Y
          .exact r2.dom a Y
          .obtain⟨o,N,hm⟩:=s1.fdm a (.inr Y)
           exact⟨o,kept a o N (c0 Y),hm⟩
         .have ef2:Eff ob H1 H2 S1 (back S1 js Sc) Mc:=by
           refine⟨λb u U n=>kept b u U λz=>n (a1 z),λi hi=>yE (λz=>by rw[N i z]at hi;cases hi),λi a hi z=>?_,λa Y=>(b7 a Y).imp (λy=>a1 y) id⟩;rcases mY z with⟨k,_,y⟩|⟨_,y⟩
           .exact(a3 y).imp (λy=>a1 y) id
           .exact .inl ⟨i,hi,y⟩
          exact(c4.trans ef2).same (Same.refl _) λc Z=>.inl (YJ _ Z)
       .cases e
     .cases e
 .cases e
theorem eV(js:List Nat){F:List D->Option (D×List D)}(C:∀c,Cal (X c).prog (X c).w (X c).K (X c).mg (X c).base k x ps (spI G oc pr F))(O:∀c,gV k (X c).A)(Y:PVM X G ob (e::es) js f)(z:js.Nodup:=by decide)(N:∀j∈js,ob j=true:=by decide)(I:∀i,i<js.length->pr i=true:=by decide)(B:∀c,Gl (X c) x:=by intro _;rfl)(J:1.21=false:=by decide)(V:∀c,Zb (e::es) (X c).env=(false,eval e (X c).env)::Zb es (X c).env:=by intro _;rfl)(q:∀c,(aaA pos (Zb es (X c).env)).any (·.1)=false:=by intro _;rfl) :
 PVe X G ob (.Call (.Name x p) (e::es) [] pos) (eIo F js f):=let⟨t,a1,a2⟩:=Y.ex;⟨_,λc=>MT (C c) (O c) (B c) (a1 c) J (V c) (q c),Oj z N I a2⟩
def kids:D->List D
 |.tup ds=>ds
 |.lst _ ds=>ds
 |.dct _ _ ds=>ds
 |.ins _ _ _ ds=>ds
 |_=>[]
def xG:D->List D->D
 |.tup _,es=>.tup es
 |.lst m _,es=>.lst m es
 |.dct m ks _,es=>.dct m ks es
 |.ins m c fs _,es=>.ins m c fs es
 |d,_=>d
def fu:List Nat->D->Option D
 |[],d=>some d
 |j::p,d=>((kids d)[j]?).bind (fu p)
def fY:List Nat->D->D->D
 |[],e,_=>e
 |j::p,e,d=>match(kids d)[j]? with
  |some c=>xG d ((kids d).set j (fY p e c))
  |none=>d
theorem Evo.trans{H1:Hp}{W1 N:Wn}(a:Evo H H1 W W1)(b:Evo H1 H2 W1 N):Evo H H2 W N:=⟨λc u h f=>let⟨h1,f1⟩:=a.k c u h f;b.k c u h1 f1,λc xs h=>b.t c xs (a.t c xs h)⟩
structure Foc(G:Gc)(H:Hp)(W:Wn)(d0:D)(v0:V)(L:List Addr)(p:List Nat)(d:D)(v:V)(M:List Addr):Prop where
 r:Rep G H W d v M
 b:∃A B,L=A++(M++B)/\∀H' W' d' M',Evo H H' W W'->(∀c∈A++B,∀u,H c=some u->H' c=some u)->Rep G H' W' d' v M'->Rep G H' W' (fY p d' d0) v0 (A++(M'++B))
theorem Foc.nil(r:Rep G H W d v L):Foc G H W d v L [] d v L:=⟨r,[],[],by simp,λH' W' d' M' _ _ h=>by simpa[fY]using h⟩
variable{p:List Nat}{d0:D}
theorem Foc.mono{H1:Hp}{W1:Wn}{q:V}(f:Foc G H W d0 q L p d v M)(Z:clean d=true∨Up H H1 W W1)(e:Evo H H1 W W1)(k:∀c∈L,∀u,H c=some u->H1 c=some u):Foc G H1 W1 d0 q L p d v M:=by
 obtain⟨A,B,O,U⟩:=f.b;refine⟨?_,A,B,O,λH' W' d' M' N Y F=>U H' W' d' M' (e.trans N) (λc Z u J=>Y c Z u (k c ?_ u J)) F⟩
 .rcases Z with Z|Z
  .have hcc:=(by simpa[clean]using Z:aD d=true/\aC d=true)
   exact f.r.mono e (.inl hcc.1) (.inl hcc.2) λc Z u J=>k c (by rw[O];simp[Z]) u J
  .exact f.r.up Z
 .rw[O]
  simp![YL]at Z⊢;rcases Z with z|z<;>simp[z]
theorem M5(p:List Nat)(j:Nat)(e:D):∀(d0:D){d:D},fu p d0=some d->(kids d)[j]?≠none->fY (p++[j]) e d0=fY p (fY [j] e d) d0:=by
 induction p with
 |nil=>intro d0 d h _;cases h;rfl
 |cons k p N=>
  intro d0 d h hn;simp![fu]at h;cases h1:(kids d0)[k]? with
  |none=>simp[h1]at h
  |some c=>
   have h:fu p c=some d:=by simpa[h1]using h
   rw[ZK,fY,fY,h1];simp only;rw[N c h hn]
theorem Cv(p:List Nat)(j:Nat):∀(d0:D){d:D},fu p d0=some d->fu (p++[j]) d0=(kids d)[j]?:=by
 induction p with
 |nil=>
  intro d0 d h;cases h;simp![List.nil_append,fu];cases (kids d0)[j]?<;>rfl
 |cons k p N=>
  intro d0 d h;simp![fu]at h;cases h1:(kids d0)[k]? with
  |none=>simp[h1]at h
  |some c=>
   have h:fu p c=some d:=by simpa[h1]using h
   rw[ZK,fu,h1];exact N c h
theorem pP(h:clean (.lst m ds)=true):az ds=true/\aB ds=true:=by simp[clean,aD,aC]at h;exact⟨h.1.2,h.2.2⟩
theorem b8{a b:List D}:az (a++b)=(az a&&az b):=by
 induction a with
 |nil=>rfl
 |cons d r N=>rw[ZK,az,az,N,af4]
theorem bY{a b:List D}:aB (a++b)=(aB a&&aB b):=by
 induction a with
 |nil=>rfl
 |cons d r N=>rw[ZK,aB,aB,N,af4]
variable{c:D}
theorem aH.kid(O:aH G H W ds xs L)(U:az ds=true)(N:aB ds=true)(e:ds[j]? =some c) :
  ∃x A M B,xs[j]? =some x/\L=A++(M++B)/\Rep G H W c x M/\∀H' W' d' M',Evo H H' W W'->(∀b∈A++B,∀u,H b=some u->H' b=some u)->Rep G H' W' d' x M'->aH G H' W' (ds.set j d') xs (A++(M'++B)):=by
 obtain⟨P,Q,x,ys,zs,z,M1,Z,rfl,q,rfl,Y,rfl,h1,h2,h3⟩:=O.at e;simp![b8,bY,az,aB,ZQ]at U N;refine⟨x,z,M1,Z,by rw[aaq 1.11,Y,abY];rfl,rfl,h2,λH' W' d' M' I kp F=>?_⟩;rw[←q,adb _ _ (YX _),abY];exact aH.append (h1.mono I (.inl U.1) (.inl N.1) λb U u J=>kp b (YW _ U) u J) (aH.cons F (h3.mono I (.inl U.2.2) (.inl N.2.2) λb U u J=>kp b (YJ _ U) u J))
theorem Foc.lst{ds:List D}(r:Rep G H W (.lst .own ds) v L)(Z:clean (.lst .own ds)=true)(e:ds[j]? =some c):∃a xs x M,v= .ref a/\H a=some (.lst xs)/\xs.length=ds.length/\xs[j]? =some x/\Foc G H W (.lst .own ds) v L [j] c x M:=by
 rw[Rep]at r;obtain⟨a,xs,N,rfl,O,Y,rfl⟩:=r;obtain⟨h1,h2⟩:=pP Z;obtain⟨x,A,M,B,J,rfl,rx,U⟩:=O.kid h1 h2 e;refine⟨a,xs,x,M,rfl,Y,O.length.symm,J,rx,a::A,B,by simp,λH' W' d' M' I kp F=>?_⟩;have z:fY [j] d' (.lst .own ds)= .lst .own (ds.set j d'):=by simp![fY,kids,e,xG]
 rw[z,Rep];exact⟨a,xs,A++(M'++B),rfl,U H' W' d' M' I (λb U u q=>kp b (Zw _ U) u q) F,kp a (by simp) _ Y,by simp⟩
theorem Foc.tup{ds:List D}(r:Rep G H W (.tup ds) v L)(Z:clean (.tup ds)=true)(e:ds[j]? =some c):∃a xs x M,v= .ref a/\H a=some (.tup xs)/\xs.length=ds.length/\xs[j]? =some x/\Foc G H W (.tup ds) v L [j] c x M:=by
 rw[Rep]at r;obtain⟨a,xs,rfl,Y,O⟩:=r;have q:az ds=true/\aB ds=true:=by simpa[clean,aD,aC]using Z
 obtain⟨x,A,M,B,J,rfl,rx,U⟩:=O.kid q.1 q.2 e;refine⟨a,xs,x,M,rfl,Y,O.length.symm,J,rx,A,B,rfl,λH' W' d' M' I kp F=>?_⟩;have z:fY [j] d' (.tup ds)= .tup (ds.set j d'):=by simp![fY,kids,e,xG]
 rw[z,Rep];exact⟨a,xs,rfl,I.t a xs Y,U H' W' d' M' I kp F⟩
variable{ks:List Key}
theorem Foc.dct(r:Rep G H W (.dct .own ks ds) v L)(Z:clean (.dct .own ks ds)=true)(e:ds[j]? =some c):∃a kvs x M,v= .ref a/\H a=some (.dK kvs)/\(kvs.map (·.1)=ks/\ks.Nodup)/\(kvs.map (·.2))[j]? =some x/\Foc G H W (.dct .own ks ds) v L [j] c x M:=by
 rw[Rep]at r;obtain⟨a,kvs,N,rfl,I,O,Y,rfl⟩:=r;have q:az ds=true/\aB ds=true:=by simp[clean,aD,aC]at Z;exact Z
 obtain⟨x,A,M,B,J,rfl,rx,U⟩:=O.kid q.1 q.2 e;refine⟨a,kvs,x,M,rfl,Y,I,J,rx,a::A,B,by simp,λH' W' d' M' ev kp F=>?_⟩;have z:fY [j] d' (.dct .own ks ds)= .dct .own ks (ds.set j d'):=by simp![fY,kids,e,xG]
 rw[z,Rep];exact⟨a,kvs,A++(M'++B),rfl,I,U H' W' d' M' ev (λb U u V=>kp b (Zw _ U) u V) F,kp a (by simp) _ Y,by simp⟩
theorem Foc.ins{V:Str}{fs:List Str}{ds:List D}(r:Rep G H W (.ins .own V fs ds) v L)(Z:clean (.ins .own V fs ds)=true)(e:ds[j]? =some c):∃a C dx kvs x M,v= .ref a/\G.mg V=some (.ref C)/\H a=some (.ins C dx kvs)/\kvs.map (·.1)=fs/\(kvs.map (·.2))[j]? =some x/\Foc G H W (.ins .own V fs ds) v L [j] c x M:=by
 rw[Rep]at r;obtain⟨a,C,dx,kvs,N,rfl,F,I,O,Y,rfl⟩:=r;have q:az ds=true/\aB ds=true:=by simp[clean,aD,aC]at Z;exact Z
 obtain⟨x,A,M,B,J,rfl,rx,U⟩:=O.kid q.1 q.2 e;refine⟨a,C,dx,kvs,x,M,rfl,F,Y,I,J,rx,a::A,B,by simp,λH' W' d' M' ev kp r'=>?_⟩;have z:fY [j] d' (.ins .own V fs ds)= .ins .own V fs (ds.set j d'):=by simp![fY,kids,e,xG]
 rw[z,Rep];exact⟨a,C,dx,kvs,A++(M'++B),rfl,F,I,U H' W' d' M' ev (λb U u hu=>kp b (Zw _ U) u hu) r',kp a (by simp) _ Y,by simp⟩
theorem Foc.trans{q x:V}{L0:List Addr}(f:Foc G H W d0 q L0 p d v L)(g:Foc G H W d v L [j] c x M)(F:fu p d0=some d)(hj:(kids d)[j]?≠none):Foc G H W d0 q L0 (p++[j]) c x M:=by
 obtain⟨A,B,O,U⟩:=f.b;obtain⟨Z,Y,N,a0⟩:=g.b;refine⟨g.r,A++Z,Y++B,by rw[O,N];simp,λH' W' d' M' I kp r'=>?_⟩;rw[M5 p j d' d0 F hj];have:=U H' W' (fY [j] d' d) (Z++(M'++Y)) I (λb U u J=>kp b ?_ u J) (a0 H' W' d' M' I (λb U u J=>kp b ?_ u J) r')
 .simpa using this
 .simp![YL]at U⊢
  rcases U with z|z<;>simp[z]
 .simp![YL]at U⊢
  rcases U with z|z<;>simp[z]
def RfP(G:Gc)(ob:Nat->Bool)(t:TE)(i:Nat)(pf:En->Option (List Nat)):Prop:=∀(ρ:En)(p:List Nat),pf ρ=some p->∀(σ:L2.St)(H:Hp)(S:Ad)(Fr:Addr->Prop),Sta G H ob ρ σ S Fr->∃d0 d,ρ[i]? =some (some d0)/\fu p d0=some d/\∀Q:VK,
 (∀v q H' M,Same H H'->σ[i]? =some (some q)->Foc G H' (wn ob S Fr) d0 q (S i) p d v M->Q v H')->t σ H Q
structure PVP{ι:Type}(X:ι->Cx)(G:Gc)(ob:Nat->Bool)(e:Expr)(i:Nat)(pf:En->Option (List Nat)):Prop where
 mk::(ex:∃t,(∀c,PE (X c) e t)/\RfP G ob t i pf)
def cz(i:Nat):En->Option (List Nat):=λρ=>match ρ[i]? with
 |some (some _)=>some []
 |_=>none
theorem bK(i:Nat)(D:∀c,(X c).N[i]? =some x:=by intro _;rfl)(z:∀c,Vis (X c).env.scope x:=by intro _;first|exact aba rfl|exact aaL (aba rfl)|exact aaL (aaL rfl))(hd:1.21=false:=by decide)
  (V:(x==("__classdict__":Str))=false:=by decide):PVP X G ob (.Name x pos) i (cz i):=by
 refine⟨_,λc=>pv i (D c) (z c) hd V,λρ p e σ H S Fr s=>?_⟩;unfold cz at e;split at e
 .rename_i d h1
  cases e;obtain⟨v,h2,B,U⟩:=s.sl i d h1;exact⟨d,d,h1,rfl,λQ q=>⟨v,h2,q v v H _ (Same.refl H) h2 (.nil B)⟩⟩
 .cases e
theorem p8:∀{p:List Nat}{d:D},clean d0=true->fu p d0=some d->clean d=true:=by
 intro p
 induction p generalizing d0 with
 |nil=>intro d h e;cases e;exact h
 |cons j p N=>
  intro d h e;simp![fu]at e;cases h1:(kids d0)[j]? with
  |none=>simp[h1]at e
  |some c=>
   have e:fu p c=some d:=by simpa[h1]using e
   refine N ?_ e;have I:az (kids d0)=true/\aB (kids d0)=true:=by
    cases d0<;>simp[kids,clean,aD,aC,az,aB]at h h1⊢<;>(try exact h)<;>exact⟨h.1.2,h.2.2⟩
   simp[clean,iV I.1 h1,iW I.2 h1]
def dh:D->Option Key
 |.int i=>some (.inl i)
 |.str x=>some (.inr x)
 |_=>none
def cZ(ks:List Key)(k:Key):Option Nat:=ks.findIdx? λx=>decide (x=k)
def ixP:D->D->Option Nat
 |.lst .own ds,.int i=>ixN ds.length i
 |.tup ds,.int i=>ixN ds.length i
 |.dct .own ks ds,k=>(dh k).bind λk=>(cZ ks k).bind λj=>if j<ds.length then some j else none
 |_,_=>none
def mW(i:Nat)(pf:En->Option (List Nat))(fk:En->Option D):En->Option (List Nat):=λρ=>(pf ρ).bind λp=>(fk ρ).bind λk=>match ρ[i]? with
 |some (some d0)=>(fu p d0).bind λd=>(ixP d k).bind λj=>if j<(kids d).length then some (p++[j])else none
 |_=>none
def RD:R2:=λx y H Q=>∃a v,x= .ref a/\nA H a y (some v)/\Q v H
variable{Y:Cx}
theorem Oz(J:Y.A.units+1<cLine):IxR Y RD:=by
 intro value D pins s σ H x y v u Q I rx Z h B;obtain⟨a,z,rfl,g,q⟩:=h;cases rx;exact tail_any (Am I g) PySem.F.slot_dict_getitem.lookup (yt J I g Z λO V U N=>⟨z,H,U,N,q⟩) B
theorem MP(J:Y.A.units+1<cLine):IxR Y (λx y H Q=>rIx Y.K x y H Q∨RD x y H Q):=UV.or (Oz J)
theorem j9:∀{kvs:List (Key×V)}{k:Key}{j:Nat},cZ (kvs.map (·.1)) k=some j->lG kvs k=(kvs.map (·.2))[j]?
 |[],k,j,h=>by simp[cZ]at h
 |(k0,v)::r,k,j,h=>by
  simp![YT,cZ,aaX]at h;by_cases e:k0=k
  .subst e
   simp at h;subst h;simp[lG]
  .rw[Zy e]at h
   simp![ZG,aao]at h;cases h1:(r.map (·.1)).findIdx? (λx=>decide (x=k))with
   |none=>rw[h1]at h;cases h
   |some i=>
    rw[h1]at h;have:i+1=j:=by simpa using h
    subst this;have N:=j9 (kvs:=r) (k:=k) (j:=i) h1;simp![lG,abj,Zy e,YT,aar];exact N
theorem qe:∀{kvs:List (Key×V)}{k:Key},cZ (kvs.map (·.1)) k=none->lG kvs k=none
 |[],k,h=>rfl
 |(k0,v)::r,k,h=>by
  simp![YT,cZ,aaX]at h;by_cases e:k0=k
  .subst e
   simp at h
  .rw[Zy e]at h
   simp![ZG,aao]at h;have h1:(r.map (·.1)).findIdx? (λx=>decide (x=k))=none:=by
    cases h1:(r.map (·.1)).findIdx? (λx=>decide (x=k))with
    |none=>rfl
    |some i=>rw[h1]at h;cases h
   have N:=qe (kvs:=r) (k:=k) h1;simp![lG,abj,Zy e];exact N
theorem jn{k:Key}(r:Rep G H W d v L)(h:dh d=some k):v=kV k:=by
 cases d<;>simp[dh]at h<;>subst h<;>rw[Rep]at r<;>exact r.1
variable{pf:En->Option (List Nat)}{fk:En->Option D}
theorem QL{to ti:TE}(N:RfP G ob to i0 pf)(hi:RfE G ob ti fk):RfP G ob (tOp (λx y H Q=>rIx G.K x y H Q∨RD x y H Q) to ti) i0 (mW i0 pf fk):=λρ p e σ H S Fr s=>by
 unfold mW at e;cases h1:pf ρ with
 |none=>simp[h1]at e
 |some p0=>
  cases h2:fk ρ with
  |none=>simp[h1,h2]at e
  |some k=>
   rw[h1,h2]at e;simp![YK]at e;split at e
   .rename_i d0 h3
    cases U:fu p0 d0 with
    |none=>simp[U]at e
    |some d=>
     cases h5:ixP d k with
     |none=>simp[U,h5]at e
     |some j=>
      by_cases h6:j<(kids d).length
      .obtain rfl:p0++[j]=p:=by simpa[U,h5,h6]using e
       obtain⟨a6,d',g1,g2,g3⟩:=N ρ p0 h1 σ H S Fr s;rw[h3]at g1;cases g1;rw[U]at g2;cases g2;have V:clean d=true:=p8 (let⟨_,_,_,h⟩:=s.sl i0 d0 h3;h) U;refine⟨d0,(kids d)[j],h3,by rw[Cv p0 j d0 U,Zc h6],λQ q=>?_⟩;refine g3 _ λv v0 H1 M F a5 a2=>?_;have a1:Sta G H1 ob ρ σ S Fr:=s.grow F λa z=>.inl z;refine hi ρ k h2 σ H1 _ a1.rel a1.wok _ λy H2 L2 O Z fy ny=>?_;have up:Up H1 H2 (wn ob S Fr) (wn ob S Fr):=Up.same O;have a0:=a2.mono (.inr up) up.evo λc _ u hu=>O c u hu;have hj:(kids d)[j]? =some (kids d)[j]:=Zc h6;have B:∀x M',Foc G H2 (wn ob S Fr) d v M [j] (kids d)[j] x M'->Q x H2:=λx M' f=>q x v0 H2 M' (F.trans O) a5 (a0.trans f U (by rw[hj];simp));cases d with
       |lst m ds=>
        cases m<;>(try(simp[ixP]at h5));cases k<;>(try(simp[ixP]at h5));rename_i n;rw[Rep]at Z;obtain⟨a,xs,x,M',rfl,Y,hl,J,f⟩:=Foc.lst a0.r V hj;refine .inl (.inl ⟨a,xs,n,x,rfl,Z.1,SqL.of Y,?_,B x M' f⟩);unfold atI;rw[hl,h5];exact J
       |tup ds=>
        cases k<;>(try(simp[ixP]at h5));rename_i n;rw[Rep]at Z;obtain⟨a,xs,x,M',rfl,Y,hl,J,f⟩:=Foc.tup a0.r V hj;refine .inl (.inr (.inl ⟨a,xs,n,x,rfl,Z.1,SqT.of Y,?_,B x M' f⟩));unfold atI;rw[hl,h5];exact J
       |dct m ks ds=>
        cases m<;>(try(simp[ixP]at h5));cases I:dh k with
        |none=>simp[I]at h5
        |some kk=>
         cases J:cZ ks kk with
         |none=>simp[I,J]at h5
         |some j'=>
          have:j'=j:=by
           have:=h5;simp[I,J]at this;exact this.2
          subst this;obtain⟨a,kvs,x,M',rfl,Y,a4,a3,f⟩:=Foc.dct a0.r V hj;refine .inr ⟨a,x,rfl,?_,B x M' f⟩;have:=jn Z I;subst this;have hv:=j9 (kvs:=kvs) (k:=kk) (j:=j') (by rw[a4.1];exact J);rw[a3]at hv;rw[←hv];exact nA.k Y
       |_=>simp[ixP]at h5
      .simp[U,h5,h6]at e
   .cases e
theorem G4{o i:Expr}{I:Nat}(J:∀c,(X c).A.units+1<cLine)(N:PVP X G ob o I pf)(hi:PV X G ob i fk)(B:vg i:=by exact λ_ _=>rfl)(F:∀c,(X c).K=G.K:=by intro _;rfl):PVP X G ob (.Subscript o i pos) I (mW I pf fk):=let⟨t,a1,a2⟩:=N.ex;let⟨u,b1,b2⟩:=hi.ex;⟨_,λc=>(by rw[←F c];exact KJ (MP (J c)) (a1 c) (b1 c) B),QL a2 b2⟩
def MuV(G:Gc)(r:V->List V->Hp->VK->Prop)(op:D->List D->Option (D×D)):Prop:=∀(d:D)(es:List D)(d' res:D),op d es=some (d',res)->∀(v:V)(xs:List V)(H:Hp)(W:Wn)(M N:List Addr),Rep G H W d v M->aH G H W es xs N->(M++N).Nodup->(∀a∈M,¬W.free a)->
 clean d=true->az es=true->aB es=true->∀Q:VK,(∀x H' M' R,(∀b u,H b=some u->b∉M->H' b=some u)->(∀W',Evo H H' W W'->Rep G H' W' d' v M'/\Rep G H' W' res x R)->(M'++R).Nodup->(∀a∈M'++R,a∈M∨a∈N∨H a=none)->clean d'=true->clean res=true->Q x H')->r v xs H Q
theorem CQ{e:D}:∀{p:List Nat},clean d0=true->clean e=true->clean (fY p e d0)=true:=by
 intro p
 induction p generalizing d0 with
 |nil=>intro _ h;exact h
 |cons j p N=>
  intro h V;simp![fY];cases h1:(kids d0)[j]? with
  |none=>exact h
  |some c=>
   have Z:clean c=true:=p8 (p:=[j]) h (by simp[fu,h1]);have:=N (d0:=c) Z V;have z:∀{ds:List D}{j:Nat}{x:D},az ds=true->aB ds=true->clean x=true->az (ds.set j x)=true/\aB (ds.set j x)=true:=λ{ds}=>by
    induction ds with
    |nil=>intro j x a b _;simp[a,b]
    |cons y r q=>
     intro j x a b B;simp![az,aB,ZQ]at a b;have F:=(by simpa[clean]using B:aD x=true/\aC x=true);cases j with
     |zero=>simp[az,aB,F,a,b]
     |succ j=>simp![abb,az,aB,ZQ];exact⟨⟨a.1,(q a.2 b.2 B).1⟩,⟨b.1,(q a.2 b.2 B).2⟩⟩
   cases d0<;>simp![kids,List.getElem?_nil]at h1<;>(try cases h1)<;>simp![xG,kids]<;>simp[clean,aD,aC]at h⊢
   .exact⟨(z h.1 h.2 this).1,(z h.1 h.2 this).2⟩
   .exact⟨⟨h.1.1,(z h.1.2 h.2.2 this).1⟩,h.2.1,(z h.1.2 h.2.2 this).2⟩
   .exact⟨⟨h.1.1,(z h.1.2 h.2.2 this).1⟩,h.2.1,(z h.1.2 h.2.2 this).2⟩
   .exact⟨⟨h.1.1,(z h.1.2 h.2.2 this).1⟩,h.2.1,(z h.1.2 h.2.2 this).2⟩
variable{res:D}
theorem Sta.mut{Fr:Addr->Prop}{d':D}{v0 x:V}{N M' R:List Addr}(s:Sta G H ob ρ σ S (plus N Fr))(e:ρ[i]? =some (some d0))(b4:σ[i]? =some (some v0))(b1:Foc G H (wn ob S (plus N Fr)) d0 v0 (S i) p d v M)
  (hF:∀a∈N,¬Fr a) (kp:∀b u,H b=some u->b∉M->H' b=some u) (O:∀W',Evo H H' (wn ob S (plus N Fr)) W'->Rep G H' W' d' v M'/\Rep G H' W' res x R) (nd:(M'++R).Nodup) (gr:∀a∈M'++R,a∈M∨a∈N∨H a=none) (Z:clean d'=true) :
  ∃S',Sta G H' ob (ρ.set i (some (fY p d' d0))) σ S' (plus R Fr)/\Rep G H' (wn ob S' (plus R Fr)) res x R/\(∀j,j≠i->S' j=S j)/\(∀a∈S' i,a∈S i∨a∈N∨H a=none)/\(∀a∈R,a∈S i∨a∈N∨H a=none)/\(∀b u,H b=some u->b∉S i->H' b=some u):=by
 obtain⟨A,B,hL,U⟩:=b1.b;have b0:i<ρ.length:=(List.getElem?_eq_some_iff.mp e).1;have a1:∀a∈M,a∈S i:=λa Y=>by rw[hL];simp[Y]
 have a2:∀a∈A++B,a∈S i/\a∉M:=λa Y=>by
  have hn:=s.nd i;rw[hL]at hn;have h1:=Zi.mp hn;have h2:=Zi.mp h1.2.1;rcases YL.mp Y with z|z
  .exact⟨by rw[hL];simp[z],λy=>h1.2.2 a z a (by simp[y]) rfl⟩
  .exact⟨by rw[hL];simp[z],λy=>h2.2.2 a y a z rfl⟩
 have a8:∀a∈M'++R,∀j,j≠i->a∉S j:=λa Y j F z=>by
  rcases gr a Y with y|y|y
  .exact F (s.dj j i a z (a1 a y))
  .exact s.fdj j a (.inl y) z
  .obtain⟨o,ho,_⟩:=s.mu z;rw[y]at ho;cases ho
 have b3:∀a∈M'++R,¬Fr a:=λa Y z=>by
  rcases gr a Y with y|y|y
  .exact s.fdj i a (.inr z) (a1 a y)
  .exact hF a y z
  .obtain⟨o,ho,_⟩:=s.fdm a (.inr z);rw[y]at ho;cases ho
 have a3:∀a∈M'++R,a∉A++B:=λa Y z=>by
  obtain⟨z1,z2⟩:=a2 a z;rcases gr a Y with y|y|y
  .exact z2 y
  .exact s.fdj i a (.inl y) z1
  .obtain⟨o,ho,_⟩:=s.mu z1;rw[y]at ho;cases ho
 let S':=gW S i (A++(M'++B))
 have a5:∀a∈S' i,a∈S i∨a∈N∨H a=none:=λa Y=>by
  have Y:a∈gW S i (A++(M'++B)) i:=Y;rw[cR]at Y;simp![YL]at Y;rcases Y with z|z|z
  .exact .inl (a2 a (YW _ z)).1
  .exact(gr a (YW _ z)).imp (a1 a) id
  .exact .inl (a2 a (YJ _ z)).1
 have a6:∀b u,H b=some u->(wn ob S (plus N Fr)).free b->H' b=some u/\(wn ob S' (plus R Fr)).free b:=λb u U f=>by
  have nS:∀j,b∉S j:=λj z=>by
   cases ho:ob j with
   |false=>exact f.2.1 ⟨j,ho,z⟩
   |true=>exact f.2.2 ⟨j,ho,z⟩
  have a9:∀j,b∉S' j:=λj z=>by
   by_cases F:j=i
   .subst F
    rcases a5 b z with y|y|y
    .exact nS j y
    .exact f.1 (.inl y)
    .rw[U]at y;cases y
   .have z:b∈gW S i (A++(M'++B)) j:=z
    rw[cI F]at z;exact nS j z
  refine⟨kp b u U λz=>nS i (a1 b z),λz=>?_,λ⟨j,_,z⟩=>a9 j z,λ⟨j,_,z⟩=>a9 j z⟩;rcases z with z|z
  .rcases gr b (YJ _ z)with y|y|y
   .exact nS i (a1 b y)
   .exact f.1 (.inl y)
   .rw[U]at y;cases y
  .exact f.1 (.inr z)
 have I:Evo H H' (wn ob S (plus N Fr)) (wn ob S' (plus R Fr)):=⟨a6,λb xs h=>by
  have no:∀u,H b=some u->muO u=false->H' b=some u:=λu J mu=>kp b u J λz=>by
   obtain⟨o,ho,hm⟩:=s.mu (a1 b z);rw[J]at ho;cases ho;rw[mu]at hm;cases hm
  exact no _ h rfl⟩
 obtain⟨r1,r2⟩:=O _ I;have a7:=Zi.mp nd;refine⟨S',⟨by simp[s.len],λj dj F=>?_,λj F=>?_,λj=>?_,λj k a h1 h2=>?_,λj a h1 h2=>?_,λa Y=>?_⟩,r2,λj F=>cI F,a5,λa Y=>(gr a (YJ _ Y)).imp (a1 a) id,λb u U n=>kp b u U λz=>n (a1 b z)⟩
 .by_cases a0:j=i
  .subst a0
   have:fY p d' d0=dj:=by simpa[b0]using F
   subst this;have b2:clean d0=true:=let⟨_,_,_,h⟩:=s.sl j d0 e;h;refine⟨v0,b4,?_,CQ b2 Z⟩;show Rep G H' _ _ v0 (gW S j (A++(M'++B)) j);rw[cR];exact U H' _ d' M' I (λc Z u J=>kp c u J (a2 c Z).2) r1
  .rw[List.getElem?_set_ne (ZV a0)]at F
   obtain⟨w,q1,q2,q3⟩:=s.sl j dj F;have q:=(by simpa[clean]using q3:aD dj=true/\aC dj=true);refine⟨w,q1,?_,q3⟩;show Rep G H' _ dj w (gW S i (A++(M'++B)) j);rw[cI a0];exact q2.mono I (.inl q.1) (.inl q.2) λc Z u J=>kp c u J λz=>a0 (s.dj j i c Z (a1 c z))
 .by_cases a0:j=i
  .subst a0
   exact absurd (by simp[b0]) (F (fY p d' d0))
  .show gW S i (A++(M'++B)) j=[]
   rw[cI a0];exact s.em j λd1=>by have:=F d1;rwa[List.getElem?_set_ne (ZV a0)]at this
 .by_cases a0:j=i
  .subst a0
   show(gW S j (A++(M'++B)) j).Nodup;rw[cR];have hn:=s.nd j;rw[hL]at hn;have h1:=Zi.mp hn;have h2:=Zi.mp h1.2.1;refine dX h1.1 (dX a7.1 h2.2.1 λa Y z=>a3 a (YW _ Y) (YJ _ z)) λa Y z=>?_;rcases YL.mp z with z|z
   .exact a3 a (YW _ z) (YW _ Y)
   .exact h1.2.2 a Y a (by simp[z]) rfl
  .show(gW S i (A++(M'++B)) j).Nodup
   rw[cI a0];exact s.nd j
 .have key:∀{j:Nat}{a:Addr},j≠i->a∈S j->a∈S' i->False:=λ{j a} F z1 z2=>by
   have z2:a∈gW S i (A++(M'++B)) i:=z2;rw[cR]at z2;simp![YL]at z2;rcases z2 with z|z|z
   .exact F (s.dj j i a z1 (a2 a (YW _ z)).1)
   .exact a8 a (YW _ z) j F z1
   .exact F (s.dj j i a z1 (a2 a (YJ _ z)).1)
  by_cases a0:j=i<;>by_cases a4:k=i
  .rw[a0,a4]
  .subst a0
   have h2:a∈gW S j (A++(M'++B)) k:=h2;rw[cI a4]at h2;exact(key a4 h2 h1).elim
  .subst a4
   have h1:a∈gW S k (A++(M'++B)) j:=h1;rw[cI a0]at h1;exact(key a0 h1 h2).elim
  .have h1:a∈gW S i (A++(M'++B)) j:=h1
   have h2:a∈gW S i (A++(M'++B)) k:=h2;rw[cI a0]at h1;rw[cI a4]at h2;exact s.dj j k a h1 h2
 .by_cases a0:j=i
  .subst a0
   have h2:a∈gW S j (A++(M'++B)) j:=h2;rw[cR]at h2;simp![YL]at h2;rcases h1 with h1|h1
   .rcases h2 with z|z|z
    .exact a3 a (YJ _ h1) (YW _ z)
    .exact a7.2.2 a z a h1 rfl
    .exact a3 a (YJ _ h1) (YJ _ z)
   .rcases h2 with z|z|z
    .exact s.fdj j a (.inr h1) (a2 a (YW _ z)).1
    .exact b3 a (YW _ z) h1
    .exact s.fdj j a (.inr h1) (a2 a (YJ _ z)).1
  .have h2:a∈gW S i (A++(M'++B)) j:=h2
   rw[cI a0]at h2;rcases h1 with h1|h1
   .exact a8 a (YJ _ h1) j a0 h2
   .exact s.fdj j a (.inr h1) h2
 .rcases Y with Y|Y
  .exact r2.dom a Y
  .obtain⟨o,ho,hm⟩:=s.fdm a (.inr Y)
   exact⟨o,kp a o ho λz=>s.fdj i a (.inr Y) (a1 a z),hm⟩
section
variable{ι:Type}{X:ι->Cx}{G:Gc}{ob P:Nat->Bool}
theorem o_{G:Gc}{r:V->List V->Hp->VK->Prop}{op:D->List D->Option (D×D)}{H:Hp}{ρ:En}{σ:L2.St}{S:Ad}{Fr:Addr->Prop}{i:Nat}{p:List Nat}{d0 d d' res:D}{v v0:V}{M N:List Addr}{es:List D}{xs:List V}(Z:MuV G r op)(s:Sta G H ob ρ σ S (plus N Fr))(e:ρ[i]? =some (some d0))(a1:σ[i]? =some (some v0))(F:fu p d0=some d)
  (z:Foc G H (wn ob S (plus N Fr)) d0 v0 (S i) p d v M) (re:aH G H (wn ob S (plus N Fr)) es xs N) (nd:N.Nodup) (hF:∀a∈N,¬Fr a) (c1:az es=true) (c2:aB es=true) (h:op d es=some (d',res)) {Q:VK}
  (q:∀x H' R S',Sta G H' ob (ρ.set i (some (fY p d' d0))) σ S' (plus R Fr)->Rep G H' (wn ob S' (plus R Fr)) res x R->R.Nodup->clean res=true->(∀j,j≠i->S' j=S j)->(∀a∈S' i,a∈S i∨a∈N∨H a=none)->(∀a∈R,a∈S i∨a∈N∨H a=none)->(∀b u,H b=some u->b∉S i->H' b=some u)->Q x H'):r v xs H Q:=by
 have I:aaI M (S i):=by
  obtain⟨A,B,hL,_⟩:=z.b;rw[hL];exact(abk M B).trans (aal A _)
 have U:clean d0=true:=let⟨_,_,_,h⟩:=s.sl i d0 e;h;refine Z d es d' res h v xs H _ M N z.r re (dX (I.nodup (s.nd i)) nd λa h1 h2=>s.fdj i a (.inl h2) (I.subset h1)) (λa Y f=>?_) (p8 U F) c1 c2 Q λx H' M' R kp O a0 gr J a2=>?_
 .cases ho:ob i with
  |false=>exact f.2.1 ⟨i,ho,I.subset Y⟩
  |true=>exact f.2.2 ⟨i,ho,I.subset Y⟩
 .obtain⟨S',q1,q2,q3,q4,q5,q6⟩:=s.mut e a1 z hF kp O a0 gr J
  exact q x H' R S' q1 q2 (Zi.mp a0).2.1 a2 q3 q4 q5 q6
def upS(op:D->List D->Option (D×D))(i:Nat)(p:List Nat)(es:List D)(ρ:En):Option (D×En):=match ρ[i]? with
 |some (some d0)=>(fu p d0).bind λd=>if az es=true/\aB es=true then(op d es).map λq=>(q.2,ρ.set i (some (fY p q.1 d0)))else none
 |_=>none
theorem vO{op:D->List D->Option (D×D)}{i:Nat}{p:List Nat}{es:List D}{ρ I:En}{res:D}(h:upS op i p es ρ=some (res,I)):∃d0 d d',ρ[i]? =some (some d0)/\fu p d0=some d/\az es=true/\aB es=true/\op d es=some (d',res)/\I=ρ.set i (some (fY p d' d0)):=by
 unfold upS at h;split at h
 .rename_i d0 h1
  cases h2:fu p d0 with
  |none=>simp[h2]at h
  |some d=>
   by_cases Z:az es=true/\aB es=true
   .cases h3:op d es with
    |none=>simp[h2,Z,h3]at h
    |some q=>
     obtain⟨d',F⟩:=q;obtain⟨rfl,rfl⟩:F=res/\ρ.set i (some (fY p d' d0))=I:=by simpa[h2,Z,h3]using h
     exact⟨d0,d,d',h1,h2,Z.1,Z.2,h3,rfl⟩
   .simp[h2,Z]at h
 .cases h
def jE(op:D->List D->Option (D×D))(i:Nat)(pf:En->Option (List Nat))(f:En->Option (List D)):En->Option (D×En):=λρ=>(pf ρ).bind λp=>(f ρ).bind λes=>upS op i p es ρ
def i_(op:D->List D->Option (D×D))(i:Nat)(pf:En->Option (List Nat))(f:En->Option (List D)):En->Option Fl:=λρ=>(jE op i pf f ρ).map λq=>.nx q.2
def Ob(G:Gc)(T:String)(op:D->List D->Option (D×D)):Prop:=∀d es q,op d es=some q->∀(v:V)(H:Hp)(W:Wn)(L:List Addr),Rep G H W d v L->tyV G.K T v H
theorem M8{T:String}{r:V->List V->Hp->VK->Prop}{op:D->List D->Option (D×D)}{to:TE}{t:TA}{i:Nat}{pf:En->Option (List Nat)}{f:En->Option (List D)}(Z:MuV G r op)(ht:Ob G T op)(ho:RfP G ob to i pf)(Y:RfA G ob t f){ρ I:En}{res:D}(e:jE op i pf f ρ=some (res,I))
  {σ:L2.St} {H:Hp} {S:Ad} {Fr:Addr->Prop} (s:Sta G H ob ρ σ S Fr) {Q:VK}
  (q:∀x H' R S',Sta G H' ob I σ S' (plus R Fr)->Rep G H' (wn ob S' (plus R Fr)) res x R->R.Nodup->clean res=true->(∀j,j≠i->S' j=S j)->(∀a∈S' i,a∈S i∨H a=none)->(∀a∈R,a∈S i∨H a=none)->(∀b u,H b=some u->b∉S i->H' b=some u)->Q x H'):tBM G.K T r to t σ H Q:=by
 unfold jE at e;cases h1:pf ρ with
 |none=>simp[h1]at e
 |some p=>
  cases h2:f ρ with
  |none=>simp[h1,h2]at e
  |some es=>
   have e:upS op i p es ρ=some (res,I):=by simpa[h1,h2]using e
   obtain⟨d0,d,d',g1,g2,c1,c2,g3,rfl⟩:=vO e;obtain⟨a5,dd,B,k2,k3⟩:=ho ρ p h1 σ H S Fr s;rw[g1]at B;cases B;rw[g2]at k2;cases k2;refine k3 _ λv v0 H1 M F a4 a1=>⟨ht d es _ g3 v H1 _ M a1.r,?_⟩;have a0:Sta G H1 ob ρ σ S Fr:=s.grow F λa z=>.inl z;refine Y ρ es h2 σ H1 _ a0.rel a0.wok _ λxs H2 N O re fr nd=>?_;have a3:Sta G H2 ob ρ σ S (plus N Fr):=a0.grow O λa z=>z.elim (λz=>.inr ⟨fr a z,re.dom a z⟩) .inl;have up:Up H1 H2 (wn ob S Fr) (wn ob S (plus N Fr)):=Up.add O fr;have a2:=a1.mono (.inr up) up.evo λc _ u J=>O c u J;have hF:∀a∈N,¬Fr a:=λa Y z=>by
    obtain⟨o,ho,_⟩:=a0.fdm a z;rw[fr a Y]at ho;cases ho
   have nf:∀{a},a∈S i∨a∈N∨H2 a=none->a∈S i∨H a=none:=λ{a} z=>z.imp id λz=>z.elim (λz=>F.none' (fr a z)) λz=>(F.trans O).none' z;exact o_ Z a3 g1 a4 g2 a2 re nd hF c1 c2 g3 λx H' R S' q1 q2 q3 q4 q5 q6 q7 q8=>q x H' R S' q1 q2 q3 q4 q5 (λa Y=>nf (q6 a Y)) (λa Y=>nf (q7 a Y)) λb u U n=>q8 b u ((F.trans O) b u U) n
theorem RG{T:String}{r:V->List V->Hp->VK->Prop}{op:D->List D->Option (D×D)}{to:TE}{t:TA}{i:Nat}{pf:En->Option (List Nat)}{f:En->Option (List D)}(Z:MuV G r op)(ht:Ob G T op)(N:RfP G ob to i pf)(Y:RfA G ob t f):RfS G ob P (M_ (tBM G.K T r to t)) (i_ op i pf f):=λρ r e σ H S Fr s E q=>by
 unfold i_ at e;cases h1:jE op i pf f ρ with
 |none=>simp[h1]at e
 |some p=>
  obtain⟨res,I⟩:=p;have:Fl.nx I=r:=by simpa[h1]using e
  subst this;refine M8 Z ht N Y h1 s λx H' R S' q1 q2 O J q5 q6 B q8=>q σ H' S' (q1.lessF λa z=>.inr z) ⟨λb u U n _=>q8 b u U λz=>n ⟨i,z⟩,λj a z=>?_,.refl⟩;by_cases F:j=i
  .subst F;exact(q6 a z).imp (λz=>⟨j,z⟩) .inr
  .rw[q5 j F]at z;exact .inl ⟨j,z⟩
theorem GD{T:String}{r:V->List V->Hp->VK->Prop}{op:D->List D->Option (D×D)}{to:TE}{t:TA}{i:Nat}{pf:En->Option (List Nat)}{f:En->Option (List D)}(J:ob i=true)(Z:MuV G r op)(ht:Ob G T op)(N:RfP G ob to i pf)(Y:RfA G ob t f):lE G ob (tBM G.K T r to t) (jE op i pf f):=λρ d I e σ H S Fr s Q q=>by
 refine M8 Z ht N Y e s λx H' R S' q1 q2 O q4 q5 q6 q7 q8=>q x H' R S' q1 q2 O ⟨λb u U n=>q8 b u U λz=>n ⟨i,J,z⟩,λj F=>q5 j (λz=>by rw[z,J]at F;cases F),λj a F z=>?_,λa Y=>(q7 a Y).imp (λz=>⟨i,J,z⟩) id⟩;by_cases B:j=i
 .subst B;exact(q6 a z).imp (λz=>⟨j,J,z⟩) id
 .rw[q5 j B]at z;exact .inl ⟨j,F,z⟩
structure MuB{ι:Type}(X:ι->Cx)(G:Gc)(T id:String)(op:D->List D->Option (D×D)):Prop where
 ex:∃r,(∀c,MtR (X c) id r)/\MuV G r op/\Ob G T op
section
variable{T name id:String}{op:D->List D->Option (D×D)}{o e:Expr}{es:List Expr}{apos cpos pos:Pos}{i:Nat}{pf:En->Option (List Nat)}
theorem jr{Z:Str}(m:MuB X G T id op)(O:adk T)(slot:Slot T Z id)(z:typeOf (.builtin id)=pure (.type "method_descriptor")){f:En->Option (List D)}(N:PVP X G ob o i pf)(Y:PVA X G ob (e::es) f)(J:∀c,abz (.Call (.Attribute o Z apos) (e::es) [] cpos) none pos.line (X c).env=pure false:=by intro _;rfl)(q:∀c,aa8 o Z (X c).env (eval o (X c).env)=eval o (X c).env:=by intro _;rfl)(I:∀c,((aaA cpos (Zb (e::es) (X c).env)).all (λx=>!x.1)&&(aco cpos (abw [] (X c).env)).all (λx=>x.1.isSome)
  &&decide ((e::es).length+([]:List adu).length+(if([]:List adu).isEmpty then 0 else 1)<30))=true:=by intro _;rfl) (U:(apos.endLine==cpos.line)=true:=by rfl) (B:∀c,Zb (e::es) (X c).env=(false,eval e (X c).env)::Zb es (X c).env:=by intro _;rfl) (V:∀c,(aaA cpos (Zb es (X c).env)).any (·.1)=false:=by intro _;rfl) (F:∀c,(X c).K=G.K:=by intro _;rfl) :
 PVS X G ob P (.Expr (.Call (.Attribute o Z apos) (e::es) [] cpos) pos) (i_ op i pf f):=let⟨r,m1,m2,m3⟩:=m.ex;let⟨t,a1,a2⟩:=N.ex;let⟨u,b1,b2⟩:=Y.ex;⟨_,λc=>(by rw[←F c];exact FW (J0 O slot z (m1 c) (a1 c) (b1 c) (q c) (I c) U (B c) (V c)) (J c)),RG m2 m3 a2 b2⟩
theorem Q0{Z:Str}(m:MuB X G T id op)(O:adk T)(slot:Slot T Z id)(z:typeOf (.builtin id)=pure (.type "method_descriptor")){f:En->Option (List D)}(N:PVP X G ob o i pf)(Y:PVA X G ob (e::es) f)(J:ob i=true:=by rfl)(q:∀c,aa8 o Z (X c).env (eval o (X c).env)=eval o (X c).env:=by intro _;rfl)(I:∀c,((aaA cpos (Zb (e::es) (X c).env)).all (λx=>!x.1)&&(aco cpos (abw [] (X c).env)).all (λx=>x.1.isSome)
  &&decide ((e::es).length+([]:List adu).length+(if([]:List adu).isEmpty then 0 else 1)<30))=true:=by intro _;rfl) (U:(apos.endLine==cpos.line)=true:=by rfl) (B:∀c,Zb (e::es) (X c).env=(false,eval e (X c).env)::Zb es (X c).env:=by intro _;rfl) (V:∀c,(aaA cpos (Zb es (X c).env)).any (·.1)=false:=by intro _;rfl) (F:∀c,(X c).K=G.K:=by intro _;rfl) :
 PVe X G ob (.Call (.Attribute o Z apos) (e::es) [] cpos) (jE op i pf f):=let⟨r,m1,m2,m3⟩:=m.ex;let⟨t,a1,a2⟩:=N.ex;let⟨u,b1,b2⟩:=Y.ex;⟨_,λc=>(by rw[←F c];exact J0 O slot z (m1 c) (a1 c) (b1 c) (q c) (I c) U (B c) (V c)),GD J m2 m3 a2 b2⟩
theorem Ml{Z:Str}(m:MuB X G T id op)(O:adk T)(slot:Slot T Z id)(z:typeOf (.builtin id)=pure (.type "method_descriptor"))(N:PVP X G ob o i pf)(J:ob i=true:=by rfl)(q:∀c,aa8 o Z (X c).env (eval o (X c).env)=eval o (X c).env:=by intro _;rfl)(U:(apos.endLine==cpos.line)=true:=by rfl)(F:∀c,(X c).K=G.K:=by intro _;rfl) :
 PVe X G ob (.Call (.Attribute o Z apos) [] [] cpos) (jE op i pf aK):=let⟨r,m1,m2,m3⟩:=m.ex;let⟨t,a1,a2⟩:=N.ex;⟨_,λc=>(by rw[←F c];exact U7 O slot z (m1 c) (a1 c) (q c) U),GD J m2 m3 a2 wJ⟩
end
structure MuT{ι:Type}(X:ι->Cx)(G:Gc)(op:D->List D->Option (D×D)):Prop where
 ex:∃t:Hn,(∀c,RT (X c) t)/\MuV G (λo xs H Q=>∃i v,xs=[i,v]/\t o i v H λH'=>Q .non H') op
def gw(op:D->List D->Option (D×D))(i:Nat)(pf:En->Option (List Nat))(fk:En->Option D):D->En->Option En:=λd ρ=>(pf ρ).bind λp=>(fk ρ).bind λk=>(upS op i p [k,d] ρ).map λq=>q.2
theorem RV{t:Hn}{op:D->List D->Option (D×D)}{to ti:TE}{i:Nat}{pf:En->Option (List Nat)}{fk:En->Option D}(hm:MuV G (λo xs H Q=>∃i v,xs=[i,v]/\t o i v H λH'=>Q .non H') op)(ho:RfP G ob to i pf)(hi:RfE G ob ti fk):RfG G ob P (jq to ti t) (gw op i pf fk):=λd ρ I e v σ H S M Fr s r nd hF Q q=>by
 unfold gw at e;cases h1:pf ρ with
 |none=>simp[h1]at e
 |some p=>
  cases h2:fk ρ with
  |none=>simp[h1,h2]at e
  |some k=>
   cases B:upS op i p [k,d] ρ with
   |none=>simp[h1,h2,B]at e
   |some w=>
    obtain⟨res,ρ1⟩:=w;obtain rfl:ρ1=I:=by simpa[h1,h2,B]using e
    obtain⟨d0,dd,d',g1,g2,c1,c2,g3,rfl⟩:=vO B;obtain⟨a9,b0,k1,k2,k3⟩:=ho ρ p h1 σ H S (plus M Fr) s;rw[g1]at k1;cases k1;rw[g2]at k2;cases k2;refine k3 _ λo v0 H1 M1 F a7 a2=>?_;have a0:Sta G H1 ob ρ σ S (plus M Fr):=s.grow F λa z=>.inl z;refine hi ρ k h2 σ H1 _ a0.rel a0.wok _ λy H2 N O Z fr nN=>?_;have a6:Sta G H2 ob ρ σ S (plus (N++M) Fr):=a0.grow O λa z=>z.elim (λz=>(YL.mp z).elim (λz=>.inr ⟨fr a z,Z.dom a z⟩) λz=>.inl (.inl z)) λz=>.inl (.inr z);have up:Up H1 H2 (wn ob S (plus M Fr)) (wn ob S (plus (N++M) Fr)):=⟨O,λb u U f=>⟨λz=>z.elim (λz=>(YL.mp z).elim (λz=>by rw[fr b z]at U;cases U) λz=>f.1 (.inl z)) λz=>f.1 (.inr z),f.2⟩,λ_ _ _ f=>f⟩;have a4:Up H H2 (wn ob S (plus M Fr)) (wn ob S (plus (N++M) Fr)):=(Up.same F).trans up;have a1:=a2.mono (.inr up) up.evo λc _ u J=>O c u J;have a5:(wn ob S (plus M Fr)).add N=wn ob S (plus (N++M) Fr):=by
     show Wn.mk _ _ _=Wn.mk _ _ _;congr 1;funext a;simp![plus,YL,eq_iff_iff,or_assoc];constructor
     .rintro(z|z)
      .exact .inl z
      .exact .inr z
     .rintro(z|z)
      .exact .inl z
      .exact .inr z
    rw[a5]at Z;have a3:∀a∈N,a∉M:=λa h1 h2=>by
     obtain⟨o,ho,_⟩:=r.dom a h2;rw[F.none' (fr a h1)]at ho;cases ho
    have re:aH G H2 (wn ob S (plus (N++M) Fr)) [k,d] [y,v] (N++M):=.cons Z (.one (r.up a4));have a8:∀a∈N++M,¬Fr a:=λa Y z=>by
     rcases YL.mp Y with y|y
     .obtain⟨o,ho,_⟩:=a0.fdm a (.inr z)
      rw[fr a y]at ho;cases ho
     .exact hF a y z
    have V:=o_ hm a6 g1 a7 g2 a1 re (dX nN nd a3) a8 c1 c2 g3 (Q:=λ_ H'=>Q σ H') λx H' R S' q1 q2 q3 q4 q5 q6 q7 q8=>q σ H' S' (q1.lessF λa z=>.inr z) ⟨λb u U n m=>?_,λj a z=>?_,.refl⟩
    .obtain⟨i1,v1,e1,k⟩:=V
     cases e1;exact k
    .exact q8 b u ((F.trans O) b u U) λz=>n ⟨i,z⟩
    .by_cases hj:j=i
     .subst hj
      rcases q6 a z with y|y|y
      .exact .inl ⟨j,y⟩
      .exact(YL.mp y).elim (λy=>.inr (.inr (F.none' (fr a y)))) λy=>.inr (.inl y)
      .exact .inr (.inr ((F.trans O).none' y))
     .rw[q5 j hj]at z;exact .inl ⟨j,z⟩
theorem lO{op:D->List D->Option (D×D)}{o k:Expr}{pos:Pos}{i:Nat}{pf:En->Option (List Nat)}{fk:En->Option D}(m:MuT X G op)(N:PVP X G ob o i pf)(I:PV X G ob k fk)(Y:∀c,∀v,acy (.Subscript o k pos) (X c).env v=(do
 let ov ←aaY [v] (eval o (X c).env)
 let iv ←aaY [v,ov] (eval k (X c).env)
 acH pos
 aaY [v,ov,iv] (aeE ov iv v)
 release [v,ov,iv] []):=by intro _;intro _;rfl):PVG X G ob P (.Subscript o k pos) (gw op i pf fk):=let⟨t,m1,m2⟩:=m.ex;let⟨_,a1,a2⟩:=N.ex;let⟨_,b1,b2⟩:=I.ex;⟨_,λc=>UT (a1 c) (b1 c) (m1 c) (Y c),RV m2 a2 b2⟩
theorem nH{G:Gc}{H:Hp}{W:Wn}:Rep G H W .non .non []:=by rw[Rep];exact⟨rfl,rfl⟩
theorem ue{ds:List D}(h1:az ds=true)(h2:aB ds=true):clean (.lst .own ds)=true:=by simp[clean,aD,aC,h1,h2]
theorem FN{G:Gc}{H:Hp}{W W':Wn}{a:Addr}{xs:List V}{ds:List D}{M:List Addr}{ys:List V}(O:aH G H W ds xs M)(N:az ds=true)(Y:aB ds=true)(hn:a∉M)(I:Evo H (upd H a (.lst ys)) W W'):aH G (upd H a (.lst ys)) W' ds xs M:=
 O.mono I (.inl N) (.inl Y) λc Z u J=>by rw[aO (show c≠a from λz=>hn (z▸Z))];exact J
def aV:D->List D->Option (D×D)
 |.lst .own ds,[e]=>if ds.length<1000000 then some (.lst .own (ds++[e]),.non)else none
 |_,_=>none
theorem Om{n:Nat}(h:n<1000000):n<YZ:=Zn h (by decide)
theorem DR{G:Gc}:MuV G Gg aV:=λd es d' res h v xs H W M N r re nd hM Z c1 V Q q=>by
 unfold aV at h;split at h
 .rename_i ds e
  split at h
  .rename_i hl
   cases h;rw[Rep]at r;obtain⟨a,ys,M0,rfl,O,Y,rfl⟩:=r;obtain⟨x,zs,N1,N2,rfl,rfl,J,hz⟩:=re.inv;obtain⟨rfl,rfl⟩:=hz.inv0;rw[Zu]at nd re;obtain⟨B,D⟩:=pP Z;have a0:=Zi.mp nd;have hn:=Zv.mp a0.1;have F:a∉N1:=λz=>a0.2.2 a (by simp) a z rfl;simp![az,aB,ZQ]at c1 V;refine⟨a,ys,x,rfl,rfl,Y,Om (by rw[←O.length];exact hl),q .non _ (a::(M0++N1)) [] (λb u U n=>by rw[aO (show b≠a from λz=>n (by rw[z];simp))];exact U) (λW' I=>⟨?_,nH⟩) ?_ (λb U=>?_) (ue (by rw[b8];simp[B,az,c1]) (by rw[bY];simp[D,aB,V])) rfl⟩
   .rw[Rep]
    refine⟨a,ys++[x],M0++N1,rfl,(FN O B D hn.1 I).append (.one (J.mono I (.inl c1.1) (.inl V.1) λc Z u hu=>?_)),a_,rfl⟩;rw[aO (show c≠a from λz=>F (z▸Z))];exact hu
   .rw[Zu]
    exact nd
   .rw[Zu]at U
    rcases Za.mp U with z|z
    .exact .inl (by simp[z])
    .rcases YL.mp z with z|z
     .exact .inl (by simp[z])
     .exact .inr (.inl (by simp[z]))
  .cases h
 .cases h
theorem DG{T:String}{op:D->List D->Option (D×D)}(z:T="list")(h:∀d es q,op d es=some q->∃m ds,d= .lst m ds):Ob G T op:=λd es q e v H W L r=>by
 obtain⟨m,ds,rfl⟩:=h d es q e;rw[Rep]at r;obtain⟨a,xs,M,rfl,O,B⟩:=r;exact .inl ⟨z,xs,B.sq⟩
theorem d7:MuB X G "list" "list.append" aV:=⟨_,λc=>Hl,DR,DG rfl λd es q e=>by
 unfold aV at e;split at e
 .exact⟨_,_,rfl⟩
 .cases e⟩
def h_(ks:List Key)(ds:List D)(k:Key)(v:D):List Key×List D:=match cZ ks k with
 |some j=>(ks,ds.set j v)
 |none=>(ks++[k],ds++[v])
def fU:D->List D->Option (D×D)
 |.lst .own ds,[.int k,v]=>(ixN ds.length k).map λj=>(.lst .own (ds.set j v),.non)
 |.dct .own ks ds,[k,v]=>(dh k).bind λk=>if ks.length<1000000 then some (.dct .own (h_ ks ds k v).1 (h_ ks ds k v).2,.non)else none
 |_,_=>none
def S6:Hn:=λo i v H Q=>Sg o i v H Q∨∃a H',o= .ref a/\IV H a i v H'/\Q H'
theorem Qx{Y:Cx}(J:Y.A.units+1<cLine):RT Y S6:=by
 intro pins s σ H o i v O D u Q I z N B h;rcases h with h|⟨a,H',rfl,g,q⟩
 .exact set_list pins s σ H o i v O D u Q I z N B h
 .cases z
  exact x_ J I g N B λV F=>⟨H',F,q⟩
theorem aH.set{G:Gc}{H:Hp}{W:Wn}{ds:List D}{xs:List V}{L:List Addr}{j:Nat}{c d':D}{y:V}{M':List Addr}(O:aH G H W ds xs L)(e:ds[j]? =some c)(F:Rep G H W d' y M'):∃A M B,L=A++(M++B)/\aH G H W (ds.set j d') (xs.set j y) (A++(M'++B)):=by
 obtain⟨P,Q,x,ys,zs,z,U,Z,rfl,q,rfl,Y,rfl,h1,h2,I⟩:=O.at e;refine⟨z,U,Z,rfl,?_⟩;rw[←q,adb _ _ (YX _),abY];rw[show P.length=ys.length by omega,adb _ _ (YX _),abY];exact aH.append h1 (aH.cons F I)
theorem jC{ds:List D}{j:Nat}{x:D}(h:az ds=true)(J:aD x=true):az (ds.set j x)=true:=by
 induction ds generalizing j with
 |nil=>simpa using h
 |cons y r N=>
  simp![az,ZQ]at h;cases j with
  |zero=>simp[az,J,h]
  |succ j=>simp![abb,az,ZQ];exact⟨h.1,N h.2⟩
theorem jB{ds:List D}{j:Nat}{x:D}(h:aB ds=true)(J:aC x=true):aB (ds.set j x)=true:=by
 induction ds generalizing j with
 |nil=>simpa using h
 |cons y r N=>
  simp![aB,ZQ]at h;cases j with
  |zero=>simp[aB,J,h]
  |succ j=>simp![abb,aB,ZQ];exact⟨h.1,N h.2⟩
theorem Uh{n:Nat}{k:Int}{j:Nat}(h:ixN n k=some j):j<n:=by
 unfold ixN at h;split at h
 .split at h
  .cases h;omega
  .cases h
 .split at h
  .cases h;omega
  .cases h
theorem pM{ks:List Key}{k:Key}{j:Nat}(h:cZ ks k=some j):j<ks.length:=(ZM.mp h).1
theorem CJ:∀{kvs:List (Key×V)}{k:Key}{j:Nat}{v:V},cZ (kvs.map (·.1)) k=some j->(kvs.map (·.1)).Nodup->(putK kvs k v).map (·.1)=kvs.map (·.1)/\(putK kvs k v).map (·.2)=(kvs.map (·.2)).set j v:=by
 intro kvs k j v h n;have F:=ZM.mp h;obtain⟨Y,I,_⟩:=F;have U:j<kvs.length:=by simpa using Y
 have q:kvs[j].1=k:=by simpa using I
 have J:(kvs.any λZ=>decide (Z.1=k))=true:=ac2.mpr ⟨kvs[j],abZ _,by simpa using q⟩;unfold putK;rw[Zd J];constructor
 .rw[Zj]
  apply aak;intro p _;simp![adN];split<;>rfl
 .apply adV
  intro i;rw[Zj,List.getElem?_map];by_cases D:j=i
  .subst D
   rw[acP (by simpa using U)];simp[U,q]
  .rw[List.getElem?_set_ne D,List.getElem?_map]
   cases e:kvs[i]? with
   |none=>rfl
   |some p=>
    have N:i<kvs.length:=(List.getElem?_eq_some_iff.mp e).1;have O:kvs[i]=p:=(List.getElem?_eq_some_iff.mp e).2;have B:p.1≠k:=λz=>by
     have e1:(kvs.map (·.1))[i]? =(kvs.map (·.1))[j]?:=by
      rw[List.getElem?_map,List.getElem?_map,e,Zc U];simp[z,q]
     exact D ((abn (by simpa using N) n).mp e1).symm
    simp[B]
theorem pL{kvs:List (Key×V)}{k:Key}{v:V}(h:cZ (kvs.map (·.1)) k=none):putK kvs k v=kvs++[(k,v)]:=by
 unfold putK;rw[Zk];intro z;obtain⟨p,F,e⟩:=ac2.mp z;have:=aaV.mp h p.1 (Zf.mpr ⟨p,F,rfl⟩);simp at this e;exact this e
theorem vV{ks:List Key}{k:Key}(h:cZ ks k=none):k∉ks:=λz=>by
 have:=aaV.mp h k z;simp at this
theorem Gx{G:Gc}:MuV G (λo xs H Q=>∃i v,xs=[i,v]/\S6 o i v H λH'=>Q .non H') fU:=λd es d' res h v xs H W M N r re nd hM Z c1 c2 Q q=>by
 unfold fU at h;split at h
 .rename_i ds k e
  cases F:ixN ds.length k with
  |none=>simp[F]at h
  |some j=>
   obtain⟨rfl,rfl⟩:D.lst .own (ds.set j e)=d'/\D.non=res:=by simpa[F]using h
   rw[Rep]at r;obtain⟨a,ys,M0,rfl,O,Y,rfl⟩:=r;obtain⟨x1,zs,N1,N2,rfl,rfl,a2,hz⟩:=re.inv;obtain⟨x,zs,N3,N4,rfl,rfl,J,hz⟩:=hz.inv;obtain⟨rfl,rfl⟩:=hz.inv0;rw[Rep]at a2;obtain⟨rfl,rfl⟩:=a2;rw[Zu,List.nil_append]at nd re;obtain⟨k1,k2⟩:=pP Z;have a0:=Zi.mp nd;have hn:=Zv.mp a0.1;have a1:a∉N3:=λz=>a0.2.2 a (by simp) a z rfl;simp![az,aB,ZQ]at c1 c2;have a7:=Uh F;obtain⟨A,M1,B,a6,a4⟩:=O.set (Zc a7) J;have V:aaI (A++B) M0:=by rw[a6];exact(abo A).append (aal M1 B)
   refine⟨_,_,rfl,.inl ⟨a,ys,k,j,rfl,rfl,Y,by rw[←O.length];exact F,q .non _ (a::(A++(N3++B))) [] (λb u U n=>by rw[aO (show b≠a from λz=>n (by rw[z];simp))];exact U) (λW' ev=>⟨?_,nH⟩) ?_ (λb U=>?_) (ue (jC k1 c1.2.1) (jB k2 c2.2.1)) rfl⟩⟩
   .rw[Rep]
    refine⟨a,_,A++(N3++B),rfl,?_,a_,rfl⟩;refine a4.mono ev (.inl (jC k1 c1.2.1)) (.inl (jB k2 c2.2.1)) λc Z u hu=>?_;rw[aO (show c≠a from λz=>?_)]
    .exact hu
    .subst z
     simp![YL]at Z;rcases Z with y|y|y
     .exact hn.1 (V.subset (by simp[y]))
     .exact a1 y
     .exact hn.1 (V.subset (by simp[y]))
   .rw[Zu]
    have n2:=V.nodup hn.2;have n3:=Zi.mp n2;have a3:∀z∈N3,z∉A++B:=λz h1 h2=>a0.2.2 z (Zw _ (V.subset h2)) z h1 rfl;refine Zv.mpr ⟨λy=>?_,dX n3.1 (dX a0.2.1 n3.2.1 λz h1 h2=>a3 z h1 (by simp[h2])) λz h1 h2=>?_⟩
    .simp![YL]at y
     rcases y with y|y|y
     .exact hn.1 (V.subset (by simp[y]))
     .exact a1 y
     .exact hn.1 (V.subset (by simp[y]))
    .rcases YL.mp h2 with y|y
     .exact a3 z y (by simp[h1])
     .exact n3.2.2 z h1 z y rfl
   .rw[Zu]at U
    rcases Za.mp U with z|z
    .exact .inl (by simp[z])
    .simp![YL]at z
     rcases z with z|z|z
     .exact .inl (Zw _ (V.subset (by simp[z])))
     .exact .inr (.inl (by simp[z]))
     .exact .inl (Zw _ (V.subset (by simp[z])))
 .rename_i ks ds k0 e
  cases I:dh k0 with
  |none=>simp[I]at h
  |some k=>
   rw[I]at h;simp![YK]at h;split at h
   .rename_i hl
    cases h;rw[Rep]at r;obtain⟨a,kvs,M0,rfl,⟨rfl,a5⟩,O,Y,rfl⟩:=r;obtain⟨x1,zs,N1,N2,rfl,rfl,a2,hz⟩:=re.inv;obtain⟨x,zs,N3,N4,rfl,rfl,J,hz⟩:=hz.inv;obtain⟨rfl,rfl⟩:=hz.inv0;have a8:=jn a2 I;subst a8;have b0:N1=[]:=by
     cases k0<;>simp[dh]at I<;>rw[Rep]at a2<;>exact a2.2
    subst b0;rw[Zu,List.nil_append]at nd re;have k1:az ds=true/\aB ds=true:=by simp[clean,aD,aC]at Z;exact Z
    have a0:=Zi.mp nd;have hn:=Zv.mp a0.1;have a1:a∉N3:=λz=>a0.2.2 a (by simp) a z rfl;simp![az,aB,ZQ]at c1 c2;have a9:kvs.length<YZ:=Om (by simpa using hl);refine⟨_,_,rfl,.inr ⟨a,_,rfl,IV.k (k:=k) Y a9,?_⟩⟩;cases F:cZ (kvs.map (·.1)) k with
    |some j=>
     have a7:j<ds.length:=by rw[O.length];simpa using pM F
     obtain⟨A,M1,B,a6,a4⟩:=O.set (Zc a7) J;obtain⟨p1,p2⟩:=CJ (v:=x) F a5;have V:aaI (A++B) M0:=by rw[a6];exact(abo A).append (aal M1 B)
     refine q .non _ (a::(A++(N3++B))) [] (λb u U n=>by rw[aO (show b≠a from λz=>n (by rw[z];simp))];exact U) (λW' ev=>⟨?_,nH⟩) ?_ (λb U=>?_) ?_ rfl
     .simp![h_,F]
      rw[Rep];refine⟨a,_,A++(N3++B),rfl,⟨p1,a5⟩,?_,a_,rfl⟩;rw[p2];refine a4.mono ev (.inl (jC k1.1 c1.2.1)) (.inl (jB k1.2 c2.2.1)) λc Z u hu=>?_;rw[aO (show c≠a from λz=>?_)]
      .exact hu
      .subst z
       simp![YL]at Z;rcases Z with y|y|y
       .exact hn.1 (V.subset (by simp[y]))
       .exact a1 y
       .exact hn.1 (V.subset (by simp[y]))
     .rw[Zu]
      have n2:=V.nodup hn.2;have n3:=Zi.mp n2;have a3:∀z∈N3,z∉A++B:=λz h1 h2=>a0.2.2 z (Zw _ (V.subset h2)) z h1 rfl;refine Zv.mpr ⟨λy=>?_,dX n3.1 (dX a0.2.1 n3.2.1 λz h1 h2=>a3 z h1 (by simp[h2])) λz h1 h2=>?_⟩
      .simp![YL]at y
       rcases y with y|y|y
       .exact hn.1 (V.subset (by simp[y]))
       .exact a1 y
       .exact hn.1 (V.subset (by simp[y]))
      .rcases YL.mp h2 with y|y
       .exact a3 z y (by simp[h1])
       .exact n3.2.2 z h1 z y rfl
     .rw[Zu]at U
      rcases Za.mp U with z|z
      .exact .inl (by simp[z])
      .simp![YL]at z
       rcases z with z|z|z
       .exact .inl (Zw _ (V.subset (by simp[z])))
       .exact .inr (.inl (by simp[z]))
       .exact .inl (Zw _ (V.subset (by simp[z])))
     .simp[h_,F,clean,aD,aC,jC k1.1 c1.2.1,jB k1.2 c2.2.1]
    |none=>
     rw[pL F];refine q .non _ (a::(M0++N3)) [] (λb u U n=>by rw[aO (show b≠a from λz=>n (by rw[z];simp))];exact U) (λW' ev=>⟨?_,nH⟩) ?_ (λb U=>?_) ?_ rfl
     .simp![h_,F]
      rw[Rep];refine⟨a,_,M0++N3,rfl,⟨by simp,?_⟩,?_,a_,rfl⟩
      .exact Zi.mpr ⟨a5,by simp,λy hy z hz=>by
        have:z=k:=by simpa using hz
        subst this;exact λe=>vV F (e▸hy)⟩
      .rw[Zr]
       refine(O.mono ev (.inl k1.1) (.inl k1.2) λc Z u hu=>?_).append (.one (J.mono ev (.inl c1.2.1) (.inl c2.2.1) λc Z u hu=>?_))
       .rw[aO (show c≠a from λz=>hn.1 (z▸Z))];exact hu
       .rw[aO (show c≠a from λz=>a1 (z▸Z))];exact hu
     .rw[Zu];exact nd
     .rw[Zu]at U
      rcases Za.mp U with z|z
      .exact .inl (by simp[z])
      .rcases YL.mp z with z|z
       .exact .inl (by simp[z])
       .exact .inr (.inl (by simp[z]))
     .simp[h_,F,clean,aD,aC,b8,bY,az,aB,k1,c1,c2]
   .cases h
 .cases h
theorem lJ(J:∀c,(X c).A.units+1<cLine):MuT X G fU:=⟨_,λc=>Qx (J c),Gx⟩
end
noncomputable abbrev InX(X:ι->Cx)(N':List Str)(scope:Scope):ι×(Addr×Hq×Hp×List Addr)->Cx:=λp=>bC (X p.1) N' scope p.2.1 p.2.2.1 p.2.2.2.1 p.2.2.2.2
def gF(cap:List (Option Nat))(ρ:En):En:=cap.map λo=>o.bind λj=>(ρ[j]?).bind id
def obC(cap:List (Option Nat))(ob:Nat->Bool):Nat->Bool:=λi=>match cap[i]? with
 |some (some j)=>ob j
 |_=>false
variable{x:α}{l:List (Option α)}
theorem rK{α:Type}{cap:List (Option Nat)}{l:List (Option α)}{x:α}(h:(cap.map λo=>o.bind λj=>(l[j]?).bind id)[i]? =some (some x)):∃j,cap[i]? =some (some j)/\l[j]? =some (some x):=by
 rw[List.getElem?_map]at h;cases e:cap[i]? with
 |none=>rw[e]at h;cases h
 |some o=>
  rw[e]at h;cases o with
  |none=>simp at h
  |some j=>
   refine⟨j,rfl,?_⟩;have h:(l[j]?).bind id=some x:=by simpa using h
   cases e2:l[j]? with
   |none=>rw[e2]at h;cases h
   |some o=>rw[e2]at h;simpa using h
theorem Ac{α:Type}{cap:List (Option Nat)}{l:List (Option α)}{x:α}(h:cap[i]? =some (some j))(h2:l[j]? =some (some x)):(cap.map λo=>o.bind λj=>(l[j]?).bind id)[i]? =some (some x):=by
 rw[List.getElem?_map,h];simp[h2]
theorem Rel.cap{cap:List (Option Nat)}(r:Rel G H W ob ρ σ):Rel G H W (obC cap ob) (gF cap ρ) (gR cap σ):=λi d e=>by
 obtain⟨j,h1,h2⟩:=rK e;obtain⟨v,L,q1,q2,O⟩:=r j d h2;refine⟨v,L,Ac h1 q1,q2,λz=>O ?_⟩;unfold obC at z;rw[h1]at z;exact z
def Ji(G:Gc)(ob own:Nat->Bool)(g:TG)(f:D->En->Option En):Prop:=∀(d:D)(ρ I:En),f d ρ=some I->∀(x:V)(σ:L2.St)(H:Hp)(W:Wn),Rep G H W d x []->Rel G H W ob ρ σ->σ.length=ρ.length->∀Q:L2.St->Hp->Prop,
 (∀B,Rel G H W ob I B->B.length=I.length->(∀j,own j=false->B[j]? =σ[j]?)->Q B H)->g x σ H Q
def Bw(G:Gc)(ob own:Nat->Bool)(g:TGs)(f:List D->En->Option En):Prop:=∀(ds:List D)(ρ I:En),f ds ρ=some I->∀(xs:List V)(σ:L2.St)(H:Hp)(W:Wn),aH G H W ds xs []->Rel G H W ob ρ σ->σ.length=ρ.length->∀Q:L2.St->Hp->Prop,
 (∀B,Rel G H W ob I B->B.length=I.length->(∀j,own j=false->B[j]? =σ[j]?)->Q B H)->g xs σ H Q
structure DY{ι:Type}(X:ι->Cx)(G:Gc)(ob own:Nat->Bool)(tg:Expr)(f:D->En->Option En):Prop where
 mk::(ex:∃t,(∀c,PG (X c) tg t)/\Ji G ob own t f)
structure Ez{ι:Type}(X:ι->Cx)(G:Gc)(ob own:Nat->Bool)(tg:List Expr)(f:List D->En->Option En):Prop where
 mk::(ex:∃t,(∀c,PGs (X c) tg t)/\Bw G ob own t f)
def tpN(i:Nat):D->En->Option En:=λd ρ=>some (ρ.set i (some d))
def tpT(n:Nat)(g:List D->En->Option En):D->En->Option En:=λd ρ=>match d with
 |.tup ds=>if ds.length=n then g ds ρ else none
 |_=>none
theorem HS{own:Nat->Bool}(N:own i=true):Ji G ob own (w6 i) (tpN i):=λd ρ I e x σ H W r V Y Q q=>by
 cases e;refine q _ (λj d' F=>?_) (by simp[Y]) λj F=>?_
 .by_cases e:i=j
  .subst e
   rw[abO]at F;split at F
   .split at F
    .rename_i h2
     have:d=d':=by simpa using F
     subst this;exact⟨x,[],by simp[Y,h2],r,λ_ c Z=>by cases Z⟩
    .cases F
   .exact absurd rfl ‹_›
  .rw[List.getElem?_set_ne e]at F
   obtain⟨v,L,h1,h2,B⟩:=V j d' F;exact⟨v,L,by rw[List.getElem?_set_ne e];exact h1,h2,B⟩
 .have:i≠j:=λz=>by rw[←z,N]at F;cases F
  rw[List.getElem?_set_ne this]
theorem Ij{own:Nat->Bool}:Bw G ob own O3 cC:=λds ρ I e xs σ H W r V Y Q q=>by
 cases ds with
 |nil=>
  cases e;obtain⟨rfl,_⟩:=r.inv0;exact⟨rfl,q σ V Y λ_ _=>rfl⟩
 |cons d r=>cases e
variable{g:List D->En->Option En}
theorem Em{own:Nat->Bool}{t:TG}{u:TGs}{f:D->En->Option En}(h1:Ji G ob own t f)(h2:Bw G ob own u g):Bw G ob own (JL t u) (aQ f g):=λds ρ I e xs σ H W r V Y Q q=>by
 cases ds with
 |nil=>cases e
 |cons d ds=>
  obtain⟨x,ys,U,z,rfl,hL,J,O⟩:=r.inv;obtain⟨rfl,rfl⟩:U=[]/\z=[]:=by simpa using hL.symm
  simp![aQ]at e;cases B:f d ρ with
  |none=>rw[B]at e;cases e
  |some ρ1=>
   have e:g ds ρ1=some I:=by simpa[B]using e
   exact⟨x,ys,rfl,h1 d ρ ρ1 B x σ H W J V Y _ λa0 a1 Z k1=>h2 ds ρ1 I e ys a0 H W O a1 Z Q λσ2 a2 N k2=>q σ2 a2 N λj F=>(k2 j F).trans (k1 j F)⟩
theorem Mp{own:Nat->Bool}{t:TGs}(h:Bw G ob own t g):Ji G ob own (Ur G.K n t) (tpT n g):=λd ρ I e x σ H W r V Y Q q=>by
 cases d with
 |tup ds=>
  simp![tpT]at e;split at e
  .rename_i hn
   rw[Rep]at r;obtain⟨a,xs,rfl,U,O⟩:=r;exact⟨a,xs,rfl,SqT.of U,by rw[←O.length];exact hn,h ds ρ I e xs σ H W O V Y Q q⟩
  .cases e
 |_=>cases e
section
variable{ι:Type}{X:ι->Cx}{G:Gc}{ob own:Nat->Bool}
theorem eY(i:Nat){x:Str}{pos:Pos}(q:∀c,(X c).N.Nodup)(z:own i=true:=by rfl)(hi:∀c,(X c).N[i]? =some x:=by intro _;rfl)(J:∀c,Loc (X c).env.scope x:=by intro _;first|exact aba rfl|exact aaL rfl)(V:∀c,(X c).fn x=true∨(X c).env.scope.names.lookup x=some .local:=by intro _;first|exact .inl rfl|exact .inr rfl):DY X G ob own (.Name x pos) (tpN i):=⟨_,λc=>zX (q c) (hi c) (J c) (V c),HS z⟩
theorem H9:Ez X G ob own [] cC:=⟨_,λc=>GQ,Ij⟩
theorem wy{e:Expr}{es:List Expr}{f:D->En->Option En}{g:List D->En->Option En}(h1:DY X G ob own e f)(h2:Ez X G ob own es g)(B:∀c,(aaD (e::es) (X c).env).map (·.2)=acy e (X c).env::(aaD es (X c).env).map (·.2):=by intro _;rfl):Ez X G ob own (e::es) (aQ f g):=
 let⟨t,a1,a2⟩:=h1.ex;let⟨u,b1,b2⟩:=h2.ex;⟨_,λc=>Aq (a1 c) (b1 c) (B c),Em a2 b2⟩
theorem Ju{es:List Expr}{k n:Nat}{pos:Pos}{g:List D->En->Option En}(Z:∀c,(X c).calm=true)(h:Ez X G ob own es g)(hn:∀c,(aaD es (X c).env).length=n:=by intro _;rfl)(z:∀c,(aaD es (X c).env).findIdx? (·.1)=none:=by intro _;rfl)(F:∀c,(X c).K=G.K:=by intro _;rfl):DY X G ob own (.Tuple es k pos) (tpT n g):=
 let⟨t,a1,a2⟩:=h.ex;⟨_,λc=>(by rw[←F c];exact Ku (Z c) (a1 c) (hn c) (z c)),Mp a2⟩
structure CN{ι:Type}(X:ι->Cx)(G:Gc)(ob:Nat->Bool)(ifs:List Expr)(f:En->Option Bool):Prop where
 mk::(ex:∃t,(∀c,PTs (X c) ifs t)/\RfT G ob t f)
def eTT:En->Option Bool:=λ_=>some true
theorem j4:CN X G ob [] eTT:=⟨_,λc=>O_,λρ b e σ H W V w Q q=>by cases e;exact q H (Same.refl H)⟩
theorem rN{c:Expr}{f:En->Option Bool}(h:PVT X G ob c f):CN X G ob [c] f:=let⟨t,a1,a2⟩:=h.ex;⟨t,λc=>Pg (a1 c),a2⟩
def gh(tg:D->En->Option En)(c:En->Option Bool)(e:En->Option D)(ρ0:En):List D->Option (List D)
 |[]=>some []
 |d::r=>(tg d ρ0).bind λρ1=>(c ρ1).bind λb=>if b=true then(e ρ1).bind λx=>(gh tg c e ρ0 r).map λt=>x::t else gh tg c e ρ0 r
def fV(cap:List (Option Nat))(it:En->Option (Bool×List D))(tg:D->En->Option En)(c:En->Option Bool)(e:En->Option D):En->Option D:=λρ=>(it ρ).bind λp=>if p.2.length<=1000000 then(gh tg c e (gF cap ρ) p.2).map λys=>.lst .own ys else none
theorem six{n:Nat}(h:n<=1000000):n<YZ:=Nat.lt_of_le_of_lt h (by decide)
theorem CP{cap:List (Option Nat)}{σ B:L2.St}(Z:∀i:Nat,own i=true->cap[i]?≠none->cap[i]? =some none)(h:∀j,own j=false->B[j]? =(gR cap σ)[j]?):Kp (gR cap σ) B:=λi v e=>by
 cases N:own i with
 |false=>rw[h i N];exact e
 |true=>
  obtain⟨j,h1,_⟩:=rK e;rw[Z i N (by rw[h1];simp)]at h1;cases h1
theorem Ex{cap:List (Option Nat)}{wi:TI}{g:TG}{tt:TT}{te:TE}{it:En->Option (Bool×List D)}{tg:D->En->Option En}{c:En->Option Bool}{e:En->Option D}(a6:∀i:Nat,own i=true->cap[i]?≠none->cap[i]? =some none)(hi:RfI G ob wi it)(hg:Ji G (obC cap ob) own g tg)(ht:RfT G (obC cap ob) tt c)(V:RfE G (obC cap ob) te e):RfE G ob (Fq cap wi g tt te) (fV cap it tg c e):=λρ d ee σ H W rl w Q q=>by
 unfold fV at ee;cases h1:it ρ with
 |none=>simp[h1]at ee
 |some p=>
  obtain⟨b,items⟩:=p;rw[h1]at ee;simp![YK]at ee;split at ee
  .rename_i hlen
   cases h2:gh tg c e (gF cap ρ) items with
   |none=>simp[h2]at ee
   |some a1=>
    obtain rfl:D.lst .own a1=d:=by simpa[h2]using ee
    refine hi ρ b items h1 σ H W rl w _ λJ H1 F wk=>?_;refine⟨λi m ys H2=>i+m=items.length/\ys.length<=i/\∃acc L rest,Same H1 H2/\aH G H2 (W.add L) acc ys L/\(∀a∈L,H1 a=none)/\L.Nodup/\WOk H2 (W.add L)/\gh tg c e (gF cap ρ) (items.drop i)=some rest/\acc++rest=a1,⟨items.length,by omega,by simp,[],[],a1,Same.refl _,.nil,by simp,ZR,?_,h2,rfl⟩,?_⟩
    .rw[tH];exact w.up F
    rintro i m ys H2 ⟨b2,b3,acc,L,rest,s2,ra,fa,na,wa,O,I⟩;have a2:Up H1 H2 W (W.add L):=Up.add s2 fa
    .by_cases hil:i<items.length
     .have hdr:=(abx hil).symm
      rw[hdr,gh]at O;refine .inr ⟨wk.go i items[i] (by simp[hil]) H2 _ (LtB.up a2),by have:=six hlen;omega,λa4 H'=>(i+1)+(m-1)=items.length/\a4.length<=i+1/\∃acc L rest,Same H1 H'/\aH G H' (W.add L) acc a4 L/\(∀a∈L,H1 a=none)/\L.Nodup/\WOk H' (W.add L)/\gh tg c e (gF cap ρ) (items.drop (i+1))=some rest/\acc++rest=a1,λa4 H' h=>⟨m-1,by omega,h⟩,λx H3 hy=>?_⟩;obtain⟨s3,rx⟩:=wk.yld i items[i] (by simp[hil]) H2 _ (LtB.up a2) x H3 hy;cases B:tg items[i] (gF cap ρ)with
      |none=>simp[B]at O
      |some ρ1=>
       rw[B]at O;simp![YK]at O;have a9:Rel G H3 (W.add L) (obC cap ob) (gF cap ρ) (gR cap σ):=(rl.cap).up ((Up.same F).trans (a2.trans (Up.same s3)));have a3:=ra.up (Up.same s3 (W:=W.add L));have a5:WOk H3 (W.add L):=wa.up s3;refine hg items[i] _ ρ1 B x _ H3 (W.add L) rx a9 (by simp[gF,gR]) _ λσ2 a7 b4 k4=>⟨CP a6 k4,?_⟩;cases h4:c ρ1 with
       |none=>simp[h4]at O
       |some bb=>
        rw[h4]at O;simp![YK]at O;refine ht ρ1 bb h4 σ2 H3 (W.add L) a7 a5 _ λH4 s4=>?_;have b1:=a7.up (Up.same s4);have a8:=a5.up s4;cases bb with
        |false=>
         simp![ZG,aao]at O;exact wA ⟨by omega,by omega,acc,L,rest,((s2.trans s3).trans s4),a3.up (Up.same s4),fa,na,a8,O,I⟩
        |true=>
         simp![Zz]at O;cases h5:e ρ1 with
         |none=>simp[h5]at O
         |some y=>
          cases h6:gh tg c e (gF cap ρ) (items.drop (i+1))with
          |none=>simp[h5,h6]at O
          |some a0=>
           obtain rfl:y::a0=rest:=by simpa[h5,h6]using O
           refine uc (V ρ1 y h5 σ2 H4 (W.add L) b1 a8 _ λv H5 M s5 Z fy ny=>?_);have fM:∀a∈M,H1 a=none:=λa Y=>(((s2.trans s3).trans s4)).none' (fy a Y);have b0:∀a∈L,a∉M:=λa h1 h2=>by
            obtain⟨o,N,_⟩:=(a3.up (Up.same s4 (W:=W.add L))).dom a h1;rw[fy a h2]at N;cases N
           have u5:Up H4 H5 (W.add L) (W.add (L++M)):=⟨s5,λb u U f=>⟨λz=>z.elim (λz=>(YL.mp z).elim (λz=>f.1 (.inl z)) λz=>by rw[fy b z]at U;cases U) λz=>f.1 (.inr z),f.2⟩,λ_ _ _ f=>f⟩;have u6:Up H5 H5 ((W.add L).add M) (W.add (L++M)):=⟨Same.refl _,λb u U f=>⟨λz=>by
            rcases z with z|z
            .exact(YL.mp z).elim (λz=>f.1 (.inr (.inl z))) λz=>f.1 (.inl z)
            .exact f.1 (.inr (.inr z)),f.2⟩,λ_ _ _ f=>f⟩
           refine⟨by omega,by simp;omega,acc++[y],L++M,a0,((s2.trans s3).trans s4).trans s5,((a3.up (Up.same s4)).up u5).append (.one (Z.up u6)),λa Y=>(YL.mp Y).elim (fa a) (fM a),dX na ny b0,?_,rfl,by rw[←I];simp⟩;exact w.add (((F.trans s2).trans s3).trans s4 |>.trans s5) λa Y=>(YL.mp Y).elim (λz=>let⟨o,h,m⟩:=(a3.up (Up.same s4 (W:=W.add L))).dom a z;⟨o,s5 a o h,m⟩) (Z.dom a)
     .have hl:i=items.length:=by omega
      subst hl;rw[aa9,gh]at O;cases O;refine .inl ⟨wk.stop H2 _ (LtB.up a2),abU (six 1.11),λp hp=>?_⟩;have sm:Same H2 (upd H2 p (.lst ys)):=Same.new hp;rw[Zu]at I;subst I;refine q (.ref p) _ (p::L) ((F.trans s2).trans sm) ?_ (λa Y=>(Za.mp Y).elim (λz=>by rw[z];exact(F.trans s2).none' hp) λz=>F.none' (fa a z)) (Zv.mpr ⟨λz=>?_,na⟩)
      .rw[Rep]
       exact⟨p,ys,L,rfl,ra.up ⟨sm,λb u U f=>⟨λz=>z.elim (λz=>(Za.mp z).elim (λz=>by rw[z,hp]at U;cases U) λz=>f.1 (.inl z)) λz=>f.1 (.inr z),f.2⟩,λ_ _ _ f=>f⟩,a_,rfl⟩
      .obtain⟨o,N,_⟩:=ra.dom p z
       rw[hp]at N;cases N
  .cases ee
end
def qZ(cap:List (Option Nat)):Prop:=∀(i k j:Nat),cap[i]? =some (some j)->cap[k]? =some (some j)->i=k
def nu(cap:List (Option Nat))(S:Ad):Ad:=λi=>match cap[i]? with
 |some (some j)=>S j
 |_=>[]
def t6(cap:List (Option Nat))(S:Ad)(Fr:Addr->Prop):Addr->Prop:=λa=>Fr a∨∃j:Nat,(∀i:Nat,cap[i]?≠some (some j))/\a∈S j
theorem j5{cap:List (Option Nat)}(h:a∈nu cap S i):∃j,cap[i]? =some (some j)/\a∈S j:=by
 unfold nu at h;split at h
 .rename_i j e;exact⟨j,e,h⟩
 .cases h
theorem yR{cap:List (Option Nat)}(h:cap[i]? =some (some j)):nu cap S i=S j:=by unfold nu;rw[h]
theorem Ek{cap:List (Option Nat)}(h:cap[i]? =some (some j)):obC cap ob i=ob j:=by unfold obC;rw[h]
section
variable{G:Gc}{ob own:Nat->Bool}{cap:List (Option Nat)}
theorem zM{S:Ad}{Fr:Addr->Prop}{a:Addr}:(wn ob S Fr).free a↔(wn (obC cap ob) (nu cap S) (t6 cap S Fr)).free a:=by
 constructor
 .intro f
  have q:∀j,a∉S j:=λj z=>by
   cases N:ob j with
   |false=>exact f.2.1 ⟨j,N,z⟩
   |true=>exact f.2.2 ⟨j,N,z⟩
  refine⟨λz=>z.elim f.1 λ⟨j,_,z⟩=>q j z,λ⟨i,_,z⟩=>?_,λ⟨i,_,z⟩=>?_⟩
  .obtain⟨j,_,z⟩:=j5 z;exact q j z
  .obtain⟨j,_,z⟩:=j5 z;exact q j z
 .intro f
  have q:∀j,a∉S j:=λj z=>by
   by_cases Z:∃i:Nat,cap[i]? =some (some j)
   .obtain⟨i,hi⟩:=Z
    have D:a∈nu cap S i:=by rw[yR hi];exact z
    cases N:obC cap ob i with
    |false=>exact f.2.1 ⟨i,N,D⟩
    |true=>exact f.2.2 ⟨i,N,D⟩
   .exact f.1 (.inr ⟨j,λi hi=>Z ⟨i,hi⟩,z⟩)
  exact⟨λz=>f.1 (.inl z),λ⟨j,_,z⟩=>q j z,λ⟨j,_,z⟩=>q j z⟩
theorem UG{H:Hp}{S:Ad}{Fr:Addr->Prop}{d:D}{v:V}{L:List Addr}(Z:clean d=true):Rep G H (wn ob S Fr) d v L↔Rep G H (wn (obC cap ob) (nu cap S) (t6 cap S Fr)) d v L:=by
 have q:=(by simpa[clean]using Z:aD d=true/\aC d=true);constructor
 .intro r
  have I:Evo H H (wn ob S Fr) (wn (obC cap ob) (nu cap S) (t6 cap S Fr)):=⟨λb u U f=>⟨U,zM.mp f⟩,λ_ _ h=>h⟩;exact r.mono I (.inl q.1) (.inl q.2) λ_ _ _ h=>h
 .intro r
  have I:Evo H H (wn (obC cap ob) (nu cap S) (t6 cap S Fr)) (wn ob S Fr):=⟨λb u U f=>⟨U,zM.mpr f⟩,λ_ _ h=>h⟩;exact r.mono I (.inl q.1) (.inl q.2) λ_ _ _ h=>h
theorem Sta.inn{H:Hp}{ρ:En}{σ:L2.St}{S:Ad}{Fr:Addr->Prop}(F:qZ cap)(s:Sta G H ob ρ σ S Fr):Sta G H (obC cap ob) (gF cap ρ) (gR cap σ) (nu cap S) (t6 cap S Fr)where
 len:=by simp[gF,gR]
 sl:=λi d e=>by
  obtain⟨j,h1,h2⟩:=rK e;obtain⟨v,q1,q2,O⟩:=s.sl j d h2;exact⟨v,Ac h1 q1,by rw[yR h1];exact(UG O).mp q2,O⟩
 em:=λi h=>by
  unfold nu;split
  .rename_i j e
   exact s.em j λd hd=>h d (Ac e hd)
  .rfl
 nd:=λi=>by
  unfold nu;split
  .exact s.nd _
  .exact ZR
 dj:=λi k a h1 h2=>by
  obtain⟨B,e1,q⟩:=j5 h1;obtain⟨D,e2,J⟩:=j5 h2;have:=s.dj B D a q J;subst this;exact F i k B e1 e2
 fdj:=λi a h z=>by
  obtain⟨j,e,z⟩:=j5 z;rcases h with h|⟨k,I,h⟩
  .exact s.fdj j a h z
  .have:=s.dj j k a z h
   subst this;exact I i e
 fdm:=λa h=>by
  rcases h with h|⟨k,_,h⟩
  .exact s.fdm a h
  .exact s.mu h
def e_:List (Option Nat)->En->En->En
 |some j::cs,d::ds,ρ=>e_ cs ds (ρ.set j d)
 |none::cs,_::ds,ρ=>e_ cs ds ρ
 |_,_,ρ=>ρ
theorem p_:∀(cap:List (Option Nat))(ds ρ:En),(e_ cap ds ρ).length=ρ.length
 |[],ds,ρ=>by cases ds<;>rfl
 |some j::cs,[],ρ=>rfl
 |none::cs,[],ρ=>rfl
 |some j::cs,d::ds,ρ=>by rw[e_,p_ cs ds];simp
 |none::cs,d::ds,ρ=>by rw[e_,p_ cs ds]
theorem pJ:∀{cap:List (Option Nat)}{ds ρ:En}{j:Nat},(∀i:Nat,cap[i]?≠some (some j))->(e_ cap ds ρ)[j]? =ρ[j]?
 |[],ds,ρ,j,_=>by cases ds<;>rfl
 |some k::cs,[],ρ,j,_=>rfl
 |none::cs,[],ρ,j,_=>rfl
 |some k::cs,d::ds,ρ,j,h=>by
  rw[e_,pJ λi e=>h (i+1) (by simpa using e),List.getElem?_set_ne λz=>h 0 (by simp[z])]
 |none::cs,d::ds,ρ,j,h=>by rw[e_,pJ λi e=>h (i+1) (by simpa using e)]
theorem sS:∀{cap:List (Option Nat)}{ds ρ:En}{i j:Nat}{x:Option D},qZ cap->cap[i]? =some (some j)->ds[i]? =some x->j<ρ.length->(e_ cap ds ρ)[j]? =some x
 |[],ds,ρ,i,j,x,_,h,_,_=>by simp at h
 |some k::cs,[],ρ,i,j,x,_,_,h,_=>by simp at h
 |none::cs,[],ρ,i,j,x,_,_,h,_=>by simp at h
 |some k::cs,d::ds,ρ,i,j,x,hj,h1,h2,hl=>by
  rw[e_];cases i with
  |zero=>
   have e1:k=j:=by simpa using h1
   have e2:d=x:=by simpa using h2
   subst e1 e2;rw[pJ λi e=>?_]
   .simp[hl]
   .have:=hj 0 (i+1) k (by simp) (by simpa using e)
    omega
  |succ i=>exact sS (λa b c h1 h2=>by have:=hj (a+1) (b+1) c (by simpa using h1) (by simpa using h2);omega) (by simpa using h1) (by simpa using h2) (by simpa using hl)
 |none::cs,d::ds,ρ,i,j,x,hj,h1,h2,hl=>by
  rw[e_];cases i with
  |zero=>simp at h1
  |succ i=>exact sS (λa b c h1 h2=>by have:=hj (a+1) (b+1) c (by simpa using h1) (by simpa using h2);omega) (by simpa using h1) (by simpa using h2) hl
def uQ(cap:List (Option Nat))(q S:Ad):Ad:=λj=>match cap.findIdx? (λo=>o==some j)with
 |some i=>q i
 |none=>S j
theorem jt{q S:Ad}{i j:Nat}(F:qZ cap)(h:cap[i]? =some (some j)):uQ cap q S j=q i:=by
 unfold uQ;split
 .rename_i k e
  obtain⟨h1,h2,_⟩:=ZM.mp e;have:cap[k]=some j:=by simpa using h2
  rw[F i k j h (by rw[Zc h1,this])]
 .rename_i e
  have:=aaV.mp e (some j) (Zo h);simp at this
theorem jj{q S:Ad}{j:Nat}(h:∀i:Nat,cap[i]?≠some (some j)):uQ cap q S j=S j:=by
 unfold uQ;split
 .rename_i k e
  obtain⟨h1,h2,_⟩:=ZM.mp e;have:cap[k]=some j:=by simpa using h2
  exact absurd (by rw[Zc h1,this]) (h k)
 .rfl
theorem iB(cap:List (Option Nat))(j:Nat):(∃i:Nat,cap[i]? =some (some j))∨(∀i:Nat,cap[i]?≠some (some j)):=by
 by_cases h:∃i:Nat,cap[i]? =some (some j)
 .exact .inl h
 .exact .inr λi z=>h ⟨i,z⟩
theorem Sta.out{H H':Hp}{ρ a3:En}{σ a5:L2.St}{S Si:Ad}{Fr:Addr->Prop}{M:List Addr}(F:qZ cap)(s:Sta G H ob ρ σ S Fr)(N:∀i:Nat,cap[i]? =some none->True)(I:∀i j:Nat,cap[i]? =some (some j)->a5[i]? =(gR cap σ)[i]?)
  (si:Sta G H' (obC cap ob) a3 a5 Si (plus M (t6 cap S Fr))) (ef:Eff (obC cap ob) H H' (nu cap S) Si M):Sta G H' ob (e_ cap a3 ρ) σ (uQ cap Si S) (plus M Fr)/\Eff ob H H' S (uQ cap Si S) M/\
   (∀d v L,clean d=true->Rep G H' (wn (obC cap ob) Si (plus M (t6 cap S Fr))) d v L->Rep G H' (wn ob (uQ cap Si S) (plus M Fr)) d v L):=by
 have a0:∀{a},inO (obC cap ob) (nu cap S) a->inO ob S a:=λ{a}⟨i,h1,h2⟩=>by
  obtain⟨j,e,z⟩:=j5 h2;exact⟨j,by rw[←Ek (ob:=ob) e];exact h1,z⟩
 have a7:Eff ob H H' S (uQ cap Si S) M:=by
  refine⟨λb u U n=>ef.kp b u U λz=>n (a0 z),λj a2=>?_,λj a a2 z=>?_,λa Y=>(ef.fm a Y).imp a0 id⟩
  .rcases iB cap j with⟨i,hi⟩|hn
   .rw[jt F hi,ef.sn i (by rw[Ek hi];exact a2),yR hi]
   .exact jj hn
  .rcases iB cap j with⟨i,hi⟩|hn
   .rw[jt F hi]at z
    exact(ef.gr i a (by rw[Ek hi];exact a2) z).imp a0 id
   .rw[jj hn]at z;exact .inl ⟨j,a2,z⟩
 have a4:∀a,(wn (obC cap ob) Si (plus M (t6 cap S Fr))).free a->(wn ob (uQ cap Si S) (plus M Fr)).free a:=λa f=>by
  have nS:∀j,a∉uQ cap Si S j:=λj z=>by
   rcases iB cap j with⟨i,hi⟩|hn
   .rw[jt F hi]at z
    cases a9:obC cap ob i with
    |false=>exact f.2.1 ⟨i,a9,z⟩
    |true=>exact f.2.2 ⟨i,a9,z⟩
   .rw[jj hn]at z
    exact f.1 (.inr (.inr ⟨j,hn,z⟩))
  exact⟨λz=>z.elim (λz=>f.1 (.inl z)) λz=>f.1 (.inr (.inl z)),λ⟨j,_,z⟩=>nS j z,λ⟨j,_,z⟩=>nS j z⟩
 have conv:∀d v L,clean d=true->Rep G H' (wn (obC cap ob) Si (plus M (t6 cap S Fr))) d v L->Rep G H' (wn ob (uQ cap Si S) (plus M Fr)) d v L:=λd v L Z r=>by
  have q:=(by simpa[clean]using Z:aD d=true/\aC d=true);have ev:Evo H' H' (wn (obC cap ob) Si (plus M (t6 cap S Fr))) (wn ob (uQ cap Si S) (plus M Fr)):=⟨λb u U f=>⟨U,a4 b f⟩,λ_ _ h=>h⟩;exact r.mono ev (.inl q.1) (.inl q.2) λ_ _ _ h=>h
 have a1:∀{j a},(∀i:Nat,cap[i]?≠some (some j))->a∈S j->∀i,a∉Si i:=λ{j a} hn z i y=>si.fdj i a (.inr (.inr ⟨j,hn,z⟩)) y;refine⟨⟨by rw[p_];exact s.len,λj d hd=>?_,λj hd=>?_,λj=>?_,λj k a h1 h2=>?_,λj a h z=>?_,λa h=>?_⟩,a7,conv⟩
 .rcases iB cap j with⟨i,hi⟩|hn
  .have V:j<ρ.length:=by
    have:=(List.getElem?_eq_some_iff.mp hd).1;rwa[p_]at this
   cases J:a3[i]? with
   |none=>
    have h1:a3.length<=i:=abe.mp J;have h2:a5.length<=i:=by rw[←si.len];exact h1
    have B:=I i j hi;rw[abe.mpr h2]at B;have h4:(gR cap σ).length<=i:=abe.mp B.symm;have h5:i<cap.length:=(List.getElem?_eq_some_iff.mp hi).1;simp[gR]at h4;omega
   |some x=>
    rw[sS F hi J V]at hd;cases hd;obtain⟨v,q1,q2,O⟩:=si.sl i d J;rw[I i j hi]at q1;obtain⟨j',e1,e2⟩:=rK q1;rw[hi]at e1;cases e1;exact⟨v,e2,by rw[jt F hi];exact conv _ _ _ O q2,O⟩
  .rw[pJ hn]at hd
   obtain⟨v,q1,q2,O⟩:=s.sl j d hd;refine⟨v,q1,?_,O⟩;rw[jj hn];have q:=(by simpa[clean]using O:aD d=true/\aC d=true);refine q2.mono (a7.evo s) (.inl q.1) (.inl q.2) λc Z u hu=>?_;exact ef.kp c u hu λ⟨i,_,z⟩=>by
    obtain⟨k,e,z⟩:=j5 z;have:=s.dj j k c Z z;subst this;exact hn i e
 .rcases iB cap j with⟨i,hi⟩|hn
  .rw[jt F hi]
   refine si.em i λd a8=>?_;by_cases V:j<ρ.length
   .exact hd d (sS F hi a8 V)
   .
    obtain⟨v,q1,_⟩:=si.sl i d a8;rw[I i j hi]at q1;obtain⟨j',e1,e2⟩:=rK q1;rw[hi]at e1;cases e1;have:=(List.getElem?_eq_some_iff.mp e2).1;rw[←s.len]at this;exact V this
  .rw[jj hn]
   exact s.em j λd=>by have:=hd d;rwa[pJ hn]at this
 .rcases iB cap j with⟨i,hi⟩|hn
  .rw[jt F hi];exact si.nd i
  .rw[jj hn];exact s.nd j
 .rcases iB cap j with⟨i,hi⟩|hn<;>rcases iB cap k with⟨i',D⟩|a6
  .rw[jt F hi]at h1
   rw[jt F D]at h2;have:=si.dj i i' a h1 h2;subst this;rw[hi]at D;cases D;rfl
  .rw[jt F hi]at h1
   rw[jj a6]at h2;exact absurd h1 (a1 a6 h2 i)
  .rw[jj hn]at h1
   rw[jt F D]at h2;exact absurd h2 (a1 hn h1 i')
  .rw[jj hn]at h1
   rw[jj a6]at h2;exact s.dj j k a h1 h2
 .rcases iB cap j with⟨i,hi⟩|hn
  .rw[jt F hi]at z
   exact si.fdj i a (h.imp id .inl) z
  .rw[jj hn]at z
   rcases h with h|h
   .rcases ef.fm a h with y|y
    .obtain⟨k,_,y⟩:=a0 y
     have:=s.dj j k a z y;subst this;obtain⟨i,hi,y'⟩:∃i,obC cap ob i=true/\a∈nu cap S i:=by assumption
     obtain⟨k',e,y'⟩:=j5 y';have:=s.dj j k' a z y';subst this;exact hn i e
    .obtain⟨o,N,_⟩:=s.mu z
     rw[y]at N;cases N
   .exact s.fdj j a h z
 .rcases h with h|h
  .exact si.fdm a (.inl h)
  .exact si.fdm a (.inr (.inl h))
end
section
variable{ι:Type}{X:ι->Cx}{G:Gc}{ob own:Nat->Bool}
def Tu(G:Gc)(ob own:Nat->Bool)(g:TG)(f:D->En->Option En):Prop:=∀(d:D)(ρ I:En),f d ρ=some I->∀(x:V)(σ:L2.St)(H:Hp)(S:Ad)(Fr:Addr->Prop),Sta G H ob ρ σ S Fr->(∀i,own i=true->S i=[])->Rep G H (wn ob S Fr) d x []->∀Q:L2.St->Hp->Prop,
 (∀B,Sta G H ob I B S Fr->(∀j,own j=false->B[j]? =σ[j]?)->Q B H)->g x σ H Q
theorem Hx{i:Nat}(N:own i=true):Tu G ob own (w6 i) (tgN i):=λd ρ I e x σ H S Fr s D r Q q=>by
 unfold tgN at e;split at e
 .rename_i hc
  cases e;refine q _ ⟨by simp[s.len],λj d' F=>?_,λj F=>?_,s.nd,s.dj,s.fdj,s.fdm⟩ λj F=>?_
  .by_cases ej:i=j
   .subst ej
    rw[abO]at F;split at F
    .split at F
     .rename_i h2
      have:d=d':=by simpa using F
      subst this;exact⟨x,by simp[←s.len,h2],by rw[D i N];exact r,hc⟩
     .cases F
    .exact absurd rfl ‹_›
   .rw[List.getElem?_set_ne ej]at F
    obtain⟨v,h1,h2,B⟩:=s.sl j d' F;exact⟨v,by rw[List.getElem?_set_ne ej];exact h1,h2,B⟩
  .by_cases ej:i=j
   .subst ej;exact D i N
   .exact s.em j λd'=>by have:=F d';rwa[List.getElem?_set_ne ej]at this
  .have:i≠j:=λz=>by rw[←z,N]at F;cases F
   rw[List.getElem?_set_ne this]
 .cases e
structure Xh{ι:Type}(X:ι->Cx)(G:Gc)(ob own:Nat->Bool)(tg:Expr)(f:D->En->Option En):Prop where
 mk::(ex:∃t,(∀c,PG (X c) tg t)/\Tu G ob own t f)
theorem HQ(i:Nat){x:Str}{pos:Pos}(q:∀c,(X c).N.Nodup)(z:own i=true:=by rfl)(hi:∀c,(X c).N[i]? =some x:=by intro _;rfl)(J:∀c,Loc (X c).env.scope x:=by intro _;first|exact aba rfl|exact aaL rfl)(V:∀c,(X c).fn x=true∨(X c).env.scope.names.lookup x=some .local:=by intro _;first|exact .inl rfl|exact .inr rfl):Xh X G ob own (.Name x pos) (tgN i):=⟨_,λc=>zX (q c) (hi c) (J c) (V c),Hx z⟩
def lL(cap:List (Option Nat))(tg:D->En->Option En)(c:En->Option Bool)(e:En->Option (D×En)):List D->En->Option (List D×En)
 |[],ρ=>some ([],ρ)
 |d::r,ρ=>(tg d (gF cap ρ)).bind λρ1=>(c ρ1).bind λb=>if b=true then(e ρ1).bind λp=>if clean p.1=true then(lL cap tg c e r (e_ cap p.2 ρ)).map λt=>(p.1::t.1,t.2)else none else lL cap tg c e r ρ
def iI(cap:List (Option Nat))(it:En->Option (Bool×List D))(tg:D->En->Option En)(c:En->Option Bool)(e:En->Option (D×En)):En->Option (D×En):=λρ=>(it ρ).bind λp=>if p.1=true/\p.2.length<=1000000 then(lL cap tg c e p.2 ρ).map λt=>(.lst .own t.1,t.2)else none
theorem Mh{cap:List (Option Nat)}{wi:TI}{g:TG}{tt:TT}{te:TE}{it:En->Option (Bool×List D)}{tg:D->En->Option En}{c:En->Option Bool}{e:En->Option (D×En)}(hj:qZ cap)(a6:∀i:Nat,own i=true->cap[i]?≠none->cap[i]? =some none)(hi:RfI G ob wi it)(hg:Tu G (obC cap ob) own g tg)(ht:RfT G (obC cap ob) tt c)(V:lE G (obC cap ob) te e) :
  lE G ob (Fq cap wi g tt te) (iI cap it tg c e):=λρ d c7 ee σ H S Fr s Q q=>by
 unfold iI at ee;cases h1:it ρ with
 |none=>simp[h1]at ee
 |some p=>
  obtain⟨b,items⟩:=p;rw[h1]at ee;simp![YK]at ee;split at ee
  .rename_i a1
   obtain⟨U,a1⟩:=a1;change b=true at U;change items.length<=1000000 at a1;subst U;cases h2:lL cap tg c e items ρ with
   |none=>simp[h2]at ee
   |some w=>
    obtain⟨a9,a4⟩:=w;obtain⟨rfl,rfl⟩:D.lst .own a9=d/\a4=c7:=by simpa[h2]using ee
    refine hi ρ true items h1 σ H _ s.rel s.wok _ λJ H1 sm wk=>?_;have F:Sta G H1 ob ρ σ S Fr:=s.grow sm λa z=>.inl z;have e1:Eff ob H H1 S S []:=⟨λb u h _=>sm b u h,λ_ _=>rfl,λi a h z=>.inl ⟨i,h,z⟩,by simp⟩;refine⟨λi m ys H2=>i+m=items.length/\ys.length<=i/\∃ρ2 S2 acc L rest,Sta G H2 ob ρ2 σ S2 (plus L Fr)/\aH G H2 (wn ob S2 (plus L Fr)) acc ys L/\L.Nodup/\az acc=true/\aB acc=true/\Eff ob H1 H2 S S2 L/\lL cap tg c e (items.drop i) ρ2=some (rest,a4)/\acc++rest=a9,
     ⟨items.length,by omega,by simp,ρ,S,[],[],a9,by rw[sG];exact F,.nil,ZR,rfl,rfl,.refl,h2,rfl⟩,?_⟩
    rintro i m ys H2 ⟨d4,d5,ρ2,S2,acc,L,rest,s2,ra,na,b1,b2,ef,a0,a2⟩;have lt:LtB true H1 (wn ob S Fr) H2 (wn (obC cap ob) (nu cap S2) (t6 cap S2 (plus L Fr))):=uc ⟨λb u U f=>let⟨h1,h2⟩:=(ef.evo F).k b u U f;⟨h1,zM.mp h2⟩,(ef.evo F).t⟩;by_cases b5:i<items.length
    .have hdr:=(abx b5).symm
     rw[hdr,lL]at a0;refine .inr ⟨wk.go i items[i] (by simp[b5]) H2 _ lt,by have:=six a1;omega,λb7 H'=>(i+1)+(m-1)=items.length/\b7.length<=i+1/\∃ρ2 S2 acc L rest,Sta G H' ob ρ2 σ S2 (plus L Fr)/\aH G H' (wn ob S2 (plus L Fr)) acc b7 L/\L.Nodup/\az acc=true/\aB acc=true/\Eff ob H1 H' S S2 L/\lL cap tg c e (items.drop (i+1)) ρ2=some (rest,a4)/\acc++rest=a9,λb7 H' h=>⟨m-1,by omega,h⟩,λx Y hy=>?_⟩;obtain⟨s3,rx⟩:=wk.yld i items[i] (by simp[b5]) H2 _ lt x Y hy;have b9:Sta G Y ob ρ2 σ S2 (plus L Fr):=s2.grow s3 λa z=>.inl z;have d3:Eff ob H1 Y S S2 L:=ef.same s3 λc Z=>.inl Z;have c8:aH G Y (wn ob S2 (plus L Fr)) acc ys L:=ra.up (Up.same s3);have si:=b9.inn (cap:=cap) hj;cases B:tg items[i] (gF cap ρ2)with
     |none=>simp[B]at a0
     |some a3=>
      rw[B]at a0;simp![YK]at a0;have d1:∀k,own k=true->nu cap S2 k=[]:=λk I=>by
       unfold nu;split
       .rename_i j e
        rw[a6 k I (by rw[e];simp)]at e;cases e
       .rfl
      refine hg items[i] _ a3 B x _ Y _ (t6 cap S2 (plus L Fr)) si d1 rx _ λb0 s4 c4=>⟨CP a6 c4,?_⟩;cases h4:c a3 with
      |none=>simp[h4]at a0
      |some bb=>
       rw[h4]at a0;simp![YK]at a0;refine ht a3 bb h4 b0 Y _ s4.rel s4.wok _ λH4 a8=>?_;have a7:Sta G H4 ob ρ2 σ S2 (plus L Fr):=b9.grow a8 λa z=>.inl z;have d2:Sta G H4 (obC cap ob) a3 b0 (nu cap S2) (t6 cap S2 (plus L Fr)):=s4.grow a8 λa z=>.inl z;have c2:Eff ob H1 H4 S S2 L:=d3.same a8 λc Z=>.inl Z;have b3:aH G H4 (wn ob S2 (plus L Fr)) acc ys L:=c8.up (Up.same a8);cases bb with
       |false=>
        simp![ZG,aao]at a0;exact wA ⟨by omega,by omega,ρ2,S2,acc,L,rest,a7,b3,na,b1,b2,c2,a0,a2⟩
       |true=>
        simp![Zz]at a0;cases h5:e a3 with
        |none=>simp[h5]at a0
        |some w=>
         obtain⟨y,b6⟩:=w;rw[h5]at a0;simp![YK]at a0;split at a0
         .rename_i hcy
          cases h6:lL cap tg c e (items.drop (i+1)) (e_ cap b6 ρ2)with
          |none=>simp[h6]at a0
          |some w=>
           obtain⟨a5,c0⟩:=w;obtain⟨rfl,rfl⟩:y::a5=rest/\c0=a4:=by simpa[h6]using a0
           refine uc (V a3 y b6 h5 b0 H4 _ _ d2 _ λv H5 M S5 s5 ry ny c6=>?_);have d0:∀i j:Nat,cap[i]? =some (some j)->b0[i]? =(gR cap σ)[i]?:=λi j hi=>c4 i (by
            cases N:own i with
            |false=>rfl
            |true=>rw[a6 i N (by rw[hi];simp)]at hi;cases hi)
           obtain⟨o1,o2,o3⟩:=a7.out hj (λ_ _=>trivial) d0 s5 c6;have c3:=(by simpa[clean]using hcy:aD y=true/\aC y=true);have c1:=b3.mono (o2.evo a7) (.inl b1) (.inl b2) λc Z u hu=>o2.keepsF a7 (.inl Z) u hu;rw[pZ]at o1 c1;have c5:=o3 y v M hcy ry;rw[pZ]at c5;have c9:∀a∈L,a∉M:=λa z1 z2=>by
            rcases o2.fm a z2 with y|y
            .exact a7.notO (.inl z1) y
            .obtain⟨o,N,_⟩:=b3.dom a z1
             rw[y]at N;cases N
           exact⟨by omega,by simp;omega,e_ cap b6 ρ2,_,acc++[y],L++M,a5,o1,c1.append (.one c5),dX na ny c9,by rw[b8];simp[b1,az,c3],by rw[bY];simp[b2,aB,c3],c2.trans o2,h6,by rw[←a2];simp⟩
         .cases a0
    .have hl:i=items.length:=by omega
     subst hl;rw[aa9,lL]at a0;obtain⟨rfl,rfl⟩:[]=rest/\ρ2=a4:=by simpa using a0
     refine .inl ⟨wk.stop H2 _ lt,abU (six 1.11),λp hp=>?_⟩;have b4:Same H2 (upd H2 p (.lst ys)):=Same.new hp;rw[Zu]at a2;subst a2;have np:p∉L:=λz=>by obtain⟨o,N,_⟩:=ra.dom p z;rw[hp]at N;cases N
     have O:Rep G (upd H2 p (.lst ys)) (wn ob S2 (plus (p::L) Fr)) (.lst .own acc) (.ref p) (p::L):=by
      rw[Rep];exact⟨p,ys,L,rfl,ra.up ⟨b4,λb u U f=>⟨λz=>z.elim (λz=>(Za.mp z).elim (λz=>by rw[z,hp]at U;cases U) λz=>f.1 (.inl z)) λz=>f.1 (.inr z),f.2⟩,λ_ _ _ f=>f⟩,a_,rfl⟩
     refine q (.ref p) _ (p::L) S2 (s2.grow b4 λa z=>?_) O (Zv.mpr ⟨np,na⟩) ?_
     .rcases z with z|z
      .rcases Za.mp z with z|z
       .exact .inr ⟨by rw[z];exact hp,O.dom a (by simp[z])⟩
       .exact .inl (.inl z)
      .exact .inl (.inr z)
     .exact(e1.trans ef).same b4 λc Z=>(Za.mp Z).elim (λz=>.inr (by rw[z];exact hp)) λz=>.inl (by simpa using z)
  .cases ee
section
variable{elt target iter:Expr}{ifs:List Expr}{scope:Scope}{pos pos' pos2:Pos}{N':List Str}{it:En->Option (Bool×List D)}{tg:D->En->Option En}{fc:En->Option Bool}
theorem nJ(cap:List (Option Nat))(own:Nat->Bool){fe:En->Option D}(J:∀c,(X c).xe=NoX)(Z:∀c,(X c).calm=true)(O:∀c,du (X c).env.scope (X c).N N' scope cap)(z:∀i:Nat,own i=true->cap[i]?≠none->cap[i]? =some none)(hi:PVI X G ob target iter it)(q:DY (InX X N' scope) G (obC cap ob) own target tg)(U:CN (InX X N' scope) G (obC cap ob) ifs fc)(V:PV (InX X N' scope) G (obC cap ob) elt fe)
  (B:∀c,∀x,aaE iter (X c).env x=pure x:=by intro _ _;rfl):PV X G ob 1.17 (fV cap it tg fc fe):=
 let⟨_,i1,i2⟩:=hi.ex;let⟨_,g1,g2⟩:=q.ex;let⟨_,t1,t2⟩:=U.ex;let⟨_,e1,e2⟩:=V.ex
 ⟨_,λc=>E_ (J c) (Z c) (O c) (i1 c) (λC s H fp=>g1 (c,C,s,H,fp)) (λC s H fp=>t1 (c,C,s,H,fp)) (λC s H fp=>e1 (c,C,s,H,fp)) (B c),Ex z i2 g2 t2 e2⟩
theorem LK(cap:List (Option Nat))(own:Nat->Bool){fe:En->Option (D×En)}(J:∀c,(X c).xe=NoX)(Z:∀c,(X c).calm=true)(O:∀c,du (X c).env.scope (X c).N N' scope cap)(F:qZ cap)(z:∀i:Nat,own i=true->cap[i]?≠none->cap[i]? =some none)(hi:PVI X G ob target iter it)(q:Xh (InX X N' scope) G (obC cap ob) own target tg)(U:CN (InX X N' scope) G (obC cap ob) ifs fc)(V:PVe (InX X N' scope) G (obC cap ob) elt fe)
  (B:∀c,∀x,aaE iter (X c).env x=pure x:=by intro _ _;rfl):PVe X G ob 1.17 (iI cap it tg fc fe):=
 let⟨_,i1,i2⟩:=hi.ex;let⟨_,g1,g2⟩:=q.ex;let⟨_,t1,t2⟩:=U.ex;let⟨_,e1,e2⟩:=V.ex
 ⟨_,λc=>E_ (J c) (Z c) (O c) (i1 c) (λC s H fp=>g1 (c,C,s,H,fp)) (λC s H fp=>t1 (c,C,s,H,fp)) (λC s H fp=>e1 (c,C,s,H,fp)) (B c),Mh F z i2 g2 t2 e2⟩
variable{P:Nat->Bool}{x:Str}
theorem Lr(i:Nat)(cap:List (Option Nat))(own:Nat->Bool){fe:En->Option D}(q:∀c,(X c).N.Nodup)(J:∀c,(X c).xe=NoX)(Z:∀c,(X c).calm=true)(O:∀c,du (X c).env.scope (X c).N N' scope cap)(z:∀i:Nat,own i=true->cap[i]?≠none->cap[i]? =some none)(hi:PVI X G ob target iter it)(hg:DY (InX X N' scope) G (obC cap ob) own target tg)(U:CN (InX X N' scope) G (obC cap ob) ifs fc)(V:PV (InX X N' scope) G (obC cap ob) elt fe)
  (hP:P i=false:=by rfl) (F:∀c,(X c).N[i]? =some x:=by intro _;rfl) (Y:∀c,Loc (X c).env.scope x:=by intro _;first|exact aba rfl|exact aaL rfl) (I:∀c,abz 1.17 (some (.Name x pos')) pos2.line (X c).env=pure true:=by intro _;rfl) (B:∀c,∀x,aaE iter (X c).env x=pure x:=by intro _ _;rfl)
  (hf:∀c,(X c).fn x=true∨(X c).env.scope.names.lookup x=some .local:=by intro _;first|exact .inl rfl|exact .inr rfl):PVS X G ob P (.Assign [.Name x pos'] 1.17 pos2) (cN (fV cap it tg fc fe) (tgN i)):=
 let⟨_,i1,i2⟩:=hi.ex;let⟨_,g1,g2⟩:=hg.ex;let⟨_,t1,t2⟩:=U.ex;let⟨_,e1,e2⟩:=V.ex
 ⟨_,λc=>Qy (J c) (Z c) (q c) (F c) (Y c) (O c) (i1 c) (λC s H fp=>g1 (c,C,s,H,fp)) (λC s H fp=>t1 (c,C,s,H,fp)) (λC s H fp=>e1 (c,C,s,H,fp)) (I c) (B c) (hf c),by rw[←zm];exact lB (yf (Ex z i2 g2 t2 e2)) (iM hP)⟩
end
end
inductive Sc:Dt->Dt->Prop
 |bl (a b:Bool):Sc (.bl a) (.bl b)
 |int (a b:Int):Sc (.int a) (.int b)
 |str (a b:Str):Sc (.str a) (.str b)
 |non:Sc .non .non
def Flt(d e:Dt):Prop:=∃a b,d= .tup a/\e= .tup b/\∀p∈a.zip b,Sc p.1 p.2
def XC(d e:Dt):Prop:=∃a b,d= .lst a/\e= .lst b/\∀p∈a.zip b,Sc p.1 p.2
inductive Alk:Dt->Dt->Prop
 |sc {d e:Dt}:Sc d e->Alk d e
 |lst {a b:List Dt}:(∀p∈a.zip b,Sc p.1 p.2)->Alk (.lst a) (.lst b)
 |tup {a b:List Dt}:(∀p∈a.zip b,Sc p.1 p.2)->Alk (.tup a) (.tup b)
 |deep {a b:List Dt}:(∀p∈a.zip b,Flt p.1 p.2)->Alk (.lst a) (.lst b)
 |deepL {a b:List Dt}:(∀p∈a.zip b,XC p.1 p.2)->Alk (.lst a) (.lst b)
 |deepT {a b:List Dt}:(∀p∈a.zip b,Flt p.1 p.2)->Alk (.tup a) (.tup b)
section
variable{X:Cx}{pins:List (Addr×Obj)}{σ:L2.St}{H:Hp}{s:Shared}{A:Around}
open PySem.SeqAt
theorem Gf{d e:Dt}{v u:V}{U F:Value}(h:Sc d e)(h1:Brs X.K H d v)(h2:Brs X.K H e u)(J:RelV v U)(Z:RelV u F):EqAt A s U F (eqD d e)/\RcAt A s U F (eqD d e)/\RcNeAt A s U F (!eqD d e):=by
 cases h<;>simp![Brs]at h1 h2<;>subst h1 h2
 case bl a b=>cases J;cases Z;exact⟨EqAt.bool_bool a b,RcAt.bool_bool a b,RcNeAt.bool_bool a b⟩
 case int a b=>obtain⟨t,rfl⟩:=J;obtain⟨t',rfl⟩:=Z;exact⟨EqAt.int_int a t b t',RcAt.int_int a t b t',RcNeAt.int_int a t b t'⟩
 case non=>cases J;cases Z;exact⟨af6 _,RcAt.none_none,RcNeAt.none_none⟩
 case str a b=>obtain⟨t,rfl⟩:=J;obtain⟨t',rfl⟩:=Z;exact⟨EqAt.str_str a t b t',RcAt.str_str a t b t',RcNeAt.str_str a t b t'⟩
theorem vC{R:Dt->Dt->Prop}(J:∀{d e:Dt}{v u:V}{U u':Value},R d e->Brs X.K H d v->Brs X.K H e u->RelV v U->RelV u u'->EqAt A s U u' (eqD d e)):∀{ds es:List Dt}{ys xs:List V}{q its:List Value},(∀p∈ds.zip es,R p.1 p.2)->kZ X.K H ds ys->kZ X.K H es xs->Vals ys q->Vals xs its->
  ∀j (h1:j<q.toArray.size)(h2:j<its.toArray.size),EqAt A s q.toArray[j] its.toArray[j] (eqJ ds es j)
 |[],es,ys,xs,q,its,_,h,h',r,r',j,h1,h2=>by
  simp![kZ]at h;subst h;cases r;simp at h1
 |d::ds,[],ys,xs,q,its,_,h,h',r,r',j,h1,h2=>by
  simp![kZ]at h';subst h';cases r';simp at h2
 |d::ds,e::es,ys,xs,q,its,ha,h,h',r,r',j,h1,h2=>by
  simp![kZ]at h h';obtain⟨y,a0,rfl,hd,O⟩:=h;obtain⟨x,Z,rfl,D,I⟩:=h';cases r with
  |cons z Y=>
   cases r' with
   |cons B N=>
    cases j with
    |zero=>exact J (ha (d,e) (by simp)) hd D z B
    |succ j=>exact vC J (λp F=>ha p (by simp[F])) O I Y N j (by simpa using h1) (by simpa using h2)
theorem zb(I:Inv X pins σ H s){R:Dt->Dt->Prop}(hR:∀{d e:Dt}{v u:V}{U F:Value},R d e->Brs X.K H d v->Brs X.K H e u->RelV v U->RelV u F->EqAt A.in1 s U F (eqD d e)){ds es:List Dt}{v u:V}{U F:Value}(h:∀p∈ds.zip es,R p.1 p.2)(h1:Brs X.K H (.lst ds) v)(h2:Brs X.K H (.lst es) u)(J:RelV v U)(Z:RelV u F)(O:A.units<cLine):RcAt A s U F (eqD (.lst ds) (.lst es))/\RcNeAt A s U F (!eqD (.lst ds) (.lst es)):=by
 simp![Brs]at h1 h2;obtain⟨N,a7,rfl,a6,q⟩:=h1;obtain⟨z,a8,rfl,a5,B⟩:=h2;cases J;cases Z;obtain⟨a0,a4,p1,_⟩:=I.list a6;obtain⟨D,a3,p2,_⟩:=I.list a5;have l1:=q.length;have l2:=B.length;have l3:=a4.length;have l4:=a3.length;rw[show eqD (.lst ds) (.lst es)=eqL ds es by simp[eqD]];by_cases Y:ds.length=es.length
 .have e1:a0.toArray.size=D.toArray.size:=by rw[List.size_toArray,List.size_toArray];omega
  have e2:ds.length=a0.toArray.size:=by rw[List.size_toArray];omega
  rw[←zJ Y,e2];exact⟨RcAt.lists p1.isList p2.isList e1 O (vC hR h q B a4 a3),RcNeAt.lists p1.isList p2.isList e1 O (vC hR h q B a4 a3)⟩
 .have e1:(a0.toArray.size !=D.toArray.size)=true:=by rw[List.size_toArray,List.size_toArray];exact bne_iff_ne.mpr 1.11
  rw[zT Y];exact⟨RcAt.lists_lengths p1.isList p2.isList e1 O,RcNeAt.lists_lengths p1.isList p2.isList e1 O⟩
theorem Gp(I:Inv X pins σ H s){R:Dt->Dt->Prop}(hR:∀{d e:Dt}{v u:V}{U F:Value},R d e->Brs X.K H d v->Brs X.K H e u->RelV v U->RelV u F->EqAt A.in1 s U F (eqD d e)){ds es:List Dt}{v u:V}{U F:Value}(h:∀p∈ds.zip es,R p.1 p.2)(h1:Brs X.K H (.tup ds) v)(h2:Brs X.K H (.tup es) u)(J:RelV v U)(Z:RelV u F)(O:A.units<cLine):RcAt A s U F (eqD (.tup ds) (.tup es))/\RcNeAt A s U F (!eqD (.tup ds) (.tup es)):=by
 simp![Brs]at h1 h2;obtain⟨N,a7,rfl,a6,q⟩:=h1;obtain⟨z,a8,rfl,a5,B⟩:=h2;cases J;cases Z;obtain⟨a0,a4,p1,_⟩:=I.tuple a6;obtain⟨D,a3,p2,_⟩:=I.tuple a5;have l1:=q.length;have l2:=B.length;have l3:=a4.length;have l4:=a3.length;have e:eqD (.tup ds) (.tup es)=((Z_ (min a0.toArray.size D.toArray.size)).all (eqJ ds es)&&a0.toArray.size==D.toArray.size):=by
  rw[show eqD (.tup ds) (.tup es)=eqL ds es by simp[eqD],List.size_toArray,List.size_toArray];by_cases Y:ds.length=es.length
  .rw[show min a0.length D.length=ds.length by omega,zJ Y,show(a0.length==D.length)=true by simp;omega,ae8]
  .rw[zT Y,show(a0.length==D.length)=false by simp;omega,Bool.and_false]
 rw[e];exact⟨RcAt.tuples p1 p2 O (vC hR h q B a4 a3),RcNeAt.tuples p1 p2 O (vC hR h q B a4 a3)⟩
theorem Mt(I:Inv X pins σ H s){ds es:List Dt}{v u:V}{U F:Value}(h:∀p∈ds.zip es,Sc p.1 p.2)(h1:Brs X.K H (.tup ds) v)(h2:Brs X.K H (.tup es) u)(J:RelV v U)(Z:RelV u F)(O:A.units<cLine):RcAt A s U F (eqD (.tup ds) (.tup es))/\RcNeAt A s U F (!eqD (.tup ds) (.tup es)):=
 Gp I (λh a b c d=>(Gf h a b c d).1) h h1 h2 J Z O
theorem yD{K:YS}:∀{ds es:List Dt}{xs:List V},(∀p∈ds.zip es,Sc p.1 p.2)->kZ K H ds xs->kZ K H es xs->eqL ds es=true
 |[],[],_,_,_,_=>by simp[eqL]
 |[],_::_,_,_,h,h'=>by simp![kZ]at h;subst h;simp[kZ]at h'
 |_::_,[],_,_,h,h'=>by simp![kZ]at h';subst h';simp[kZ]at h
 |d::r,e::q,_,ha,h,h'=>by
  simp![kZ]at h h';obtain⟨x,ys,rfl,hd,O⟩:=h;obtain⟨_,_,e1,D,I⟩:=h';cases e1;rw[eqL,yD (λp F=>ha p (by simp[F])) O I,ae8];have B:=ha (d,e) (by simp);dsimp only at B;cases B<;>simp![Brs]at hd D<;>rw[hd]at D<;>first|(cases D;simp[eqD])|simp[eqD]
theorem Ks(I:Inv X pins σ H s)(O:A.units<cLine){d e:Dt}{v u:V}{U F:Value}(h:Flt d e)(h1:Brs X.K H d v)(h2:Brs X.K H e u)(J:RelV v U)(Z:RelV u F):EqAt A s U F (eqD d e):=by
 obtain⟨a,b,rfl,rfl,h⟩:=h;have D:=(Mt I h h1 h2 J Z O).1;simp![Brs]at h1 h2;obtain⟨N,a4,rfl,Y,q⟩:=h1;obtain⟨z,a5,rfl,a3,B⟩:=h2;cases J;cases Z;by_cases a0:N=z
 .subst a0
  obtain rfl:=I.tuple_inj Y a3;rw[show eqD (.tup a) (.tup b)=true by rw[eqD];exact yD h q B];exact af6 _
 .exact EqAt.of_refs a0 D
theorem Q9(I:Inv X pins σ H s)(O:A.units<cLine){d e:Dt}{v u:V}{U F:Value}(h:XC d e)(h1:Brs X.K H d v)(h2:Brs X.K H e u)(J:RelV v U)(Z:RelV u F):EqAt A s U F (eqD d e):=by
 obtain⟨a,b,rfl,rfl,h⟩:=h;have D:=(zb I (λh a b c d=>(Gf h a b c d).1) h h1 h2 J Z O).1;simp![Brs]at h1 h2;obtain⟨N,a4,rfl,Y,q⟩:=h1;obtain⟨z,a5,rfl,a3,B⟩:=h2;cases J;cases Z;by_cases a0:N=z
 .subst a0
  obtain rfl:=I.list_inj Y a3;rw[show eqD (.lst a) (.lst b)=true by rw[eqD];exact yD h q B];exact af6 _
 .exact EqAt.of_refs a0 D
theorem K4(I:Inv X pins σ H s){d e:Dt}{v u:V}{U F:Value}(h:Alk d e)(h1:Brs X.K H d v)(h2:Brs X.K H e u)(J:RelV v U)(Z:RelV u F)(O:A.units+1<cLine):RcAt A s U F (eqD d e)/\RcNeAt A s U F (!eqD d e):=by
 cases h with
 |sc h=>exact(Gf h h1 h2 J Z).2
 |lst h=>exact zb I (λh a b c d=>(Gf h a b c d).1) h h1 h2 J Z 1.11
 |tup h=>exact Mt I h h1 h2 J Z 1.11
 |deepL h=>exact zb I (λh a b c d=>Q9 I (show A.units+1<cLine from O) h a b c d) h h1 h2 J Z 1.11
 |deepT h=>exact Gp I (λh a b c d=>Ks I (show A.units+1<cLine from O) h a b c d) h h1 h2 J Z 1.11
 |deep h=>exact zb I (λh a b c d=>Ks I (show A.units+1<cLine from O) h a b c d) h h1 h2 J Z 1.11
def WR(K:YS)(A:aad):R2:=λx y H Q=>∃d e,Alk d e/\Brs K H d x/\Brs K H e y/\A.units+1<cLine/\Q (.bl (eqD d e)) H
def X7(K:YS)(A:aad):R2:=λx y H Q=>∃d e,Alk d e/\Brs K H d x/\Brs K H e y/\A.units+1<cLine/\Q (.bl (!eqD d e)) H
theorem V0:OpR X (aaa .Eq) (WR X.K X.A):=by
 intro pins s σ H x y v u Q I rx Z ⟨d,e,h,h1,h2,J,q⟩;exact(K4 I h h1 h2 rx Z J).1 _ _ _ _ ⟨.bl (eqD d e),H,I,rfl,q⟩
theorem Uv:OpR X (aaa .NotEq) (X7 X.K X.A):=by
 intro pins s σ H x y v u Q I rx Z ⟨d,e,h,h1,h2,J,q⟩;exact(K4 I h h1 h2 rx Z J).2 _ _ _ _ ⟨.bl (!eqD d e),H,I,rfl,q⟩
end
theorem OpR.or{f:Value->Value->Sem Value}{r F:R2}(h:OpR Y f r)(h':OpR Y f F):OpR Y f (λx y H Q=>r x y H Q∨F x y H Q):=λpins s σ H x y v u Q I rx Z q=>q.elim (h pins s σ H x y v u Q I rx Z) (h' pins s σ H x y v u Q I rx Z)
theorem gA.or{f:Value}{F:List V->Hp->VK->Prop}(h:gA Y f r)(h':gA Y f F):gA Y f (λxs H Q=>r xs H Q∨F xs H Q):=λpins s σ H xs us Q I B q=>q.elim (h pins s σ H xs us Q I B) (h' pins s σ H xs us Q I B)
variable{i:Int}
theorem cX:Rep G H W (.int i) (.int i) []:=by rw[Rep];exact⟨rfl,rfl⟩
theorem rn{i:Str}:Rep G H W (.str i) (.str i) []:=by rw[Rep];exact⟨rfl,rfl⟩
theorem iC{i:Bool}:Rep G H W (.bl i) (.bl i) []:=by rw[Rep];exact⟨rfl,rfl⟩
theorem bu(r:Rep G H W (.int i) v L):v= .int i/\L=[]:=by rw[Rep]at r;exact r
theorem cB{i:Str}(r:Rep G H W (.str i) v L):v= .str i/\L=[]:=by rw[Rep]at r;exact r
theorem ww{i:Bool}(r:Rep G H W (.bl i) v L):v= .bl i/\L=[]:=by rw[Rep]at r;exact r
variable{g:Int->Int->V}{z:D->D->Option D}
theorem FQ{C:Int->Int->Prop}(h:∀dx Y d,z dx Y=some d->∃i j,dx= .int i/\Y= .int j/\C i j/\∀H W,Rep G H W d (g i j) []):OpV G (rI C g) z:=λdx Y d e x y H W I Ly rx B nd hn w Q q=>by
 obtain⟨i,j,rfl,rfl,Z,O⟩:=h dx Y d e;obtain⟨rfl,rfl⟩:=bu rx;obtain⟨rfl,rfl⟩:=bu B;exact⟨i,j,rfl,rfl,Z,q.scal (λW=>O H W)⟩
theorem Ej(h:∀dx Y d,z dx Y=some d->∃i j,dx= .int i/\Y= .int j/\∀H W,Rep G H W d (g i j) []):OpV G (rI0 g) z:=λdx Y d e x y H W I Ly rx Z nd hn w Q q=>by
 obtain⟨i,j,rfl,rfl,O⟩:=h dx Y d e;obtain⟨rfl,rfl⟩:=bu rx;obtain⟨rfl,rfl⟩:=bu Z;exact⟨i,j,rfl,rfl,q.scal (λW=>O H W)⟩
def jq:D->D->Option D
 |.int a,.int b=>some (.int (a-b))
 |_,_=>none
def mq:D->D->Option D
 |.int a,.int b=>if(-(2 ^ 64)<a/\a<2 ^ 64)∨(-(2 ^ 64)<b/\b<2 ^ 64)then some (.int (a*b))else none
 |_,_=>none
def mX:D->D->Option D
 |.int a,.int b=>if 0<b/\b<18446744073709551616 then some (.int (a / b))else none
 |_,_=>none
def mC:D->D->Option D
 |.int a,.int b=>if 0<b then some (.int (a % b))else none
 |_,_=>none
def nM:D->D->Option D
 |.int a,.int b=>if 0<=b/\b<=1000000/\a.natAbs<2 ^ 64 then some (.int (a ^ b.toNat))else none
 |_,_=>none
theorem pG:OpB X G (aaP .Sub) jq:=⟨_,λc=>T7,Ej λdx Y d e=>by
 unfold jq at e;split at e
 .cases e;exact⟨_,_,rfl,rfl,λ_ _=>cX⟩
 .cases e⟩
theorem qU:OpB X G (aaP .Mult) mq:=⟨_,λc=>Ve,FQ λdx Y d e=>by
 unfold mq at e;split at e
 .split at e
  .cases e;exact⟨_,_,rfl,rfl,‹_›,λ_ _=>cX⟩
  .cases e
 .cases e⟩
theorem yQ:OpB X G (aaP .FloorDiv) mX:=⟨_,λc=>Lf,FQ λdx Y d e=>by
 unfold mX at e;split at e
 .split at e
  .cases e;exact⟨_,_,rfl,rfl,‹_›,λ_ _=>cX⟩
  .cases e
 .cases e⟩
theorem pC:OpB X G (aaP .Mod) mC:=⟨_,λc=>VB,FQ λdx Y d e=>by
 unfold mC at e;split at e
 .split at e
  .cases e;exact⟨_,_,rfl,rfl,‹_›,λ_ _=>cX⟩
  .cases e
 .cases e⟩
theorem tK:OpB X G (aaP .Pow) nM:=⟨_,λc=>Ul,FQ λdx Y d e=>by
 unfold nM at e;split at e
 .split at e
  .cases e;exact⟨_,_,rfl,rfl,‹_›,λ_ _=>cX⟩
  .cases e
 .cases e⟩
def ie:D->Option D
 |.int a=>some (.int (-a))
 |_=>none
theorem jH:UnB X G (unaryOp .USub) ie:=⟨_,λc=>VH,λdx d e x H W I rx nd hn w Q q=>by
 unfold ie at e;split at e
 .cases e
  obtain⟨rfl,rfl⟩:=bu rx;exact⟨_,rfl,q.scal λW=>cX⟩
 .cases e⟩
def fG:D->D->Option D
 |.int a,.int b=>some (.int (a+b))
 |.str a,.str b=>if a.length+b.length<=YZ then some (.str (a++b))else none
 |.lst m a,.lst n b=>if m≠.scr/\n≠.scr/\a.length+b.length<=1000000 then some (.lst .own (a++b))else none
 |.tup a,.tup b=>if a.length+b.length<=1000000 then some (.tup (a++b))else none
 |_,_=>none
variable{ys:List V}
theorem yr{dx Y:List D}{I Ly B F:List Addr}(J:aH G H W dx xs B)(Z:aH G H W Y ys F)(N:aaI B I)(O:aaI F Ly)(hn:∀a∈I++Ly,W.tmp a)(s:Same H H')(q:List Addr)(he:∀a∈q,H a=none):aH G H' ((W.drop (I++Ly)).add (q++(B++F))) (dx++Y) (xs++ys) (B++F):=by
 refine(J.append Z).up ⟨s,λb u U f=>⟨λz=>z.elim (λz=>?_) λz=>f.1 z.1,f.2⟩,λ_ _ _ f=>f⟩;rcases YL.mp z with z|z
 .rw[he b z]at U;cases U
 .rcases YL.mp z with z|z
  .exact f.1 (hn b (YW _ (N.subset z))).1
  .exact f.1 (hn b (YJ _ (O.subset z))).1
def Xu(K:YS):R2:=λx y H Q=>((rI0 (λi j=>.int (i+j)) x y H Q∨(∃i j,x= .str i/\y= .str j/\i.length+j.length<=YZ/\Q (.str (i++j)) H))∨V_ x y H Q)∨Oh K x y H Q
theorem Qn:OpV G (Xu G.K) fG:=λdx Y d e x y H W I Ly rx ry nd hn w Q q=>by
 unfold fG at e;split at e
 .cases e
  obtain⟨rfl,rfl⟩:=bu rx;obtain⟨rfl,rfl⟩:=bu ry;exact .inl (.inl (.inl ⟨_,_,rfl,rfl,q.scal λ_=>cX⟩))
 .split at e
  .cases e
   obtain⟨rfl,rfl⟩:=cB rx;obtain⟨rfl,rfl⟩:=cB ry;exact .inl (.inl (.inr ⟨_,_,rfl,rfl,‹_›,q.scal λ_=>rn⟩))
  .cases e
 .rename_i m a n b
  split at e
  .rename_i Z
   cases e;rw[Rep]at rx ry;obtain⟨p,xs,Mx,rfl,J,sx⟩:=rx;obtain⟨p',ys,My,rfl,U,sy⟩:=ry;refine .inl (.inr ⟨p,p',xs,ys,rfl,rfl,sx.at Z.1,sy.at Z.2.1,by rw[←J.length,←U.length];exact abU (six Z.2.2),λr O=>?_⟩);have B:Same H (upd H r (.lst (xs++ys))):=Same.new O;have nr:r∉Mx++My:=λz=>by
    obtain⟨o,N,_⟩:=(J.append U).dom r z;rw[O]at N;cases N
   have a0:(Mx++My).Nodup:=(sx.sub.append sy.sub).nodup nd;refine q (.ref r) _ (r::(Mx++My)) B ?_ (λc Z=>?_) (Zv.mpr ⟨nr,a0⟩)
   .rw[Rep]
    exact⟨r,xs++ys,Mx++My,rfl,yr J U sx.sub sy.sub hn B [r] (by simpa using O),a_,rfl⟩
   .rcases Za.mp Z with z|z
    .exact .inr (by rw[z];exact O)
    .exact .inl ((sx.sub.append sy.sub).subset z)
  .cases e
 .rename_i a b
  split at e
  .rename_i Z
   cases e;rw[Rep]at rx ry;obtain⟨p,xs,rfl,F,J⟩:=rx;obtain⟨p',ys,rfl,V,U⟩:=ry;have base:∀H' p2,Same H H'->H' p2=some (.tup (xs++ys))->Q (.ref p2) H':=λH' p2 B D=>by
    refine q (.ref p2) H' (I++Ly) B ?_ (λc Z=>.inl Z) nd;rw[Rep];exact⟨p2,xs++ys,rfl,D,yr J U (abo _) (abo _) hn B [] (by simp)⟩
   refine .inr ⟨p,p',xs,ys,rfl,rfl,SqT.of F,SqT.of V,by rw[←J.length,←U.length];exact abU (six Z),λz=>base H p' (Same.refl H) (by rw[z];exact V),λ_ z=>base H p (Same.refl H) (by rw[z,Zu];exact F),λ_ _ r O=>base _ r (Same.new O) a_⟩
  .cases e
 .cases e
theorem gZ(F:∀c,(X c).K=G.K:=by intro _;rfl):OpB X G (aaP .Add) fG:=⟨_,λc=>by rw[←F c];exact OpR.or (OpR.or (OpR.or U4 CT) T9) JS,Qn⟩
def gLt:D->D->Option D
 |.int a,.int b=>some (.bl (decide (a<b)))
 |.str a,.str b=>some (.bl (decide (a.cps.toList<b.cps.toList)))
 |_,_=>none
def gGt:D->D->Option D
 |.int a,.int b=>some (.bl (decide (b<a)))
 |_,_=>none
def gGe:D->D->Option D
 |.int a,.int b=>some (.bl (decide (b<=a)))
 |_,_=>none
theorem Af:OpB X G (aaa .Lt) gLt:=⟨_,λc=>OpR.or W6 Hj,λdx Y d e x y H W I Ly rx Z nd hn w Q q=>by
 unfold gLt at e;split at e
 .cases e
  obtain⟨rfl,rfl⟩:=bu rx;obtain⟨rfl,rfl⟩:=bu Z;exact .inl ⟨_,_,rfl,rfl,q.scal λ_=>iC⟩
 .cases e
  obtain⟨rfl,rfl⟩:=cB rx;obtain⟨rfl,rfl⟩:=cB Z;exact .inr ⟨_,_,rfl,rfl,q.scal λ_=>iC⟩
 .cases e⟩
theorem SJ:OpB X G (aaa .Gt) gGt:=⟨_,λc=>Xe,Ej λdx Y d e=>by
 unfold gGt at e;split at e
 .cases e;exact⟨_,_,rfl,rfl,λ_ _=>iC⟩
 .cases e⟩
theorem W7:OpB X G (aaa .GtE) gGe:=⟨_,λc=>W4,Ej λdx Y d e=>by
 unfold gGe at e;split at e
 .cases e;exact⟨_,_,rfl,rfl,λ_ _=>iC⟩
 .cases e⟩
def jf:D->Bool
 |.non=>true
 |_=>false
def gIs:D->D->Option D
 |x,.non=>some (.bl (jf x))
 |_,_=>none
def m9:D->D->Option D
 |x,.non=>some (.bl (!jf x))
 |_,_=>none
theorem xP(r:Rep G H W d v L):decide (v= .non)=jf d:=by
 cases d<;>rw[Rep]at r
 case non=>obtain⟨rfl,_⟩:=r;rfl
 case bl=>obtain⟨rfl,_⟩:=r;rfl
 case int=>obtain⟨rfl,_⟩:=r;rfl
 case str=>obtain⟨rfl,_⟩:=r;rfl
 case ty=>obtain⟨rfl,_⟩:=r;rfl
 case tup=>obtain⟨a,xs,rfl,_⟩:=r;rfl
 case lst=>obtain⟨a,xs,M,rfl,_⟩:=r;rfl
 case dct=>obtain⟨a,xs,M,rfl,_⟩:=r;rfl
 case ins=>obtain⟨a,C,dx,xs,M,rfl,_⟩:=r;rfl
theorem MF:OpB X G (aaa .Is) gIs:=⟨_,λc=>V8,λdx Y d e x y H W I Ly rx Z nd hn w Q q=>by
 unfold gIs at e;split at e
 .cases e
  rw[Rep]at Z;exact⟨Z.1,by rw[xP rx];exact q.scal λ_=>iC⟩
 .cases e⟩
theorem A_:OpB X G (aaa .IsNot) m9:=⟨_,λc=>PN,λdx Y d e x y H W I Ly rx Z nd hn w Q q=>by
 unfold m9 at e;split at e
 .cases e
  rw[Rep]at Z;exact⟨Z.1,by rw[xP rx];exact q.scal λ_=>iC⟩
 .cases e⟩
mutual
noncomputable def dt:D->Dt
 |.non=>.non
 |.bl b=>.bl b
 |.int i=>.int i
 |.str x=>.str x
 |.tup ds=>.tup (dtL ds)
 |.lst _ ds=>.lst (dtL ds)
 |_=>.non
noncomputable def dtL:List D->List Dt
 |[]=>[]
 |d::r=>dt d::dtL r
end
mutual
noncomputable def xH:D->Bool
 |.ty _=>false
 |.dct _ _ _=>false
 |.ins _ _ _ _=>false
 |.tup ds=>rW ds
 |.lst _ ds=>rW ds
 |_=>true
noncomputable def rW:List D->Bool
 |[]=>true
 |d::r=>xH d&&rW r
end
mutual
theorem Rep.brs{H:Hp}{W:Wn}:∀{d:D}{v:V}{L:List Addr},Rep G H W d v L->xH d=true->Brs G.K H (dt d) v
 |.non,v,L,r,_=>by rw[Rep]at r;simp[dt,Brs,r]
 |.bl _,v,L,r,_=>by rw[Rep]at r;simp[dt,Brs,r]
 |.int _,v,L,r,_=>by rw[Rep]at r;simp[dt,Brs,r]
 |.str _,v,L,r,_=>by rw[Rep]at r;simp[dt,Brs,r]
 |.ty _,v,L,r,h=>by cases h
 |.dct _ _ _,v,L,r,h=>by cases h
 |.ins _ _ _ _,v,L,r,h=>by cases h
 |.tup ds,v,L,r,h=>by
  rw[Rep]at r;obtain⟨a,xs,rfl,U,O⟩:=r;rw[dt,Brs];exact⟨a,xs,rfl,SqT.of U,aH.brs O h⟩
 |.lst m ds,v,L,r,h=>by
  rw[Rep]at r;obtain⟨a,xs,M,rfl,O,B⟩:=r;rw[dt,Brs];exact⟨a,xs,rfl,B.sq,aH.brs O h⟩
theorem aH.brs{H:Hp}{W:Wn}:∀{ds:List D}{vs:List V}{L:List Addr},aH G H W ds vs L->rW ds=true->kZ G.K H (dtL ds) vs
 |[],vs,L,r,_=>by obtain⟨rfl,_⟩:=r.inv0;simp[dtL,kZ]
 |d::r,vs,L,hr,h=>by
  obtain⟨x,ys,M,M',rfl,rfl,h1,h2⟩:=hr.inv;rw[rW,ZQ]at h;rw[dtL,kZ];exact⟨x,ys,rfl,Rep.brs h1 h.1,aH.brs h2 h.2⟩
end
open Classical in
def gEq:D->D->Option D:=λx y=>if xH x=true/\xH y=true/\Alk (dt x) (dt y)then some (.bl (eqD (dt x) (dt y)))else none
open Classical in
def gNe:D->D->Option D:=λx y=>if xH x=true/\xH y=true/\Alk (dt x) (dt y)then some (.bl (!eqD (dt x) (dt y)))else none
theorem cb_eq(A:aad)(D:∀c,(X c).A=A)(J:A.units+64<cLine)(F:∀c,(X c).K=G.K:=by intro _;rfl):OpB X G (aaa .Eq) gEq:=⟨WR G.K A,λc=>by rw[←F c,←D c];exact V0,λdx Y d e x y H W I Ly rx Z nd hn w Q q=>by
 unfold gEq at e;split at e
 .rename_i hc
  cases e;exact⟨_,_,hc.2.2,rx.brs hc.1,Z.brs hc.2.1,by omega,q.scal λ_=>iC⟩
 .cases e⟩
theorem Ge(A:aad)(D:∀c,(X c).A=A)(J:A.units+64<cLine)(F:∀c,(X c).K=G.K:=by intro _;rfl):OpB X G (aaa .NotEq) gNe:=⟨X7 G.K A,λc=>by rw[←F c,←D c];exact Uv,λdx Y d e x y H W I Ly rx Z nd hn w Q q=>by
 unfold gNe at e;split at e
 .rename_i hc
  cases e;exact⟨_,_,hc.2.2,rx.brs hc.1,Z.brs hc.2.1,by omega,q.scal λ_=>iC⟩
 .cases e⟩
def gIx:D->D->Option D
 |.lst _ ds,.int i=>atI ds i
 |.tup ds,.int i=>atI ds i
 |.str z,.int i=>if z.length<=YZ then(atI z.cps.toList i).map λc=>.str ⟨#[c]⟩else none
 |.dct _ ks ds,k=>(dh k).bind λk=>(cZ ks k).bind λj=>ds[j]?
 |_,_=>none
theorem K1(O:aH G H W ds xs L)(e:atI ds i=some d):∃j:Nat,ds[j]? =some d/\∀x,xs[j]? =some x->atI xs i=some x:=by
 unfold atI at e⊢;rw[←O.length];cases h:ixN ds.length i with
 |none=>simp[h]at e
 |some j=>
  refine⟨j,by simpa[h]using e,λx J=>by simpa using J⟩
variable{x:V}
theorem pU{I Ly:List Addr}(r:Rep G H W d x M)(s:aaI M I)(nd:(I++Ly).Nodup)(hn:∀a∈I++Ly,W.tmp a)(q:Done G H W (I++Ly) d Q):Q x H:=by
 refine q x H M (Same.refl H) (r.up ⟨Same.refl H,λb u U f=>⟨λz=>z.elim (λz=>f.1 (hn b (YW _ (s.subset z))).1) λz=>f.1 z.1,f.2⟩,λ_ _ _ f=>f⟩) (λa Y=>.inl (YW _ (s.subset Y))) (s.nodup (Zi.mp nd).1)
theorem Tp:OpV G (λx y H Q=>rIx G.K x y H Q∨RD x y H Q) gIx:=λdx Y d e x y H W Lx Ly rx Z nd hn w Q q=>by
 unfold gIx at e;split at e
 .rename_i m ds i
  obtain⟨rfl,rfl⟩:=bu Z;rw[Rep]at rx;obtain⟨a,xs,M,rfl,O,B⟩:=rx;obtain⟨j,h1,h2⟩:=K1 O e;obtain⟨z,V,h3,h4,J⟩:=O.get h1;exact .inl (.inl ⟨a,xs,i,z,rfl,rfl,B.sq,h2 z h3,pU h4 (J.trans B.sub) nd hn q⟩)
 .rename_i ds i
  obtain⟨rfl,rfl⟩:=bu Z;rw[Rep]at rx;obtain⟨a,xs,rfl,U,O⟩:=rx;obtain⟨j,h1,h2⟩:=K1 O e;obtain⟨z,V,h3,h4,J⟩:=O.get h1;exact .inl (.inr (.inl ⟨a,xs,i,z,rfl,rfl,SqT.of U,h2 z h3,pU h4 J nd hn q⟩))
 .rename_i z i
  obtain⟨rfl,rfl⟩:=bu Z;obtain⟨rfl,rfl⟩:=cB rx;split at e
  .rename_i hl
   cases h1:atI z.cps.toList i with
   |none=>simp[h1]at e
   |some c=>
    obtain rfl:D.str ⟨#[c]⟩=d:=by simpa[h1]using e
    exact .inl (.inr (.inr ⟨z,i,c,rfl,rfl,hl,h1,q.scal λ_=>rn⟩))
  .cases e
 .rename_i m ks ds
  cases I:dh Y with
  |none=>simp[I]at e
  |some k=>
   cases F:cZ ks k with
   |none=>simp[I,F]at e
   |some j=>
    have N:ds[j]? =some d:=by simpa[I,F]using e
    rw[Rep]at rx;obtain⟨a,kvs,M,rfl,⟨rfl,a0⟩,O,B⟩:=rx;obtain⟨z,V,h3,h4,J⟩:=O.get N;have hv:=j9 F;rw[h3]at hv;refine .inr ⟨a,z,rfl,.inl ⟨kvs,k,B.rdD,jn Z I,hv.symm⟩,pU h4 (J.trans B.sub) nd hn q⟩
 .cases e
theorem ixb(J:∀c,(X c).A.units+1<cLine)(F:∀c,(X c).K=G.K:=by intro _;rfl):IxB X G gIx:=⟨_,λc=>by rw[←F c];exact MP (J c),Tp⟩
def scV:D->Option V
 |.non=>some .non
 |.bl b=>some (.bl b)
 |.int i=>some (.int i)
 |.str x=>some (.str x)
 |_=>none
def xq:List D->Option (List V)
 |[]=>some []
 |d::r=>(scV d).bind λv=>(xq r).map λt=>v::t
theorem zQ{u:V}(r:Rep G H W d v L)(h:scV d=some u):v=u/\nZ u=true:=by
 cases d<;>simp[scV]at h<;>subst h<;>rw[Rep]at r<;>exact⟨r.1,rfl⟩
theorem wu:∀{ds:List D}{vs us:List V}{L:List Addr},aH G H W ds vs L->xq ds=some us->vs=us/\us.all nZ=true
 |[],vs,us,L,r,h=>by
  cases h;exact⟨r.inv0.1,rfl⟩
 |d::t,vs,us,L,r,h=>by
  obtain⟨x,ys,M,M',rfl,rfl,h1,h2⟩:=r.inv;rw[xq]at h;cases e1:scV d with
  |none=>simp[e1]at h
  |some v=>
   cases e2:xq t with
   |none=>simp[e1,e2]at h
   |some w=>
    obtain rfl:v::w=us:=by simpa[e1,e2]using h
    obtain⟨rfl,O⟩:=zQ h1 e1;obtain⟨rfl,N⟩:=wu h2 e2;exact⟨rfl,by simp[O,N]⟩
def R5(x y:Str):Bool:=!(aaj y x 0 y.length 1).isEmpty
def tY:D->D->Option Bool
 |x,.lst _ ds=>(scV x).bind λv=>(xq ds).map λvs=>inV v vs
 |x,.tup ds=>(scV x).bind λv=>(xq ds).map λvs=>inV v vs
 |.str x,.str y=>some (R5 x y)
 |x,.dct _ ks _=>(dh x).map λk=>(cZ ks k).isSome
 |_,_=>none
def gIn(x y:D):Option D:=(tY x y).map .bl
def ji(x y:D):Option D:=(tY x y).map λb=>.bl !b
theorem Dw(J:Y.A.units+1<cLine):OpR Y (aaa .In) (λx y H Q=>∃a o,y= .ref a/\nA H a x o/\Q (.bl o.isSome) H):=λpins s σ H x y v u Q I rx Z h=>by
 obtain⟨a,o,rfl,g,q⟩:=h;cases Z;exact Yo J I g rx λz U=>⟨.bl o.isSome,H,U,rfl,q⟩
theorem xM(J:Y.A.units+1<cLine):OpR Y (aaa .NotIn) (λx y H Q=>∃a o,y= .ref a/\nA H a x o/\Q (.bl (!o.isSome)) H):=λpins s σ H x y v u Q I rx Z h=>by
 obtain⟨a,o,rfl,g,q⟩:=h;cases Z;exact O5 J I g rx λz U=>⟨.bl (!o.isSome),H,U,rfl,q⟩
theorem Ky{dx Y:D}{y:V}{I Ly:List Addr}(e:tY dx Y=some b)(rx:Rep G H W dx x I)(Z:Rep G H W Y y Ly) :
  (∃p xs,y= .ref p/\(SqL G.K H p xs∨SqT G.K H p xs)/\nZ x=true/\xs.all nZ=true/\b=inV x xs)∨(∃i j,x= .str i/\y= .str j/\b=R5 i j)∨(∃a o,y= .ref a/\nA H a x o/\b=o.isSome):=by
 unfold tY at e;split at e
 .rename_i m ds
  cases e1:scV dx with
  |none=>simp[e1]at e
  |some v=>
   cases e2:xq ds with
   |none=>simp[e1,e2]at e
   |some vs=>
    obtain rfl:inV v vs=b:=by simpa[e1,e2]using e
    rw[Rep]at Z;obtain⟨a,xs,M,rfl,O,B⟩:=Z;obtain⟨rfl,z⟩:=zQ rx e1;obtain⟨rfl,N⟩:=wu O e2;exact .inl ⟨a,_,rfl,.inl B.sq,z,N,rfl⟩
 .rename_i ds
  cases e1:scV dx with
  |none=>simp[e1]at e
  |some v=>
   cases e2:xq ds with
   |none=>simp[e1,e2]at e
   |some vs=>
    obtain rfl:inV v vs=b:=by simpa[e1,e2]using e
    rw[Rep]at Z;obtain⟨a,xs,rfl,U,O⟩:=Z;obtain⟨rfl,z⟩:=zQ rx e1;obtain⟨rfl,N⟩:=wu O e2;exact .inl ⟨a,_,rfl,.inr (SqT.of U),z,N,rfl⟩
 .cases e
  obtain⟨rfl,_⟩:=cB rx;obtain⟨rfl,_⟩:=cB Z;exact .inr (.inl ⟨_,_,rfl,rfl,rfl⟩)
 .rename_i m ks ds
  cases e1:dh dx with
  |none=>simp[e1]at e
  |some k=>
   have J:(cZ ks k).isSome=b:=by simpa[e1]using e
   rw[Rep]at Z;obtain⟨a,kvs,M,rfl,⟨rfl,q⟩,O,B⟩:=Z;refine .inr (.inr ⟨a,lG kvs k,rfl,.inl ⟨kvs,k,B.rdD,jn rx e1,rfl⟩,?_⟩);rw[←J];cases F:cZ (kvs.map (·.1)) k with
   |none=>rw[qe F];rfl
   |some j=>
    rw[j9 F,Zc (by simpa using pM F)];rfl
 .cases e
def Yr(K:YS):R2:=λx y H Q=>(rIn K false x y H Q∨(∃i j,x= .str i/\y= .str j/\Q (.bl (!(aaj j i 0 j.length 1).isEmpty)) H))∨∃a o,y= .ref a/\nA H a x o/\Q (.bl o.isSome) H
def Ou(K:YS):R2:=λx y H Q=>(rIn K true x y H Q∨(∃i j,x= .str i/\y= .str j/\Q (.bl (!(!(aaj j i 0 j.length 1).isEmpty))) H))∨∃a o,y= .ref a/\nA H a x o/\Q (.bl (!o.isSome)) H
theorem Ko(J:∀c,(X c).A.units+1<cLine)(F:∀c,(X c).K=G.K:=by intro _;rfl):OpB X G (aaa .In) gIn:=⟨Yr G.K,λc=>by rw[←F c];exact OpR.or (OpR.or Ih Jh) (Dw (J c)),λdx Y d e x y H W I Ly rx Z nd hn w Q q=>by
 unfold gIn at e;cases h1:tY dx Y with
 |none=>simp[h1]at e
 |some b=>
  obtain rfl:D.bl b=d:=by simpa[h1]using e
  have z:Q (.bl b) H:=q.scal λ_=>iC;rcases Ky h1 rx Z with⟨p,xs,rfl,h2,B,U,rfl⟩|⟨i,j,rfl,rfl,rfl⟩|⟨a,o,rfl,h2,rfl⟩
  .exact .inl (.inl ⟨p,xs,rfl,h2,B,U,z⟩)
  .exact .inl (.inr ⟨i,j,rfl,rfl,z⟩)
  .exact .inr ⟨a,o,rfl,h2,z⟩⟩
theorem rF(J:∀c,(X c).A.units+1<cLine)(F:∀c,(X c).K=G.K:=by intro _;rfl):OpB X G (aaa .NotIn) ji:=⟨Ou G.K,λc=>by rw[←F c];exact OpR.or (OpR.or zj zg) (xM (J c)),λdx Y d e x y H W I Ly rx Z nd hn w Q q=>by
 unfold ji at e;cases h1:tY dx Y with
 |none=>simp[h1]at e
 |some b=>
  obtain rfl:D.bl (!b)=d:=by simpa[h1]using e
  have z:Q (.bl (!b)) H:=q.scal λ_=>iC;rcases Ky h1 rx Z with⟨p,xs,rfl,h2,B,U,rfl⟩|⟨i,j,rfl,rfl,rfl⟩|⟨a,o,rfl,h2,rfl⟩
  .exact .inl (.inl ⟨p,xs,rfl,h2,B,U,z⟩)
  .exact .inl (.inr ⟨i,j,rfl,rfl,z⟩)
  .exact .inr ⟨a,o,rfl,h2,z⟩⟩
theorem aH.inv1(r:aH G H W [d] xs L):∃x,xs=[x]/\Rep G H W d x L:=by
 obtain⟨x,ys,M,M',rfl,rfl,h1,h2⟩:=r.inv;obtain⟨rfl,rfl⟩:=h2.inv0;exact⟨x,rfl,by rw[Zu];exact h1⟩
theorem aH.inv2{e:D}(r:aH G H W [d,e] xs L):∃x y M N,xs=[x,y]/\L=M++N/\Rep G H W d x M/\Rep G H W e y N:=by
 obtain⟨x,ys,M,M',rfl,rfl,h1,h2⟩:=r.inv;obtain⟨y,rfl,B⟩:=h2.inv1;exact⟨x,y,M,M',rfl,rfl,h1,B⟩
def fQ:List D->Option D
 |[.lst _ ds]=>some (.int ds.length)
 |[.tup ds]=>some (.int ds.length)
 |[.str z]=>if z.length<=YZ then some (.int z.length)else none
 |[.dct m _ ds]=>if m= .scr then none else some (.int ds.length)
 |_=>none
theorem jO(F:∀c,(X c).K=G.K:=by intro _;rfl):CaB X G (.builtin "len") fQ:=⟨λxs H Q=>((∃p ys,xs=[.ref p]/\(SqL G.K H p ys∨SqT G.K H p ys)/\Q (.int ys.length) H)∨∃z,xs=[.str z]/\z.length<=YZ/\Q (.int z.length) H)∨∃a kvs,xs=[V.ref a]/\H a=some (.dK kvs)/\Q (.int kvs.length) H,λc=>by rw[←F c];exact gA.or (gA.or zx yJ) HD,λds d e xs H W J r nd hn w Q q=>by
 unfold fQ at e;split at e
 .cases e
  show 3;obtain⟨a,ys,M,rfl,O,B⟩:=rx;exact .inl (.inl ⟨a,ys,rfl,.inl B.sq,by rw[←O.length];exact q.scal λ_=>cX⟩)
 .cases e
  show 3;obtain⟨a,ys,rfl,U,O⟩:=rx;exact .inl (.inl ⟨a,ys,rfl,.inr (SqT.of U),by rw[←O.length];exact q.scal λ_=>cX⟩)
 .split at e
  .cases e
   obtain⟨x,rfl,rx⟩:=r.inv1;obtain⟨rfl,rfl⟩:=cB rx;exact .inl (.inr ⟨_,rfl,‹_›,q.scal λ_=>cX⟩)
  .cases e
 .split at e
  .cases e
  .cases e
   show 3;obtain⟨a,kvs,M,rfl,I,O,B⟩:=rx;exact .inr ⟨a,kvs,rfl,B.at ‹_›,by have:=O.length;simp at this;rw[←this];exact q.scal λ_=>cX⟩
 .cases e⟩
def t_:List D->Option D
 |[.int i]=>some (.int (if i<0 then -i else i))
 |_=>none
theorem Ft:CaB X G (.builtin "abs") t_:=⟨_,λc=>Jq,λds d e xs H W J r nd hn w Q q=>by
 unfold t_ at e;split at e
 .cases e
  obtain⟨x,rfl,rx⟩:=r.inv1;obtain⟨rfl,rfl⟩:=bu rx;exact⟨_,rfl,q.scal λ_=>cX⟩
 .cases e⟩
def qT:List D->Option D
 |[.int i]=>some (.int i)
 |[.bl k]=>some (.int (if k then 1 else 0))
 |_=>none
theorem GK:CaB X G (.type "int") qT:=⟨_,λc=>H_,λds d e xs H W J r nd hn w Q q=>by
 unfold qT at e;split at e
 .cases e
  obtain⟨x,rfl,rx⟩:=r.inv1;obtain⟨rfl,rfl⟩:=bu rx;exact .inl ⟨_,rfl,q.scal λ_=>cX⟩
 .cases e
  obtain⟨x,rfl,rx⟩:=r.inv1;obtain⟨rfl,rfl⟩:=ww rx;exact .inr ⟨_,rfl,q.scal λ_=>cX⟩
 .cases e⟩
def lF:List D->Option D
 |[.int i,.int j]=>some (.int (if j<i then j else i))
 |_=>none
def G8:List D->Option D
 |[.int i,.int j]=>some (.int (if j>i then j else i))
 |_=>none
theorem Ak(Z:∀c,(X c).calm=true):CaB X G (.builtin "min") lF:=⟨_,λc=>Ii (Z c),λds d e xs H W J r nd hn w Q q=>by
 unfold lF at e;split at e
 .cases e
  obtain⟨x,y,M,N,rfl,rfl,rx,z⟩:=r.inv2;obtain⟨rfl,rfl⟩:=bu rx;obtain⟨rfl,rfl⟩:=bu z;exact⟨_,_,rfl,q.scal λ_=>cX⟩
 .cases e⟩
theorem Ni(Z:∀c,(X c).calm=true):CaB X G (.builtin "max") G8:=⟨_,λc=>Ie (Z c),λds d e xs H W J r nd hn w Q q=>by
 unfold G8 at e;split at e
 .cases e
  obtain⟨x,y,M,N,rfl,rfl,rx,z⟩:=r.inv2;obtain⟨rfl,rfl⟩:=bu rx;obtain⟨rfl,rfl⟩:=bu z;exact⟨_,_,rfl,q.scal λ_=>cX⟩
 .cases e⟩
variable{p:Addr}
theorem t7{J:List Addr}(O:aH G H W ds xs M)(s:aaI M J)(nd:J.Nodup)(hn:∀a∈J,W.tmp a)(F:H p=none)(q:Done G H W J (.lst .own ds) Q):Q (.ref p) (upd H p (.lst xs)):=by
 have B:Same H (upd H p (.lst xs)):=Same.new F;have I:p∉M:=λz=>by obtain⟨o,N,_⟩:=O.dom p z;rw[F]at N;cases N
 refine q (.ref p) _ (p::M) B ?_ (λa Y=>(Za.mp Y).elim (λz=>.inr (by rw[z];exact F)) λz=>.inl (s.subset z)) (Zv.mpr ⟨I,s.nodup nd⟩);rw[Rep];exact⟨p,xs,M,rfl,O.up ⟨B,λb u U f=>⟨λz=>z.elim (λz=>(Za.mp z).elim (λz=>by rw[z,F]at U;cases U) λz=>f.1 (hn b (s.subset z)).1) λz=>f.1 z.1,f.2⟩,λ_ _ _ f=>f⟩,a_,rfl⟩
theorem Ir{J:List Addr}(O:aH G H W ds xs M)(s:aaI M J)(nd:J.Nodup)(hn:∀a∈J,W.tmp a)(F:H p=none)(q:Done G H W J (.tup ds) Q):Q (.ref p) (upd H p (.tup xs)):=by
 have B:Same H (upd H p (.tup xs)):=Same.new F;refine q (.ref p) _ M B ?_ (λa Y=>.inl (s.subset Y)) (s.nodup nd);rw[Rep];exact⟨p,xs,rfl,a_,O.up ⟨B,λb u U f=>⟨λz=>z.elim (λz=>f.1 (hn b (s.subset z)).1) λz=>f.1 z.1,f.2⟩,λ_ _ _ f=>f⟩⟩
theorem m8{J:List Addr}(O:Rep G H W d x M)(s:aaI M J)(nd:J.Nodup)(hn:∀a∈J,W.tmp a)(q:Done G H W J d Q):Q x H:=by
 refine q x H M (Same.refl H) (O.up ⟨Same.refl H,λb u U f=>⟨λz=>z.elim (λz=>f.1 (hn b (s.subset z)).1) λz=>f.1 z.1,f.2⟩,λ_ _ _ f=>f⟩) (λa Y=>.inl (s.subset Y)) (s.nodup nd)
def Fe:List D->Option D
 |[.lst _ ds]=>some (.lst .own ds)
 |[.tup ds]=>some (.lst .own ds)
 |_=>none
def pK:List D->Option D
 |[.lst _ ds]=>some (.tup ds)
 |[.tup ds]=>some (.tup ds)
 |_=>none
theorem Ke(z:∀c,(X c).K=G.K:=by intro _;rfl):CaB X G (.type "list") Fe:=⟨λxs H Q=>∃p ys,xs=[.ref p]/\(SqL G.K H p ys∨SqT G.K H p ys)/\∀l,H l=none->Q (.ref l) (upd H l (.lst ys)),λc=>by rw[←z c];exact yK,λds d e xs H W J r nd hn w Q q=>by
 unfold Fe at e;split at e
 .cases e
  show 3;obtain⟨a,ys,M,rfl,O,B⟩:=rx;exact⟨a,ys,rfl,.inl B.sq,λp F=>t7 O B.sub nd hn F q⟩
 .cases e
  show 3;obtain⟨a,ys,rfl,U,O⟩:=rx;exact⟨a,ys,rfl,.inr (SqT.of U),λp F=>t7 O (abo _) nd hn F q⟩
 .cases e⟩
def tyN:D->Option String
 |.non=>some "NoneType"
 |.bl _=>some "bool"
 |.int _=>some "int"
 |.str _=>some "str"
 |.tup _=>some "tuple"
 |.lst m _=>if m= .scr then none else some "list"
 |.dct m _ _=>if m= .scr then none else some "dict"
 |_=>none
def okT(n:String):Bool:=n=="int"||n=="bool"||n=="str"||n=="list"||n=="tuple"
def isT(t n:String):Bool:=t==n||(t=="bool"&&n=="int")
variable{t:String}
theorem Er{K:YS}{n:String}(h1:tyN d=some t)(h2:okT n=true):adq K (.type t) (.type n)=some (isT t n):=by
 have U:t="NoneType"∨t="bool"∨t="int"∨t="str"∨t="tuple"∨t="list"∨t="dict":=by
  cases d<;>simp[tyN]at h1<;>(try split at h1)<;>simp_all
 have hn:n="int"∨n="bool"∨n="str"∨n="list"∨n="tuple":=by simpa[okT,or_assoc]using h2
 rcases U with rfl|rfl|rfl|rfl|rfl|rfl|rfl<;>rcases hn with rfl|rfl|rfl|rfl|rfl<;>with_unfolding_all rfl
theorem Bs(r:Rep G H W d v L)(h:tyN d=some t):ou G.K H v (.type t):=by
 cases d with
 |non=>rw[Rep]at r;obtain⟨rfl,_⟩:=r;cases h;exact .non
 |bl b=>rw[Rep]at r;obtain⟨rfl,_⟩:=r;cases h;exact .bl _
 |int b=>rw[Rep]at r;obtain⟨rfl,_⟩:=r;cases h;exact .int _
 |str b=>rw[Rep]at r;obtain⟨rfl,_⟩:=r;cases h;exact .str _
 |ty n=>cases h
 |tup ds=>rw[Rep]at r;obtain⟨a,xs,rfl,U,O⟩:=r;cases h;exact .tup U
 |lst m ds=>
  rw[Rep]at r;obtain⟨a,xs,M,rfl,O,B⟩:=r;simp![tyN]at h;split at h
  .cases h
  .cases h;exact .lst (B.at ‹_›)
 |dct m ks ds=>
  rw[Rep]at r;obtain⟨a,xs,M,rfl,I,O,B⟩:=r;simp![tyN]at h;split at h
  .cases h
  .cases h;exact .dK (B.at ‹_›)
 |ins m c fs ds=>cases h
def CK:List D->Option (List String)
 |[]=>some []
 |.ty n::r=>(CK r).map λt=>n::t
 |_::_=>none
theorem xQ:∀{ds:List D}{vs:List V}{L:List Addr}{ns:List String},aH G H W ds vs L->CK ds=some ns->vs=ns.map V.ty
 |[],vs,L,ns,r,h=>by cases h;rw[r.inv0.1];rfl
 |d::t,vs,L,ns,r,h=>by
  obtain⟨x,ys,M,M',rfl,rfl,h1,h2⟩:=r.inv;cases d<;>simp[CK]at h;obtain⟨w,B,rfl⟩:=h;rw[Rep]at h1;rw[h1.1,xQ h2 B];rfl
theorem xj{K:YS}(h1:tyN d=some t):∀{ns:List String},ns.all okT=true->adv K (.type t) (ns.map abg)=some (ns.any (isT t))
 |[],_=>rfl
 |n::r,h=>by
  rw[acp,ZQ]at h;rw[YT,adv,Er h1 h.1];cases e:isT t n with
  |true=>simp[e]
  |false=>simp![e];rw[xj h1 h.2];simp[e]
def iT:List D->Option D
 |[x,.ty n]=>(tyN x).bind λt=>if okT n=true then some (.bl (isT t n))else none
 |[x,.tup ts]=>(tyN x).bind λt=>(CK ts).bind λns=>if ns.all okT=true then some (.bl (ns.any (isT t)))else none
 |_=>none
theorem jw(F:∀c,(X c).K=G.K:=by intro _;rfl):CaB X G (.builtin "isinstance") iT:=⟨λxs H Q=>(∃x n t b,xs=[x,.ty n]/\ou G.K H x t/\adq G.K t (.type n)=some b/\Q (.bl b) H)∨∃x tp z t b,xs=[x,.ref tp]/\H tp=some (.tup (Zt V.ty z))/\ou G.K H x t/\adv G.K t (z.map abg)=some b/\Q (.bl b) H,λc=>by rw[←F c];exact gA.or Cm zq,λds d e xs H W J r nd hn w Q q=>by
 unfold iT at e;split at e
 .rename_i x n
  cases e1:tyN x with
  |none=>simp[e1]at e
  |some t=>
   rw[e1]at e;simp![YK]at e;split at e
   .cases e
    obtain⟨u,v,M,N,rfl,rfl,rx,Z⟩:=r.inv2;rw[Rep]at Z;obtain⟨rfl,_⟩:=Z;exact .inl ⟨u,n,_,_,rfl,Bs rx e1,Er e1 ‹_›,q.scal λ_=>iC⟩
   .cases e
 .rename_i x ts
  cases e1:tyN x with
  |none=>simp[e1]at e
  |some t=>
   cases e2:CK ts with
   |none=>simp[e1,e2]at e
   |some ns=>
    rw[e1,e2]at e;simp![YK]at e;split at e
    .cases e
     obtain⟨u,v,M,N,rfl,rfl,rx,Z⟩:=r.inv2;rw[Rep]at Z;obtain⟨a,ys,rfl,U,O⟩:=Z;have:=xQ O e2;subst this;exact .inr ⟨u,a,ns,_,_,rfl,U,Bs rx e1,xj e1 ‹_›,q.scal λ_=>iC⟩
    .cases e
 .cases e⟩
theorem NZ{F:List V}{a0:List D}{M0 N M1 R:List Addr}(O:aH G H W a0 F M1)(rr:Rep G H W res x R)(B:az a0=true)(k2:aB a0=true)(kr:clean res=true)
  (Y:a∉M1++R) (nd:(M1++R).Nodup) (sub:∀b∈M1++R,b∈M0∨b∈N)
  (q:∀x H' M' R,(∀b u,H b=some u->b∉a::M0->H' b=some u)->(∀W',Evo H H' W W'->Rep G H' W' (.lst .own a0) (.ref a) M'/\Rep G H' W' res x R)->(M'++R).Nodup->(∀b∈M'++R,b∈a::M0∨b∈N∨H b=none)->clean (.lst .own a0)=true->clean res=true->Q x H'):Q x (upd H a (.lst F)):=by
 have a1:=(by simpa[clean]using kr:aD res=true/\aC res=true);refine q x _ (a::M1) R (λb u U n=>by rw[aO (show b≠a from λz=>n (by rw[z];simp))];exact U) (λW' I=>⟨?_,?_⟩) ?_ (λb U=>?_) (ue B k2) kr
 .rw[Rep]
  exact⟨a,F,M1,rfl,FN O B k2 (λz=>Y (YW _ z)) I,a_,rfl⟩
 .exact rr.mono I (.inl a1.1) (.inl a1.2) λc Z u J=>by rw[aO (show c≠a from λz=>Y (YJ _ (z▸Z)))];exact J
 .rw[ZK]
  exact Zv.mpr ⟨Y,nd⟩
 .rw[ZK]at U
  rcases Za.mp U with z|z
  .exact .inl (by simp[z])
  .exact(sub b z).imp (λz=>Zw _ z) .inl
theorem vp(h:az ds=true):∀d∈ds,aD d=true:=λd hd=>let⟨i,hi⟩:=ae3 hd;iV h hi
theorem v9(h:aB ds=true):∀d∈ds,aC d=true:=λd hd=>let⟨i,hi⟩:=ae3 hd;iW h hi
theorem bV:∀{ds:List D},(∀d∈ds,aD d=true)->az ds=true
 |[],_=>rfl
 |d::r,h=>by rw[az,h d (by simp),bV λe V=>h e (by simp[V])];rfl
theorem bQ:∀{ds:List D},(∀d∈ds,aC d=true)->aB ds=true
 |[],_=>rfl
 |d::r,h=>by rw[aB,h d (by simp),bQ λe V=>h e (by simp[V])];rfl
def lK:D->List D->Option (D×D)
 |.lst .own ds,[.int i]=>if ds.length<1000000 then(ixN ds.length i).bind λk=>(ds[k]?).map λe=>(.lst .own (ds.eraseIdx k),e)else none
 |_,_=>none
theorem aH.erase(h:aH G H W ds xs L)(e:ds[j]? =some d):∃x M N,xs[j]? =some x/\Rep G H W d x M/\aH G H W (ds.eraseIdx j) (xs.eraseIdx j) N/\aa2 (N++M) L:=by
 obtain⟨A,B,x,ys,zs,z,M,Z,rfl,q,rfl,Y,rfl,h1,h2,F⟩:=h.at e;refine⟨x,M,z++Z,by rw[aaq 1.11,Y,abY];rfl,h2,?_,?_⟩
 .have e1:(A++d::B).eraseIdx j=A++B:=by rw[aa6 1.11,q,abY];rfl
  have e2:(ys++x::zs).eraseIdx j=ys++zs:=by rw[aa6 1.11,Y,abY];rfl
  rw[e1,e2];exact h1.append F
 .rw[aaT]
  exact List.Perm.append_left z ade
theorem qb(h:d∈ds.eraseIdx k):d∈ds:=(aeL ds k).subset h
theorem BZ{e:D}{M0 N:List Addr}(O:aH G H W ds ys M0)(nd:((a::M0)++N).Nodup)(Z:clean (.lst .own ds)=true)(I:ds[k]? =some e)
  (q:∀x H' M' R,(∀b u,H b=some u->b∉a::M0->H' b=some u)->(∀W',Evo H H' W W'->Rep G H' W' (.lst .own (ds.eraseIdx k)) (.ref a) M'/\Rep G H' W' e x R)->(M'++R).Nodup->(∀b∈M'++R,b∈a::M0∨b∈N∨H b=none)->clean (.lst .own (ds.eraseIdx k))=true->clean e=true->Q x H'):∃y,ys[k]? =some y/\Q y (upd H a (.lst (ys.eraseIdx k))):=by
 obtain⟨B,k2⟩:=pP Z;obtain⟨x,M,L,J,rx,rl,Y⟩:=O.erase I;have F:=Zi.mp nd;have hn:=Zv.mp F.1;refine⟨x,J,NZ (M0:=M0) (N:=N) rl rx (bV λd hd=>vp B d (qb hd)) (bQ λd hd=>v9 k2 d (qb hd)) (by simp[clean,iV B I,iW k2 I]) (λz=>hn.1 (Y.mem_iff.mp z)) (Y.nodup_iff.mpr hn.2) (λb U=>.inl (Y.mem_iff.mp U)) q⟩
theorem Iu:MuV G LQ lK:=λd es d' res h v xs H W M N r B nd hM Z c1 V Q q=>by
 unfold lK at h;split at h
 .rename_i ds i
  split at h
  .rename_i hl
   cases h1:ixN ds.length i with
   |none=>simp[h1]at h
   |some k=>
    cases h2:ds[k]? with
    |none=>simp[h1,h2]at h
    |some e=>
     obtain⟨rfl,rfl⟩:D.lst .own (ds.eraseIdx k)=d'/\e=res:=by simpa[h1,h2]using h
     rw[Rep]at r;obtain⟨a,ys,M0,rfl,O,Y,rfl⟩:=r;obtain⟨x,rfl,J⟩:=B.inv1;obtain⟨rfl,rfl⟩:=bu J;obtain⟨I,g2,z,F⟩:=yW h1;obtain⟨y,U,q'⟩:=BZ O nd Z h2 q;exact⟨a,ys,i,k,y,rfl,rfl,Y,by omega,by omega,by rw[←O.length];exact I,U,q'⟩
  .cases h
 .cases h
theorem Ja:MuB X G "list" "list.pop" lK:=⟨_,λc=>KN,Iu,DG rfl λd es q e=>by
 unfold lK at e;split at e
 .exact⟨_,_,rfl⟩
 .cases e⟩
def vY:D->List D->Option (D×D)
 |.lst .own ds,[]=>(ds[ds.length-1]?).map λe=>(.lst .own ds.dropLast,e)
 |_,_=>none
theorem O7:MuV G XM vY:=λd es d' res h v xs H W M N r B nd I Z F V Q q=>by
 unfold vY at h;split at h
 .rename_i ds
  cases h2:ds[ds.length-1]? with
  |none=>simp[h2]at h
  |some e=>
   obtain⟨rfl,rfl⟩:D.lst .own ds.dropLast=d'/\e=res:=by simpa[h2]using h
   rw[Rep]at r;obtain⟨a,ys,M0,rfl,O,Y,rfl⟩:=r;obtain⟨rfl,rfl⟩:=B.inv0;rw[←qY]at q;obtain⟨y,U,z⟩:=BZ O nd Z h2 q;rw[O.length]at U z;rw[qY]at z;exact⟨a,ys,y,rfl,rfl,Y,U,z⟩
 .cases h
theorem Q6:MuB X G "list" "list.pop" vY:=⟨_,λc=>Tf,O7,DG rfl λd es q e=>by
 unfold vY at e;split at e
 .exact⟨_,_,rfl⟩
 .cases e⟩
theorem aH.takeDrop(h:aH G H W ds xs L)(k:Nat):∃A B,aH G H W (ds.take k) (xs.take k) A/\aH G H W (ds.drop k) (xs.drop k) B/\L=A++B:=by
 rw[←ac_ k ds]at h;obtain⟨ys,zs,A,B,rfl,rfl,h1,h2⟩:=h.split;have Y:=h1.length;by_cases I:k<=ds.length
 .have hk':ys.length=k:=by rw[←Y,abu];omega
  refine⟨A,B,?_,?_,rfl⟩
  .rw[←hk',List.take_left,hk'];exact h1
  .rw[←hk',List.drop_left,hk'];exact h2
 .have e1:ds.take k=ds:=aca 1.11
  have e2:ds.drop k=[]:=acV 1.11;rw[e1]at h1 Y;rw[e2]at h2;obtain⟨rfl,rfl⟩:=h2.inv0;refine⟨A,[],?_,?_,by simp⟩
  .rw[e1,Zu,aca 1.11];exact h1
  .rw[e2,Zu,acV 1.11];exact .nil
def eU:List Key->List D->List (Key×D)->List Key×List D
 |ks,ds,[]=>(ks,ds)
 |ks,ds,p::r=>eU (h_ ks ds p.1 p.2).1 (h_ ks ds p.1 p.2).2 r
variable{k:Key}
theorem Q8{N:List Addr}(O:aH G H W ds (Zt (·.2) kvs) M)(hn:(Zt (·.1) kvs).Nodup)(J:Rep G H W d x N)(nd:(M++N).Nodup) :
  (Zt (·.1) (putK kvs k x)=(h_ (Zt (·.1) kvs) ds k d).1/\(Zt (·.1) (putK kvs k x)).Nodup)/\(putK kvs k x).length<=kvs.length+1/\∃M',aH G H W (h_ (Zt (·.1) kvs) ds k d).2 (Zt (·.2) (putK kvs k x)) M'/\M'.Nodup/\∀a∈M',a∈M∨a∈N:=by
 have q:=Zi.mp nd;cases F:cZ (kvs.map (·.1)) k with
 |some j=>
  have a2:j<ds.length:=by rw[O.length];simpa using pM F
  obtain⟨A,U,B,Z,a1⟩:=O.set (Zc a2) J;obtain⟨p1,p2⟩:=CJ (v:=x) F hn;have a0:aaI (A++B) M:=by rw[Z];exact(abo A).append (aal U B)
  have n3:=Zi.mp (a0.nodup q.1);have I:∀z∈N,z∉A++B:=λz h1 h2=>q.2.2 z (a0.subset h2) z h1 rfl;simp![h_,F];refine⟨⟨p1,by rw[p1];exact hn⟩,?_,A++(N++B),by rw[p2];exact a1,dX n3.1 (dX q.2.1 n3.2.1 λz h1 h2=>I z h1 (by simp[h2])) λz h1 h2=>?_,λa Y=>?_⟩
  .have:(putK kvs k x).length=kvs.length:=by have:=congrArg abv p1;simpa using this
   omega
  .rcases YL.mp h2 with y|y
   .exact I z y (by simp[h1])
   .exact n3.2.2 z h1 z y rfl
  .simp![YL]at Y
   rcases Y with z|z|z
   .exact .inl (a0.subset (by simp[z]))
   .exact .inr z
   .exact .inl (a0.subset (by simp[z]))
 |none=>
  simp![h_,F];have e:putK kvs k x=kvs++[(k,x)]:=pL F;rw[e];refine⟨⟨by simp,?_⟩,by simp,M++N,by rw[Zr];exact O.append (.one J),nd,λa Y=>YL.mp Y⟩;rw[Zr];exact Zi.mpr ⟨hn,by simp,λa h1 b h2 z=>by
   obtain rfl:b=k:=by simpa using h2
   exact vV F (z▸h1)⟩
theorem v4{H:Hp}{W:Wn}:∀{es:List (Key×D)}{prs kvs:List (Key×V)}{ds:List D}{M N:List Addr},Zt (·.1) es=Zt (·.1) prs->aH G H W (Zt (·.2) es) (Zt (·.2) prs) N->aH G H W ds (Zt (·.2) kvs) M->(Zt (·.1) kvs).Nodup->(M++N).Nodup->
  (Zt (·.1) (putAll kvs prs)=(eU (Zt (·.1) kvs) ds es).1/\(Zt (·.1) (putAll kvs prs)).Nodup)/\∃M',aH G H W (eU (Zt (·.1) kvs) ds es).2 (Zt (·.2) (putAll kvs prs)) M'/\M'.Nodup/\∀a∈M',a∈M∨a∈N
 |[],prs,kvs,ds,M,N,hk,h1,h2,hn,nd=>by
  have:prs=[]:=by cases prs with
   |nil=>rfl
   |cons p r=>cases hk
  subst this;exact⟨⟨rfl,hn⟩,M,h2,(Zi.mp nd).1,λa Y=>.inl Y⟩
 |e::es,prs,kvs,ds,M,N,hk,h1,h2,hn,nd=>by
  cases prs with
  |nil=>cases hk
  |cons p prs=>
   obtain⟨x,ys,N1,N2,I,rfl,J,a5⟩:=aH.inv h1;simp![YT,List.cons.injEq]at hk I;obtain⟨rfl,rfl⟩:=I;have a0:=Zi.mp nd;have a1:=Zi.mp a0.2.1;have a4:(M++N1).Nodup:=dX a0.1 a1.1 λa q z2=>a0.2.2 a q a (by simp[z2]) rfl;obtain⟨⟨q1,q2⟩,O,U,q4,B,F⟩:=Q8 (k:=p.1) h2 hn J a4;have a3:(U++N2).Nodup:=dX B a1.2.1 λa q z2=>by
    rcases F a q with z|z
    .exact a0.2.2 a z a (by simp[z2]) rfl
    .exact a1.2.2 a z a z2 rfl
   rw[←hk.1]at q1 q2 q4;have ih:=v4 (es:=es) (prs:=prs) (kvs:=putK kvs e.1 p.2) hk.2 a5 q4 q2 a3;rw[q1]at ih;obtain⟨⟨r1,Z⟩,M',r3,r4,r5⟩:=ih;have a2:putAll kvs (p::prs)=putAll (putK kvs e.1 p.2) prs:=by rw[hk.1];rfl
   rw[a2];refine⟨⟨r1,Z⟩,M',r3,r4,λa Y=>?_⟩;rcases r5 a Y with z|z
   .exact(F a z).imp id λz=>by simp[z]
   .exact .inr (by simp[z])
theorem o5(P:D->Prop):∀{es:List (Key×D)}{ks:List Key}{ds:List D},(∀d∈ds,P d)->(∀p∈es,P p.2)->∀d∈(eU ks ds es).2,P d
 |[],ks,ds,h1,h2=>h1
 |p::r,ks,ds,h1,h2=>by
  rw[eU];refine o5 P (λd hd=>?_) λq B=>h2 q (by simp[B]);unfold h_ at hd;split at hd
  .rcases List.mem_or_eq_of_mem_set hd with z|z
   .exact h1 d z
   .rw[z];exact h2 p (by simp)
  .rcases YL.mp hd with z|z
   .exact h1 d z
   .obtain rfl:d=p.2:=by simpa using z
    exact h2 p (by simp)
def B_:List D->Option (List (Key×D))
 |[]=>some []
 |.tup [k,v]::r=>(dh k).bind λk=>(B_ r).map λt=>(k,v)::t
 |_::_=>none
theorem Ln{k:D}{N:Key}(h:dh k=some N)(r:Rep G H W k x L):L=[]:=by
 cases k<;>simp[dh]at h<;>rw[Rep]at r<;>exact r.2
theorem Be{H:Hp}{W:Wn}:∀{ds:List D}{es:List (Key×D)}{ys:List V}{N:List Addr},B_ ds=some es->aH G H W ds ys N->∃prs:List (Key×V),Zt (·.1) es=Zt (·.1) prs/\aH G H W (Zt (·.2) es) (Zt (·.2) prs) N/\prs.length=ys.length/\∀(j:Nat)(k:Key)(v:V),prs[j]? =some (k,v)->∃p:Addr,ys[j]? =some (V.ref p)/\H p=some (.tup [kV k,v])
 |[],es,ys,N,h,r=>by
  cases h;obtain⟨rfl,rfl⟩:=r.inv0;exact⟨[],rfl,.nil,rfl,λj k v e=>by simp at e⟩
 |d::r,es,ys,N,h,rr=>by
  unfold B_ at h;split at h
  .rename_i e;cases e
  .rename_i k v t e
   cases e;cases h1:dh k with
   |none=>simp[h1]at h
   |some Y=>
    cases h2:B_ r with
    |none=>simp[h1,h2]at h
    |some w=>
     obtain rfl:(Y,v)::w=es:=by simpa[h1,h2]using h
     obtain⟨x,zs,N1,Z,rfl,rfl,J,O⟩:=rr.inv;obtain⟨prs,I,g2,z,g4⟩:=Be h2 O;rw[Rep]at J;obtain⟨a,xs,rfl,U,a1⟩:=J;obtain⟨y1,F,A,B,rfl,rfl,a0,q⟩:=a1.inv2;have hA:=Ln h1 a0;subst hA;have:=jn a0 h1;subst this;refine⟨(Y,F)::prs,by simp[I],.cons q g2,by simp[z],λj k v e=>?_⟩;cases j with
     |zero=>
      simp at e;obtain⟨rfl,rfl⟩:=e;exact⟨a,rfl,U⟩
     |succ j=>exact g4 j k v (by simpa using e)
  .cases h
theorem dY.at2{D:Addr->HO->Prop}(h:dY D H W a o m L M)(Z:(m== .scr)=false):H a=some o:=h.at (by intro z;rw[z]at Z;cases Z)
def oG:List D->Option D
 |[.lst m ds]=>if(m== .scr)=false/\ds.length<=50000 then(B_ ds).map λes=>.dct .own (eU [] [] es).1 (eU [] [] es).2 else none
 |_=>none
theorem BJ(Z:∀c,(X c).calm=true):CaB X G (.type "dict") oG:=⟨_,λc=>u9 (Z c),λds d e xs H W J r nd hn w Q q=>by
 unfold oG at e;split at e
 .rename_i m ds
  split at e
  .rename_i hm
   cases h1:B_ ds with
   |none=>simp[h1]at e
   |some es=>
    obtain rfl:D.dct .own (eU [] [] es).1 (eU [] [] es).2=d:=by simpa[h1]using e
    show 3;obtain⟨a,ys,M,rfl,O,B⟩:=rx;obtain⟨prs,I,g2,g3,g4⟩:=Be h1 O;have V:M.Nodup:=B.sub.nodup nd;obtain⟨⟨p1,p2⟩,M',p3,p4,p5⟩:=v4 (kvs:=[]) (M:=[]) I g2 .nil (by simp) (by simpa using V);refine⟨a,ys,prs,rfl,B.at2 hm.1,g3,by rw[g3,←O.length];exact hm.2,g4,λp F=>?_⟩;have sm:Same H (upd H p (.dK (putAll [] prs))):=Same.new F;have np:p∉M':=λz=>by obtain⟨o,N,_⟩:=p3.dom p z;rw[F]at N;cases N
    have a0:∀a∈M',a∈J:=λa Y=>(p5 a Y).elim (λz=>by cases z) λz=>B.sub.subset z;refine q (.ref p) _ (p::M') sm ?_ (λa Y=>(Za.mp Y).elim (λz=>.inr (by rw[z];exact F)) λz=>.inl (a0 a z)) (Zv.mpr ⟨np,p4⟩);rw[Rep];exact⟨p,putAll [] prs,M',rfl,⟨p1,p1▸p2⟩,p3.up ⟨sm,λb u U f=>⟨λz=>z.elim (λz=>(Za.mp z).elim (λz=>by rw[z,F]at U;cases U) λz=>f.1 (hn b (a0 b z)).1) λz=>f.1 z.1,f.2⟩,λ_ _ _ f=>f⟩,a_,rfl⟩
  .cases e
 .cases e⟩
theorem Hc(h1:az ds=true)(h2:aB ds=true):clean (.dct .own ks ds)=true:=by simp[clean,aD,aC,h1,h2]
def eMt(g:D->List D->Option D)(J:En->Option D)(f:En->Option (List D)):En->Option D:=λρ=>(J ρ).bind λx=>(f ρ).bind λds=>g x ds
theorem RW{id:String}{g:D->List D->Option D}{o:Expr}{J:En->Option D}{f:En->Option (List D)}(m:MtB X G T id g)(O:adk T)(slot:Slot T Z id)(z:typeOf (.builtin id)=pure (.type "method_descriptor"))(N:PV X G ob o J)(Y:PVA X G ob (e::es) f)(q:∀c,aa8 o Z (X c).env (eval o (X c).env)=eval o (X c).env:=by intro _;rfl)(I:∀c,((aaA cpos (Zb (e::es) (X c).env)).all (λx=>!x.1)&&(aco cpos (abw [] (X c).env)).all (λx=>x.1.isSome)
  &&decide ((e::es).length+([]:List adu).length+(if([]:List adu).isEmpty then 0 else 1)<30))=true:=by intro _;rfl) (U:(apos.endLine==cpos.line)=true:=by rfl) (B:∀c,Zb (e::es) (X c).env=(false,eval e (X c).env)::Zb es (X c).env:=by intro _;rfl) (V:∀c,(aaA cpos (Zb es (X c).env)).any (·.1)=false:=by intro _;rfl) (F:∀c,(X c).K=G.K:=by intro _;rfl) :
 PV X G ob (.Call (.Attribute o Z apos) (e::es) [] cpos) (eMt g J f):=let⟨r,m1,m2,m3⟩:=m.ex;let⟨t,a1,a2⟩:=N.ex;let⟨u,b1,b2⟩:=Y.ex;⟨_,λc=>(by rw[←F c];exact J0 O slot z (m1 c) (a1 c) (b1 c) (q c) (I c) U (B c) (V c)),J4 m2 m3 a2 b2⟩
def zf(a b:Str):Option (List Str):=
 if(decide (a.length<b.length)||decide (acu a<acu b))=false/\(b.length==0)=false/\(aaj a b 0 a.length (a.length+1)).isEmpty=false/\a.length<=YZ/\(acE a (aaj a b 0 a.length (a.length+1)) b.length).length<=YZ
 then some (acE a (aaj a b 0 a.length (a.length+1)) b.length)else none
def vZ:D->List D->Option D
 |.str a,[.str b]=>(zf a b).map λl=>.lst .own (l.map D.str)
 |_,_=>none
theorem Ae:∀l:List Str,aH G H W (l.map D.str) (l.map V.str) []
 |[]=>.nil
 |x::r=>aH.cons (M:=[]) (M':=[]) (by rw[Rep];exact⟨rfl,rfl⟩) (Ae r)
theorem HN:MtB X G "str" "str.split" vZ:=⟨_,λc=>Oq,λdx ds d e x xs H W I J rx r nd hn w Q q=>(by
 unfold vZ at e;split at e
 .rename_i a b
  cases h1:zf a b with
  |none=>simp[h1]at e
  |some l=>
   obtain rfl:D.lst .own (l.map D.str)=d:=by simpa[h1]using e
   obtain⟨y,rfl,Z⟩:=r.inv1;obtain⟨rfl,rfl⟩:=cB rx;obtain⟨rfl,rfl⟩:=cB Z;unfold zf at h1;split at h1
   .rename_i hh
    cases h1;refine⟨a,b,_,rfl,rfl,hh.1,hh.2.1,hh.2.2.1,hh.2.2.2.1,rfl,hh.2.2.2.2,λp F=>?_⟩;refine q (.ref p) _ [p] (Same.new F) ?_ (λa Y=>.inr (by rw[show a=p by simpa using Y];exact F)) (by simp);rw[Rep];exact⟨p,_,[],rfl,Ae _,a_,rfl⟩
   .cases h1
 .cases e),λdx ds d e x H W I rx=>by
 unfold vZ at e;split at e
 .obtain⟨rfl,rfl⟩:=cB rx
  exact rfl
 .cases e⟩
def Ds:D->List D->Option D
 |.dct m ks ds,[k]=>if m= .scr then none else(dh k).bind λk=>match cZ ks k with
  |some j=>ds[j]?
  |none=>some .non
 |.dct m ks ds,[k,x]=>if m= .scr then none else(dh k).bind λk=>match cZ ks k with
  |some j=>ds[j]?
  |none=>some x
 |_,_=>none
def YC:V->List V->Hp->VK->Prop:=λx vs H Q=>∃a o y,x= .ref a/\nA H a y o/\(vs=[y]/\Q (o.getD .non) H∨∃z,vs=[y,z]/\Q (o.getD z) H)
theorem UL(J:Y.A.units+1<cLine):MtR Y "dict.get" YC:=λpins s σ H x vs v us Q I rx B h=>by
 obtain⟨a,o,y,rfl,g,h⟩:=h;cases rx;rcases h with⟨rfl,q⟩|⟨z,rfl,q⟩
 .obtain⟨u,rfl,D⟩:=vals1 B
  exact V2 J I g D λO s3 U N=>⟨_,H,U,N,q⟩
 .cases B with
  |cons Z B=>
   obtain⟨u,rfl,D⟩:=vals1 B;exact U9 J I g Z D λO V F N=>⟨_,H,F,N,q⟩
theorem Qp(J:∀c,(X c).A.units+1<cLine):MtB X G "dict" "dict.get" Ds:=⟨_,λc=>UL (J c),λdx ds d e x xs H W Lx L0 rx r nd hn w Q q=>(by
 have a0:∀{m:Mk}{ks:List Key}{es:List D}{k:D}{N:Key}{y:V}{Ly:List Addr},m≠.scr->Rep G H W (.dct m ks es) x Lx->dh k=some N->Rep G H W k y Ly->∃a kvs M,x= .ref a/\H a=some (.dK kvs)/\nA H a y (lG kvs N)/\Zt (·.1) kvs=ks/\aH G H W es (Zt (·.2) kvs) M/\aaI M Lx:=λ{m ks es k N y Ly} hm rx I Z=>by
  rw[Rep]at rx;obtain⟨a,kvs,M,rfl,⟨rfl,a1⟩,O,hs⟩:=rx;have:=jn Z I;subst this;exact⟨a,kvs,M,rfl,hs.at hm,.inl ⟨kvs,N,hs.rdD,rfl,rfl⟩,rfl,O,hs.sub⟩
 unfold Ds at e;split at e
 .rename_i m ks es k
  split at e
  .cases e
  .rename_i hm
   cases I:dh k with
   |none=>simp[I]at e
   |some N=>
    obtain⟨y,rfl,Z⟩:=r.inv1;obtain⟨a,kvs,M,rfl,Y,g,rfl,O,sub⟩:=a0 hm rx I Z;refine⟨a,_,y,rfl,g,.inl ⟨rfl,?_⟩⟩;simp![I,YK]at e;cases F:cZ (Zt (·.1) kvs) N with
    |none=>
     simp![F]at e;cases e;rw[qe F];exact q.scal λ_=>nH
    |some j=>
     simp![F]at e;obtain⟨v,M',h1,h2,h3⟩:=O.get e;rw[j9 F,h1];exact m8 h2 (h3.trans (sub.trans (abk _ _))) nd hn q
 .rename_i m ks es k x0
  split at e
  .cases e
  .rename_i hm
   cases I:dh k with
   |none=>simp[I]at e
   |some N=>
    obtain⟨y,z,A,B,rfl,rfl,Z,U⟩:=r.inv2;obtain⟨a,kvs,M,rfl,Y,g,rfl,O,sub⟩:=a0 hm rx I Z;refine⟨a,_,y,rfl,g,.inr ⟨z,rfl,?_⟩⟩;simp![I,YK]at e;cases F:cZ (Zt (·.1) kvs) N with
    |none=>
     simp![F]at e;cases e;rw[qe F];exact m8 U ((aal _ _).trans (aal _ _)) nd hn q
    |some j=>
     simp![F]at e;obtain⟨v,M',h1,h2,h3⟩:=O.get e;rw[j9 F,h1];exact m8 h2 (h3.trans (sub.trans (abk _ _))) nd hn q
 .cases e),λdx ds d e x H W Lx rx=>by
 have a0:∀{m:Mk}{ks:List Key}{es:List D},m≠.scr->Rep G H W (.dct m ks es) x Lx->tyV G.K "dict" x H:=λ{m ks es} hm rx=>by
  rw[Rep]at rx;obtain⟨a,kvs,M,rfl,I,O,hs⟩:=rx;exact .inr (.inr (.inl ⟨rfl,.inl ⟨_,hs.at hm⟩⟩))
 unfold Ds at e;split at e
 .split at e
  .cases e
  .exact a0 ‹_› rx
 .split at e
  .cases e
  .exact a0 ‹_› rx
 .cases e⟩
def RfO(G:Gc)(ob:Nat->Bool)(t:TO)(f:En->Option (Option Int)):Prop:=∀(ρ:En)(o:Option Int),f ρ=some o->∀(σ:L2.St)(H:Hp)(W:Wn),Rel G H W ob ρ σ->WOk H W->∀Q:Option Int->Hp->Prop,(∀H',Same H H'->Q o H')->t σ H Q
structure PVO{ι:Type}(X:ι->Cx)(G:Gc)(ob:Nat->Bool)(e:Option Expr)(f:En->Option (Option Int)):Prop where
 mk::(ex:∃t,(∀c,PO (X c) e t)/\RfO G ob t f)
def gB:En->Option (Option Int):=λ_=>some none
def gq(f:En->Option D):En->Option (Option Int):=λρ=>(f ρ).bind λd=>match d with
 |.int i=>some (some i)
 |_=>none
theorem jQ:PVO X G ob none gB:=⟨_,λc=>QG,λρ o e σ H W V w Q q=>by cases e;exact q H (Same.refl H)⟩
variable{f:En->Option D}
theorem jZ(h:PV X G ob e f):PVO X G ob (some e) (gq f):=let⟨t,a1,a2⟩:=h.ex;⟨_,λc=>RQ (a1 c),λρ o e σ H W V w Q q=>by
 unfold gq at e;cases h1:f ρ with
 |none=>simp[h1]at e
 |some d=>
  rw[h1]at e;simp![YK]at e;split at e
  .cases e
   refine a2 ρ _ h1 σ H W V w _ λv H' L s r I nd=>?_;obtain⟨rfl,rfl⟩:=bu r;exact⟨_,rfl,q H' s⟩
  .cases e⟩
def SlV(G:Gc)(r:V->Option Int->Option Int->Hp->VK->Prop)(g:D->Option Int->Option Int->Option D):Prop:=∀(dx:D)(lo hi:Option Int)(d:D),g dx lo hi=some d->∀(x:V)(H:Hp)(W:Wn)(I:List Addr),Rep G H W dx x I->I.Nodup->(∀a∈I,W.tmp a)->WOk H W->∀Q:VK,Done G H W I d Q->r x lo hi H Q
structure SlB{ι:Type}(X:ι->Cx)(G:Gc)(g:D->Option Int->Option Int->Option D):Prop where
 ex:∃r,(∀c,SlR (X c) r)/\SlV G r g
def oZ(g:D->Option Int->Option Int->Option D)(f:En->Option D)(fl q:En->Option (Option Int)):En->Option D:=λρ=>(f ρ).bind λx=>(fl ρ).bind λl=>(q ρ).bind λh=>g x l h
def mF(g:D->Option Int->Option Int->Option D)(f:En->Option (D×En))(fl q:En->Option (Option Int)):En->Option (D×En):=λρ=>(f ρ).bind λp=>(fl p.2).bind λl=>(q p.2).bind λh=>(g p.1 l h).map λd=>(d,p.2)
theorem Xl{r:V->Option Int->Option Int->Hp->VK->Prop}{g:D->Option Int->Option Int->Option D}{tl th:TO}{fl fh:En->Option (Option Int)}(N:SlV G r g)(h:RfE G ob te f)(hl:RfO G ob tl fl)(hh:RfO G ob th fh):RfE G ob (tSl r te tl th) (oZ g f fl fh):=λρ d e σ H W rl w Q q=>by
 unfold oZ at e;cases h1:f ρ with
 |none=>simp[h1]at e
 |some x=>
  cases h2:fl ρ with
  |none=>simp[h1,h2]at e
  |some l=>
   cases B:fh ρ with
   |none=>simp[h1,h2,B]at e
   |some u=>
    have e:g x l u=some d:=by simpa[h1,h2,B]using e
    refine h ρ x h1 σ H W rl w _ λv H1 L F J I nd=>?_;have u1:Up H H1 W (W.add L):=.add F I;have w1:WOk H1 (W.add L):=w.add F J.dom;refine hl ρ l h2 σ H1 _ (rl.up u1) w1 _ λH2 O=>?_;have u2:Up H1 H2 (W.add L) (W.add L):=.same O;have w2:WOk H2 (W.add L):=λa Y=>let⟨o,N,hm⟩:=w1 a Y;⟨o,O a o N,hm⟩;refine hh ρ u B σ H2 _ ((rl.up u1).up u2) w2 _ λH3 Z=>?_;have u3:Up H2 H3 (W.add L) (W.add L):=.same Z;have w3:WOk H3 (W.add L):=λa Y=>let⟨o,N,hm⟩:=w2 a Y;⟨o,Z a o N,hm⟩;have ss:=(F.trans O).trans Z;refine N x l u d e v H3 _ L ((J.up u2).up u3) nd (w.tmp I) w3 Q λv' H4 L4 s4 r4 f4 n4=>?_;refine q v' H4 L4 (ss.trans s4) ?_ (λa Y=>(f4 a Y).elim (I a) λz=>ss.none' z) n4;exact r4.up ⟨Same.refl _,λb u U f=>⟨λz=>z.elim (λz=>f.1 (.inl z)) λz=>f.1 (.inr ⟨.inr z,WOk.new w I z⟩),f.2⟩,λ_ _ _ f=>f⟩
def cutD(ds:List D)(lo hi:Option Int):List D:=(ds.drop (HT.sIx ds.length 0 lo)).take (HT.sIx ds.length ds.length hi-HT.sIx ds.length 0 lo)
def gSl:D->Option Int->Option Int->Option D
 |.lst _ ds,lo,hi=>some (.lst .own (cutD ds lo hi))
 |.tup ds,lo,hi=>some (.tup (cutD ds lo hi))
 |_,_,_=>none
theorem aH.cut(h:aH G H W ds xs L)(lo hi:Option Int):∃M,aH G H W (cutD ds lo hi) (vK xs lo hi) M/\aaI M L:=by
 unfold cutD vK;rw[h.length];obtain⟨A,B,_,h2,rfl⟩:=h.takeDrop (HT.sIx xs.length 0 lo);obtain⟨Z,Y,q,_,rfl⟩:=h2.takeDrop (HT.sIx xs.length xs.length hi-HT.sIx xs.length 0 lo);exact⟨Z,q,(abk Z Y).trans (aal A _)⟩
theorem slb(J:∀c,(X c).K=G.K:=by intro _;rfl):SlB X G gSl:=⟨λx lo hi H Q=>Xd G.K x lo hi H Q∨We G.K x lo hi H Q,λc=>by rw[←J c];exact SlR.or Ph V4,λdx lo hi d e x H W I rx nd hn w Q q=>by
 unfold gSl at e;split at e
 .cases e
  rw[Rep]at rx;obtain⟨a,xs,M,rfl,O,B⟩:=rx;obtain⟨M',h1,h2⟩:=O.cut lo hi;exact .inl ⟨a,xs,rfl,B.sq,λp F=>t7 h1 (h2.trans B.sub) nd hn F q⟩
 .rename_i ds
  cases e;have D:=rx;rw[Rep]at rx;obtain⟨a,xs,rfl,U,O⟩:=rx;obtain⟨M',h1,h2⟩:=O.cut lo hi;refine .inr ⟨a,xs,rfl,SqT.of U,λz=>?_,λp F=>Ir h1 h2 nd hn F q⟩;rw[z]at h1;refine m8 (d:=.tup (cutD ds lo hi)) (x:=.ref a) (M:=M') ?_ h2 nd hn q;rw[Rep];exact⟨a,xs,rfl,U,h1⟩
 .cases e⟩
def eSl:=oZ gSl
def uW:=mF gSl
theorem jY{lo hi:Option Expr}{fl q:En->Option (Option Int)}(o:SlB X G gSl)(h:PV X G ob e f)(Y:PVO X G ob lo fl)(z:PVO X G ob hi q):PV X G ob (.Subscript e (.Slice lo hi none p2) pos) (eSl f fl q):=let⟨r,o1,o2⟩:=o.ex;let⟨t,a1,a2⟩:=h.ex;let⟨u,b1,b2⟩:=Y.ex;let⟨v,c1,c2⟩:=z.ex;⟨_,λc=>Lp (o1 c) (a1 c) (b1 c) (c1 c),Xl o2 a2 b2 c2⟩
def inK(S:List Key)(k:Key):Bool:=S.any λx=>decide (x=k)
def mK(S:List Key)(k:Key):List Key:=if inK S k then S else S++[k]
def uV(ks:List Key):List Key:=ks.foldl mK []
variable{S:List Key}
theorem zU:inK S k=true↔k∈S:=by
 unfold inK;rw[ac2];constructor
 .rintro⟨x,h1,h2⟩
  rw[←of_decide_eq_true h2];exact h1
 .exact λh=>⟨k,h,by simp⟩
theorem Gs{x:Key}:inK (mK S k) x=(inK S x||decide (x=k)):=by
 rw[ab6,afY,zU,zU,decide_eq_true_iff];unfold mK;split
 .rename_i h
  rw[zU]at h;exact⟨.inl,λz=>z.elim id λz=>by rw[z];exact h⟩
 .simp
theorem oW:(mK S k).length=if inK S k then S.length else S.length+1:=by
 unfold mK;split<;>simp
theorem BL{P:ZL}{w:World}(r:RelV (kV k) u):u.scannable=true:=by
 cases k with
 |inl i=>obtain⟨t,rfl⟩:=r;rfl
 |inr x=>obtain⟨t,rfl⟩:=r;rfl
variable{R:ad7->Hq->Prop}{l:Addr}{A:aad}
theorem Ma{S it:Addr}(z:A.handled=none)(hl:ks.length=its.length)(I:∀(j:Nat)(k:Key)(v:Value),ks[j]? =some k->its[j]? =some v->RelV (kV k) v)(U:its.length+1<acF)(nS:S≠it)(nl:l≠it)(a6:l≠S):∀(m i:Nat)(acc:List Key)(s:Hq),its.length-i=m->i<=its.length->s.heap.IsList l its.toArray->s.heap.IsListIter it l i->s.heap.SetOf (aY prog w) S (inK acc) acc.length->acc.length<=i->
  (∀h' tk,(∀b o,b≠S->b≠it->s.heap.get? b=some o->h'.get? b=some o)->h'.SetOf (aY prog w) S (inK ((ks.drop i).foldl mK acc)) ((ks.drop i).foldl mK acc).length->R (.ok (.ret .none)) {s with heap:=h',toks:=tk})->
  abt 1.16 A (.builtin "set.update.loop" ⟨[.ref S,.ref it],[]⟩) R s:=by
 intro m
 induction m with
 |zero=>
  intro i acc s Z hi pl O D Y k;have e:i=its.length:=by omega
  subst e;refine aaH ab2 ?_;rw[aax aaZ _];unfold Builtin.«set.update.loop»;dsimp only;refine gD (ac7 (show A.in1.handled=none from z) O pl (by simp) λh' B=>?_);dsimp only;refine YQ (k h' _ (λb o _ V e=>B b o V e) ?_);rw[←hl,aa9];obtain⟨o,es,ep,t,N,rest⟩:=D;exact⟨o,es,ep,t,B S _ nS N,rest⟩
 |succ m ih=>
  intro i acc s Z hi pl O D Y k;have J:i<its.length:=by omega
  have a1:i<ks.length:=by omega
  refine aaH ab2 ?_;rw[aax aaZ _];unfold Builtin.«set.update.loop»;dsimp only;refine gD (acQ O pl (x:=its[i]) (by simp[J]) λh1 a2 a0=>?_);dsimp only;have a7:h1.SetOf (aY prog w) S (inK acc) acc.length:=by
   obtain⟨o,es,ep,t,N,rest⟩:=D;exact⟨o,es,ep,t,(a0.2 S nS).trans N,rest⟩
  have rk:=I i ks[i] its[i] (Zc a1) (Zc J);refine gD (aaz ?_);unfold setAdd;refine aaz ?_;refine gD ((aY prog w).pyHash (k:=ks[i]) (lz rk) ?_);refine aeM (knd:=aY prog w) (lz rk) (BL (P:=prog) (w:=w) rk) a7 1.11 λh2 q a3=>?_;refine YQ ⟨ab4 aaZ _,?_⟩;have a5:h2.SetOf (aY prog w) S (inK (mK acc ks[i])) (mK acc ks[i]).length:=by
   have e1:(λk'=>inK acc k'||decide (k'=ks[i]))=inK (mK acc ks[i]):=funext λk'=>Gs.symm;rw[←e1,oW];exact a3
  refine ih (i+1) (mK acc ks[i]) _ 1.11 J ?_ ?_ a5 ?_ λh' tk kp a4=>k h' tk (λb o b1 V e=>kp b o b1 V ((q.2 b b1).trans ((a0.2 b V).trans e))) ?_
  .obtain⟨o,h1',h2'⟩:=pl
   exact⟨o,(q.2 l a6).trans ((a0.2 l nl).trans h1'),h2'⟩
  .exact a2.extBut q.extBut (ZV nS)
  .rw[oW]
   split<;>omega
  .rw[abR a1]
   exact a4
abbrev jh(led:Bool):Obj:={cls:=.type "set",dict:=none,data:=.set #[] 0 (.fresh 0 0 led)}
def tR(prog:ZL)(w:World)(s:Hq)(ks:List Key)(O:Hq):Prop:=∃h' tk,O={s with heap:=h',toks:=tk}/\h'.SetOf (aY prog w) s.heap.objs.size (inK (uV ks)) (uV ks).length/\∀b o,s.heap.get? b=some o->h'.get? b=some o
variable{E:Value->Hq->Prop}{s:Hq}
theorem JM(z:A.handled=none)(Y:ks.length=its.length)(I:∀(j:Nat)(k:Key)(v:Value),ks[j]? =some k->its[j]? =some v->RelV (kV k) v)(U:its.length+1<acF)(pl:s.heap.IsList l its.toArray){R:afs->Hq->Prop}
  (J:∀O,tR prog w s ks O->R (.done (.ret .none)) O):wpAny 1.16 A (Builtin.«set.__init__» ⟨[.ref s.heap.objs.size,.ref l],[]⟩) R E {s with heap:=s.heap.push (jh led)}:=by
 obtain⟨ol,a2,N,nl,a4⟩:=pl;obtain⟨b1,a1,a7,a0⟩:=ol;simp only at N a4;subst N a4;have D:(s.heap.push (jh led)).get? s.heap.objs.size=some (jh led):=Zm _ rfl;have q:adO {s with heap:=s.heap.push (jh led)} (.ref s.heap.objs.size) "set":=⟨_,D,rfl⟩;have a6:(s.heap.push (jh led)).get? l=some {cls:=.type "list",dict:=a1,data:=.seq its.toArray nl,slots:=a0}:=YM _ a2;have b0:=F.sub_list_set;have a9:=F.sub_list_frozenset;have B:(abg "list"==abg "dict")=false:=by decide
 have Z:(s.heap.push (jh led)).IsList l its.toArray:=⟨_,a6,rfl,nl,rfl⟩;unfold Builtin.«set.__init__» noKeywords ady;generalize a8:ad5=PI
 wp_walk
 subst a8;refine acd Z ?_;refine gD (aeN ?_);have a3:l<s.heap.objs.size:=Y_ a2;refine Ma (prog:=prog) (w:=w) (its:=its) (ks:=ks) (A:=A) (S:=s.heap.objs.size) (l:=l) z Y I U ?_ ?_ (Zg a3) (its.length-0) 0 [] _ rfl (abf _) ?_ ?_ ?_ (YX _) λh' tk kp V=>?_
 .show s.heap.objs.size≠(s.heap.push (jh led)).objs.size
  rw[aam];exact Zg (aaW _)
 .show l≠(s.heap.push (jh led)).objs.size
  rw[aam];exact Zg (aa0 a3)
 .exact Z.push _
 .exact⟨_,Zm _ rfl,rfl,rfl⟩
 .have hget:((s.heap.push (jh led)).push {cls:=.type "list_iterator",data:=.fields #[.ref l,.int 0 0]}).get? s.heap.objs.size=some (jh led):=YM _ D
  letI:BEq Key:=instBEqOfDecidableEq
  haveI:LawfulBEq Key:=inferInstance
  have e0:(λ_:Key=>false)=inK []:=funext λ_=>rfl;rw[←e0];exact(adG (knd:=aY prog w) led).setOf hget (by unfold acF;omega)
 .refine YQ ?_
  show wpAny _ _ (ret aag) _ _ _;refine YQ (J _ ⟨h',tk,rfl,by rw[adw]at V;exact V,λb o e=>?_⟩);have a5:b<s.heap.objs.size:=Y_ e;refine kp b o (Zg a5) ?_ (YM _ (YM _ e));show b≠(s.heap.push (jh led)).objs.size;rw[aam];exact Zg (aa0 a5)
variable{Q:Value->Hq->Prop}
theorem Ia(z:A.handled=none)(N:ks.length=its.length)(I:∀(j:Nat)(k:Key)(v:Value),ks[j]? =some k->its[j]? =some v->RelV (kV k) v)(U:its.length+1<acF)(pl:s.heap.IsList l its.toArray)
  (h:∀s2,tR prog w s ks s2->Q (.ref s.heap.objs.size) s2):wpAny 1.16 A (call (.type "set") [.ref l]) Q E s:=by
 obtain⟨c,tl,a2⟩:=aaC.mro;have a1:=aaC.made;have V:=aaC.sub;refine aeW (codeAny_of_tree ?_);show wpAny _ _ (callAny (.type "set") _) _ _ _;refine YQ ⟨aft _ (by decide +kernel),aaH afF ?_⟩;rw[afu (aeO "set" [.ref l] []) rfl];have h1:=aaC.notType;have h2:=aaC.canCreate;have a3:=F.typeCall_set_1 (.ref l)
 show 1
 refine abD (code_set_new_1 (.ref l) (E:=E) (Q₁:=λobj J=>∃led:Bool,obj= .ref s.heap.objs.size/\J={s with heap:=s.heap.push (jh led)}) λled=>⟨led,rfl,rfl⟩) λr J O=>?_;cases r with
 |error e=>exact O
 |ok fl=>
  cases fl with
  |ret obj=>
   obtain⟨led,rfl,rfl⟩:=O;have D:(s.heap.push (jh led)).get? s.heap.objs.size=some (jh led):=Zm _ rfl;have hT:adO {s with heap:=s.heap.push (jh led)} (.ref s.heap.objs.size) "set":=⟨_,D,rfl⟩;have a4:=aaC.init.lookup;have a5:=aaC.init.bind (.ref s.heap.objs.size)
   show 1
   refine abD (abQ (R:=wants (λr Y=>r= .none/\tR prog w s ks Y) E) aaC.init.plain F.entry_set_init (check_set_init_1 hT ?_)) λa0 Y q=>?_
   .exact JM (led:=led) (by simp[z]) N I U pl λs2 B=>⟨rfl,B⟩
   .cases a0 with
    |error e=>exact q
    |ok Z=>
     cases Z with
     |ret r=>
      obtain⟨rfl,B⟩:=q
      show 1
      exact h _ B
     |_=>exact q.elim
  |_=>exact O.elim
theorem Hd{S it:Addr}(z:A.handled=none)(hl:ks.length=its.length)(I:∀(j:Nat)(k:Key)(v:Value),ks[j]? =some k->its[j]? =some v->RelV (kV k) v)(U:its.length+1<acF)(nS:S≠it)(nl:l≠it)(a6:l≠S):∀(m i:Nat)(acc:List Key)(s:Hq),its.length-i=m->i<=its.length->s.heap.IsTuple l its.toArray->s.heap.IsTupleIter it l i->s.heap.SetOf (aY prog w) S (inK acc) acc.length->acc.length<=i->
  (∀h' tk,(∀b o,b≠S->b≠it->s.heap.get? b=some o->h'.get? b=some o)->h'.SetOf (aY prog w) S (inK ((ks.drop i).foldl mK acc)) ((ks.drop i).foldl mK acc).length->R (.ok (.ret .none)) {s with heap:=h',toks:=tk})->
  abt 1.16 A (.builtin "set.update.loop" ⟨[.ref S,.ref it],[]⟩) R s:=by
 intro m
 induction m with
 |zero=>
  intro i acc s Z hi pl O D Y k;have e:i=its.length:=by omega
  subst e;refine aaH ab2 ?_;rw[aax aaZ _];unfold Builtin.«set.update.loop»;dsimp only;refine gD (aev (show A.in1.handled=none from z) O pl (by simp) λh' B=>?_);dsimp only;refine YQ (k h' _ (λb o _ V e=>B b o V e) ?_);rw[←hl,aa9];obtain⟨o,es,ep,t,N,rest⟩:=D;exact⟨o,es,ep,t,B S _ nS N,rest⟩
 |succ m ih=>
  intro i acc s Z hi pl O D Y k;have J:i<its.length:=by omega
  have a1:i<ks.length:=by omega
  refine aaH ab2 ?_;rw[aax aaZ _];unfold Builtin.«set.update.loop»;dsimp only;refine gD (aei O pl (x:=its[i]) (by simp[J]) λh1 a2 a0=>?_);dsimp only;have a7:h1.SetOf (aY prog w) S (inK acc) acc.length:=by
   obtain⟨o,es,ep,t,N,rest⟩:=D;exact⟨o,es,ep,t,(a0.2 S nS).trans N,rest⟩
  have rk:=I i ks[i] its[i] (Zc a1) (Zc J);refine gD (aaz ?_);unfold setAdd;refine aaz ?_;refine gD ((aY prog w).pyHash (k:=ks[i]) (lz rk) ?_);refine aeM (knd:=aY prog w) (lz rk) (BL (P:=prog) (w:=w) rk) a7 1.11 λh2 q a3=>?_;refine YQ ⟨ab4 aaZ _,?_⟩;have a5:h2.SetOf (aY prog w) S (inK (mK acc ks[i])) (mK acc ks[i]).length:=by
   have e1:(λk'=>inK acc k'||decide (k'=ks[i]))=inK (mK acc ks[i]):=funext λk'=>Gs.symm;rw[←e1,oW];exact a3
  refine ih (i+1) (mK acc ks[i]) _ 1.11 J ?_ ?_ a5 ?_ λh' tk kp a4=>k h' tk (λb o b1 V e=>kp b o b1 V ((q.2 b b1).trans ((a0.2 b V).trans e))) ?_
  .obtain⟨o,h1',h2'⟩:=pl
   exact⟨o,(q.2 l a6).trans ((a0.2 l nl).trans h1'),h2'⟩
  .exact a2.extBut q.extBut (ZV nS)
  .rw[oW]
   split<;>omega
  .rw[abR a1]
   exact a4
theorem Hi(z:A.handled=none)(Y:ks.length=its.length)(I:∀(j:Nat)(k:Key)(v:Value),ks[j]? =some k->its[j]? =some v->RelV (kV k) v)(U:its.length+1<acF)(pl:s.heap.IsTuple l its.toArray){R:afs->Hq->Prop}
  (J:∀O,tR prog w s ks O->R (.done (.ret .none)) O):wpAny 1.16 A (Builtin.«set.__init__» ⟨[.ref s.heap.objs.size,.ref l],[]⟩) R E {s with heap:=s.heap.push (jh led)}:=by
 obtain⟨ol,a2,N,nl,a4⟩:=pl;obtain⟨b1,a1,a7,a0⟩:=ol;simp only at N a4;subst N a4;have D:(s.heap.push (jh led)).get? s.heap.objs.size=some (jh led):=Zm _ rfl;have q:adO {s with heap:=s.heap.push (jh led)} (.ref s.heap.objs.size) "set":=⟨_,D,rfl⟩;have a6:(s.heap.push (jh led)).get? l=some {cls:=.type "tuple",dict:=a1,data:=.seq its.toArray nl,slots:=a0}:=YM _ a2;have b0:=F.sub_tuple_set;have a9:=F.sub_tuple_frozenset;have B:(abg "tuple"==abg "dict")=false:=by decide
 have Z:(s.heap.push (jh led)).IsTuple l its.toArray:=⟨_,a6,rfl,nl,rfl⟩;unfold Builtin.«set.__init__» noKeywords ady;generalize a8:ad5=PI
 wp_walk
 subst a8;refine adF Z ?_;refine gD (aeN ?_);have a3:l<s.heap.objs.size:=Y_ a2;refine Hd (prog:=prog) (w:=w) (its:=its) (ks:=ks) (A:=A) (S:=s.heap.objs.size) (l:=l) z Y I U ?_ ?_ (Zg a3) (its.length-0) 0 [] _ rfl (abf _) ?_ ?_ ?_ (YX _) λh' tk kp V=>?_
 .show s.heap.objs.size≠(s.heap.push (jh led)).objs.size
  rw[aam];exact Zg (aaW _)
 .show l≠(s.heap.push (jh led)).objs.size
  rw[aam];exact Zg (aa0 a3)
 .exact Z.push _
 .exact⟨_,Zm _ rfl,rfl,rfl⟩
 .have hget:((s.heap.push (jh led)).push {cls:=.type "tuple_iterator",data:=.fields #[.ref l,.int 0 0]}).get? s.heap.objs.size=some (jh led):=YM _ D
  letI:BEq Key:=instBEqOfDecidableEq
  haveI:LawfulBEq Key:=inferInstance
  have e0:(λ_:Key=>false)=inK []:=funext λ_=>rfl;rw[←e0];exact(adG (knd:=aY prog w) led).setOf hget (by unfold acF;omega)
 .refine YQ ?_
  show wpAny _ _ (ret aag) _ _ _;refine YQ (J _ ⟨h',tk,rfl,by rw[adw]at V;exact V,λb o e=>?_⟩);have a5:b<s.heap.objs.size:=Y_ e;refine kp b o (Zg a5) ?_ (YM _ (YM _ e));show b≠(s.heap.push (jh led)).objs.size;rw[aam];exact Zg (aa0 a5)
theorem Eb(z:A.handled=none)(N:ks.length=its.length)(I:∀(j:Nat)(k:Key)(v:Value),ks[j]? =some k->its[j]? =some v->RelV (kV k) v)(U:its.length+1<acF)(pl:s.heap.IsTuple l its.toArray)
  (h:∀s2,tR prog w s ks s2->Q (.ref s.heap.objs.size) s2):wpAny 1.16 A (call (.type "set") [.ref l]) Q E s:=by
 obtain⟨c,tl,a2⟩:=aaC.mro;have a1:=aaC.made;have V:=aaC.sub;refine aeW (codeAny_of_tree ?_);show wpAny _ _ (callAny (.type "set") _) _ _ _;refine YQ ⟨aft _ (by decide +kernel),aaH afF ?_⟩;rw[afu (aeO "set" [.ref l] []) rfl];have h1:=aaC.notType;have h2:=aaC.canCreate;have a3:=F.typeCall_set_1 (.ref l)
 show 1
 refine abD (code_set_new_1 (.ref l) (E:=E) (Q₁:=λobj J=>∃led:Bool,obj= .ref s.heap.objs.size/\J={s with heap:=s.heap.push (jh led)}) λled=>⟨led,rfl,rfl⟩) λr J O=>?_;cases r with
 |error e=>exact O
 |ok fl=>
  cases fl with
  |ret obj=>
   obtain⟨led,rfl,rfl⟩:=O;have D:(s.heap.push (jh led)).get? s.heap.objs.size=some (jh led):=Zm _ rfl;have hT:adO {s with heap:=s.heap.push (jh led)} (.ref s.heap.objs.size) "set":=⟨_,D,rfl⟩;have a4:=aaC.init.lookup;have a5:=aaC.init.bind (.ref s.heap.objs.size)
   show 1
   refine abD (abQ (R:=wants (λr Y=>r= .none/\tR prog w s ks Y) E) aaC.init.plain F.entry_set_init (check_set_init_1 hT ?_)) λa0 Y q=>?_
   .exact Hi (led:=led) (by simp[z]) N I U pl λs2 B=>⟨rfl,B⟩
   .cases a0 with
    |error e=>exact q
    |ok Z=>
     cases Z with
     |ret r=>
      obtain⟨rfl,B⟩:=q
      show 1
      exact h _ B
     |_=>exact q.elim
  |_=>exact O.elim
def Qo(K:YS)(t:TA):TE:=λσ H Q=>t σ H λvs H1=>∃a ks,vs=[.ref a]/\(SqL K H1 a (Zt kV ks)∨SqT K H1 a (Zt kV ks))/\abv ks<4000/\Q (.int (uV ks).length) H1
theorem BP(ks:List Key):(uV ks).length<=ks.length:=by
 have:∀(ks acc:List Key),(ks.foldl mK acc).length<=acc.length+ks.length:=by
  intro ks
  induction ks with
  |nil=>intro acc;simp
  |cons k r N=>
   intro acc;have h1:=N (mK acc k);have h2:(mK acc k).length<=acc.length+1:=by rw[oW];split<;>omega
   simp![afZ,Zq];omega
 have:=this ks [];rw[ZZ,ach]at this;exact this
variable{X:Cx}{t:TA}{p1 q1 q2:Pos}
theorem Jc(hg:Gl X "len")(hm:X.mg "len"=none)(a8:X.mg "set"=none)(Y:PA X [e] t)(a6:Gl X "set":=by rfl)(B:Zb [e] X.env=[(false,eval e X.env)]:=by rfl)(Z:X.calm=true:=by rfl) :
  PE X (.Call (.Name "len" p1) [.Call (.Name "set" p2) [e] [] q2] [] q1) (Qo X.K t):=by
 show 4;refine abE (qX I hg hm acb ?_);refine acU rfl (aeX ?_);show wpAny _ _ (spliced ((false,eval (.Call (.Name "set" p2) [e] [] q2) X.env)::aaA q1 (Zb [] X.env))) _ _ s;refine afo ?_;refine abE (qX I a6 a8 boot_set ?_);refine abC (thn (Y q2 pins s σ H _ I h) λus F ⟨vs,H1,I1,J,a5⟩=>?_) B rfl;obtain⟨a,ks,ev,D,hz,q⟩:=a5;subst ev;obtain⟨u,rfl,ru⟩:=vals1 J;cases ru;have hh:X.A.handled=none:=I1.ok.hd Z;rcases D with D|D
 .obtain⟨its,rv,pl,hz2⟩:=I1.list D
  have z:=rv.length;rw[Ze]at z;refine Ia (its:=its) (ks:=ks) hh z (λj k v e1 e2=>?_) (by show its.length+1<4096;omega) pl.isList λO a2=>?_
  .have:(Zt kV ks)[j]? =some (kV k):=by rw[List.getElem?_map,e1];rfl
   obtain⟨w',h1,h2⟩:=rv.get this;rw[e2]at h1;cases h1;exact h2
  .refine adT ?_
   obtain⟨h',tk,rfl,hS,a1⟩:=a2;have I2:Inv X pins σ H1 {F with heap:=h',toks:=tk}:=I1.kept (t':=tk) a1;obtain⟨o,es,ep,tb,N,a0,hd,a4,a3,U,V,hn⟩:=hS;have a7:=BP ks;refine call_len_set N a0 hd V (by rw[hn];omega) ?_;rw[hn];exact⟨.int (uV ks).length,H1,I2.tok _,⟨_,rfl⟩,q⟩
 .obtain⟨its,rv,pl,hz2⟩:=I1.tuple D
  have z:=rv.length;rw[Ze]at z;refine Eb (its:=its) (ks:=ks) hh z (λj k v e1 e2=>?_) (by show its.length+1<4096;omega) pl λO a2=>?_
  .have:(Zt kV ks)[j]? =some (kV k):=by rw[List.getElem?_map,e1];rfl
   obtain⟨w',h1,h2⟩:=rv.get this;rw[e2]at h1;cases h1;exact h2
  .refine adT ?_
   obtain⟨h',tk,rfl,hS,a1⟩:=a2;have I2:Inv X pins σ H1 {F with heap:=h',toks:=tk}:=I1.kept (t':=tk) a1;obtain⟨o,es,ep,tb,N,a0,hd,a4,a3,U,V,hn⟩:=hS;have a7:=BP ks;refine call_len_set N a0 hd V (by rw[hn];omega) ?_;rw[hn];exact⟨.int (uV ks).length,H1,I2.tok _,⟨_,rfl⟩,q⟩
variable{bs:List Bool}
theorem range_all:((Z_ bs.length).all λi=>bs.getD i true)=bs.all id:=by
 induction bs with
 |nil=>rfl
 |cons b r N=>
  rw[Zq,aez,acp,List.all_map,acp,←N];rfl
variable{v:Value}
theorem XQ(B:Vals (bs.map V.bl) its){i:Nat}(h:its.toArray[i]? =some v):v= .bool (bs.getD i true):=by
 have h:its[i]? =some v:=by simpa using h
 have Y:=B.length;rw[Ze]at Y;have hi:i<bs.length:=by rw[Y];exact(List.getElem?_eq_some_iff.mp h).1
 obtain⟨u,h1,h2⟩:=B.get (show(bs.map V.bl)[i]? =some (V.bl bs[i])by rw[List.getElem?_map,Zc hi];rfl);rw[h]at h1;cases h1;cases h2;simp[List.getD,hi]
theorem xX{xs:List V}(I:Inv X pins σ H s)(pl:s.heap.IsList a its.toArray) :
  a≠s.heap.objs.size:=by
 obtain⟨o,h,_⟩:=pl;exact Zg (Y_ h)
theorem G_(Z:X.calm=true):gA X (.builtin "all") (λxs H Q=>∃a bs,xs=[.ref a]/\SqL X.K H a (Zt V.bl bs)/\Q (.bl (List.all bs id)) H):=by
 show 5;obtain⟨a,bs,rfl,D,q⟩:=h;obtain⟨u,rfl,ru⟩:=vals1 r;cases ru;obtain⟨its,B,pl,hz⟩:=I.list D;have z:X.A.handled=none:=I.ok.hd Z;have J:a≠s.heap.objs.size:=xX (xs:=[]) I pl.isList;have Y:=B.length;rw[Ze]at Y;refine call_all_walk (acd pl.isList ⟨s.heap.objs.size,[s.heap.objs.size,a],[s.heap.objs.size],its.toArray.size,_,_,λi=>bs.getD i true,rfl,Walks.list (show X.A.in1.handled=none from z) s.heap.objs.size a J its.toArray,⟨⟨_,Zm _ rfl,rfl,rfl⟩,pl.isList.push _⟩,λi v O N F hP U=>?_,λh' tk kp=>?_⟩)
 .rw[XQ B hP]
  exact abN U
 .rw[List.size_toArray,←Y,range_all]
  exact⟨.bl _,H,I.kept (t':=tk) λb o e=>kp b o (by simp;exact Zg (Y_ e)) (YM _ e),rfl,q⟩
theorem int_at{ns:List Int}(B:Vals (ns.map V.int) its){i:Nat}(h:its.toArray[i]? =some v):∃t,v= .int (ns.getD i 0) t:=by
 have h:its[i]? =some v:=by simpa using h
 have Y:=B.length;rw[Ze]at Y;have hi:i<ns.length:=by rw[Y];exact(List.getElem?_eq_some_iff.mp h).1
 obtain⟨u,h1,h2⟩:=B.get (show(ns.map V.int)[i]? =some (V.int ns[i])by rw[List.getElem?_map,Zc hi];rfl);rw[h]at h1;cases h1;obtain⟨t,rfl⟩:=h2;exact⟨t,by simp[List.getD,hi]⟩
theorem Ho(Z:X.calm=true):gA X (.builtin "sum") (λxs H Q=>∃a ns,xs=[.ref a]/\SqL X.K H a (Zt V.int ns)/\Q (.int (List.sum ns)) H):=by
 show 5;obtain⟨a,ns,rfl,D,q⟩:=h;obtain⟨u,rfl,ru⟩:=vals1 r;cases ru;obtain⟨its,B,pl,O⟩:=I.list D;have hh:X.A.handled=none:=I.ok.hd Z;have J:a≠s.heap.objs.size:=xX (xs:=[]) I pl.isList;have Y:=B.length;rw[Ze]at Y;have W:=(Walks.list (prog:=X.prog) (w:=X.w) (show X.A.in1.handled=none from hh) s.heap.objs.size a J its.toArray).toS;refine call_sum_walkAnyS (acd pl.isList ⟨s.heap.objs.size,[s.heap.objs.size,a],[s.heap.objs.size],_,its.toArray.size,_,_,λi=>ns.getD i 0,rfl,W,⟨⟨_,Zm _ rfl,rfl,rfl⟩,pl.isList.push _⟩,λb U=>?_,λi v hP=>int_at B hP,λs' t' mv=>?_⟩)
 .have h1:a<s.heap.objs.size:=let⟨_,h,_⟩:=pl.isList;Y_ h
  show b<(s.heap.push _).objs.size;rw[aam];simp at U;rcases U with z|z
  .rw[z];exact aaW _
  .rw[z];exact aa0 h1
 .rw[List.size_toArray,←Y,preSum_getD,ac3]
  obtain⟨h',g',d',a0,F⟩:=s';have eg:g'=s.gens:=mv.gens;have N:d'=s.drawn:=mv.drawn;have eo:F=s.os:=mv.os;subst eg N eo;exact⟨.int _,H,I.kept (t':=a0) λb o e=>mv.heap b o (by simp;exact Zg (Y_ e)) (YM _ e),⟨_,rfl⟩,q⟩
def uG:D->D->Option D
 |.lst _ ds,.int i=>if i= -1 then some (.lst .own ds.reverse)else none
 |.tup ds,.int i=>if i= -1 then some (.tup ds.reverse)else if i=1 then some (.tup ds)else none
 |_,_=>none
def j8:List D->Option (List Key)
 |[]=>some []
 |d::r=>(dh d).bind λk=>(j8 r).map λt=>k::t
theorem tU:∀{ds:List D}{ks:List Key}{xs:List V}{L:List Addr},j8 ds=some ks->aH G H W ds xs L->xs=ks.map kV
 |[],ks,xs,L,h,r=>by cases h;exact r.inv0.1
 |d::t,ks,xs,L,h,r=>by
  obtain⟨x,ys,M,M',rfl,rfl,h1,h2⟩:=r.inv;cases e1:dh d with
  |none=>simp[j8,e1]at h
  |some k=>
   cases e2:j8 t with
   |none=>simp[j8,e1,e2]at h
   |some w=>
    obtain rfl:k::w=ks:=by simpa[j8,e1,e2]using h
    rw[tU e2 h2,jn h1 e1];rfl
def pY:List D->Option D
 |[.lst _ ds]=>if ds.length<4000 then(j8 ds).map λks=>.int (uV ks).length else none
 |[.tup ds]=>if ds.length<4000 then(j8 ds).map λks=>.int (uV ks).length else none
 |_=>none
theorem tO:∀{ds:List D}{ks:List Key},j8 ds=some ks->ks.length=ds.length
 |[],ks,h=>by cases h;rfl
 |d::t,ks,h=>by
  cases e1:dh d with
  |none=>simp[j8,e1]at h
  |some k=>
   cases e2:j8 t with
   |none=>simp[j8,e1,e2]at h
   |some w=>
    obtain rfl:k::w=ks:=by simpa[j8,e1,e2]using h
    simp[tO e2]
theorem Ep:CaV G (λvs H Q=>∃a ks,vs=[.ref a]/\(SqL G.K H a (Zt kV ks)∨SqT G.K H a (Zt kV ks))/\abv ks<4000/\Q (.int (uV ks).length) H) pY:=λds d e xs H W J r nd hn w Q q=>by
 unfold pY at e;split at e
 .split at e
  .rename_i m ds hl
   cases h1:j8 ds with
   |none=>simp[h1]at e
   |some ks=>
    obtain rfl:D.int (uV ks).length=d:=by simpa[h1]using e
    show 3;obtain⟨a,ys,M,rfl,O,B⟩:=rx;have:=tU h1 O;subst this;exact⟨a,ks,rfl,.inl B.sq,by rw[tO h1];exact hl,q.scal λ_=>cX⟩
  .cases e
 .split at e
  .rename_i ds hl
   cases h1:j8 ds with
   |none=>simp[h1]at e
   |some ks=>
    obtain rfl:D.int (uV ks).length=d:=by simpa[h1]using e
    show 3;obtain⟨a,ys,rfl,U,O⟩:=rx;have:=tU h1 O;subst this;exact⟨a,ks,rfl,.inr (SqT.of U),by rw[tO h1];exact hl,q.scal λ_=>cX⟩
  .cases e
 .cases e
variable{X:ι->Cx}
theorem Jd{f:En->Option (List D)}(I:∀c,Gl (X c) "len")(J:∀c,(X c).mg "len"=none)(z:∀c,(X c).mg "set"=none)(Y:PVA X G ob [e] f)(q:∀c,Gl (X c) "set":=by intro _;rfl)(B:∀c,Zb [e] (X c).env=[(false,eval e (X c).env)]:=by intro _;rfl)(Z:∀c,(X c).calm=true:=by intro _;rfl)(F:∀c,(X c).K=G.K:=by intro _;rfl) :
 PV X G ob (.Call (.Name "len" p1) [.Call (.Name "set" p2) [e] [] q2] [] q1) (eAp pY f):=let⟨t,a1,a2⟩:=Y.ex;⟨_,λc=>(by rw[←F c];exact Jc (I c) (J c) (z c) (a1 c) (q c) (B c) (Z c)),ur Ep a2⟩
def Lq:List D->Option (List Bool)
 |[]=>some []
 |.bl b::r=>(Lq r).map λt=>b::t
 |_::_=>none
theorem BR:∀{ds:List D}{bs:List Bool}{xs:List V}{L:List Addr},Lq ds=some bs->aH G H W ds xs L->xs=bs.map V.bl
 |[],ks,xs,L,h,r=>by cases h;exact r.inv0.1
 |d::t,ks,xs,L,h,r=>by
  obtain⟨x,ys,M,M',rfl,rfl,h1,h2⟩:=r.inv;cases d<;>simp[Lq]at h;obtain⟨w,B,rfl⟩:=h;rw[Rep]at h1;rw[BR B h2,h1.1];rfl
def wU:List D->Option (List Int)
 |[]=>some []
 |.int b::r=>(wU r).map λt=>b::t
 |_::_=>none
theorem ym:∀{ds:List D}{bs:List Int}{xs:List V}{L:List Addr},wU ds=some bs->aH G H W ds xs L->xs=bs.map V.int
 |[],ks,xs,L,h,r=>by cases h;exact r.inv0.1
 |d::t,ks,xs,L,h,r=>by
  obtain⟨x,ys,M,M',rfl,rfl,h1,h2⟩:=r.inv;cases d<;>simp[wU]at h;obtain⟨w,B,rfl⟩:=h;rw[Rep]at h1;rw[ym B h2,h1.1];rfl
def Tq:List D->Option D
 |[.lst _ ds]=>(Lq ds).map λbs=>.bl (bs.all id)
 |_=>none
def zz:List D->Option D
 |[.lst _ ds]=>(wU ds).map λns=>.int ns.sum
 |_=>none
theorem Rx(Z:∀c,(X c).calm=true)(F:∀c,(X c).K=G.K:=by intro _;rfl):CaB X G (.builtin "all") Tq:=⟨λxs H Q=>∃a bs,xs=[.ref a]/\SqL G.K H a (Zt V.bl bs)/\Q (.bl (List.all bs id)) H,λc=>by rw[←F c];exact G_ (Z c),λds d e xs H W J r nd hn w Q q=>by
 unfold Tq at e;split at e
 .rename_i m ds
  cases h1:Lq ds with
  |none=>simp[h1]at e
  |some ks=>
   obtain rfl:D.bl (ks.all id)=d:=by simpa[h1]using e
   show 3;obtain⟨a,ys,M,rfl,O,B⟩:=rx;have:=BR h1 O;subst this;exact⟨a,ks,rfl,B.sq,q.scal λ_=>iC⟩
 .cases e⟩
theorem zF(Z:∀c,(X c).calm=true)(F:∀c,(X c).K=G.K:=by intro _;rfl):CaB X G (.builtin "sum") zz:=⟨λxs H Q=>∃a ns,xs=[.ref a]/\SqL G.K H a (Zt V.int ns)/\Q (.int (List.sum ns)) H,λc=>by rw[←F c];exact Ho (Z c),λds d e xs H W J r nd hn w Q q=>by
 unfold zz at e;split at e
 .rename_i m ds
  cases h1:wU ds with
  |none=>simp[h1]at e
  |some ks=>
   obtain rfl:D.int ks.sum=d:=by simpa[h1]using e
   show 3;obtain⟨a,ys,M,rfl,O,B⟩:=rx;have:=ym h1 O;subst this;exact⟨a,ks,rfl,B.sq,q.scal λ_=>cX⟩
 .cases e⟩
def uO(g:Int->Int->Int)(i:Nat)(f:En->Option D):En->Option Fl:=λρ=>match ρ[i]? with
 |some (some (.int m))=>(f ρ).bind λd=>match d with
  |.int n=>some (.nx (ρ.set i (some (.int (g m n)))))
  |_=>none
 |_=>none
def n6(f:En->Option (List D×En)):En->Option (List D×En):=λρ=>(f ρ).bind λp=>match p.1 with
 |[.int j]=>if -(2 ^ 62)<=j/\j<2 ^ 62 then some (qi 0 j.toNat,p.2)else none
 |_=>none
def n_(it:En->Option (List D×En))(tg:D->En->Option En)(V:En->Option Fl):En->Option Fl:=λρ=>(it ρ).bind λp=>forL tg V p.1 p.2
def XF(own:Nat->Bool)(cap:List (Option Nat)):Bool:=(Z_ cap.length).all λi=>!own i||(match cap[i]? with
 |some none=>true
 |_=>false)
theorem iQ{own:Nat->Bool}{cap:List (Option Nat)}(h:XF own cap=true):∀i:Nat,own i=true->cap[i]?≠none->cap[i]? =some none:=λi N hn=>by
 have hi:i<cap.length:=by
  by_cases z:i<cap.length
  .exact z
  .exact absurd (ada 1.11) hn
 have:=aed.mp h i (aa_.mpr hi);rw[N]at this;simp![Bool.not_true,Bool.false_or]at this;split at this
 .assumption
 .cases this
def QQ(cap:List (Option Nat)):Bool:=(Z_ cap.length).all λi=>(Z_ cap.length).all λk=>match cap[i]?,cap[k]? with
 |some (some a),some (some b)=>!(a==b)||i==k
 |_,_=>true
theorem Ro{cap:List (Option Nat)}(h:QQ cap=true):qZ cap:=λi k j h1 h2=>by
 have hi:i<cap.length:=(List.getElem?_eq_some_iff.mp h1).1;have I:k<cap.length:=(List.getElem?_eq_some_iff.mp h2).1;have:=aed.mp (aed.mp h i (aa_.mpr hi)) k (aa_.mpr I);rw[h1,h2]at this;simpa using this
def Wp(o:Option α)(Q:α->Prop):Prop:=∃a,o=some a/\Q a
variable{a:α}{Q:α->Prop}
theorem aN:Wp (some a) Q↔Q a:=⟨λ⟨b,e,q⟩=>by cases e;exact q,λq=>⟨a,rfl,q⟩⟩
theorem iU:Wp (none:Option α) Q↔False:=⟨λ⟨b,e,q⟩=>(by cases e),λz=>z.elim⟩
variable{o:Option α}{R:β->Prop}
theorem aZ{f:α->Option β}:Wp (o.bind f) R↔Wp o λa=>Wp (f a) R:=by
 cases o with
 |none=>simp[iU]
 |some a=>simp[aN]
variable{f:α->β}
theorem fB:Wp (o.map f) R↔Wp o λa=>R (f a):=by
 cases o with
 |none=>simp[iU]
 |some a=>simp[aN]
theorem w_ite{c:Prop}[Decidable c]{a b:Option α}:Wp (if c then a else b) Q↔(if c then Wp a Q else Wp b Q):=by
 split<;>exact Iff.rfl
theorem Wp.mono{O:α->Prop}(h:Wp o Q)(k:∀a,Q a->O a):Wp o O:=let⟨a,e,q⟩:=h;⟨a,e,k a q⟩
theorem Wp.eq(h:Wp o λx=>x=a):o=some a:=let⟨b,e,q⟩:=h;by rw[e,q]
theorem GC(h:o=some a)(q:Q a):Wp o Q:=⟨a,h,q⟩
variable{Q:Fl->Prop}
theorem lX{f g:En->Option Fl}:Wp (bf f g ρ) Q↔Wp (f ρ) λr=>match r with
 |.nx I=>Wp (g I) Q
 |.ret d I=>Q (.ret d I)
 |.brk I=>Q (.brk I)
 |.cnt I=>Q (.cnt I):=by
 unfold bf;cases f ρ with
 |none=>simp[iU]
 |some r=>cases r<;>simp[aN]
theorem R6{V:En->Option Fl}(I:Nat->En->Prop):∀{items:List D}{ρ:En}{k:Nat},I k ρ->
  (∀(i:Nat)(d:D)(ρ:En),items[i]? =some d->I (k+i) ρ->Wp (tg d ρ) λρ1=>Wp (V ρ1) λr=>match r with
   |.nx ρ2=>I (k+i+1) ρ2
   |.cnt ρ2=>I (k+i+1) ρ2
   |.brk ρ2=>Q (.nx ρ2)
   |.ret d ρ2=>Q (.ret d ρ2))->
  (∀ρ,I (k+items.length) ρ->Q (.nx ρ))->Wp (forL tg V items ρ) Q
 |[],ρ,k,h0,_,h=>by rw[forL];exact aN.mpr (h ρ h0)
 |d::r,ρ,k,h0,hs,h=>by
  rw[forL];obtain⟨ρ1,e1,w⟩:=hs 0 d ρ rfl h0;obtain⟨fl,e2,w⟩:=w;rw[e1,YK,e2];have N:∀{ρ2:En},I (k+1) ρ2->Wp (forL tg V r ρ2) Q:=λq=>R6 I q (λi d ρ hi q=>by
   have:=hs (i+1) d ρ (by simpa using hi) (by rw[show k+(i+1)=k+1+i by omega];exact q);rw[show k+(i+1)+1=k+1+i+1 by omega]at this;exact this) λρ q=>h ρ (by rw[Zq,show k+(r.length+1)=k+1+r.length by omega];exact q)
  cases fl with
  |nx ρ2=>exact N w
  |cnt ρ2=>exact N w
  |brk ρ2=>exact aN.mpr w
  |ret d ρ2=>exact aN.mpr w
variable{c:En->Option Bool}
theorem By{tg:D->En->Option En}{c:En->Option Bool}{e:En->Option D}{ρ0:En}{p:D->Bool}{f:D->D}:∀{items:List D},(∀d∈items,Wp (tg d ρ0) λρ1=>c ρ1=some (p d)/\(p d=true->e ρ1=some (f d)))->gh tg c e ρ0 items=some ((items.filter p).map f)
 |[],_=>rfl
 |d::r,h=>by
  obtain⟨ρ1,e1,h1,h2⟩:=h d (by simp);have N:=By (tg:=tg) (c:=c) (e:=e) (ρ0:=ρ0) (p:=p) (f:=f) (items:=r) λx J=>h x (by simp[J]);rw[gh];cases F:p d with
  |false=>simp[e1,h1,F,N]
  |true=>simp[e1,h1,F,h2 F,N]
variable{e:En->Option (D×En)}{Q:List D×En->Prop}
theorem Fz{cap:List (Option Nat)}(I:Nat->List D->En->Prop):∀{items:List D}{ρ:En}{k:Nat}{acc:List D},I k acc ρ->
  (∀(i:Nat)(d:D)(acc:List D)(ρ:En),items[i]? =some d->I (k+i) acc ρ->Wp (tg d (gF cap ρ)) λρ1=>Wp (c ρ1) λb=>if b=true then Wp (e ρ1) λp=>clean p.1=true/\I (k+i+1) (acc++[p.1]) (e_ cap p.2 ρ)else I (k+i+1) acc ρ)->
  (∀ys ρ,I (k+items.length) ys ρ->Q (ys,ρ))->Wp (lL cap tg c e items ρ) λt=>Q (acc++t.1,t.2)
 |[],ρ,k,acc,h0,_,h=>by rw[lL];exact aN.mpr (by rw[Zu];exact h acc ρ h0)
 |d::r,ρ,k,acc,h0,hs,h=>by
  rw[lL];obtain⟨ρ1,e1,b,e2,w⟩:=hs 0 d acc ρ rfl h0;rw[e1,YK,e2,YK];have N:∀{ρ2:En}{acc:List D},I (k+1) acc ρ2->Wp (lL cap tg c e r ρ2) λt=>Q (acc++t.1,t.2):=λq=>Fz I q (λi d acc ρ hi q=>by
   have:=hs (i+1) d acc ρ (by simpa using hi) (by rw[show k+(i+1)=k+1+i by omega];exact q);rw[show k+(i+1)+1=k+1+i+1 by omega]at this;exact this) λys ρ q=>h ys ρ (by rw[Zq,show k+(r.length+1)=k+1+r.length by omega];exact q)
  cases b with
  |false=>
   simp![ZG,aao]at w⊢;exact N w
  |true=>
   simp![Zz]at w⊢;obtain⟨p,V,Z,q⟩:=w;rw[V,YK,Zd Z];rw[fB];refine(N q).mono λt U=>?_;simpa using U
theorem bW(l:List Str):az (l.map D.str)=true:=bV λd hd=>by obtain⟨x,_,rfl⟩:=Zf.mp hd;rfl
theorem bN(l:List Str):aB (l.map D.str)=true:=bQ λd hd=>by obtain⟨x,_,rfl⟩:=Zf.mp hd;rfl
theorem bH(b:Bool)(l:List Str):cU b (l.map D.str)=l.map D.str:=by rw[dG,Zj];rfl
theorem eQ(l:List Str):fzL (l.map D.str)=l.map D.str:=by rw[jP,Zj];rfl
theorem ir(l:List Str):g_ (l.map D.str)=l.map D.str:=by rw[jV,Zj];rfl
variable{l:List α}
theorem yU{α β:Type}{f:α->β}{l:List α}(Z:0<=i)(h1:i<l.length):∃x,x∈l/\l[i.toNat]? =some x/\atI (l.map f) i=some (f x):=by
 have:i.toNat<l.length:=by omega
 refine⟨l[i.toNat],abZ _,by simp[this],?_⟩;unfold atI ixN;rw[Zd Z,Zd (by simpa using h1)];simp[this]
theorem filter_tt(l:List α):l.filter (λ_=>true)=l:=by simp
theorem Qd{i:Nat}(h:(qi 0 n)[i]? =some d):i<n/\d= .int (i:Int):=by
 have hi:i<n:=by have:=(List.getElem?_eq_some_iff.mp h).1;simpa[qi]using this
 refine⟨hi,?_⟩;unfold qi at h;rw[List.getElem?_map,afb hi]at h;simpa using h.symm
theorem O9(h:k∈ks):∃j,cZ ks k=some j/\j<ks.length:=by
 cases e:cZ ks k with
 |none=>exact absurd h (vV e)
 |some j=>exact⟨j,rfl,pM e⟩
theorem J7(h:ks.length=ds.length):(h_ ks ds k d).1.length=(h_ ks ds k d).2.length/\∀x,x∈(h_ ks ds k d).1↔x∈ks∨x=k:=by
 unfold h_;cases e:cZ ks k with
 |none=>exact⟨by simp[h],λx=>by simp⟩
 |some j=>
  refine⟨by simpa using h,λx=>⟨.inl,λz=>z.elim id λz=>?_⟩⟩;obtain⟨Y,I,_⟩:=ZM.mp e;have:ks[j]=k:=by simpa using I
  rw[z,←this];exact abZ _
theorem v5:∀{es:List (Key×D)}{ks:List Key}{ds:List D},ks.length=ds.length->(eU ks ds es).1.length=(eU ks ds es).2.length/\∀x,x∈(eU ks ds es).1↔x∈ks∨∃p∈es,p.1=x
 |[],ks,ds,h=>⟨h,λx=>by simp[eU]⟩
 |p::r,ks,ds,h=>by
  obtain⟨h1,h2⟩:=J7 (k:=p.1) (d:=p.2) h;obtain⟨B,U⟩:=v5 (es:=r) h1;rw[eU];refine⟨B,λx=>?_⟩;rw[U,h2];constructor
  .rintro((z|z)|⟨q,hq,z⟩)
   .exact .inl z
   .exact .inr ⟨p,by simp,z.symm⟩
   .exact .inr ⟨q,by simp[hq],z⟩
  .rintro(z|⟨q,hq,z⟩)
   .exact .inl (.inl z)
   .rcases Za.mp hq with y|y
    .subst y;exact .inl (.inr z.symm)
    .exact .inr ⟨q,y,z⟩
def Dn(ns:List Str)(d:D):Prop:=∃ks ds,d= .dct .own ks ds/\(∀e∈ds,∃i:Int,e= .int i)/\∀x∈ns,∃(j:Nat)(i:Int),cZ ks (.inr x)=some j/\ds[j]? =some (.int i)
def pD(p:Str×Int):D:=.tup [.str p.1,.int p.2]
theorem yN:∀ps:List (Str×Int),B_ (ps.map pD)=some (ps.map λp=>(Zx p.1,.int p.2))
 |[]=>rfl
 |p::r=>by simp[B_,pD,dh,yN r]
theorem Rv{ps:List (Str×Int)}(Y:ps.length<=50000):Wp (oG [.lst .own (ps.map pD)]) λd=>Dn (ps.map (·.1)) d/\clean d=true:=by
 simp![oG];rw[Zd ⟨rfl,by simpa using Y⟩,yN];refine aN.mpr ?_;have hok:=v5 (es:=ps.map λp=>((Zx p.1:Key),D.int p.2)) (ks:=[]) (ds:=[]) rfl;have U:=o5 (λd=>∃i:Int,d= .int i) (es:=ps.map λp=>((Zx p.1:Key),D.int p.2)) (ks:=[]) (ds:=[]) (by simp) (λq z=>by obtain⟨p,_,rfl⟩:=Zf.mp z;exact⟨p.2,rfl⟩);refine⟨⟨_,_,rfl,U,λx J=>?_⟩,Hc (bV λd hd=>by obtain⟨i,rfl⟩:=U d hd;rfl) (bQ λd hd=>by obtain⟨i,rfl⟩:=U d hd;rfl)⟩;obtain⟨p,F,rfl⟩:=Zf.mp J;obtain⟨j,h1,h2⟩:=O9 ((hok.2 (Zx p.1)).mpr (.inr ⟨_,Zf.mpr ⟨p,F,rfl⟩,rfl⟩));have V:j<(eU [] [] (ps.map λp=>((Zx p.1:Key),D.int p.2))).2.length:=by rw[←hok.1];exact h2
 obtain⟨i,hi⟩:=U _ (abZ V);exact⟨j,i,h1,by rw[Zc V,hi]⟩
abbrev Jt:=Str×Str×Int
def jD(j:Jt):D:=.tup [.str j.1,.str j.2.1,.int j.2.2]
theorem nO(l:List Jt):az (l.map jD)=true:=bV λd hd=>by obtain⟨x,_,rfl⟩:=Zf.mp hd;rfl
theorem nW(l:List Jt):aB (l.map jD)=true:=bQ λd hd=>by obtain⟨x,_,rfl⟩:=Zf.mp hd;rfl
theorem uz(b:Bool)(l:List Jt):cU b (l.map jD)=l.map jD:=by rw[dG,Zj];rfl
theorem sI(l:List Jt):fzL (l.map jD)=l.map jD:=by rw[jP,Zj];rfl
theorem wQ(l:List Jt):g_ (l.map jD)=l.map jD:=by rw[jV,Zj];rfl
theorem GR:∀l:List Jt,rW (l.map jD)=true
 |[]=>rfl
 |j::r=>by simp[rW,jD,xH,GR r]
theorem yo:∀l:List Str,rW (l.map D.str)=true
 |[]=>rfl
 |j::r=>by simp[rW,xH,yo r]
theorem zy{l:List Jt}:gNe (.lst m (l.map jD)) (.lst .own [])=some (.bl (!l.isEmpty)):=by
 unfold gNe;have h1:=GR l;rw[Zd ⟨by simpa[xH]using h1,rfl,.lst (by simp[dtL])⟩];cases l with
 |nil=>rfl
 |cons j r=>rfl
theorem eq_int{j:Int}:gEq (.int i) (.int j)=some (.bl (decide (i=j))):=by
 unfold gEq;rw[Zd ⟨rfl,rfl,.sc (.int i j)⟩];simp[dt,eqD];exact ab6.mpr (by simp)
variable{items:List D}
theorem Km{cap:List (Option Nat)}(I:Nat->List D->En->Prop)(Z:I 0 [] ρ)
  (B:∀(i:Nat)(d:D)(acc:List D)(ρ:En),items[i]? =some d->I i acc ρ->Wp (tg d (gF cap ρ)) λρ1=>Wp (c ρ1) λb=>if b=true then Wp (e ρ1) λp=>clean p.1=true/\I (i+1) (acc++[p.1]) (e_ cap p.2 ρ)else I (i+1) acc ρ)
  (h:∀ys ρ,I items.length ys ρ->Q (ys,ρ)):Wp (lL cap tg c e items ρ) Q:=by
 have:=Fz (cap:=cap) (tg:=tg) (c:=c) (e:=e) (Q:=Q) I (items:=items) (ρ:=ρ) (k:=0) (acc:=[]) Z (λi d acc ρ hi q=>by
  rw[ach]at q⊢;exact B i d acc ρ hi q) λys ρ q=>h ys ρ (by rw[ach]at q;exact q)
 simpa using this
variable{Q:Fl->Prop}
theorem oN{V:En->Option Fl}(I:Nat->En->Prop)(Z:I 0 ρ)
  (B:∀(i:Nat)(d:D)(ρ:En),items[i]? =some d->I i ρ->Wp (tg d ρ) λρ1=>Wp (V ρ1) λr=>match r with
   |.nx ρ2=>I (i+1) ρ2
   |.cnt ρ2=>I (i+1) ρ2
   |.brk ρ2=>Q (.nx ρ2)
   |.ret d ρ2=>Q (.ret d ρ2))
  (h:∀ρ,I items.length ρ->Q (.nx ρ)):Wp (forL tg V items ρ) Q:=
 R6 (k:=0) I Z (λi d ρ hi q=>by
  rw[ach]at q⊢;exact B i d ρ hi q) λρ q=>h ρ (by rw[ach]at q;exact q)
theorem aX{f g:En->Option Fl}(P:En->Prop)(h1:∀O:Fl->Prop,(∀I,P I->O (.nx I))->Wp (f ρ) O)(h2:∀I,P I->Wp (g I) Q):Wp (bf f g ρ) Q:=by
 rw[lX];exact h1 _ λI h=>h2 I h
theorem Rk(j:Jt):aD (jD j)=true:=rfl
theorem RB(j:Jt):aC (jD j)=true:=rfl
theorem O2(b:Bool)(j:Jt):view b (jD j)=jD j:=rfl
theorem Pz(j:Jt):fz (jD j)=jD j:=rfl
theorem QM(j:Jt):fzo (jD j)=jD j:=rfl
theorem Fo(j:Jt):gSl (jD j) none (some 2)=some (.tup [.str j.1,.str j.2.1]):=rfl
theorem za(m:Mk)(l:List Jt):fQ [.lst m (l.map jD)]=some (.int l.length):=by simp[fQ]
theorem len_strs(m:Mk)(l:List Str):fQ [.lst m (l.map D.str)]=some (.int l.length):=by simp[fQ]
theorem vh(l:List Jt):fQ [.tup (l.map jD)]=some (.int l.length):=by simp[fQ]
theorem pX(l:List Str):fQ [.tup (l.map D.str)]=some (.int l.length):=by simp[fQ]
theorem N_{l:List D}:gIx (.lst m l) (.int i)=atI l i:=rfl
theorem Ry{l:List D}:gIx (.tup l) (.int i)=atI l i:=rfl
open PySem PySem.W PyProof.Rows
def Tr(b:Nat->Nat->Bool)(n:Nat):KasT α->(α->Prop)->Prop
 |.ret a,Q=>Q a
 |.ask i j k,Q=>i<n/\j<n/\Tr b n (k (b i j)) Q
variable{b:Nat->Nat->Bool}
theorem Tr.bind{f:α->KasT β}{Q:β->Prop}:∀{t:KasT α},Tr b n t (λa=>Tr b n (f a) Q)->Tr b n (t.bind f) Q
 |.ret _,h=>h
 |.ask _ _ _,⟨h1,h2,h3⟩=>⟨h1,h2,Tr.bind h3⟩
theorem Tr.mono{Q O:α->Prop}(D:∀a,Q a->O a):∀{t:KasT α},Tr b n t Q->Tr b n t O
 |.ret _,h=>D _ h
 |.ask _ _ _,⟨h1,h2,h3⟩=>⟨h1,h2,Tr.mono D h3⟩
theorem Tr.wp{q:Nat->Nat->(Bool->Hq->Prop)->Hq->Prop}{Q:α->Prop}(Z:∀i j C,i<n->j<n->C (b i j) s->q i j C s):∀{t:KasT α},Tr b n t Q->t.kasWp q (λa s'=>s'=s/\Q a) s
 |.ret _,h=>⟨rfl,h⟩
 |.ask _ _ _,⟨h1,h2,h3⟩=>Z _ _ _ h1 h2 (Tr.wp Z h3)
def kh(n:Nat)(p:Array Nat):Prop:=aa2 p.toList (Z_ n)
variable{p:Array Nat}
theorem kh.size(h:kh n p):p.size=n:=by
 have:=List.Perm.length_eq h;simpa using this
theorem kh.lt(h:kh n p)(hn:0<n)(i:Nat):p.getD i 0<n:=by
 by_cases hi:i<p.size
 .have hm:p[i]∈p.toList:=by simp
  have:=aa_.mp (afG h |>.mp hm);simpa[Array.getD,hi]using this
 .simpa[Array.getD,hi]using hn
theorem kh.of{q:Array Nat}(h:kh n p)(F:Array.Perm q p):kh n q:=(Array.perm_iff_toList_perm.mp F).trans h
section
variable(ρ:Nat->Int)
def rk(p:Array Nat)(i:Nat):Int:=ρ (p.getD i 0)
def Up1(p:Array Nat)(k:Nat):Prop:=∀i j,i<=j->j<k->rk ρ p i<=rk ρ p j
def Dn1(p:Array Nat)(k:Nat):Prop:=∀i j,i<=j->j<k->rk ρ p j<=rk ρ p i
abbrev bk:Nat->Nat->Bool:=λi j=>decide (ρ i<ρ j)
end
section
variable{ρ:Nat->Int}{n:Nat}(hn:0<n)
theorem Aj{p q:Array Nat}{i j:Nat}(h:p[i]? =q[j]?):rk ρ p i=rk ρ q j:=by
 unfold rk;rw[abG,abG,h]
theorem Ei{p:Array Nat}{i j:Nat}(F:j<=p.size)(k:Nat):rk ρ (kas_rev p i j) k=if i<=k/\k<j then rk ρ p (i+j-1-k)else rk ρ p k:=by
 have e:=getElem?_mirror_all (xs:=p) (i:=i) F k;unfold kas_rev;split
 .rename_i h;rw[Zd h]at e;exact Aj e
 .rename_i h;rw[Zk h]at e;exact Aj e
theorem jT{p:Array Nat}{i j:Nat}(F:j<=p.size)(h:∀k,i<=k->k<j->rk ρ p k=rk ρ p (j-1))(k:Nat):rk ρ (kas_rev p i j) k=rk ρ p k:=by
 rw[Ei F];split
 .rw[h _ 1.11 1.11,h k 1.11 1.11]
 .rfl
include hn
theorem LR{p:Array Nat}(F:kh n p):∀(f a:Nat),1<=a->Up1 ρ p a->Tr (bk ρ) n (kas_asc p f a) λm=>a<=m/\m<=a+f/\Up1 ρ p m
 |0,a,_,h=>⟨YX _,YX _,h⟩
 |f+1,a,ha,h=>by
  refine⟨F.lt hn _,F.lt hn _,?_⟩;by_cases c:rk ρ p a<rk ρ p (a-1)
  .have e:bk ρ (p.getD a 0) (p.getD (a-1) 0)=true:=aap c
   rw[e];exact⟨YX _,by omega,h⟩
  .have e:bk ρ (p.getD a 0) (p.getD (a-1) 0)=false:=Zy c
   rw[e];refine Tr.mono (λm Z=>⟨by omega,by omega,Z.2.2⟩) (LR F f (a+1) 1.11 λi j D q=>?_);by_cases J:j<a
   .exact h i j D J
   .obtain rfl:j=a:=by omega
    by_cases hi:i=j
    .subst hi;exact aby _
    .exact adn (h i (j-1) 1.11 1.11) 1.11
def DsQ(ρ:Nat->Int)(n a f:Nat)(t:Array Nat×Nat×Nat):Prop:=kh n t.1/\a<=t.2.1/\t.2.1<=a+f/\Dn1 ρ t.1 t.2.1/\t.2.2+1<=t.2.1/\∀i,t.2.1-(t.2.2+1)<=i->i<t.2.1->rk ρ t.1 i=rk ρ t.1 (t.2.1-1)
theorem yV:∀(f:Nat)(p:Array Nat)(a q:Nat),kh n p->1<=a->a+f<=n->Dn1 ρ p a->q+1<=a->(∀i,a-(q+1)<=i->i<a->rk ρ p i=rk ρ p (a-1))->Tr (bk ρ) n (kas_desc f p a q) (DsQ ρ n a f)
 |0,p,a,q,hp,ha,_,h,hq,he=>⟨hp,YX _,YX _,h,hq,he⟩
 |f+1,p,a,q,hp,ha,hf,h,hq,he=>by
  have O:=hp.size;refine⟨hp.lt hn _,hp.lt hn _,?_⟩;by_cases c:rk ρ p a<rk ρ p (a-1)
  .have e:bk ρ (p.getD a 0) (p.getD (a-1) 0)=true:=aap c
   have V:∀z:Array Nat,kh n z->(∀k,rk ρ z k=rk ρ p k)->Tr (bk ρ) n (kas_desc f z (a+1) 0) (DsQ ρ n a (f+1)):=λz Y I=>by
    refine Tr.mono (λt U=>⟨U.1,by have:=U.2.1;omega,by have:=U.2.2.1;omega,U.2.2.2⟩) (yV f z (a+1) 0 Y 1.11 1.11 (λi j D F=>?_) 1.11 λi h1 h2=>by rw[show i=a+1-1 by omega]);rw[I,I];by_cases J:j<a
    .exact h i j D J
    .obtain rfl:j=a:=by omega
     by_cases hi:i=j
     .subst hi;exact aby _
     .exact adn 1.11 (h i (j-1) 1.11 1.11)
   rw[e];simp![Zz];by_cases N:q>0
   .rw[Zd N]
    exact V _ (hp.of (aeC _ _ _ _)) (jT 1.11 he)
   .rw[Zk N]
    exact V _ hp λ_=>rfl
  .have e:bk ρ (p.getD a 0) (p.getD (a-1) 0)=false:=Zy c
   rw[e];simp![ZG,aao];refine⟨hp.lt hn _,hp.lt hn _,?_⟩;by_cases Z:rk ρ p (a-1)<rk ρ p a
   .have e:bk ρ (p.getD (a-1) 0) (p.getD a 0)=true:=aap Z
    rw[e];exact⟨hp,YX _,by show a<=a+(f+1);omega,h,hq,he⟩
   .have e:bk ρ (p.getD (a-1) 0) (p.getD a 0)=false:=Zy Z
    have B:rk ρ p a=rk ρ p (a-1):=by omega
    rw[e];simp![ZG,aao];refine Tr.mono (λt U=>⟨U.1,by have:=U.2.1;omega,by have:=U.2.2.1;omega,U.2.2.2⟩) (yV f p (a+1) (q+1) hp 1.11 1.11 (λi j D F=>?_) 1.11 λi h1 h2=>?_)
    .by_cases J:j<a
     .exact h i j D J
     .obtain rfl:j=a:=by omega
      by_cases hi:i=j
      .subst hi;exact aby _
      .rw[B];exact h i (j-1) 1.11 1.11
    .rw[show a+1-1=a by omega]
     by_cases hi:i=a
     .rw[hi]
     .rw[B];exact he i 1.11 1.11
def CtQ(ρ:Nat->Int)(n q:Nat)(t:Nat×Array Nat):Prop:=kh n t.2/\1<=t.1/\t.1<=q/\Up1 ρ t.2 t.1
theorem Fd{p:Array Nat}{a q:Nat}(F:kh n p)(Y:1<=a)(I:a<=q)(z:q<=n)(h:Dn1 ρ p a):Tr (bk ρ) n (kas_tail3 a q p) (CtQ ρ n q):=by
 have O:=F.size;have V:kh n (kas_rev p 0 a):=F.of (aeC _ _ _ _);refine Tr.bind (Tr.mono (λm Z=>?_) (LR hn V (q-a) a Y λi j D B=>?_))
 .exact⟨V,by show 1<=m;omega,by show m<=q;omega,Z.2.2⟩
 .rw[Ei 1.11,Ei 1.11,Zd 1.11,Zd 1.11]
  exact h _ _ 1.11 1.11
theorem FP{p:Array Nat}{a q:Nat}(F:kh n p)(I:a+1<=q)(z:q<=n)(h:Dn1 ρ p (a+1)):Tr (bk ρ) n (kas_descPart a q p) (CtQ ρ n q):=by
 refine Tr.bind (Tr.mono (λt U=>?_) (yV hn (q-(a+1)) p (a+1) 0 F 1.11 1.11 h 1.11 λi h1 h2=>by rw[show i=a+1-1 by omega]));obtain⟨N,V,Y⟩:=t;obtain⟨h1,h2,B,h4,J,Z⟩:=U;have O:=h1.size;simp only at h1 h2 B h4 J Z O⊢;split
 .refine Fd hn (h1.of (aeC _ _ _ _)) 1.11 1.11 z λi j D hj=>?_
  rw[jT 1.11 Z,jT 1.11 Z];exact h4 i j D hj
 .exact Fd hn h1 1.11 1.11 z h4
theorem J3{p:Array Nat}{q:Nat}(F:kh n p)(h1:1<=q)(a4:q<=n):Tr (bk ρ) n (kas_count q p) (CtQ ρ n q):=by
 have O:=F.size;have h0:Up1 ρ p 1:=λi j D hj=>by rw[show i=j by omega];exact aby _
 have go:Tr (bk ρ) n (kas_asc p (q-1) 1) λm=>1<=m/\m<=q/\Up1 ρ p m/\(m=q∨rk ρ p m<rk ρ p (m-1)):=by
  have:∀(f a:Nat),1<=a->a+f=q->Up1 ρ p a->Tr (bk ρ) n (kas_asc p f a) λm=>1<=m/\m<=q/\Up1 ρ p m/\(m=q∨rk ρ p m<rk ρ p (m-1)):=by
   intro f
   induction f with
   |zero=>intro a Y V h;exact⟨Y,by omega,h,.inl 1.11⟩
   |succ f N=>
    intro a Y V h;refine⟨F.lt hn _,F.lt hn _,?_⟩;by_cases c:rk ρ p a<rk ρ p (a-1)
    .have e:bk ρ (p.getD a 0) (p.getD (a-1) 0)=true:=aap c
     rw[e];exact⟨Y,by omega,h,.inr c⟩
    .have e:bk ρ (p.getD a 0) (p.getD (a-1) 0)=false:=Zy c
     rw[e];refine N (a+1) 1.11 1.11 λi j D hj=>?_;by_cases a5:j<a
     .exact h i j D a5
     .obtain rfl:j=a:=by omega
      by_cases hi:i=j
      .subst hi;exact aby _
      .exact adn (h i (j-1) 1.11 1.11) 1.11
  exact this (q-1) 1 (YX _) 1.11 h0
 refine Tr.bind (Tr.mono (λm Z=>?_) go);obtain⟨m1,B,m3,m4⟩:=Z;by_cases a0:m=q
 .rw[Zd (by simpa using a0)]
  exact⟨F,m1,B,m3⟩
 .rw[Zk (by simpa using a0)]
  have J:=m4.resolve_left a0;by_cases a3:m>1
  .rw[Zd a3]
   refine⟨F.lt hn _,F.lt hn _,?_⟩;by_cases c:rk ρ p 0<rk ρ p (m-1)
   .have e:bk ρ (p.getD 0 0) (p.getD (m-1) 0)=true:=aap c
    rw[e];exact⟨F,m1,B,m3⟩
   .have e:bk ρ (p.getD 0 0) (p.getD (m-1) 0)=false:=Zy c
    rw[e];simp![ZG,aao];have U:∀k,0<=k->k<m->rk ρ p k=rk ρ p (m-1):=λk _ I=>by
     have a1:=m3 0 k 1.11 I;have z:=m3 k (m-1) 1.11 1.11;omega
    refine FP hn (F.of (aeC _ _ _ _)) 1.11 a4 λi j D hj=>?_;rw[jT 1.11 U,jT 1.11 U];by_cases a6:j<m
    .rw[U i 1.11 1.11,U j 1.11 a6];exact aby _
    .obtain rfl:j=m:=by omega
     by_cases hi:i=j
     .subst hi;exact aby _
     .rw[U i 1.11 1.11];omega
  .rw[Zk a3]
   obtain rfl:m=1:=by omega
   refine FP hn F 1.11 a4 λi j D hj=>?_;by_cases hi:i=j
   .subst hi;exact aby _
   .obtain rfl:i=0:=by omega
    obtain rfl:j=1:=by omega
    exact Int.le_of_lt J
theorem vy{p:Array Nat}{k:Nat}(F:kh n p)(h:Up1 ρ p k):∀(f l r:Nat),l<=r->r<=k->r-l<=f->(∀i,i<l->rk ρ p i<=rk ρ p k)->(∀i,r<=i->i<k->rk ρ p k<rk ρ p i)->
  Tr (bk ρ) n (kas_place p k f l r) λm=>m<=k/\(∀i,i<m->rk ρ p i<=rk ρ p k)/\∀i,m<=i->i<k->rk ρ p k<rk ρ p i
 |0,l,r,hlr,hrk,hf,h1,h2=>⟨by omega,h1,λi hi I=>h2 i 1.11 I⟩
 |f+1,l,r,hlr,hrk,hf,h1,h2=>by
  unfold kas_place;by_cases q:l>=r
  .rw[Zd q]
   exact⟨by omega,h1,λi hi I=>h2 i 1.11 I⟩
  .rw[Zk q]
   refine⟨F.lt hn _,F.lt hn _,?_⟩;by_cases c:rk ρ p k<rk ρ p ((l+r) / 2)
   .have e:bk ρ (p.getD k 0) (p.getD ((l+r) / 2) 0)=true:=aap c
    rw[e];exact vy F h f l _ 1.11 1.11 1.11 h1 λi hi I=>Int.lt_of_lt_of_le c (h _ i hi I)
   .have e:bk ρ (p.getD k 0) (p.getD ((l+r) / 2) 0)=false:=Zy c
    rw[e];exact vy F h f _ r 1.11 hrk 1.11 (λi hi=>adn (h i ((l+r) / 2) 1.11 1.11) 1.11) h2
theorem MJ:∀(f:Nat)(p:Array Nat)(k:Nat),kh n p->k+f<=n->Up1 ρ p k->Tr (bk ρ) n (kas_bin f p k) λq=>kh n q/\Up1 ρ q (k+f)
 |0,p,k,hp,_,h=>⟨hp,h⟩
 |f+1,p,k,hp,hf,h=>by
  have O:=hp.size;refine Tr.bind (Tr.mono (λl Y=>?_) (vy hn hp h k 0 k 1.11 1.11 1.11 (λi hi=>by omega) λi h1 h2=>by omega));obtain⟨B,J,z⟩:=Y;have U:∀i,rk ρ (bubble p k (k-l)) i=if i=l then rk ρ p k else if l<i/\i<=k then rk ρ p (i-1)else rk ρ p i:=λi=>by
   have e:=getElem?_bubble (xs:=p) (src:=k) 1.11 (k-l) 1.11 i;rw[show k-(k-l)=l by omega]at e;split
   .rename_i hi;rw[Zd hi]at e;exact Aj e
   .rename_i hi
    rw[Zk hi]at e;split
    .rename_i hi2;rw[Zd hi2]at e;exact Aj e
    .rename_i hi2;rw[Zk hi2]at e;exact Aj e
  refine Tr.mono (λq D=>⟨D.1,by rw[show k+(f+1)=k+1+f by omega];exact D.2⟩) (MJ f (bubble p k (k-l)) (k+1) (hp.of (bubble_perm _ _ _)) 1.11 λi j I F=>?_);rw[U,U]
  repeat' split
  all_goals first
   |exact aby _
   |(exfalso;omega)
   |exact Int.le_of_lt (z _ 1.11 1.11)
   |exact J _ 1.11
   |exact h _ _ 1.11 1.11
theorem Qv:Tr (bk ρ) n (kas_sort n) λp=>kh n p/\Up1 ρ p n:=by
 have F:kh n (afv (Z_ n)):=by unfold kh;exact af5 _
 refine Tr.bind (Tr.mono (λt U=>?_) (J3 hn F 1.11 (YX n)));obtain⟨h1,h2,B,z⟩:=U;split
 .refine Tr.mono (λq D=>⟨D.1,?_⟩) (MJ hn (n-max t.1 1) t.2 (max t.1 1) h1 1.11 (by rw[show max t.1 1=t.1 by omega];exact z))
  have:=D.2;rwa[show max t.1 1+(n-max t.1 1)=n by omega]at this
 .rename_i hlt
  exact⟨h1,by rw[show t.1=n by omega]at z;exact z⟩
end
open PySem PySem.W PyProof.Rows PySem.SeqAt
theorem lN:plainId "list.__eq__.loop"=true:=by decide +kernel
theorem uo:entryFor table "list.__eq__.loop"=some Builtin.«list.__eq__.loop»:=entryFor_of_fast (by kernel_rfl)
def ltS:List Str->List Str->Bool
 |[],[]=>false
 |[],_::_=>true
 |_::_,[]=>false
 |a::r,b::q=>if a=b then ltS r q else decide (a.cps.toList<b.cps.toList)
def StA(its:Array Value)(xs:List Str):Prop:=∀i:Nat,its[i]? =none/\xs[i]? =none∨∃x t,its[i]? =some (.str x t)/\xs[i]? =some x
theorem JZ{xs ys:List Str}{i:Nat}:ltS (xs.drop i) (ys.drop i)=match xs[i]?,ys[i]? with
  |none,none=>false
  |none,some _=>true
  |some _,none=>false
  |some a,some b=>if a=b then ltS (xs.drop (i+1)) (ys.drop (i+1))else decide (a.cps.toList<b.cps.toList):=by
 have d:∀zs:List Str,zs.drop i=match zs[i]? with|none=>[]|some a=>a::zs.drop (i+1):=λzs=>by
  by_cases h:i<zs.length
  .rw[abR h,Zc h]
  .rw[acV 1.11,ada 1.11]
 rw[d xs,d ys];cases xs[i]?<;>cases ys[i]?<;>rfl
theorem Jv(l b:Addr)(its q:Array Value)(n B:Nat)(D a1:Option Addr)(sl a2:Array (Option Value))(xs ys:List Str)(h1:StA its xs)(h2:StA q ys)(J:its.size=xs.length)(hy:q.size=ys.length)(k:Nat) :
  ∀i:Nat,xs.length-i=k->Meets (Builtin.«list.__eq__.loop» ⟨[.ref l,.ref b,acz i,acz 0],[]⟩)
   (λA R s=>s.heap.get? l=some {cls:=.type "list",dict:=D,data:=.seq its n,slots:=sl}/\s.heap.get? b=some {cls:=.type "list",dict:=a1,data:=.seq q B,slots:=a2}/\(i<=xs.length/\i<=ys.length)/\
    R (.ok (.ret (.bool (ltS (xs.drop i) (ys.drop i))))) s):=by
 induction k with
 |zero=>
  intro i I prog w A R s h;obtain⟨F,g,d,tk,os⟩:=s;obtain⟨Y,U,hi,h⟩:=h
  wp_walk using wpAny_loadPart' Y,wpAny_loadPart' U
  have e1:xs[i]? =none:=by simp;omega
  have e2:its[((i:Nat):Int).toNat]? =none:=by simp;omega
  rw[JZ,e1]at h;rw[e2]
  wp_walk using wpAny_loadPart' Y,wpAny_loadPart' U
  show R (.ok (.ret (.bool (decide (its.size<q.size))))) _;rw[J,hy];cases V:ys[i]? with
  |none=>
   rw[V]at h;have:ys.length<=i:=by simpa using V
   rw[show decide (xs.length<ys.length)=false by simp;omega];exact h
  |some y=>
   rw[V]at h;have:=(List.getElem?_eq_some_iff.mp V).1;rw[show decide (xs.length<ys.length)=true by simp;omega];exact h
 |succ k N=>
  intro i I prog w A R s h;obtain⟨F,g,d,tk,os⟩:=s;obtain⟨Y,U,hi,h⟩:=h
  wp_walk using wpAny_loadPart' Y,wpAny_loadPart' U
  have a4:i<xs.length:=by omega
  obtain⟨z,_⟩|⟨x,t,e1,e2⟩:=h1 i
  .simp at z;omega
  rw[JZ,e2]at h;have O:its[((i:Nat):Int).toNat]? =some (.str x t):=by simpa using e1
  obtain⟨V,e4⟩|⟨y,u,V,e4⟩:=h2 i
  .have f2:q[((i:Nat):Int).toNat]? =none:=by simpa using V
   rw[e4]at h;rw[O,f2]
   wp_walk using wpAny_loadPart' Y,wpAny_loadPart' U
   show R (.ok (.ret (.bool (decide (its.size<q.size))))) _;have:ys.length<=i:=by simpa using e4
   rw[show decide (its.size<q.size)=false by simp;omega];exact h
  .have f2:q[((i:Nat):Int).toNat]? =some (.str y u):=by simpa using V
   have Z:((i:Int)+1)=((i+1:Nat):Int):=by push_cast;rfl
   have a3:=(List.getElem?_eq_some_iff.mp e4).1;rw[e4]at h;rw[O,f2];refine gD (wpAny_eqBool_str ?_);by_cases a0:x=y
   .simp![a0,Zz]at h
    rw[show decide (x=y)=true from aap a0]
    wp_walk
    rw[Z];exact⟨ab4 lN _,aaH uo (by
     rw[aax lN _];exact N (i+1) 1.11 prog w A R _ ⟨Y,U,⟨by omega,by omega⟩,h⟩)⟩
   .simp![Zk a0]at h
    rw[show decide (x=y)=false from Zy a0]
    wp_walk using wpAny_loadPart' Y,wpAny_loadPart' U
    rw[O,f2];refine gD (lt_str ?_);exact YQ h
theorem Og(l b:Addr)(its q:Array Value)(n B:Nat)(D I:Option Addr)(sl O:Array (Option Value))(xs ys:List Str)(h1:StA its xs)(h2:StA q ys)(J:its.size=xs.length)(N:q.size=ys.length) :
  Meets (Builtin.«list.__lt__» ⟨[.ref l,.ref b],[]⟩)
   (λA R s=>s.heap.get? l=some {cls:=.type "list",dict:=D,data:=.seq its n,slots:=sl}/\s.heap.get? b=some {cls:=.type "list",dict:=I,data:=.seq q B,slots:=O}/\R (.ok (.ret (.bool (ltS xs ys)))) s):=by
 intro prog w A R s h;obtain⟨F,g,d,tk,os⟩:=s;obtain⟨Y,U,h⟩:=h;have z:=AutoSeq1.sub_list_list
 wp_walk using wpAny_loadPart' Y,wpAny_loadPart' U
 exact⟨ab4 lN _,aaH uo (by
  rw[aax lN _];exact Jv l b its q n B D I sl O xs ys h1 h2 J N _ 0 rfl prog w A R _ ⟨Y,U,⟨abf _,abf _⟩,by simpa using h⟩)⟩
variable{E:Value->Shared->Prop}{A:Around}{s:Shared}
theorem DN{l b:Addr}{its q:Array Value}{xs ys:List Str}{Q:Bool->Hq->Prop}(Y:s.heap.IsList l its)(U:s.heap.IsList b q)(h1:StA its xs)(h2:StA q ys)(J:its.size=xs.length)(hy:q.size=ys.length)(hu:A.units<cLine)
  (h:Q (ltS xs ys) s):wpAny 1.16 A (oneLt' true (.ref l) (.ref b)) Q E s:=by
 obtain⟨⟨cls,D,data,sl⟩,N,Z,n,hd⟩:=id Y;obtain⟨⟨a2,I,V,O⟩,a1,a0,B,z⟩:=id U;simp only at Z hd a0 z;subst Z hd a0 z;rw[oneLt'_eq];simp![Zz];refine gD (wpAny_cRoomFor hu ?_);refine gD (wpAny_callSpecialIfBound?_slot (T:="list") ⟨_,N,rfl⟩ F.slot_list_lt (adl F.slot_list_lt ⟨_,N,rfl⟩ F.entry_list_lt (F.args_list_lt_2 _ _) (Og l b its q n B D I sl O xs ys h1 h2 J hy) ⟨N,a1,?_⟩));exact abN h
variable{Q:Value->Hq->Prop}{κ:SortKind}
theorem Iz{vs:List Value}{ρ:Nat->Int}(b5:vs.length<64)
  (I:2<=vs.length->∀h':Heap,(∀b o,s.heap.get? b=some o->h'.get? b=some o)->∀(E':Value->Hq->Prop)(O:SortKind->Hq->Prop),O κ {s with heap:=h'}->wpAny 1.16 A.in1.in1 (keyKind' vs.toArray) O E' {s with heap:=h'})
  (b6:∀h':Heap,(∀b o,s.heap.get? b=some o->h'.get? b=some o)->∀i j,i<vs.length->j<vs.length->∀O:Bool->Hq->Prop,O (decide (ρ i<ρ j)) {s with heap:=h'}->wpAny 1.16 A.in1.in1 (keyLt' κ (vs.getD i aag) (vs.getD j aag)) O (λ_ _=>False) {s with heap:=h'})
  (h:∀p:Array Nat,kh vs.length p->Up1 ρ p vs.length->∀(h':Heap)(c:Nat),(∀b o,s.heap.get? b=some o->h'.get? b=some o)->h'.get? s.heap.objs.size=some (aeP "list" (afv (p.toList.map λi=>vs.getD i aag)) c)->Q (.ref s.heap.objs.size) {s with heap:=h'}) :
  wpAny 1.16 A.in1 (aeH vs >>=λl=>aaY [l] (call (.builtin "list.sort") [l] []) >>=λ_=>ret l) (λB s'=>∃v,B= .done (.ret v)/\Q v s') E s:=by
 have b4:vs.length<=YZ:=by rw[acr];omega
 refine gD (wpAny_newList ?_ (by rw[acr];omega))
 let a:=s.heap.objs.size
 let G2:Heap:=s.heap.push (aeP "list" vs.toArray 0)
 have z2:G2.objs.size=s.heap.objs.size+1:=size_push' _ _;have a7:G2.get? a=some (aeP "list" vs.toArray 0):=Zm _ rfl;show wpAny _ _ (aaY _ _ >>=_) _ _ {s with heap:=G2};refine gD (aaz (ad_ slot_list_sort ⟨_,a7,rfl⟩ entry_list_sort ?_ (args_list_sort _)));have b1:∀b o,s.heap.get? b=some o->G2.get? b=some o:=λb o q=>YM _ q
 let G3:Heap:=G2.update a (ab5 λ_=>#[])
 obtain⟨e1,b3⟩:∃e1,G3.get? a=some (aeP "list" #[] e1):=⟨_,get?_update_seq a7 λ_=>#[]⟩;have z3:G3.objs.size=s.heap.objs.size+1:=by show(G2.update _ _).objs.size=_;rw[afR,z2]
 let G5:Heap:=(G3.push (aeP "tuple" vs.toArray 0)).push (aeP "list" #[] 0)
 have b2:∀b o,G3.get? b=some o->G5.get? b=some o:=λb o q=>YM _ (YM _ q);have a0:∀b o,s.heap.get? b=some o->G5.get? b=some o:=λb o q=>by
  have U:b<s.heap.objs.size:=Y_ q;refine b2 b o ?_;show(G2.update _ _).get? b=_;rw[afc _ _ _ _ (Zg U)];exact b1 b o q
 have a9:G5.get? a=some (aeP "list" #[] e1):=b2 a _ b3;rw[list_sort_plain];refine gD (listItems_at a7 rfl ?_);refine gD (listUpdate_at a7 rfl ?_ (by rw[List.size_toArray];exact b4) (abf _));refine gD (seqEpoch_at b3 rfl ?_);refine gD (wpAny_newTuple ?_ (by show vs.length<=_;exact b4));refine gD (wpAny_newList ?_ (abf _));refine aaz ?_;show wpAny 1.16 A.in1.in1 _ _ _ {s with heap:=G5};dsimp only;have B:∀(Y:SortSt)(p:Array Nat),arrOf Y=p.map (kas_item (vs.toArray.zip vs.toArray))->failedOf Y=none->kh vs.length p->Up1 ρ p vs.length->
   wpAny 1.16 A.in1.in1 (do
    let a6:=(arrOf Y).map (·.2)
    let a5:=(←seqEpoch a)!=e1
    Builtin.List.listUpdate (.ref a) λ_=>a6
    if let some e:=failedOf Y then rule "list.sort.comparison-raised";throw e
    if a5 then rule "list.sort.modified";raiseError "ValueError" "list modified during sort"
    ret .none) (λB s'=>∃v,B= .done (.ret v)/\wpAny 1.16 A.in1 (ret (.ref a)) (λB s'=>∃v,B= .done (.ret v)/\Q v s') E s') E {s with heap:=G5}:=λY p b0 V F J=>by
  have a8:=kat_snds (vs:=vs) (ks:=vs) rfl b0;dsimp only;refine gD (seqEpoch_at a9 rfl ?_);have b8:p.size=vs.length:=F.size;refine gD (listUpdate_at a9 rfl ?_ (abf _) (by rw[a8];simp![List.size_toArray,Ze,aa3];omega));rw[V];simp![bne_self_eq_false,ZG,aao];refine YQ ⟨_,rfl,YQ ⟨_,rfl,?_⟩⟩;rw[a8];refine h p F J _ _ (λb o q=>?_) (get?_update_seq a9 _);rw[afc _ _ _ _ (Zg (Y_ q))];exact a0 b o q
 by_cases Z:vs.toArray.size<2
 .rw[Zd Z,Zd Z]
  rw[List.size_toArray]at Z;refine gD (YQ ?_);rw[StateT.run_pure];refine gD (YQ ?_);refine B _ (afv (Z_ vs.length)) ?_ rfl (af5 _) (λi j D hj=>by rw[show i=j by omega];exact aby _);have e:=kas_range (vs.toArray.zip vs.toArray);rw[show(vs.toArray.zip vs.toArray).size=vs.length by simp]at e;exact e.symm
 .rw[Zk Z,Zk Z]
  rw[List.size_toArray]at Z;refine gD (I 1.11 G5 a0 _ _ ?_);have b7:(kas_sort vs.length).kasWp (kas_ask prog w A.in1.in1 κ vs) (λp s'=>s'={s with heap:=G5}/\kh vs.length p/\Up1 ρ p vs.length) {s with heap:=G5}:=
   Tr.wp (λi j C hi hj hC=>b6 G5 a0 i j hi hj C hC) (Qv (ρ:=ρ) 1.11)
  refine gD (aaG (kat_run (Q:=λY s'=>∃p:Array Nat,arrOf Y=p.map (kas_item (vs.toArray.zip vs.toArray))/\failedOf Y=none/\s'={s with heap:=G5}/\kh vs.length p/\Up1 ρ p vs.length) (E:=E)
   rfl 1.11 b5 (λp' Y s' N z a3 a4=>⟨p',z,a3,a4⟩) b7) ?_ λ_ _ e=>e)
  rintro⟨⟨⟩,Y⟩ s' ⟨p,b0,V,rfl,F,J⟩;exact B Y p b0 V F J
theorem yc{x:Value}(Z:∀q (O:List Value->Hq->Prop),(∀vs F,wpAny 1.16 A.in1 (aeH vs >>=λl=>aaY [l] (call (.builtin "list.sort") [l] []) >>=λ_=>ret l) (λB s'=>∃v,B= .done (.ret v)/\Q v s') q F->O vs F)->wpAny 1.16 A.in1 (collect x) O q s) :
  wpAny 1.16 A (call (.builtin "sorted") [x]) Q E s:=by
 refine Calls.call_function_entry kind_sorted plain_sorted entry_sorted (args_sorted1 _) ?_;unfold Builtin.«sorted»;refine gD (m:=checkCount "sorted" 1 1 _) (YQ ?_);exact gD (Z _ _ λvs F h=>h)
theorem QT{a b:Str}(h1:¬a.cps.toList<b.cps.toList)(h2:¬b.cps.toList<a.cps.toList):a=b:=by
 have:=strKind.total a.cps.toList b.cps.toList (by simpa using h1) (by simpa using h2);cases a;cases b;congr;exact Array.toList_inj.mp this
theorem G6(a:Str):¬a.cps.toList<a.cps.toList:=List.lt_irrefl _
theorem qK:∀a:List Str,ltS a a=false
 |[]=>rfl
 |x::r=>by simp[ltS,qK r]
theorem tG:∀a b:List Str,ltS a b=false->ltS b a=false->a=b
 |[],[],_,_=>rfl
 |[],_::_,h,_=>by simp[ltS]at h
 |_::_,[],_,h=>by simp[ltS]at h
 |x::r,y::q,h1,h2=>by
  by_cases e:x=y
  .subst e
   simp![ltS,Zz]at h1 h2;rw[tG r q h1 h2]
  .simp![ltS,Zk e,Zk (ZV e),decide_eq_false_iff_not]at h1 h2
   exact absurd (QT h1 h2) e
theorem p7:∀a b c:List Str,ltS a b=true->ltS b c=true->ltS a c=true
 |[],[],_,h,_=>by simp[ltS]at h
 |_::_,[],_,h,_=>by simp[ltS]at h
 |[],_::_,[],_,h=>by simp[ltS]at h
 |[],_::_,_::_,_,_=>rfl
 |_::_,_::_,[],_,h=>by simp[ltS]at h
 |x::r,y::q,z::p,h1,h2=>by
  by_cases e:x=y
  .subst e
   simp![ltS,Zz]at h1;by_cases e2:x=z
   .subst e2
    simp![ltS,Zz]at h2⊢;exact p7 r q p h1 h2
   .simp![ltS,Zk e2]at h2⊢
    exact h2
  .simp![ltS,Zk e,aa1]at h1
   by_cases e2:y=z
   .subst e2
    simp![ltS,Zk e,aa1];exact h1
   .simp![ltS,Zk e2,aa1]at h2
    have B:=List.lt_trans h1 h2;have V:x≠z:=λD=>by subst D;exact G6 _ B
    simp![ltS,Zk V,aa1];exact B
theorem Fw{a b c:List Str}(h:ltS a c=true)(h2:ltS b c=false):ltS a b=true:=by
 cases e:ltS a b with
 |true=>rfl
 |false=>
  cases e2:ltS b a with
  |true=>rw[p7 b a c e2 h]at h2;cases h2
  |false=>rw[tG a b e e2,h2]at h;cases h
def below(ks:List (List Str))(a:List Str):Nat:=ks.countP λy=>ltS y a
theorem tQ{p q:α->Bool}:∀{l:List α},(∀x∈l,p x=true->q x=true)->l.countP p<=l.countP q
 |[],_=>by simp
 |x::r,h=>by
  have N:=tQ (l:=r) λy U=>h y (by simp[U]);rw[ac4,ac4];cases e:p x with
  |false=>simp;omega
  |true=>simp[h x (by simp) e,N]
variable{z:α}
theorem yw{p q:α->Bool}:∀{l:List α},(∀x∈l,p x=true->q x=true)->z∈l->q z=true->p z=false->l.countP p<l.countP q
 |[],_,h,_,_=>by cases h
 |x::r,h,O,hq,hp=>by
  rw[ac4,ac4];have B:=tQ (l:=r) λy U=>h y (by simp[U]);rcases Za.mp O with rfl|O
  .simp[hq,hp];omega
  .have ih:=yw (l:=r) (λy U=>h y (by simp[U])) O hq hp
   cases e:p x with
   |false=>simp;omega
   |true=>simp[h x (by simp) e];omega
variable{ks:List (List Str)}
theorem BW{a b:List Str}(Y:a∈ks):ltS a b=decide ((below ks a:Int)<below ks b):=by
 cases e:ltS a b with
 |true=>
  have:=yw (l:=ks) (p:=λy=>ltS y a) (q:=λy=>ltS y b) (λy _ U=>p7 y a b U e) Y e (qK a);exact(aap (by unfold below;omega)).symm
 |false=>
  have:=tQ (l:=ks) (p:=λy=>ltS y b) (q:=λy=>ltS y a) λy _ U=>Fw U e;exact(Zy (by unfold below;omega)).symm
def Rp(K:YS)(H:Hp)(ys:List V)(ks:List (List Str)):Prop:=ks.length=ys.length/\((∀(i:Nat)(k:List Str),ks[i]? =some k->∃x,k=[x]/\ys[i]? =some (.str x))∨∀(i:Nat)(k:List Str),ks[i]? =some k->∃b,ys[i]? =some (.ref b)/\SqL K H b (k.map V.str))
def Ef(K:YS)(A:aad):List V->Hp->VK->Prop:=λxs H Q=>∃a ys ks,xs=[.ref a]/\(SqL K H a ys∨SqT K H a ys)/\ys.length<64/\A.units+2<cLine/\Rp K H ys ks/\
 ∀p:List Nat,aa2 p (Z_ ys.length)->acq (λi j=>ltS (ks.getD j []) (ks.getD i [])=false) p->∀l,H l=none->Q (.ref l) (upd H l (.lst (p.map λi=>ys.getD i .non)))
theorem Bd(r:Vals ys us)(i:Nat):(ys[i]? =none/\us[i]? =none)∨∃y u,ys[i]? =some y/\us[i]? =some u/\RelV y u:=by
 cases e:ys[i]? with
 |none=>
  have:=r.length;exact .inl ⟨rfl,by rw[abe]at e⊢;omega⟩
 |some y=>
  obtain⟨u,h1,h2⟩:=r.get e;exact .inr ⟨y,u,rfl,h1,h2⟩
theorem Nr{xs:List Str}(r:Vals (xs.map V.str) us):StA us.toArray xs:=λi=>by
 rcases Bd r i with⟨h1,h2⟩|⟨y,u,h1,h2,B⟩
 .exact .inl ⟨by simpa using h2,by simpa using h1⟩
 .rw[List.getElem?_map]at h1
  cases e:xs[i]? with
  |none=>rw[e]at h1;cases h1
  |some x=>
   rw[e]at h1;cases h1;obtain⟨t,rfl⟩:=B;exact .inr ⟨x,t,by simpa using h2,rfl⟩
theorem vX(r:Vals ys us):∀p:List Nat,(∀i∈p,i<ys.length)->Vals (p.map λi=>ys.getD i .non) (p.map λi=>us.getD i aag)
 |[],_=>.nil
 |i::p,h=>by
  refine .cons ?_ (vX r p λj F=>h j (by simp[F]));rcases Bd r i with⟨h1,h2⟩|⟨y,u,h1,h2,B⟩
  .have:=h i (by simp)
   rw[abe]at h1;omega
  .show RelV (ys.getD i .non) (us.getD i aag)
   rw[aaR,aaR,h1,h2];exact B
theorem Pu(x y:Str):ltS [x] [y]=decide (x.cps.toList<y.cps.toList):=by
 by_cases z:x=y
 .subst z;simp[ltS,G6]
 .simp[ltS,z]
variable{X:Cx}{Q:VK}{E:Value->Hq->Prop}{s:Hq}
theorem sort_keys(I:Inv X pins σ H s)(B:Vals xs its)(Y:xs.length<64)(a7:ks.length=xs.length)
  (hk:2<=its.length->∀h':Heap,(∀b o,s.heap.get? b=some o->h'.get? b=some o)->∀(E':Value->Hq->Prop)(O:SortKind->Hq->Prop),O κ {s with heap:=h'}->wpAny 1.12 X.A.in1.in1 (keyKind' its.toArray) O E' {s with heap:=h'})
  (J:∀h':Heap,(∀b o,s.heap.get? b=some o->h'.get? b=some o)->∀i j,i<its.length->j<its.length->∀O:Bool->Hq->Prop,O (ltS (ks.getD i []) (ks.getD j [])) {s with heap:=h'}->wpAny 1.12 X.A.in1.in1 (keyLt' κ (its.getD i aag) (its.getD j aag)) O (λ_ _=>False) {s with heap:=h'})
  (q:∀p:List Nat,aa2 p (Z_ xs.length)->acq (λi j=>ltS (ks.getD j []) (ks.getD i [])=false) p->∀l,H l=none->Q (.ref l) (upd H l (.lst (p.map λi=>xs.getD i .non)))) :
  wpAny 1.12 X.A.in1 (aeH its >>=λl=>af_ [l] (call (.builtin "list.sort") [l] []) >>=λ_=>ret l) (λa4 s'=>∃v,a4= .done (.ret v)/\EP X pins σ Q v s') E s:=by
 have z:=B.length;have a6:64<=YZ:=by decide
 have Z:∀i,i<its.length->ks.getD i []∈ks:=λi hi=>by
  have:i<ks.length:=by omega
  rw[show ks.getD i []=ks[i]by simp[this]];exact abZ _
 refine Iz (κ:=κ) (ρ:=λi=>(below ks (ks.getD i []):Int)) 1.11 hk (λh' ext i j hi hj O U=>J h' ext i j hi hj O (by rw[BW (Z i hi)];exact U)) λp F a2 h' c a1 N=>?_;have a0:∀i∈p.toList,i<its.length:=λi hi=>aa_.mp (afG F |>.mp hi);have a8:=F.size;refine⟨.ref s.heap.objs.size,upd H s.heap.objs.size (.lst (p.toList.map λi=>xs.getD i V.non)),I.laid (t':=s.toks) a1 (YX _) ?_,rfl,q p.toList (by rw[z];exact F) ?_ _ (I.hok.fresh (YX _))⟩
 .exact⟨by rw[Ze];simp![aa3];omega,p.toList.map λi=>its.getD i aag,c,vX B p.toList λi hi=>by have:=a0 i hi;omega,N⟩
 .rw[List.pairwise_iff_getElem]
  intro i j hi hj D;have a3:j<p.size:=by simpa using hj
  have a5:i<p.size:=by simpa using hi
  have:=a2 i j 1.11 1.11;unfold rk at this;rw[abG,abG,getElem?_pos p i a5,getElem?_pos p j a3,afT,afT]at this;rw[ae4,ae4,BW (Z p[j] (a0 _ (by simp)))];exact Zy (by simp only at this;omega)
theorem Ao(I:Inv X pins σ H s)(B:Vals ys its)(Y:ys.length<64)(J:X.A.units+2<cLine)(hK:Rp X.K H ys ks)
  (q:∀p:List Nat,aa2 p (Z_ ys.length)->acq (λi j=>ltS (ks.getD j []) (ks.getD i [])=false) p->∀l,H l=none->Q (.ref l) (upd H l (.lst (p.map λi=>ys.getD i .non)))) :
  wpAny 1.12 X.A.in1 (aeH its >>=λl=>af_ [l] (call (.builtin "list.sort") [l] []) >>=λ_=>ret l) (λa8 s'=>∃v,a8= .done (.ret v)/\EP X pins σ Q v s') E s:=by
 obtain⟨a5,a0⟩:=hK;have a9:=B.length;have a4:∀i,i<its.length->∃k,ks[i]? =some k/\ks.getD i []=k:=λi hi=>by
  have:i<ks.length:=by omega
  exact⟨ks[i],by simp[this],by simp[this]⟩
 rcases a0 with a0|a0
 .refine sort_keys (κ:=oneType') I B Y a5 (λh2 h' ext E' Q' a3=>afU (T:=.type "str") 1.11 (λv hv=>?_) rfl rfl a3) (λh' ext i j hi F Q' a3=>?_) q
  .obtain⟨i,hi,rfl⟩:=afd hv
   obtain⟨k,e1,_⟩:=a4 i hi;obtain⟨x,_,e3⟩:=a0 i k e1;obtain⟨u,h1,t,h2⟩:=B.get e3;rw[Zc hi]at h1;rw[aah h1,h2];exact PySem.W.Looks.of_pure rfl
  .obtain⟨k1,e1,g1⟩:=a4 i hi
   obtain⟨D,e2,O⟩:=a4 j F;obtain⟨x,rfl,x3⟩:=a0 i k1 e1;obtain⟨y,rfl,y3⟩:=a0 j D e2;obtain⟨u1,a1,t1,rfl⟩:=B.get x3;obtain⟨u2,a2,t2,rfl⟩:=B.get y3;rw[aaR,aaR,a1,a2];refine oneLt_str ?_;rwa[g1,O,Pu]at a3
 .refine sort_keys (κ:=oneType') I B Y a5 (λh2 h' ext E' Q' a3=>afU (T:=.type "list") 1.11 (λv hv=>?_) rfl rfl a3) (λh' ext i j hi F Q' a3=>?_) q
  .obtain⟨i,hi,rfl⟩:=afd hv
   obtain⟨k,e1,_⟩:=a4 i hi;obtain⟨b,e3,U⟩:=a0 i k e1;obtain⟨u,h1,h2⟩:=B.get e3;rw[Zc hi]at h1;cases h1;obtain⟨b0,_,pb,_⟩:=I.list U;obtain⟨o,N,Z,_⟩:=pb.isList;rw[show its[i]=ZD b from h2,←Z];exact(PySem.W.Looks.ld (ext _ _ N)).andThen .now
  .obtain⟨k1,e1,g1⟩:=a4 i hi
   obtain⟨D,e2,O⟩:=a4 j F;obtain⟨b1,x3,x4⟩:=a0 i k1 e1;obtain⟨b2,y3,y4⟩:=a0 j D e2;obtain⟨u1,a1,t1⟩:=B.get x3;obtain⟨u2,a2,t2⟩:=B.get y3;obtain⟨a6,r1,p1,_⟩:=I.list x4;obtain⟨a7,r2,p2,_⟩:=I.list y4;rw[aaR,aaR,a1,a2];rw[show u1=ZD b1 from t1,show u2=ZD b2 from t2];have x1:Heap.IsList h' b1 a6.toArray:=by obtain⟨o,N,z⟩:=p1.isList;exact⟨o,ext _ _ N,z⟩
   have x2:Heap.IsList h' b2 a7.toArray:=by obtain⟨o,N,z⟩:=p2.isList;exact⟨o,ext _ _ N,z⟩
   have l1:=r1.length;have l2:=r2.length;rw[Ze]at l1 l2;refine DN (xs:=k1) (ys:=D) x1 x2 (Nr r1) (Nr r2) (by rw[List.size_toArray];omega) (by rw[List.size_toArray];omega) (by show X.A.units+1+1<cLine;omega) ?_;rwa[g1,O]at a3
theorem yL:gA X (.builtin "sorted") (Ef X.K X.A):=by
 show 5;obtain⟨a,ys,ks,rfl,D,Y,J,F,q⟩:=h;obtain⟨u,rfl,ru⟩:=vals1 r;cases ru;have V:∀{c:String}{its:List Value},c="list"∨c="tuple"->Vals ys its->(∃o:Obj,s.heap.get? a=some o/\o.cls= .type c/\∃n,o.data= .seq its.toArray n)->wpAny 1.12 X.A (call (.builtin "sorted") [.ref a]) (EP X pins σ Q) X.xe s:=λ{c its} Z B ⟨o,N,a0,n,hd⟩=>by
  have z:its.toArray.size<=YZ:=by
   have h1:=B.length;have h2:64<=YZ:=by decide
   simp;omega
  refine yc λE' O U=>wpAny_collect_seq a Z N a0 hd (λh' hk=>?_) z;rw[List.toList_toArray];exact U _ _ (Ao (I.kept (t':=s.toks) hk) B Y J F q)
 rcases D with D|D
 .obtain⟨its,B,pl,hz⟩:=I.list D
  exact V (.inl rfl) B pl.isList
 .obtain⟨its,B,pt,hz⟩:=I.tuple D
  exact V (.inr rfl) B pt
def inL(k:List Str):List (List Str)->List (List Str)
 |[]=>[k]
 |a::r=>if ltS a k=true then a::inL k r else k::a::r
def zr(l:List (List Str)):List (List Str):=l.foldr inL []
abbrev RiL(l:List (List Str)):Prop:=acq (λa b=>ltS b a=false) l
theorem v_(k:List Str):∀l,aa2 (inL k l) (k::l)
 |[]=>.refl _
 |a::r=>by
  unfold inL;split
  .exact((v_ k r).cons a).trans (.swap k a r)
  .exact .refl _
theorem sZ:∀l,aa2 (zr l) l
 |[]=>.refl _
 |a::r=>(v_ a _).trans ((sZ r).cons a)
theorem Jw{k:List Str}:∀{l},RiL l->RiL (inL k l)
 |[],_=>by simp[inL]
 |a::r,h=>by
  obtain⟨h1,h2⟩:=ab7.mp h;unfold inL;split
  .rename_i c
   refine ab7.mpr ⟨λb U=>?_,Jw h2⟩;rcases Za.mp ((v_ k r).mem_iff.mp U)with rfl|U
   .cases e:ltS b a with
    |false=>rfl
    |true=>have:=p7 _ _ _ c e;rw[qK]at this;cases this
   .exact h1 b U
  .rename_i c
   have c:ltS a k=false:=by simpa using c
   refine ab7.mpr ⟨λb U=>?_,h⟩;rcases Za.mp U with rfl|U
   .exact c
   .cases e:ltS b k with
    |false=>rfl
    |true=>
     have:=Fw e c;rw[h1 b U]at this;cases this
theorem Fb:∀l,RiL (zr l)
 |[]=>.nil
 |a::r=>Jw (Fb r)
theorem Gm:∀{l m:List (List Str)},aa2 l m->RiL l->RiL m->l=m
 |[],m,h,_,_=>h.nil_eq
 |a::r,[],h,_,_=>by have:=h.length_eq;simp at this
 |a::r,b::q,h,h1,h2=>by
  obtain⟨x1,B⟩:=ab7.mp h1;obtain⟨D,F⟩:=ab7.mp h2;have e:a=b:=by
   rcases Za.mp (h.mem_iff.mp (ZW (a:=a) (l:=r)))with z|z
   .exact z
   .rcases Za.mp (h.mem_iff.mpr (ZW (a:=b) (l:=q)))with w|w
    .exact w.symm
    .exact tG a b (D a z) (x1 b w)
  subst e;rw[Gm (List.Perm.cons_inv h) B F]
def strsOf:List D->Option (List Str)
 |[]=>some []
 |.str x::r=>(strsOf r).map λt=>x::t
 |_=>none
def C_:List D->Option (List (List Str))
 |[]=>some []
 |.str x::r=>(C_ r).map λt=>[x]::t
 |_=>none
def lstK(m:Mk):List D->Option (List (List Str))
 |[]=>some []
 |.lst m' es::r=>if m'=m then(strsOf es).bind λk=>(lstK m r).map λt=>k::t else none
 |_=>none
def fS(k:List Str):D:=.str (k.headD "")
def fL(m:Mk)(k:List Str):D:=.lst m (k.map D.str)
theorem yx:∀{ds:List D}{k:List Str},strsOf ds=some k->ds=k.map D.str
 |[],k,h=>by cases h;rfl
 |d::r,k,h=>by
  cases d<;>simp![strsOf]at h<;>try cases h
  cases e:strsOf r with
  |none=>rw[e]at h;cases h
  |some t=>rw[e]at h;cases h;rw[yx e];rfl
theorem Et:∀{ds:List D}{ks:List (List Str)},C_ ds=some ks->ds=ks.map fS/\∀k∈ks,∃x,k=[x]
 |[],k,h=>by cases h;exact⟨rfl,by simp⟩
 |d::r,k,h=>by
  cases d<;>simp![C_]at h<;>try cases h
  cases e:C_ r with
  |none=>rw[e]at h;cases h
  |some t=>
   rw[e]at h;cases h;obtain⟨h1,h2⟩:=Et e;exact⟨by rw[h1];rfl,λk I=>(Za.mp I).elim (λz=>⟨_,z⟩) (h2 k)⟩
theorem Gn{m:Mk}:∀{ds:List D}{ks:List (List Str)},lstK m ds=some ks->ds=ks.map (fL m)
 |[],k,h=>by cases h;rfl
 |d::r,k,h=>by
  cases d<;>simp![lstK]at h<;>try cases h
  split at h
  .rename_i hm
   subst hm;rename_i es;cases e1:strsOf es with
   |none=>rw[e1]at h;cases h
   |some B=>
    rw[e1]at h;cases e:lstK ‹_› r with
    |none=>simp[e]at h
    |some t=>
     have h:B::t=k:=by simpa[e]using h
     subst h;rw[Gn e,yx e1];rfl
  .cases h
def nF:List D->Option D
 |[.lst _ ds]=>if ds.length<64 then(match C_ ds with
  |some ks=>some (.lst .own ((zr ks).map fS))
  |none=>match ds with
   |.lst m _::_=>(lstK m ds).map λks=>.lst .own ((zr ks).map (fL m))
   |_=>none)else none
 |_=>none
theorem aH.perm{zs I:List (D×V)}(h:aa2 zs I):∀{M:List Addr},aH G H W (zs.map (·.1)) (zs.map (·.2)) M->∃M',aa2 M' M/\aH G H W (I.map (·.1)) (I.map (·.2)) M':=by
 induction h with
 |nil=>exact λ{M} r=>⟨M,.refl _,r⟩
 |cons x _ N=>
  intro M r;rw[YT,YT]at r;obtain⟨y,ys,A,B,e,rfl,J,Z⟩:=r.inv;cases e;obtain⟨Y,p,q⟩:=N Z;exact⟨A++Y,p.append_left A,.cons J q⟩
 |swap x y l=>
  intro M r;simp![YT]at r;obtain⟨v,vs,A,B,e,rfl,J,Z⟩:=r.inv;cases e;obtain⟨v,vs,C,E,e,rfl,q,F⟩:=Z.inv;cases e;refine⟨C++(A++E),?_,.cons q (.cons J F)⟩;rw[←aaT,←aaT];exact ade.append_right E
 |trans _ _ O a0=>
  intro M r;obtain⟨U,p1,J⟩:=O r;obtain⟨z,p2,Z⟩:=a0 J;exact⟨z,p2.trans p1,Z⟩
theorem qM(l:List α)(z:α):(Z_ l.length).map (λi=>l.getD i z)=l:=by
 apply List.ext_getElem
 .simp
 .intro i h1 h2
  simp[h2]
variable{p:List Nat}
theorem Kr{α:Type}{f:α->β}{l:List α}{z:α}{y:β}(h:∀i∈p,i<l.length):p.map (λi=>(l.map f).getD i y)=(p.map λi=>l.getD i z).map f:=by
 rw[Zj];refine aak λi hi=>?_;have:=h i hi;simp[this]
theorem wL{f:List Str->D}(r:aH G H W (ks.map f) ys M)(F:aa2 p (Z_ ys.length))(z:acq (λi j=>ltS (ks.getD j []) (ks.getD i [])=false) p):∃M',aa2 M' M/\aH G H W ((zr ks).map f) (p.map λi=>ys.getD i .non) M':=by
 have Y:=r.length;rw[Ze]at Y;have I:∀i∈p,i<ks.length:=λi hi=>by rw[Y];exact aa_.mp (F.mem_iff.mp hi)
 have e1:p.map (λi=>ks.getD i [])=zr ks:=by
  refine Gm ?_ (adW.mpr z) (Fb ks);have:aa2 (p.map λi=>ks.getD i []) ((Z_ ks.length).map λi=>ks.getD i []):=by rw[Y];exact F.map _
  rw[qM]at this;exact this.trans (sZ ks).symm
 let g:Nat->D×V:=λi=>((ks.map f).getD i .non,ys.getD i .non)
 have B:((Z_ ys.length).map g).map (·.1)=ks.map f:=by
  rw[Zj,←Y];have:=qM (ks.map f) D.non;rwa[Ze]at this
 have q:((Z_ ys.length).map g).map (·.2)=ys:=by rw[Zj];exact qM ys V.non
 obtain⟨M',p1,J⟩:=aH.perm (F.map g).symm (M:=M) (by rw[B,q];exact r);refine⟨M',p1,?_⟩;rw[Zj,Zj]at J;rw[←e1,←Kr (y:=D.non) I];exact J
theorem mZ{J:List Addr}{p:Addr}(O:aH G H W ds xs M)(s:∀a∈M,a∈J)(nd:M.Nodup)(hn:∀a∈J,W.tmp a)(F:H p=none)(q:Done G H W J (.lst .own ds) Q):Q (.ref p) (upd H p (.lst xs)):=by
 have B:Same H (upd H p (.lst xs)):=Same.new F;have I:p∉M:=λz=>by obtain⟨o,N,_⟩:=O.dom p z;rw[F]at N;cases N
 refine q (.ref p) _ (p::M) B ?_ (λa Y=>(Za.mp Y).elim (λz=>.inr (by rw[z];exact F)) λz=>.inl (s a z)) (Zv.mpr ⟨I,nd⟩);rw[Rep];exact⟨p,xs,M,rfl,O.up ⟨B,λb u U f=>⟨λz=>z.elim (λz=>(Za.mp z).elim (λz=>by rw[z,F]at U;cases U) λz=>f.1 (hn b (s b z)).1) λz=>f.1 z.1,f.2⟩,λ_ _ _ f=>f⟩,a_,rfl⟩
theorem Oe(r:aH G H W (ks.map fS) ys M)(J:∀k∈ks,∃x,k=[x]):Rp G.K H ys ks:=by
 refine⟨by have:=r.length;rwa[Ze]at this,.inl λi k e=>?_⟩;obtain⟨x,rfl⟩:=J k (Zo e);obtain⟨y,N,h1,h2,_⟩:=r.get (j:=i) (d:=fS [x]) (by rw[List.getElem?_map,e];rfl);exact⟨x,rfl,by rw[h1,(cB h2).1];rfl⟩
theorem Ag:∀{k:List Str}{xs:List V}{M:List Addr},aH G H W (k.map D.str) xs M->xs=k.map V.str
 |[],xs,M,r=>r.inv0.1
 |x::k,xs,M,r=>by
  obtain⟨y,ys,A,B,rfl,_,J,Z⟩:=r.inv;rw[(cB J).1,Ag Z];rfl
theorem Kc(r:aH G H W (ks.map (fL m)) ys M):Rp G.K H ys ks:=by
 refine⟨by have:=r.length;rwa[Ze]at this,.inr λi k e=>?_⟩;obtain⟨y,N,h1,h2,_⟩:=r.get (j:=i) (d:=fL m k) (by rw[List.getElem?_map,e];rfl);unfold fL at h2;rw[Rep]at h2;obtain⟨b,xs,q,rfl,B,U⟩:=h2;rw[Ag B]at U;exact⟨b,h1,U.sq⟩
theorem Dv{A:aad}(J:A.units+2<cLine):CaV G (Ef G.K A) nF:=λds d e xs H W Y r nd hn w Q q=>by
 unfold nF at e;split at e
 .split at e
  .rename_i hl
   show 3;obtain⟨a,ys,M,rfl,O,B⟩:=rx;have z:=O.length;split at e
   .rename_i ks hks
    cases e;obtain⟨h1,h2⟩:=Et hks;rw[h1]at O;refine⟨a,ys,ks,rfl,.inl B.sq,by omega,J,Oe O h2,λp F V l N=>?_⟩;obtain⟨M',p1,I⟩:=wL O F V;exact mZ I (λb U=>B.sub.subset (p1.mem_iff.mp U)) (p1.nodup_iff.mpr (B.sub.nodup nd)) hn N q
   .split at e
    .rename_i m es rr hks
     cases e2:lstK m (D.lst m es::rr)with
     |none=>rw[e2]at e;cases e
     |some ks=>
      rw[e2]at e;cases e;rw[Gn e2]at O;refine⟨a,ys,ks,rfl,.inl B.sq,by omega,J,Kc O,λp F V l N=>?_⟩;obtain⟨M',p1,I⟩:=wL O F V;exact mZ I (λb U=>B.sub.subset (p1.mem_iff.mp U)) (p1.nodup_iff.mpr (B.sub.nodup nd)) hn N q
    .cases e
  .cases e
 .cases e
variable{X:ι->Cx}
theorem CV(A:aad)(D:∀c,(X c).A=A)(J:A.units+2<cLine)(F:∀c,(X c).K=G.K:=by intro _;rfl):CaB X G (.builtin "sorted") nF:=⟨Ef G.K A,λc=>by rw[←F c,←D c];exact yL,Dv J⟩
def DW:List D->Option D
 |[]=>some (.dct .own [] [])
 |_=>none
theorem QB:CaV G (λxs H Q=>∀p,H p=none->Q (.ref p) (upd H p (.dK []))) DW:=λds d e xs H W J r nd hn w Q q=>by
 unfold DW at e;split at e
 .cases e
  intro p F;have B:Same H (upd H p (.dK [])):=Same.new F;refine q (.ref p) _ [p] B ?_ (λa Y=>.inr (by rw[ZJ.mp Y];exact F)) (Zv.mpr ⟨by simp,ZR⟩);rw[Rep];exact⟨p,[],[],rfl,⟨rfl,ZR⟩,.nil,a_,rfl⟩
 .cases e
theorem Eu:PV X G ob (.Dict [] [] pos) (eAp DW aK):=⟨_,λc=>Ng,ur QB wJ⟩
def uf:List Key->Option (List Str)
 |[]=>some []
 |.inr x::r=>(uf r).map (x::·)
 |_=>none
theorem CG:∀{ks:List Key}{ys:List Str},uf ks=some ys->ks=ys.map Zx
 |[],ys,h=>by cases h;rfl
 |.inr x::r,ys,h=>by
  simp![uf,aey]at h;obtain⟨t,h1,rfl⟩:=h;rw[CG h1];rfl
 |.inl _::r,ys,h=>by simp[uf]at h
def U5(ys:List Str):List Str:=(zr (ys.map λy=>[y])).map λk=>k.headD ""
theorem Bt:∀ys:List Str,aH G H W (ys.map D.str) (ys.map V.str) []
 |[]=>.nil
 |x::r=>aH.cons (M:=[]) (M':=[]) rn (Bt r)
def jG(tg:D->En->Option En)(c:En->Option Bool)(fk U:En->Option D)(ρ0:En):List D->Option (List (Key×D))
 |[]=>some []
 |d::r=>(tg d ρ0).bind λρ1=>(c ρ1).bind λb=>if b=true then((fk ρ1).bind dh).bind λk=>(U ρ1).bind λx=>(jG tg c fk U ρ0 r).map λt=>(k,x)::t else jG tg c fk U ρ0 r
def rA(es:List (Key×D)):Option D:=if(es.map (·.1)).Nodup then some (.dct .own (es.map (·.1)) (es.map (·.2)))else none
def m7(cap:List (Option Nat))(it:En->Option (Bool×List D))(tg:D->En->Option En)(c:En->Option Bool)(fk U:En->Option D):En->Option D:=λρ=>(it ρ).bind λp=>if p.2.length<=1000000 then(jG tg c fk U (gF cap ρ) p.2).bind rA else none
theorem F_{ks:List Key}(h:k∉ks):cZ ks k=none:=aaV.mpr λx J=>by
 have:x≠k:=λz=>h (z▸J);simpa using this
theorem Fy(e:dh d=some k)(r:Rep G H W d x L):x=kV k/\L=[]:=by
 cases d with
 |int i=>cases e;rw[Rep]at r;exact r
 |str i=>cases e;rw[Rep]at r;exact r
 |_=>cases e
section
variable{G:Gc}{ob own:Nat->Bool}
theorem Bo{cap:List (Option Nat)}{wi:TI}{g:TG}{tt:TT}{tk te:TE}{it:En->Option (Bool×List D)}{tg:D->En->Option En}{c:En->Option Bool}{fk e:En->Option D}(b3:∀i:Nat,own i=true->cap[i]?≠none->cap[i]? =some none)(hi:RfI G ob wi it)(hg:Ji G (obC cap ob) own g tg)(ht:RfT G (obC cap ob) tt c)(I:RfE G (obC cap ob) tk fk)(V:RfE G (obC cap ob) te e):RfE G ob (Dl cap wi g tt tk te) (m7 cap it tg c fk e):=λρ d ee σ H W rl w Q q=>by
 unfold m7 at ee;cases h1:it ρ with
 |none=>simp[h1]at ee
 |some p=>
  obtain⟨b,items⟩:=p;rw[h1]at ee;simp![YK]at ee;split at ee
  .rename_i hlen
   cases h2:jG tg c fk e (gF cap ρ) items with
   |none=>simp[h2]at ee
   |some a6=>
    rw[h2]at ee;simp![YK,rA]at ee;split at ee
    .rename_i hnd
     cases ee;refine hi ρ b items h1 σ H W rl w _ λJ H1 F wk=>?_;refine⟨λi m ys H2=>i+m=items.length/\ys.length<=i/\∃acc L rest,Same H1 H2/\Zt (·.1) ys=Zt (·.1) acc/\aH G H2 (W.add L) (Zt (·.2) acc) (Zt (·.2) ys) L/\(∀a∈L,H1 a=none)/\L.Nodup/\WOk H2 (W.add L)/\jG tg c fk e (gF cap ρ) (items.drop i)=some rest/\acc++rest=a6,⟨items.length,by omega,by simp,[],[],a6,Same.refl _,rfl,.nil,by simp,ZR,?_,h2,rfl⟩,?_⟩
     .rw[tH];exact w.up F
     rintro i m ys H2 ⟨c2,c4,acc,L,rest,s2,a4,ra,fa,na,wa,O,a0⟩;have a3:Up H1 H2 W (W.add L):=Up.add s2 fa
     .by_cases hil:i<items.length
      .have hdr:=(abx hil).symm
       rw[hdr,jG]at O;refine .inr ⟨wk.go i items[i] (by simp[hil]) H2 _ (LtB.up a3),by have:=six hlen;omega,λa5 H'=>(i+1)+(m-1)=items.length/\a5.length<=i+1/\∃acc L rest,Same H1 H'/\Zt (·.1) a5=Zt (·.1) acc/\aH G H' (W.add L) (Zt (·.2) acc) (Zt (·.2) a5) L/\(∀a∈L,H1 a=none)/\L.Nodup/\WOk H' (W.add L)/\jG tg c fk e (gF cap ρ) (items.drop (i+1))=some rest/\acc++rest=a6,λa5 H' h=>⟨m-1,by omega,h⟩,λx H3 hy=>?_⟩;obtain⟨s3,rx⟩:=wk.yld i items[i] (by simp[hil]) H2 _ (LtB.up a3) x H3 hy;cases B:tg items[i] (gF cap ρ)with
       |none=>simp[B]at O
       |some ρ1=>
        rw[B]at O;simp![YK]at O;have b8:Rel G H3 (W.add L) (obC cap ob) (gF cap ρ) (gR cap σ):=(rl.cap).up ((Up.same F).trans (a3.trans (Up.same s3)));have b2:=ra.up (Up.same s3 (W:=W.add L));have b1:WOk H3 (W.add L):=wa.up s3;refine hg items[i] _ ρ1 B x _ H3 (W.add L) rx b8 (by simp[gF,gR]) _ λσ2 b4 c7 k4=>⟨CP b3 k4,?_⟩;cases h4:c ρ1 with
        |none=>simp[h4]at O
        |some bb=>
         rw[h4]at O;simp![YK]at O;refine ht ρ1 bb h4 σ2 H3 (W.add L) b4 b1 _ λH4 s4=>?_;have b6:=b4.up (Up.same s4);have a9:=b1.up s4;cases bb with
         |false=>
          simp![ZG,aao]at O;exact wA ⟨by omega,by omega,acc,L,rest,((s2.trans s3).trans s4),a4,b2.up (Up.same s4),fa,na,a9,O,a0⟩
         |true=>
          simp![Zz]at O;cases h7:fk ρ1 with
          |none=>simp[h7]at O
          |some dk=>
          cases h8:dh dk with
          |none=>simp[h7,h8]at O
          |some k=>
          cases h5:e ρ1 with
          |none=>simp[h5,h7,h8]at O
          |some y=>
           cases h6:jG tg c fk e (gF cap ρ) (items.drop (i+1))with
           |none=>simp[h5,h6,h7,h8]at O
           |some a1=>
            obtain rfl:(k,y)::a1=rest:=by simpa[h5,h6,h7,h8]using O
            refine uc (I ρ1 dk h7 σ2 H4 (W.add L) b6 a9 _ λxk a8 c3 a2 b7 c5 c6=>?_);obtain⟨rfl,rfl⟩:=Fy h8 b7;refine⟨k,rfl,?_⟩;have c0:=b6.up (Up.same a2);have c1:=a9.up a2;have b0:Same H1 a8:=((s2.trans s3).trans s4).trans a2;have a7:=(b2.up (Up.same s4 (W:=W.add L))).up (Up.same a2 (W:=W.add L));refine V ρ1 y h5 σ2 a8 (W.add L) c0 c1 _ λv H5 M s5 Z fy ny=>?_;have fM:∀a∈M,H1 a=none:=λa Y=>b0.none' (fy a Y);have b9:∀a∈L,a∉M:=λa h1 h2=>by
             obtain⟨o,N,_⟩:=a7.dom a h1;rw[fy a h2]at N;cases N
            have u5:Up a8 H5 (W.add L) (W.add (L++M)):=⟨s5,λb u U f=>⟨λz=>z.elim (λz=>(YL.mp z).elim (λz=>f.1 (.inl z)) λz=>by rw[fy b z]at U;cases U) λz=>f.1 (.inr z),f.2⟩,λ_ _ _ f=>f⟩;have u6:Up H5 H5 ((W.add L).add M) (W.add (L++M)):=⟨Same.refl _,λb u U f=>⟨λz=>by
             rcases z with z|z
             .exact(YL.mp z).elim (λz=>f.1 (.inr (.inl z))) λz=>f.1 (.inl z)
             .exact f.1 (.inr (.inr z)),f.2⟩,λ_ _ _ f=>f⟩
            have b5:cZ (ys.map (·.1)) k=none:=F_ λz=>by
             rw[a4]at z;rw[←a0,Zr]at hnd;exact(Zi.mp hnd).2.2 k z k (by simp) rfl
            rw[pL b5];refine⟨by omega,by simp;omega,acc++[(k,y)],L++M,a1,b0.trans s5,by simp[a4],?_,λa Y=>(YL.mp Y).elim (fa a) (fM a),dX na ny b9,?_,rfl,by rw[←a0];simp⟩
            .rw[Zr,Zr];exact(a7.up u5).append (.one (Z.up u6))
            exact w.add (F.trans (b0.trans s5)) λa Y=>(YL.mp Y).elim (λz=>let⟨o,h,m⟩:=a7.dom a z;⟨o,s5 a o h,m⟩) (Z.dom a)
      .have hl:i=items.length:=by omega
       subst hl;rw[aa9,jG]at O;cases O;refine .inl ⟨wk.stop H2 _ (LtB.up a3),abU (six 1.11),λp hp=>?_⟩;have sm:Same H2 (upd H2 p (.dK ys)):=Same.new hp;rw[Zu]at a0;subst a0;refine q (.ref p) _ (p::L) ((F.trans s2).trans sm) ?_ (λa Y=>(Za.mp Y).elim (λz=>by rw[z];exact(F.trans s2).none' hp) λz=>F.none' (fa a z)) (Zv.mpr ⟨λz=>?_,na⟩)
       .rw[Rep]
        exact⟨p,ys,L,rfl,⟨a4,hnd⟩,ra.up ⟨sm,λb u U f=>⟨λz=>z.elim (λz=>(Za.mp z).elim (λz=>by rw[z,hp]at U;cases U) λz=>f.1 (.inl z)) λz=>f.1 (.inr z),f.2⟩,λ_ _ _ f=>f⟩,a_,rfl⟩
       .obtain⟨o,N,_⟩:=ra.dom p z
        rw[hp]at N;cases N
    .cases ee
  .cases ee
end
section
variable{ι:Type}{X:ι->Cx}{G:Gc}{ob:Nat->Bool}{kx vx target iter:Expr}{ifs:List Expr}{scope:Scope}{pos pos' pos2:Pos}{N':List Str}{it:En->Option (Bool×List D)}{tg:D->En->Option En}{fc:En->Option Bool}{fk fe:En->Option D}
theorem Ca(cap:List (Option Nat))(own:Nat->Bool)(J:∀c,(X c).xe=NoX)(Z:∀c,(X c).calm=true)(O:∀c,du (X c).env.scope (X c).N N' scope cap)(z:∀i:Nat,own i=true->cap[i]?≠none->cap[i]? =some none)(hi:PVI X G ob target iter it)(q:DY (InX X N' scope) G (obC cap ob) own target tg)(U:CN (InX X N' scope) G (obC cap ob) ifs fc)(I:PV (InX X N' scope) G (obC cap ob) kx fk)(V:PV (InX X N' scope) G (obC cap ob) vx fe)
  (B:∀c,∀x,aaE iter (X c).env x=pure x:=by intro _ _;rfl):PV X G ob 1.19 (m7 cap it tg fc fk fe):=
 let⟨_,i1,i2⟩:=hi.ex;let⟨_,g1,g2⟩:=q.ex;let⟨_,t1,t2⟩:=U.ex;let⟨_,k1,k2⟩:=I.ex;let⟨_,e1,e2⟩:=V.ex
 ⟨_,λc=>Lh (J c) (Z c) (O c) (i1 c) (λC s H fp=>g1 (c,C,s,H,fp)) (λC s H fp=>t1 (c,C,s,H,fp)) (λC s H fp=>k1 (c,C,s,H,fp)) (λC s H fp=>e1 (c,C,s,H,fp)) (B c),Bo z i2 g2 t2 k2 e2⟩
variable{P:Nat->Bool}{x:Str}
theorem JH(i:Nat)(cap:List (Option Nat))(own:Nat->Bool)(q:∀c,(X c).N.Nodup)(J:∀c,(X c).xe=NoX)(Z:∀c,(X c).calm=true)(O:∀c,du (X c).env.scope (X c).N N' scope cap)(z:∀i:Nat,own i=true->cap[i]?≠none->cap[i]? =some none)(hi:PVI X G ob target iter it)(hg:DY (InX X N' scope) G (obC cap ob) own target tg)(U:CN (InX X N' scope) G (obC cap ob) ifs fc)(I:PV (InX X N' scope) G (obC cap ob) kx fk)(V:PV (InX X N' scope) G (obC cap ob) vx fe)
  (hP:P i=false:=by rfl) (F:∀c,(X c).N[i]? =some x:=by intro _;rfl) (Y:∀c,Loc (X c).env.scope x:=by intro _;first|exact aba rfl|exact aaL rfl) (D:∀c,abz 1.19 (some (.Name x pos')) pos2.line (X c).env=pure true:=by intro _;rfl) (B:∀c,∀x,aaE iter (X c).env x=pure x:=by intro _ _;rfl)
  (hf:∀c,(X c).fn x=true∨(X c).env.scope.names.lookup x=some .local:=by intro _;first|exact .inl rfl|exact .inr rfl):PVS X G ob P (.Assign [.Name x pos'] 1.19 pos2) (cN (m7 cap it tg fc fk fe) (tgN i)):=
 let⟨_,i1,i2⟩:=hi.ex;let⟨_,g1,g2⟩:=hg.ex;let⟨_,t1,t2⟩:=U.ex;let⟨_,k1,k2⟩:=I.ex;let⟨_,e1,e2⟩:=V.ex
 ⟨_,λc=>QR (J c) (Z c) (q c) (F c) (Y c) (O c) (i1 c) (λC s H fp=>g1 (c,C,s,H,fp)) (λC s H fp=>t1 (c,C,s,H,fp)) (λC s H fp=>k1 (c,C,s,H,fp)) (λC s H fp=>e1 (c,C,s,H,fp)) (D c) (B c) (hf c),by rw[←zm];exact lB (yf (Bo z i2 g2 t2 k2 e2)) (iM hP)⟩
end
def Ga:En->Option (List (Key×D)):=λ_=>some []
def vL(fk U:En->Option D)(I:En->Option (List (Key×D))):En->Option (List (Key×D)):=λρ=>((fk ρ).bind dh).bind λk=>(U ρ).bind λx=>(I ρ).map λr=>(k,x)::r
def Ce(f:En->Option (List (Key×D))):En->Option D:=λρ=>(f ρ).bind λes=>if es.length<=15/\az (es.map (·.2))=true/\aB (es.map (·.2))=true then rA es else none
def K8(G:Gc)(ob:Nat->Bool)(t:List (TE×TE))(f:En->Option (List (Key×D))):Prop:=∀(ρ:En)(es:List (Key×D)),f ρ=some es->∀(σ:L2.St)(H:Hp)(W:Wn),Rel G H W ob ρ σ->WOk H W->∀Q:List (V×V)->Hp->Prop,
 (∀(vs:List V) H' L,vs.length=es.length->Same H H'->aH G H' (W.add L) (es.map (·.2)) vs L->(∀a∈L,H a=none)->L.Nodup->Q ((aee (es.map (·.1)) vs).map λF=>(kV F.1,F.2)) H')->z_ t σ H Q
structure Qk{ι:Type}(X:ι->Cx)(G:Gc)(ob:Nat->Bool)(pos:Pos)(ks:List (Option Expr))(vs:List Expr)(f:En->Option (List (Key×D))):Prop where
 mk::(ex:∃t,(∀c,PPs (X c) pos ks vs t)/\K8 G ob t f)
theorem Qe:K8 G ob [] Ga:=λρ es e σ H W V w Q q=>by
 cases e;exact q [] H [] rfl (Same.refl H) .nil (by simp) ZR
variable{t:List (TE×TE)}
theorem Lw{tk tv:TE}{fv:En->Option D}{fr:En->Option (List (Key×D))}(I:RfE G ob tk fk)(hv:RfE G ob tv fv)(O:K8 G ob t fr):K8 G ob ((tk,tv)::t) (vL fk fv fr):=λρ es e σ H W V w Q q=>by
 unfold vL at e;cases h1:fk ρ with
 |none=>simp[h1]at e
 |some dk=>
 cases h2:dh dk with
 |none=>simp[h1,h2]at e
 |some k=>
 cases B:fv ρ with
 |none=>simp[h1,h2,B]at e
 |some dv=>
 cases h4:fr ρ with
 |none=>simp[h1,h2,B,h4]at e
 |some rs=>
  obtain rfl:(k,dv)::rs=es:=by simpa[h1,h2,B,h4]using e
  refine I ρ dk h1 σ H W V w _ λxk H0 J s0 rk a1 nk=>?_;obtain⟨rfl,rfl⟩:=Fy h2 rk;refine hv ρ dv B σ H0 W (V.up (Up.same s0)) (w.up s0) _ λx H1 L F rx fx nx=>?_;have u1:Up H0 H1 W (W.add L):=.add F fx;have w1:WOk H1 (W.add L):=(w.up s0).add F rx.dom;refine O ρ rs h4 σ H1 (W.add L) ((V.up (Up.same s0)).up u1) w1 _ λys H2 M hl s2 Z fy ny=>?_;have a0:∀a∈L,a∉M:=λa h1 h2=>by
   obtain⟨o,N,_⟩:=rx.dom a h1;rw[fy a h2]at N;cases N
  have u2:Up H1 H2 (W.add L) (W.add (L++M)):=⟨s2,λb u U f=>⟨λz=>z.elim (λz=>(YL.mp z).elim (λz=>f.1 (.inl z)) λz=>by rw[fy b z]at U;cases U) λz=>f.1 (.inr z),f.2⟩,λ_ _ _ f=>f⟩;refine q (x::ys) H2 (L++M) (by simp[hl]) ((s0.trans F).trans s2) (.cons (rx.up u2) (Z.up ⟨Same.refl _,λb u U f=>⟨λz=>?_,f.2⟩,λ_ _ _ f=>f⟩)) (λa Y=>?_) (dX nx ny a0)
  .rcases z with z|z
   .exact(YL.mp z).elim (λz=>f.1 (.inr (.inl z))) λz=>f.1 (.inl z)
   .exact f.1 (.inr (.inr z))
  .rcases YL.mp Y with z|z
   .exact s0.none' (fx a z)
   .exact(s0.trans F).none' (fy a z)
theorem wj:∀{more kvs:List (Key×V)},(Zt (·.1) (kvs++more)).Nodup->oF kvs more=kvs++more
 |[],kvs,h=>by simp[oF]
 |p::r,kvs,h=>by
  have h1:putK kvs p.1 p.2=kvs++[p]:=pL (F_ λz=>by
   rw[Zr]at h;exact(Zi.mp h).2.2 p.1 z p.1 (by simp) rfl)
  have:=wj (more:=r) (kvs:=kvs++[p]) (by simpa using h);show oF (putK kvs p.1 p.2) r=_;rw[h1,this];simp
variable{f:En->Option (List (Key×D))}
theorem Qt(h:K8 G ob t f):RfE G ob (R1 t) (Ce f):=λρ d e σ H W V w Q q=>by
 unfold Ce at e;cases h1:f ρ with
 |none=>simp[h1]at e
 |some es=>
  rw[h1]at e;simp![YK]at e;split at e
  .rename_i hc
   unfold rA at e;split at e
   .rename_i hnd
    cases e;intro p F;have B:Same H (upd H p (.dK [])):=Same.new F;have u0:Up H (upd H p (.dK [])) W (W.add [p]):=.add B (by simpa using F);have w0:WOk (upd H p (.dK [])) (W.add [p]):=w.add B λa Y=>by
     obtain rfl:a=p:=by simpa using Y
     exact⟨_,a_,rfl⟩
    refine h ρ es h1 σ _ _ (V.up u0) w0 _ λvs H2 L hl O Z N n2=>?_;have a0:H2 p=some (.dK []):=O p _ a_;have a3:Zt (·.1) (aee (es.map (·.1)) vs)=es.map (·.1):=List.map_fst_zip (by simp[hl]);have a4:Zt (·.2) (aee (es.map (·.1)) vs)=vs:=List.map_snd_zip (by simp[hl]);refine⟨a0,aee (es.map (·.1)) vs,rfl,by simp[hl];exact hc.1,?_⟩;rw[wj (by simpa[a3]using hnd),List.nil_append];have a2:p∉L:=λz=>by have:=N p z;rw[a_]at this;cases this
    have a7:Same H (upd H2 p (.dK (aee (es.map (·.1)) vs))):=λb u U=>by
     have a1:b≠p:=λz=>by rw[z,F]at U;cases U
     rw[aO a1];exact O b u (by rw[aO a1];exact U)
    refine q (.ref p) _ (p::L) a7 ?_ (λa Y=>?_) (Zv.mpr ⟨a2,n2⟩)
    .rw[Rep]
     refine⟨p,_,L,rfl,⟨a3,hnd⟩,?_,a_,rfl⟩;rw[a4];have ev:Evo H2 (upd H2 p (.dK (aee (es.map (·.1)) vs))) ((W.add [p]).add L) (W.add (p::L)):=⟨λb u U I=>⟨by rw[aO λz=>I.1 (.inr (.inl (by simp[z])))];exact U,λz=>by
      rcases z with z|z
      .rcases Za.mp z with z|z
       .exact I.1 (.inr (.inl (by simp[z])))
       .exact I.1 (.inl z)
      .exact I.1 (.inr (.inr z)),I.2⟩,λb xs U=>by rw[aO λz=>by rw[z,a0]at U;cases U];exact U⟩
     exact Z.mono ev (.inl hc.2.1) (.inl hc.2.2) λc a6 u J=>by
      have a5:c≠p:=λz=>a2 (by rw[←z];exact a6);rw[aO a5];exact J
    .rcases Za.mp Y with z|z
     .rw[z];exact F
     .have:=N a z
      by_cases U:a=p
      .rw[U];exact F
      .rwa[aO U]at this
   .cases e
  .cases e
theorem Li:Qk X G ob pos [] [] Ga:=⟨_,λc=>PK,Qe⟩
theorem Hv{k v:Expr}{ks:List (Option Expr)}{vs:List Expr}{U:En->Option D}{q:En->Option (List (Key×D))}(I:PV X G ob k fk)(z:PV X G ob v U)(O:Qk X G ob pos ks vs q):Qk X G ob pos (some k::ks) (v::vs) (vL fk U q):=
 let⟨_,a1,a2⟩:=I.ex;let⟨_,b1,b2⟩:=z.ex;let⟨_,c1,c2⟩:=O.ex;⟨_,λc=>M4 (a1 c) (b1 c) (c1 c),Lw a2 b2 c2⟩
theorem Rw{F:List Expr}(h:Qk X G ob pos J F f)(U:J.all (·.isSome)=true:=by rfl)(Y:J.length=F.length:=by rfl)(Z:J≠[]:=by simp)(q:J.length<=15:=by decide):PV X G ob (.Dict J F pos) (Ce f):=
 let⟨_,a1,a2⟩:=h.ex;⟨_,λc=>O4 (a1 c) U Y Z q,Qt a2⟩
def kD:Key->D
 |.inl i=>.int i
 |.inr x=>.str x
end Jb
namespace PySem
def fY(ps:List Nat):Obj:={cls:=.type "tuple",data:=.seq (ps.map λ(i:Nat)=>acz i).toArray}
end PySem
namespace Jb
open PySem PyProof.Rows
def vl(x:Keyed):Int:=numOf x.1
end Jb
namespace PySem
open PySem.W
variable{r d:Addr}{P:Nat->Value->Prop}{OK:Heap->Prop}
theorem collect_src{Q:List Value->Hq->Prop}(K:KdlSrc prog w T r d n P OK)(z:A.handled=none)(hok:OK s.heap)(hn:n<=YZ)
  (q:∀h' tk acc,(∀b o,s.heap.get? b=some o->h'.get? b=some o)->ItemsOf P acc n->Q acc.toList {s with heap:=h',toks:=tk}):wpAny 1.16 A (collect (.ref r)) Q E s:=by
 unfold collect;refine gD (aeN (aaH F.entry_proto_collect ?_));rw[aax F.plain_proto_collect _];show wpAny _ A.in1 (aeH [] >>=λl=>again (.builtin "list.__iadd__" ⟨[l,.ref r],[]⟩)) _ _ s;refine gD (aat ?_);refine YQ ⟨ab4 afH _,aaH F.entry_list_iadd ?_⟩;rw[aax afH _];show wpAny _ A.in1 (Builtin.List.listExtendWith (.ref s.heap.objs.size) (.ref r) (.ref s.heap.objs.size)) _ _ _;have D:(s.heap.push {cls:=.type "list",data:=.seq ([]:List Value).toArray}).get? s.heap.objs.size=some {cls:=.type "list",data:=.seq #[] 0}:=Zm _ rfl;have J:=K.there _ hok;have N:∀s',(∃h' tk acc c,s'={s with heap:=h',toks:=tk}/\(∀b o,s.heap.get? b=some o->h'.get? b=some o)/\h'.get? s.heap.objs.size=some {cls:=.type "list",dict:=none,data:=.seq acc c,slots:=#[]}/\ItemsOf P acc n)->wpAny 1.16 A (match ZD s.heap.objs.size with
   |ZD a=>do
    match(←load a).data with
     |Data.seq xs _=>pure xs.toList
     |_=>aeB "internal:collect"
   |_=>aeB "internal:collect") Q E s':=by
  rintro s' ⟨h',tk,acc,c,rfl,I,V,Y⟩;show wpAny _ A (load s.heap.objs.size >>=_) _ _ _;refine gD (aeV V ?_);exact YQ (q h' tk acc I Y)
 refine aaG (kdl_extend (A:=A) (R:=λr s'=>r= .ok (.ret (.ref s.heap.objs.size))/\∃h' tk acc c,s'={s with heap:=h',toks:=tk}/\(∀b o,s.heap.get? b=some o->h'.get? b=some o)/\h'.get? s.heap.objs.size=some {cls:=.type "list",dict:=none,data:=.seq acc c,slots:=#[]}/\ItemsOf P acc n)
  (s:={s with heap:=s.heap.push {cls:=.type "list",data:=.seq ([]:List Value).toArray}}) K z (K.keep _ _ hok λb _ o e=>YM _ e) s.heap.objs.size (abB J.1) (abB J.2) _ 0 D (λh' tk acc c I V Y=>⟨rfl,h',tk,acc,c,rfl,λb o e=>I b o (Zg (Y_ e)) (YM _ e),V,Y⟩) hn) (λB s' h=>?_) (λe s' h=>?_)
 .cases B with
  |done f=>
   obtain⟨e,h⟩:=h;cases e;exact N _ h
  |again Z=>exact⟨h.1,abD h.2 λr U O=>by obtain⟨rfl,h⟩:=O;exact N _ h⟩
 .exact absurd h.1 (by simp)
end PySem
namespace Jb
open PySem PySem.Spec PyProof.Rows L2
def Kd(A:aad):List V->Hp->VK->Prop:=λxs H Q=>∃(a:Addr)(kvs:List (Key×V))(ys:List Str),xs=[.ref a]/\Rd H a (.dK kvs)/\kvs.map (·.1)=ys.map Zx/\ys.length<64/\A.units+2<cLine/\
 ∀p:List Nat,aa2 p (Z_ (ys.map V.str).length)->acq (λi j=>ltS ((ys.map λy=>[y]).getD j []) ((ys.map λy=>[y]).getD i [])=false) p->∀l,H l=none->Q (.ref l) (upd H l (.lst (p.map λi=>(ys.map V.str).getD i .non)))
theorem yS:∀{xs:List V}{us:List Value},us.length=xs.length->(∀(i:Nat)(x:V)(u:Value),xs[i]? =some x->us[i]? =some u->RelV x u)->Vals xs us
 |[],[],_,_=>.nil
 |[],_::_,h,_=>by simp at h
 |_::_,[],h,_=>by simp at h
 |x::xs,u::us,h,hr=>.cons (hr 0 x u rfl rfl) (yS (by simpa using h) λi y v h1 h2=>hr (i+1) y v (by simpa using h1) (by simpa using h2))
variable{X:Cx}
theorem zu(Z:X.calm=true):gA X (.builtin "sorted") (Kd X.A):=by
 show 5;obtain⟨a,kvs,ys,rfl,D,U,hl,J,q⟩:=h;obtain⟨u,rfl,ru⟩:=vals1 r;cases ru;obtain⟨O,hd,vs,rel,dd⟩:=qI I.hok D;obtain⟨ep,ob,es,g,x,d,r1,r2,r3⟩:=dd.dictAt;have N:s.heap.DictAt (aY X.prog X.w) a vs ep:=⟨ob,es,g,x,d,r1,r2,r3⟩;have a3:kvs.length=vs.length:=rel.length;have a2:kvs.length=ys.length:=by have:=congrArg abv U;simpa using this
 refine yc λE' Q' a1=>PySem.collect_src (afV (ep:=ep) (kvs:=vs) hd) (I.ok.hd Z) N 1.11 λh' tk acc hk Y=>?_;refine a1 _ _ (Ao (ks:=ys.map λy=>[y]) (I.kept (t':=tk) hk) (yS ?_ λi x u h1 h2=>?_) (by simpa using hl) J ⟨by simp,.inl λi k e=>?_⟩ q)
 rotate_left 2
 .rw[List.getElem?_map]at e⊢
  cases hi:ys[i]? with
  |none=>rw[hi]at e;cases e
  |some y=>rw[hi]at e;cases e;exact⟨y,rfl,rfl⟩
 .rw[aa3,Ze,Y.1];omega
 .rw[List.getElem?_map]at h1
  cases hi:ys[i]? with
  |none=>rw[hi]at h1;cases h1
  |some y=>
   rw[hi]at h1;cases h1;obtain⟨k,v,e1,e2⟩:=Y.2 i u (by rw[←abI];exact h2);have a0:(kvs.map (·.1))[i]? =some (Zx y):=by rw[U,List.getElem?_map,hi];rfl
   rw[List.getElem?_map]at a0;cases V:kvs[i]? with
   |none=>rw[V]at a0;cases a0
   |some F=>
    rw[V]at a0;have ek:F.1=Zx y:=aah a0;have:=(tZ rel V e1).1;obtain rfl:k=Zx y:=by rw[←ek];exact this.symm
    have B:uF (Zx y) u=true:=e2;rcases dz B with⟨j,t,z,_⟩|⟨x',t,z,rfl⟩
    .cases z
    .cases z;exact⟨t,rfl⟩
def mkS:Mk->Mk
 |.frz=>.scr
 |m=>m
mutual
noncomputable def toS:D->D
 |.tup ds=>.tup (Ot ds)
 |.lst m ds=>.lst m (Ot ds)
 |.dct m ks ds=>.dct (mkS m) ks (Ot ds)
 |.ins m c fs ds=>.ins m c fs (Ot ds)
 |d=>d
noncomputable def Ot:List D->List D
 |[]=>[]
 |d::r=>toS d::Ot r
end
variable{ks:List Key}
theorem JN{k:Key}(h:cZ ks k=none):cZ (ks++[k]) k=some ks.length:=by
 unfold cZ at *
 rw[ae5,h];simp
def eF(fs:List Str)(f:Str):Option Nat:=fs.findIdx? λx=>decide (x=f)
theorem nG(f:Str):∀kvs:List (Str×V),kvs.lookup f=(eF (kvs.map (·.1)) f).bind λj=>(kvs.map (·.2))[j]?
 |[]=>rfl
 |(k,v)::r=>by
  have N:=nG f r;by_cases h:k=f
  .subst h
   simp[eF,aaX]
  .have h':(f==k)=false:=aaU.mpr (ZV h)
   simp![ab9,h',eF,YT,aaX,Zy h]at N⊢;rw[N];cases List.findIdx? (λx=>decide (x=f)) (Zt (λx=>x.1) r)<;>simp
structure Kla(K:PySem.W.Frag)(mg:Str->Option Value)(c:Str)(fl:List Str):Prop where
 ex:∃C,mg c=some (.ref C)/\Cls K C/\∀f∈fl,lD K C f
variable{c f:Str}
theorem Kla.at{K:YS}(k:Kla K mg c fl)(h:mg c=some (.ref C))(V:fl.contains f=true):Cls K C/\lD K C f:=by
 obtain⟨J,h1,h2,B⟩:=k.ex;rw[h]at h1;cases h1;exact⟨h2,B f (by simpa using V)⟩
def gY(c f:Str):D->Option D
 |.ins m J fs ds=>if J=c/\m≠.scr then(eF fs f).bind λj=>ds[j]? else none
 |_=>none
def mU(i:Nat)(pf:En->Option (List Nat))(c f:Str):En->Option (List Nat):=λρ=>(pf ρ).bind λp=>match ρ[i]? with
 |some (some d0)=>(fu p d0).bind λd=>match d with
  |.ins .own c' fs ds=>if c'=c then(eF fs f).bind λj=>if j<ds.length then some (p++[j])else none else none
  |_=>none
 |_=>none
variable{G:Gc}
theorem Qa(k:Kla G.K G.mg c fl)(V:fl.contains f=true):UnV G (λx H Q=>∃a C dx fs v,x= .ref a/\H a=some (.ins C dx fs)/\Cls G.K C/\lD G.K C f/\fs.lookup f=some v/\Q v H) (gY c f):=λdx d e x H W I r nd hn w Q q=>by
 unfold gY at e;split at e
 .rename_i m c' fs ds
  split at e
  .rename_i hc
   obtain⟨rfl,Z⟩:=hc;rw[Rep]at r;obtain⟨a,C,dx,kvs,M,rfl,D,rfl,O,B⟩:=r;cases F:eF (kvs.map (·.1)) f with
   |none=>simp[F]at e
   |some j=>
    have N:ds[j]? =some d:=by simpa[F]using e
    obtain⟨z,Mz,Y,U,J⟩:=O.get N;exact⟨a,C,dx,kvs,z,rfl,B.at Z,(k.at D V).1,(k.at D V).2,by rw[nG,F];exact Y,pU (Ly:=[]) U (J.trans B.sub) (by simpa using nd) (by simpa using hn) (by simpa using q)⟩
  .cases e
 .cases e
variable{X:ι->Cx}{fe:En->Option D}
theorem fJ(k:Kla G.K G.mg c fl)(V:PV X G ob e fe)(q:fl.contains f=true:=by rfl)(U:∀i,aa8 e f (X i).env (eval e (X i).env)=eval e (X i).env:=by intro _;rfl)(F:∀i,(X i).K=G.K:=by intro _;rfl):PV X G ob (.Attribute e f pos) (e1 (gY c f) fe):=let⟨t,a1,a2⟩:=V.ex;⟨_,λi=>(by have:=JT (pos:=pos) (a1 i) (U i);rw[F i]at this;exact this),Sv (Qa k q) a2⟩
variable{to:TE}{pf:En->Option (List Nat)}
theorem Pb(k:Kla G.K G.mg c fl)(V:fl.contains f=true)(N:RfP G ob to i0 pf):RfP G ob (Wm G.K to f) i0 (mU i0 pf c f):=λρ p e σ H S Fr s=>by
 unfold mU at e;cases h1:pf ρ with
 |none=>simp[h1]at e
 |some p0=>
  rw[h1]at e;simp![YK]at e;split at e
  .rename_i d0 h3
   cases U:fu p0 d0 with
   |none=>simp[U]at e
   |some d=>
    rw[U]at e;simp![YK]at e;split at e
    .rename_i c' fs ds
     split at e
     .rename_i hc
      subst hc;cases hj:eF fs f with
      |none=>simp[hj]at e
      |some j=>
       by_cases Z:j<ds.length
       .obtain rfl:p0++[j]=p:=by simpa[hj,Z]using e
        obtain⟨D,d',I,O,g3⟩:=N ρ p0 h1 σ H S Fr s;rw[h3]at I;cases I;rw[U]at O;cases O;have a1:clean (.ins .own c' fs ds)=true:=p8 (let⟨_,_,_,h⟩:=s.sl i0 d0 h3;h) U;have a0:ds[j]? =some ds[j]:=Zc Z;refine⟨d0,ds[j],h3,by rw[Cv p0 j d0 U];exact a0,λQ q=>g3 _ λv v0 H1 M F B z=>?_⟩;obtain⟨a,C,dx,kvs,x,M',rfl,hC,Y,rfl,J,fo⟩:=Foc.ins z.r a1 a0;exact⟨a,C,dx,kvs,x,rfl,Y,(k.at hC V).1,(k.at hC V).2,by rw[nG,hj];exact J,q x v0 H1 M' F B (z.trans fo U (by show ds[j]?≠none;rw[a0];simp))⟩
       .simp[hj,Z]at e
     .cases e
    .cases e
  .cases e
variable{o:Expr}
theorem kW{I:Nat}(k:Kla G.K G.mg c fl)(N:PVP X G ob o I pf)(V:fl.contains f=true:=by rfl)(U:∀i,aa8 o f (X i).env (eval o (X i).env)=eval o (X i).env:=by intro _;rfl)(F:∀i,(X i).K=G.K:=by intro _;rfl):PVP X G ob (.Attribute o f pos) I (mU I pf c f):=let⟨t,a1,a2⟩:=N.ex;⟨_,λi=>(by have:=JT (pos:=pos) (a1 i) (U i);rw[F i]at this;exact this),Pb k V a2⟩
def uY(j:Option Nat)(l:List α)(y:α):List α:=match j with
 |some j=>l.set j y
 |none=>l++[y]
variable{H:Hp}{W:Wn}{ds:List D}
theorem RC{xs:List V}{M0 N:List Addr}{e:D}{x:V}{o:HO}{j:Option Nat}(O:aH G H W ds xs M0)(J:Rep G H W e x N)(nd:(a::M0++N).Nodup)(k1:az ds=true)(k2:aB ds=true)(c1:aD e=true)(c2:aC e=true)(F:∀i,j=some i->i<ds.length) :
  ∃M',(a::M').Nodup/\(∀b∈a::M',b∈a::M0∨b∈N)/\(∀W',Evo H (upd H a o) W W'->aH G (upd H a o) W' (uY j ds e) (uY j xs x) M')/\az (uY j ds e)=true/\aB (uY j ds e)=true:=by
 have q:=Zi.mp nd;have hn:=Zv.mp q.1;have a2:a∉N:=λz=>q.2.2 a (by simp) a z rfl;have kp:∀{L:List Addr},a∉L->∀c∈L,∀u,H c=some u->upd H a o c=some u:=λh c Z u hu=>by rw[aO (show c≠a from λz=>h (z▸Z))];exact hu
 cases j with
 |none=>
  refine⟨M0++N,by simpa using nd,λb U=>by simpa[or_assoc]using U,λW' I=>?_,by simp[uY,b8,az,k1,c1],by simp[uY,bY,aB,k2,c2]⟩;exact(O.mono I (.inl k1) (.inl k2) (kp hn.1)).append (.one (J.mono I (.inl c1) (.inl c2) (kp a2)))
 |some j=>
  obtain⟨A,M1,B,a5,a3⟩:=O.set (Zc (F j rfl)) J;have a0:aaI (A++B) M0:=by rw[a5];exact(abo A).append (aal M1 B)
  have n3:=Zi.mp (a0.nodup hn.2);have a1:∀z∈N,z∉A++B:=λz h1 h2=>q.2.2 z (Zw _ (a0.subset h2)) z h1 rfl;have a4:∀b∈A++(N++B),b∈M0∨b∈N:=λb U=>by
   simp![YL]at U;rcases U with y|y|y
   .exact .inl (a0.subset (by simp[y]))
   .exact .inr y
   .exact .inl (a0.subset (by simp[y]))
  have Y:a∉A++(N++B):=λz=>(a4 a z).elim hn.1 a2;refine⟨A++(N++B),Zv.mpr ⟨Y,dX n3.1 (dX q.2.1 n3.2.1 λz h1 h2=>a1 z h1 (by simp[h2])) λz h1 h2=>?_⟩,λb U=>(Za.mp U).elim (λz=>.inl (by simp[z])) λz=>(a4 b z).imp (Zw _) id,λW' I=>a3.mono I (.inl (jC k1 c1)) (.inl (jB k2 c2)) (kp Y),jC k1 c1,jB k2 c2⟩;rcases YL.mp h2 with y|y
  .exact a1 z y (by simp[h1])
  .exact n3.2.2 z h1 z y rfl
theorem Ax(f:Str)(v:V):∀kvs:List (Str×V),(lu f v kvs).map (·.1)=(match eF (kvs.map (·.1)) f with|some _=>kvs.map (·.1)|none=>kvs.map (·.1)++[f])/\(lu f v kvs).map (·.2)=uY (eF (kvs.map (·.1)) f) (kvs.map (·.2)) v
 |[]=>⟨rfl,rfl⟩
 |(k,y)::r=>by
  obtain⟨z,B⟩:=Ax f v r;by_cases h:k=f
  .subst h
   simp[lu,eF,aaX,uY]
  .simp![eF,YT,aaX,Zy h,lu,Zk h]at z B⊢
   rw[z,B];cases List.findIdx? (λx=>decide (x=f)) (Zt (λx=>x.1) r)<;>simp[uY]
def yl(c f:Str):D->List D->Option (D×D)
 |.ins .own c' fs ds,[v]=>if c'=c/\fs.length<1000 then some (.ins .own c (match eF fs f with|some _=>fs|none=>fs++[f]) (uY (eF fs f) ds v),.non)else none
 |_,_=>none
def Wc(K:YS)(ta:TE)(f:Str):TG:=λy σ H Q=>ta σ H λx H2=>∃a C dx fs,x= .ref a/\H2 a=some (.ins C dx fs)/\Cls K C/\lD K C f/\fs.length<1000/\Q σ (upd H2 a (.ins C dx (lu f y fs)))
theorem P0{fs:List Str}(h:eF fs f=some j):j<fs.length:=(ZM.mp h).1
theorem RJ(k:Kla G.K G.mg c fl)(V:fl.contains f=true):MuV G (λo xs H Q=>∃y a C dx fs,xs=[y]/\o= .ref a/\H a=some (.ins C dx fs)/\Cls G.K C/\lD G.K C f/\fs.length<1000/\Q .non (upd H a (.ins C dx (lu f y fs)))) (yl c f):=λd es d' res h v xs H W M N r re nd hM Z c1 c2 Q q=>by
 unfold yl at h;split at h
 .rename_i c' fs ds e
  split at h
  .rename_i hcl
   obtain⟨rfl,a0⟩:=hcl;cases h;rw[Rep]at r;obtain⟨a,C,dx,kvs,M0,rfl,F,rfl,O,Y,rfl⟩:=r;obtain⟨x,zs,D,N2,rfl,rfl,J,hz⟩:=re.inv;obtain⟨rfl,rfl⟩:=hz.inv0;rw[Zu]at nd re;have B:az ds=true/\aB ds=true:=by simp[clean,aD,aC]at Z;exact Z
   simp![az,aB,ZQ]at c1 c2;obtain⟨M',n1,n2,n3,n4,n5⟩:=RC (o:=.ins C dx (lu f x kvs)) (j:=eF (kvs.map (·.1)) f) O J nd B.1 B.2 c1.1 c2.1 λi hi=>by rw[O.length];simpa using P0 hi
   obtain⟨p1,p2⟩:=Ax f x kvs;refine⟨x,a,C,dx,kvs,rfl,rfl,Y,(k.at F V).1,(k.at F V).2,by simpa using a0,q .non _ (a::M') [] (λb u U n=>by rw[aO (show b≠a from λz=>n (by rw[z];simp))];exact U) (λW' I=>⟨?_,nH⟩) (by simpa using n1) (λb U=>(n2 b (by simpa using U)).imp id λz=>.inl (by simpa using z)) ?_ rfl⟩
   .rw[Rep]
    exact⟨a,C,dx,_,M',rfl,F,p1,by rw[p2];exact n3 W' I,a_,rfl⟩
   .simp[clean,aD,aC,n4,n5]
  .cases h
 .cases h
def lU(c f:Str)(i:Nat)(pf:En->Option (List Nat)):D->En->Option En:=λd ρ=>(pf ρ).bind λp=>(upS (yl c f) i p [d] ρ).map λq=>q.2
variable{P:Nat->Bool}
theorem Qz(k:Kla G.K G.mg c fl)(V:fl.contains f=true)(N:RfP G ob to i pf):RfG G ob P (Wc G.K to f) (lU c f i pf):=λd ρ I e v σ H S M Fr s r nd hF Q q=>by
 unfold lU at e;cases h1:pf ρ with
 |none=>simp[h1]at e
 |some p=>
  cases B:upS (yl c f) i p [d] ρ with
  |none=>simp[h1,B]at e
  |some w=>
   obtain⟨res,ρ1⟩:=w;obtain rfl:ρ1=I:=by simpa[h1,B]using e
   obtain⟨d0,D,d',g1,g2,Z,c2,g3,rfl⟩:=vO B;obtain⟨a3,a4,k1,k2,k3⟩:=N ρ p h1 σ H S (plus M Fr) s;rw[g1]at k1;cases k1;rw[g2]at k2;cases k2;refine k3 _ λo v0 H1 M1 F a2 a0=>?_;have J:Sta G H1 ob ρ σ S (plus M Fr):=s.grow F λa z=>.inl z;have a1:=o_ (RJ k V) J g1 a2 g2 a0 (.one (r.up (Up.same F))) nd hF Z c2 g3 (Q:=λ_ H'=>Q σ H') λx H' R S' q1 q2 O q4 q5 q6 q7 Y=>q σ H' S' (q1.lessF λa z=>.inr z) ⟨λb u U n m=>Y b u (F b u U) λz=>n ⟨i,z⟩,λj a z=>?_,.refl⟩
   .obtain⟨y,a,C,dx,fs,e1,k⟩:=a1
    cases e1;exact⟨a,C,dx,fs,k⟩
   .by_cases hj:j=i
    .subst hj
     rcases q6 a z with y|y|y
     .exact .inl ⟨j,y⟩
     .exact .inr (.inl y)
     .exact .inr (.inr (F.none' y))
    .rw[q5 j hj]at z;exact .inl ⟨j,z⟩
theorem lW{U:En->Option (D×En)}(k:Kla G.K G.mg c fl)(z:PVe X G ob value U)(N:PVP X G ob o i pf)(V:fl.contains f=true:=by rfl)(B:∀i,abz value (some (.Attribute o f pos')) pos.line (X i).env=pure false:=by intro _;rfl)(F:∀i,(X i).K=G.K:=by intro _;rfl):PVS X G ob P (.Assign [.Attribute o f pos'] value pos) (b7 U (lU c f i pf)):=let⟨_,b1,b2⟩:=z.ex;let⟨_,a1,a2⟩:=N.ex;⟨_,λi=>(by have:=V6 (pos:=pos) (pos':=pos') (a1 i) (b1 i) (B i);rw[F i]at this;exact this),lB b2 (Qz k V a2)⟩
def xR:D->List D->Option (D×D)
 |.dct .own ks ds,[k]=>(dh k).bind λk=>(cZ ks k).bind λj=>if j<ds.length then some (.dct .own (ks.eraseIdx j) (ds.eraseIdx j),.non)else none
 |_,_=>none
theorem yC:∀{kvs:List (Key×V)}{k:Key}{j:Nat},cZ (kvs.map (·.1)) k=some j->(kvs.map (·.1)).Nodup->rm kvs k=kvs.eraseIdx j
 |[],k,j,h,_=>by simp[cZ]at h
 |(k0,v)::r,k,j,h,n=>by
  rw[YT,Zv]at n;simp![YT,cZ,aaX]at h;by_cases e:k0=k
  .subst e
   obtain rfl:0=j:=by simpa using h
   simp![rm,aan,ne_eq,not_true_eq_false,decide_false,ZG,aao,List.eraseIdx_cons_zero];exact List.filter_eq_self.mpr λp F=>aap λz=>n.1 (Zf.mpr ⟨p,F,z⟩)
  .rw[Zy e]at h
   simp![ZG,aao]at h;cases h1:(r.map (·.1)).findIdx? (λx=>decide (x=k))with
   |none=>rw[h1]at h;cases h
   |some i=>
    rw[h1]at h;obtain rfl:i+1=j:=by simpa using h
    have N:=yC (kvs:=r) (k:=k) (j:=i) h1 n.2;simp![rm,aan,ne_eq,e,not_false_eq_true,decide_true,Zz,aek]at N⊢;rw[N]
theorem tL(f:α->β):∀(l:List α)(j:Nat),(l.eraseIdx j).map f=(l.map f).eraseIdx j
 |[],_=>rfl
 |_::_,0=>rfl
 |x::r,j+1=>by simp[tL f r j]
theorem PB:MuV G (λo xs H Q=>∃y a kvs k,xs=[y]/\o= .ref a/\H a=some (.dK kvs)/\y=kV k/\(lG kvs k).isSome=true/\Q .non (upd H a (.dK (rm kvs k)))) xR:=λd es d' res h v xs H W M N r re nd hM Z c1 c2 Q q=>by
 unfold xR at h;split at h
 .rename_i ks ds k0
  cases I:dh k0 with
  |none=>simp[I]at h
  |some k=>
   cases F:cZ ks k with
   |none=>simp[I,F]at h
   |some j=>
    by_cases a0:j<ds.length
    .obtain⟨rfl,rfl⟩:D.dct .own (ks.eraseIdx j) (ds.eraseIdx j)=d'/\D.non=res:=by simpa[I,F,a0]using h
     rw[Rep]at r;obtain⟨a,kvs,M0,rfl,⟨rfl,a1⟩,O,Y,rfl⟩:=r;obtain⟨x,rfl,J⟩:=re.inv1;have B:az ds=true/\aB ds=true:=by simp[clean,aD,aC]at Z;exact Z
     obtain⟨z,M1,L,hz,rz,V,pm⟩:=O.erase (Zc a0);have a2:=Zi.mp nd;have hn:=Zv.mp a2.1;have hv:=j9 F;have hL:∀b∈L,b∈M0:=λb U=>pm.mem_iff.mp (YW _ U);have e1:az (ds.eraseIdx j)=true:=bV λd hd=>vp B.1 d (qb hd);have e2:aB (ds.eraseIdx j)=true:=bQ λd hd=>v9 B.2 d (qb hd);refine⟨x,a,kvs,k,rfl,rfl,Y,jn J I,by rw[hv,hz];rfl,?_⟩;rw[yC F a1];refine q .non _ (a::L) [] (λb u U n=>by rw[aO (show b≠a from λz=>n (by rw[z];simp))];exact U) (λW' ev=>⟨?_,nH⟩) ?_ (λb U=>?_) (by simp[clean,aD,aC,e1,e2]) rfl
     .rw[Rep]
      refine⟨a,_,L,rfl,⟨tL _ _ _,?_⟩,?_,a_,rfl⟩
      .exact(aeL _ j).nodup a1
      .rw[tL]
       exact V.mono ev (.inl e1) (.inl e2) λc Z u hu=>by rw[aO (show c≠a from λz=>hn.1 (z▸hL c Z))];exact hu
     .rw[Zu]
      exact Zv.mpr ⟨λz=>hn.1 (hL a z),(Zi.mp (pm.nodup_iff.mpr hn.2)).1⟩
     .rw[Zu]at U
      exact .inl ((Za.mp U).elim (λz=>by simp[z]) λz=>Zw _ (hL b z))
    .simp[I,F,a0]at h
 .cases h
def Oi(i:Nat)(pf:En->Option (List Nat))(fk:En->Option D):En->Option Fl:=λρ=>(pf ρ).bind λp=>(fk ρ).bind λk=>(upS xR i p [k] ρ).map λq=>.nx q.2
variable{fk:En->Option D}
theorem PQ{ti:TE}(ho:RfP G ob to i pf)(hi:RfE G ob ti fk):RfS G ob P (S9 to ti) (Oi i pf fk):=λρ r e σ H S Fr s E q=>by
 unfold Oi at e;cases h1:pf ρ with
 |none=>simp[h1]at e
 |some p=>
  cases h2:fk ρ with
  |none=>simp[h1,h2]at e
  |some k=>
   cases B:upS xR i p [k] ρ with
   |none=>simp[h1,h2,B]at e
   |some w=>
    obtain⟨res,ρ1⟩:=w;obtain rfl:Fl.nx ρ1=r:=by simpa[h1,h2,B]using e
    obtain⟨d0,dd,d',g1,g2,c1,c2,g3,rfl⟩:=vO B;obtain⟨a5,a6,k1,k2,k3⟩:=ho ρ p h1 σ H S Fr s;rw[g1]at k1;cases k1;rw[g2]at k2;cases k2;refine k3 _ λo v0 H1 M1 F a4 a2=>?_;have a0:Sta G H1 ob ρ σ S Fr:=s.grow F λa z=>.inl z;refine hi ρ k h2 σ H1 _ a0.rel a0.wok _ λy H2 N O Z I nN=>?_;have a3:Sta G H2 ob ρ σ S (plus N Fr):=a0.grow O λa z=>z.elim (λz=>.inr ⟨I a z,Z.dom a z⟩) .inl;have up:Up H1 H2 (wn ob S Fr) (wn ob S (plus N Fr)):=Up.add O I;have a1:=a2.mono (.inr up) up.evo λc _ u J=>O c u J;have hF:∀a∈N,¬Fr a:=λa Y z=>by
     obtain⟨o,ho,_⟩:=a0.fdm a z;rw[I a Y]at ho;cases ho
    obtain⟨y',a,kvs,k',e1,V⟩:=o_ PB a3 g1 a4 g2 a1 (.one Z) nN hF c1 c2 g3 (Q:=λ_ H'=>E.nx σ H') λx H' R S' q1 q2 q3 q4 q5 q6 q7 q8=>q σ H' S' (q1.lessF λa z=>.inr z) ⟨λb u U n m=>q8 b u ((F.trans O) b u U) λz=>n ⟨i,z⟩,λj a z=>by
     by_cases hj:j=i
     .subst hj
      rcases q6 a z with y|y|y
      .exact .inl ⟨j,y⟩
      .exact .inr (.inr (F.none' (I a y)))
      .exact .inr (.inr ((F.trans O).none' y))
     .rw[q5 j hj]at z;exact .inl ⟨j,z⟩,.refl⟩
    cases e1;exact⟨a,kvs,k',V⟩
theorem RM{k:Expr}(N:PVP X G ob o i pf)(I:PV X G ob k fk):PVS X G ob P (.Delete [.Subscript o k tpos] pos) (Oi i pf fk):=let⟨_,a1,a2⟩:=N.ex;let⟨_,b1,b2⟩:=I.ex;⟨_,λc=>Q7 (a1 c) (b1 c),PQ a2 b2⟩
def yh(g:Int->Int->Int):D->List D->Option (D×D)
 |.dct .own ks ds,[k,.int j]=>(gIx (.dct .own ks ds) k).bind λv=>match v with
  |.int i=>fU (.dct .own ks ds) [k,.int (g i j)]
  |_=>none
 |_,_=>none
def vQ(g:Int->Int->Int)(i:Nat)(pf:En->Option (List Nat))(fk U:En->Option D):En->Option Fl:=λρ=>(pf ρ).bind λp=>(fk ρ).bind λk=>(U ρ).bind λv=>(upS (yh g) i p [k,v] ρ).map λq=>.nx q.2
variable{d:D}
theorem Nk{k v:D}{q:D×D}(h:yh g d [k,v]=some q):∃ks ds N m i j,d= .dct .own ks ds/\v= .int j/\dh k=some N/\cZ ks N=some m/\ds[m]? =some (.int i)/\fU d [k,.int (g i j)]=some q:=by
 unfold yh at h;split at h
 .rename_i ks ds k' j e
  cases e;simp![gIx]at h;cases I:dh k with
  |none=>simp[I]at h
  |some N=>
   cases Z:cZ ks N with
   |none=>simp[I,Z]at h
   |some m=>
    simp![I,Z,YK]at h;cases B:ds[m]? with
    |none=>simp[B]at h
    |some z=>
     rw[B]at h;simp![YK]at h;split at h
     .exact⟨ks,ds,N,m,_,j,rfl,rfl,I▸rfl,Z,B,h⟩
     .cases h
 .cases h
variable{rd:V->V->Hp->VK->Prop}
theorem Lb{ti tv:TE}{fv:En->Option D}(b1:∀i j H Q,Q (.int (g i j)) H->rd (.int i) (.int j) H Q)(ho:RfP G ob to i pf)(hi:RfE G ob ti fk)(hv:RfE G ob tv fv):RfS G ob P (Tc to ti tv rd) (vQ g i pf fk fv):=λρ r e σ H S Fr s E q=>by
 unfold vQ at e;cases h1:pf ρ with
 |none=>simp[h1]at e
 |some p=>
  cases h2:fk ρ with
  |none=>simp[h1,h2]at e
  |some k=>
   cases a2:fv ρ with
   |none=>simp[h1,h2,a2]at e
   |some v=>
    cases B:upS (yh g) i p [k,v] ρ with
    |none=>simp[h1,h2,a2,B]at e
    |some w=>
     obtain⟨res,ρ1⟩:=w;obtain rfl:Fl.nx ρ1=r:=by simpa[h1,h2,a2,B]using e
     obtain⟨d0,dd,d',g1,g2,c1,c2,g3,rfl⟩:=vO B;obtain⟨ks,ds,kk,m,a0,b0,rfl,rfl,I,hm,b4,g4⟩:=Nk g3;obtain⟨b6,b7,k1,k2,k3⟩:=ho ρ p h1 σ H S Fr s;rw[g1]at k1;cases k1;rw[g2]at k2;cases k2;refine k3 _ λo v0 H1 M1 F b2 a8=>?_;have a5:Sta G H1 ob ρ σ S Fr:=s.grow F λa z=>.inl z;refine hi ρ k h2 σ H1 _ a5.rel a5.wok _ λy H2 N s2 Z fr nN=>?_;have hy:=jn Z I;have hN:N=[]:=by cases k<;>simp[dh]at I<;>rw[Rep]at Z<;>exact Z.2
     subst hN hy;have a4:Sta G H2 ob ρ σ S Fr:=a5.grow s2 λa z=>.inl z;have up:Up H1 H2 (wn ob S Fr) (wn ob S Fr):=Up.same s2;have a3:=a8.mono (.inr up) up.evo λc _ u J=>s2 c u J;have rr:=a3.r;rw[Rep]at rr;obtain⟨a,kvs,M0,rfl,⟨rfl,b5⟩,O,Y,rfl⟩:=rr;obtain⟨z,Mz,z1,z2,_⟩:=O.get b4;obtain⟨rfl,rfl⟩:=bu z2;refine⟨a,.int a0,rfl,by rw[←z1,←j9 hm];exact nA.k Y,?_⟩;refine hv ρ _ a2 σ H2 _ a4.rel a4.wok _ λy2 H3 N s3 b3 fr nN=>?_;obtain⟨rfl,rfl⟩:=bu b3;refine b1 _ _ _ _ ?_;have a9:Sta G H3 ob ρ σ S (plus [] Fr):=a4.grow s3 λa z=>.inl (z.resolve_left (by simp));have a6:Up H2 H3 (wn ob S Fr) (wn ob S (plus [] Fr)):=Up.add s3 (by simp);have a7:=a3.mono (.inr a6) a6.evo λc _ u J=>s3 c u J;have rk:Rep G H3 (wn ob S (plus [] Fr)) k (kV kk) []:=by cases k<;>simp[dh]at I<;>subst I<;>rw[Rep]<;>exact⟨rfl,rfl⟩
     have a1:=o_ Gx a9 g1 b2 g2 a7 (.cons (M:=[]) (M':=[]) rk (.one cX)) ZR (by simp) (by cases k<;>simp[dh]at I<;>rfl) (by cases k<;>simp[dh]at I<;>rfl) g4 (Q:=λ_ H'=>E.nx σ H') λx H' R S' q1 q2 q3 q4 q5 q6 q7 q8=>q σ H' S' (q1.lessF λa z=>.inr z) ⟨λb u U n m=>q8 b u (((F.trans s2).trans s3) b u U) λz=>n ⟨i,z⟩,λj a z=>by
      by_cases hj:j=i
      .subst hj
       rcases q6 a z with y|y|y
       .exact .inl ⟨j,y⟩
       .cases y
       .exact .inr (.inr (((F.trans s2).trans s3).none' y))
      .rw[q5 j hj]at z;exact .inl ⟨j,z⟩,.refl⟩
     obtain⟨i1,v1,e1,a1⟩:=a1;cases e1;rcases a1 with⟨pp,xs,_,_,e2,_,e3,_⟩|⟨pp,H',e2,g5,a1⟩
     .cases e2
      rw[s3 a _ Y]at e3;cases e3
     .cases e2
      exact⟨H',g5,a1⟩
theorem Ah{op:ad6}{k:Expr}{U:En->Option D}(B:∀c,Rb (X c) op rd)(F:∀i j H Q,Q (.int (g i j)) H->rd (.int i) (.int j) H Q)(J:∀c,(X c).A.units+1<cLine)(N:PVP X G ob o i pf)(I:PV X G ob k fk)(z:PV X G ob value U)
 (Y:∀q O new,augStore k q O new=(do aaY [new,q,O] (aeE q O new);release [new,q,O] [];pure .next):=by intros;rfl):PVS X G ob P (.AugAssign (.Subscript o k tpos) op value pos) (vQ g i pf fk U):=let⟨_,a1,a2⟩:=N.ex;let⟨_,b1,b2⟩:=I.ex;let⟨_,v1,v2⟩:=z.ex;⟨_,λc=>Ra (J c) (a1 c) (b1 c) (v1 c) (B c) Y,Lb F a2 b2 v2⟩
theorem T_:∀(i j:Int)(H:Hp)(Q:VK),Q (.int (i+j)) H->Wf (.int i) (.int j) H Q:=λi j H Q q=>⟨i,j,rfl,rfl,q⟩
theorem Vz:∀(i j:Int)(H:Hp)(Q:VK),Q (.int (i-j)) H->Xo (.int i) (.int j) H Q:=λi j H Q q=>⟨i,j,rfl,rfl,q⟩
structure iw(P:Program)(w:World)(K:PySem.W.Frag)(mg:Str->Option Value)(base:Heap)(k:Nat)(c m:Str)(ps:List Str)(sp:Sp):Prop where
 ex:∃C f fd,mg c=some (.ref C)/\Cls K C/\Meth K C m f/\dD P w K mg base CX0 k f fd ps sp/\Binds K fd ps []
def Q5(mg:Str->Option Value)(c m:Str)(x:V)(H:Hp):Prop:=∃a C dx fs,x= .ref a/\mg c=some (.ref C)/\H a=some (.ins C dx fs)/\fs.lookup m=none
def Vg(mg:Str->Option Value)(c m:Str)(sp:Sp)(ta:TE)(t:TA):TE:=λσ H Q=>ta σ H λx H1=>Q5 mg c m x H1/\t σ H1 λvs H2=>sp (x::vs) H2 Q E0
variable{X:Cx}{k:Nat}{m:Str}{sp:Sp}{ta:TE}{t:TA}
theorem Gr{pl:Sem Bool}(M:iw X.prog X.w X.K X.mg X.base k c m ps sp)(O:gV k X.A)(V:PE X o ta)(Y:PA X (e::es) t)
  (a1:Zb (e::es) X.env=(false,eval e X.env)::Zb es X.env:=by rfl) (a0:(aaA pos (Zb es X.env)).any (·.1)=false:=by rfl)
  (ht:eval (.Call (.Attribute o m apos) (e::es) [] pos) X.env=(do
   let ov ←eval o X.env
   acH apos.atName
   let(f,first) ←aaY [ov] (acA ov m pl)
   aef pos f first (aaA pos (Zb (e::es) X.env)) (aco pos (abw [] X.env))):=by rfl) :
  PE X (.Call (.Attribute o m apos) (e::es) [] pos) (Vg X.mg c m sp ta t):=by
 obtain⟨C,f,fd,hC,D,Z,F,U⟩:=M.ex;show 4;refine aeQ (pl:=pl) (thn (V pins s σ H _ I h) λu s1 ⟨x,H1,N,rx,⟨a,J,dx,fs,ex,eC,B,l⟩,q⟩=>?_) ht;subst ex;rw[hC]at eC;cases eC;obtain rfl:u=ZD a:=rx;refine vD N B D Z l ?_;refine adC (first:=[.ref a]) (h₀:=X.base) I.ok.mod.kin Z.kp (thn (Y pos pins s1 σ H1 _ N q) λus s2 ⟨vs,H2,z,r,q2⟩=>⟨z.kIn,?_⟩) a1 a0;exact Dj (dvs:=[]) (us:=.ref a::us) (vs:=.ref a::vs) F O U .nil FZ z (.cons rfl r) (by rw[Zu];exact q2)
theorem Cj{pl:Sem Bool}(M:iw X.prog X.w X.K X.mg X.base k c m ps sp)(O:gV k X.A)(V:PE X o ta)
  (Y:eval (.Call (.Attribute o m apos) [] [] pos) X.env=(do
   let ov ←eval o X.env
   acH apos.atName
   let(f,first) ←aaY [ov] (acA ov m pl)
   aef pos f first (aaA pos (Zb [] X.env)) (aco pos (abw [] X.env))):=by rfl) :
  PE X (.Call (.Attribute o m apos) [] [] pos) (Vg X.mg c m sp ta Ug):=by
 obtain⟨C,f,fd,z,D,Z,F,U⟩:=M.ex;show 4;refine aeQ (pl:=pl) (thn (V pins s σ H _ I h) λu s1 ⟨x,H1,N,rx,⟨a,J,dx,fs,ex,eC,B,l⟩,q⟩=>?_) Y;subst ex;rw[z]at eC;cases eC;obtain rfl:u=ZD a:=rx;refine vD N B D Z l ?_;exact PySem.W.callWith_K0 (first:=[.ref a]) N.kIn Z.kp (Dj (dvs:=[]) (us:=[.ref a]) (vs:=[.ref a]) F O U .nil FZ N (.cons rfl .nil) q)
def wF(c m:Str):D->Bool
 |.ins k J fs _=>decide (J=c/\k≠.scr/\eF fs m=none)
 |_=>false
theorem sY(h:wF c m d=true){x:V}(r:Rep G H W d x L):Q5 G.mg c m x H:=by
 cases d with
 |ins k J fs ds=>
  simp![wF,aa1]at h;obtain⟨rfl,I,q⟩:=h;rw[Rep]at r;obtain⟨a,C,dx,kvs,M,rfl,F,rfl,O,B⟩:=r;exact⟨a,C,dx,kvs,rfl,F,B.at I,by rw[nG,q];rfl⟩
 |_=>simp[wF]at h
def dB(c m:Str)(F:List D->Option D)(x:D)(ds:List D):Option D:=if wF c m x=true then bI F (x::ds)else none
def qp(c m:Str)(F:List D->Option (D×List D))(j:Nat)(f:En->Option (List D×En)):En->Option (D×En):=λρ=>match ρ[j]? with
 |some (some d)=>if wF c m d=true then eIo F [j] f ρ else none
 |_=>none
theorem Bj{F:List D->Option D}:MtV G (λx xs H Q=>spP G F (x::xs) H Q E0) (dB c m F):=λdx ds d e x xs H W I J rx r nd hn w Q q=>by
 unfold dB at e;split at e
 .have:=BK (E:=E0) (dx::ds) d e (x::xs) H W (I++J) (.cons rx r) nd hn w Q q
  simpa only[Zu]using this
 .cases e
variable{f:En->Option (List D×En)}
theorem Aw{F:List D->Option (D×List D)}(N:ob j=true)(Y:pr 0=true)(h:An G ob t f):lE G ob (Vg G.mg c m (spI G oc pr F) (Il j) t) (qp c m F j f):=λρ d I e σ H S Fr s Q q=>by
 unfold qp at e;split at e
 .rename_i d0 hj
  split at e
  .rename_i hi
   obtain⟨v,z,O,_⟩:=s.sl j d0 hj;have B:RfM G ob (Gh (Il j) t) [j] f:=λρ ds I e σ H S Fr s us J Q q=>by
    cases us with
    |nil=>simp at J
    |cons u us=>
     rw[YT,YT]at J;injection J with h1 h2;obtain rfl:us=[]:=by simpa using h2
     exact⟨u,h1,h ρ ds I e σ H S Fr s _ λvs H' M S' s' r n U=>q vs H' M S' s' r n U⟩
   obtain⟨u,J,V⟩:=Oj (oc:=oc) (pr:=pr) (by simp) (by simpa using N) (by simpa using Y) B (E:=E0) ρ d I e σ H S Fr s Q q;rw[z]at J;cases J;refine⟨v,z,sY hi O,?_⟩;simpa using V
  .cases e
 .cases e
variable{X:ι->Cx}{J:En->Option D}
theorem iR{F:List D->Option D}{f:En->Option (List D)}(M:∀i,iw (X i).prog (X i).w (X i).K (X i).mg (X i).base k c m ps (spP G F))(O:∀i,gV k (X i).A)(N:PV X G ob o J)(Y:PVA X G ob (e::es) f)(B:∀i,(X i).mg=G.mg:=by intro _;rfl)
 (z:∀i,Zb (e::es) (X i).env=(false,eval e (X i).env)::Zb es (X i).env:=by intro _;rfl) (q:∀i,(aaA pos (Zb es (X i).env)).any (·.1)=false:=by intro _;rfl)
 (U:∀i,eval (.Call (.Attribute o m apos) (e::es) [] pos) (X i).env=(do
  let ov ←eval o (X i).env
  acH apos.atName
  let(f,first) ←aaY [ov] (acA ov m (pl i))
  aef pos f first (aaA pos (Zb (e::es) (X i).env)) (aco pos (abw [] (X i).env))):=by intro _;rfl) :
 PV X G ob (.Call (.Attribute o m apos) (e::es) [] pos) (eMt (dB c m F) J f):=let⟨_,a1,a2⟩:=N.ex;let⟨_,b1,b2⟩:=Y.ex;⟨_,λi=>(by rw[←B i];exact Gr (M i) (O i) (a1 i) (b1 i) (z i) (q i) (U i)),J4 (ty:=Q5 G.mg c m) Bj (λdx ds d e x H W I r=>sY (by unfold dB at e;split at e;assumption;cases e) r) a2 b2⟩
theorem Ck{F:List D->Option D}(M:∀i,iw (X i).prog (X i).w (X i).K (X i).mg (X i).base k c m ps (spP G F))(O:∀i,gV k (X i).A)(N:PV X G ob o J)(B:∀i,(X i).mg=G.mg:=by intro _;rfl)
 (U:∀i,eval (.Call (.Attribute o m apos) [] [] pos) (X i).env=(do
  let ov ←eval o (X i).env
  acH apos.atName
  let(f,first) ←aaY [ov] (acA ov m (pl i))
  aef pos f first (aaA pos (Zb [] (X i).env)) (aco pos (abw [] (X i).env))):=by intro _;rfl) :
 PV X G ob (.Call (.Attribute o m apos) [] [] pos) (eMt (dB c m F) J aK):=let⟨_,a1,a2⟩:=N.ex;⟨_,λi=>(by rw[←B i];exact Cj (M i) (O i) (a1 i) (U i)),J4 (ty:=Q5 G.mg c m) Bj (λdx ds d e x H W I r=>sY (by unfold dB at e;split at e;assumption;cases e) r) a2 wJ⟩
variable{xpos:Pos}
theorem oX(j:Nat){F:List D->Option (D×List D)}(M:∀i,iw (X i).prog (X i).w (X i).K (X i).mg (X i).base k c m ps (spI G oc pr F))(O:∀i,gV k (X i).A)(Y:Bq X G ob (e::es) f)(ho:ob j=true:=by rfl)(Z:pr 0=true:=by rfl)(q:∀i,(X i).N[j]? =some x:=by intro _;rfl)(z:∀i,Vis (X i).env.scope x:=by intro _;first|exact aba rfl|exact aaL (aba rfl)|exact aaL (aaL rfl))(hd:1.21=false:=by decide)(V:(x==("__classdict__":Str))=false:=by decide)(B:∀i,(X i).mg=G.mg:=by intro _;rfl)
 (J:∀i,Zb (e::es) (X i).env=(false,eval e (X i).env)::Zb es (X i).env:=by intro _;rfl) (I:∀i,(aaA pos (Zb es (X i).env)).any (·.1)=false:=by intro _;rfl)
 (U:∀i,eval (.Call (.Attribute (.Name x xpos) m apos) (e::es) [] pos) (X i).env=(do
  let ov ←eval (.Name x xpos) (X i).env
  acH apos.atName
  let(f,first) ←aaY [ov] (acA ov m (pl i))
  aef pos f first (aaA pos (Zb (e::es) (X i).env)) (aco pos (abw [] (X i).env))):=by intro _;rfl) :
 PVe X G ob (.Call (.Attribute (.Name x xpos) m apos) (e::es) [] pos) (qp c m F j f):=let⟨_,b1,b2⟩:=Y.ex;⟨_,λi=>(by rw[←B i];exact Gr (M i) (O i) (pv j (q i) (z i) hd V) (b1 i) (J i) (I i) (U i)),Aw ho Z b2⟩
theorem IK(j:Nat){F:List D->Option (D×List D)}(M:∀i,iw (X i).prog (X i).w (X i).K (X i).mg (X i).base k c m ps (spI G oc pr F))(O:∀i,gV k (X i).A)(J:ob j=true:=by rfl)(I:pr 0=true:=by rfl)(q:∀i,(X i).N[j]? =some x:=by intro _;rfl)(z:∀i,Vis (X i).env.scope x:=by intro _;first|exact aba rfl|exact aaL (aba rfl)|exact aaL (aaL rfl))(hd:1.21=false:=by decide)(V:(x==("__classdict__":Str))=false:=by decide)(B:∀i,(X i).mg=G.mg:=by intro _;rfl)
 (U:∀i,eval (.Call (.Attribute (.Name x xpos) m apos) [] [] pos) (X i).env=(do
  let ov ←eval (.Name x xpos) (X i).env
  acH apos.atName
  let(f,first) ←aaY [ov] (acA ov m (pl i))
  aef pos f first (aaA pos (Zb [] (X i).env)) (aco pos (abw [] (X i).env))):=by intro _;rfl) :
 PVe X G ob (.Call (.Attribute (.Name x xpos) m apos) [] [] pos) (qp c m F j (dM aK)):=⟨_,λi=>(by rw[←B i];exact Cj (M i) (O i) (pv j (q i) (z i) hd V) (U i)),Aw J I (Ab wJ)⟩
structure KMk(P:Program)(w:World)(K:PySem.W.Frag)(mg:Str->Option Value)(base:Heap)(k:Nat)(c:Str)(ps:List Str)(sp:Sp):Prop where
 ex:∃C f fd,mg c=some (.ref C)/\L2.Mk K C f/\dD P w K mg base CX0 k f fd ps sp/\Binds K fd ps []
def uh(c:Str)(F:List D->Option (D×List D))(ds:List D):Option D:=(F (.ins .own c [] []::fzL ds)).bind λq=>match q with
 |(.non,d::_)=>if bj d=true then some d else none
 |_=>none
theorem Mm{F:List D->Option (D×List D)}(hC:G.mg c=some (.ref C))(hp:pr 0=true):CaV G (λvs H Q=>∀x dx,H x=none->H dx=none->dx≠x->spI G oc pr F (.ref x::(vs++[])) (upd (upd H dx (.own x)) x (.ins C dx [])) (λv H2=>v= .non/\Q (.ref x) H2) E0) (uh c F):=λds d e xs H W L0 r nd hn w Q q=>by
 intro x dx J a1 B;rw[Zu];unfold uh at e;cases h1:F (.ins .own c [] []::fzL ds)with
 |none=>simp[h1]at e
 |some z=>
  rw[h1]at e;simp![YK]at e;split at e
  .rename_i d' rest
   split at e
   .rename_i hown
    cases e;have same:Same H (upd (upd H dx (.own x)) x (.ins C dx [])):=λb u U=>by rw[aO (aU U J),aO (aU U a1)];exact U
    have r0:aH G H (W1 λ_=>False) (fzL ds) xs []:=r.fz ⟨λa f=>⟨id,id,id⟩,λa Y=>⟨id,id,id⟩⟩ (.inr λa=>⟨id,id,id⟩);have I:∀{b u},H b=some u->(wn oc (gW (λ_=>[]) 0 [x]) λ_=>False).free b:=λ{b u} U=>by
     have no:∀i,b∉gW (λ_=>[]) 0 [x] i:=λi z=>by
      by_cases hi:i=0
      .subst hi
       rw[cR]at z;exact aU U J (by simpa using z)
      .rw[cI hi]at z;cases z
     exact⟨id,λ⟨i,_,z⟩=>no i z,λ⟨i,_,z⟩=>no i z⟩
    have r1:aH G (upd (upd H dx (.own x)) x (.ins C dx [])) (wn oc (gW (λ_=>[]) 0 [x]) λ_=>False) (fzL ds) xs []:=r0.up ⟨same,λb u U _=>I U,λb u U z=>z.elim⟩;refine⟨.ins .own c [] []::fzL ds,gW (λ_=>[]) 0 [x],λ_=>False,⟨by simp[r1.length],λi d0 hi=>?_,λi hi=>?_,λi=>?_,λi j a h1 h2=>?_,λi a h=>h.elim,λa h=>h.elim⟩,λi hi=>?_,.non,d::rest,h1,λv H' M S' s' r' Z N hM m=>?_⟩
    .have hi:=kY hi
     cases i with
     |zero=>
      obtain rfl:D.ins .own c [] []=d0:=by simpa using hi
      refine⟨.ref x,rfl,?_,rfl⟩;rw[Rep];exact⟨x,C,dx,[],[],rfl,hC,rfl,.nil,a_,by rw[cR]⟩
     |succ i=>
      have hi:(fzL ds)[i]? =some d0:=by simpa using hi
      obtain⟨y,M',g1,O,g3⟩:=r1.get hi;obtain rfl:M'=[]:=by simpa using g3
      refine⟨y,by simpa using fD g1,by rw[cI (Nat.succ_ne_zero i)];exact O,by simp[clean,iV (il ds) hi,iW (iu ds) hi]⟩
    .cases i with
     |zero=>exact absurd rfl (hi (.ins .own c [] []))
     |succ i=>rw[cI (Nat.succ_ne_zero i)]
    .by_cases hi:i=0
     .subst hi;rw[cR];simp
     .rw[cI hi];exact ZR
    .have h0:∀{i},a∈gW (λ_=>[]) 0 [x] i->i=0:=λ{i} z=>by
      by_cases hi:i=0
      .exact hi
      .rw[cI hi]at z;cases z
     rw[h0 h1,h0 h2]
    .by_cases h0:i=0
     .subst h0;rw[hp]at hi;cases hi
     .rw[cI h0]
    .have hv:v= .non:=by rw[Rep]at r';exact r'.1
     refine⟨hv,?_⟩;obtain⟨u,g1,O,g3⟩:=s'.sl 0 d rfl;obtain rfl:V.ref x=u:=by simpa using g1
     have a0:∀{b},inS (gW (λ_=>[]) 0 [x]) b->b=x:=λ{b}⟨i,z⟩=>by
      by_cases hi:i=0
      .subst hi;rw[cR]at z;simpa using z
      .rw[cI hi]at z;cases z
     refine q (.ref x) H' (S' 0) (λb u U=>m.kp b u (same b u U) (λz=>aU U J (a0 z)) (by simp)) (O.own hown) (λa Y=>?_) (s'.nd 0);rcases m.gr 0 a Y with z|z|z
     .exact .inr (by rw[a0 z];exact J)
     .cases z
     .exact .inr (same.none' z)
   .cases e
  .cases e
variable{p:Pos}
theorem Rc{F:List D->Option (D×List D)}{f:En->Option (List D)}(M:∀i,KMk (X i).prog (X i).w (X i).K (X i).mg (X i).base k c ps (spI G oc pr F))(I:ι)(O:∀i,gV (k+1) (X i).A)(Y:PVA X G ob (e::es) f)(hp:pr 0=true:=by rfl)(Z:∀i,(X i).mg=G.mg:=by intro _;rfl)(B:∀i,Gl (X i) c:=by intro _;rfl)(J:(c==("__debug__":Str))=false:=by decide)(V:∀i,Zb (e::es) (X i).env=(false,eval e (X i).env)::Zb es (X i).env:=by intro _;rfl)(q:∀i,(aaA pos (Zb es (X i).env)).any (·.1)=false:=by intro _;rfl) :
  PV X G ob (.Call (.Name c p) (e::es) [] pos) (eAp (uh c F) f):=by
 obtain⟨t,N,z⟩:=Y.ex;obtain⟨C,_,_,hC,_⟩:=(M I).ex;rw[Z I]at hC;refine⟨_,λi=>?_,ur (Mm (oc:=oc) hC hp) z⟩;obtain⟨C',f',fd,a0,mk,F',U⟩:=(M i).ex;have a3:=a0;rw[Z i,hC]at a3;cases a3;exact QX mk F' (O i) (B i) a0 U .nil FZ (N i) J (V i) (q i)
def Its(x:Str):It:=⟨λi _=>i<x.cps.size,λi H y H'=>H'=H/\∃c,x.cps[i]? =some c/\y= .str ⟨#[c]⟩,λi _=>i=x.cps.size⟩
theorem Oo{P:ZL}{K:YS}{t:Tok}(hn:["enumerate","zip","dict_itemiterator","dict_reverseitemiterator","odict_iterator","itertools.zip_longest","itertools.pairwise"].contains T=false)
  (W:∀A:aad,A.handled=none->Walks P w A it [it] [it] x.cps.size (SignAt x) (λi h=>h.IsStrIter it T x t i)) (W':∀A i s Q E,s.heap.IsStrIter it T x t i->Q (.ref it) s->wpAny (model P w) A (ad5 (.ref it)) Q E s):Turn P w K tg (Its x) [it] it (λi h=>h.IsStrIter it T x t i)where
 mem:=by simp
 obj:=λi h st b U=>by
  have e:b=it:=by simpa using U
  subst e;obtain⟨o,e,c,d⟩:=st;exact⟨o,e,λv z=>by rw[d]at z;cases z⟩
 keep:=λi h h' st k=>let⟨o,ho,r⟩:=st;⟨o,k it (by simp) o ho,r⟩
 item:=by
  intro X q hw F Z i pins s σ H E I V st B;subst q hw F;obtain⟨f0,O,f2,f3,D,f5⟩:=V it (by simp);refine(W X.A (I.ok.hd Z)).item i s _ E B st λu h' tk J Y kp=>?_;obtain⟨c,tu,a0,rfl⟩:=J;have N:Inv X pins σ H {s with heap:=h',toks:=tk}:=I.turned (λb o U e=>kp b o (by simpa using U) e) f0 O f3 D f5;obtain⟨o,e,c1,d⟩:=id Y;exact⟨_,rfl,Gb (s:={s with heap:=h',toks:=tk}) e c1 d hn ⟨.str ⟨#[c]⟩,H,N,⟨tu,rfl⟩,⟨rfl,c,a0,rfl⟩,Y,λb U=>(V b U).1⟩⟩
 done:=by
  intro X q hw F Z i pins s σ H E I V st B;subst q hw F;obtain⟨f0,O,f2,f3,D,f5⟩:=V it (by simp);subst B;exact(W X.A (I.ok.hd Z)).done s _ E st λh' tk kp=>⟨rfl,I.turned (λb o U e=>kp b o (by simpa using U) e) f0 O f3 D f5⟩
 self:=λA i s Q E st h=>W' A i s Q E st h
def W_(te:TE):TI:=λσ H R=>te σ H λx H1=>∃y,x= .str y/\R (Its y) H1
variable{X:Cx}{te:TE}
theorem Ua(V:PE X e te):PI X tg e (W_ te):=by
 intro pins s σ H R I h;refine thn (V pins s σ H _ I h) λv F ⟨x,H1,N,J,y,ex,q⟩=>?_;subst ex;obtain⟨t,rfl⟩:=(show ∃t,v=aci y t from J);have B:∀(T:String)(o:Obj),["enumerate","zip","dict_itemiterator","dict_reverseitemiterator","odict_iterator","itertools.zip_longest","itertools.pairwise"].contains T=false->(∀A:aad,A.handled=none->Walks X.prog X.w A F.heap.objs.size [F.heap.objs.size] [F.heap.objs.size] y.cps.size (SignAt y) (λi h=>h.IsStrIter F.heap.objs.size T y t i))->
   (∀A i s Q E,s.heap.IsStrIter F.heap.objs.size T y t i->Q (.ref F.heap.objs.size) s->wpAny 1.12 A (ad5 (.ref F.heap.objs.size)) Q E s)->(F.heap.push o).IsStrIter F.heap.objs.size T y t 0->PIE X pins σ tg R (.ref F.heap.objs.size) {F with heap:=F.heap.push o}:=λT o hn W W' st=>by
  refine⟨F.heap.objs.size,[F.heap.objs.size],_,_,H1,rfl,N.kept (t':=F.toks) λb o e=>YM _ e,Oo hn W W',st,λb U=>?_,q⟩;have e:b=F.heap.objs.size:=by simpa using U
  subst e;exact N.fpOk (YX _) (N.hok.fresh (YX _))
 cases Y:y.cps.all (· <128)
 .exact wpAny_pyIter_wide Y (B _ _ (by decide) (λZ D=>Walks.strWide D _ y t) (λA i s Q E st h=>wpAny_pyIter_striter_wide st h) ⟨_,Zm _ rfl,rfl,rfl⟩)
 .exact wpAny_pyIter_ascii Y (B _ _ (by decide) (λZ D=>Walks.strAscii D _ y t) (λA i s Q E st h=>wpAny_pyIter_striter_ascii st h) ⟨_,Zm _ rfl,rfl,rfl⟩)
theorem Eh(Z:X.calm=true):gA X (.type "list") (λxs H Q=>∃a kvs,xs=[.ref a]/\Rd H a (.dK kvs)/\kvs.length<=1000000/\∀l,H l=none->Q (.ref l) (upd H l (.lst (kvs.map λp=>kV p.1)))):=by
 show 5;obtain⟨a,kvs,rfl,D,hl,q⟩:=h;obtain⟨u,rfl,ru⟩:=vals1 r;cases ru;obtain⟨O,hd,vs,rel,dd⟩:=qI I.hok D;obtain⟨ep,ob,es,g,x,d,J,r2,r3⟩:=dd.dictAt;have N:s.heap.DictAt (aY X.prog X.w) a vs ep:=⟨ob,es,g,x,d,J,r2,r3⟩;have U:kvs.length=vs.length:=rel.length;have h6:(1000000:Nat)<=YZ:=by decide
 refine PySem.W.kdl_call (afV (ep:=ep) (kvs:=vs) hd) (I.ok.hd Z) N 1.11 λh' tk acc c hk hD Y=>⟨.ref s.heap.objs.size,_,I.laid (t':=tk) hk (YX _) (show cT X.prog X.w _ h' _ (.lst (kvs.map λp=>kV p.1))from⟨by rw[Ze];omega,acc.toList,c,yS (by rw[aa3,Ze,Y.1];omega) λi y u h1 h2=>?_,by rw[Array.toArray_toList];exact hD⟩),rfl,q _ (I.hok.fresh (YX _))⟩;rw[List.getElem?_map]at h1;cases V:kvs[i]? with
 |none=>rw[V]at h1;cases h1
 |some F=>
  rw[V]at h1;cases h1;obtain⟨k,v,e1,e2⟩:=Y.2 i u (by rw[←abI];exact h2);have:=(tZ rel V e1).1;obtain rfl:F.1=k:=this;have B:uF F.1 u=true:=e2;rcases dz B with⟨j,t,z,rfl⟩|⟨x',t,z,rfl⟩
  .show L2.RelV (kV F.1) _;rw[z];exact⟨t,rfl⟩
  .show L2.RelV (kV F.1) _;rw[z];exact⟨t,rfl⟩
structure Glb(mg:Str->Option Value)(x:Str)(v:V):Prop where
 ex:∃u,mg x=some u/\RelV v u
def Fp(fe:En->Option D):En->Option (Bool×List D):=λρ=>match fe ρ with
 |some (.str y)=>some (true,y.cps.toList.map λc=>.str ⟨#[c]⟩)
 |_=>none
def vP:List D->Option D
 |[.dct _ ks _]=>if ks.length<=1000000 then some (.lst .own (ks.map kD))else none
 |_=>none
variable{X:ι->Cx}
theorem K7{i:Int}(g:Glb G.mg x (.int i))(B:∀c,Gl (X c) x:=by intro _;rfl)(Z:∀c,(X c).mg=G.mg:=by intro _;rfl)(hd:1.21=false:=by decide):PV X G ob (.Name x pos) (eC (.int i)):=let⟨u,h1,h2⟩:=g.ex;⟨_,λc=>Fj (B c) (by rw[Z c];exact h1) h2 hd,Di λ_ _=>by simp[Rep]⟩
theorem Kv(g:Glb G.mg x (.str y))(B:∀c,Gl (X c) x:=by intro _;rfl)(Z:∀c,(X c).mg=G.mg:=by intro _;rfl)(hd:1.21=false:=by decide):PV X G ob (.Name x pos) (eC (.str y)):=let⟨u,h1,h2⟩:=g.ex;⟨_,λc=>Fj (B c) (by rw[Z c];exact h1) h2 hd,Di λ_ _=>by simp[Rep]⟩
theorem Q3(h:RfE G ob te fe):RfI G ob (W_ te) (Fp fe):=λρ b items e σ H W V w R q=>by
 unfold Fp at e;split at e
 .rename_i y h1
  cases e;refine h ρ _ h1 σ H W V w _ λv H' L s r I nd=>?_;obtain⟨rfl,rfl⟩:=cB r;refine⟨y,rfl,q (Its y) H' s ⟨λi d e H2 N _=>?_,λi d e H2 N _ x Y U=>?_,λH2 N _=>?_⟩⟩
  .have:=(List.getElem?_eq_some_iff.mp e).1
   show i<y.cps.size;simpa using this
  .obtain⟨rfl,c,hc,rfl⟩:=U
   have:d= .str ⟨#[c]⟩:=by
    have J:y.cps.toList[i]? =some c:=by rw[abI];exact hc
    rw[List.getElem?_map,J]at e;exact(aah e).symm
   subst this;exact⟨Same.refl _,rn⟩
  .show(y.cps.toList.map _).length=_
   simp
 .cases e
theorem Qj(V:PV X G ob e fe):PVI X G ob tg e (Fp fe):=let⟨_,a1,a2⟩:=V.ex;⟨_,λc=>Ua (a1 c),Q3 a2⟩
theorem wz:∀ks:List Key,aH G H W (ks.map kD) (ks.map kV) []
 |[]=>.nil
 |.inl i::r=>aH.cons (M:=[]) (M':=[]) cX (wz r)
 |.inr y::r=>aH.cons (M:=[]) (M':=[]) rn (wz r)
theorem HF(Z:∀c,(X c).calm=true):CaB X G (.type "list") vP:=⟨_,λc=>Eh (Z c),λds d e xs H W J r nd hn w Q q=>by
 unfold vP at e;split at e
 .split at e
  .rename_i m ks ds' hl
   cases e;show 3;obtain⟨a,kvs,M,rfl,⟨rfl,_⟩,O,B⟩:=rx;refine⟨a,kvs,rfl,B.rdD,by simpa using hl,λl N=>?_⟩;have:=mZ (G:=G) (H:=H) (W:=W) (wz (kvs.map (·.1))) (λa Y=>by cases Y) ZR hn N q;rw[Zj]at this;exact this
  .cases e
 .cases e⟩
def Sx(i j k:Nat)(ta:TA):TS:=λD σ H=>ta σ H λvs H1=>∃v w z,vs=[v,w,z]/\D.nx (((σ.set i (some v)).set j (some w)).set k (some z)) H1
variable{X:Cx}{ta:TA}
theorem Rh{z:Str}{a b c:Expr}{pz pt:Pos}{kt k2 pt2}(Z:X.calm=true)(hN:X.N.Nodup)(hi:X.N[i]? =some x)(hj:X.N[j]? =some y)(hk:X.N[k]? =some z)(a0:i≠j/\i≠k/\j≠k)
  (J:X.env.scope.names.lookup x=some .local) (U:X.env.scope.names.lookup y=some .local) (hz:X.env.scope.names.lookup z=some .local) (Y:PA X [a,b,c] ta)
  (V:ab3 [.Tuple [.Name x px,.Name y py,.Name z pz] kt pt] (.Tuple [a,b,c] k2 pt2) X.env=pure (some [x,y,z]))
  (B:abp [.Tuple [.Name x px,.Name y py,.Name z pz] kt pt] (.Tuple [a,b,c] k2 pt2) pos.line X.env=pure false:=by rfl) :
  PS X (.Assign [.Tuple [.Name x px,.Name y py,.Name z pz] kt pt] (.Tuple [a,b,c] k2 pt2) pos) (Sx i j k ta):=by
 intro pins s σ H D I h;rw[adh];refine gD (abL ?_);rw[B];refine gD (YQ ?_);rw[Zk (by decide)];refine gD (Tuple_ (thn (Y _ pins s σ H _ I h) λus F ⟨vs,H1,I1,r1,q1⟩=>?_));obtain⟨v,w,o,e1,q1⟩:=q1;subst e1;obtain⟨u1,u2,u3,rfl,rv,a1,ro⟩:∃u1 u2 u3,us=[u1,u2,u3]/\RelV v u1/\RelV w u2/\RelV o u3:=by
  cases r1 with
  |cons p q=>
   cases q with
   |cons p' q'=>
    cases q' with
    |cons p2 q2=>cases q2;exact⟨_,_,_,rfl,p,p',p2⟩
 refine aat ?_ (by show 3<=YZ;decide);have I2:Inv X pins σ H1 {F with heap:=F.heap.push {cls:=.type "tuple",data:=.seq [u1,u2,u3].toArray}}:=I1.kept (t':=F.toks) λb o e=>YM _ e;rw[V];refine gD (YQ ?_);show wpAny 1.12 X.A (do rule "assign.swapped-stores";let items ←unpackItems (.ref F.heap.objs.size) 3 none;acW [λv=>acj X.env z v,λv=>acj X.env y v,λv=>acj X.env x v] items.reverse;pure afi) _ _ _;refine gD (adi (gD (unpackItems_tuple (items:=#[u1,u2,u3]) (I.ok.hd Z) (IsTup.new F.heap _) λh' a2=>?_)));have I3:=I2.kept (h':=h') (t':=F.toks) λb o e=>a2 b o (Zg (Y_ e)) e;show wpAny _ _ (acW [λv=>acj X.env z v,λv=>acj X.env y v,λv=>acj X.env x v] [u3,u2,u1] >>=λ_=>pure afi) _ _ _;refine gD (abA (acI (jX I3 hN hk (.inl hz) ro (λO I4=>?_) (.inr hz))));refine abA (acI (jX I4 hN hj (.inl U) a1 (λs3 I5=>?_) (.inr U)));refine abA (acI (jX I5 hN hi (.inl J) rv (λs4 I6=>adR (YQ ?_)) (.inr J)));rw[adJ _ _ (ZV a0.1),adJ _ _ (ZV a0.2.1),adJ _ _ (ZV a0.2.2)]at I6;exact⟨_,H1,I6,q1⟩
theorem JD(hi:P i=false)(hj:P j=false)(I:P k=false)(h:An G ob ta f):RfS G ob P (Sx i j k ta) (gk f (aQ (tgN i) (aQ (tgN j) (aQ (tgN k) cC)))):=λρ r e σ H S Fr s E q=>by
 unfold gk at e;cases h1:f ρ with
 |none=>simp[h1]at e
 |some p=>
  obtain⟨ds,ρ1⟩:=p;by_cases Z:az ds/\aB ds
  .cases h2:(aQ (tgN i) (aQ (tgN j) (aQ (tgN k) cC))) ds ρ1 with
   |none=>simp[h1,h2,Z]at e
   |some ρ2=>
    have:Fl.nx ρ2=r:=by simpa[h1,h2,Z]using e
    subst this;refine h ρ ds ρ1 h1 σ H S Fr s _ λvs H1 M S1 F J nd O=>?_;have hF:∀a∈M,¬Fr a:=λa Y z=>by
     rcases O.fm a Y with q|q
     .exact s.notO z q
     .obtain⟨o,N,_⟩:=s.fdm a z
      rw[q]at N;cases N
    have V:=lr (iM (G:=G) (ob:=ob) hi) (lr (iM hj) (lr (iM I) vN)) ds ρ1 ρ2 Z.1 Z.2 h2 vs σ H1 S1 M Fr F J nd hF (λB H'=>E.nx B H') λB H' S' s' m=>q B H' S' s' ⟨λb u U n1 n2=>?_,λi a z=>?_,m.pr⟩
    .obtain⟨v,rr,e1,v2,r2,e2,v3,r3,e4,e3,k⟩:=V
     subst e3;exact⟨v,v2,v3,by rw[e1,e2,e4],k⟩
    .have hno:¬inO ob S b:=λ⟨i,_,z⟩=>n1 ⟨i,z⟩
     refine m.kp b u (O.kp b u U hno) (λ⟨i,z⟩=>?_) λz=>(O.fm b z).elim hno λz=>by rw[U]at z;cases z
     cases N:ob i with
     |false=>rw[O.sn i N]at z;exact n1 ⟨i,z⟩
     |true=>exact(O.gr i b N z).elim hno λz=>by rw[U]at z;cases z
    .rcases m.gr i a z with⟨j,z⟩|z|z
     .cases N:ob j with
      |false=>rw[O.sn j N]at z;exact .inl ⟨j,z⟩
      |true=>exact(O.gr j a N z).imp (λ⟨k,_,z⟩=>⟨k,z⟩) .inr
     .exact(O.fm a z).imp (λ⟨k,_,z⟩=>⟨k,z⟩) .inr
     .exact(O.back z).imp (λ⟨k,_,z⟩=>⟨k,z⟩) .inr
  .simp[h1,Z]at e
variable{X:ι->Cx}
theorem JW(i j k:Nat){z:Str}{a b c:Expr}{pz pt:Pos}{kt k2 pt2}{f:En->Option (List D)}(Z:∀c,(X c).calm=true)(q:∀c,(X c).N.Nodup)(Y:PVA X G ob [a,b,c] f)(hP:P i=false/\P j=false/\P k=false:=by exact⟨rfl,rfl,rfl⟩)(hi:∀c,(X c).N[i]? =some x:=by intro _;rfl)(F:∀c,(X c).N[j]? =some y:=by intro _;rfl)(I:∀c,(X c).N[k]? =some z:=by intro _;rfl)(a0:i≠j/\i≠k/\j≠k:=by decide)(J:∀c,(X c).env.scope.names.lookup x=some .local:=by intro _;rfl)(U:∀c,(X c).env.scope.names.lookup y=some .local:=by intro _;rfl)(O:∀c,(X c).env.scope.names.lookup z=some .local:=by intro _;rfl)
 (V:∀i,ab3 [.Tuple [.Name x px,.Name y py,.Name z pz] kt pt] (.Tuple [a,b,c] k2 pt2) (X i).env=pure (some [x,y,z]):=by intro _;rfl) (B:∀i,abp [.Tuple [.Name x px,.Name y py,.Name z pz] kt pt] (.Tuple [a,b,c] k2 pt2) pos.line (X i).env=pure false:=by intro _;rfl) :
 PVS X G ob P (.Assign [.Tuple [.Name x px,.Name y py,.Name z pz] kt pt] (.Tuple [a,b,c] k2 pt2) pos) (gk (dM f) (aQ (tgN i) (aQ (tgN j) (aQ (tgN k) cC)))):=let⟨t,a1,a2⟩:=Y.ex;⟨_,λc=>Rh (Z c) (q c) (hi c) (F c) (I c) a0 (J c) (U c) (O c) (a1 c) (V c) (B c),JD hP.1 hP.2.1 hP.2.2 (Ab a2)⟩
def oH:List D->Option D
 |[.dct m ks _]=>if(m== .scr)=false/\ks.length<64 then(uf ks).map λys=>.lst .own ((U5 ys).map D.str)else none
 |_=>none
theorem Bf(A:aad)(hA:∀c,(X c).A=A)(J:A.units+2<cLine)(Z:∀c,(X c).calm=true):CaB X G (.builtin "sorted") oH:=by
 refine⟨Kd A,λc=>by rw[←hA c];exact zu (Z c),λds d e xs H W L0 r nd hn w Q q=>?_⟩;unfold oH at e;split at e
 .split at e
  .rename_i m ks es hm
   cases B:uf ks with
   |none=>rw[B]at e;cases e
   |some ys=>
    rw[B]at e;cases e;show 3;obtain⟨a,kvs,M,rfl,⟨h1,h2⟩,O,z⟩:=rx;have I:=CG B;have U:aH G H W ((ys.map λy=>[y]).map fS) (ys.map V.str) []:=by
     rw[Zj];exact Bt ys
    refine⟨a,kvs,ys,rfl,.inl (z.at2 hm.1),h1.trans I,by have:=hm.2;rw[I]at this;simpa using this,J,λp F hw l N=>?_⟩;obtain⟨M',p1,r1⟩:=wL U F hw;have e1:(zr (ys.map λy=>[y])).map fS=(U5 ys).map D.str:=by rw[U5,Zj];rfl
    rw[e1]at r1;have e3:M'=[]:=p1.eq_nil;subst e3;exact mZ r1 (λa Y=>by cases Y) ZR hn N q
  .cases e
 .cases e
def dJ:List D->Option D:=fnP 2 4 ((bf (cN 1.27 (tgN 2))
 (bf (sIf (eB (e2 gLt 1.20 (eAp fQ (ak 1.18 aK)))) (cN (e2 gIx 1.18 1.20) (tgN 2)) dO)
 (bf (cN (e2 mq (eAp t_ (ak (ao false 2) aK)) (eAp qT (ak (e2 gGe (eAp t_ (ak (ao false 2) aK)) (e2 nM (eC (.int 10)) (eC (.int 18)))) aK))) (tgN 3))
 (fP (eAp dN (ak (ao false 3) (ak (e2 mC (e2 mq (e2 mC (e2 fG (e2 fG (ao false 2) (e2 mq (eC (.int 7919)) 1.20)) (eC (.int 1))) (eC (.int 2147483647))) (eC (.int 48271))) (eC (.int 2147483647))) aK))))))))
def aP:List D->Option (D×List D):=fnI (λi=>i==0) 2 4 ((bf (sIf (eB (e2 gGt (e2 gIx (ao true 0) 1.27) 1.27)) (bf (cN (e2 mC (e2 gIx (ao true 0) 1.27) 1.20) (tgN 2))
 (bf (cN (e2 mX (e2 gIx (ao true 0) 1.27) 1.20) (gw fU 0 (cz 0) 1.27))
 (fH 2))) dO)
 (bf (cN (e2 mC (e2 fG (e2 mq (e2 gIx (ao true 0) (eC (.int 1))) (eC (.int 48271))) (eC (.int 39373))) (eC (.int 2147483647))) (gw fU 0 (cz 0) (eC (.int 1))))
 (bf (cN (e2 mX (e2 gIx (ao true 0) (eC (.int 1))) (eC (.int 64))) (tgN 3))
 (fP (e2 mC (e2 mX (e2 mC (e2 mq (ao false 3) (e2 fG (e2 mC (ao false 3) (eC (.int 1009))) (eC (.int 3)))) (eC (.int 998244353))) (eC (.int 64))) 1.20))))))
def fZ:List D->Option (D×List D):=fnI (λi=>i==0) 1 5 ((bf (cN (eMt vZ (eC (.str "b aa zebra c quartzes ab m knows d mm likes z a ba abcdefgh y q qq x yx")) (ak (eC (.str " ")) aK)) (tgN 1))
 (bf (b7 (eIo aP [0] (dM (ak (eC (.int 8)) aK))) (tgN 2))
 (bf (b7 (ee2 fG (eUp (eC (.int 4))) (eIo aP [0] (dM (ak (eC (.int 5)) aK)))) (tgN 3))
 (bf (sIf (eB (e2 gEq (ao false 2) 1.27)) (b7 (ee2 fG (eUp (eC (.int 10))) (eIo aP [0] (dM (ak (eC (.int 11)) aK)))) (tgN 3)) dO)
 (bf (sIf (eB (e2 gEq (ao false 2) (eC (.int 1)))) (b7 (eIo aP [0] (dM (ak (eC (.int 3)) aK))) (tgN 3)) dO)
 (bf (b7 (eIo aP [0] (dM (ak (eC (.int 20)) aK))) (tgN 4))
 (fP (eSl (e2 fG (eSl 1.20 (gq (ao false 4)) gB) (eSl 1.20 gB (gq (ao false 4)))) gB (gq (ao false 3)))))))))))
def gG:List D->Option (D×List D):=fnI (λi=>i==0) 1 1 ((iJ (ee2 gIx (eUp (eAp dN (ak 1.27 (ak (eC (.int 1)) (ak (eC (.int 2)) (ak (eC (.int 3)) (ak (eC (.int 7)) (ak (eC (.int 1000)) (ak 1.27 (ak (eC (.int 2)) aK)))))))))) (eIo aP [0] (dM (ak (eC (.int 8)) aK))))))
def dW:List D->Option (D×List D):=fnI (λi=>i==0) 1 1 ((bf (mV (eeB (ee2 gEq (eIo aP [0] (dM (ak (eC (.int 6)) aK))) (eUp 1.27))) (iJ (ee2 gIx (mO dN (fO (eUp (e2 nM (eC (.int 10)) (eC (.int 12)))) (fO (eUp (e1 ie (e2 nM (eC (.int 10)) (eC (.int 12))))) (fO (ee2 jq (eUp (e2 jq (e2 nM (eC (.int 10)) (eC (.int 12))) (eC (.int 1)))) (eIo aP [0] (dM (ak (eC (.int 9)) aK)))) (dM (ak (eC (.int 999)) aK)))))) (eIo aP [0] (dM (ak (eC (.int 4)) aK))))) dO)
 (iJ (ee2 jq (eIo aP [0] (dM (ak (eC (.int 15)) aK))) (eUp (eC (.int 7)))))))
def gj:List D->Option (D×List D):=fnI (λi=>i==0) 2 2 ((iJ (mO oG (fO (iI [none,some 0] (itS 1.20) (tgN 0) eTT (mO bL (fO (eUp 1.18) (fO (eIo dW [1] (dM aK)) (dM aK))))) (dM aK)))))
def jk:List D->Option D:=fnP 1 1 ((bf (sIf (lZ (jK (eAp iT (ak 1.18 (ak (eC (.ty "str")) aK))))) (fP (eC (.bl false))) dO)
 (bf (sIf (eOr (eB (e2 gLt (eAp fQ (ak 1.18 aK)) (eC (.int 1)))) (eB (e2 gGt (eAp fQ (ak 1.18 aK)) (eC (.int 8))))) (fP (eC (.bl false))) dO)
 (fP (eAp Tq (ak (fV [none] (Fp 1.18) (tpN 0) eTT (e2 gIn 1.18 (eC (.str "abcdefghijklmnopqrstuvwxyz")))) aK))))))
def fX:List D->Option D:=fnP 3 3 ((sIf (eOr (lZ (jK (eAp (bI jk) (ak 1.20 aK)))) (eB (e2 gIn 1.20 1.18))) oV dO))
def eE:List D->Option D:=fnP 1 3 ((jg (itE (ak 1.18 aK)) (tgT 2 (aQ (tgN 1) (aQ (tgN 2) cC))) (sEx (eUp (eAp (bI fX) (ak (eSl 1.18 gB (gq 1.20)) (ak (ao false 2) (ak 1.20 aK))))))))
def bF:List D->Option (D×List D):=fnI (λi=>i==0) 3 3 ((bf (sEx (eUp (eAp (bI eE) (ak 1.20 aK))))
 (bf (b7 (eUp (ao false 2)) (lU "Stack" "turn" 0 (cz 0)))
 (bf (b7 (eUp (m7 [none] (itS 1.20) (tpN 0) eTT 1.18 1.27)) (lU "Stack" "weights" 0 (cz 0)))
 (bf (b7 (eUp (eAp DW aK)) (lU "Stack" "behind" 0 (cz 0)))
 (bf (b7 (eUp (m7 [none] (itS 1.20) (tpN 0) eTT 1.18 (eC (.int 1)))) (lU "Stack" "sizes" 0 (cz 0)))
 (bf (b7 (eUp (eAp dN aK)) (lU "Stack" "done" 0 (cz 0)))
 (b7 (eUp 1.27) (lU "Stack" "looked" 0 (cz 0))))))))))
def dZ:List D->Option (D×List D):=fnI (λi=>i==0) 4 7 ((bf (b7 (ee2 gIx (eUp 1.20) (eIo aP [0] (dM (ak (eAp fQ (ak 1.20 aK)) aK)))) (tgN 4))
 (bf (b7 (ee2 gIx (eUp 1.20) (eIo aP [0] (dM (ak (eAp fQ (ak 1.20 aK)) aK)))) (tgN 5))
 (bf (b7 (ee2 fG (eUp (e2 jq (e2 gIx (ao false 2) (ao false 5)) (e2 gIx (ao false 2) (ao false 4)))) (ee2 mq (eUp (ao false 3)) (ee2 jq (eIo aP [0] (dM (ak (eC (.int 3)) aK))) (eUp (eC (.int 1)))))) (tgN 6))
 (bf (mV (eeB (ee2 gEq (eIo aP [0] (dM (ak (eC (.int 3)) aK))) (eUp 1.27))) (b7 (ee2 fG (eUp (ao false 6)) (eIo dW [0] (dM aK))) (tgN 6)) dO)
 (fP (eAp bL (ak (ao false 4) (ak (ao false 5) (ak (eAp G8 (ak (e1 ie (e2 nM (eC (.int 10)) (eC (.int 12)))) (ak (eAp lF (ak (e2 nM (eC (.int 10)) (eC (.int 12))) (ak (ao false 6) aK))) aK))) aK))))))))))
def dH:List D->Option D:=fnP 2 6 ((bf (cN (eAp dN aK) (tgN 2))
 (bf (jg (itS 1.20) (tgT 3 (aQ (tgN 3) (aQ (tgN 4) (aQ (tgN 5) cC)))) (bf (sIf (eB (e2 gEq (ao false 3) 1.18)) (i_ aV 2 (cz 2) (ak (eAp bL (ak (ao false 4) (ak (ao false 5) aK))) aK)) dO)
 (sIf (eB (e2 gEq (ao false 4) 1.18)) (i_ aV 2 (cz 2) (ak (eAp bL (ak (ao false 3) (ak (e2 jq 1.27 (ao false 5)) aK))) aK)) dO)))
 (fH 2))))
def eX:List D->Option D:=fnP 2 8 ((bf (cN (eAp DW aK) (tgN 2))
 (bf (jg (itS (eAp nF (ak 1.18 aK))) (tgN 3) (sIf (eB (e2 ji (ao false 3) (ao false 2))) (bf (cN (eAp bL (ak (ao false 3) (ak 1.27 aK))) (gw fU 2 (cz 2) (ao false 3)))
 (bf (cN (eAp dN (ak (ao false 3) aK)) (tgN 4))
 (bf (cN 1.27 (tgN 5))
 (km (kO (eB (e2 gLt (ao false 5) (eAp fQ (ak (ao false 4) aK))))) (bf (jg (itS (eAp (bI dH) (ak (e2 gIx (ao false 4) (ao false 5)) (ak 1.20 aK)))) (tgT 2 (aQ (tgN 6) (aQ (tgN 7) cC))) (sIf (eB (e2 ji (ao false 6) (ao false 2))) (bf (cN (eAp bL (ak (ao false 3) (ak (e2 fG (e2 gIx (e2 gIx (ao false 2) (e2 gIx (ao false 4) (ao false 5))) (eC (.int 1))) (ao false 7)) aK))) (gw fU 2 (cz 2) (ao false 6)))
 (i_ aV 4 (cz 4) (ak (ao false 6) aK))) dO))
 (cN (e2 fG (ao false 5) (eC (.int 1))) (tgN 5))) 1000000)))) dO))
 (fH 2))))
def cP:List D->Option (D×List D):=fnI (λi=>i==0) 2 4 ((bf (cN (e2 gIx (e1 (gY "Stack" "behind") (ao true 0)) 1.20) (tgT 2 (aQ (tgN 2) (aQ (tgN 3) cC))))
 (bf (vQ (λi j=>i-j) 0 (mU 0 (cz 0) "Stack" "sizes") (ao false 2) (e2 gIx (e1 (gY "Stack" "sizes") (ao true 0)) 1.20))
 (Oi 0 (mU 0 (cz 0) "Stack" "behind") 1.20))))
def cM:List D->Option (D×List D):=fnI (λi=>i==0) 1 3 ((bf (sIf (eB (e2 gEq (eAp fQ (ak (e1 (gY "Stack" "done") (ao true 0)) aK)) 1.27)) (fP (eC .non)) dO)
 (bf (b7 (jE vY 0 (mU 0 (cz 0) "Stack" "done") aK) (tgT 2 (aQ (tgN 1) (aQ (tgN 2) cC))))
 (bf (sIf (eB (e2 gEq (e2 gIx 1.20 1.27) (eC (.str "weigh")))) (cN (ao false 2) (gw fU 0 (mU 0 (cz 0) "Stack" "weights") (e2 gIx 1.20 (eC (.int 1))))) (sIf (eB (e2 m9 (ao false 2) (eC .non))) (sEx (qp "Stack" "unhang" cP 0 (dM (ak (ao false 2) aK)))) dO))
 (fH 1)))))
def bM:List D->Option D:=fnP 2 2 ((sIf (eB (e2 ji 1.20 1.18)) oV dO))
def dm:List D->Option (D×List D):=fnI (λi=>i==0) 3 3 ((bf (sEx (eUp (eAp (bI bM) (ak (e1 (gY "Stack" "weights") (ao true 0)) (ak 1.20 aK)))))
 (bf (i_ aV 0 (mU 0 (cz 0) "Stack" "done") (ak (eAp bL (ak (eAp bL (ak (eC (.str "weigh")) (ak 1.20 (ak (ao false 2) aK)))) (ak (e2 gIx (e1 (gY "Stack" "weights") (ao true 0)) 1.20) aK))) aK))
 (cN (ao false 2) (gw fU 0 (mU 0 (cz 0) "Stack" "weights") 1.20)))))
def cV:List D->Option D:=fnP 2 2 ((bf (sIf (eB (e2 gIs 1.20 (eC .non))) oV dO)
 (bf (sIf (jK (eAp iT (ak 1.20 (ak (eC (.ty "bool")) aK)))) oV dO)
 (bf (sIf (jK (eAp iT (ak 1.20 (ak (eAp bL (ak (eC (.ty "list")) (ak (eC (.ty "tuple")) aK))) aK)))) (bf oV
 oV) dO)
 (bf (sIf (jK (eAp iT (ak 1.20 (ak (eC (.ty "str")) aK)))) oV dO)
 (fP (pF (eAp iT (ak 1.18 (ak (eC (.ty "int")) aK))) (pF (e1 Jf (eAp iT (ak 1.18 (ak (eC (.ty "bool")) aK)))) (e2 gEq 1.18 1.20)))))))))
def aW:List D->Option D:=fnP 2 3 ((bf (sEx (eUp (eAp (bI bM) (ak (e1 (gY "Stack" "weights") 1.18) (ak 1.20 aK)))))
 (bf (cN (eAp dN (ak 1.20 aK)) (tgN 2))
 (bf (km (kO (eB (e2 gIn (e2 gIx (ao false 2) (e1 ie (eC (.int 1)))) (e1 (gY "Stack" "behind") 1.18)))) (i_ aV 2 (cz 2) (ak (e2 gIx (e2 gIx (e1 (gY "Stack" "behind") 1.18) (e2 gIx (ao false 2) (e1 ie (eC (.int 1))))) 1.27) aK)) 1000000)
 (fH 2)))))
def bZ:List D->Option D:=fnP 2 2 ((fP (e2 gIx (e1 (gY "Stack" "sizes") 1.18) (e2 gIx (eMt (dB "Stack" "chain" aW) 1.18 (ak 1.20 aK)) (e1 ie (eC (.int 1)))))))
def gO:List D->Option D:=fnP 2 2 ((fP (eAp zz (ak (fV [none,some 1] (itS 1.18) (tpN 0) eTT (e2 gIx 1.20 1.18)) aK))))
def dU:List D->Option D:=fnP 2 8 ((bf (cN (Ce (vL 1.20 (eAp bL aK) Ga)) (tgN 2))
 (bf (cN (eAp dN (ak 1.20 aK)) (tgN 3))
 (bf (km (kO (jK (ao true 3))) (bf (b7 (jE lK 3 (cz 3) (ak 1.27 aK)) (tgN 4))
 (jg (itS (e2 gIx 1.18 (ao false 4))) (tgT 3 (aQ (tgN 5) (aQ (tgN 6) (aQ (tgN 7) cC)))) (sIf (eB (e2 ji (ao false 7) (ao false 2))) (bf (cN (e2 fG (e2 gIx (ao false 2) (ao false 4)) (eAp bL (ak (eAp bL (ak (ao false 5) (ak (ao false 6) aK))) aK))) (gw fU 2 (cz 2) (ao false 7)))
 (i_ aV 3 (cz 3) (ak (ao false 7) aK))) dO))) 1000000)
 (fH 2)))))
def cQ:List D->Option D:=fnP 2 7 ((bf (cN (m7 [none] (itS 1.18) (tpN 0) eTT 1.18 (eAp dN aK)) (tgN 2))
 (bf (jg (itE (ak 1.20 aK)) (tgT 2 (aQ (tgN 3) (aQ (tgT 3 (aQ (tgN 4) (aQ (tgN 5) (aQ (tgN 6) cC)))) cC))) (bf (i_ aV 2 (mW 2 (cz 2) (ao false 4)) (ak (eAp bL (ak (ao false 3) (ak (eC (.int 1)) (ak (ao false 5) aK)))) aK))
 (i_ aV 2 (mW 2 (cz 2) (ao false 5)) (ak (eAp bL (ak (ao false 3) (ak (e1 ie (eC (.int 1))) (ak (ao false 4) aK)))) aK))))
 (fH 2))))
def fj:List D->Option D:=fnP 3 3 ((fP (eAp oH (ak (eAp (bI dU) (ak (eAp (bI cQ) (ak 1.18 (ak 1.20 aK))) (ak (ao false 2) aK))) aK))))
def bA:List D->Option D:=fnP 1 1 ((fP (fV [none,none] (itS (e1 (gY "Stack" "done") 1.18)) (tpT 2 (aQ (tpN 0) (aQ (tpN 1) cC))) (eB (e2 gEq (e2 gIx 1.18 1.27) (eC (.str "join")))) (eSl 1.18 (gq (eC (.int 1))) gB))))
def bR:List D->Option D:=fnP 2 2 ((bf (sEx (eUp (eAp (bI bM) (ak (e1 (gY "Stack" "weights") 1.18) (ak 1.20 aK)))))
 (fP (eAp (bI fj) (ak (eAp vP (ak (e1 (gY "Stack" "weights") 1.18) aK)) (ak (eMt (dB "Stack" "standing" bA) 1.18 aK) (ak 1.20 aK)))))))
def cu:List D->Option D:=fnP 2 2 ((fP (eAp (bI gO) (ak (eMt (dB "Stack" "class_of" bR) 1.18 (ak 1.20 aK)) (ak (e1 (gY "Stack" "weights") 1.18) aK)))))
def d9:List D->Option D:=fnP 2 2 ((bf (sIf (eB (e2 gEq 1.18 1.27)) (fH 1) dO)
 (fP (e2 mC 1.20 1.18))))
def bw:List D->Option D:=fnP 2 2 ((fP (eAp zz (ak (fV [none,some 0] (itS (eSl 1.20 gB (gq (e1 ie (eC (.int 1)))))) (tpN 0) eTT (e2 gIx (e2 gIx (e1 (gY "Stack" "behind") 1.20) 1.18) (eC (.int 1)))) aK))))
def dq:List D->Option (D×List D):=fnI (λi=>i==0) 3 5 ((bf (sEx (eUp (eAp (bI bM) (ak (e1 (gY "Stack" "weights") (ao true 0)) (ak 1.20 aK)))))
 (bf (sEx (eUp (eAp (bI bM) (ak (e1 (gY "Stack" "weights") (ao true 0)) (ak (ao false 2) aK)))))
 (bf (sIf (eB (e2 gEq 1.20 (ao false 2))) (bf (b7 (eUp (eC (.int 1))) (lU "Stack" "looked" 0 (cz 0)))
 (fP 1.27)) dO)
 (bf (aG (ak (eMt (dB "Stack" "chain" aW) (ao true 0) (ak 1.20 aK)) (ak (eMt (dB "Stack" "chain" aW) (ao true 0) (ak (ao false 2) aK)) aK)) (aQ (tgN 3) (aQ (tgN 4) cC)))
 (bf (b7 (eUp (eAp pY (ak (e2 fG (ao false 3) (ao false 4)) aK))) (lU "Stack" "looked" 0 (cz 0)))
 (bf (sIf (eB (e2 gNe (e2 gIx (ao false 3) (e1 ie (eC (.int 1)))) (e2 gIx (ao false 4) (e1 ie (eC (.int 1)))))) (fP (eC .non)) dO)
 (fP (eAp (bI d9) (ak (e1 (gY "Stack" "turn") (ao true 0)) (ak (e2 jq (eMt (dB "Stack" "offset" bw) (ao true 0) (ak (ao false 4) aK)) (eMt (dB "Stack" "offset" bw) (ao true 0) (ak (ao false 3) aK))) aK)))))))))))
def dF:List D->Option (D×List D):=fnI (λi=>i==0) 4 9 ((bf (aG (ak (eMt (dB "Stack" "chain" aW) (ao true 0) (ak 1.20 aK)) (ak (eMt (dB "Stack" "chain" aW) (ao true 0) (ak (ao false 2) aK)) aK)) (aQ (tgN 4) (aQ (tgN 5) cC)))
 (bf (cN (e2 jq (e2 fG (eMt (dB "Stack" "offset" bw) (ao true 0) (ak (ao false 4) aK)) (ao false 3)) (eMt (dB "Stack" "offset" bw) (ao true 0) (ak (ao false 5) aK))) (tgN 6))
 (bf (aG (ak (e2 gIx (ao false 4) (e1 ie (eC (.int 1)))) (ak (e2 gIx (ao false 5) (e1 ie (eC (.int 1)))) aK)) (aQ (tgN 7) (aQ (tgN 8) cC)))
 (bf (sIf (eB (e2 gLt (e2 gIx (e1 (gY "Stack" "sizes") (ao true 0)) (ao false 7)) (e2 gIx (e1 (gY "Stack" "sizes") (ao true 0)) (ao false 8)))) (gk (dM (ak (ao false 8) (ak (ao false 7) (ak (e1 ie (ao false 6)) aK)))) (aQ (tgN 7) (aQ (tgN 8) (aQ (tgN 6) cC)))) dO)
 (bf (cN (eAp bL (ak (ao false 7) (ak (ao false 6) aK))) (gw fU 0 (mU 0 (cz 0) "Stack" "behind") (ao false 8)))
 (bf (vQ (λi j=>i+j) 0 (mU 0 (cz 0) "Stack" "sizes") (ao false 7) (e2 gIx (e1 (gY "Stack" "sizes") (ao true 0)) (ao false 8)))
 (fH 8))))))))
def dI:List D->Option (D×List D):=fnI (λi=>i==0) 4 7 ((bf (b7 (qp "Stack" "steps" dq 0 (dM (ak 1.20 (ak (ao false 2) aK)))) (tgN 4))
 (bf (sIf (qw (eB (e2 m9 (ao false 4) (eC .non))) (eB (e2 gNe (ao false 4) (eAp (bI d9) (ak (e1 (gY "Stack" "turn") (ao true 0)) (ak (ao false 3) aK)))))) (fP (eAp bL (ak (eC (.str "clash")) (ak (ao false 4) aK)))) dO)
 (bf (cN (eAp fQ (ak (eMt (dB "Stack" "standing" bA) (ao true 0) aK) aK)) (tgN 5))
 (bf (b7 (aJ (kO (eB (e2 gIs (ao false 4) (eC .non)))) (qp "Stack" "hang" dF 0 (dM (ak 1.20 (ak (ao false 2) (ak (ao false 3) aK))))) (eUp (eC .non))) (tgN 6))
 (bf (i_ aV 0 (mU 0 (cz 0) "Stack" "done") (ak (eAp bL (ak (eAp bL (ak (eC (.str "join")) (ak 1.20 (ak (ao false 2) (ak (ao false 3) aK))))) (ak (ao false 6) aK))) aK))
 (fP (eAp bL (ak (aR (eB (e2 gIs (ao false 4) (eC .non))) (eC (.str "joined")) (eC (.str "known"))) (ak (ao false 5) aK))))))))))
def m6:List D->Option D:=fnP 1 15 ((bf (cN (eAp (bI dJ) (ak 1.18 (ak 1.27 aK))) (tgN 1))
 (bf (b7 (eIo fZ [1] (dM aK)) (tgN 2))
 (bf (b7 (eIo gG [1] (dM aK)) (tgN 3))
 (bf (b7 (eIo gj [1] (dM (ak (ao false 2) aK))) (tgN 4))
 (bf (cN (eAp (uh "Stack" bF) (ak (eAp Fe (ak (ao false 2) aK)) (ak (ao false 3) aK))) (tgN 5))
 (bf (cN (eAp dN aK) (tgN 6))
 (bf (jg (mR (ak (e2 mq (e2 fG (eC (.int 10)) (eAp lF (ak (eC (.int 30)) (ak (eAp fQ (ak 1.18 aK)) aK)))) (eAp qT (ak (e2 gNe (ao false 2) (eAp dN aK)) aK))) aK)) (tgN 7) (bf (cN (eAp (bI dJ) (ak 1.18 (ak (e2 fG (ao false 7) (eC (.int 1))) aK))) (tgN 1))
 (bf (b7 (eIo aP [1] (dM (ak (eC (.int 5)) aK))) (tgN 8))
 (bf (b7 (eIo dZ [1] (dM (ak (ao false 2) (ak (ao false 4) (ak (ao false 3) aK))))) (tgN 9))
 (bf (sIf (eB (e2 gEq (ao false 8) 1.27)) (bf (sEx (qp "Stack" "back" cM 5 (dM aK)))
 (cN (eSl (ao false 6) gB (gq (e1 ie (eC (.int 1))))) (tgN 6))) (sIf (eB (e2 gLt (ao false 8) (eC (.int 3)))) (bf (b7 (eIo dW [1] (dM aK)) (tgN 10))
 (bf (sEx (qp "Stack" "weigh" dm 5 (dM (ak (e2 gIx (ao false 9) 1.27) (ak (ao false 10) aK)))))
 (i_ aV 6 (cz 6) (ak (eAp bL (ak (eC (.str "weigh")) (ak (e2 gIx (ao false 9) 1.27) (ak (ao false 10) aK)))) aK)))) (mV (eeB (ee2 gNe (ee2 gIx (qp "Stack" "join" dI 5 (dM (ak (e2 gIx (ao false 9) 1.27) (ak (e2 gIx (ao false 9) (eC (.int 1))) (ak (e2 gIx (ao false 9) (eC (.int 2))) aK))))) (eUp 1.27)) (eUp (eC (.str "clash"))))) (i_ aV 6 (cz 6) (ak (e2 fG (eAp bL (ak (eC (.str "join")) aK)) (ao false 9)) aK)) dO)))
 (bf (cN (eAp (bI eX) (ak (ao false 2) (ak (fV [none] (itS (ao false 6)) (tpN 0) (eB (e2 gEq (e2 gIx 1.18 1.27) (eC (.str "join")))) (eSl 1.18 (gq (eC (.int 1))) gB)) aK))) (tgN 11))
 (bf (cN (eAp oG (ak (fV [none] (itS (ao false 6)) (tpN 0) (eB (e2 gEq (e2 gIx 1.18 1.27) (eC (.str "weigh")))) (eAp bL (ak (e2 gIx 1.18 (eC (.int 1))) (ak (e2 gIx 1.18 (eC (.int 2))) aK)))) aK)) (tgN 12))
 (sFz 2 (jg (itS (ao false 2)) (tgN 13) (bf (cN (fV [none,some 11,some 13] (itS (ao false 2)) (tpN 0) (eB (e2 gEq (e2 gIx (e2 gIx 1.20 1.18) 1.27) (e2 gIx (e2 gIx 1.20 (ao false 2)) 1.27))) 1.18) (tgN 14))
 (bf (sIf (lZ (jK (eAp (bI cV) (ak (eMt (dB "Stack" "size_of" bZ) (ao true 5) (ak (ao false 13) aK)) (ak (eAp fQ (ak (ao false 14) aK)) aK))))) (fP (eC (.bl false))) dO)
 (sIf (lZ (jK (eAp (bI cV) (ak (eMt (dB "Stack" "sum_of" cu) (ao true 5) (ak (ao false 13) aK)) (ak (eAp zz (ak (fV [none,some 12] (itS (ao false 14)) (tpN 0) eTT (eMt Ds 1.20 (ak 1.18 (ak 1.27 aK)))) aK)) aK))))) (fP (eC (.bl false))) dO))))))))))))
 (fP (eC (.bl true)))))))))))
abbrev tp(a b:Int):D:=.lst .own [.int a,.int b]
def Dr(m:Int)(q:D×List D):Prop:=∃r B N:Int,q=(.int r,[tp B N,.int m])/\0<=r/\r<m/\0<=B
local macro_rules
 |`(tactic|simp_arith[$xs,*])=>`(tactic|simp[aN,iU,aZ,fB,w_ite,lX,cN,b7,gk,sIf,mV,fP,iJ,fH,dO,jg,n_,sFz,jU,i_,jE,upS,tgN,tgT,aQ,cC,gw,tpN,tpT,cz,mW,ao,eC,aK,ak,eAp,eUp,kO,dM,ee2,fO,mO,e2,e1,eB,eeB,jK,qw,eOr,lZ,nT,pF,eTT,isB,mR,itS,itE,n6,cL,fV,iI,eSl,uW,oZ,mF,gB,gq,eMt,uO,eIo,objs,iH,bI,fu,fY,clean,aD,aC,az,aB,b8,bY,view,cU,mkV,mkF,fz,fzL,fzo,g_,mkO,fnP,fnI,en0,outs,gF,e_,obC,truth,$xs,*])
variable{a b:Int}
theorem KZ{m:Int}(Y:0<=a)(Z:0<m)(z:m<2 ^ 60):∃r B N,aP [tp a b,.int m]=some (.int r,[tp B N,.int m])/\0<=r/\r<m/\0<=B:=by
 have h2:m<18446744073709551616:=by omega
 have J:∀x:Int,-18446744073709551616<x % 1009+3/\x % 1009+3<18446744073709551616:=λx=>by omega
 have V:Wp (aP [tp a b,.int m]) (Dr m):=by
  by_cases h:0<a
  .simp_arith[aP,sEx,aG,aR,aJ,fG,jq,mq,mX,mC,nM,ie,gLt,gGt,gGe,gIx,dN,bL,fQ,t_,qT,lF,gIs,jf,atI,ixN,aV,fU,gSl,uG,pK,h,Z,h2,J]
   exact⟨_,_,_,rfl,af0 _ 1.11,afw _ Z,Int.ediv_nonneg Y 1.11⟩
  .simp_arith[aP,sEx,aG,aR,aJ,fG,jq,mq,mX,mC,nM,ie,gLt,gGt,gGe,gIx,dN,bL,fQ,t_,qT,lF,gIs,jf,atI,ixN,aV,fU,gSl,uG,pK,h,Z,h2,J]
   exact⟨_,_,_,rfl,af0 _ 1.11,afw _ Z,Y⟩
 obtain⟨q,e,r,B,N,rfl,h⟩:=V;exact⟨r,B,N,e,h⟩
theorem jl{m:Int}{Q:D×List D->Prop}(Y:0<=a)(Z:0<m)(z:m<2 ^ 60)(h:∀r B N,0<=r->r<m->0<=B->Q (.int r,[tp B N,.int m])):Wp (aP [tp a b,.int m]) Q:=
 let⟨r,B,N,e,h1,h2,h3⟩:=KZ Y Z z;GC e (h r B N h1 h2 h3)
theorem m_(b:Bool)(l:List Int):cU b (l.map D.int)=l.map D.int:=by rw[dG,Zj];rfl
theorem vd(l:List Int):fzL (l.map D.int)=l.map D.int:=by rw[jP,Zj];rfl
theorem pW(l:List Int):az (l.map D.int)=true:=bV λd hd=>by obtain⟨x,_,rfl⟩:=Zf.mp hd;rfl
theorem pR(l:List Int):aB (l.map D.int)=true:=bQ λd hd=>by obtain⟨x,_,rfl⟩:=Zf.mp hd;rfl
def Tw(d:D):Prop:=∃a b:Int,d=tp a b/\0<=a
set_option hygiene false
local macro_rules
 |`(tactic|simp_arith![$x,*])=>`(tactic|simp only[$x,*,en0,Zq,ZZ,YT,aai,aaf,Zz,aZ,Nat.reduceAdd,Nat.reduceSub,ZK,List.nil_append])
set_option hygiene true
theorem Vo{ns:List Int}{k:Int}(I:0<=k)(B:k<=100):Wp (dJ [.lst .scr (ns.map D.int),.int k]) Tw:=by
 have z:fQ [.lst .scr (ns.map D.int)]=some (.int ns.length):=by simp[fQ]
 simp_arith![dJ,fnP];refine aX (λρ=>ρ=[some (.lst .scr (ns.map D.int)),some (.int k),some (.int 0),none]) (λQ q=>by simp_arith[sEx,aG,aR,aJ];exact q _ rfl) ?_;rintro _ rfl;refine aX (λρ=>∃c:Int,ρ=[some (.lst .scr (ns.map D.int)),some (.int k),some (.int c),none]) 1.25 ?_
 .by_cases h:k<(ns.length:Int)
  .obtain⟨c,_,_,hc⟩:=yU (f:=D.int) (l:=ns) (i:=k) I h
   simp_arith[sEx,aG,aR,aJ,m_,z,gLt,h,N_,hc];exact q _ ⟨_,rfl⟩
  .simp_arith[sEx,aG,aR,aJ,m_,z,gLt,h]
   exact q _ ⟨_,rfl⟩
 rintro _ ⟨c,rfl⟩;simp_arith[sEx,aG,aR,aJ,t_,nM,gGe,qT,mq,mC,fG,dN];have J:(0:Int)<=if c<0 then -c else c:=by split<;>omega
 generalize (if c<0 then -c else c)=u at J⊢;refine⟨.inr ?_,_,_,rfl,?_⟩
 .split<;>omega
 .split<;>omega
def Tn(q:D×List D):Prop:=∃t B N:Int,q=(.int t,[tp B N])/\0<=t/\t<=1000/\0<=B
theorem Ub(Y:0<=a):Wp (gG [tp a b]) Tn:=by
 obtain⟨r,q,N,e,h1,h2,B⟩:=KZ (b:=b) Y (show(0:Int)<8 by decide) (by decide);have O:r=0∨r=1∨r=2∨r=3∨r=4∨r=5∨r=6∨r=7:=by omega
 rcases O with rfl|rfl|rfl|rfl|rfl|rfl|rfl|rfl<;>simp_arith[gG,sEx,aG,aR,aJ,fG,jq,mq,mX,mC,nM,ie,gLt,gGt,gGe,gIx,dN,bL,fQ,t_,qT,lF,gIs,jf,atI,ixN,aV,fU,gSl,uG,pK,e]<;>exact⟨_,_,_,rfl,by decide,by decide,B⟩
theorem Jk:cutD ds none (some (k:Int))=ds.take k:=by
 unfold cutD;rw[HT.sIx_none,HT.sIx_nat,adw,Nat.sub_zero];rcases Nat.le_total k ds.length with h|h
 .rw[af1 h]
 .rw[afW h,ac3,aca h]
theorem Js:cutD ds (some (k:Int)) none=ds.drop k:=by
 unfold cutD;rw[HT.sIx_none,HT.sIx_nat];rcases Nat.le_total k ds.length with h|h
 .rw[af1 h,aca (by simp)]
 .rw[afW h,aa9,List.drop_of_length_le h];simp
def lw:List Str:=["b","aa","zebra","c","quartzes","ab","m","knows","d","mm","likes","z","a","ba","abcdefgh","y","q","qq","x","yx"]
theorem QC:zf "b aa zebra c quartzes ab m knows d mm likes z a ba abcdefgh y q qq x yx" " "=some lw:=by decide +kernel
theorem Yu:lw.Nodup:=by decide +kernel
def Nm(q:D×List D):Prop:=∃(ns:List Str)(B N:Int),q=(.lst .own (ns.map D.str),[tp B N])/\(∀x∈ns,x∈lw)/\ns.Nodup/\ns.length<=20/\0<=B
theorem Qc(Y:0<=a):Wp (fZ [tp a b]) Nm:=by
 simp_arith![fZ,fnI];refine aX (λρ=>ρ=[some (tp a b),some (.lst .own (lw.map D.str)),none,none,none]) (λQ q=>by simp_arith[sEx,aG,aR,aJ,vZ,QC,bW,bN];exact q _ rfl) ?_;rintro _ rfl;refine aX (λρ=>∃w B N:Int,0<=B/\ρ=[some (tp B N),some (.lst .own (lw.map D.str)),some (.int w),none,none]) 1.25 ?_
 .simp_arith[sEx,aG,aR,aJ]
  refine jl Y 1.11 1.11 λr a1 b1 p1 q1 F=>?_;simp_arith[sEx,aG,aR,aJ];exact q _ ⟨r,a1,b1,F,rfl⟩
 rintro _ ⟨w,a1,b1,F,rfl⟩;refine aX (λρ=>∃(n:Nat)(B N:Int),n<=20/\0<=B/\ρ=[some (tp B N),some (.lst .own (lw.map D.str)),some (.int w),some (.int n),none]) 1.25 ?_
 .simp_arith[sEx,aG,aR,aJ]
  refine jl F 1.11 1.11 λr z b2 p2 q2 O=>?_;simp_arith[sEx,aG,aR,aJ,fG];exact q _ ⟨(4+r).toNat,z,b2,by omega,O,by rw[show(((4+r).toNat:Nat):Int)=4+r by omega]⟩
 rintro _ ⟨n,z,b2,n2,O,rfl⟩;refine aX (λρ=>∃(n:Nat)(B N:Int),n<=20/\0<=B/\ρ=[some (tp B N),some (.lst .own (lw.map D.str)),some (.int w),some (.int n),none]) 1.25 ?_
 .simp_arith[sEx,aG,aR,aJ,eq_int]
  split
  .refine jl O 1.11 1.11 λr a3 b3 p3 q3 Z=>?_
   simp_arith[sEx,aG,aR,aJ,fG];exact q _ ⟨(10+r).toNat,a3,b3,by omega,Z,by rw[show(((10+r).toNat:Nat):Int)=10+r by omega]⟩
  .exact q _ ⟨n,z,b2,n2,O,rfl⟩
 clear n2 n;rintro _ ⟨n,a3,b3,n2,Z,rfl⟩;refine aX (λρ=>∃(n:Nat)(B N:Int),n<=20/\0<=B/\ρ=[some (tp B N),some (.lst .own (lw.map D.str)),some (.int w),some (.int n),none]) 1.25 ?_
 .simp_arith[sEx,aG,aR,aJ,eq_int]
  split
  .refine jl Z 1.11 1.11 λr a4 b4 p4 q4 V=>?_
   simp_arith[sEx,aG,aR,aJ];exact q _ ⟨r.toNat,a4,b4,by omega,V,by rw[show((r.toNat:Nat):Int)=r by omega]⟩
  .exact q _ ⟨n,a3,b3,n2,Z,rfl⟩
 clear n2 n;rintro _ ⟨n,a4,b4,n2,V,rfl⟩;refine aX (λρ=>∃(k:Nat)(B N:Int),k<20/\0<=B/\ρ=[some (tp B N),some (.lst .own (lw.map D.str)),some (.int w),some (.int n),some (.int k)]) 1.25 ?_
 .simp_arith[sEx,aG,aR,aJ]
  refine jl V 1.11 1.11 λr a5 b5 p5 q5 U=>?_;simp_arith[sEx,aG,aR,aJ];exact q _ ⟨r.toNat,a5,b5,by omega,U,by rw[show((r.toNat:Nat):Int)=r by omega]⟩
 rintro _ ⟨k,a5,b5,I,U,rfl⟩;simp_arith[sEx,aG,aR,aJ,bW,bN,bH,gSl,fG,Jk,Js];have e5:((List.drop k (Zt D.str lw)++List.take k (Zt D.str lw)).take n)=((lw.drop k++lw.take k).take n).map D.str:=by
  rw[acZ,Zr,List.map_drop,acZ]
 have pm:(lw.drop k++lw.take k).Perm lw:=ade.trans (by rw[ac_]);rw[e5];refine⟨by show 20-k+min k 20<=1000000;omega,⟨bW _,bN _⟩,_,a5,b5,rfl,λx J=>pm.subset (List.mem_of_mem_take J),?_,by rw[abu];omega,U⟩;exact(afC _ _).nodup (pm.nodup_iff.mpr Yu)
def Fa(q:D×List D):Prop:=∃t B N:Int,q=(.int t,[tp B N])/\t.natAbs<=1000000000000/\0<=B
theorem Ol(Y:0<=a):Wp (dW [tp a b]) Fa:=by
 have go:∀{r:Int}{B N:Int},r.natAbs<=1000000000000->0<=B->Fa (.int r,[tp B N]):=λh1 h2=>⟨_,_,_,rfl,h1,h2⟩;simp_arith[dW,sEx,aG,aR,aJ];refine jl Y 1.11 1.11 λr a1 b1 p1 q1 F=>?_;simp_arith[sEx,aG,aR,aJ,eq_int];split
 .simp_arith[sEx,aG,aR,aJ,nM,ie,jq,dN]
  refine jl F 1.11 1.11 λZ z V p2 q2 O=>?_;simp_arith[sEx,aG,aR,aJ,jq];refine jl O 1.11 1.11 λq D U I q3 J=>?_;have:q=0∨q=1∨q=2∨q=3:=by omega
  rcases this with rfl|rfl|rfl|rfl<;>simp_arith[sEx,aG,aR,aJ,gIx,atI,ixN]<;>exact go 1.11 J
 .refine jl F 1.11 1.11 λZ z V p2 q2 O=>?_
  simp_arith[sEx,aG,aR,aJ,jq];exact go 1.11 O
def Dm(ns:List Str)(ks:List Key)(ds:List D):Prop:=(∀e∈ds,∃i:Int,e= .int i)/\∀x∈ns,∃(j:Nat)(i:Int),cZ ks (.inr x)=some j/\ds[j]? =some (.int i)
def MkI(ns:List Str)(k:Nat)(acc:List D)(ρ:En):Prop:=∃(ps:List (Str×Int))(B N:Int),acc=ps.map pD/\ps.map (·.1)=ns.take k/\0<=B/\ρ=[some (tp B N),some 1.15]
def Mks(ns:List Str)(q:D×List D):Prop:=∃(ks:List Key)(ds:List D)(B N:Int),q=(.dct .own ks ds,[tp B N,.lst .frz (ns.map D.str)])/\Dm ns ks ds/\0<=B
theorem QZ(Y:0<=a)(hn:ns.length<=20):Wp (gj [tp a b,.lst .frz (ns.map D.str)]) (Mks ns):=by
 simp_arith[gj,sEx,aG,aR,aJ,bH,ir,bW,bN];refine⟨by omega,Km (MkI ns) ⟨[],a,b,rfl,rfl,Y,rfl⟩ ?_ ?_⟩
 .rintro i d acc ρ hi ⟨ps,a2,b2,rfl,hps,s2,rfl⟩
  rw[List.getElem?_map]at hi;cases J:ns[i]? with
  |none=>simp[J]at hi
  |some x=>
   obtain rfl:D.str x=d:=by simpa[J]using hi
   simp_arith[sEx,aG,aR,aJ,bL];refine Wp.mono (Ol s2) ?_;rintro _ ⟨t,U,F,rfl,_,Z⟩;simp_arith[sEx,aG,aR,aJ,bL];exact⟨ps++[(x,t)],_,_,by simp[pD],by rw[Zr,hps,List.take_add_one,J];rfl,Z,rfl⟩
 .rintro ys ρ ⟨ps,a2,b2,rfl,hps,s2,rfl⟩
  rw[Ze,ac3]at hps;have O:aB (ps.map pD)=true:=bQ λd hd=>by obtain⟨x,_,rfl⟩:=Zf.mp hd;rfl
  have q:ps.length=ns.length:=by rw[←hps];simp
  refine⟨O,Wp.mono (Rv (ps:=ps) 1.11) ?_⟩;rintro _ ⟨⟨ks,ds,rfl,I,z⟩,N⟩;rw[hps]at z;have B:(aD (D.dct .own ks ds)=true/\aC (D.dct .own ks ds)=true):=by simpa[clean]using N
  refine⟨B,aN.mpr ?_⟩;exact⟨ks,ds,a2,b2,rfl,⟨I,z⟩,s2⟩
def Jg(ns:List Str)(ks:List Key)(ds:List D)(t:Int)(q:D×List D):Prop:=∃(j:Jt)(B N:Int),q=(jD j,[tp B N,.lst .frz (ns.map D.str),.dct .frz ks ds,.int t])/\j.1∈ns/\j.2.1∈ns/\0<=B
variable{t:Int}
theorem Hf(Y:0<=a)(hn:ns≠[])(b8:ns.length<=20)(ht:0<=t/\t<=1000)(hd:Dm ns ks ds):Wp (dZ [tp a b,.lst .frz (ns.map D.str),.dct .frz ks ds,.int t]) (Jg ns ks ds t):=by
 have b9:0<ns.length:=List.length_pos_iff.mpr hn;obtain⟨I,a0⟩:=hd;have a7:cU false ds=ds:=by
  rw[dG]
  conv=>rhs;rw[←afJ ds]
  exact aak λd hd=>by obtain⟨i,rfl⟩:=I d hd;rfl
 simp_arith![dZ,fnI];refine aX (λρ=>∃(x:Str)(B N:Int),x∈ns/\0<=B/\ρ=[some (tp B N),some 1.15,some (.dct .frz ks ds),some (.int t),some (.str x),none,none]) 1.25 ?_
 .simp_arith[sEx,aG,aR,aJ,bW,bN,bH,eQ,ir,nO,nW,uz,sI,wQ,Rk,RB,O2,Pz,QM,Fo,za,len_strs,vh,pX,N_,Ry,eq_int,zy]
  refine jl Y 1.11 1.11 λr a1 b1 p1 q1 F=>?_;obtain⟨x,J,_,a6⟩:=yU (f:=D.str) (l:=ns) p1 q1;simp_arith[sEx,aG,aR,aJ,bW,bN,bH,eQ,ir,nO,nW,uz,sI,wQ,Rk,RB,O2,Pz,QM,Fo,za,len_strs,vh,pX,N_,Ry,eq_int,zy,a6];exact q _ ⟨x,_,_,J,F,rfl⟩
 rintro _ ⟨x,a1,b1,J,F,rfl⟩;refine aX (λρ=>∃(y:Str)(B N:Int),y∈ns/\0<=B/\ρ=[some (tp B N),some 1.15,some (.dct .frz ks ds),some (.int t),some (.str x),some (.str y),none]) 1.25 ?_
 .simp_arith[sEx,aG,aR,aJ,bW,bN,bH,eQ,ir,nO,nW,uz,sI,wQ,Rk,RB,O2,Pz,QM,Fo,za,len_strs,vh,pX,N_,Ry,eq_int,zy]
  refine jl F 1.11 1.11 λr z b2 p2 q2 O=>?_;obtain⟨y,U,_,a8⟩:=yU (f:=D.str) (l:=ns) p2 q2;simp_arith[sEx,aG,aR,aJ,bW,bN,bH,eQ,ir,nO,nW,uz,sI,wQ,Rk,RB,O2,Pz,QM,Fo,za,len_strs,vh,pX,N_,Ry,eq_int,zy,a8];exact q _ ⟨y,_,_,U,O,rfl⟩
 rintro _ ⟨y,z,b2,U,O,rfl⟩;obtain⟨jx,ix,b6,a9⟩:=a0 x J;obtain⟨jy,iy,b7,b0⟩:=a0 y U;refine aX (λρ=>∃(v B N:Int),0<=B/\ρ=[some (tp B N),some 1.15,some (.dct .frz ks ds),some (.int t),some (.str x),some (.str y),some (.int v)]) 1.25 ?_
 .have ht1: -18446744073709551616<t/\t<18446744073709551616:=by omega
  simp_arith[sEx,aG,aR,aJ,gIx,dh,a7,b6,a9,b7,b0,jq];refine jl O 1.11 1.11 λr a3 b3 p3 q3 Z=>?_;simp_arith[sEx,aG,aR,aJ,jq,mq,fG,ht1];exact q _ ⟨_,_,_,Z,rfl⟩
 rintro _ ⟨v,a3,b3,Z,rfl⟩;refine aX (λρ=>∃(v B N:Int),0<=B/\ρ=[some (tp B N),some 1.15,some (.dct .frz ks ds),some (.int t),some (.str x),some (.str y),some (.int v)]) 1.25 ?_
 .simp_arith[sEx,aG,aR,aJ]
  refine jl Z 1.11 1.11 λr a4 b4 p4 q4 V=>?_;simp_arith[sEx,aG,aR,aJ,eq_int];split
  .refine Wp.mono (Ol V) ?_
   rintro _ ⟨w,a5,b5,rfl,_,s5⟩;simp_arith[sEx,aG,aR,aJ,fG];exact q _ ⟨_,_,_,s5,rfl⟩
  .exact q _ ⟨_,_,_,V,rfl⟩
 clear v;rintro _ ⟨v,a4,b4,V,rfl⟩;simp_arith[sEx,aG,aR,aJ,bL,G8,lF,ie,nM];exact⟨(x,y,_),a4,b4,rfl,J,U,V⟩
theorem pO:∀ns:List Str,xq (ns.map D.str)=some (ns.map V.str)
 |[]=>rfl
 |x::r=>by simp[xq,scV,pO r]
theorem vA:inV (.str x) (ns.map V.str)=decide (x∈ns):=by
 unfold inV;rw[List.any_map,ab6,ac2,decide_eq_true_iff];simp![adN,eqV,beq_iff_eq];exact⟨λ⟨y,h1,h2⟩=>h2▸h1,λh=>⟨x,h,rfl⟩⟩
def nQ(g:List Str):List Str:=(zr (g.map λx=>[x])).map λk=>k.headD ""
theorem lA(g:List Str):aa2 (nQ g) g:=by
 have:=(sZ (g.map λx=>[x])).map λk=>k.headD ("":Str);rw[Zj]at this;refine this.trans ?_;rw[show((λk:List Str=>k.headD "")∘λx=>[x])=id from rfl,afJ]
theorem xT:∀g:List Str,C_ (g.map D.str)=some (g.map λx=>[x])
 |[]=>rfl
 |x::r=>by simp[C_,xT r]
variable{m:Mk}
theorem L_{g:List Str}(h:g.length<64):nF [.lst m (g.map D.str)]=some (.lst .own ((nQ g).map D.str)):=by
 simp![nF,Ze,h,Zz,xT];rw[nQ,Zj];rfl
theorem yM[DecidableEq α]:∀{ks ns:List α},ks.Nodup->(∀k∈ks,k∈ns)->ks.length<=ns.length
 |[],_,_,_=>abf _
 |k::r,ns,h,hs=>by
  have Z:=hs k (.head _);have h1:=yM (ks:=r) (ns:=ns.erase k) (Zv.mp h).2 λx J=>(List.mem_erase_of_ne (show x≠k from λe=>(Zv.mp h).1 (by rw[←e];exact J))).mpr (hs x (.tail _ J));rw[List.length_erase_of_mem Z]at h1;have:=List.length_pos_of_mem Z;simp![Zq];omega
theorem kI:(cZ (ys.map Zx) (Zx x)).isSome=decide (x∈ys):=by
 cases e:cZ (ys.map Zx) (Zx x)with
 |none=>
  unfold cZ at e;rw[aaV]at e;refine(Zy λh=>?_).symm;have:=e (Zx x) (Zf.mpr ⟨x,h,rfl⟩);simp at this
 |some j=>
  obtain⟨Y,I,_⟩:=ZM.mp e;have h2:(ys.map (Zx:Str->Key))[j]=Zx x:=by simpa using I
  have B:Zx x∈ys.map (Zx:Str->Key):=h2▸abZ Y;obtain⟨y,U,q⟩:=Zf.mp B;cases q;exact(aap U).symm
theorem pN(J:x∈ns):∃i,cZ (ns.map Zx) (Zx x)=some i/\ns[i]? =some x/\i<ns.length:=by
 have h:=kI (ys:=ns) (x:=x);rw[aap J]at h;obtain⟨i,hi⟩:=ad8.mp h;obtain⟨Y,I,_⟩:=ZM.mp hi;have N:i<ns.length:=by simpa using Y
 refine⟨i,hi,?_,N⟩;rw[Zc N];simpa using I
theorem rQ{c:En->Option (Bool×En)}{V:En->Option Fl}{Q:Fl->Prop}(I:Nat->En->Prop)(z:Nat)(B:∀p ρ,I p ρ->Wp (c ρ) λb=>if b.1=true then(p<z/\Wp (V b.2) λr=>match r with
   |.nx ρ2=>I (p+1) ρ2
   |.cnt ρ2=>I (p+1) ρ2
   |.brk ρ2=>Q (.nx ρ2)
   |.ret d ρ2=>Q (.ret d ρ2))else Q (.nx b.2)):∀(q p:Nat)(ρ:En),I p ρ->z-p<q->Wp (km c V q ρ) Q
 |0,p,ρ,_,h=>by omega
 |q+1,p,ρ,hI,h=>by
  obtain⟨⟨b,ρ1⟩,e1,w⟩:=B p ρ hI;rw[km,e1,YK];cases b with
  |false=>
   simp![ZG,aao]at w⊢;exact aN.mpr w
  |true=>
   simp![Zz]at w⊢;obtain⟨F,r,e2,w⟩:=w;rw[e2];cases r with
   |nx ρ2=>exact rQ I z B q (p+1) ρ2 w 1.11
   |cnt ρ2=>exact rQ I z B q (p+1) ρ2 w 1.11
   |brk ρ2=>exact aN.mpr w
   |ret d ρ2=>exact aN.mpr w
theorem WD:∀x∈lw,jk [.str x]=some (.bl true):=by
 intro x J;simp![lw,Za,List.mem_nil_iff,or_false]at J;rcases J with rfl|rfl|rfl|rfl|rfl|rfl|rfl|rfl|rfl|rfl|rfl|rfl|rfl|rfl|rfl|rfl|rfl|rfl|rfl|rfl<;>with_unfolding_all rfl
theorem Wv{l:List Str}{k:Int}(J:x∈lw)(Y:x∉l):fX [.lst .frz (l.map D.str),.str x,.int k]=some .non:=by
 apply Wp.eq;simp_arith[fX,sEx,aG,aR,aJ,WD x J,bj,bH,gIn,tY,scV,pO,vA,Y]
def CkI(N:D)(k:Nat)(ρ:En):Prop:=∃x1 B:Option D,ρ=[some N,x1,B]
theorem Xr(hn:∀x∈ns,x∈lw)(nd:ns.Nodup)(Y:ns.length<=20):eE [.lst .frz (ns.map D.str)]=some .non:=by
 apply Wp.eq;simp_arith[eE,sEx,aG,aR,aJ,bH,bW,bN,ir];refine oN (CkI 1.15) ⟨_,_,rfl⟩ ?_ ?_
 .rintro k d ρ hk ⟨x1,x2,rfl⟩
  rw[mH,List.getElem?_map]at hk;cases J:ns[k]? with
  |none=>simp[J]at hk
  |some x=>
   obtain rfl:D.tup [.int (k:Int),.str x]=d:=by simpa[J]using hk
   have q:=(List.getElem?_eq_some_iff.mp J).1;have V:x∉ns.take k:=λz=>by
    obtain⟨i,hi,e⟩:=List.mem_take_iff_getElem.mp z;have:=(abn (by omega:i<ns.length) nd).mp (show ns[i]? =ns[k]? by rw[J,Zc 1.11,e]);omega
   have h1:=Wv (k:=(k:Int)) (hn x (Zo J)) V;rw[acZ]at h1;simp_arith[sEx,aG,aR,aJ,bH,gSl,Jk,bW,bN,←acZ,eQ];rw[acZ,h1];simp[aN,bj];exact⟨_,_,rfl⟩
 .rintro ρ ⟨x1,x2,rfl⟩
  simp[aN]
abbrev Bh:=Str×Str×Int
inductive gU where
 |join (a b:Str) (s:Int) (h:Option Str)
 |weigh (a:Str) (n old:Int)
structure Sk where
 t:Int
 ws:Str->Int
 bs:List Bh
 zs:Str->Int
 dn:List gU
 lk:Int
def dcD:gU->D
 |.join a b s _=>.tup [.str "join",.str a,.str b,.int s]
 |.weigh a n _=>.tup [.str "weigh",.str a,.int n]
def ktD:gU->D
 |.join _ _ _ none=>.non
 |.join _ _ _ (some h)=>.str h
 |.weigh _ _ o=>.int o
def dnD(d:gU):D:=.tup [dcD d,ktD d]
def bvD(b:Bh):D:=.tup [.str b.2.1,.int b.2.2]
def jW:List Str:=["turn","weights","behind","sizes","done","looked"]
def vsL(ns:List Str)(f:Str->Int):List Int:=ns.map f
def wD(m:Mk)(ns:List Str)(vs:Str->Int):D:=.dct m (ns.map Zx) ((vsL ns vs).map D.int)
def bD(m:Mk)(bs:List Bh):D:=.dct m ((bs.map (·.1)).map Zx) (bs.map bvD)
def nD(m:Mk)(dn:List gU):D:=.lst m (dn.map dnD)
def skD(m:Mk)(ns:List Str)(s:Sk):D:=.ins m "Stack" jW [.int s.t,wD m ns s.ws,bD m s.bs,wD m ns s.zs,nD m s.dn,.int s.lk]
theorem qR(d:gU):aD (dnD d)=true/\aC (dnD d)=true/\(∀b,view b (dnD d)=dnD d)/\fz (dnD d)=dnD d/\fzo (dnD d)=dnD d:=by
 cases d with
 |join a b s h=>cases h<;>exact⟨rfl,rfl,λ_=>rfl,rfl,rfl⟩
 |weigh a n o=>exact⟨rfl,rfl,λ_=>rfl,rfl,rfl⟩
theorem Np(l:List gU):az (l.map dnD)=true:=bV λd hd=>by obtain⟨x,_,rfl⟩:=Zf.mp hd;exact(qR x).1
theorem Jo(l:List gU):aB (l.map dnD)=true:=bQ λd hd=>by obtain⟨x,_,rfl⟩:=Zf.mp hd;exact(qR x).2.1
theorem Td(b:Bool)(l:List gU):cU b (l.map dnD)=l.map dnD:=by rw[dG,Zj];exact aak λd _=>(qR d).2.2.1 b
theorem RX(l:List gU):fzL (l.map dnD)=l.map dnD:=by rw[jP,Zj];exact aak λd _=>(qR d).2.2.2.1
theorem Wt(l:List gU):g_ (l.map dnD)=l.map dnD:=by rw[jV,Zj];exact aak λd _=>(qR d).2.2.2.2
theorem JK(l:List Bh):az (l.map bvD)=true:=bV λd hd=>by obtain⟨x,_,rfl⟩:=Zf.mp hd;rfl
theorem M6(l:List Bh):aB (l.map bvD)=true:=bQ λd hd=>by obtain⟨x,_,rfl⟩:=Zf.mp hd;rfl
theorem Ka(b:Bool)(l:List Bh):cU b (l.map bvD)=l.map bvD:=by rw[dG,Zj];rfl
theorem SN(l:List Bh):fzL (l.map bvD)=l.map bvD:=by rw[jP,Zj];rfl
theorem m5(ns:List Str)(s:Sk):view true (skD .own ns s)=skD .bro ns s:=by simp[skD,wD,bD,nD,view,cU,m_,Ka,Td,mkV]
theorem sH(b:Bool)(ns:List Str)(s:Sk):view b (skD .frz ns s)=skD .frz ns s:=by cases b<;>simp[skD,wD,bD,nD,view,cU,m_,Ka,Td,mkV]
theorem K6(ns:List Str)(s:Sk):fz (skD .bro ns s)=skD .frz ns s:=by simp[skD,wD,bD,nD,fz,fzL,vd,SN,RX,mkF]
theorem Ys(ns:List Str)(s:Sk):aD (skD .own ns s)=true/\aC (skD .own ns s)=true:=by simp[skD,wD,bD,nD,aD,aC,az,aB,pW,pR,JK,M6,Np,Jo]
theorem Xj(ns:List Str)(s:Sk):bj (skD .own ns s)=true:=by
 have h1:∀l:List Int,bB (l.map D.int)=true:=λl=>by induction l<;>simp_all [bB,bj]
 have h2:∀l:List Bh,bB (l.map bvD)=true:=λl=>by induction l<;>simp_all [bB,bj,bvD]
 have B:∀l:List gU,bB (l.map dnD)=true:=λl=>by
  induction l with
  |nil=>rfl
  |cons d r N=>
   rw[YT,bB,N,ae8];cases d with
   |join a b s h=>cases h<;>rfl
   |weigh a n o=>rfl
 simp[skD,wD,bD,nD,bj,bB,h1,h2,B]
variable{s:Sk}
theorem gf0(h:m≠.scr):gY "Stack" "turn" (skD m ns s)=some (.int s.t):=by simp[gY,skD,h,show eF jW "turn"=some 0 by decide]
theorem gf1(h:m≠.scr):gY "Stack" "weights" (skD m ns s)=some (wD m ns s.ws):=by simp[gY,skD,h,show eF jW "weights"=some 1 by decide]
theorem gf2(h:m≠.scr):gY "Stack" "behind" (skD m ns s)=some (bD m s.bs):=by simp[gY,skD,h,show eF jW "behind"=some 2 by decide]
theorem gf3(h:m≠.scr):gY "Stack" "sizes" (skD m ns s)=some (wD m ns s.zs):=by simp[gY,skD,h,show eF jW "sizes"=some 3 by decide]
theorem gf4(h:m≠.scr):gY "Stack" "done" (skD m ns s)=some (nD m s.dn):=by simp[gY,skD,h,show eF jW "done"=some 4 by decide]
theorem rG(h:m≠.scr){f:Str}(V:eF jW f=none):wF "Stack" f (skD m ns s)=true:=by simp[wF,skD,h,V]
variable{r:En}
theorem pf1:mU 0 (cz 0) "Stack" "weights" (some (skD .own ns s)::r)=some [1]:=by simp[mU,cz,fu,skD,show eF jW "weights"=some 1 by decide]
theorem pf2:mU 0 (cz 0) "Stack" "behind" (some (skD .own ns s)::r)=some [2]:=by simp[mU,cz,fu,skD,show eF jW "behind"=some 2 by decide]
theorem pf3:mU 0 (cz 0) "Stack" "sizes" (some (skD .own ns s)::r)=some [3]:=by simp[mU,cz,fu,skD,show eF jW "sizes"=some 3 by decide]
theorem pf4:mU 0 (cz 0) "Stack" "done" (some (skD .own ns s)::r)=some [4]:=by simp[mU,cz,fu,skD,show eF jW "done"=some 4 by decide]
theorem tf5{k:Int}:lU "Stack" "looked" 0 (cz 0) (.int k) (some (skD .own ns s)::r)=some (some (skD .own ns {s with lk:=k})::r):=by
 simp[lU,cz,upS,fu,yl,skD,jW,az,aD,aB,aC,show eF ["turn","weights","behind","sizes","done","looked"] "looked"=some 5 by decide,uY,fY]
variable{x:D}{op:D->List D->Option (D×D)}{es:List D}
theorem us1(h:az es=true/\aB es=true)(e:op (wD .own ns s.ws) es=some (wD .own ns vs,x)):upS op 0 [1] es (some (skD .own ns s)::r)=some (x,some (skD .own ns {s with ws:=vs})::r):=by simp[upS,fu,skD,kids,h,e,fY,xG]
variable{bs:List Bh}
theorem us2(h:az es=true/\aB es=true)(e:op (bD .own s.bs) es=some (bD .own bs,x)):upS op 0 [2] es (some (skD .own ns s)::r)=some (x,some (skD .own ns {s with bs:=bs})::r):=by simp[upS,fu,skD,kids,h,e,fY,xG]
theorem us3(h:az es=true/\aB es=true)(e:op (wD .own ns s.zs) es=some (wD .own ns vs,x)):upS op 0 [3] es (some (skD .own ns s)::r)=some (x,some (skD .own ns {s with zs:=vs})::r):=by simp[upS,fu,skD,kids,h,e,fY,xG]
variable{dn:List gU}
theorem us4(h:az es=true/\aB es=true)(e:op (nD .own s.dn) es=some (nD .own dn,x)):upS op 0 [4] es (some (skD .own ns s)::r)=some (x,some (skD .own ns {s with dn:=dn})::r):=by simp[upS,fu,skD,kids,h,e,fY,xG]
variable{v:Int}
theorem WT:∀ns:List Str,jG (tpN 0) eTT 1.18 (eC (.int v)) [none] (ns.map D.str)=some (ns.map λy=>((Zx y:Key),D.int v))
 |[]=>rfl
 |x::r=>by
  rw[YT,jG,WT r];simp[tpN,eTT,ao,view,dh,eC]
def sk0(t:Int)(ns:List Str):Sk:=⟨t,λ_=>0,[],λ_=>1,[],0⟩
theorem Wu(nd:ns.Nodup):rA (ns.map λy=>((Zx y:Key),D.int v))=some (wD .own ns λ_=>v):=by
 have q:(ns.map λy=>(Zx y:Key)).Nodup:=adW.mpr (nd.imp λh e=>h (by cases e;rfl));rw[rA,Zj,Zj,show((λx:Key×D=>x.1)∘λy=>((Zx y:Key),D.int v))=Zx from rfl,Zd q];simp[wD,vsL,Zj]
theorem Jp(hn:∀x∈ns,x∈lw)(nd:ns.Nodup)(Y:ns.length<=20):bF [.ins .own "Stack" [] [],.lst .frz (ns.map D.str),.int t]=some (.non,[skD .own ns (sk0 t ns),.lst .frz (ns.map D.str),.int t]):=by
 apply Wp.eq;have h1:=Xr hn nd Y;have q:eF [] "turn"=none:=by decide
 have O:eF ["turn"] "weights"=none:=by decide
 have N:eF ["turn","weights"] "behind"=none:=by decide
 have z:eF ["turn","weights","behind"] "sizes"=none:=by decide
 have B:eF ["turn","weights","behind","sizes"] "done"=none:=by decide
 have J:eF ["turn","weights","behind","sizes","done"] "looked"=none:=by decide
 have V:∀v:Int,aD (wD .own ns λ_=>v)=true/\aC (wD .own ns λ_=>v)=true:=λv=>⟨by simp![wD,aD,pW];rfl,by simp![wD,aC,pR];rfl⟩;simp_arith[bF,sEx,aG,aR,aJ,bH,eQ,bW,bN,ir,h1,bj,m7,WT,Wu nd,lU,cz,fu,yl,q,O,N,z,B,J,V,DW,dN,uY];exact⟨by omega,rfl⟩
theorem Ti(hn:∀x∈ns,x∈lw)(nd:ns.Nodup)(Y:ns.length<=20):uh "Stack" bF [.lst .brw (ns.map D.str),.int t]=some (skD .own ns (sk0 t ns)):=by
 have:=Jp (t:=t) hn nd Y;simp[uh,fzL,fz,mkF,eQ,this,Xj]
variable{x:Str}
theorem Ye:ji (.str x) (wD m ns vs)=some (.bl (!decide (x∈ns))):=by simp![ji,wD,tY,dh,aaJ,kI]
def kyB(bs:List Bh)(x:Str):Bool:=decide (x∈bs.map (·.1))
theorem YB:gIn (.str x) (bD m bs)=some (.bl (kyB bs x)):=by simp![kyB,gIn,bD,tY,dh,aaJ,kI]
theorem Cg(J:x∈ns):gIx (wD m ns vs) (.str x)=some (.int (vs x)):=by
 obtain⟨i,h1,h2,_⟩:=pN J;simp[gIx,wD,dh,h1,vsL,h2]
theorem Kw(nd:ys.Nodup)(h:ys[i]? =some x):cZ (ys.map Zx) (Zx x)=some i:=by
 obtain⟨j,h1,h2,B⟩:=pN (Zo h);rw[h1,(abn B nd).mp (h2.trans h.symm)]
variable{b:Bh}
theorem Hu(nd:(bs.map (·.1)).Nodup)(h:bs[i]? =some b):gIx (bD m bs) (.str b.1)=some (bvD b):=by
 have:=Kw nd (i:=i) (x:=b.1) (by rw[List.getElem?_map,h];rfl);simp![bD,gIx,dh,YK,this,List.getElem?_map,h,aaJ]
theorem MK(J:x∈ns):bM [wD .frz ns vs,.str x]=some .non:=by
 have z:view false (wD .frz ns vs)=wD .frz ns vs:=by simp[wD,view,m_,mkV]
 apply Wp.eq;simp_arith[bM,sEx,aG,aR,aJ,z,Ye,J]
theorem HR(h:m= .bro∨m= .frz):fz (wD m ns vs)=wD .frz ns vs:=by
 rcases h with rfl|rfl<;>simp[wD,fz,vd,mkF]
structure Bk(ns:List Str)(bs:List Bh):Prop where
 nd:(bs.map (·.1)).Nodup
 ok:∀(i:Nat)(b:Bh),bs[i]? =some b->b.1∈ns/\b.2.1∈ns/\∀(j:Nat)(c:Bh),bs[j]? =some c->c.1=b.2.1->i<j
def chn(bs:List Bh):Nat->Str->List Str
 |0,x=>[x]
 |k+1,x=>match bs.find? λb=>decide (b.1=x)with
  |some b=>x::chn bs k b.2.1
  |none=>[x]
theorem Du(nd:(bs.map (·.1)).Nodup)(h:bs[i]? =some b):bs.find? (λc=>decide (c.1=b.1))=some b:=by
 cases V:bs.find? (λc=>decide (c.1=b.1))with
 |none=>have:=afx.mp V b (Zo h);simp at this
 |some c=>
  have h1:=List.find?_some V;obtain⟨j,F⟩:=ZS.mp (ad0 V);have e:c.1=b.1:=by simpa using h1
  have:=(abn (i:=j) (j:=i) (l:=bs.map (·.1)) (by simpa using(List.getElem?_eq_some_iff.mp F).1) nd).mp (by rw[List.getElem?_map,List.getElem?_map,F,h];simp[e]);subst this;rw[F]at h;exact h
theorem TY(h:x∉bs.map (·.1)):bs.find? (λc=>decide (c.1=x))=none:=afx.mpr λc Z=>by
 simp![aa1];exact λz=>h (Zf.mpr ⟨c,Z,z⟩)
def Ch(ns:List Str)(bs:List Bh)(x:Str)(pre:List Str)(l:Str):Prop:=chn bs bs.length x=pre++[l]/\l∈ns/\l∉bs.map (·.1)/\(∀y∈pre,y∈bs.map (·.1))/\pre.length<=bs.length
def ChI(S:D)(ns:List Str)(bs:List Bh)(x:Str)(p:Nat)(ρ:En):Prop:=∃(pre:List Str)(l:Str),ρ=[some S,some (.str x),some (.lst .own ((pre++[l]).map D.str))]/\pre.length=p/\pre++chn bs (bs.length-p) l=chn bs bs.length x/\l∈ns/\(∀y∈pre,y∈bs.map (·.1))/\p<=bs.length/\∀(i:Nat)(b:Bh),bs[i]? =some b->b.1=l->p<=i
variable{l:Str}
theorem p6:gIx (.lst m ((pre++[l]).map D.str)) (.int (-1))=some (.str l):=by
 simp[gIx,atI,ixN];rw[Zd 1.11,YK,show(-1+((pre.length:Int)+1)).toNat=(pre.map D.str).length by rw[Ze];omega];simp
def ChR(ns:List Str)(bs:List Bh)(x:Str)(d:D):Prop:=d= .lst .own ((chn bs bs.length x).map D.str)/\∃pre l,Ch ns bs x pre l
theorem Fx(U:Bk ns s.bs)(J:x∈ns)(Y:s.bs.length<=1000):Wp (aW [skD .frz ns s,.str x]) (ChR ns s.bs x):=by
 simp_arith![aW,fnP];refine aX (λρ=>ρ=[some (skD .frz ns s),some (.str x),none]) 1.25 ?_
 .simp_arith[sEx,aG,aR,aJ,sH,gf1,HR,MK J,bj]
  exact q _ rfl
 rintro _ rfl;refine aX (λρ=>ρ=[some (skD .frz ns s),some (.str x),some (.lst .own [.str x])]) 1.25 ?_
 .simp_arith[sEx,aG,aR,aJ,dN]
  exact q _ rfl
 rintro _ rfl;refine aX (λρ=>∃(pre:List Str)(l:Str),ρ=[some (skD .frz ns s),some (.str x),some (.lst .own ((pre++[l]).map D.str))]/\Ch ns s.bs x pre l) 1.25 ?_
 .refine rQ (ChI (skD .frz ns s) ns s.bs x) s.bs.length ?_ 1000000 0 _ ⟨[],x,rfl,rfl,by simp,J,by simp,by omega,λi b _ _=>by omega⟩ 1.11
  rintro p ρ ⟨pre,l,rfl,F,Z,a2,O,a6,a5⟩;have a0:=p6 (pre:=pre) (l:=l) (m:=.brw);simp_arith[sEx,aG,aR,aJ,bH,ie,a0,sH,gf2,YB,-List.map_append];cases I:kyB s.bs l with
  |false=>
   simp![ZG,aao];have V:l∉s.bs.map (·.1):=by simpa[kyB]using I
   refine q _ ⟨pre,l,rfl,?_,a2,V,O,by omega⟩;rw[←Z];cases s.bs.length-p with
   |zero=>rfl
   |succ k=>rw[chn,TY V]
  |true=>
   simp![Zz];obtain⟨b,a1,B⟩:=Zf.mp (show l∈s.bs.map (·.1)by simpa[kyB]using I);obtain⟨i,hi⟩:=ZS.mp a1;have N:=(List.getElem?_eq_some_iff.mp hi).1;have a7:=a5 i b hi B;subst B;have a4:=Hu (m:=.frz) U.nd hi;obtain⟨o1,o2,o3⟩:=U.ok i b hi;simp_arith[sEx,aG,aR,aJ,bH,ie,a0,sH,gf2,a4,-List.map_append,show gIx (bvD b) (.int 0)=some (.str b.2.1)from rfl,aV];refine⟨by omega,by omega,pre++[b.1],b.2.1,by simp,by simp[F],?_,o2,λy hy=>(YL.mp hy).elim (O y) λz=>by rw[ZJ.mp z];exact Zf.mpr ⟨b,a1,rfl⟩,by omega,λj c hj a3=>?_⟩
   .rw[←Z,show s.bs.length-p=(s.bs.length-(p+1))+1 by omega,chn,Du U.nd hi]
    simp
   .have:=o3 j c hj a3;omega
 rintro _ ⟨pre,l,rfl,h⟩;simp[fH,aN];exact⟨by rw[h.1];simp,pre,l,h⟩
theorem J_:cutD (ds++[d]) none (some (-1))=ds:=by
 unfold cutD;rw[HT.sIx_none];simp[HT.sIx];rw[show(-1+((ds.length:Int)+1)).toNat=ds.length by omega];simp
theorem vm:∀vs:List Int,wU (vs.map D.int)=some vs
 |[]=>rfl
 |v::r=>by simp[wU,vm r]
def gpB(bs:List Bh)(d:D):Int:=match d with
 |.str x=>((bs.find? λb=>decide (b.1=x)).map (·.2.2)).getD 0
 |_=>0
theorem Yb(U:Bk ns s.bs)(F:∀y∈pre,y∈s.bs.map (·.1))(Y:pre.length<=1000):bw [skD .frz ns s,.lst .frz ((pre++[l]).map D.str)]=some (.int ((pre.map λy=>gpB s.bs (.str y)).sum)):=by
 have z:gh (tpN 0) eTT (e2 gIx (e2 gIx (e1 (gY "Stack" "behind") 1.20) 1.18) (eC (.int 1))) [none,some (skD .frz ns s)] (pre.map D.str)=some ((pre.map λy=>gpB s.bs (.str y)).map D.int):=by
  rw[By (p:=λ_=>true) (f:=λd=>.int (gpB s.bs d)),filter_tt,Zj,Zj]
  .rfl
  .intro d hd
   obtain⟨y,J,rfl⟩:=Zf.mp hd;obtain⟨b,q,B⟩:=Zf.mp (F y J);obtain⟨i,hi⟩:=ZS.mp q;have I:=Hu (m:=.frz) U.nd hi;subst B;have V:=Du U.nd hi;simp[tpN,aN,eTT,e2,e1,ao,view,eC,sH,gf2,I,gpB,V];rfl
 apply Wp.eq;have Z:cutD ((pre++[l]).map D.str) none (some (-1))=pre.map D.str:=by rw[Zr];exact J_
 simp_arith![bw,fnP];simp_arith[sEx,aG,aR,aJ,bH,ie,gSl,Z,sH,bW,bN,ir,-List.map_append,z,-List.map_map,zz,vm,pW,pR];omega
structure Pot(bs:List Bh)(R:Str->Str)(O:Str->Int):Prop where
 e:∀b∈bs,R b.1=R b.2.1/\O b.1=b.2.2+O b.2.1
 r:∀l,l∉bs.map (·.1)->R l=l/\O l=0
theorem zG(F:Pot bs R O)(Y:l∉bs.map (·.1)):∀(n:Nat)(x:Str)(pre:List Str),chn bs n x=pre++[l]->R x=l/\(pre.map λy=>gpB bs (.str y)).sum=O x
 |0,x,pre,h=>by
  have h:[x]=pre++[l]:=h;cases pre with
  |nil=>
   obtain rfl:x=l:=by simpa using h
   obtain⟨a,b⟩:=F.r x Y;exact⟨a,by rw[b];rfl⟩
  |cons p q=>simp at h
 |n+1,x,pre,h=>by
  rw[chn]at h;cases V:bs.find? λb=>decide (b.1=x)with
  |none=>
   rw[V]at h;have h:[x]=pre++[l]:=h;cases pre with
   |nil=>
    obtain rfl:x=l:=by simpa using h
    obtain⟨a,b⟩:=F.r x Y;exact⟨a,by rw[b];rfl⟩
   |cons p q=>simp at h
  |some b=>
   rw[V]at h;have h:x::chn bs n b.2.1=pre++[l]:=h;have U:b∈bs:=ad0 V;have J:b.1=x:=by simpa using List.find?_some V
   cases pre with
   |nil=>
    obtain rfl:x=l:=by simpa using(List.cons.inj h).1
    exact absurd (Zf.mpr ⟨b,U,J⟩) Y
   |cons p q=>
    rw[ZK]at h;obtain⟨rfl,h2⟩:=List.cons.inj h;obtain⟨D,B⟩:=zG F Y n b.2.1 q h2;obtain⟨N,z⟩:=F.e b U;rw[J]at N z;refine⟨N.trans D,?_⟩;rw[YT,adP,B,z];simp[gpB,V]
structure Ok(ns:List Str)(s:Sk):Prop where
 b:Bk ns s.bs
 t:0<=s.t/\s.t<=1000
 l:ns.length<=20
 m:s.dn.length<=1000
theorem Ok.bl(h:Ok ns s):s.bs.length<=1000:=by
 have:=yM h.b.nd (λx J=>by
  obtain⟨b,U,rfl⟩:=Zf.mp J;obtain⟨i,hi⟩:=ZS.mp U;exact(h.b.ok i b hi).1:∀x∈s.bs.map (·.1),x∈ns)
 have h2:=h.l;simp at this;omega
theorem Gj:∀l:List Str,j8 (l.map D.str)=some (l.map Zx)
 |[]=>rfl
 |x::r=>by simp[j8,dh,Gj r]
def rO:Option Int->D
 |none=>.non
 |some v=>.int v
def cnt(t v:Int):Int:=if t=0 then v else v % t
def stp(t:Int)(R:Str->Str)(O:Str->Int)(x y:Str):Option Int:=if R x=R y then some (cnt t (O y-O x))else none
def SpS(ns:List Str)(s:Sk)(R:Str->Str)(O:Str->Int)(x y:Str)(q:D×List D):Prop:=∃lk:Int,q=(rO (stp s.t R O x y),[skD .own ns {s with lk:=lk},.str x,.str y])
theorem Mw(U:0<=t/\t<=1000):d9 [.int t,.int v]=some (.int (cnt t v)):=by
 by_cases h:t=0
 .apply Wp.eq;simp_arith[d9,sEx,aG,aR,aJ,eq_int,h,cnt]
 .apply Wp.eq;simp_arith[d9,sEx,aG,aR,aJ,eq_int,h,mC,cnt];omega
variable{a:Str}
theorem ne_str{b:Str}:gNe (.str a) (.str b)=some (.bl (!decide (a=b))):=by
 unfold gNe;rw[Zd ⟨rfl,rfl,.sc (.str a b)⟩];simp![dt,eqD,abm,D.bl.injEq];rw[ab6];simp
theorem eq_str{b:Str}:gEq (.str a) (.str b)=some (.bl (decide (a=b))):=by
 unfold gEq;rw[Zd ⟨rfl,rfl,.sc (.str a b)⟩];simp![dt,eqD,abm,D.bl.injEq];rw[ab6];simp
theorem vo(h:Ok ns s)(F:Pot s.bs R O)(J:x∈ns):∃pre,Ch ns s.bs x pre (R x)/\dB "Stack" "chain" aW (skD .bro ns s) [.str x]=some (.lst .own ((pre++[R x]).map D.str)):=by
 obtain⟨_,e,rfl,pre,l,Z⟩:=Fx h.b J h.bl;obtain⟨rfl,_⟩:=zG F Z.2.2.1 _ _ _ Z.1;refine⟨pre,Z,?_⟩;rw[Z.1]at e;have N:∀l:List Str,bB (l.map D.str)=true:=λl=>by induction l<;>simp_all [bB,bj]
 simp![dB,rG (m:=.bro) (by decide) (show eF jW "chain"=none by decide),Zz,bI,fzL,K6,fz,e,YK,bj,N];simp
theorem Fv(h:Ok ns s)(F:Pot s.bs R O)(Z:Ch ns s.bs x pre (R x)):dB "Stack" "offset" bw (skD .bro ns s) [.lst .brw ((pre++[R x]).map D.str)]=some (.int (O x)):=by
 have:=h.bl;have e:=Yb (l:=R x) h.b Z.2.2.2.1 (by have:=Z.2.2.2.2;omega);rw[(zG F Z.2.2.1 _ _ _ Z.1).2]at e;simp![dB,rG (m:=.bro) (by decide) (show eF jW "offset"=none by decide),Zz,bI,fzL,K6,fz,eQ,mkF,e,YK,bj];simp
theorem QV(h:Ok ns s)(F:Pot s.bs R O)(J:x∈ns)(U:y∈ns):Wp (dq [skD .own ns s,.str x,.str y]) (SpS ns s R O x y):=by
 simp_arith![dq,fnI];refine aX (λρ=>ρ=[some (skD .own ns s),some (.str x),some (.str y),none,none]) 1.25 ?_
 .simp_arith[sEx,aG,aR,aJ,m5,gf1,HR,MK J,bj]
  exact q _ rfl
 rintro _ rfl;refine aX (λρ=>ρ=[some (skD .own ns s),some (.str x),some (.str y),none,none]) 1.25 ?_
 .simp_arith[sEx,aG,aR,aJ,m5,gf1,HR,MK U,bj]
  exact q _ rfl
 rintro _ rfl;obtain⟨p1,Z,I⟩:=vo h F J;obtain⟨p2,V,g2⟩:=vo h F U;by_cases a0:x=y
 .subst a0
  simp_arith[sEx,aG,aR,aJ,eq_str,tf5];refine⟨1,?_⟩;have:stp s.t R O x x=some 0:=by simp[stp,cnt]
  rw[this];rfl
 refine aX (λρ=>ρ=[some (skD .own ns s),some (.str x),some (.str y),none,none]) 1.25 ?_
 .simp_arith[sEx,aG,aR,aJ,eq_str,a0]
  exact q _ rfl
 rintro _ rfl;refine aX (λρ=>ρ=[some (skD .own ns s),some (.str x),some (.str y),some (.lst .own ((p1++[R x]).map D.str)),some (.lst .own ((p2++[R y]).map D.str))]) 1.25 ?_
 .simp_arith[sEx,aG,aR,aJ,m5,I,g2,bW,bN,-List.map_append]
  exact q _ rfl
 rintro _ rfl;have a1:=h.bl;have n1:=Z.2.2.2.2;have B:=V.2.2.2.2;refine aX (λρ=>∃lk:Int,ρ=[some (skD .own ns {s with lk:=lk}),some (.str x),some (.str y),some (.lst .own ((p1++[R x]).map D.str)),some (.lst .own ((p2++[R y]).map D.str))]) 1.25 ?_
 .have hk:pY [.lst .own ((p1++[R x]).map D.str++(p2++[R y]).map D.str)]=some (.int (uV (((p1++[R x])++(p2++[R y])).map Zx)).length):=by
   rw[←Zr,pY,Zd (by simp;omega),Gj];rfl
  simp_arith[sEx,aG,aR,aJ,bH,fG,tf5,-List.map_append,bW,bN];refine⟨by omega,?_⟩;rw[hk,aN];simp[aD,aC,tf5,aN,-List.map_append];exact q _ ⟨_,rfl⟩
 rintro _ ⟨lk,rfl⟩;have h1:=p6 (pre:=p1) (l:=R x) (m:=.brw);have h2:=p6 (pre:=p2) (l:=R y) (m:=.brw);by_cases Y:R x=R y
 .refine aX (λρ=>ρ=[some (skD .own ns {s with lk:=lk}),some (.str x),some (.str y),some (.lst .own ((p1++[R x]).map D.str)),some (.lst .own ((p2++[R y]).map D.str))]) 1.25 ?_
  .have hn:gNe (.str (R x)) (.str (R y))=some (.bl false):=by rw[ne_str,aap Y];rfl
   simp_arith[sEx,aG,aR,aJ,bH,ie,h1,h2,hn,-List.map_append];exact q _ rfl
  rintro _ rfl;have h':Ok ns {s with lk:=lk}:=⟨h.b,h.t,h.l,h.m⟩;have f1:=Fv (s:={s with lk:=lk}) h' F Z;have N:=Fv (s:={s with lk:=lk}) h' F V;have z:=Mw (v:=O y-O x) h.t;simp_arith[sEx,aG,aR,aJ,bH,m5,gf0,f1,N,jq,z,bj,-List.map_append];exact⟨lk,by simp![stp,Y,Zz];rfl⟩
 .simp_arith[sEx,aG,aR,aJ,bH,ie,h1,h2,ne_str,Y,-List.map_append]
  exact⟨lk,by simp![stp,Y,aao];rfl⟩
def isJ:gU->Bool
 |.join _ _ _ _=>true
 |_=>false
def jnD:gU->D
 |.join a b s _=>.tup [.str a,.str b,.int s]
 |_=>.non
def jtO:gU->Option Jt
 |.join a b s _=>some (a,b,s)
 |_=>none
theorem Dd:∀l:List gU,(l.filter isJ).map jnD=(l.filterMap jtO).map jD
 |[]=>rfl
 |d::r=>by cases d<;>simp[aan,abq,isJ,jtO,jnD,jD,Dd r]
variable{d:gU}
theorem yu:gIx (dcD d) (.int 0)=some (.str (if isJ d then "join" else "weigh")):=by cases d<;>rfl
theorem R4(h:isJ d=true):gSl (dcD d) (some 1) none=some (jnD d):=by cases d<;>first|rfl|cases h
theorem pH(d:gU):aD (dcD d)=true/\aC (dcD d)=true/\(∀b,view b (dcD d)=dcD d)/\fz (dcD d)=dcD d/\fzo (dcD d)=dcD d/\bj (dcD d)=true:=by cases d<;>exact⟨rfl,rfl,λ_=>rfl,rfl,rfl,rfl⟩
theorem DQ(d:gU):aD (ktD d)=true/\aC (ktD d)=true/\(∀b,view b (ktD d)=ktD d)/\fz (ktD d)=ktD d:=by
 cases d with
 |join a b s h=>cases h<;>exact⟨rfl,rfl,λ_=>rfl,rfl⟩
 |weigh a n o=>exact⟨rfl,rfl,λ_=>rfl,rfl⟩
theorem RZ:∀l:List Jt,bB (l.map jD)=true
 |[]=>rfl
 |d::r=>by rw[YT,bB,RZ r];rfl
theorem wH(Y:s.dn.length<=1000):bA [skD .frz ns s]=some (.lst .own ((s.dn.filterMap jtO).map jD)):=by
 have V:gh (tpT 2 (aQ (tpN 0) (aQ (tpN 1) cC))) (eB (e2 gEq (e2 gIx 1.18 1.27) (eC (.str "join")))) (eSl 1.18 (gq (eC (.int 1))) gB) [none,none] (s.dn.map dnD)=some ((s.dn.filterMap jtO).map jD):=by
  rw[←Dd];have:∀l:List gU,gh (tpT 2 (aQ (tpN 0) (aQ (tpN 1) cC))) (eB (e2 gEq (e2 gIx 1.18 1.27) (eC (.str "join")))) (eSl 1.18 (gq (eC (.int 1))) gB) [none,none] (l.map dnD)=some ((l.filter isJ).map jnD):=by
   intro l
   induction l with
   |nil=>rfl
   |cons d r N=>
    obtain⟨Z,q,z,_⟩:=pH d;obtain⟨B,D,U,_⟩:=DQ d;rw[YT,gh,N];cases F:isJ d with
    |true=>simp[dnD,tpT,aQ,cC,tpN,eB,isB,e2,eC,ao,eSl,gB,gq,oZ,z,yu,F,eq_str,R4 F,aan]
    |false=>simp[dnD,tpT,aQ,cC,tpN,eB,isB,e2,eC,ao,z,yu,F,eq_str,aan,show ¬(("weigh":Str)="join")by decide]
  exact this s.dn
 apply Wp.eq;simp_arith[bA,sEx,aG,aR,aJ,sH,gf4,nD,Np,Jo,Wt];exact⟨by omega,GC V ⟨⟨nO _,nW _⟩,rfl⟩⟩
theorem D_(Y:s.dn.length<=1000):dB "Stack" "standing" bA (skD .bro ns s) []=some (.lst .own ((s.dn.filterMap jtO).map jD)):=by
 simp![dB,rG (m:=.bro) (by decide) (show eF jW "standing"=none by decide),Zz,bI,fzL,K6,wH Y,YK,bj,RZ];simp
def upv(f:Str->Int)(x:Str)(v:Int):Str->Int:=λy=>if y=x then v else f y
variable{f:Str->Int}
theorem WY(nd:ns.Nodup)(hi:ns[i]? =some x):(vsL ns f).set i v=vsL ns (upv f x v):=by
 apply adV;intro k;simp![vsL,abO,Ze,List.getElem?_map];have N:=(List.getElem?_eq_some_iff.mp hi).1;by_cases h:i=k
 .subst h
  rw[Zd rfl,Zd N,hi];simp[upv]
 .rw[Zk h]
  cases I:ns[k]? with
  |none=>rfl
  |some y=>
   have:y≠x:=λe=>h ((abn N nd).mp (by rw[hi,I,e]));simp[upv,this]
theorem Vd(nd:ns.Nodup)(J:x∈ns)(Y:ns.length<=20):fU (wD .own ns vs) [.str x,.int v]=some (wD .own ns (upv vs x v),.non):=by
 obtain⟨i,h1,B,h2⟩:=pN J;simp![wD,fU,dh,YK,h_,h1];rw[Zd (by simp[vsL];omega),←WY nd B,List.map_set]
theorem WN(nd:ns.Nodup)(J:x∈ns)(Y:ns.length<=20):yh g (wD .own ns vs) [.str x,.int v]=some (wD .own ns (upv vs x (g (vs x) v)),.non):=by
 have hi:=Cg (m:=.own) (vs:=vs) J;have h2:=Vd (v:=g (vs x) v) (vs:=vs) nd J Y;unfold yh;simp![wD]at hi h2⊢;simp![hi,YK,h2]
theorem WX(J:b.1∉bs.map (·.1))(Y:bs.length<=1000):fU (bD .own bs) [.str b.1,bvD b]=some (bD .own (bs++[b]),.non):=by
 have I:cZ ((bs.map (·.1)).map Zx) (Zx b.1)=none:=by
  have:=kI (ys:=bs.map (·.1)) (x:=b.1);rw[Zy J]at this;cases h:cZ ((bs.map (·.1)).map Zx) (Zx b.1)with
  |none=>rfl
  |some j=>rw[h]at this;cases this
 simp![bD,fU,dh,YK,h_,I];rw[Zd (by simp;omega)];simp
theorem Bk.add(h:Bk ns bs)(h1:b.1∈ns)(h2:b.2.1∈ns)(B:b.1∉bs.map (·.1))(h4:b.2.1∉bs.map (·.1))(J:b.1≠b.2.1):Bk ns (bs++[b])where
 nd:=by
  rw[Zr];exact Zi.mpr ⟨h.nd,by simp,λy U z O=>by
   obtain rfl:z=b.1:=by simpa using O
   exact λe=>B (e▸U)⟩
 ok:=λi c hi=>by
  rcases ab0 i bs.length with Y|Y
  .rw[ZC Y]at hi
   obtain⟨Z,D,q⟩:=h.ok i c hi;refine⟨Z,D,λj e F V=>?_⟩;rcases ab0 j bs.length with N|N
   .rw[ZC N]at F
    exact q j e F V
   .omega
  .rw[aaq Y]at hi
   obtain⟨a1,a0⟩:i=bs.length/\b=c:=by
    cases I:i-bs.length with
    |zero=>rw[I]at hi;exact⟨by omega,by simpa using hi⟩
    |succ n=>rw[I]at hi;simp at hi
   subst a0;refine⟨h1,h2,λj e F V=>?_⟩;exfalso;rcases YL.mp (Zo F)with z|z
   .exact h4 (V▸Zf.mpr ⟨e,z,rfl⟩)
   .rw[ZJ.mp z]at V;exact J V
def hgR(R:Str->Str)(b:Bh):Str->Str:=λy=>if R y=b.1 then b.2.1 else R y
def hgF(R:Str->Str)(O:Str->Int)(b:Bh):Str->Int:=λy=>if R y=b.1 then O y+b.2.2 else O y
theorem Pot.add(h:Pot bs R O)(B:b.1∉bs.map (·.1))(U:b.2.1∉bs.map (·.1))(J:b.1≠b.2.1):Pot (bs++[b]) (hgR R b) (hgF R O b)where
 e:=λc Z=>by
  rcases YL.mp Z with z|z
  .obtain⟨N,F⟩:=h.e c z
   unfold hgR hgF;rw[N,F];split<;>exact⟨rfl,by omega⟩
  .rw[ZJ.mp z]
   obtain⟨N,F⟩:=h.r _ B;obtain⟨D,q⟩:=h.r _ U;unfold hgR hgF;rw[N,F,D,q,Zd rfl,Zd rfl,Zk (ZV J),Zk (ZV J)];exact⟨rfl,by omega⟩
 r:=λl Y=>by
  rw[Zr,YL]at Y;obtain⟨N,F⟩:=h.r l λz=>Y (.inl z);have:l≠b.1:=λz=>Y (.inr (by simp[z]));unfold hgR hgF;rw[N,Zk this,Zk this];exact⟨rfl,F⟩
def Hb(R:Str->Str)(O:Str->Int)(x y:Str)(st:Int)(b:Bh):Prop:=b=(R x,R y,-(O x+st-O y))∨b=(R y,R x,O x+st-O y)
def Hg(ns:List Str)(s:Sk)(R:Str->Str)(O:Str->Int)(x y:Str)(st:Int)(q:D×List D):Prop:=∃b:Bh,q=(.str b.1,[skD .own ns {s with bs:=s.bs++[b],zs:=upv s.zs b.2.1 (s.zs b.2.1+s.zs b.1)},.str x,.str y,.int st])/\(b.1∈ns/\b.2.1∈ns/\b.1∉s.bs.map (·.1)/\b.2.1∉s.bs.map (·.1)/\b.1≠b.2.1)/\Bk ns (s.bs++[b])/\Pot (s.bs++[b]) (hgR R b) (hgF R O b)/\Hb R O x y st b
theorem VN{st:Int}(nd:ns.Nodup)(h:Ok ns s)(F:Pot s.bs R O)(J:x∈ns)(U:y∈ns)(B:R x≠R y):Wp (dF [skD .own ns s,.str x,.str y,.int st]) (Hg ns s R O x y st):=by
 obtain⟨p1,Z,I⟩:=vo h F J;obtain⟨p2,V,g2⟩:=vo h F U;have f1:=Fv h F Z;have N:=Fv h F V;have h1:=p6 (pre:=p1) (l:=R x) (m:=.brw);have h2:=p6 (pre:=p2) (l:=R y) (m:=.brw);have Y:=h.bl;simp_arith![dF,fnI];refine aX (λρ=>ρ=[some (skD .own ns s),some (.str x),some (.str y),some (.int st),some (.lst .own ((p1++[R x]).map D.str)),some (.lst .own ((p2++[R y]).map D.str)),none,none,none]) 1.25 ?_
 .simp_arith[sEx,aG,aR,aJ,m5,I,g2,bW,bN,-List.map_append]
  exact q _ rfl
 rintro _ rfl;refine aX (λρ=>ρ=[some (skD .own ns s),some (.str x),some (.str y),some (.int st),some (.lst .own ((p1++[R x]).map D.str)),some (.lst .own ((p2++[R y]).map D.str)),some (.int (O x+st-O y)),none,none]) 1.25 ?_
 .simp_arith[sEx,aG,aR,aJ,m5,bH,f1,N,fG,jq,-List.map_append]
  exact q _ rfl
 rintro _ rfl;refine aX (λρ=>ρ=[some (skD .own ns s),some (.str x),some (.str y),some (.int st),some (.lst .own ((p1++[R x]).map D.str)),some (.lst .own ((p2++[R y]).map D.str)),some (.int (O x+st-O y)),some (.str (R x)),some (.str (R y))]) 1.25 ?_
 .simp_arith[sEx,aG,aR,aJ,bH,ie,h1,h2,-List.map_append]
  exact q _ rfl
 rintro _ rfl;have i1:=Cg (m:=.bro) (vs:=s.zs) Z.2.1;have i2:=Cg (m:=.bro) (vs:=s.zs) V.2.1;refine aX (λρ=>∃b:Bh,ρ=[some (skD .own ns s),some (.str x),some (.str y),some (.int st),some (.lst .own ((p1++[R x]).map D.str)),some (.lst .own ((p2++[R y]).map D.str)),some (.int b.2.2),some (.str b.2.1),some (.str b.1)]/\b.1∈ns/\b.2.1∈ns/\b.1∉s.bs.map (·.1)/\b.2.1∉s.bs.map (·.1)/\b.1≠b.2.1/\Hb R O x y st b) 1.25 ?_
 .simp_arith[sEx,aG,aR,aJ,m5,gf3,i1,i2,gLt,ie,-List.map_append]
  split
  .exact q _ ⟨(R x,R y,-(O x+st-O y)),rfl,Z.2.1,V.2.1,Z.2.2.1,V.2.2.1,B,.inl rfl⟩
  .exact q _ ⟨(R y,R x,O x+st-O y),rfl,V.2.1,Z.2.1,V.2.2.1,Z.2.2.1,B.symm,.inr rfl⟩
 rintro _ ⟨b,rfl,z,b2,b3,b4,b5,b6⟩;refine aX (λρ=>ρ=[some (skD .own ns {s with bs:=s.bs++[b]}),some (.str x),some (.str y),some (.int st),some (.lst .own ((p1++[R x]).map D.str)),some (.lst .own ((p2++[R y]).map D.str)),some (.int b.2.2),some (.str b.2.1),some (.str b.1)]) 1.25 ?_
 .have F:=WX b3 Y
  simp[aN,iU,aZ,fB,w_ite,lX,cN,b7,gk,sIf,mV,fP,iJ,fH,dO,jg,n_,sFz,jU,i_,jE,tgN,tgT,aQ,cC,gw,tpN,tpT,cz,mW,ao,eC,aK,ak,eAp,eUp,kO,dM,ee2,fO,mO,e2,e1,eB,eeB,jK,qw,eOr,lZ,nT,pF,eTT,isB,mR,itS,itE,n6,cL,fV,iI,eSl,uW,oZ,mF,gB,gq,eMt,uO,eIo,objs,iH,bI,clean,aD,aC,az,aB,b8,bY,view,cU,mkV,mkF,fz,fzL,fzo,g_,mkO,fnP,fnI,en0,outs,gF,e_,obC,truth,sEx,aG,aR,aJ,bL,pf2,-List.map_append];rw[show D.tup [.str b.2.1,.int b.2.2]=bvD b from rfl,us2 ⟨rfl,rfl⟩ F,aN];exact q _ rfl
 rintro _ rfl;have i3:=Cg (m:=.bro) (vs:=s.zs) z;have q2:=WN (g:=λi j=>i+j) (vs:=s.zs) (v:=s.zs b.1) nd b2 h.l;refine aX (λρ=>ρ=[some (skD .own ns {s with bs:=s.bs++[b],zs:=upv s.zs b.2.1 (s.zs b.2.1+s.zs b.1)}),some (.str x),some (.str y),some (.int st),some (.lst .own ((p1++[R x]).map D.str)),some (.lst .own ((p2++[R y]).map D.str)),some (.int b.2.2),some (.str b.2.1),some (.str b.1)]) 1.25 ?_
 .simp[aN,iU,aZ,fB,w_ite,lX,cN,b7,gk,sIf,mV,fP,iJ,fH,dO,jg,n_,sFz,jU,i_,jE,tgN,tgT,aQ,cC,gw,tpN,tpT,cz,mW,ao,eC,aK,ak,eAp,eUp,kO,dM,ee2,fO,mO,e2,e1,eB,eeB,jK,qw,eOr,lZ,nT,pF,eTT,isB,mR,itS,itE,n6,cL,fV,iI,eSl,uW,oZ,mF,gB,gq,eMt,uO,eIo,objs,iH,bI,clean,aD,aC,az,aB,b8,bY,view,cU,mkV,mkF,fz,fzL,fzo,g_,mkO,fnP,fnI,en0,outs,gF,e_,obC,truth,sEx,aG,aR,aJ,vQ,pf3,m5,gf3,i3,-List.map_append]
  rw[us3 (s:={s with bs:=s.bs++[b]}) ⟨rfl,rfl⟩ q2,aN];exact q _ rfl
 rintro _ rfl;simp_arith[sEx,aG,aR,aJ];exact⟨b,rfl,⟨z,b2,b3,b4,b5⟩,h.b.add z b2 b3 b4 b5,F.add b3 b4 b5,b6⟩
structure Nx(R:Str->Str)(O:Str->Int)(R':Str->Str)(O':Str->Int)(x y:Str)(st:Int):Prop where
 o:∀a b,R a=R b->R' a=R' b/\O' b-O' a=O b-O a
 n:R' x=R' y/\(R x≠R y->O' y-O' x=st)
 c:∀a b,R' a=R' b->R a=R b∨(R a=R x/\R b=R y)∨(R a=R y/\R b=R x)
theorem Nx.refl{st:Int}(h:R x=R y):Nx R O R O x y st:=⟨λ_ _ h=>⟨h,rfl⟩,⟨h,λz=>absurd h z⟩,λ_ _ h=>.inl h⟩
theorem Nx.hang{R:Str->Str}{O:Str->Int}{x y:Str}{st:Int}{b:Bh}(h:R x≠R y)(U:Hb R O x y st b):Nx R O (hgR R b) (hgF R O b) x y st:=by
 refine⟨λa c e=>?_,?_,λa c e=>?_⟩
 .unfold hgR hgF
  rw[e];split<;>exact⟨rfl,by omega⟩
 .rcases U with rfl|rfl
  .simp![hgR,hgF,Zz,Zk (ZV h)]
   exact⟨trivial,λ_=>by omega⟩
  .simp![hgR,hgF,Zz,Zk h]
   exact⟨trivial,λ_=>by omega⟩
 .rcases U with rfl|rfl
  .simp![hgR]at e
   split at e<;>split at e
   .rename_i e1' e2';exact .inl (e1'.trans e2'.symm)
   .rename_i e1' e2';exact .inr (.inl ⟨e1',e.symm⟩)
   .rename_i e1' e2';exact .inr (.inr ⟨e,e2'⟩)
   .exact .inl e
  .simp![hgR]at e
   split at e<;>split at e
   .rename_i e1' e2';exact .inl (e1'.trans e2'.symm)
   .rename_i e1' e2';exact .inr (.inr ⟨e1',e.symm⟩)
   .rename_i e1' e2';exact .inr (.inl ⟨e,e2'⟩)
   .exact .inl e
def HJ(ns:List Str)(js:List Jt)(t:Int)(R:Str->Str)(O:Str->Int):Prop:=∀j∈js,j.1∈ns/\j.2.1∈ns/\R j.1=R j.2.1/\t ∣ O j.2.1-O j.1-j.2.2
structure Iv(ns:List Str)(js:List Jt)(t:Int)(R:Str->Str)(O:Str->Int):Prop where
 j:HJ ns js t R O
 c:∀S:Str->Str,(∀j∈js,S j.1=S j.2.1)->∀a∈ns,∀b∈ns,R a=R b->S a=S b
theorem Vc{u:Int}(h:t ∣ u-v):cnt t u=cnt t v:=by
 unfold cnt;split
 .rename_i e
  rw[e,Int.zero_dvd]at h;omega
 .exact acx.mpr (Int.emod_eq_zero_of_dvd h)
theorem Tv{u:Int}(h:cnt t u=cnt t v):t ∣ u-v:=by
 unfold cnt at h;split at h
 .rename_i e
  rw[e,Int.zero_dvd];omega
 .exact Int.dvd_of_emod_eq_zero (acx.mp h)
variable{j:Jt}{js:List Jt}
theorem Iv.add{F:Str->Str}{V:Str->Int}(N:Iv ns js t R O)(q:Nx R O F V j.1 j.2.1 j.2.2)(B:stp t R O j.1 j.2.1=none∨stp t R O j.1 j.2.1=some (cnt t j.2.2))(h1:j.1∈ns)(h2:j.2.1∈ns):Iv ns (js++[j]) t F V where
 j:=λi hi=>by
  rcases YL.mp hi with z|z
  .obtain⟨a,b,c,d⟩:=N.j i z
   obtain⟨e,f⟩:=q.o _ _ c;exact⟨a,b,e,by rw[f];exact d⟩
  .rw[ZJ.mp z]
   refine⟨h1,h2,q.n.1,?_⟩;by_cases J:R j.1=R j.2.1
   .obtain⟨e,f⟩:=q.o _ _ J
    rw[f];rcases B with B|B
    .simp[stp,J]at B
    .simp![stp,J,Zz,abm]at B
     exact Tv B
   .rw[q.n.2 J]
    simp
 c:=λS D a Y b U e=>by
  have I:=N.c S λi hi=>D i (YW _ hi);have new:S j.1=S j.2.1:=D j (by simp);rcases q.c a b e with h|⟨h,g⟩|⟨h,g⟩
  .exact I a Y b U h
  .rw[I a Y _ h1 h,I b U _ h2 g,new]
  .rw[I a Y _ h2 h,I b U _ h1 g,new]
inductive Gd(ns:List Str)(t:Int):Sk->(Str->Str)->(Str->Int)->Prop where
 |nil (lk:Int):Gd ns t ⟨t,λ_=>0,[],λ_=>1,[],lk⟩ id (λ_=>0)
 |weigh {s:Sk} {R:Str->Str} {O:Str->Int} (a:Str) (n lk:Int):Gd ns t s R O->a∈ns->Gd ns t ⟨s.t,upv s.ws a n,s.bs,s.zs,s.dn++[.weigh a n (s.ws a)],lk⟩ R O
 |known {s:Sk} {R:Str->Str} {O:Str->Int} (j:Jt) (lk:Int):Gd ns t s R O->j.1∈ns->j.2.1∈ns->stp t R O j.1 j.2.1=some (cnt t j.2.2)->Gd ns t ⟨s.t,s.ws,s.bs,s.zs,s.dn++[.join j.1 j.2.1 j.2.2 none],lk⟩ R O
 |hang {s:Sk} {R:Str->Str} {O:Str->Int} (j:Jt) (b:Bh) (lk:Int):Gd ns t s R O->j.1∈ns->j.2.1∈ns->R j.1≠R j.2.1->Hb R O j.1 j.2.1 j.2.2 b->(b.1∈ns/\b.2.1∈ns/\b.1∉s.bs.map (·.1)/\b.2.1∉s.bs.map (·.1)/\b.1≠b.2.1)->Gd ns t ⟨s.t,s.ws,s.bs++[b],upv s.zs b.2.1 (s.zs b.2.1+s.zs b.1),s.dn++[.join j.1 j.2.1 j.2.2 (some b.1)],lk⟩ (hgR R b) (hgF R O b)
theorem Gd.lk(h:Gd ns t s R O)(lk:Int):Gd ns t {s with lk:=lk} R O:=by
 cases h with
 |nil l=>exact .nil lk
 |weigh a n l h h1=>exact .weigh a n lk h h1
 |known j l h h1 h2 B=>exact .known j lk h h1 h2 B
 |hang j b l h h1 h2 B U J=>exact .hang j b lk h h1 h2 B U J
def szR(ns:List Str)(R:Str->Str)(l:Str):Int:=((ns.filter λy=>decide (R y=l)).length:Nat)
structure Gi(ns:List Str)(t:Int)(s:Sk)(R:Str->Str)(O:Str->Int):Prop where
 q:s.t=t
 b:Bk ns s.bs
 p:Pot s.bs R O
 i:Iv ns (s.dn.filterMap jtO) t R O
 z:∀l∈ns,l∉s.bs.map (·.1)->s.zs l=szR ns R l
theorem Av{R:Str->Str}(U:b.1≠b.2.1):∀ns:List Str,szR ns (hgR R b) b.2.1=szR ns R b.2.1+szR ns R b.1
 |[]=>by simp[szR]
 |y::r=>by
  have N:=Av (R:=R) U r;unfold szR at N⊢;simp![aan,hgR]at N⊢;by_cases h1:R y=b.1
  .simp![h1,Zz,decide_true,U,decide_false,ZG,aao,Zq]at N⊢
   omega
  .by_cases h2:R y=b.2.1
   .simp![h2,ZV U,aao,decide_true,Zz,decide_false,ZG,Zq]at N⊢
    omega
   .simp![h1,h2,aao,decide_false,ZG]at N⊢
    exact N
theorem Kq(h1:l≠b.1)(h2:l≠b.2.1)(ns:List Str):szR ns (hgR R b) l=szR ns R l:=by
 unfold szR;congr 2;apply List.filter_congr;intro y _;unfold hgR;split
 .rename_i e;rw[e,Zy (ZV h2),Zy (ZV h1)]
 .rfl
theorem Fg{l:Str}:∀{ns:List Str},ns.Nodup->l∈ns->szR ns id l=1
 |[],_,h=>by cases h
 |y::r,nd,h=>by
  unfold szR;rw[Zv]at nd;by_cases e:y=l
  .subst e
   have:r.filter (λz=>decide (z=y))=[]:=List.filter_eq_nil_iff.mpr λz O=>by
    simp![aa1];exact λe=>nd.1 (e▸O)
   simp[aan,this]
  .have:=Fg nd.2 ((Za.mp h).resolve_left (ZV e))
   unfold szR at this;simp[aan,e]at this⊢;exact this
theorem Gd.gi(nd:ns.Nodup)(h:Gd ns t s R O):Gi ns t s R O:=by
 induction h with
 |nil lk=>exact⟨rfl,⟨by simp,by simp⟩,⟨by simp,λ_ _=>⟨rfl,rfl⟩⟩,⟨by simp[HJ],λS _ a _ b _ e=>congrArg S e⟩,λl Y _=>(Fg nd Y).symm⟩
 |weigh a n lk h h1 N=>exact⟨N.q,N.b,N.p,by rw[abd,show af2 jtO [gU.weigh a n _]=[]from rfl,Zu];exact N.i,N.z⟩
 |known j lk h h1 h2 B N=>
  refine⟨N.q,N.b,N.p,?_,N.z⟩;rw[abd];refine N.i.add (j:=j) (Nx.refl ?_) (.inr B) h1 h2;unfold stp at B;split at B
  .assumption
  .cases B
 |@hang s R O j b lk h h1 h2 B U J N=>
  obtain⟨b1,V,F,D,I⟩:=J;refine⟨N.q,N.b.add b1 V F D I,N.p.add F D I,?_,λl Y hn=>?_⟩
  .rw[abd]
   exact N.i.add (j:=j) (Nx.hang B U) (.inl (by simp[stp,B])) h1 h2
  .simp![Zr,YL,not_or]at hn
   have Z:l≠b.1:=λe=>hn.2 (by simp[e]);by_cases e:l=b.2.1
   .subst e
    simp![upv,Zz];rw[Av I,N.z _ V D,N.z _ b1 F]
   .simp![upv,Zk e]
    rw[Kq Z e,N.z l Y hn.1]
theorem Gi.ok(h:Gi ns t s R O)(U:0<=t/\t<=1000)(Y:ns.length<=20)(Z:s.dn.length<=1000):Ok ns s:=⟨h.b,by rw[h.q];exact U,Y,Z⟩
def Jn(ns:List Str)(t:Int)(s:Sk)(x y:Str)(st:Int)(q:D×List D):Prop:=(∃(v lk:Int),q=(.tup [.str "clash",.int v],[skD .own ns {s with lk:=lk},.str x,.str y,.int st]))∨∃(w:Str)(k:Int)(h:Option Str)(s':Sk)(F:Str->Str)(I:Str->Int),q=(.tup [.str w,.int k],[skD .own ns s',.str x,.str y,.int st])/\w≠"clash"/\s'.dn=s.dn++[.join x y st h]/\Gd ns t s' F I
theorem Vb{st:Int}(nd:ns.Nodup)(hG:Gd ns t s R O)(ht:0<=t/\t<=1000)(Y:ns.length<=20)(hx:x∈ns)(hy:y∈ns)(Z:s.dn.length<1000):Wp (dI [skD .own ns s,.str x,.str y,.int st]) (Jn ns t s x y st):=by
 have hi:=hG.gi nd;have F:=hi.p;have h:=hi.ok ht Y 1.11;have a5:=hi.q;simp_arith![dI,fnI];refine aX (λρ=>∃lk:Int,ρ=[some (skD .own ns {s with lk:=lk}),some (.str x),some (.str y),some (.int st),some (rO (stp s.t R O x y)),none,none]) (λQ hQ=>?_) ?_
 .simp_arith[sEx,aG,aR,aJ,qp,rG (m:=.own) (by decide) (show eF jW "steps"=none by decide),fzL,fz]
  refine Wp.mono (QV h F hx hy) ?_;rintro _ ⟨lk,rfl⟩;have:aD (rO (stp s.t R O x y))=true/\aC (rO (stp s.t R O x y))=true:=by cases stp s.t R O x y<;>exact⟨rfl,rfl⟩
  simp_arith[sEx,aG,aR,aJ,this];exact hQ _ ⟨lk,rfl⟩
 rintro _ ⟨lk,rfl⟩;have h':Ok ns {s with lk:=lk}:=⟨h.b,h.t,h.l,h.m⟩;have a0:=Mw (v:=st) h.t;have hR:stp s.t R O x y=none->R x≠R y:=λe z=>by simp[stp,z]at e
 have a9:∀v,stp s.t R O x y=some v->R x=R y:=λv e=>by
  unfold stp at e;split at e
  .assumption
  .cases e
 have a2:∀v lk:Int,Jn ns t s x y st (.tup [.str "clash",.int v],[skD .own ns {s with lk:=lk},.str x,.str y,.int st]):=λv lk=>.inl ⟨v,lk,rfl⟩;have a3:∀(w:Str)(k:Int)(h:Option Str)(s':Sk)(R':Str->Str)(I:Str->Int),w≠"clash"->s'.dn=s.dn++[.join x y st h]->Gd ns t s' R' I->Jn ns t s x y st (.tup [.str w,.int k],[skD .own ns s',.str x,.str y,.int st]):=λw k h s' R' I a b c=>.inr ⟨w,k,h,s',R',I,rfl,a,b,c⟩;have a8:∀lk,stp s.t R O x y=some (cnt s.t st)->Gd ns t ⟨s.t,s.ws,s.bs,s.zs,s.dn++[.join x y st none],lk⟩ R O:=λlk e=>by rw[a5]at e;exact .known (x,y,st) lk hG hx hy e
 generalize Jn ns t s x y st=J at *
 generalize stp s.t R O x y=r at *
 generalize cnt s.t st=cn at *
 have b0:aD (rO r)=true/\aC (rO r)=true/\(∀b,view b (rO r)=rO r):=by cases r<;>exact⟨rfl,rfl,λ_=>rfl⟩
 by_cases N:∃v,r=some v/\v≠cn
 .obtain⟨v,rfl,hv⟩:=N
  rw[lX];have ni:gNe (.int v) (.int cn)=some (.bl (!decide (v=cn))):=by
   unfold gNe;rw[Zd ⟨rfl,rfl,.sc (.int v cn)⟩];simp![dt,eqD,abm,D.bl.injEq];rw[ab6];simp
  simp_arith[sEx,aG,aR,aJ,rO,m9,jf,m5,gf0,a0,bj,ni,hv,bL];exact a2 v lk
 have N:r=none∨r=some cn:=by
  cases r with
  |none=>exact .inl rfl
  |some v=>exact .inr (by by_cases hv:v=cn;rw[hv];exact absurd ⟨v,rfl,hv⟩ N)
 refine aX (λρ=>ρ=[some (skD .own ns {s with lk:=lk}),some (.str x),some (.str y),some (.int st),some (rO r),none,none]) (λQ hQ=>?_) ?_
 .rcases N with rfl|rfl
  .simp_arith[sEx,aG,aR,aJ,rO,m9,jf]
   exact hQ _ rfl
  .have ni:gNe (.int cn) (.int cn)=some (.bl false):=by
    unfold gNe;rw[Zd ⟨rfl,rfl,.sc (.int cn cn)⟩];simp[dt,eqD]
   simp_arith[sEx,aG,aR,aJ,rO,m9,jf,m5,gf0,a0,bj,ni];exact hQ _ rfl
 rintro _ rfl;refine aX (λρ=>ρ=[some (skD .own ns {s with lk:=lk}),some (.str x),some (.str y),some (.int st),some (rO r),some (.int (s.dn.filterMap jtO).length),none]) (λQ hQ=>?_) ?_
 .simp_arith[sEx,aG,aR,aJ,m5,D_ h'.m,fQ]
  exact hQ _ rfl
 rintro _ rfl;generalize (s.dn.filterMap jtO).length=k at *
 refine aX (λρ=>∃(B:Option Str)(s':Sk),ρ=[some (skD .own ns s'),some (.str x),some (.str y),some (.int st),some (rO r),some (.int k),some (ktD (.join x y st B))]/\s'.dn=s.dn/\∃R' I,Gd ns t {s' with dn:=s'.dn++[.join x y st B]} R' I) (λQ hQ=>?_) ?_
 .cases r with
  |none=>
   simp_arith[sEx,aG,aR,aJ,rO,gIs,jf,qp,rG (m:=.own) (by decide) (show eF jW "hang"=none by decide)];refine Wp.mono (VN (s:={s with lk:=lk}) nd h' F hx hy (hR rfl)) ?_;rintro _ ⟨b,rfl,U,_,_,a6⟩;simp_arith[sEx,aG,aR,aJ];exact hQ _ ⟨some b.1,_,rfl,rfl,_,_,.hang (x,y,st) b lk hG hx hy (hR rfl) a6 U⟩
  |some v=>
   simp_arith[sEx,aG,aR,aJ,rO,gIs,jf];have hv:some v=some cn:=N.resolve_left (by simp);exact hQ _ ⟨none,{s with lk:=lk},rfl,rfl,R,O,a8 lk hv⟩
 rintro _ ⟨B,s',rfl,a1,R',I,a4⟩;refine aX (λρ=>ρ=[some (skD .own ns {s' with dn:=s'.dn++[.join x y st B]}),some (.str x),some (.str y),some (.int st),some (rO r),some (.int k),some (ktD (.join x y st B))]) (λQ hQ=>?_) ?_
 .have hkt:=DQ (.join x y st B)
  have a7:aV (nD .own s'.dn) [dnD (.join x y st B)]=some (nD .own (s'.dn++[.join x y st B]),.non):=by
   simp![nD,aV,Ze];rw[Zd (by rw[a1];omega),Zr];rfl
  simp[aN,iU,aZ,fB,w_ite,lX,cN,b7,gk,sIf,mV,fP,iJ,fH,dO,jg,n_,sFz,jU,i_,jE,tgN,tgT,aQ,cC,gw,tpN,tpT,cz,mW,ao,eC,aK,ak,eAp,eUp,kO,dM,ee2,fO,mO,e2,e1,eB,eeB,jK,qw,eOr,lZ,nT,pF,eTT,isB,mR,itS,itE,n6,cL,fV,iI,eSl,uW,oZ,mF,gB,gq,eMt,uO,eIo,objs,iH,bI,clean,aD,aC,az,aB,b8,bY,view,cU,mkV,mkF,fz,fzL,fzo,g_,mkO,fnP,fnI,en0,outs,gF,e_,obC,truth,sEx,aG,aR,aJ,bL,pf4,hkt];rw[show D.tup [.tup [.str "join",.str x,.str y,.int st],ktD (.join x y st B)]=dnD (.join x y st B)from rfl,us4 ⟨by simp[az,(qR _).1],by simp[aB,(qR _).2.1]⟩ a7,aN];exact hQ _ rfl
 rintro _ rfl;have V:∀w:Str,w≠"clash"->J (.tup [.str w,.int k],[skD .own ns {s' with dn:=s'.dn++[.join x y st B]},.str x,.str y,.int st]):=λw hw=>a3 w k B _ R' I hw (by rw[←a1]) a4;cases r with
 |none=>simp_arith[sEx,aG,aR,aJ,rO,gIs,jf,bL];exact V _ (by decide)
 |some v=>simp_arith[sEx,aG,aR,aJ,rO,gIs,jf,bL];exact V _ (by decide)
def PvD(ns:List Str)(s F:Sk):gU->Prop
 |.weigh a n o=>a∈ns/\s.ws=upv F.ws a n/\o=F.ws a/\s.bs=F.bs/\s.zs=F.zs
 |.join _ _ _ none=>s.ws=F.ws/\s.bs=F.bs/\s.zs=F.zs
 |.join _ _ _ (some h)=>∃b:Bh,b.1=h/\b.1≠b.2.1/\b.1∈ns/\b.2.1∈ns/\s.ws=F.ws/\s.bs=F.bs++[b]/\s.zs=upv F.zs b.2.1 (F.zs b.2.1+F.zs b.1)
theorem Gd.prev(h:Gd ns t s R O)(hd:s.dn=dn++[d]):∃F z q,Gd ns t F z q/\F.dn=dn/\F.t=s.t/\PvD ns s F d:=by
 cases h with
 |nil l=>simp at hd
 |@weigh F _ _ a n l h h1=>
  obtain⟨e,f⟩:=aeg hd rfl;obtain rfl:gU.weigh a n (F.ws a)=d:=by simpa using f
  exact⟨F,_,_,h,e,rfl,h1,rfl,rfl,rfl,rfl⟩
 |@known F _ _ j l h h1 h2 B=>
  obtain⟨e,f⟩:=aeg hd rfl;obtain rfl:gU.join j.1 j.2.1 j.2.2 none=d:=by simpa using f
  exact⟨F,_,_,h,e,rfl,rfl,rfl,rfl⟩
 |@hang F _ _ j b l h h1 h2 B U J=>
  obtain⟨e,f⟩:=aeg hd rfl;obtain rfl:gU.join j.1 j.2.1 j.2.2 (some b.1)=d:=by simpa using f
  exact⟨F,_,_,h,e,rfl,b,rfl,J.2.2.2.2,J.1,J.2.1,rfl,rfl,rfl⟩
variable{n:Int}
theorem Jz:upv (upv f a n) a (f a)=f:=by
 funext y;unfold upv;split
 .rename_i e;rw[e]
 .rfl
theorem Yh(nd:((bs++[b]).map (·.1)).Nodup):xR (bD .own (bs++[b])) [.str b.1]=some (bD .own bs,.non):=by
 have hi:(bs++[b])[bs.length]? =some b:=by simp
 have I:=Kw nd (i:=bs.length) (x:=b.1) (by rw[List.getElem?_map,hi];rfl);simp![bD,xR,dh,YK,I];rw[Zd (by simp)];have e1:(((bs++[b]).map (·.1)).map (Zx:Str->Key)).eraseIdx bs.length=(bs.map (·.1)).map Zx:=by
  rw[Zr,Zr,aa6 (by simp)];simp
 have e2:((bs++[b]).map bvD).eraseIdx bs.length=bs.map bvD:=by
  rw[Zr,aa6 (by simp)];simp
 rw[e1,e2]
theorem JC(nd:ns.Nodup)(U:Bk ns (bs++[b]))(B:s.bs=bs++[b])(Y:ns.length<=20):cP [skD .own ns s,.str b.1]=some (.non,[skD .own ns {s with bs:=bs,zs:=upv s.zs b.2.1 (s.zs b.2.1-s.zs b.1)},.str b.1]):=by
 have hi:(bs++[b])[bs.length]? =some b:=by simp
 obtain⟨Z,D,_⟩:=U.ok _ _ hi;have I:=Hu (m:=.bro) U.nd hi;have z:=Cg (m:=.bro) (vs:=s.zs) Z;have q2:=WN (g:=λi j=>i-j) (vs:=s.zs) (v:=s.zs b.1) nd D Y;apply Wp.eq;simp_arith![cP,fnI];refine aX (λρ=>ρ=[some (skD .own ns s),some (.str b.1),some (.str b.2.1),some (.int b.2.2)]) 1.25 ?_
 .simp_arith[sEx,aG,aR,aJ,m5,gf2,B,I,bvD]
  exact q _ rfl
 rintro _ rfl;refine aX (λρ=>ρ=[some (skD .own ns {s with zs:=upv s.zs b.2.1 (s.zs b.2.1-s.zs b.1)}),some (.str b.1),some (.str b.2.1),some (.int b.2.2)]) 1.25 ?_
 .simp[aN,iU,aZ,fB,w_ite,lX,cN,b7,gk,sIf,mV,fP,iJ,fH,dO,jg,n_,sFz,jU,i_,jE,tgN,tgT,aQ,cC,gw,tpN,tpT,cz,mW,ao,eC,aK,ak,eAp,eUp,kO,dM,ee2,fO,mO,e2,e1,eB,eeB,jK,qw,eOr,lZ,nT,pF,eTT,isB,mR,itS,itE,n6,cL,fV,iI,eSl,uW,oZ,mF,gB,gq,eMt,uO,eIo,objs,iH,bI,clean,aD,aC,az,aB,b8,bY,view,cU,mkV,mkF,fz,fzL,fzo,g_,mkO,fnP,fnI,en0,outs,gF,e_,obC,truth,sEx,aG,aR,aJ,vQ,pf3,m5,gf3,z]
  rw[us3 ⟨rfl,rfl⟩ q2,aN];exact q _ rfl
 rintro _ rfl;have hd:=Yh U.nd;rw[←B]at hd;simp[aN,iU,aZ,fB,w_ite,lX,cN,b7,gk,sIf,mV,fP,iJ,fH,dO,jg,n_,sFz,jU,i_,jE,tgN,tgT,aQ,cC,gw,tpN,tpT,cz,mW,ao,eC,aK,ak,eAp,eUp,kO,dM,ee2,fO,mO,e2,e1,eB,eeB,jK,qw,eOr,lZ,nT,pF,eTT,isB,mR,itS,itE,n6,cL,fV,iI,eSl,uW,oZ,mF,gB,gq,eMt,uO,eIo,objs,iH,bI,clean,aD,aC,az,aB,b8,bY,view,cU,mkV,mkF,fz,fzL,fzo,g_,mkO,fnP,fnI,en0,outs,gF,e_,obC,truth,sEx,aG,aR,aJ,Oi,pf2];rw[us2 (s:={s with zs:=upv s.zs b.2.1 (s.zs b.2.1-s.zs b.1)}) ⟨rfl,rfl⟩ hd,aN];simp_arith[sEx,aG,aR,aJ]
def Bc(ns:List Str)(t:Int)(s:Sk)(q:D×List D):Prop:=∃(v:D)(s':Sk)(F:Str->Str)(I:Str->Int),q=(v,[skD .own ns s'])/\s'.dn=s.dn.dropLast/\Gd ns t s' F I
theorem UJ(nd:ns.Nodup)(N:Gd ns t s R O)(hl:ns.length<=20):Wp (cM [skD .own ns s]) (Bc ns t s):=by
 have hi:=N.gi nd;rcases aeR s.dn with hn|⟨dn,d,hd⟩
 .have a0:Bc ns t s (.non,[skD .own ns s]):=⟨.non,s,R,O,rfl,by simp[hn],N⟩
  simp_arith[cM,sEx,aG,aR,aJ,m5,gf4,nD,hn,fQ,eq_int];exact a0
 .rw[aeS]at hd
  simp_arith![cM,fnI];refine aX (λρ=>ρ=[some (skD .own ns s),none,none]) 1.25 ?_
  .simp_arith[sEx,aG,aR,aJ,m5,gf4,nD,hd,fQ,eq_int]
   split
   .omega
   .exact q _ rfl
  rintro _ rfl;obtain⟨Z,V,c3,_⟩:=pH d;obtain⟨k1,D,U,_⟩:=DQ d;refine aX (λρ=>ρ=[some (skD .own ns {s with dn:=dn}),some (dcD d),some (ktD d)]) 1.25 ?_
  .have hop:vY (nD .own s.dn) []=some (nD .own dn,dnD d):=by
    simp[nD,vY,hd]
   simp[aN,iU,aZ,fB,w_ite,lX,cN,b7,gk,sIf,mV,fP,iJ,fH,dO,jg,n_,sFz,jU,i_,jE,tgN,tgT,aQ,cC,gw,tpN,tpT,cz,mW,ao,eC,aK,ak,eAp,eUp,kO,dM,ee2,fO,mO,e2,e1,eB,eeB,jK,qw,eOr,lZ,nT,pF,eTT,isB,mR,itS,itE,n6,cL,fV,iI,eSl,uW,oZ,mF,gB,gq,eMt,uO,eIo,objs,iH,bI,clean,aD,aC,az,aB,b8,bY,view,cU,mkV,mkF,fz,fzL,fzo,g_,mkO,fnP,fnI,en0,outs,gF,e_,obC,truth,sEx,aG,aR,aJ,jE,pf4];rw[us4 ⟨rfl,rfl⟩ hop,aN];simp_arith[sEx,aG,aR,aJ,dnD,Z,V,k1,D];exact q _ rfl
  rintro _ rfl;obtain⟨F,R0,O0,a1,I,g2,z⟩:=N.prev hd;have a0:Bc ns t s (dcD d,[skD .own ns {F with lk:=s.lk}]):=⟨_,_,R0,O0,rfl,by rw[hd];simpa using I,a1.lk s.lk⟩;cases d with
  |weigh a n o=>
   obtain⟨Y,p1,p2,p3,p4⟩:=z;have q2:=Vd (vs:=s.ws) (v:=o) nd Y hl;have es:{s with dn:=dn,ws:=upv s.ws a o}={F with lk:=s.lk}:=by
    rw[p1,p2,Jz,p3,p4,←I,←g2]
   refine aX (λρ=>ρ=[some (skD .own ns {s with dn:=dn,ws:=upv s.ws a o}),some (dcD (.weigh a n o)),some (ktD (.weigh a n o))]) 1.25 ?_
   .simp[aN,iU,aZ,fB,w_ite,lX,cN,b7,gk,sIf,mV,fP,iJ,fH,dO,jg,n_,sFz,jU,i_,jE,tgN,tgT,aQ,cC,gw,tpN,tpT,cz,mW,ao,eC,aK,ak,eAp,eUp,kO,dM,ee2,fO,mO,e2,e1,eB,eeB,jK,qw,eOr,lZ,nT,pF,eTT,isB,mR,itS,itE,n6,cL,fV,iI,eSl,uW,oZ,mF,gB,gq,eMt,uO,eIo,objs,iH,bI,clean,aD,aC,az,aB,b8,bY,view,cU,mkV,mkF,fz,fzL,fzo,g_,mkO,fnP,fnI,en0,outs,gF,e_,obC,truth,sEx,aG,aR,aJ,dcD,ktD,gIx,atI,ixN,eq_str,pf1]
    rw[us1 (s:={s with dn:=dn}) ⟨rfl,rfl⟩ q2,aN];exact q _ rfl
   rintro _ rfl;rw[es];simp_arith[sEx,aG,aR,aJ,dcD];exact a0
  |join a b st B=>
   cases B with
   |none=>
    obtain⟨p1,p2,p3⟩:=z;have es:{s with dn:=dn}={F with lk:=s.lk}:=by rw[p1,p2,p3,←I,←g2]
    refine aX (λρ=>ρ=[some (skD .own ns {s with dn:=dn}),some (dcD (.join a b st none)),some (ktD (.join a b st none))]) 1.25 ?_
    .simp[aN,iU,aZ,fB,w_ite,lX,cN,b7,gk,sIf,mV,fP,iJ,fH,dO,jg,n_,sFz,jU,i_,jE,tgN,tgT,aQ,cC,gw,tpN,tpT,cz,mW,ao,eC,aK,ak,eAp,eUp,kO,dM,ee2,fO,mO,e2,e1,eB,eeB,jK,qw,eOr,lZ,nT,pF,eTT,isB,mR,itS,itE,n6,cL,fV,iI,eSl,uW,oZ,mF,gB,gq,eMt,uO,eIo,objs,iH,bI,clean,aD,aC,az,aB,b8,bY,view,cU,mkV,mkF,fz,fzL,fzo,g_,mkO,fnP,fnI,en0,outs,gF,e_,obC,truth,sEx,aG,aR,aJ,dcD,ktD,gIx,atI,ixN,eq_str,m9,jf]
     rw[Zk (by decide)];exact q _ rfl
    rintro _ rfl;rw[es];simp_arith[sEx,aG,aR,aJ,dcD];exact a0
   |some x=>
    obtain⟨bh,rfl,p0,p1,p2,p3,p4,p5⟩:=z;have J:=JC (s:={s with dn:=dn}) nd (p4▸hi.b) p4 hl;have es:{s with dn:=dn,bs:=F.bs,zs:=upv s.zs bh.2.1 (s.zs bh.2.1-s.zs bh.1)}={F with lk:=s.lk}:=by
     have:upv s.zs bh.2.1 (s.zs bh.2.1-s.zs bh.1)=F.zs:=by
      rw[p5];funext y;simp![upv,Zz,Zk p0];split
      .rename_i e;rw[e];omega
      .rfl
     rw[this,p3,←I,←g2]
    refine aX (λρ=>ρ=[some (skD .own ns {s with dn:=dn,bs:=F.bs,zs:=upv s.zs bh.2.1 (s.zs bh.2.1-s.zs bh.1)}),some (dcD (.join a b st (some bh.1))),some (ktD (.join a b st (some bh.1)))]) 1.25 ?_
    .simp[aN,iU,aZ,fB,w_ite,lX,cN,b7,gk,sIf,mV,fP,iJ,fH,dO,jg,n_,sFz,jU,i_,jE,tgN,tgT,aQ,cC,gw,tpN,tpT,cz,mW,ao,eC,aK,ak,eAp,eUp,kO,dM,ee2,fO,mO,e2,e1,eB,eeB,jK,qw,eOr,lZ,nT,pF,eTT,isB,mR,itS,itE,n6,cL,fV,iI,eSl,uW,oZ,mF,gB,gq,eMt,uO,eIo,objs,iH,bI,clean,aD,aC,az,aB,b8,bY,view,cU,mkV,mkF,fz,fzL,fzo,g_,mkO,fnP,fnI,en0,outs,gF,e_,obC,truth,sEx,aG,aR,aJ,dcD,ktD,gIx,atI,ixN,eq_str,m9,jf,qp,rG (m:=.own) (by decide) (show eF jW "unhang"=none by decide)]
     rw[Zk (by decide),J];simp_arith[sEx,aG,aR,aJ];exact q _ rfl
    rintro _ rfl;rw[es];simp_arith[sEx,aG,aR,aJ,dcD];exact a0
def Wg(ns:List Str)(t:Int)(s:Sk)(R:Str->Str)(O:Str->Int)(a:Str)(n:Int)(q:D×List D):Prop:=∃s':Sk,q=(.non,[skD .own ns s',.str a,.int n])/\s'.dn=s.dn++[.weigh a n (s.ws a)]/\Gd ns t s' R O
theorem RP(nd:ns.Nodup)(N:Gd ns t s R O)(F:ns.length<=20)(Y:a∈ns)(Z:s.dn.length<1000):Wp (dm [skD .own ns s,.str a,.int n]) (Wg ns t s R O a n):=by
 have B:Wg ns t s R O a n (.non,[skD .own ns ⟨s.t,upv s.ws a n,s.bs,s.zs,s.dn++[.weigh a n (s.ws a)],s.lk⟩,.str a,.int n]):=⟨_,rfl,rfl,.weigh a n s.lk N Y⟩;simp_arith![dm,fnI];refine aX (λρ=>ρ=[some (skD .own ns s),some (.str a),some (.int n)]) 1.25 ?_
 .simp_arith[sEx,aG,aR,aJ,m5,gf1,HR,MK Y,bj]
  exact q _ rfl
 rintro _ rfl;have z:=Cg (m:=.bro) (vs:=s.ws) Y;refine aX (λρ=>ρ=[some (skD .own ns {s with dn:=s.dn++[.weigh a n (s.ws a)]}),some (.str a),some (.int n)]) 1.25 ?_
 .have hop:aV (nD .own s.dn) [dnD (.weigh a n (s.ws a))]=some (nD .own (s.dn++[.weigh a n (s.ws a)]),.non):=by
   simp![nD,aV,Ze];rw[Zd 1.11,Zr];rfl
  simp[aN,iU,aZ,fB,w_ite,lX,cN,b7,gk,sIf,mV,fP,iJ,fH,dO,jg,n_,sFz,jU,i_,jE,tgN,tgT,aQ,cC,gw,tpN,tpT,cz,mW,ao,eC,aK,ak,eAp,eUp,kO,dM,ee2,fO,mO,e2,e1,eB,eeB,jK,qw,eOr,lZ,nT,pF,eTT,isB,mR,itS,itE,n6,cL,fV,iI,eSl,uW,oZ,mF,gB,gq,eMt,uO,eIo,objs,iH,bI,clean,aD,aC,az,aB,b8,bY,view,cU,mkV,mkF,fz,fzL,fzo,g_,mkO,fnP,fnI,en0,outs,gF,e_,obC,truth,sEx,aG,aR,aJ,bL,pf4,m5,gf1,z];rw[show D.tup [.tup [.str "weigh",.str a,.int n],.int (s.ws a)]=dnD (.weigh a n (s.ws a))from rfl,us4 ⟨rfl,rfl⟩ hop,aN];exact q _ rfl
 rintro _ rfl;have q2:=Vd (vs:=s.ws) (v:=n) nd Y F;simp[aN,iU,aZ,fB,w_ite,lX,cN,b7,gk,sIf,mV,fP,iJ,fH,dO,jg,n_,sFz,jU,i_,jE,tgN,tgT,aQ,cC,gw,tpN,tpT,cz,mW,ao,eC,aK,ak,eAp,eUp,kO,dM,ee2,fO,mO,e2,e1,eB,eeB,jK,qw,eOr,lZ,nT,pF,eTT,isB,mR,itS,itE,n6,cL,fV,iI,eSl,uW,oZ,mF,gB,gq,eMt,uO,eIo,objs,iH,bI,clean,aD,aC,az,aB,b8,bY,view,cU,mkV,mkF,fz,fzL,fzo,g_,mkO,fnP,fnI,en0,outs,gF,e_,obC,truth,sEx,aG,aR,aJ,pf1];rw[us1 (s:={s with dn:=s.dn++[.weigh a n (s.ws a)]}) ⟨rfl,rfl⟩ q2,aN];simp_arith[sEx,aG,aR,aJ];exact B
def yP(y:Str)(j:Jt):List (Str×Int):=(if j.1=y then[(j.2.1,j.2.2)]else[])++(if j.2.1=y then[(j.1,0-j.2.2)]else[])
def bes(y:Str)(js:List Jt):List (Str×Int):=js.flatMap (yP y)
def obD(p:Str×Int):D:=.tup [.str p.1,.int p.2]
theorem X4(l:List (Str×Int)):az (l.map obD)=true:=bV λd hd=>by obtain⟨x,_,rfl⟩:=Zf.mp hd;rfl
theorem X5(l:List (Str×Int)):aB (l.map obD)=true:=bQ λd hd=>by obtain⟨x,_,rfl⟩:=Zf.mp hd;rfl
theorem Xc(l:List (Str×Int)):g_ (l.map obD)=l.map obD:=by rw[jV,Zj];rfl
theorem R8:∀l:List (Str×Int),bB (l.map obD)=true
 |[]=>rfl
 |x::r=>by rw[YT,bB,R8 r];rfl
theorem Ey(y:Str):∀js:List Jt,(bes y js).length<=2*js.length
 |[]=>by simp[bes]
 |j::r=>by
  have:=Ey y r;have h1:(yP y j).length<=2:=by unfold yP;split<;>split<;>simp
  simp![bes,List.flatMap_cons,aay,Zq]at this⊢;omega
def bsL(y:Str)(js:List Jt):D:=.lst .own ((bes y js).map obD)
def BeI(J:D)(y:Str)(js:List Jt)(k:Nat)(ρ:En):Prop:=∃O V Z:Option D,ρ=[some (.str y),some J,some (bsL y (js.take k)),O,V,Z]
theorem Kz(Y:js.length<=1000):dH [.str y,.lst .frz (js.map jD)]=some (bsL y js):=by
 apply Wp.eq;simp_arith![dH,fnP];refine aX (BeI 1.23 y js 0) 1.25 ?_
 .simp_arith[sEx,aG,aR,aJ,dN]
  exact q _ ⟨none,none,none,rfl⟩
 rintro _ ⟨O,V,Z,rfl⟩;refine aX (BeI 1.23 y js js.length) 1.25 ?_
 .simp[jg,itS,ao,view,uz,mkV,cL,clean,aD,aC,nO,nW,wQ,aZ,aN]
  refine oN (BeI 1.23 y js) ⟨_,_,_,rfl⟩ ?_ (λρ h=>q _ (by rw[Ze]at h;exact h));rintro k d ρ I ⟨O,V,Z,rfl⟩;rw[List.getElem?_map]at I;cases F:js[k]? with
  |none=>simp[F]at I
  |some j=>
   obtain rfl:jD j=d:=by simpa[F]using I
   have z:=(List.getElem?_eq_some_iff.mp F).1;have U:bes y (js.take (k+1))=bes y (js.take k)++yP y j:=by
    rw[List.take_succ,F,bes,List.flatMap_append];simp[bes]
   have h2:=Ey y (js.take k);have B:(js.take k).length=k:=by rw[abu];omega
   have a0:∀(l:List (Str×Int))(p:Str×Int),l.length<1000000->aV (.lst .own (l.map obD)) [obD p]=some (.lst .own ((l++[p]).map obD),.non):=λl p h=>by
    simp![aV,Ze];rw[Zd h,Zr];rfl
   simp[jD,tgT,aQ,cC,tgN,az,aB,clean,aD,aC,aN];have N:∀l,bes y (js.take (k+1))=l->BeI 1.23 y js (k+1) [some (.str y),some 1.23,some (.lst .own (l.map obD)),some (.str j.1),some (.str j.2.1),some (.int j.2.2)]:=λl e=>⟨_,_,_,by rw[bsL,e]⟩;rw[U]at N;generalize BeI 1.23 y js (k+1)=J at N⊢;refine aX (λρ=>ρ=[some (.str y),some 1.23,some (.lst .own ((bes y (js.take k)++if j.1=y then[(j.2.1,j.2.2)]else[]).map obD)),some (.str j.1),some (.str j.2.1),some (.int j.2.2)]) 1.25 ?_
   .by_cases h1:j.1=y
    .have ha:=a0 (bes y (js.take k)) (j.2.1,j.2.2) 1.11
     simp![obD]at ha;simp_arith[sEx,aG,aR,aJ,eq_str,h1,bL,bsL,ha,-List.map_append];exact q _ (by simp[h1,obD])
    .simp_arith[sEx,aG,aR,aJ,eq_str,h1,bsL]
     exact q _ (by simp[h1])
   rintro _ rfl;by_cases h1:j.2.1=y
   .have ha:=a0 (bes y (js.take k)++if j.1=y then[(j.2.1,j.2.2)]else[]) (j.1,0-j.2.2) (by simp;split<;>simp<;>omega)
    simp![obD]at ha;simp![sIf,eB,e2,ao,view,eq_str,isB,aZ,aN,w_ite,aar,aaO,YK,aap h1,Zz];simp[i_,jE,cz,ak,aK,ao,eAp,e2,eC,view,bL,jq,upS,fu,fY,az,aB,aD,aC,aZ,fB,aN,-List.map_append];rw[show(D.int (-j.2.2))=D.int (0-j.2.2)by simp,ha,aN];exact N _ (by simp[yP,h1])
   .simp![sIf,eB,e2,ao,view,eq_str,isB,aZ,aN,w_ite,aar,aaO,YK,Zy h1,ZG,aao,dO]
    exact N _ (by simp[yP,h1])
 rintro _ ⟨O,V,Z,rfl⟩;simp[fH,aN,ac3]
theorem Yl(es:List Bh):aD (bD .own es)=true/\aC (bD .own es)=true:=by simp[bD,aD,aC,JK,M6]
theorem Nu(es:List Bh):view false (bD .own es)=bD .brw es:=by simp![bD,view,Ka];rfl
theorem SQ:ji (.str x) (bD m bs)=some (.bl (!kyB bs x)):=by simp![kyB,ji,bD,tY,dh,aaJ,kI]
theorem Yt{g:List Str}(h:g.length<64):nF [.lst m (g.map D.str)]=some (.lst .own ((nQ g).map D.str)):=L_ (m:=m) h
def So(t:Int)(R:Str->Str)(O:Str->Int)(e:Bh):Prop:=R e.2.1=R e.1/\t ∣ e.2.2-(O e.1-O e.2.1)
structure Sd(ns:List Str)(t:Int)(R:Str->Str)(O:Str->Int)(es:List Bh):Prop where
 nd:(es.map (·.1)).Nodup
 i:∀e∈es,e.1∈ns
 s:∀e∈es,So t R O e
def Cl(js:List Jt)(es:List Bh):Prop:=∀j∈js,∀e∈es,(e.1=j.1->∃c,(j.2.1,e.2.1,c)∈es)/\(e.1=j.2.1->∃c,(j.1,e.2.1,c)∈es)
variable{q:Str×Int}
theorem Qm(h:q∈bes y js):∃j∈js,(j.1=y/\q=(j.2.1,j.2.2))∨(j.2.1=y/\q=(j.1,0-j.2.2)):=by
 obtain⟨j,F,h⟩:=aeh.mp h;refine⟨j,F,?_⟩;unfold yP at h;rcases YL.mp h with h|h
 .split at h
  .rename_i e;exact .inl ⟨e,ZJ.mp h⟩
  .cases h
 .split at h
  .rename_i e;exact .inr ⟨e,ZJ.mp h⟩
  .cases h
theorem Sq(h:j∈js):(j.2.1,j.2.2)∈bes j.1 js/\(j.1,0-j.2.2)∈bes j.2.1 js:=
 ⟨aeh.mpr ⟨j,h,by simp[yP]⟩,aeh.mpr ⟨j,h,by simp[yP]⟩⟩
variable{es:List Bh}
theorem Sd.len(h:Sd ns t R O es):es.length<=ns.length:=by
 have:=yM h.nd (λx J=>by obtain⟨e,V,rfl⟩:=Zf.mp J;exact h.i e V:∀x∈es.map (·.1),x∈ns);simpa using this
variable{e:Bh}
theorem Sd.add(h:Sd ns t R O es)(h1:e.1∉es.map (·.1))(h2:e.1∈ns)(B:So t R O e):Sd ns t R O (es++[e])where
 nd:=by
  rw[Zr];exact Zi.mpr ⟨h.nd,by simp,λy U z q=>by
   obtain rfl:z=e.1:=by simpa using q
   exact λe=>h1 (e▸U)⟩
 i:=λc Z=>(YL.mp Z).elim (h.i c) λz=>by rw[ZJ.mp z];exact h2
 s:=λc Z=>(YL.mp Z).elim (h.s c) λz=>by rw[ZJ.mp z];exact B
theorem Pa(z:HJ ns js t R O)(h:So t R O e)(D:q∈bes e.1 js):q.1∈ns/\So t R O (q.1,e.2.1,e.2.2+q.2):=by
 obtain⟨j,F,h1|h1⟩:=Qm D
 .obtain⟨e1',rfl⟩:=h1
  obtain⟨a,b,c,d⟩:=z j F;refine⟨b,?_,?_⟩
  .rw[h.1,←e1',c]
  .have:=Int.dvd_sub h.2 d
   rw[e1']at this;rw[show e.2.2+j.2.2-(O j.2.1-O e.2.1)=e.2.2-(O e.1-O e.2.1)-(O j.2.1-O e.1-j.2.2)by omega];exact this
 .obtain⟨e1',rfl⟩:=h1
  obtain⟨a,b,c,d⟩:=z j F;refine⟨a,?_,?_⟩
  .rw[h.1,←e1',c]
  .have:=Int.dvd_add h.2 d
   rw[e1']at this;rw[show e.2.2+(0-j.2.2)-(O j.1-O e.2.1)=e.2.2-(O e.1-O e.2.1)+(O e.1-O j.1-j.2.2)by omega];exact this
variable{new:List Bh}
theorem Ox{I:List Bh}(Z:Cl js I)(B:Sd ns t R O (I++new))(J:∀e∈new,e.2.1=x)(F:∀e∈new,∀q∈bes e.1 js,q.1∈(I++new).map (·.1)):Cl js (I++new):=by
 have D:∀e∈new,e.1∉I.map (·.1):=λe V z=>by
  have:=B.nd;rw[Zr]at this;exact(Zi.mp this).2.2 _ z _ (Zf.mpr ⟨e,V,rfl⟩) rfl
 intro j U e V;rcases YL.mp V with z|z
 .obtain⟨a,b⟩:=Z j U e z
  exact⟨λh=>(a h).imp λc Z=>YW _ Z,λh=>(b h).imp λc Z=>YW _ Z⟩
 .refine⟨λh=>?_,λh=>?_⟩
  .have hq:=F e z (j.2.1,j.2.2) (h▸(Sq U).1)
   obtain⟨c,N,Y⟩:=Zf.mp hq;rcases YL.mp N with y|y
   .obtain⟨w,hw⟩:=(Z j U c y).2 Y
    exact absurd (Zf.mpr ⟨_,hw,h.symm⟩) (D e z)
   .exact⟨c.2.2,by rw[J e z,←J c y,←Y];exact YJ _ y⟩
  .have hq:=F e z (j.1,0-j.2.2) (h▸(Sq U).2)
   obtain⟨c,N,Y⟩:=Zf.mp hq;rcases YL.mp N with y|y
   .obtain⟨w,hw⟩:=(Z j U c y).1 Y
    exact absurd (Zf.mpr ⟨_,hw,h.symm⟩) (D e z)
   .exact⟨c.2.2,by rw[J e z,←J c y,←Y];exact YJ _ y⟩
def tdL(m:Mk)(new:List Bh):D:=.lst m ((new.map (·.1)).map D.str)
structure Wn1(ns:List Str)(js:List Jt)(t:Int)(R:Str->Str)(O:Str->Int)(old new:List Bh)(x:Str)(p:Nat):Prop where
 s:Sd ns t R O (old++new)
 x:∀e∈new,e.2.1=x
 p:∀(i:Nat)(e:Bh),i<p->new[i]? =some e->∀q∈bes e.1 js,q.1∈(old++new).map (·.1)
def WhI(N J:D)(ns:List Str)(js:List Jt)(t:Int)(R:Str->Str)(O:Str->Int)(I:List Bh)(x:Str)(p:Nat)(ρ:En):Prop:=∃(new:List Bh)(U B:Option D),ρ=[some N,some J,some (bD .own (I++new)),some (.str x),some (tdL .own new),some (.int p),U,B]/\Wn1 ns js t R O I new x p/\p<=new.length/\x∈new.map (·.1)
def FoI(N J:D)(ns:List Str)(js:List Jt)(t:Int)(R:Str->Str)(O:Str->Int)(I:List Bh)(x:Str)(p:Nat)(Y:Bh)(k:Nat)(ρ:En):Prop:=∃(new:List Bh)(U B:Option D),ρ=[some N,some J,some (bD .own (I++new)),some (.str x),some (tdL .own new),some (.int p),U,B]/\Wn1 ns js t R O I new x p/\new[p]? =some Y/\x∈new.map (·.1)/\∀(i:Nat)(q:Str×Int),i<k->(bes Y.1 js)[i]? =some q->q.1∈(I++new).map (·.1)
def OuI(N J:D)(ns:List Str)(js:List Jt)(t:Int)(R:Str->Str)(O:Str->Int)(k:Nat)(ρ:En):Prop:=∃(es:List Bh)(q V Z U B:Option D),ρ=[some N,some J,some (bD .own es),q,V,Z,U,B]/\Sd ns t R O es/\Cl js es/\∀(i:Nat)(z:Str),i<k->(nQ ns)[i]? =some z->z∈es.map (·.1)
def WkD(ns:List Str)(js:List Jt)(t:Int)(R:Str->Str)(O:Str->Int)(d:D):Prop:=∃es,d=bD .own es/\Sd ns t R O es/\Cl js es/\∀x∈ns,x∈es.map (·.1)
variable{p:Nat}
theorem Ss(h:new[p]? =some e):gIx (tdL m new) (.int p)=some (.str e.1):=by
 have Y:=(List.getElem?_eq_some_iff.mp h).1;simp[tdL,gIx,atI,ixN];rw[Zd 1.11,YK];simp[h]
theorem Vi(new:List Bh):view false (tdL .own new)=tdL .brw new:=by simp![tdL,view,bH];rfl
theorem Es(h:kyB es x=false):x∉es.map (·.1):=by simpa only[kyB,decide_eq_false_iff_not]using h
theorem S7(h:kyB es x=true):x∈es.map (·.1):=by simpa only[kyB,aa1]using h
theorem Wd{N J:D}(q:b.1∉es.map (·.1))(Y:es.length<=1000):upS fU 2 [] [.str b.1,bvD b] (some N::some J::some (bD .own es)::r)=some (.non,some N::some J::some (bD .own (es++[b]))::r):=by
 have:=WX q Y;simp![upS,fu,aar,aaO,YK,this,fY,abb,acG];rfl
theorem T5{I:List Bh}(h:Wn1 ns js t R O I new x p)(F:p<new.length)(h1:e.1∉(I++new).map (·.1))(h2:e.1∈ns)(B:So t R O e)(U:e.2.1=x):Wn1 ns js t R O I (new++[e]) x p where
 s:=by rw[←aaT];exact h.s.add h1 h2 B
 x:=λc Z=>(YL.mp Z).elim (h.x c) λz=>by rw[ZJ.mp z];exact U
 p:=λi c hi Z q D=>by
  rw[ZC 1.11]at Z;rw[←aaT,Zr];exact YW _ (h.p i c hi Z q D)
theorem Ut(hJ:HJ ns js t R O)(Y:ns.length<=20)(d0:js.length<=1000):Wp (eX [.lst .frz (ns.map D.str),.lst .frz (js.map jD)]) (WkD ns js t R O):=by
 simp_arith![eX,fnP];refine aX (OuI 1.15 1.23 ns js t R O 0) (λQ hQ=>?_) ?_
 .simp_arith[sEx,aG,aR,aJ,DW]
  exact hQ _ ⟨[],none,none,none,none,none,rfl,⟨by simp,by simp,by simp⟩,by simp[Cl],by simp⟩
 rintro ρ b0;refine aX (OuI 1.15 1.23 ns js t R O ns.length) (λQ hQ=>?_) ?_
 .have hsl:(nQ ns).length=ns.length:=(lA ns).length_eq
  have c3:cL (.lst .own ((nQ ns).map D.str))=some (true,(nQ ns).map D.str):=by simp[cL,clean,aD,aC,bW,bN,ir]
  have hv:view false 1.15= .lst .frz (ns.map D.str):=by simp[view,bH,mkV]
  have B:=Yt (m:=.frz) (g:=ns) 1.11;have c1:=b0;obtain⟨e3,y3,y4,y5,y6,y7,rfl,_⟩:=c1;simp[jg,itS,eAp,ak,aK,ao,hv,B,c3,aZ,aN,w_ite];refine oN (OuI 1.15 1.23 ns js t R O) b0 ?_ (λρ h=>hQ _ (by rw[Ze,hsl]at h;exact h));rintro k d ρ hk ⟨es,x3,x4,x5,x6,x7,rfl,hS,hC,hK⟩;rw[List.getElem?_map]at hk;cases a8:(nQ ns)[k]? with
  |none=>simp[a8]at hk
  |some x=>
   obtain rfl:D.str x=d:=by simpa[a8]using hk
   have d8:x∈ns:=(lA ns).mem_iff.mp (Zo a8);have e1:=hS.len;have d1:∀a0:List Bh,(∀y∈es.map (·.1),y∈a0.map (·.1))->x∈a0.map (·.1)->∀(i:Nat)(z:Str),i<k+1->(nQ ns)[i]? =some z->z∈a0.map (·.1):=λa0 h1 h2 i z hi hz=>by
    rcases ab0 i k with h|h
    .exact h1 z (hK i z h hz)
    .have:i=k:=by omega
     subst this;rw[a8]at hz;cases hz;exact h2
   have a5:∀(a0:List Bh)(x4 x5 x6 x7:Option D),Sd ns t R O a0->Cl js a0->(∀y∈es.map (·.1),y∈a0.map (·.1))->x∈a0.map (·.1)->OuI 1.15 1.23 ns js t R O (k+1) [some 1.15,some 1.23,some (bD .own a0),some (.str x),x4,x5,x6,x7]:=λa0 x4 x5 x6 x7 a b c d=>⟨a0,_,_,_,_,_,rfl,a,b,d1 a0 c d⟩;generalize OuI 1.15 1.23 ns js t R O (k+1)=I at a5⊢;simp[tgN,aD,aC,clean,aN];simp[sIf,eB,e2,ao,Nu,view,SQ,isB,aZ,aN,w_ite];cases b6:kyB es x with
   |true=>
    simp[dO,aN];exact a5 es _ _ _ _ hS hC (λ_ h=>h) (S7 b6)
   |false=>
    simp![ZG,aao];refine aX (λρ=>ρ=[some 1.15,some 1.23,some (bD .own (es++[(x,x,0)])),some (.str x),x4,x5,x6,x7]) (λQ hQ=>?_) ?_
    .have hset:=Wd (b:=(x,x,0)) (N:=.lst .frz (ns.map D.str)) (J:=.lst .frz (js.map jD)) (r:=[some (.str x),x4,x5,x6,x7]) (Es b6) 1.11
     simp![bvD]at hset;simp[cN,e2,eC,ao,view,eAp,ak,aK,bL,aZ,fB,aN,gw,cz,hset,az,aB,aD,aC,clean];exact hQ _ rfl
    rintro _ rfl;have d9:Sd ns t R O (es++[(x,x,0)]):=hS.add (Es b6) d8 ⟨rfl,by simp⟩;refine aX (λρ=>ρ=[some 1.15,some 1.23,some (bD .own (es++[(x,x,0)])),some (.str x),some (tdL .own [(x,x,0)]),x5,x6,x7]) (λQ hQ=>?_) ?_
    .simp_arith[sEx,aG,aR,aJ,dN]
     exact hQ _ rfl
    rintro _ rfl;refine aX (WhI 1.15 1.23 ns js t R O es x 0) (λQ hQ=>?_) ?_
    .simp_arith[sEx,aG,aR,aJ]
     exact hQ _ ⟨[(x,x,0)],_,_,rfl,⟨d9,by simp,by simp⟩,by simp,by simp⟩
    rintro ρ b0;refine rQ (WhI 1.15 1.23 ns js t R O es x) ns.length ?_ 1000000 0 _ b0 1.11;rintro p ρ ⟨new,x6,x7,rfl,hW,F,b8⟩;have c8:=hW.s.len;rw[aay]at c8;have c7:fQ [tdL .brw new]=some (.int new.length):=by simp[tdL,fQ]
    simp[kO,eB,e2,eAp,ak,aK,ao,Vi,view,c7,gLt,isB,aZ,fB,aN];by_cases d6:p<new.length
    .rw[Zd 1.11]
     refine⟨by omega,?_⟩;obtain⟨ey,b2⟩:∃e,new[p]? =some e:=⟨new[p],by simp[d6]⟩;have e0:=Zo b2;refine aX (FoI 1.15 1.23 ns js t R O es x p ey (bes ey.1 js).length) (λQ hQ=>?_) ?_
     .have hbw:=Kz (y:=ey.1) d0
      have b4:bI dH [.str ey.1,.lst .frz (js.map jD)]=some (bsL ey.1 js):=by
       simp![bI,fzL,fz,sI,mkF,hbw,YK,bsL,bj,R8];simp
      have c9:cL (bsL ey.1 js)=some (true,(bes ey.1 js).map obD):=by simp[bsL,cL,clean,aD,aC,X4,X5,Xc]
      simp[jg,itS,e2,eAp,ak,aK,ao,Vi,view,Ss b2,uz,mkV,b4,c9,aZ,aN];refine oN (FoI 1.15 1.23 ns js t R O es x p ey) ⟨new,_,_,rfl,hW,b2,b8,by simp⟩ ?_ (λρ h=>hQ _ (by rw[Ze]at h;exact h));rintro i d ρ hi ⟨nw,z6,z7,rfl,a2,a1,a4,b5⟩;rw[List.getElem?_map]at hi;cases hq:(bes ey.1 js)[i]? with
      |none=>simp[hq]at hi
      |some q=>
       obtain rfl:obD q=d:=by simpa[hq]using hi
       have d7:=Zo hq;have c2:=a2.s.len;rw[aay]at c2;have a6:=(List.getElem?_eq_some_iff.mp a1).1;have a3:=Zo a1;have b7:∀a9:List Bh,(∀y∈(es++nw).map (·.1),y∈(es++a9).map (·.1))->q.1∈(es++a9).map (·.1)->∀(i':Nat)(q':Str×Int),i'<i+1->(bes ey.1 js)[i']? =some q'->q'.1∈(es++a9).map (·.1):=λa9 h1 h2 i' q' b1 b3=>by
        rcases ab0 i' i with h|h
        .exact h1 _ (b5 i' q' h b3)
        .have:i'=i:=by omega
         subst this;rw[hq]at b3;cases b3;exact h2
       simp[obD,tgT,aQ,cC,tgN,az,aB,clean,aD,aC,aN];simp[sIf,eB,e2,ao,Nu,view,SQ,isB,aZ,aN,w_ite];cases a7:kyB (es++nw) q.1 with
       |true=>
        simp[dO,aN];exact⟨nw,_,_,rfl,a2,a1,a4,b7 nw (λ_ h=>h) (S7 a7)⟩
       |false=>
        simp![ZG,aao];obtain⟨j0,d3⟩:=ZS.mp (YJ es a3);have d5:=Hu (m:=.brw) a2.s.nd d3;obtain⟨d2,c5⟩:=Pa hJ (a2.s.s _ (YJ es a3)) d7;have c4:ey.2.1=x:=a2.x _ a3;rw[c4]at c5;have d4:=T5 (e:=(q.1,x,ey.2.2+q.2)) a2 a6 (Es a7) d2 c5 rfl;refine aX (λρ=>ρ=[some 1.15,some 1.23,some (bD .own (es++(nw++[(q.1,x,ey.2.2+q.2)]))),some (.str x),some (tdL .own nw),some (.int p),some (.str q.1),some (.int q.2)]) (λQ hQ=>?_) ?_
        .have hset:=Wd (b:=(q.1,x,ey.2.2+q.2)) (N:=.lst .frz (ns.map D.str)) (J:=.lst .frz (js.map jD)) (r:=[some (.str x),some (tdL .own nw),some (.int p),some (.str q.1),some (.int q.2)]) (Es a7) (by rw[aay];omega)
         simp![bvD,aaT]at hset;have c6:gIx (bvD ey) (.int 1)=some (.int ey.2.2):=rfl;simp[cN,e2,eC,ao,Nu,Vi,Ss a1,d5,c6,fG,view,eAp,ak,aK,bL,aZ,fB,aN,gw,cz,hset,az,aB,aD,aC,clean];exact hQ _ rfl
        rintro _ rfl;have b9:aV (tdL .own nw) [.str q.1]=some (tdL .own (nw++[(q.1,x,ey.2.2+q.2)]),.non):=by
         simp![tdL,aV,Ze];rw[Zd 1.11];simp
        have c0:upS aV 4 [] [.str q.1] [some 1.15,some 1.23,some (bD .own (es++(nw++[(q.1,x,ey.2.2+q.2)]))),some (.str x),some (tdL .own nw),some (.int p),some (.str q.1),some (.int q.2)]=some (.non,[some 1.15,some 1.23,some (bD .own (es++(nw++[(q.1,x,ey.2.2+q.2)]))),some (.str x),some (tdL .own (nw++[(q.1,x,ey.2.2+q.2)])),some (.int p),some (.str q.1),some (.int q.2)]):=by
         simp![upS,fu,aar,aaO,YK,b9,fY,abb,acG];rfl
        simp![i_,jE,cz,ak,aK,ao,view,aar,aaO,YK,aaJ,c0,aN];refine⟨nw++[(q.1,x,ey.2.2+q.2)],_,_,rfl,d4,by rw[ZC a6];exact a1,by rw[Zr];exact YW _ a4,b7 _ (λy U=>?_) ?_⟩
        .rw[←aaT,Zr];exact YW _ U
        .simp
     rintro _ ⟨nw,z6,z7,rfl,a2,a1,a4,b5⟩;have a6:=(List.getElem?_eq_some_iff.mp a1).1;simp[cN,e2,eC,ao,view,fG,aZ,aN,tgN,aD,aC,clean];refine⟨nw,_,_,rfl,⟨a2.s,a2.x,λi c hi Z=>?_⟩,by omega,a4⟩;rcases ab0 i p with h|h
     .exact a2.p i c h Z
     .have:i=p:=by omega
      subst this;rw[a1]at Z;cases Z;intro q hq;obtain⟨i',b1⟩:=ZS.mp hq;exact b5 i' q (List.getElem?_eq_some_iff.mp b1).1 b1
    .rw[Zk 1.11]
     refine a5 (es++new) _ _ _ _ hW.s (Ox hC hW.s hW.x λe V q hq=>?_) (λy U=>by rw[Zr];exact YW _ U) (by rw[Zr];exact YJ _ b8);obtain⟨i,hi⟩:=ZS.mp V;exact hW.p i e (by have:=(List.getElem?_eq_some_iff.mp hi).1;omega) hi q hq
 rintro _ ⟨es,x3,x4,x5,x6,x7,rfl,hS,hC,hK⟩;simp[fH,aN];refine⟨es,rfl,hS,hC,λx hx=>?_⟩;obtain⟨i,hi⟩:=ZS.mp ((lA ns).mem_iff.mpr hx);exact hK i x (by have:=(List.getElem?_eq_some_iff.mp hi).1;rw[(lA ns).length_eq]at this;exact this) hi
theorem Yg{x:Int}:iT [.int x,.tup [.ty "list",.ty "tuple"]]=some (.bl false)/\iT [.int x,.ty "str"]=some (.bl false)/\iT [.int x,.ty "int"]=some (.bl true)/\iT [.int x,.ty "bool"]=some (.bl false)/\gIs (.int x) .non=some (.bl false):=⟨rfl,rfl,rfl,rfl,rfl⟩
theorem Th{x:Int}:cV [.int x,.int x]=some (.bl true):=by
 apply Wp.eq;simp_arith[cV,sEx,aG,aR,aJ,bL,Yg,eq_int,Jf]
def Wkd(ns:List Str)(js:List Jt)(t:Int)(R:Str->Str)(O:Str->Int)(es:List Bh):Prop:=Sd ns t R O es/\Cl js es/\∀x∈ns,x∈es.map (·.1)
theorem JX(h:x∈es.map (·.1)):∃(i:Nat)(e:Bh),es[i]? =some e/\e.1=x:=by
 obtain⟨e,V,rfl⟩:=Zf.mp h;obtain⟨i,hi⟩:=ZS.mp V;exact⟨i,e,hi,rfl⟩
theorem Uk(q:Iv ns js t R O)(I:Wkd ns js t R O es){ex Y:Bh}(J:ex∈es)(U:Y∈es):stp t R O ex.1 Y.1=if ex.2.1=Y.2.1 then some (cnt t (Y.2.2-ex.2.2))else none:=by
 obtain⟨D,hC,hF⟩:=I;obtain⟨N,a2⟩:=D.s ex J;obtain⟨b1,b2⟩:=D.s Y U;unfold stp;by_cases h:ex.2.1=Y.2.1
 .rw[Zd h,Zd (by rw[←N,←b1,h])]
  congr 1;apply Vc;have:=Int.dvd_sub a2 b2;rw[h]at this;rw[show O Y.1-O ex.1-(Y.2.2-ex.2.2)=ex.2.2-(O ex.1-O Y.2.1)-(Y.2.2-(O Y.1-O Y.2.1))by omega];exact this
 .rw[Zk h,Zk λz=>h ?_]
  let S:Str->Str:=λz=>((es.find? λc=>decide (c.1=z)).map (·.2.1)).getD z
  have B:∀e∈es,S e.1=e.2.1:=λe V=>by
   obtain⟨i,hi⟩:=ZS.mp V;simp![S,Du D.nd hi];rfl
  have:=q.c S (λj F=>by
   obtain⟨n1,_⟩:=q.j j F;obtain⟨i,e,hi,h1⟩:=JX (hF _ n1);have a0:=Zo hi;obtain⟨c,Z⟩:=(hC j F e a0).1 h1;rw[←h1,B e a0];exact(B _ Z).symm) _ (D.i ex J) _ (D.i Y U) z
  rwa[B ex J,B Y U]at this
abbrev Pt:=Int×Int
def ptD(p:Pt):D:=.tup [.int p.1,.int p.2]
theorem XH(l:List Pt):az (l.map ptD)=true:=bV λd hd=>by obtain⟨x,_,rfl⟩:=Zf.mp hd;rfl
theorem X3(l:List Pt):aB (l.map ptD)=true:=bQ λd hd=>by obtain⟨x,_,rfl⟩:=Zf.mp hd;rfl
theorem Wr(b:Bool)(l:List Pt):cU b (l.map ptD)=l.map ptD:=by rw[dG,Zj];rfl
theorem WQ(l:List Pt):fzL (l.map ptD)=l.map ptD:=by rw[jP,Zj];rfl
theorem Xn(l:List Pt):g_ (l.map ptD)=l.map ptD:=by rw[jV,Zj];rfl
structure JJ(J:D)(js:List Jt):Prop where
 f:fz J=J
 v:∀b,view b J=J
 b:aD J=true
 o:aC J=true
 l:fQ [J]=some (.int js.length)
 x:∀i,gIx J (.int i)=atI (js.map jD) i
 s:cL J=some (true,js.map jD)
 e:itE (λ_=>some [J]) []=some (true,nR 0 (js.map jD))
theorem JJ.lst(js:List Jt):JJ 1.23 js:=⟨by simp[fz,sI,mkF],λb=>by cases b<;>simp[view,uz,mkV],by simp[aD,nO],by simp[aC,nW],by simp[fQ],λ_=>rfl,by simp[cL,clean,aD,aC,nO,nW,wQ],by simp[itE,cL,clean,aD,aC,nO,nW,wQ]⟩
abbrev Tt:=Int×Int×Str
def tD(t:Tt):D:=.tup [.int t.1,.int t.2.1,.str t.2.2]
theorem Xq(l:List Tt):az (l.map tD)=true:=bV λd hd=>by obtain⟨x,_,rfl⟩:=Zf.mp hd;rfl
theorem W9(l:List Tt):aB (l.map tD)=true:=bQ λd hd=>by obtain⟨x,_,rfl⟩:=Zf.mp hd;rfl
theorem W8(b:Bool)(l:List Tt):cU b (l.map tD)=l.map tD:=by rw[dG,Zj];rfl
theorem X8(l:List Tt):g_ (l.map tD)=l.map tD:=by rw[jV,Zj];rfl
structure NK(N:D)(ns:List Str):Prop where
 f:fz N=N
 v:∀b,view b N=N
 b:aD N=true
 o:aC N=true
 l:fQ [N]=some (.int ns.length)
 x:∀i,gIx N (.int i)=atI (ns.map D.str) i
 i:∀y,gIn (.str y) N=some (.bl (decide (y∈ns)))
 ni:∀y,ji (.str y) N=some (.bl (!decide (y∈ns)))
 s:cL N=some (true,ns.map D.str)
theorem NK.lst(ns:List Str):NK 1.15 ns:=⟨by simp[fz,eQ,mkF],λb=>by cases b<;>simp[view,bH,mkV],by simp[aD,bW],by simp[aC,bN],by simp[fQ],λ_=>rfl,λy=>by simp[gIn,tY,scV,pO,vA],λy=>by simp[ji,tY,scV,pO,vA],by simp[cL,clean,aD,aC,bW,bN,ir]⟩
def lT(l:List Tt):D:=.lst .own (l.map tD)
def lead(ns:List Str)(f:Str->List Tt):D:=.dct .own (ns.map Zx) (ns.map λy=>lT (f y))
def upF(f:Str->List Tt)(x:Str)(t:Tt):Str->List Tt:=λy=>if y=x then f y++[t]else f y
def adj(js:List Jt):Nat->Str->List Tt
 |0=>λ_=>[]
 |k+1=>match js[k]? with
  |some j=>upF (upF (adj js k) j.1 (k,1,j.2.1)) j.2.1 (k,-1,j.1)
  |none=>adj js k
theorem T4{g g':Str->α}{a:α}(hn:ns.Nodup)(hi:ns[i]? =some x)(Y:g' x=a)(D:∀y,y≠x->g' y=g y):(ns.map g).set i a=ns.map g':=by
 apply adV;intro k;rw[abO];have N:i<ns.length:=(List.getElem?_eq_some_iff.mp hi).1;by_cases e:i=k
 .subst e
  rw[Zd rfl,Zd (by simpa using N),List.getElem?_map,hi,←Y];rfl
 .rw[Zk e,List.getElem?_map,List.getElem?_map]
  cases I:ns[k]? with
  |none=>rfl
  |some y=>
   have q:y≠x:=λz=>by
    rw[z]at I;obtain⟨h1,h2⟩:=List.getElem?_eq_some_iff.mp hi;obtain⟨B,U⟩:=List.getElem?_eq_some_iff.mp I;exact e ((afK hn).mp (h2.trans U.symm))
   simp[D y q]
variable{f:Str->List Tt}{t:Tt}{ρ:En}
theorem Bg{fa:En->Option (List D)}(hn:ns.Nodup)(h2:ρ[2]? =some (some (lead ns f)))(h4:ao false i ρ=some (.str x))(J:x∈ns)(hl:(f x).length<1000000)(Y:fa ρ=some [tD t]) :
  i_ aV 2 (mW 2 (cz 2) (ao false i)) fa ρ=some (.nx (ρ.set 2 (some (lead ns (upF f x t))))):=by
 obtain⟨k,I,F,z⟩:=pN J;have q:(ns.map λy=>lT (f y))[k]? =some (lT (f x)):=by rw[List.getElem?_map,F];rfl
 have e1:ixP (lead ns f) (.str x)=some k:=by simp[ixP,lead,dh,I,z]
 have e2:kids (lead ns f)=ns.map λy=>lT (f y):=rfl;have V:fY [k] (lT (f x++[t])) (lead ns f)=lead ns (upF f x t):=by
  have B:=T4 (g:=λy=>lT (f y)) (g':=λy=>lT (upF f x t y)) (a:=lT (f x++[t])) hn F (by simp[upF]) (λy hy=>by simp[upF,hy]);rw[fY,e2,q];simp![fY];rw[B];rfl
 have N:fu [k] (lead ns f)=some (lT (f x)):=by simp[fu,e2,q]
 have Z:aV (lT (f x)) [tD t]=some (lT (f x++[t]),.non):=by simp[lT,aV,hl]
 have O:fu [] (lead ns f)=some (lead ns f):=rfl;have e6:mW 2 (cz 2) (ao false i) ρ=some [k]:=by
  unfold mW cz;rw[h2,h4];simp![YK,O,e1,e2,Ze,z,Zz,List.nil_append]
 have U:az [tD t]=true/\aB [tD t]=true:=⟨rfl,rfl⟩;unfold i_ jE;rw[e6,Y];simp![YK];unfold upS;rw[h2];simp![N,YK,U.1,U.2,and_self,Zz,Z,aaJ,V]
theorem zc:(upF f x t y).length<=(f y).length+1:=by unfold upF;split<;>simp
theorem zB(js:List Jt)(y:Str):∀k,(adj js k y).length<=2*k
 |0=>by simp[adj]
 |k+1=>by
  have N:=zB js y k;rw[adj];cases F:js[k]? with
  |some j=>
   simp only;have h1:=zc (f:=upF (adj js k) j.1 (k,1,j.2.1)) (x:=j.2.1) (y:=y) (t:=((k:Int),-1,j.1));have h2:=zc (f:=adj js k) (x:=j.1) (y:=y) (t:=((k:Int),1,j.2.1));omega
  |none=>simp only;omega
def EbI(N J:D)(ns:List Str)(js:List Jt)(k:Nat)(ρ:En):Prop:=∃O V Z U:Option D,ρ=[some N,some J,some (lead ns (adj js k)),O,V,Z,U]
theorem WW:∀ns:List Str,jG (tpN 0) eTT 1.18 (eAp dN aK) [none] (ns.map D.str)=some (ns.map λy=>((Zx y:Key),D.lst .own []))
 |[]=>rfl
 |x::r=>by
  rw[YT,jG,WW r];simp_arith[sEx,aG,aR,aJ,fG,jq,mq,mX,mC,nM,ie,gLt,gGt,gGe,gIx,dN,bL,fQ,t_,qT,lF,gIs,jf,atI,ixN,aV,fU,gSl,uG,pK,dh]
theorem Vl{N J:D}(hN:NK N ns)(hJ:JJ J js)(hn:ns.Nodup)(F:∀j∈js,j.1∈ns/\j.2.1∈ns)(Y:ns.length<=1000)(a2:js.length<=1000):cQ [N,J]=some (lead ns (adj js js.length)):=by
 apply Wp.eq;simp_arith![cQ,fnP];refine aX (EbI N J ns js 0) 1.25 ?_
 .have hnd:(ns.map λy=>(Zx y:Key)).Nodup:=adW.mpr (hn.imp λh e=>h (by cases e;rfl))
  simp_arith[sEx,aG,aR,aJ,-cL,m7,hN.v,hN.s,WW];refine⟨by omega,?_⟩;rw[rA,Zj,Zj,show((λx:Key×D=>x.1)∘λy=>((Zx y:Key),D.lst .own []))=Zx from rfl];rw[Zd hnd,aN];refine⟨⟨?_,?_⟩,q _ ⟨_,_,_,_,rfl⟩⟩
  .simp![aD];rw[bV λd hd=>by obtain⟨y,_,rfl⟩:=Zf.mp hd;rfl];rfl
  .simp![aC];rw[bQ λd hd=>by obtain⟨y,_,rfl⟩:=Zf.mp hd;rfl];rfl
 rintro _ ⟨y3,y4,y5,y6,rfl⟩;refine aX (EbI N J ns js js.length) 1.25 ?_
 .simp[jg,itE,ao,ak,aK,hJ.v,hJ.s,aZ,aN,w_ite]
  refine oN (EbI N J ns js) ⟨y3,y4,y5,y6,rfl⟩ ?_ (λρ h=>q _ (by rw[qd]at h;simpa using h));rintro k d ρ I ⟨O,V,Z,U,rfl⟩;rw[mH,List.getElem?_map]at I;cases a0:js[k]? with
  |none=>simp[a0]at I
  |some j=>
   obtain rfl:D.tup [.int (k:Int),jD j]=d:=by simpa[a0]using I
   obtain⟨a1,B⟩:=F j (Zo a0);have z:k<js.length:=(List.getElem?_eq_some_iff.mp a0).1;simp[jD,tgT,aQ,cC,tgN,az,aB,clean,aD,aC,aN];refine aX (λρ=>ρ=[some N,some J,some (lead ns (upF (adj js k) j.1 (k,1,j.2.1))),some (.int k),some (.str j.1),some (.str j.2.1),some (.int j.2.2)]) 1.25 ?_
   .refine GC (Bg (t:=((k:Int),1,j.2.1)) hn rfl (x:=j.1) (by simp[ao,view]) a1 (by have:=zB js j.1 k;omega) (by simp_arith[sEx,aG,aR,aJ,fG,jq,mq,mX,mC,nM,ie,gLt,gGt,gGe,gIx,dN,bL,fQ,t_,qT,lF,gIs,jf,atI,ixN,aV,fU,gSl,uG,pK,tD])) (q _ rfl)
   rintro _ rfl;refine GC (Bg (t:=((k:Int),-1,j.1)) hn rfl (x:=j.2.1) (by simp[ao,view]) B (by have:=zB js j.2.1 k;have:=zc (f:=adj js k) (x:=j.1) (y:=j.2.1) (t:=((k:Int),1,j.2.1));omega) (by simp_arith[sEx,aG,aR,aJ,fG,jq,mq,mX,mC,nM,ie,gLt,gGt,gGe,gIx,dN,bL,fQ,t_,qT,lF,gIs,jf,atI,ixN,aV,fU,gSl,uG,pK,tD])) ⟨some (.int k),some (.str j.1),some (.str j.2.1),some (.int j.2.2),?_⟩;rw[adj,a0];rfl
 rintro _ ⟨O,V,Z,U,rfl⟩;simp[fH,aN]
abbrev Uw:=Str×List Pt
def pT(ps:List Pt):D:=.tup (ps.map ptD)
def wM(m:Mk)(us:List Uw):D:=.dct m ((us.map (·.1)).map Zx) (us.map λu=>pT u.2)
theorem Rf(ps:List Pt):aD (pT ps)=true/\aC (pT ps)=true/\(∀b,view b (pT ps)=pT ps)/\fz (pT ps)=pT ps/\fzo (pT ps)=pT ps:=by
 refine⟨?_,?_,λb=>?_,?_,?_⟩<;>simp[pT,aD,aC,XH,X3,view,Wr,fz,WQ,fzo,Xn]
theorem XS(b:Bool)(us:List Uw):cU b (us.map λu=>pT u.2)=us.map λu=>pT u.2:=by
 rw[dG,Zj];exact aak λu _=>(Rf u.2).2.2.1 b
theorem WL(us:List Uw):az (us.map λu=>pT u.2)=true:=bV λd hd=>by obtain⟨u,_,rfl⟩:=Zf.mp hd;exact(Rf u.2).1
theorem Yd(us:List Uw):aB (us.map λu=>pT u.2)=true:=bQ λd hd=>by obtain⟨u,_,rfl⟩:=Zf.mp hd;exact(Rf u.2).2.1
variable{us:List Uw}
theorem WK:view false (wM .own us)=wM .brw us:=by simp![wM,view,XS];rfl
theorem Yz(h:m= .own∨m= .frz):aD (wM m us)=true/\aC (wM m us)=true:=by
 rcases h with rfl|rfl<;>simp[wM,aD,aC,WL,Yd]
theorem Wi:ji (.str x) (wM m us)=some (.bl (!decide (x∈us.map (·.1)))):=by
 simp![ji,wM,tY,dh,aaJ,kI]
theorem Wb(J:x∈us.map (·.1)):∃ps,(x,ps)∈us/\gIx (wM m us) (.str x)=some (pT ps):=by
 obtain⟨i,h1,h2,B⟩:=pN J;rw[List.getElem?_map]at h2;cases e:us[i]? with
 |none=>simp[e]at h2
 |some u=>
  have e2:u.1=x:=by simpa[e]using h2
  refine⟨u.2,e2▸Zo e,?_⟩;simp![gIx,wM,dh,YK,h1,List.getElem?_map,e,aaJ]
theorem Vv{ps:List Pt}(J:x∉us.map (·.1))(Y:us.length<1000000):fU (wM .own us) [.str x,pT ps]=some (wM .own (us++[(x,ps)]),.non):=by
 have h1:cZ ((us.map (·.1)).map Zx) (Zx x)=none:=by
  cases e:cZ ((us.map (·.1)).map Zx) (Zx x)with
  |none=>rfl
  |some j=>have:=kI (ys:=us.map (·.1)) (x:=x);rw[e]at this;exact absurd (of_decide_eq_true this.symm) J
 simp![fU,wM,dh,YK,Ze,Y,Zz,h_,h1,Zr,YT,aai]
def j_(ns:List Str)(f:Str->List Tt):D:=.dct .frz (ns.map Zx) (ns.map λy=>.lst .frz ((f y).map tD))
theorem Rr(b:Bool):view b (j_ ns f)=j_ ns f:=by
 simp![j_,view,dG,Zj];congr 1;refine aak λy _=>?_;simp![adN,view,W8];rfl
theorem La(J:x∈ns):gIx (j_ ns f) (.str x)=some (.lst .frz ((f x).map tD)):=by
 obtain⟨i,h1,h2,B⟩:=pN J;simp![gIx,j_,dh,YK,h1,List.getElem?_map,h2,aaJ]
def ky(us:List Uw):List Str:=us.map (·.1)
theorem ph(us:List Uw):(ky us).length=us.length:=by simp[ky]
theorem v6(us:List Uw)(u:Uw):ky (us++[u])=ky us++[u.1]:=by simp[ky]
theorem Ws{l:List Tt}{d:D}(h:(l.map tD)[k]? =some d):∃t,l[k]? =some t/\d=tD t:=by
 rw[List.getElem?_map]at h;cases e:l[k]? with
 |none=>simp[e]at h
 |some t=>exact⟨t,rfl,by simpa[e]using h.symm⟩
theorem El(F:∀j∈js,j.1∈ns/\j.2.1∈ns)(y:Str):∀k,t∈adj js k y->t.2.2∈ns
 |0,h=>by simp[adj]at h
 |k+1,h=>by
  rw[adj]at h;cases e:js[k]? with
  |none=>rw[e]at h;exact El F y k h
  |some j=>
   rw[e]at h;obtain⟨h1,h2⟩:=F j (Zo e);have go:∀{f:Str->List Tt}{x:Str}{u:Tt},t∈upF f x u y->t∈f y∨t=u:=λ{f x u} z=>by
    unfold upF at z;split at z
    .simpa using z
    .exact .inl z
   rcases go h with z|z
   .rcases go z with z|z
    .exact El F y k z
    .rw[z];exact h2
   .rw[z];exact h1
def WdN(js:List Jt)(us:List Uw)(p:Nat):Prop:=∀(i:Nat)(y:Str),i<p->(ky us)[i]? =some y->∀u∈adj js js.length y,u.2.2∈ky us
theorem Jm{u:Tt}(z:t∈upF f x u y):t∈f y∨(t=u/\y=x):=by
 unfold upF at z;split at z
 .rename_i e
  exact(YL.mp z).imp id λh=>⟨ZJ.mp h,e⟩
 .exact .inl z
theorem Od(J:∀j∈js,R j.1=R j.2.1)(y:Str):∀k,t∈adj js k y->R t.2.2=R y
 |0,h=>by simp[adj]at h
 |k+1,h=>by
  rw[adj]at h;cases e:js[k]? with
  |none=>rw[e]at h;exact Od J y k h
  |some j=>
   rw[e]at h;have F:=J j (Zo e);rcases Jm h with z|⟨z,D⟩
   .rcases Jm z with z|⟨z,D⟩
    .exact Od J y k z
    .rw[z,D];exact F.symm
   .rw[z,D];exact F
theorem wI{u:Tt}(z:t∈f y):t∈upF f x u y:=by
 unfold upF;split
 .exact YW _ z
 .exact z
theorem Ff{js:List Jt}{j:Jt}:∀(k i:Nat),i<k->js[i]? =some j->(∃t∈adj js k j.1,t.2.2=j.2.1)/\∃t∈adj js k j.2.1,t.2.2=j.1
 |0,i,h,_=>by omega
 |k+1,i,h,hi=>by
  rw[adj];rcases ab0 i k with z|z
  .obtain⟨⟨a,a1,a2⟩,b,b1,b2⟩:=Ff k i z hi
   cases e:js[k]? with
   |none=>exact⟨⟨a,a1,a2⟩,b,b1,b2⟩
   |some q=>exact⟨⟨a,wI (wI a1),a2⟩,b,wI (wI b1),b2⟩
  .have:i=k:=by omega
   subst this;rw[hi];exact⟨⟨(i,1,j.2.1),wI (by simp[upF]),rfl⟩,⟨(i,-1,j.1),by simp[upF],rfl⟩⟩
structure Wy(ns:List Str)(R:Str->Str)(h:Str)(us:List Uw):Prop where
 n:(us.map (·.1)).Nodup
 i:∀x∈us.map (·.1),x∈ns
 w:∀u∈us,u.2.length<us.length
 r:∀x∈us.map (·.1),R x=R h
theorem Wy.len{h:Str}(w:Wy ns R h us):us.length<=ns.length:=by
 have:=yM w.n w.i;simpa using this
def WfI(L:D)(ns:List Str)(js:List Jt)(R:Str->Str)(h:Str)(p:Nat)(ρ:En):Prop:=∃(us:List Uw)(V Z U B:Option D),ρ=[some L,some (.str h),some (wM .own us),some (.lst .own (((ky us).drop p).map D.str)),V,Z,U,B]/\Wy ns R h us/\p<=us.length/\h∈ky us/\WdN js us p
def WfJ(L:D)(ns:List Str)(js:List Jt)(R:Str->Str)(h:Str)(p:Nat)(x:Str)(k:Nat)(ρ:En):Prop:=∃(us:List Uw)(Z U B:Option D),ρ=[some L,some (.str h),some (wM .own us),some (.lst .own (((ky us).drop (p+1)).map D.str)),some (.str x),Z,U,B]/\Wy ns R h us/\p+1<=us.length/\(ky us)[p]? =some x/\h∈ky us/\WdN js us p/\∀(i:Nat)(u:Tt),i<k->(adj js js.length x)[i]? =some u->u.2.2∈ky us
def WyD(ns:List Str)(js:List Jt)(R:Str->Str)(h:Str)(d:D):Prop:=∃us,d=wM .own us/\Wy ns R h us/\h∈ky us/\∀y∈ky us,∀u∈adj js js.length y,u.2.2∈ky us
theorem T6{h:Str}(hR:∀j∈js,R j.1=R j.2.1)(hh:h∈ns)(hj:∀j∈js,j.1∈ns/\j.2.1∈ns)(Y:ns.length<=1000):Wp (dU [j_ ns (adj js js.length),.str h]) (WyD ns js R h):=by
 simp_arith![dU,fnP];refine aX (λρ=>ρ=[some (j_ ns (adj js js.length)),some (.str h),some (wM .own [(h,[])]),none,none,none,none,none]) 1.25 ?_
 .have:rA [((Zx h:Key),D.tup [])]=some (wM .own [(h,[])]):=by
   unfold rA;rw[Zd (by simp)];rfl
  simp_arith[sEx,aG,aR,aJ,fG,jq,mq,mX,mC,nM,ie,gLt,gGt,gGe,gIx,dN,bL,fQ,t_,qT,lF,gIs,jf,atI,ixN,aV,fU,gSl,uG,pK,Ce,vL,Ga,dh,this];exact⟨Yz (.inl rfl),q _ rfl⟩
 rintro _ rfl;refine aX (λρ=>ρ=[some (j_ ns (adj js js.length)),some (.str h),some (wM .own [(h,[])]),some (.lst .own [.str h]),none,none,none,none]) 1.25 ?_
 .simp_arith[sEx,aG,aR,aJ,fG,jq,mq,mX,mC,nM,ie,gLt,gGt,gGe,gIx,dN,bL,fQ,t_,qT,lF,gIs,jf,atI,ixN,aV,fU,gSl,uG,pK]
  exact q _ rfl
 rintro _ rfl;refine aX (λρ=>∃(us:List Uw)(x4 Z x6 B:Option D),ρ=[some (j_ ns (adj js js.length)),some (.str h),some (wM .own us),some (.lst .own []),x4,Z,x6,B]/\Wy ns R h us/\h∈ky us/\WdN js us us.length) 1.25 ?_
 .refine rQ (WfI (j_ ns (adj js js.length)) ns js R h) ns.length ?_ 1000000 0 _ ⟨[(h,[])],none,none,none,none,rfl,⟨by simp,by simpa using hh,by simp,by simp⟩,by simp,by simp[ky],λi y hi=>by omega⟩ 1.11
  rintro p ρ ⟨us,x4,Z,x6,B,rfl,V,F,a2,a3⟩;have c9:=V.len;cases e:(ky us).drop p with
  |nil=>
   simp[kO,jK,ao,view,cU,truth,fB,aN,e];have c4:p=us.length:=by have:=congrArg abv e;rw[acn,ph]at this;simp at this;omega
   exact q _ ⟨us,x4,Z,x6,B,rfl,V,a2,c4▸a3⟩
  |cons x r=>
   have J:(ky us)[p]? =some x:=by
    have:=congrArg (λl=>l[0]?) e;simpa using this
   have b4:p<us.length:=by have:=(List.getElem?_eq_some_iff.mp J).1;rw[ph]at this;exact this
   have O:r=(ky us).drop (p+1):=by
    have:=congrArg List.tail e;simpa using this.symm
   have b8:x∈ns:=V.i x (Zo J);have a4:((ky us).drop p).length<1000000:=by rw[acn,ph];omega
   rw[e]at a4;simp[kO,jK,ao,view,cU,truth,fB,aN];refine⟨by omega,?_⟩;refine aX (WfJ (j_ ns (adj js js.length)) ns js R h p x 0) 1.25 ?_
   .have hpop:lK (.lst .own ((x::r).map D.str)) [.int 0]=some (.lst .own (r.map D.str),.str x):=by
     simp![lK,Ze,a4,Zz];simp[ixN]
    have hq:upS lK 3 [] [.int 0] [some (j_ ns (adj js js.length)),some (.str h),some (wM .own us),some (.lst .own ((x::r).map D.str)),x4,Z,x6,B]=some (.str x,[some (j_ ns (adj js js.length)),some (.str h),some (wM .own us),some (.lst .own (r.map D.str)),x4,Z,x6,B]):=by
     unfold upS;simp![aar,aaO,fu,YK];rw[Zd ⟨rfl,rfl⟩,hpop];rfl
    simp![YT]at hq;simp[b7,jE,cz,ak,aK,eC,fB,aZ,aN,hq,tgN,aD,aC,clean];exact q _ ⟨us,Z,x6,B,by rw[O],V,b4,J,a2,a3,λi u hi=>by omega⟩
   rintro _ ⟨c2,y5,y6,y7,rfl,c6,b6,c1,b9,b5,c5⟩;have a7:cL (.lst .frz ((adj js js.length x).map tD))=some (true,(adj js js.length x).map tD):=by simp[cL,clean,aD,aC,Xq,W9,X8]
   simp[jg,itS,e2,ao,Rr,view,aZ,aN,La b8,a7,-List.map_drop];refine oN (WfJ (j_ ns (adj js js.length)) ns js R h p x) ⟨c2,y5,y6,y7,rfl,c6,b6,c1,b9,b5,c5⟩ ?_ ?_
   .rintro k d ρ hk ⟨us1,z5,z6,z7,rfl,hw1,hp1,hx1,hk1,hd1,ha1⟩
    obtain⟨t,ht,rfl⟩:=Ws hk;have a9:t∈adj js js.length x:=Zo ht;have a8:∀a1:List Uw,(∀y∈ky us1,y∈ky a1)->t.2.2∈ky a1->∀(i:Nat)(u:Tt),i<k+1->(adj js js.length x)[i]? =some u->u.2.2∈ky a1:=λa1 h1 h2 i u hi hu=>by
     rcases ab0 i k with z|z
     .exact h1 _ (ha1 i u z hu)
     .have:i=k:=by omega
      subst this;rw[ht]at hu;cases hu;exact h2
    have c8:=hw1.len;have b0:x∈us1.map (·.1):=Zo hx1;obtain⟨ps,c3,b3⟩:=Wb (m:=.brw) b0;have c7:ps.length<us1.length:=hw1.w _ c3;simp[tD,tgT,aQ,cC,tgN,az,aB,clean,aD,aC,aN,-List.map_drop];simp[sIf,eB,e2,ao,WK,view,Wi,isB,aZ,aN,w_ite,-List.map_drop];by_cases I:t.2.2∈us1.map (·.1)
    .have hin':∃a,(t.2.2,a)∈us1:=by obtain⟨u,hu,e⟩:=Zf.mp I;exact⟨u.2,by rw[←e];exact hu⟩
     simp[hin',dO,aN,-List.map_drop];exact⟨us1,_,_,_,rfl,hw1,hp1,hx1,hk1,hd1,a8 us1 (λ_ h=>h) I⟩
    .have hin':¬∃a,(t.2.2,a)∈us1:=λ⟨a,z⟩=>I (Zf.mpr ⟨_,z,rfl⟩)
     simp[hin',-List.map_drop];have b2:fG (pT ps) (.tup [.tup [.int t.1,.int t.2.1]])=some (pT (ps++[(t.1,t.2.1)])):=by
      simp[pT,fG,ptD];omega
     refine aX (λρ=>ρ=[some (j_ ns (adj js js.length)),some (.str h),some (wM .own (us1++[(t.2.2,ps++[(t.1,t.2.1)])])),some (.lst .own (((ky us1).drop (p+1)).map D.str)),some (.str x),some (.int t.1),some (.int t.2.1),some (.str t.2.2)]) 1.25 ?_
     .have hset:=Vv (us:=us1) (x:=t.2.2) (ps:=ps++[(t.1,t.2.1)]) I 1.11
      have N:=Rf (ps++[(t.1,t.2.1)]);simp[cN,e2,ao,WK,view,b3,eAp,ak,aK,bL,b2,aZ,fB,aN,gw,cz,upS,fu,fY,hset,az,aB,aD,aC,N.1,N.2.1,clean,-List.map_drop];exact q _ rfl
     rintro _ rfl;have c0:(((ky us1).drop (p+1)).map D.str).length<1000000:=by rw[Ze,acn,ph];omega
     have a6:aV (.lst .own (((ky us1).drop (p+1)).map D.str)) [.str t.2.2]=some (.lst .own (((ky us1).drop (p+1)).map D.str++[.str t.2.2]),.non):=by
      simp![aV,c0,Zz]
     simp![i_,jE,cz,ak,aK,ao,view,aar,aaO,YK,aaJ,upS,fu,az,aB,aD,aC,Bool.and_self,and_self,Zz,a6,fY,aN,abb,acG];have a5:(ky (us1++[(t.2.2,ps++[(t.1,t.2.1)])])).drop (p+1)=(ky us1).drop (p+1)++[t.2.2]:=by
      rw[v6,List.drop_append_of_le_length (by rw[ph];exact hp1)]
     have a0:∀y∈ky us1,y∈ky (us1++[(t.2.2,ps++[(t.1,t.2.1)])]):=λy U=>by rw[v6];exact YW _ U
     refine⟨us1++[(t.2.2,ps++[(t.1,t.2.1)])],_,_,_,by rw[a5,Zr];rfl,⟨?_,?_,?_,?_⟩,by simp;omega,?_,a0 _ hk1,λi y hi U u hu=>?_,a8 _ a0 (by rw[v6];simp)⟩
     .rw[Zr]
      exact Zi.mpr ⟨hw1.n,by simp,λy U z hz=>by
       obtain rfl:z=t.2.2:=by simpa using hz
       exact λe=>I (e▸U)⟩
     .intro y U
      rw[Zr]at U;rcases YL.mp U with z|z
      .exact hw1.i y z
      .rw[show y=t.2.2 by simpa using z];exact El hj x _ a9
     .intro u hu
      rcases YL.mp hu with z|z
      .have:=hw1.w u z;simp;omega
      .rw[ZJ.mp z];simp;omega
     .intro y U
      rw[Zr]at U;rcases YL.mp U with z|z
      .exact hw1.r y z
      .rw[show y=t.2.2 by simpa using z,Od hR x _ a9];exact hw1.r x b0
     .rw[v6,ZC (by rw[ph];omega)];exact hx1
     .rw[v6,ZC (by rw[ph];omega)]at U
      exact a0 _ (hd1 i y hi U u hu)
   .rintro ρ ⟨us1,z5,z6,z7,rfl,hw1,hp1,hx1,hk1,hd1,ha1⟩
    refine⟨us1,_,z5,z6,z7,rfl,hw1,hp1,hk1,λi y hi U u hu=>?_⟩;rcases ab0 i p with z|z
    .exact hd1 i y z U u hu
    .have:i=p:=by omega
     subst this;rw[hx1]at U;cases U;obtain⟨i',b1⟩:=ZS.mp hu;exact ha1 i' u (by rw[Ze];exact(List.getElem?_eq_some_iff.mp b1).1) b1
 rintro _ ⟨us,x4,Z,x6,B,rfl,V,a2,a3⟩;simp[fH,aN];refine⟨us,rfl,V,a2,λy U u hu=>?_⟩;obtain⟨i,hi⟩:=ZS.mp U;exact a3 i y (by have:=(List.getElem?_eq_some_iff.mp hi).1;rw[ph]at this;exact this) hi u hu
theorem yj:∀l:List Str,uf (l.map Zx)=some l
 |[]=>rfl
 |x::r=>by simp[uf,yj r]
theorem Yk(h:us.length<64)(Z:(m== .scr)=false):oH [wM m us]=some (.lst .own ((nQ (ky us)).map D.str)):=by
 simp![oH,wM,Ze,h,Z,yj,aaJ];rfl
theorem U3(us:List Uw):bj (wM .own us)=true:=by
 have:∀l:List Pt,bB (l.map ptD)=true:=λl=>by induction l<;>simp_all [bB,bj,ptD]
 have:bB (us.map λu=>pT u.2)=true:=by induction us<;>simp_all [bB,bj,pT]
 simp[wM,bj,this]
variable{t:Int}
theorem Rq(nd:ns.Nodup)(q:Iv ns js t R O)(J:x∈ns)(V:Wy ns R x us)(I:x∈ky us)(Z:∀y∈ky us,∀u∈adj js js.length y,u.2.2∈ky us):(ky us).Perm (ns.filter λy=>decide (R y=R x)):=by
 refine(List.perm_ext_iff_of_nodup V.n (nd.filter _)).mpr λy=>⟨λh=>acv.mpr ⟨V.i y h,by simpa using V.r y h⟩,λh=>?_⟩;obtain⟨h1,h2⟩:=acv.mp h;have:=q.c (λz=>if z∈ky us then "a" else "b") (λj F=>by
  obtain⟨i,hi⟩:=ZS.mp F;obtain⟨⟨u,B,U⟩,v,D,N⟩:=Ff js.length i (List.getElem?_eq_some_iff.mp hi).1 hi;have:j.1∈ky us↔j.2.1∈ky us:=⟨λz=>U▸Z _ z u B,λz=>N▸Z _ z v D⟩;simp![this]) y h1 x J (by simpa using h2)
 simp![I,Zz]at this;split at this
 .assumption
 .exact absurd this (by decide)
theorem Kf(ns:List Str)(s:Sk):fz (skD .frz ns s)=skD .frz ns s:=by simp[skD,wD,bD,nD,fz,fzL,vd,SN,RX,mkF]
theorem W3(ns:List Str)(s:Sk):aD (skD .frz ns s)=true/\aC (skD .frz ns s)=true:=by simp[skD,wD,bD,nD,aD,aC,az,aB,pW,pR,JK,M6,Np,Jo]
theorem zZ:∀l:List Str,bB (l.map D.str)=true
 |[]=>rfl
 |x::r=>by rw[YT,bB,zZ r];rfl
theorem LC{l m:List Int}(h:l.Perm m):l.sum=m.sum:=by
 induction h with
 |nil=>rfl
 |cons x _ N=>rw[adP,adP,N]
 |swap x y l=>simp![adP];omega
 |trans _ _ a b=>exact a.trans b
theorem Pq(nd:ns.Nodup)(q:Iv ns js t R O)(Y:ns.length<=20)(N:js.length<=1000)(J:x∈ns):∃cs:List Str,fj [.lst .frz (ns.map D.str),.lst .frz (js.map jD),.str x]=some (.lst .own (cs.map D.str))/\cs.Perm (ns.filter λy=>decide (R y=R x)):=by
 have F:∀j∈js,j.1∈ns/\j.2.1∈ns:=λj h=>⟨(q.j j h).1,(q.j j h).2.1⟩;have V:=Vl (NK.lst ns) (JJ.lst js) nd F 1.11 N;obtain⟨_,e,us,rfl,hw,I,Z⟩:=T6 (λj h=>(q.j j h).2.2.1) J F 1.11;have z:=hw.len;refine⟨nQ (ky us),?_,(lA _).trans (Rq nd q J hw I Z)⟩;have U:bI cQ [.lst .frz (ns.map D.str),.lst .frz (js.map jD)]=some (lead ns (adj js js.length)):=by
  simp![bI,fzL,fz,eQ,sI,mkF,V,YK,az,aB,aD,aC,bW,bN,nO,nW];simp
 have B:fz (lead ns (adj js js.length))=j_ ns (adj js js.length):=by
  simp![lead,j_,fz,jP,Zj];congr 1;refine aak λy _=>?_;simp![adN,lT,fz,jP,Zj];rfl
 have a0:bI dU [lead ns (adj js js.length),.str x]=some (wM .own us):=by
  simp![bI,fzL,B,fz,e,YK,U3];simp
 have a1:=Yk (us:=us) (m:=.own) 1.11 rfl;apply Wp.eq;simp[fj,fnP,en0,fP,eAp,ak,aK,ao,view,bH,uz,mkV,U,a0,a1,aZ,fB,aN,clean,aD,aC,bW,bN]
theorem RK(nd:ns.Nodup)(hi:Gi ns t s R O)(Y:ns.length<=20)(Z:s.dn.length<=1000)(J:x∈ns):∃q:List Str,dB "Stack" "class_of" bR (skD .frz ns s) [.str x]=some (.lst .own (q.map D.str))/\q.Perm (ns.filter λy=>decide (R y=R x)):=by
 obtain⟨q,e,F⟩:=Pq nd hi.i Y (aas (abW _ _) Z) J;refine⟨q,?_,F⟩;have I:vP [wD .frz ns s.ws]=some (.lst .own (ns.map D.str)):=by
  simp![vP,wD,Ze];rw[Zd 1.11,Zj];rfl
 have z:=wH (ns:=ns) Z;have B:bR [skD .frz ns s,.str x]=some (.lst .own (q.map D.str)):=by
  apply Wp.eq;simp_arith[bR,sEx,aG,aR,aJ,sH,Kf,W3,gf1,HR,MK J,I,dB,rG (m:=.frz) (by decide) (show eF jW "standing"=none by decide),z,eQ,sI,bW,bN,nO,nW,e,bj]
 simp![dB,rG (m:=.frz) (by decide) (show eF jW "class_of"=none by decide),Zz,bI,fzL,Kf,fz,B,YK,bj,zZ];simp
variable{w:Str->Int}
theorem Pk{q:List Str}(Z:∀y∈q,y∈ns)(Y:q.length<=1000):gO [.lst .frz (q.map D.str),wD .frz ns w]=some (.int (q.map w).sum):=by
 have F:∀b,view b (wD .frz ns w)=wD .frz ns w:=λb=>by cases b<;>simp[wD,view,m_,mkV]
 have V:gh (tpN 0) eTT (e2 gIx 1.20 1.18) [none,some (wD .frz ns w)] (q.map D.str)=some ((q.map w).map D.int):=by
  have:∀l:List Str,(∀y∈l,y∈ns)->gh (tpN 0) eTT (e2 gIx 1.20 1.18) [none,some (wD .frz ns w)] (l.map D.str)=some ((l.map w).map D.int):=λl=>by
   induction l with
   |nil=>intro _;rfl
   |cons y r N=>
    intro h;have B:=Cg (m:=.frz) (vs:=w) (h y (by simp));rw[YT,gh,N λz O=>h z (by simp[O])];simp[tpN,eTT,e2,ao,view,F,B,clean,aD,aC]
  exact this q Z
 apply Wp.eq;simp_arith[gO,sEx,aG,aR,aJ,bH,bW,bN,ir,F,V,-List.map_map,zz,vm,pW,pR];omega
theorem Xi(nd:ns.Nodup)(hi:Gi ns t s R O)(Y:ns.length<=20)(Z:s.dn.length<=1000)(J:x∈ns):dB "Stack" "sum_of" cu (skD .bro ns s) [.str x]=some (.int ((ns.filter λy=>decide (R y=R x)).map s.ws).sum):=by
 obtain⟨q,e,F⟩:=RK nd hi Y Z J;have a0:∀y∈q,y∈ns:=λy U=>(acv.mp (F.mem_iff.mp U)).1;have N:q.length<=1000:=by rw[F.length_eq];exact aas (ac9 _ _) 1.11
 have V:=Pk (w:=s.ws) a0 N;have z:(q.map s.ws).sum=((ns.filter λy=>decide (R y=R x)).map s.ws).sum:=LC (F.map s.ws);have I:bI gO [.lst .own (q.map D.str),wD .frz ns s.ws]=some (.int ((ns.filter λy=>decide (R y=R x)).map s.ws).sum):=by
  simp![bI,fzL,HR (m:=.frz) (.inr rfl),fz,eQ,mkF,V,YK,bj,z];simp
 have B:cu [skD .frz ns s,.str x]=some (.int ((ns.filter λy=>decide (R y=R x)).map s.ws).sum):=by
  apply Wp.eq;simp[cu,fnP,en0,fP,eAp,ak,aK,ao,eMt,e1,view,sH,gf1,e,I,aZ,fB,aN,clean,aD,aC]
 simp![dB,rG (m:=.bro) (by decide) (show eF jW "sum_of"=none by decide),Zz,bI,fzL,K6,fz,B,YK,bj];simp
theorem TQ(U:0<=t/\t<=1000)(hi:Gi ns t s R O)(Y:ns.length<=20)(N:s.dn.length<=1000)(J:x∈ns):dB "Stack" "size_of" bZ (skD .bro ns s) [.str x]=some (.int (szR ns R (R x))):=by
 have q:=hi.ok U Y N;obtain⟨_,e,rfl,pre,l,Z⟩:=Fx hi.b J q.bl;obtain⟨rfl,_⟩:=zG hi.p Z.2.2.1 _ _ _ Z.1;rw[Z.1]at e;have F:dB "Stack" "chain" aW (skD .frz ns s) [.str x]=some (.lst .own ((pre++[R x]).map D.str)):=by
  simp![dB,rG (m:=.frz) (by decide) (show eF jW "chain"=none by decide),Zz,bI,fzL,Kf,fz,e,YK,bj,zZ];simp
 have h1:=p6 (pre:=pre) (l:=R x) (m:=.own);have h2:=Cg (m:=.frz) (vs:=s.zs) Z.2.1;have B:=hi.z _ Z.2.1 Z.2.2.1;have I:bZ [skD .frz ns s,.str x]=some (.int (szR ns R (R x))):=by
  apply Wp.eq;simp[bZ,fnP,en0,fP,ak,aK,ao,eMt,e1,e2,eC,ie,view,sH,gf3,F,h1,h2,B,aZ,fB,aN,clean,aD,aC,-List.map_append]
 simp![dB,rG (m:=.bro) (by decide) (show eF jW "size_of"=none by decide),Zz,bI,fzL,K6,fz,I,YK,bj];simp
def wgO:gU->Option (Str×Int)
 |.weigh a n _=>some (a,n)
 |_=>none
def lwF(l:List (Str×Int)):Str->Int:=l.foldl (λw p=>upv w p.1 p.2) λ_=>0
theorem Gd.ws(h:Gd ns t s R O):s.ws=lwF (s.dn.filterMap wgO):=by
 induction h with
 |nil lk=>rfl
 |weigh a n lk h h1 N=>simp![abd,lwF,adX]at N⊢;rw[←N];rfl
 |known j lk h h1 h2 B N=>simp![abd,lwF,adX]at N⊢;rw[←N];rfl
 |hang j b lk h h1 h2 B U J N=>simp![abd,lwF,adX]at N⊢;rw[←N];rfl
def Say(ks:List Key)(ds:List D)(w:Str->Int):Prop:=ks.length=ds.length/\∀y:Str,(match cZ ks (.inr y)with
 |some j=>ds[j]?
 |none=>some (.int 0))=some (.int (w y))
theorem Px(h:Say ks ds w):Say (h_ ks ds (.inr a) (.int n)).1 (h_ ks ds (.inr a) (.int n)).2 (upv w a n):=by
 obtain⟨Z,h⟩:=h;unfold h_;cases e:cZ ks (.inr a)with
 |some j=>
  refine⟨by simpa using Z,λy=>?_⟩;have F:=pM e;by_cases U:y=a
  .subst U
   simp![e,upv,Zz,abO];rw[Zd 1.11]
  .have:=h y
   cases e2:cZ ks (.inr y)with
   |none=>simp![e2]at this⊢;rw[this];simp[upv,U]
   |some i=>
    have B:j≠i:=λz=>by
     subst z;obtain⟨_,I,_⟩:=ZM.mp e;obtain⟨_,O,_⟩:=ZM.mp e2;have I:ks[j]=Zx a:=by simpa using I
     have O:ks[j]=Zx y:=by simpa using O
     rw[I]at O;exact U (by cases O;rfl)
    simp![e2]at this⊢;rw[List.getElem?_set_ne B,this];simp[upv,U]
 |none=>
  refine⟨by simp[Z],λy=>?_⟩;by_cases U:y=a
  .subst U
   simp![JN e,upv,Zz];simp[Z]
  .have:=h y
   have q:cZ (ks++[Zx a]) (.inr y)=cZ ks (.inr y):=by
    unfold cZ;rw[ae5];cases ks.findIdx? (λx=>decide (x=(Zx y:Key)))with
    |some i=>rfl
    |none=>
     simp[aaX];exact λz=>U z.symm
   simp![q];cases e2:cZ ks (.inr y)with
   |none=>simp![e2]at this⊢;rw[this];simp[upv,U]
   |some i=>
    have hi:=pM e2;simp![e2]at this⊢;rw[ZC 1.11,this];simp[upv,U]
theorem Gv:∀(l:List (Str×Int)){ks:List Key}{ds:List D}{w:Str->Int},Say ks ds w->Say (eU ks ds (l.map λp=>((Zx p.1:Key),D.int p.2))).1 (eU ks ds (l.map λp=>((Zx p.1:Key),D.int p.2))).2 (l.foldl (λw p=>upv w p.1 p.2) w)
 |[],_,_,_,h=>h
 |p::r,_,_,_,h=>by
  rw[YT,eU,afZ];exact Gv r (Px h)
theorem Wz{l:List (Str×Int)}(Y:l.length<=1000):∃ks ds,oG [.lst .own (l.map pD)]=some (.dct .own ks ds)/\Say ks ds (lwF l)/\∀e∈ds,∃i:Int,e= .int i:=by
 refine⟨_,_,?_,Gv l (ks:=[]) (ds:=[]) ⟨rfl,λy=>rfl⟩,o5 (λd=>∃i:Int,d= .int i) (by simp) (λq D=>by obtain⟨p,_,rfl⟩:=Zf.mp D;exact⟨p.2,rfl⟩)⟩;simp![oG];rw[Zd ⟨rfl,by simp;omega⟩,yN];rfl
variable{f:En->Option (List D)}
theorem YH{j:Int}(h:f ρ=some [.int j])(h1: -(2 ^ 62)<=j)(h2:j<2 ^ 62):mR f ρ=some (true,qi 0 j.toNat):=by
 unfold mR;rw[h];simp![YK];rw[Zd ⟨h1,h2⟩]
theorem Uz{n:Nat}(h:f ρ=some [.int n])(hn:n<=100):mR f ρ=some (true,qi 0 n):=by
 have h1:(n:Int)<=100:=by omega
 have:=YH h (adn (by decide) (Int.natCast_nonneg n)) (Int.lt_of_le_of_lt h1 (by decide));rw[acN]at this;exact this
theorem T3:cutD ds none (some (-1))=ds.dropLast:=by
 rcases aeR ds with rfl|⟨l,d,rfl⟩
 .rfl
 .rw[aeS,J_];simp
variable{l:List Str}
theorem Qw:gNe (.lst m (l.map D.str)) (.lst .own [])=some (.bl (!l.isEmpty)):=by
 unfold gNe;rw[Zd ⟨by rw[xH];exact yo l,rfl,.lst (by simp[dtL,dt])⟩];cases l with
 |nil=>rfl
 |cons j r=>rfl
theorem JQ(l:List gU):az (l.map dcD)=true:=bV λd hd=>by obtain⟨x,_,rfl⟩:=Zf.mp hd;exact(pH x).1
theorem Mj(l:List gU):aB (l.map dcD)=true:=bQ λd hd=>by obtain⟨x,_,rfl⟩:=Zf.mp hd;exact(pH x).2.1
theorem Ms(b:Bool)(l:List gU):cU b (l.map dcD)=l.map dcD:=by rw[dG,Zj];exact aak λd _=>(pH d).2.2.1 b
theorem SM(l:List gU):g_ (l.map dcD)=l.map dcD:=by rw[jV,Zj];exact aak λd _=>(pH d).2.2.2.2.1
theorem wK{f:D->D}(h:∀e∈ds,f e=e):ds.map f=ds:=by
 conv=>rhs;rw[←afJ ds]
 exact aak h
theorem QJ:∀l:List gU,gh (tpN 0) (eB (e2 gEq (e2 gIx 1.18 1.27) (eC (.str "join")))) (eSl 1.18 (gq (eC (.int 1))) gB) [none] (l.map dcD)=some ((l.filterMap jtO).map jD):=λl=>by
 rw[←Dd]
 induction l with
 |nil=>rfl
 |cons d r N=>
  obtain⟨Z,V,z,_⟩:=pH d;rw[YT,gh,N];cases F:isJ d with
  |true=>simp[tpN,eB,isB,e2,eC,ao,eSl,gB,gq,oZ,z,yu,F,eq_str,R4 F,aan]
  |false=>simp[tpN,eB,isB,e2,eC,ao,z,yu,F,eq_str,aan,show ¬(("weigh":Str)="join")by decide]
theorem Wl:∀l:List gU,gh (tpN 0) (eB (e2 gEq (e2 gIx 1.18 1.27) (eC (.str "weigh")))) (eAp bL (ak (e2 gIx 1.18 (eC (.int 1))) (ak (e2 gIx 1.18 (eC (.int 2))) aK))) [none] (l.map dcD)=some ((l.filterMap wgO).map pD):=λl=>by
 induction l with
 |nil=>rfl
 |cons d r N=>
  obtain⟨Z,V,z,_⟩:=pH d;rw[YT,gh,N];cases d with
  |join a b s h=>simp[tpN,eB,isB,e2,eC,ao,z,yu,isJ,eq_str,show ¬(("join":Str)="weigh")by decide,abq,wgO]
  |weigh a n o=>
   have h1:gIx (dcD (.weigh a n o)) (.int 1)=some (.str a):=rfl;have h2:gIx (dcD (.weigh a n o)) (.int 2)=some (.int n):=rfl;simp[tpN,eB,isB,e2,eC,ao,eAp,ak,aK,bL,z,yu,isJ,eq_str,h1,h2,clean,aD,aC,az,aB,abq,wgO,pD]
structure NmL(NL NV:D)(ns:List Str):Prop where
 v:view false NL=NV
 f:fz NV= .lst .frz (ns.map D.str)
 z:fz NL= .lst .frz (ns.map D.str)
 o:aC NV=true
theorem NmL.own(ns:List Str):NmL (.lst .own (ns.map D.str)) (.lst .brw (ns.map D.str)) ns:=⟨by simp[view,bH,mkV],by simp[fz,eQ,mkF],by simp[fz,eQ,mkF],by simp[aC,bN]⟩
theorem NmL.frz(ns:List Str):NmL 1.15 1.15 ns:=⟨by simp[view,bH,mkV],by simp[fz,eQ,mkF],by simp[fz,eQ,mkF],by simp[aC,bN]⟩
theorem VR{NV:D}(V:fz NV= .lst .frz (ns.map D.str))(q:Iv ns js t R O)(Y:ns.length<=20)(z:js.length<=1000):∃es,bI eX [NV,.lst .own (js.map jD)]=some (bD .own es)/\Wkd ns js t R O es:=by
 obtain⟨_,e,es,rfl,h1,h2,B⟩:=Ut q.j Y z;refine⟨es,?_,h1,h2,B⟩;have N:bj (bD .own es)=true:=by
  have:∀l:List Bh,bB (l.map bvD)=true:=λl=>by induction l<;>simp_all [bB,bj,bvD]
  simp[bD,bj,this]
 simp![bI,fzL,V,fz,sI,mkF,e,YK,N];simp
theorem Vs(q:Iv ns js t R O)(I:Wkd ns js t R O es)(J:x∈ns):gh (tpN 0) (eB (e2 gEq (e2 gIx (e2 gIx 1.20 1.18) 1.27) (e2 gIx (e2 gIx 1.20 (ao false 2)) 1.27))) 1.18 [none,some (bD .own es),some (.str x)] (ns.map D.str)=some ((ns.filter λy=>decide (R y=R x)).map D.str):=by
 obtain⟨j,ex,F,rfl⟩:=JX (I.2.2 x J);have h2:=Hu (m:=.brw) I.1.nd F;have Z:∀b:Bh,gIx (bvD b) (.int 0)=some (.str b.2.1):=λb=>rfl;have:∀l:List Str,(∀y∈l,y∈ns)->gh (tpN 0) (eB (e2 gEq (e2 gIx (e2 gIx 1.20 1.18) 1.27) (e2 gIx (e2 gIx 1.20 (ao false 2)) 1.27))) 1.18 [none,some (bD .own es),some (.str ex.1)] (l.map D.str)=some ((l.filter λy=>decide (R y=R ex.1)).map D.str):=λl=>by
  induction l with
  |nil=>intro _;rfl
  |cons y r N=>
   intro h;obtain⟨i,Y,hi,U⟩:=JX (I.2.2 y (h y (by simp)));subst U;have h1:=Hu (m:=.brw) I.1.nd hi;have B:=Uk q I (Zo hi) (Zo F);have V:(Y.2.1=ex.2.1)↔R Y.1=R ex.1:=by
    unfold stp at B;by_cases a:R Y.1=R ex.1<;>by_cases b:Y.2.1=ex.2.1<;>simp[a,b]at B⊢
   rw[YT,gh,N λz hz=>h z (by simp[hz])];by_cases a:R Y.1=R ex.1
   .simp[tpN,eB,isB,e2,eC,ao,view,Nu,h1,h2,Z,eq_str,V.mpr a,clean,aD,aC,aan,a]
   .simp[tpN,eB,isB,e2,eC,ao,view,Nu,h1,h2,Z,eq_str,show ¬Y.2.1=ex.2.1 from λz=>a (V.mp z),clean,aD,aC,aan,a]
 exact this ns λ_ h=>h
theorem XJ(h:Say ks ds w)(hd:∀e∈ds,∃i:Int,e= .int i):gh (tpN 0) eTT (eMt Ds 1.20 (ak 1.18 (ak 1.27 aK))) [none,some (.dct .own ks ds)] (l.map D.str)=some ((l.map w).map D.int):=by
 have z:cU false ds=ds:=by rw[dG];exact wK λd q=>by obtain⟨i,rfl⟩:=hd d q;rfl
 induction l with
 |nil=>rfl
 |cons y r N=>
  have U:=h.2 y;have B:Ds (.dct .brw ks ds) [.str y,.int 0]=some (.int (w y)):=by
   simp![Ds,dh,YK];rw[Zk (by decide)];exact U
  rw[YT,gh,N];simp[tpN,eTT,eMt,ak,aK,eC,ao,view,mkV,z,B,clean,aD,aC]
theorem SX{x:Int}:bI cV [.int x,.int x]=some (.bl true):=by
 have:cV [.int x,.int x]=some (.bl true):=Th;simp![bI,fzL,fz,this,YK,bj];simp
def LwP(S N:D)(ns:List Str)(t:Int)(ks:List Key)(ds:List D)(a b:Int)(s:Sk)(B V U q J I z F:Option D):En:=[some S,some (tp a b),some N,some (.int t),some (.dct .own ks ds),some (skD .own ns s),some (.lst .own (s.dn.map dcD)),B,V,U,q,J,I,z,F]
def LwI(S:D)(ns:List Str)(t:Int)(ks:List Key)(ds:List D)(k:Nat)(ρ:En):Prop:=∃(N NV:D)(a b:Int)(s:Sk)(R:Str->Str)(O:Str->Int)(B V U q J I z F:Option D),ρ=LwP S N ns t ks ds a b s B V U q J I z F/\NmL N NV ns/\0<=a/\Gd ns t s R O/\s.dn.length<=k
def LnI(S:D)(ns:List Str)(t:Int)(ks:List Key)(ds:List D)(a b:Int)(s:Sk)(B V U q:Option D)(es:List Bh)(W:D)(k:Nat)(ρ:En):Prop:=∃z F:Option D,ρ=LwP S 1.15 ns t ks ds a b s B V U q (some (bD .own es)) (some W) z F
theorem K_(zs:List Int)(hz:zs.length<=63):m6 [.lst .scr (zs.map D.int)]=some (.bl true):=by
 apply Wp.eq;have S0:∀b,view b (D.lst .scr (zs.map D.int))= .lst .scr (zs.map D.int):=λb=>by cases b<;>simp[view,m_,mkV]
 have S1:fz (D.lst .scr (zs.map D.int))= .lst .scr (zs.map D.int):=by simp[fz,vd,mkF]
 have S2:aD (D.lst .scr (zs.map D.int))=true/\aC (D.lst .scr (zs.map D.int))=true:=by simp[aD,aC,pW,pR]
 have S3:fQ [.lst .scr (zs.map D.int)]=some (.int zs.length):=by simp[fQ]
 have a6:∀(k:Int)(Q:D->Prop),0<=k->k<=100->(∀a b,0<=a->Q (tp a b))->Wp (dJ [.lst .scr (zs.map D.int),.int k]) Q:=λk Q h1 h2 q=>Wp.mono (Vo h1 h2) λd ⟨a,b,e,h⟩=>e▸q a b h;generalize hS:D.lst .scr (zs.map D.int)=S at S0 S1 S2 S3 a6;simp_arith![m6,fnP];refine aX (λρ=>∃a b:Int,0<=a/\ρ=[some S,some (tp a b),none,none,none,none,none,none,none,none,none,none,none,none,none]) 1.25 ?_
 .simp_arith[sEx,aG,aR,aJ,S0,S1,S2]
  refine a6 0 _ 1.11 1.11 λa b Y=>?_;simp[aD,aC,az,aB,aN];exact q _ ⟨a,b,Y,rfl⟩
 rintro _ ⟨a,b,Y,rfl⟩;refine aX (λρ=>∃(ns:List Str)(a b:Int),(∀x∈ns,x∈lw)/\ns.Nodup/\ns.length<=20/\0<=a/\ρ=[some S,some (tp a b),some (.lst .own (ns.map D.str)),none,none,none,none,none,none,none,none,none,none,none,none]) 1.25 ?_
 .simp_arith[sEx,aG,aR,aJ]
  refine Wp.mono (Qc Y) ?_;rintro _ ⟨ns,a',b',rfl,h1,h2,h3,U⟩;simp_arith[sEx,aG,aR,aJ,bW,bN];exact q _ ⟨ns,a',b',h1,h2,h3,U,rfl⟩
 clear Y a b;rintro _ ⟨ns,a,b,hn,nd,hl,Y,rfl⟩;refine aX (λρ=>∃(t a b:Int),0<=t/\t<=1000/\0<=a/\ρ=[some S,some (tp a b),some (.lst .own (ns.map D.str)),some (.int t),none,none,none,none,none,none,none,none,none,none,none]) 1.25 ?_
 .simp_arith[sEx,aG,aR,aJ]
  refine Wp.mono (Ub Y) ?_;rintro _ ⟨t,a',b',rfl,h1,h2,h3⟩;simp_arith[sEx,aG,aR,aJ];exact q _ ⟨t,a',b',h1,h2,h3,rfl⟩
 clear Y a b;rintro _ ⟨t,a,b,t1,t2,Y,rfl⟩;refine aX (λρ=>∃(ks:List Key)(ds:List D)(a b:Int),Dm ns ks ds/\0<=a/\ρ=[some S,some (tp a b),some (.lst .own (ns.map D.str)),some (.int t),some (.dct .own ks ds),none,none,none,none,none,none,none,none,none,none]) 1.25 ?_
 .simp_arith[sEx,aG,aR,aJ,bH,eQ,bN,bW]
  refine Wp.mono (QZ Y hl) ?_;rintro _ ⟨ks,ds,a',b',rfl,h1,h2⟩;have d3:aD (D.dct .own ks ds)=true/\aC (D.dct .own ks ds)=true:=by
   simp[aD,aC,bV λd hd=>by obtain⟨i,rfl⟩:=h1.1 d hd;rfl,bQ λd hd=>by obtain⟨i,rfl⟩:=h1.1 d hd;rfl]
  have c6:bj (D.dct .own ks ds)=true:=by
   have:∀l:List D,(∀e∈l,∃i:Int,e= .int i)->bB l=true:=λl=>by
    induction l with
    |nil=>intro _;rfl
    |cons x r ih=>intro h;obtain⟨i,rfl⟩:=h x (by simp);rw[bB,ih λe V=>h e (by simp[V])];rfl
   simp[bj,this ds h1.1]
  have c0:az ds=true/\aB ds=true:=by simpa[aD,aC]using d3
  have c2:bB ds=true:=by simpa[bj]using c6
  simp_arith[sEx,aG,aR,aJ,c0,c2,bB,bj];exact q _ ⟨ks,ds,a',b',h1,h2,rfl⟩
 clear Y a b;rintro _ ⟨ks,ds,a,b,hD,Y,rfl⟩;refine aX (λρ=>ρ=[some S,some (tp a b),some (.lst .own (ns.map D.str)),some (.int t),some (.dct .own ks ds),some (skD .own ns (sk0 t ns)),none,none,none,none,none,none,none,none,none]) 1.25 ?_
 .have hmk:=Ti (t:=t) hn nd hl
  have d1:uh "Stack" bF [.lst .own (ns.map D.str),.int t]=some (skD .own ns (sk0 t ns)):=by
   have hi:=Jp (t:=t) hn nd hl;simp![uh,fzL,fz,eQ,mkF,hi,YK]at hmk⊢;simpa[az,aB,aD,aC,bW,bN,Xj]using hmk
  simp_arith[sEx,aG,aR,aJ,bH,Fe,d1,Ys];exact q _ rfl
 rintro _ rfl;refine aX (λρ=>ρ=LwP S (.lst .own (ns.map D.str)) ns t ks ds a b (sk0 t ns) none none none none none none none none) 1.25 ?_
 .simp_arith[sEx,aG,aR,aJ,dN]
  exact q _ rfl
 rintro _ rfl;have b2:0<=t/\t<=1000:=⟨t1,t2⟩;have c8:cU false ds=ds/\fzL ds=ds/\az ds=true/\aB ds=true:=by
  refine⟨?_,?_,bV λd hd=>by obtain⟨i,rfl⟩:=hD.1 d hd;rfl,bQ λd hd=>by obtain⟨i,rfl⟩:=hD.1 d hd;rfl⟩
  .rw[dG];exact wK λd hd=>by obtain⟨i,rfl⟩:=hD.1 d hd;rfl
  .rw[jP];exact wK λd hd=>by obtain⟨i,rfl⟩:=hD.1 d hd;rfl
 refine aX (λ_=>True) 1.25 ?_
 .obtain⟨N,hN,hN2,hN3⟩:∃N:Nat,(10+(if(zs.length:Int)<30 then(zs.length:Int)else 30))*(if(!ns.isEmpty)=true then 1 else 0)=(N:Int)/\N<=40/\(N≠0->ns≠[]):=by
   cases ns with
   |nil=>exact⟨0,by simp,by omega,by simp⟩
   |cons x r=>
    refine⟨(10+(if(zs.length:Int)<30 then(zs.length:Int)else 30)).toNat,?_,?_,by simp⟩
    .simp
     split<;>omega
    .split<;>omega
  have hr:mR (ak (e2 mq (e2 fG (eC (.int 10)) (eAp lF (ak (eC (.int 30)) (ak (eAp fQ (ak 1.18 aK)) aK)))) (eAp qT (ak (e2 gNe (ao false 2) (eAp dN aK)) aK))) aK) (LwP S (.lst .own (ns.map D.str)) ns t ks ds a b (sk0 t ns) none none none none none none none none)=some (true,qi 0 N):=Uz (by
   rw[←hN];simp[LwP,ak,aK,eAp,e2,eC,ao,S0,S3,lF,fG,dN,view,bH,Qw,qT,mq];rw[Zd (.inl ⟨by split<;>omega,by split<;>omega⟩)];rfl) 1.11
  simp![jg,hr,YK];refine oN (LwI S ns t ks ds) ⟨_,_,a,b,sk0 t ns,id,λ_=>0,_,_,_,_,_,_,_,_,rfl,NmL.own ns,Y,.nil 0,by simp[sk0]⟩ ?_ (λρ _=>q ρ trivial);clear hr Y a b q;rintro k d ρ I ⟨NL,NV,a,b,s,R,O,x7,x8,x9,a0,a8,a7,a2,a3,rfl,a4,Y,hG,Z⟩;obtain⟨d5,rfl⟩:=Qd I;have c4:=hN3 1.11;simp![LwP,tgN,clean,aD,aC,Bool.and_self,Zz,aN,abb,acG];refine aX (λρ=>∃a b:Int,0<=a/\ρ=LwP S NL ns t ks ds a b s (some (.int k)) x8 x9 a0 a8 a7 a2 a3) 1.25 ?_
  .simp_arith[sEx,aG,aR,aJ,S0,S1,S2,fG]
   refine a6 _ _ 1.11 1.11 λa b Y=>?_;simp[aD,aC,az,aB,aN];exact q _ ⟨a,b,Y,rfl⟩
  clear Y a b;rintro _ ⟨a,b,Y,rfl⟩;refine aX (λρ=>∃(w a b:Int),0<=a/\ρ=LwP S NL ns t ks ds a b s (some (.int k)) (some (.int w)) x9 a0 a8 a7 a2 a3) 1.25 ?_
  .simp_arith[sEx,aG,aR,aJ,LwP]
   refine jl Y 1.11 1.11 λr a1 b1 p1 q1 F=>?_;simp_arith[sEx,aG,aR,aJ];exact q _ ⟨r,a1,b1,F,rfl⟩
  clear Y a b;rintro _ ⟨w,a,b,Y,rfl⟩;refine aX (λρ=>∃(j:Jt)(a b:Int),j.1∈ns/\j.2.1∈ns/\0<=a/\ρ=LwP S NL ns t ks ds a b s (some (.int k)) (some (.int w)) (some (jD j)) a0 a8 a7 a2 a3) 1.25 ?_
  .simp_arith[sEx,aG,aR,aJ,LwP,a4.v,a4.f,a4.o,c8]
   refine Wp.mono (Hf Y c4 hl b2 hD) ?_;rintro _ ⟨j,a',b',rfl,j1,j2,b3⟩;simp_arith[sEx,aG,aR,aJ,jD,bj,bB];exact q _ ⟨j,a',b',j1,j2,b3,rfl⟩
  clear Y a b;rintro _ ⟨j,a,b,j1,j2,Y,rfl⟩;have b7:s.dn.length<1000:=by omega
  refine aX (λρ=>∃(s':Sk)(R':Str->Str)(O':Str->Int)(a b:Int)(a0:Option D),0<=a/\Gd ns t s' R' O'/\s'.dn.length<=k+1/\ρ=LwP S NL ns t ks ds a b s' (some (.int k)) (some (.int w)) (some (jD j)) a0 a8 a7 a2 a3) 1.25 ?_
  .by_cases w0:w=0
   .subst w0
    simp_arith[sEx,aG,aR,aJ,LwP,eq_int,qp,rG (m:=.own) (by decide) (show eF jW "back"=none by decide)];refine Wp.mono (UJ nd hG hl) ?_;rintro _ ⟨v,s',R',O',rfl,e,o⟩;simp_arith[sEx,aG,aR,aJ,Ms,ie,gSl,T3,←List.map_dropLast,JQ,Mj];rw[←e];exact q _ ⟨s',R',O',a,b,a0,Y,o,by rw[e,aeZ];omega,rfl⟩
   by_cases w1:w<3
   .simp_arith[sEx,aG,aR,aJ,LwP,eq_int,w0,w1,gLt]
    refine Wp.mono (Ol Y) ?_;rintro _ ⟨n,a',b',rfl,_,b3⟩;simp_arith[sEx,aG,aR,aJ,jD,gIx,atI,ixN,qp,rG (m:=.own) (by decide) (show eF jW "weigh"=none by decide)];refine Wp.mono (RP nd hG hl j1 b7) ?_;rintro _ ⟨s',rfl,e,ok⟩;simp_arith[sEx,aG,aR,aJ,bL,aV];refine⟨by omega,?_⟩;rw[show Zt dcD s.dn++[D.tup [.str "weigh",.str j.1,.int n]]=s'.dn.map dcD by rw[e,Zr];rfl];exact q _ ⟨s',R,O,a',b',_,b3,ok,by rw[e];simp;omega,rfl⟩
   .simp_arith[sEx,aG,aR,aJ,LwP,eq_int,w0,w1,gLt,jD,gIx,atI,ixN,qp,rG (m:=.own) (by decide) (show eF jW "join"=none by decide)]
    refine Wp.mono (Vb nd hG b2 hl j1 j2 b7) ?_;rintro _ (⟨v,lk,rfl⟩|⟨wd,kk,hg,s',R',O',rfl,hw,e,ok⟩)
    .simp_arith[sEx,aG,aR,aJ,gIx,atI,ixN,ne_str]
     exact q _ ⟨_,R,O,a,b,a0,Y,hG.lk lk,by show s.dn.length<=k+1;omega,rfl⟩
    .simp_arith[sEx,aG,aR,aJ,gIx,atI,ixN,ne_str,hw,bL,fG,aV]
     refine⟨by omega,?_⟩;rw[show Zt dcD s.dn++[D.tup [.str "join",.str j.1,.str j.2.1,.int j.2.2]]=s'.dn.map dcD by rw[e,Zr];rfl];exact q _ ⟨s',R',O',a,b,a0,Y,ok,by rw[e];simp;omega,rfl⟩
  clear hG Z b7 Y a b R O s;rintro _ ⟨s,R,O,a,b,a5,Y,hG,Z,rfl⟩;have hi:=hG.gi nd;have d2:(s.dn.filterMap jtO).length<=1000:=aas (abW _ _) 1.11;have c9:(s.dn.filterMap wgO).length<=1000:=aas (abW _ _) 1.11;obtain⟨es,e,I⟩:=VR (NV:=NV) a4.f hi.i hl d2;refine aX (λρ=>ρ=LwP S NL ns t ks ds a b s (some (.int k)) (some (.int w)) (some (jD j)) a5 (some (bD .own es)) a7 a2 a3) 1.25 ?_
  .simp[LwP,cN,eAp,ak,aK,ao,a4.v,fV,itS,cL,view,Ms,mkV,clean,aD,aC,JQ,Mj,SM,QJ,nO,nW,e,Yl,gF,show s.dn.length<=1000000 by omega,aZ,fB,aN,tgN]
   exact q _ rfl
  rintro _ rfl;obtain⟨kw,dw,eW,b0,b6⟩:=Wz c9;rw[←hG.ws]at b0;have c5:az dw=true/\aB dw=true:=⟨bV λd hd=>by obtain⟨i,rfl⟩:=b6 d hd;rfl,bQ λd hd=>by obtain⟨i,rfl⟩:=b6 d hd;rfl⟩;refine aX (λρ=>ρ=LwP S NL ns t ks ds a b s (some (.int k)) (some (.int w)) (some (jD j)) a5 (some (bD .own es)) (some (.dct .own kw dw)) a2 a3) 1.25 ?_
  .have hpd:az ((s.dn.filterMap wgO).map pD)=true/\aB ((s.dn.filterMap wgO).map pD)=true:=⟨bV λd hd=>by obtain⟨x,_,rfl⟩:=Zf.mp hd;rfl,bQ λd hd=>by obtain⟨x,_,rfl⟩:=Zf.mp hd;rfl⟩
   simp[LwP,cN,eAp,ak,aK,ao,fV,itS,cL,view,Ms,mkV,clean,aD,aC,JQ,Mj,SM,Wl,hpd,eW,c5,gF,show s.dn.length<=1000000 by omega,aZ,fB,aN,tgN];exact q _ rfl
  rintro _ rfl;have a9:cL 1.15=some (true,ns.map D.str):=by simp[cL,clean,aD,aC,bW,bN,ir]
  simp[sFz,jU,LwP,a4.z,jg,itS,ao,view,bH,mkV,a9,aZ,aN];refine oN (LnI S ns t ks ds a b s (some (.int k)) (some (.int w)) (some (jD j)) a5 es (.dct .own kw dw)) ⟨a2,a3,rfl⟩ ?_ (λρ ⟨d0,d4,e⟩=>⟨_,_,a,b,s,R,O,_,_,_,_,_,_,_,_,e,NmL.frz ns,Y,hG,Z⟩);rintro i d ρ b8 ⟨d0,d4,rfl⟩;rw[List.getElem?_map]at b8;cases J:ns[i]? with
  |none=>simp[J]at b8
  |some x=>
   obtain rfl:D.str x=d:=by simpa[J]using b8
   have b4:=Zo J;have b5:=Vs hi.i I b4;have d6:=ac9 (λy=>decide (R y=R x)) ns;simp[LwP,tgN,aD,aC,clean,aN];refine aX (λρ=>ρ=LwP S 1.15 ns t ks ds a b s (some (.int k)) (some (.int w)) (some (jD j)) a5 (some (bD .own es)) (some (.dct .own kw dw)) (some (.str x)) (some (.lst .own ((ns.filter λy=>decide (R y=R x)).map D.str)))) 1.25 ?_
   .simp[cN,fV,itS,ao,view,bH,mkV,a9,gF,b5,show ns.length<=1000000 by omega,aZ,fB,aN,tgN,clean,aD,aC,bW,bN]
    exact q _ rfl
   rintro _ rfl;have hsz:=TQ b2 hi hl 1.11 b4;have c7:=Xi nd hi hl 1.11 b4;refine aX (λρ=>ρ=LwP S 1.15 ns t ks ds a b s (some (.int k)) (some (.int w)) (some (jD j)) a5 (some (bD .own es)) (some (.dct .own kw dw)) (some (.str x)) (some (.lst .own ((ns.filter λy=>decide (R y=R x)).map D.str)))) 1.25 ?_
   .have B:=SX (x:=szR ns R (R x))
    simp![szR]at B hsz;simp[LwP,sIf,lZ,jK,eAp,ak,aK,eMt,ao,m5,view,bH,mkV,hsz,fQ,B,truth,dO,aZ,fB,aN,w_ite];exact q _ rfl
   rintro _ rfl;have c3:=XJ (l:=ns.filter λy=>decide (R y=R x)) b0 b6;have B:=SX (x:=((ns.filter λy=>decide (R y=R x)).map s.ws).sum);have b9:zz [.lst .own (((ns.filter λy=>decide (R y=R x)).map s.ws).map D.int)]=some (.int ((ns.filter λy=>decide (R y=R x)).map s.ws).sum):=by
    simp![zz,vm];simp
   have c1:cL (.lst .brw ((ns.filter λy=>decide (R y=R x)).map D.str))=some (false,(ns.filter λy=>decide (R y=R x)).map D.str):=by simp[cL,clean,aD,aC,bW,bN,ir]
   simp[LwP,sIf,lZ,jK,eAp,ak,aK,eMt,ao,fV,itS,gF,m5,view,bH,mkV,c7,c1,c3,b9,B,show(ns.filter λy=>decide (R y=R x)).length<=1000000 by omega,truth,dO,aZ,fB,aN,w_ite,-List.map_map];exact⟨_,_,rfl⟩
 rintro ρ _;simp_arith[sEx,aG,aR,aJ]
def top(i:Nat):Stmt:=aeo.main.body.getD i (.Pass ⟨0,0,0,0⟩)
local macro_rules
 |`(tactic|trivial)=>`(tactic|exact⟨rfl,by decide +kernel,by decide +kernel,by decide +kernel,rfl,by decide +kernel⟩)
open PySem.W (Frag nsIn fnOf keepIn codeIn mg_of mg_none_of)
abbrev nl0:List Str:=["self","name"]
abbrev nl1:List Str:=["_law_tape_here"]
abbrev nl2:List Str:=["turn","weights","behind","sizes","done","looked"]
abbrev nl3:List Str:=["self"]
abbrev nl4:List Str:=["self","one","other","step"]
abbrev nl5:List Str:=["self","names","turn"]
abbrev nl6:List Str:=["self","chain"]
abbrev nl7:List Str:=["_law_tape_here","_law_names_here"]
abbrev nl8:List Str:=["thing"]
abbrev nl9:List Str:=["self","name","n"]
abbrev Ib:List Str:=["group","weights"]
abbrev N8:List Str:=["there","thing","place"]
abbrev JG:List Str:=["self","hung"]
abbrev Nq:List Str:=["there","name"]
abbrev Ld:List Str:=["_law_found","_law_due"]
abbrev Jj:List Str:=["names","joinings","name"]
abbrev N6:List Str:=["turn","n"]
abbrev NB:List Str:=["self","one","other"]
abbrev Jr:List Str:=["_law_script","_law_tape_here","_law_names_here","_law_turn_here","_law_marks_here","_law_held","_law_done","_law_k","_law_way","_law_joining_here","_law_n","_law_found","_law_weights","_law_name","_law_mine"]
abbrev Q_:List Str:=["_law_script","_law_k"]
abbrev Rm:List Str:=["_law_tape_here","_law_many"]
abbrev Ql:List Str:=["_law_tape_here","_law_names_here","_law_marks_here","_law_turn_here"]
abbrev P_:List Str:=["_law_name","_law_joinings"]
abbrev QS:List Str:=["_law_names_here","_law_joinings"]
noncomputable abbrev Ru:List Str:=["leading","start"]
abbrev QF:List Str:=["names","joinings"]
abbrev Rt:List Str:=["_law_script"]
abbrev Ov:List Str:=["_law_deed"]
abbrev Xy:List Str:=["_law_name","_law_tape_here"]
abbrev Wj:List Str:=["names","joinings","leading","number","one","other","step"]
abbrev Xf:List Str:=["_law_other","_law_found","_law_name"]
abbrev ob0:Nat->Bool:=λi=>i==0
abbrev jc(P:ZL)(w:World)(K:Frag)(mg:Str->Option Value)(base:Heap):Prop:=Cal P w K mg base 1 "_law_draw" Rm (spI ⟨K,mg⟩ ob0 ob0 aP)
abbrev nq(P:ZL)(w:World)(K:Frag)(mg:Str->Option Value)(base:Heap):Prop:=Cal P w K mg base 2 "_law_far" nl1 (spI ⟨K,mg⟩ ob0 ob0 dW)
abbrev xY(P:ZL)(w:World)(K:Frag)(mg:Str->Option Value)(base:Heap):Prop:=Cal P w K mg base 1 "is_name" nl8 (spP ⟨K,mg⟩ jk)
abbrev um(P:ZL)(w:World)(K:Frag)(mg:Str->Option Value)(base:Heap):Prop:=Cal P w K mg base 2 "check_new" N8 (spP ⟨K,mg⟩ fX)
abbrev qH(P:ZL)(w:World)(K:Frag)(mg:Str->Option Value)(base:Heap):Prop:=Cal P w K mg base 3 "check_names" ["things"] (spP ⟨K,mg⟩ eE)
abbrev qy(P:ZL)(w:World)(K:Frag)(mg:Str->Option Value)(base:Heap):Prop:=Cal P w K mg base 1 "_law_beside" P_ (spP ⟨K,mg⟩ dH)
abbrev iK(P:ZL)(w:World)(K:Frag)(mg:Str->Option Value)(base:Heap):Prop:=Cal P w K mg base 1 "check_there" Nq (spP ⟨K,mg⟩ bM)
abbrev uE(P:ZL)(w:World)(K:Frag)(mg:Str->Option Value)(base:Heap):Prop:=Cal P w K mg base 1 "ways_from" Ru (spP ⟨K,mg⟩ dU)
abbrev oK(P:ZL)(w:World)(K:Frag)(mg:Str->Option Value)(base:Heap):Prop:=Cal P w K mg base 1 "ends_by_name" QF (spP ⟨K,mg⟩ cQ)
abbrev rP(P:ZL)(w:World)(K:Frag)(mg:Str->Option Value)(base:Heap):Prop:=Cal P w K mg base 2 "class_with" Jj (spP ⟨K,mg⟩ fj)
abbrev BX(P:ZL)(w:World)(K:Frag)(mg:Str->Option Value)(base:Heap):Prop:=Cal P w K mg base 1 "sum_in" Ib (spP ⟨K,mg⟩ gO)
abbrev tM(P:ZL)(w:World)(K:Frag)(mg:Str->Option Value)(base:Heap):Prop:=Cal P w K mg base 1 "counted" N6 (spP ⟨K,mg⟩ d9)
abbrev uJ(P:ZL)(w:World)(K:Frag)(mg:Str->Option Value)(base:Heap):Prop:=Cal P w K mg base 1 "_law_tape" Q_ (spP ⟨K,mg⟩ dJ)
abbrev rY(P:ZL)(w:World)(K:Frag)(mg:Str->Option Value)(base:Heap):Prop:=Cal P w K mg base 2 "_law_names" nl1 (spI ⟨K,mg⟩ ob0 ob0 fZ)
abbrev ug(P:ZL)(w:World)(K:Frag)(mg:Str->Option Value)(base:Heap):Prop:=Cal P w K mg base 2 "_law_turn" nl1 (spI ⟨K,mg⟩ ob0 ob0 gG)
abbrev q9(P:ZL)(w:World)(K:Frag)(mg:Str->Option Value)(base:Heap):Prop:=Cal P w K mg base 3 "_law_marks" nl7 (spI ⟨K,mg⟩ ob0 ob0 gj)
abbrev oR(P:ZL)(w:World)(K:Frag)(mg:Str->Option Value)(base:Heap):Prop:=Cal P w K mg base 3 "_law_joining" Ql (spI ⟨K,mg⟩ ob0 ob0 dZ)
abbrev uA(P:ZL)(w:World)(K:Frag)(mg:Str->Option Value)(base:Heap):Prop:=Cal P w K mg base 2 "_law_walk" QS (spP ⟨K,mg⟩ eX)
abbrev uw(P:ZL)(w:World)(K:Frag)(mg:Str->Option Value)(base:Heap):Prop:=Cal P w K mg base 1 "_law_same" Ld (spP ⟨K,mg⟩ cV)
noncomputable abbrev jA:Stmt:=top 24
noncomputable abbrev ju:Stmt:=top 25
noncomputable abbrev jb:Stmt:=top 26
noncomputable abbrev jz:Stmt:=top 27
noncomputable abbrev lq:Stmt:=top 28
noncomputable abbrev g8:Stmt:=top 30
noncomputable abbrev jL:Stmt:=top 10
noncomputable abbrev jd:Stmt:=top 11
noncomputable abbrev gJ:Stmt:=top 12
noncomputable abbrev cH:Stmt:=inClass (top 22) 0
noncomputable abbrev gP:Stmt:=top 29
noncomputable abbrev iz:Stmt:=top 32
noncomputable abbrev jF:Stmt:=top 31
noncomputable abbrev gn:Stmt:=inClass (top 22) 3
noncomputable abbrev iG:Stmt:=inClass (top 22) 5
noncomputable abbrev gK:Stmt:=top 13
noncomputable abbrev gH:Stmt:=inClass (top 22) 4
noncomputable abbrev jJ:Stmt:=top 37
noncomputable abbrev gM:Stmt:=inClass (top 22) 8
noncomputable abbrev eZ:Stmt:=inClass (top 22) 15
noncomputable abbrev lC:Stmt:=top 2
noncomputable abbrev je:Stmt:=top 18
noncomputable abbrev eG:Stmt:=top 17
noncomputable abbrev iD:Stmt:=top 20
noncomputable abbrev di:Stmt:=inClass (top 22) 7
noncomputable abbrev dR:Stmt:=inClass (top 22) 13
noncomputable abbrev gf:Stmt:=inClass (top 22) 16
noncomputable abbrev k_:Stmt:=top 15
noncomputable abbrev eO:Stmt:=inClass (top 22) 9
noncomputable abbrev gQ:Stmt:=inClass (top 22) 10
noncomputable abbrev ig:Stmt:=inClass (top 22) 2
noncomputable abbrev ik:Stmt:=inClass (top 22) 1
noncomputable abbrev mG:Stmt:=top 38
structure Blt(mg:Str->Option Value):Prop where
 abs:mg "abs"=none
 all:mg "all"=none
 bool_:mg "bool"=none
 dict:mg "dict"=none
 enumerate:mg "enumerate"=none
 int_:mg "int"=none
 isinstance:mg "isinstance"=none
 len:mg "len"=none
 list_:mg "list"=none
 max:mg "max"=none
 min:mg "min"=none
 range:mg "range"=none
 set_:mg "set"=none
 sorted:mg "sorted"=none
 str_:mg "str"=none
 sum:mg "sum"=none
 tuple:mg "tuple"=none
variable{A:aad}
theorem aM(r:gV k A):A.units+1<cLine:=by have:=r.units;omega
theorem Fi(r:gV k A):A.units+2<cLine:=by have:=r.units;omega
section
variable{P:Program}{w:World}{K:Frag}{mg:Str->Option Value}{base:Heap}
theorem uv:bz ["_law_script","_law_k","_law_cell","_law_digits"] Q_ (aA jA):=⟨rfl,rfl,rfl,by decide +kernel,rfl,by decide +kernel,by decide +kernel⟩
theorem Cp{f:Addr}{fd:ZP}(F:Fun K "_law_tape" "_law_tape" jA f fd)(B:Blt mg):dD P w K mg base CX0 1 f fd Q_ (spP ⟨K,mg⟩ dJ):=by
 have nd:∀_:Unit,_:=λ_=>uv.nd;refine okP (k:=0) (ob:=(λi=>false)) (Pr:=λ_=>false) F uv λZ A outer s H E O=>?_;exact(au (cJ 2 nd aF)
  (au (cO (bG Af 1.22 (bJ jO (λ_=>rfl) (λ_=>B.len) acb (aa 1.24 aq))) (aL (cJ 2 nd (bU 1.14 1.24 1.22))) bT)
  (au (cJ 3 nd (cG qU (bJ Ft (λ_=>rfl) (λ_=>B.abs) boot_abs (aa (aj false 2) aq)) (mD GK (λ_=>rfl) (λ_=>B.int_) boot_int (aa (zR W7 (bJ Ft (λ_=>rfl) (λ_=>B.abs) boot_abs (aa (aj false 2) aq)) (cG tK aF aF)) aq))))
  (aL (cF (l_ (aa (aj false 3) (aa (cG pC (cG qU (cG pC (cG gZ (cG gZ (aj false 2) (cG qU aF 1.22)) aF) aF) aF) aF) aq))))))))
theorem uy:bz ["_law_tape_here","_law_many","_law_found","_law_once"] Rm (aA ju):=⟨rfl,rfl,rfl,by decide +kernel,rfl,by decide +kernel,by decide +kernel⟩
theorem Bm{f:Addr}{fd:ZP}(F:Fun K "_law_draw" "_law_draw" ju f fd)(B:Blt mg):dD P w K mg base CX0 1 f fd Rm (spI ⟨K,mg⟩ ob0 ob0 aP):=by
 have nd:∀_:Unit,_:=λ_=>uy.nd;refine okI (k:=0) (ob:=ob0) (pr:=ob0) F uy λZ A outer s H E O=>?_;exact(au (cO (bG SJ (bU 1.14 (aj true 0) aF) aF) (au (cJ 2 nd (cG pC (bU 1.14 (aj true 0) aF) 1.22))
  (au (kJ (cG yQ (bU 1.14 (aj true 0) aF) 1.22) (lO (lJ (λ_=>aM O)) (bK 0) aF))
  (aL (jm 2)))) bT)
  (au (kJ (cG pC (cG gZ (cG qU (bU 1.14 (aj true 0) aF) aF) aF) aF) (lO (lJ (λ_=>aM O)) (bK 0) aF))
  (au (cJ 3 nd (cG yQ (bU 1.14 (aj true 0) aF) aF))
  (aL (cF (cG pC (cG yQ (cG pC (cG qU (aj false 3) (cG gZ (cG pC (aj false 3) aF) aF)) aF) aF) 1.22))))))
theorem rT:bz ["_law_tape_here","_law_some","_law_way","_law_many","_law_turn_here"] nl1 (aA jb):=⟨rfl,rfl,rfl,by decide +kernel,rfl,by decide +kernel,by decide +kernel⟩
theorem zL{f:Addr}{fd:ZP}(F:Fun K "_law_names" "_law_names" jb f fd)(B:Blt mg)(D:jc P w K mg base):dD P w K mg base CX0 2 f fd nl1 (spI ⟨K,mg⟩ ob0 ob0 fZ):=by
 have nd:∀_:Unit,_:=λ_=>rT.nd;refine okI (k:=1) (ob:=ob0) (pr:=ob0) F rT λZ A outer s H E O=>?_;exact(au (cJ 1 nd (RW HN PySem.F.plainAttrs_str PySem.F.slot_str_split PySem.F.type_str_split jo (aa jo aq)))
  (au (dg 2 nd 1.28)
  (au (dg 3 nd (o4 gZ (cg aF) 1.28))
  (au (cO (bG 1.26 (aj false 2) aF) (aL (dg 3 nd (o4 gZ (cg aF) 1.28))) bT)
  (au (cO (bG 1.26 (aj false 2) aF) (aL (dg 3 nd 1.28)) bT)
  (au (dg 4 nd 1.28)
  (aL (cF (jY slb (cG gZ (jY slb 1.22 (jZ (aj false 4)) jQ) (jY slb 1.22 jQ (jZ (aj false 4)))) jQ (jZ (aj false 3)))))))))))
theorem uq:bz nl1 nl1 (aA jz):=⟨rfl,rfl,rfl,by decide +kernel,rfl,by decide +kernel,by decide +kernel⟩
theorem Bv{f:Addr}{fd:ZP}(F:Fun K "_law_turn" "_law_turn" jz f fd)(B:Blt mg)(D:jc P w K mg base):dD P w K mg base CX0 2 f fd nl1 (spI ⟨K,mg⟩ ob0 ob0 gG):=by
 have nd:∀_:Unit,_:=λ_=>uq.nd;refine okI (k:=1) (ob:=ob0) (pr:=ob0) F uq λZ A outer s H E O=>?_;exact(aL (rE (wY 1.14 (cg (l_ (aa aF (aa aF (aa aF (aa aF (aa aF (aa aF (aa aF (aa aF aq)))))))))) 1.28)))
theorem vW:bz nl1 nl1 (aA lq):=⟨rfl,rfl,rfl,by decide +kernel,rfl,by decide +kernel,by decide +kernel⟩
theorem DK{f:Addr}{fd:ZP}(F:Fun K "_law_far" "_law_far" lq f fd)(B:Blt mg)(D:jc P w K mg base):dD P w K mg base CX0 2 f fd nl1 (spI ⟨K,mg⟩ ob0 ob0 dW):=by
 have nd:∀_:Unit,_:=λ_=>vW.nd;refine okI (k:=1) (ob:=ob0) (pr:=ob0) F vW λZ A outer s H E O=>?_;exact(au (yF (wZ 1.26 1.28 (cg aF)) (aL (rE (wY 1.14 (O6 (lg (cg (cG tK aF aF)) (lg (cg (mQ jH (cG tK aF aF))) (lg (o4 pG (cg (cG pG (cG tK aF aF) aF)) 1.28) (bO (aa aF aq)))))) 1.28))) bT)
  (aL (rE (o4 pG 1.28 (cg aF)))))
theorem sJ:bz nl7 nl7 (aA g8):=⟨rfl,rfl,rfl,by decide +kernel,rfl,by decide +kernel,by decide +kernel⟩
def uK:Scope:={kind:=.function,names:=[(".0",.local),("_law_name",.local),("_law_far",.globalImplicit),("_law_tape_here",.free)],isGenerator:=false,isCoroutine:=false}
theorem xf:(Xy:List Str).Nodup:=by decide +kernel
theorem vq:du (aA g8) nl7 Xy uK [none,some 0]:=by trivial
theorem zV{f:Addr}{fd:ZP}(F:Fun K "_law_marks" "_law_marks" g8 f fd)(B:Blt mg)(V:nq P w K mg base):dD P w K mg base CX0 3 f fd nl7 (spI ⟨K,mg⟩ ob0 ob0 gj):=by
 have nd:∀_:Unit,_:=λ_=>sJ.nd;refine okI (k:=2) (ob:=ob0) (pr:=ob0) F sJ λZ A outer s H E O=>?_;exact(aL (rE (Ec (BJ (λ_=>rfl)) (λ_=>rfl) (λ_=>B.dict) boot_dict (lg (LK [none,some 0] ob0 (λ_=>rfl) (λ_=>rfl) (λ_=>vq) (Ro rfl) (iQ rfl) (fW 1.22) (HQ 0 (λ_=>xf)) j4 (QH (lg (cg 1.24) (lg (eV [1] (λ_=>V) 1.10 (cW 1 (cY (bO aq)))) (bO aq))))) (bO aq)))))
theorem wV:bz nl8 nl8 (aA jL):=⟨rfl,rfl,rfl,by decide +kernel,rfl,by decide +kernel,by decide +kernel⟩
def xF:Scope:={kind:=.function,names:=[(".0",.local),("sign",.local),("LETTERS",.globalImplicit)],isGenerator:=false,isCoroutine:=false}
theorem yG:(["sign"]:List Str).Nodup:=by decide +kernel
theorem zY:du (aA jL) nl8 ["sign"] xF [none]:=by trivial
theorem Dk{f:Addr}{fd:ZP}(F:Fun K "is_name" "is_name" jL f fd)(B:Blt mg)(q:Glb mg "LETTERS" (.str "abcdefghijklmnopqrstuvwxyz"))(z:Glb mg "LONGEST" (.int 8)):dD P w K mg base CX0 1 f fd nl8 (spP ⟨K,mg⟩ jk):=by
 have nd:∀_:Unit,_:=λ_=>wV.nd;refine okP (k:=0) (ob:=(λi=>false)) (Pr:=λ_=>false) F wV λZ A outer s H E O=>?_;exact(au (cO (vf (lH (bJ jw (λ_=>rfl) (λ_=>B.isinstance) ab8 (aa 1.24 (aa (wB (λ_=>rfl) (λ_=>B.str_) boot_str) aq))))) (aL (cF Al)) bT)
  (au (cO (Jy (Lz (bG Af (bJ jO (λ_=>rfl) (λ_=>B.len) acb (aa 1.24 aq)) aF) (FJ (bG SJ (bJ jO (λ_=>rfl) (λ_=>B.len) acb (aa 1.24 aq)) (K7 z))))) (aL (cF Al)) bT)
  (aL (cF (bJ (Rx (λ_=>rfl)) (λ_=>rfl) (λ_=>B.all) boot_all (aa (nJ [none] ob0 (λ_=>rfl) (λ_=>rfl) (λ_=>zY) (iQ rfl) (Qj 1.24) (eY 0 (λ_=>yG)) j4 (zR (Ko (λ_=>aM O)) 1.24 (Kv q))) aq))))))
theorem q_:bz N8 N8 (aA jd):=⟨rfl,rfl,rfl,by decide +kernel,rfl,by decide +kernel,by decide +kernel⟩
theorem yO{f:Addr}{fd:ZP}(F:Fun K "check_new" "check_new" jd f fd)(B:Blt mg)(q:xY P w K mg base):dD P w K mg base CX0 2 f fd N8 (spP ⟨K,mg⟩ fX):=by
 have nd:∀_:Unit,_:=λ_=>q_.nd;refine okP (k:=1) (ob:=(λi=>false)) (Pr:=λ_=>false) F q_ λZ A outer s H E O=>?_;exact(aL (cO (Jy (Lz (vf (lH (gm (λ_=>q) 1.10 (aa 1.22 aq)))) (FJ (bG (Ko (λ_=>aM O)) 1.22 1.24)))) (aL jM) bT))
theorem pB:bz ["things","place","thing"] ["things"] (aA gJ):=⟨rfl,rfl,rfl,by decide +kernel,rfl,by decide +kernel,by decide +kernel⟩
theorem xg{f:Addr}{fd:ZP}(F:Fun K "check_names" "check_names" gJ f fd)(B:Blt mg)(q:um P w K mg base):dD P w K mg base CX0 3 f fd ["things"] (spP ⟨K,mg⟩ eE):=by
 have nd:∀_:Unit,_:=λ_=>pB.nd;refine okP (k:=2) (ob:=(λi=>false)) (Pr:=λ_=>false) F pB λZ A outer s H E O=>?_;exact(aL (lV (λ_=>aaN) (λ_=>rfl) (Ai (λ_=>rfl) (λ_=>B.enumerate) (aa 1.24 aq)) (lY (λ_=>rfl) (b_ (cD 1 nd) (b_ (cD 2 nd) j7))) (aL (mz (cg (gm (λ_=>q) 1.10 (aa (jY slb 1.24 jQ (jZ 1.22)) (aa (aj false 2) (aa 1.22 aq)))))))))
theorem lR:bz nl5 nl5 (aA cH):=⟨rfl,rfl,rfl,by decide +kernel,rfl,by decide +kernel,by decide +kernel⟩
def pI:Scope:={kind:=.function,names:=[(".0",.local),("name",.local)],isGenerator:=false,isCoroutine:=false}
theorem qj:(["name"]:List Str).Nodup:=by decide +kernel
theorem qt:du (aA cH) nl5 ["name"] pI [none]:=by trivial
def oM:Scope:={kind:=.function,names:=[(".0",.local),("name",.local)],isGenerator:=false,isCoroutine:=false}
theorem ql:(["name"]:List Str).Nodup:=by decide +kernel
theorem qm:du (aA cH) nl5 ["name"] oM [none]:=by trivial
theorem rB{f:Addr}{fd:ZP}(F:Fun K "__init__" "Stack.__init__" cH f fd)(B:Blt mg)(q:qH P w K mg base)(z:Kla K mg "Stack" nl2):dD P w K mg base CX0 4 f fd nl5 (spI ⟨K,mg⟩ ob0 ob0 bF):=by
 have nd:∀_:Unit,_:=λ_=>lR.nd;refine okI (k:=3) (ob:=ob0) (pr:=ob0) F lR λZ A outer s H E O=>?_;exact(au (mz (cg (gm (λ_=>q) 1.10 (aa 1.22 aq))))
  (au (lW z (cg (aj false 2)) (bK 0))
  (au (lW z (cg (Ca [none] ob0 (λ_=>rfl) (λ_=>rfl) (λ_=>qt) (iQ rfl) (fW 1.22) (eY 0 (λ_=>qj)) j4 1.24 aF)) (bK 0))
  (au (lW z (cg Eu) (bK 0))
  (au (lW z (cg (Ca [none] ob0 (λ_=>rfl) (λ_=>rfl) (λ_=>qm) (iQ rfl) (fW 1.22) (eY 0 (λ_=>ql)) j4 1.24 aF)) (bK 0))
  (au (lW z (cg (l_ aq)) (bK 0))
  (aL (lW z (cg aF) (bK 0)))))))))
theorem pA:bz ["_law_tape_here","_law_names_here","_law_marks_here","_law_turn_here","_law_one","_law_other","_law_step"] Ql (aA gP):=⟨rfl,rfl,rfl,by decide +kernel,rfl,by decide +kernel,by decide +kernel⟩
theorem vH{f:Addr}{fd:ZP}(F:Fun K "_law_joining" "_law_joining" gP f fd)(B:Blt mg)(D:jc P w K mg base)(V:nq P w K mg base):dD P w K mg base CX0 3 f fd Ql (spI ⟨K,mg⟩ ob0 ob0 dZ):=by
 have nd:∀_:Unit,_:=λ_=>pA.nd;refine okI (k:=2) (ob:=ob0) (pr:=ob0) F pA λZ A outer s H E O=>?_;exact(au (dg 4 nd (wY 1.14 (cg 1.22) (eV [0] (λ_=>D) 1.10 (cW 0 (cY (bO (aa (bJ jO (λ_=>rfl) (λ_=>B.len) acb (aa 1.22 aq)) aq)))))))
  (au (dg 5 nd (wY 1.14 (cg 1.22) (eV [0] (λ_=>D) 1.10 (cW 0 (cY (bO (aa (bJ jO (λ_=>rfl) (λ_=>B.len) acb (aa 1.22 aq)) aq)))))))
  (au (dg 6 nd (o4 gZ (cg (cG pG (bU 1.14 (aj false 2) (aj false 5)) (bU 1.14 (aj false 2) (aj false 4)))) (o4 qU (cg (aj false 3)) (o4 pG 1.28 (cg aF)))))
  (au (yF (wZ 1.26 1.28 (cg aF)) (aL (dg 6 nd (o4 gZ (cg (aj false 6)) (eV [0] (λ_=>V) 1.10 (cW 0 (cY (bO aq))))))) bT)
  (aL (cF (fK (aa (aj false 4) (aa (aj false 5) (aa (bJ (Ni (λ_=>rfl)) (λ_=>rfl) (λ_=>B.max) boot_max (aa (mQ jH (cG tK aF aF)) (aa (bJ (Ak (λ_=>rfl)) (λ_=>rfl) (λ_=>B.min) boot_min (aa (cG tK aF aF) (aa (aj false 6) aq))) aq))) aq))))))))))
theorem qF:bz ["_law_name","_law_joinings","_law_found","_law_one","_law_other","_law_step"] P_ (aA iz):=⟨rfl,rfl,rfl,by decide +kernel,rfl,by decide +kernel,by decide +kernel⟩
theorem xr{f:Addr}{fd:ZP}(F:Fun K "_law_beside" "_law_beside" iz f fd)(B:Blt mg):dD P w K mg base CX0 1 f fd P_ (spP ⟨K,mg⟩ dH):=by
 have nd:∀_:Unit,_:=λ_=>qF.nd;refine okP (k:=0) (ob:=(λi=>false)) (Pr:=λ_=>false) F qF λZ A outer s H E O=>?_;exact(au (cJ 2 nd (l_ aq))
  (au (lV (λ_=>aaN) (λ_=>rfl) (fW 1.22) (lY (λ_=>rfl) (b_ (cD 3 nd) (b_ (cD 4 nd) (b_ (cD 5 nd) j7)))) (au (cO (bG 1.26 (aj false 3) 1.24) (aL (jr d7 ZX aab aac (bK 2) (aa (fK (aa (aj false 4) (aa (aj false 5) aq))) aq))) bT)
  (aL (cO (bG 1.26 (aj false 4) 1.24) (aL (jr d7 ZX aab aac (bK 2) (aa (fK (aa (aj false 3) (aa (cG pG aF (aj false 5)) aq))) aq))) bT))))
  (aL (jm 2))))
theorem uC:bz ["_law_names_here","_law_joinings","_law_found","_law_name","_law_todo","_law_at","_law_other","_law_by"] QS (aA jF):=⟨rfl,rfl,rfl,by decide +kernel,rfl,by decide +kernel,by decide +kernel⟩
theorem Bp{f:Addr}{fd:ZP}(F:Fun K "_law_walk" "_law_walk" jF f fd)(B:Blt mg)(q:qy P w K mg base):dD P w K mg base CX0 2 f fd QS (spP ⟨K,mg⟩ eX):=by
 have nd:∀_:Unit,_:=λ_=>uC.nd;refine okP (k:=1) (ob:=(λi=>false)) (Pr:=λ_=>false) F uC λZ A outer s H E O=>?_;exact(au (cJ 2 nd Eu)
  (au (lV (λ_=>aaN) (λ_=>rfl) (fW (bJ (CV _ (λ_=>rfl) (Fi O)) (λ_=>rfl) (λ_=>B.sorted) boot_sorted (aa 1.24 aq))) (cD 3 nd) (aL (cO (bG (rF (λ_=>aM O)) (aj false 3) (aj false 2)) (au (kJ (fK (aa (aj false 3) (aa aF aq))) (lO (lJ (λ_=>aM O)) (bK 2) (aj false 3)))
  (au (cJ 4 nd (l_ (aa (aj false 3) aq)))
  (au (cJ 5 nd aF)
  (aL (sX 1000000 (λ_=>aaN) (u_ (bG Af (aj false 5) (bJ jO (λ_=>rfl) (λ_=>B.len) acb (aa (aj false 4) aq)))) (au (lV (λ_=>aaN) (λ_=>rfl) (fW (gm (λ_=>q) 1.10 (aa (bU 1.14 (aj false 4) (aj false 5)) (aa 1.22 aq)))) (lY (λ_=>rfl) (b_ (cD 6 nd) (b_ (cD 7 nd) j7))) (aL (cO (bG (rF (λ_=>aM O)) (aj false 6) (aj false 2)) (au (kJ (fK (aa (aj false 3) (aa (cG gZ (bU 1.14 (bU 1.14 (aj false 2) (bU 1.14 (aj false 4) (aj false 5))) aF) (aj false 7)) aq))) (lO (lJ (λ_=>aM O)) (bK 2) (aj false 6)))
  (aL (jr d7 ZX aab aac (bK 4) (aa (aj false 6) aq)))) bT)))
  (aL (cJ 5 nd (cG gZ (aj false 5) aF))))))))) bT)))
  (aL (jm 2))))
theorem nY:bz ["self","hung","head","gap"] JG (aA gn):=⟨rfl,rfl,rfl,by decide +kernel,rfl,by decide +kernel,by decide +kernel⟩
theorem uU{f:Addr}{fd:ZP}(F:Fun K "unhang" "Stack.unhang" gn f fd)(B:Blt mg)(z:Kla K mg "Stack" nl2):dD P w K mg base CX0 1 f fd JG (spI ⟨K,mg⟩ ob0 ob0 cP):=by
 have nd:∀_:Unit,_:=λ_=>nY.nd;refine okI (k:=0) (ob:=ob0) (pr:=ob0) F nY λZ A outer s H E O=>?_;exact(au (kJ (bU 1.14 (fJ z (aj true 0)) 1.22) (lY (λ_=>rfl) (b_ (cD 2 nd) (b_ (cD 3 nd) j7))))
  (au (Ah (λ_=>VG) Vz (λ_=>aM O) (kW z (bK 0)) (aj false 2) (bU 1.14 (fJ z (aj true 0)) 1.22))
  (aL (RM (kW z (bK 0)) 1.22))))
theorem qC:bz ["self","deed","kept"] nl3 (aA iG):=⟨rfl,rfl,rfl,by decide +kernel,rfl,by decide +kernel,by decide +kernel⟩
theorem xK{f:Addr}{fd:ZP}(F:Fun K "back" "Stack.back" iG f fd)(B:Blt mg)(q:iw P w K mg base 1 "Stack" "unhang" JG (spI ⟨K,mg⟩ ob0 ob0 cP))(z:Kla K mg "Stack" nl2):dD P w K mg base CX0 2 f fd nl3 (spI ⟨K,mg⟩ ob0 ob0 cM):=by
 have nd:∀_:Unit,_:=λ_=>qC.nd;refine okI (k:=1) (ob:=ob0) (pr:=ob0) F qC λZ A outer s H E O=>?_;exact(au (cO (bG 1.26 (bJ jO (λ_=>rfl) (λ_=>B.len) acb (aa (fJ z (aj true 0)) aq)) aF) (aL (cF oU)) bT)
  (au (Le (Ml Q6 ZX aeT aeU (kW z (bK 0))) (lY (λ_=>rfl) (b_ (cD 1 nd) (b_ (cD 2 nd) j7))))
  (au (cO (bG 1.26 (bU 1.14 1.22 aF) jo) (aL (kJ (aj false 2) (lO (lJ (λ_=>aM O)) (kW z (bK 0)) (bU 1.14 1.22 aF)))) (aL (cO (bG A_ (aj false 2) oU) (aL (mz (oX 0 (λ_=>q) 1.10 (bO (aa (aj false 2) aq))))) bT)))
  (aL (jm 1)))))
theorem o6:bz Nq Nq (aA gK):=⟨rfl,rfl,rfl,by decide +kernel,rfl,by decide +kernel,by decide +kernel⟩
theorem wG{f:Addr}{fd:ZP}(F:Fun K "check_there" "check_there" gK f fd)(B:Blt mg):dD P w K mg base CX0 1 f fd Nq (spP ⟨K,mg⟩ bM):=by
 have nd:∀_:Unit,_:=λ_=>o6.nd;refine okP (k:=0) (ob:=(λi=>false)) (Pr:=λ_=>false) F o6 λZ A outer s H E O=>?_;exact(aL (cO (bG (rF (λ_=>aM O)) 1.22 1.24) (aL jM) bT))
theorem oJ:bz nl9 nl9 (aA gH):=⟨rfl,rfl,rfl,by decide +kernel,rfl,by decide +kernel,by decide +kernel⟩
theorem w5{f:Addr}{fd:ZP}(F:Fun K "weigh" "Stack.weigh" gH f fd)(B:Blt mg)(I:iK P w K mg base)(z:Kla K mg "Stack" nl2):dD P w K mg base CX0 2 f fd nl9 (spI ⟨K,mg⟩ ob0 ob0 dm):=by
 have nd:∀_:Unit,_:=λ_=>oJ.nd;refine okI (k:=1) (ob:=ob0) (pr:=ob0) F oJ λZ A outer s H E O=>?_;exact(au (mz (cg (gm (λ_=>I) 1.10 (aa (fJ z (aj true 0)) (aa 1.22 aq)))))
  (au (jr d7 ZX aab aac (kW z (bK 0)) (aa (fK (aa (fK (aa jo (aa 1.22 (aa (aj false 2) aq)))) (aa (bU 1.14 (fJ z (aj true 0)) 1.22) aq))) aq))
  (aL (kJ (aj false 2) (lO (lJ (λ_=>aM O)) (kW z (bK 0)) 1.22)))))
theorem uD:bz Ld Ld (aA jJ):=⟨rfl,rfl,rfl,by decide +kernel,rfl,by decide +kernel,by decide +kernel⟩
theorem Bb{f:Addr}{fd:ZP}(F:Fun K "_law_same" "_law_same" jJ f fd)(B:Blt mg):dD P w K mg base CX0 1 f fd Ld (spP ⟨K,mg⟩ cV):=by
 have nd:∀_:Unit,_:=λ_=>uD.nd;refine okP (k:=0) (ob:=(λi=>false)) (Pr:=λ_=>false) F uD λZ A outer s H E O=>?_;exact(au (cO (bG MF 1.22 oU) (aL jM) bT)
  (au (cO (lH (bJ jw (λ_=>rfl) (λ_=>B.isinstance) ab8 (aa 1.22 (aa (wB (λ_=>rfl) (λ_=>B.bool_) boot_bool) aq)))) (aL jM) bT)
  (au (cO (lH (bJ jw (λ_=>rfl) (λ_=>B.isinstance) ab8 (aa 1.22 (aa (fK (aa (wB (λ_=>rfl) (λ_=>B.list_) boot_list) (aa (wB (λ_=>rfl) (λ_=>B.tuple) boot_tuple) aq))) aq)))) (au jM
  (aL jM)) bT)
  (au (cO (lH (bJ jw (λ_=>rfl) (λ_=>B.isinstance) ab8 (aa 1.22 (aa (wB (λ_=>rfl) (λ_=>B.str_) boot_str) aq)))) (aL jM) bT)
  (aL (cF (Mg (bJ jw (λ_=>rfl) (λ_=>B.isinstance) ab8 (aa 1.24 (aa (wB (λ_=>rfl) (λ_=>B.int_) boot_int) aq))) (Mg (V9 (bJ jw (λ_=>rfl) (λ_=>B.isinstance) ab8 (aa 1.24 (aa (wB (λ_=>rfl) (λ_=>B.bool_) boot_bool) aq)))) (Ue (zR 1.26 1.24 1.22))))))))))
theorem o8:bz ["self","name","chain"] nl0 (aA gM):=⟨rfl,rfl,rfl,by decide +kernel,rfl,by decide +kernel,by decide +kernel⟩
theorem wC{f:Addr}{fd:ZP}(F:Fun K "chain" "Stack.chain" gM f fd)(B:Blt mg)(I:iK P w K mg base)(z:Kla K mg "Stack" nl2):dD P w K mg base CX0 2 f fd nl0 (spP ⟨K,mg⟩ aW):=by
 have nd:∀_:Unit,_:=λ_=>o8.nd;refine okP (k:=1) (ob:=(λi=>false)) (Pr:=λ_=>false) F o8 λZ A outer s H E O=>?_;exact(au (mz (cg (gm (λ_=>I) 1.10 (aa (fJ z 1.24) (aa 1.22 aq)))))
  (au (cJ 2 nd (l_ (aa 1.22 aq)))
  (au (sX 1000000 (λ_=>aaN) (u_ (bG (Ko (λ_=>aM O)) (bU 1.14 (aj false 2) (mQ jH aF)) (fJ z 1.24))) (aL (jr d7 ZX aab aac (bK 2) (aa (bU 1.14 (bU 1.14 (fJ z 1.24) (bU 1.14 (aj false 2) (mQ jH aF))) aF) aq))))
  (aL (jm 2)))))
theorem mL:bz nl0 nl0 (aA eZ):=⟨rfl,rfl,rfl,by decide +kernel,rfl,by decide +kernel,by decide +kernel⟩
theorem tB{f:Addr}{fd:ZP}(F:Fun K "size_of" "Stack.size_of" eZ f fd)(B:Blt mg)(J:iw P w K mg base 2 "Stack" "chain" nl0 (spP ⟨K,mg⟩ aW))(z:Kla K mg "Stack" nl2):dD P w K mg base CX0 3 f fd nl0 (spP ⟨K,mg⟩ bZ):=by
 have nd:∀_:Unit,_:=λ_=>mL.nd;refine okP (k:=2) (ob:=(λi=>false)) (Pr:=λ_=>false) F mL λZ A outer s H E O=>?_;exact(aL (cF (bU 1.14 (fJ z 1.24) (bU 1.14 (iR (λ_=>J) 1.10 1.24 (aa 1.22 aq)) (mQ jH aF)))))
theorem yg:bz Ib Ib (aA lC):=⟨rfl,rfl,rfl,by decide +kernel,rfl,by decide +kernel,by decide +kernel⟩
def zP:Scope:={kind:=.function,names:=[(".0",.local),("name",.local),("weights",.free)],isGenerator:=false,isCoroutine:=false}
theorem Bx:(["name","weights"]:List Str).Nodup:=by decide +kernel
theorem Bu:du (aA lC) Ib ["name","weights"] zP [none,some 1]:=by trivial
theorem G9{f:Addr}{fd:ZP}(F:Fun K "sum_in" "sum_in" lC f fd)(B:Blt mg):dD P w K mg base CX0 1 f fd Ib (spP ⟨K,mg⟩ gO):=by
 have nd:∀_:Unit,_:=λ_=>yg.nd;refine okP (k:=0) (ob:=(λi=>false)) (Pr:=λ_=>false) F yg λZ A outer s H E O=>?_;exact(aL (cF (bJ (zF (λ_=>rfl)) (λ_=>rfl) (λ_=>B.sum) boot_sum (aa (nJ [none,some 1] ob0 (λ_=>rfl) (λ_=>rfl) (λ_=>Bu) (iQ rfl) (fW 1.24) (eY 0 (λ_=>Bx)) j4 (bU 1.14 1.22 1.24)) aq))))
theorem rM:bz ["leading","start","ways","waiting","name","number","side","end"] Ru (aA je):=⟨rfl,rfl,rfl,by decide +kernel,rfl,by decide +kernel,by decide +kernel⟩
theorem zE{f:Addr}{fd:ZP}(F:Fun K "ways_from" "ways_from" je f fd)(B:Blt mg):dD P w K mg base CX0 1 f fd Ru (spP ⟨K,mg⟩ dU):=by
 have nd:∀_:Unit,_:=λ_=>rM.nd;refine okP (k:=0) (ob:=(λi=>i==3)) (Pr:=λ_=>false) F rM λZ A outer s H E O=>?_;exact(au (cJ 2 nd (Rw (Hv 1.22 (fK aq) Li)))
  (au (cJ 3 nd (l_ (aa 1.22 aq)))
  (au (sX 1000000 (λ_=>aaN) (u_ (lH (aj true 3))) (au (dg 4 nd (Q0 Ja ZX aeT aeU (bK 3) (aa aF aq)))
  (aL (lV (λ_=>aaN) (λ_=>rfl) (fW (bU 1.14 1.24 (aj false 4))) (lY (λ_=>rfl) (b_ (cD 5 nd) (b_ (cD 6 nd) (b_ (cD 7 nd) j7)))) (aL (cO (bG (rF (λ_=>aM O)) (aj false 7) (aj false 2)) (au (kJ (cG gZ (bU 1.14 (aj false 2) (aj false 4)) (fK (aa (fK (aa (aj false 5) (aa (aj false 6) aq))) aq))) (lO (lJ (λ_=>aM O)) (bK 2) (aj false 7)))
  (aL (jr d7 ZX aab aac (bK 3) (aa (aj false 7) aq)))) bT))))))
  (aL (jm 2)))))
theorem nU:bz Wj QF (aA eG):=⟨rfl,rfl,rfl,by decide +kernel,rfl,by decide +kernel,by decide +kernel⟩
def qW:Scope:={kind:=.function,names:=[(".0",.local),("name",.local)],isGenerator:=false,isCoroutine:=false}
theorem sW:(["name"]:List Str).Nodup:=by decide +kernel
theorem rD:du (aA eG) Wj ["name"] qW [none]:=by trivial
theorem uN{f:Addr}{fd:ZP}(F:Fun K "ends_by_name" "ends_by_name" eG f fd)(B:Blt mg):dD P w K mg base CX0 1 f fd QF (spP ⟨K,mg⟩ cQ):=by
 have nd:∀_:Unit,_:=λ_=>nU.nd;refine okP (k:=0) (ob:=(λi=>false)) (Pr:=λ_=>false) F nU λZ A outer s H E O=>?_;exact(au (JH 2 [none] ob0 nd (λ_=>rfl) (λ_=>rfl) (λ_=>rD) (iQ rfl) (fW 1.24) (eY 0 (λ_=>sW)) j4 1.24 (l_ aq))
  (au (lV (λ_=>aaN) (λ_=>rfl) (Ai (λ_=>rfl) (λ_=>B.enumerate) (aa 1.22 aq)) (lY (λ_=>rfl) (b_ (cD 3 nd) (b_ (lY (λ_=>rfl) (b_ (cD 4 nd) (b_ (cD 5 nd) (b_ (cD 6 nd) j7)))) j7))) (au (jr d7 ZX aab aac (G4 (λ_=>aM O) (bK 2) (aj false 4)) (aa (fK (aa (aj false 3) (aa aF (aa (aj false 5) aq)))) aq))
  (aL (jr d7 ZX aab aac (G4 (λ_=>aM O) (bK 2) (aj false 5)) (aa (fK (aa (aj false 3) (aa (mQ jH aF) (aa (aj false 4) aq)))) aq)))))
  (aL (jm 2))))
theorem qD:bz Jj Jj (aA iD):=⟨rfl,rfl,rfl,by decide +kernel,rfl,by decide +kernel,by decide +kernel⟩
theorem xu{f:Addr}{fd:ZP}(F:Fun K "class_with" "class_with" iD f fd)(B:Blt mg)(z:uE P w K mg base)(q:oK P w K mg base):dD P w K mg base CX0 2 f fd Jj (spP ⟨K,mg⟩ fj):=by
 have nd:∀_:Unit,_:=λ_=>qD.nd;refine okP (k:=1) (ob:=(λi=>false)) (Pr:=λ_=>false) F qD λZ A outer s H E O=>?_;exact(aL (cF (bJ (Bf _ (λ_=>rfl) (Fi O) (λ_=>rfl)) (λ_=>rfl) (λ_=>B.sorted) boot_sorted (aa (gm (λ_=>z) 1.10 (aa (gm (λ_=>q) 1.10 (aa 1.24 (aa 1.22 aq))) (aa (aj false 2) aq))) aq))))
theorem lM:bz nl3 nl3 (aA di):=⟨rfl,rfl,rfl,by decide +kernel,rfl,by decide +kernel,by decide +kernel⟩
def oE:Scope:={kind:=.function,names:=[(".0",.local),("deed",.local),("kept",.local)],isGenerator:=false,isCoroutine:=false}
theorem kE:(["deed","kept"]:List Str).Nodup:=by decide +kernel
theorem qu:du (aA di) nl3 ["deed","kept"] oE [none,none]:=by trivial
theorem sO{f:Addr}{fd:ZP}(F:Fun K "standing" "Stack.standing" di f fd)(B:Blt mg)(z:Kla K mg "Stack" nl2):dD P w K mg base CX0 1 f fd nl3 (spP ⟨K,mg⟩ bA):=by
 have nd:∀_:Unit,_:=λ_=>lM.nd;refine okP (k:=0) (ob:=(λi=>false)) (Pr:=λ_=>false) F lM λZ A outer s H E O=>?_;exact(aL (cF (nJ [none,none] (λi=>i==0||i==1) (λ_=>rfl) (λ_=>rfl) (λ_=>qu) (iQ rfl) (fW (fJ z 1.24)) (Ju (λ_=>rfl) (wy (eY 0 (λ_=>kE)) (wy (eY 1 (λ_=>kE)) H9))) (rN (bG 1.26 (bU 1.14 1.24 aF) jo)) (jY slb 1.24 (jZ aF) jQ))))
theorem lQ:bz nl0 nl0 (aA dR):=⟨rfl,rfl,rfl,by decide +kernel,rfl,by decide +kernel,by decide +kernel⟩
theorem sU{f:Addr}{fd:ZP}(F:Fun K "class_of" "Stack.class_of" dR f fd)(B:Blt mg)(I:iK P w K mg base)(q:rP P w K mg base)(U:iw P w K mg base 1 "Stack" "standing" nl3 (spP ⟨K,mg⟩ bA))(z:Kla K mg "Stack" nl2):dD P w K mg base CX0 3 f fd nl0 (spP ⟨K,mg⟩ bR):=by
 have nd:∀_:Unit,_:=λ_=>lQ.nd;refine okP (k:=2) (ob:=(λi=>false)) (Pr:=λ_=>false) F lQ λZ A outer s H E O=>?_;exact(au (mz (cg (gm (λ_=>I) 1.10 (aa (fJ z 1.24) (aa 1.22 aq)))))
  (aL (cF (gm (λ_=>q) 1.10 (aa (mD (HF (λ_=>rfl)) (λ_=>rfl) (λ_=>B.list_) boot_list (aa (fJ z 1.24) aq)) (aa (Ck (λ_=>U) 1.10 1.24) (aa 1.22 aq)))))))
theorem nP:bz nl0 nl0 (aA gf):=⟨rfl,rfl,rfl,by decide +kernel,rfl,by decide +kernel,by decide +kernel⟩
theorem uX{f:Addr}{fd:ZP}(F:Fun K "sum_of" "Stack.sum_of" gf f fd)(B:Blt mg)(D:BX P w K mg base)(q:iw P w K mg base 3 "Stack" "class_of" nl0 (spP ⟨K,mg⟩ bR))(z:Kla K mg "Stack" nl2):dD P w K mg base CX0 4 f fd nl0 (spP ⟨K,mg⟩ cu):=by
 have nd:∀_:Unit,_:=λ_=>nP.nd;refine okP (k:=3) (ob:=(λi=>false)) (Pr:=λ_=>false) F nP λZ A outer s H E O=>?_;exact(aL (cF (gm (λ_=>D) 1.10 (aa (iR (λ_=>q) 1.10 1.24 (aa 1.22 aq)) (aa (fJ z 1.24) aq)))))
theorem vJ:bz N6 N6 (aA k_):=⟨rfl,rfl,rfl,by decide +kernel,rfl,by decide +kernel,by decide +kernel⟩
theorem Dz{f:Addr}{fd:ZP}(F:Fun K "counted" "counted" k_ f fd)(B:Blt mg):dD P w K mg base CX0 1 f fd N6 (spP ⟨K,mg⟩ d9):=by
 have nd:∀_:Unit,_:=λ_=>vJ.nd;refine okP (k:=0) (ob:=(λi=>false)) (Pr:=λ_=>false) F vJ λZ A outer s H E O=>?_;exact(au (cO (bG 1.26 1.24 aF) (aL (jm 1)) bT)
  (aL (cF (cG pC 1.22 1.24))))
theorem oh:bz nl6 nl6 (aA eO):=⟨rfl,rfl,rfl,by decide +kernel,rfl,by decide +kernel,by decide +kernel⟩
def qN:Scope:={kind:=.function,names:=[(".0",.local),("name",.local),("self",.free)],isGenerator:=false,isCoroutine:=false}
theorem sE:(["name","self"]:List Str).Nodup:=by decide +kernel
theorem rC:du (aA eO) nl6 ["name","self"] qN [none,some 0]:=by trivial
theorem uR{f:Addr}{fd:ZP}(F:Fun K "offset" "Stack.offset" eO f fd)(B:Blt mg)(z:Kla K mg "Stack" nl2):dD P w K mg base CX0 1 f fd nl6 (spP ⟨K,mg⟩ bw):=by
 have nd:∀_:Unit,_:=λ_=>oh.nd;refine okP (k:=0) (ob:=(λi=>false)) (Pr:=λ_=>false) F oh λZ A outer s H E O=>?_;exact(aL (cF (bJ (zF (λ_=>rfl)) (λ_=>rfl) (λ_=>B.sum) boot_sum (aa (nJ [none,some 0] ob0 (λ_=>rfl) (λ_=>rfl) (λ_=>rC) (iQ rfl) (fW (jY slb 1.22 jQ (jZ (mQ jH aF)))) (eY 0 (λ_=>sE)) j4 (bU 1.14 (bU 1.14 (fJ z 1.22) 1.24) aF)) aq))))
theorem pq:bz ["self","one","other","here","there"] NB (aA gQ):=⟨rfl,rfl,rfl,by decide +kernel,rfl,by decide +kernel,by decide +kernel⟩
theorem vz{f:Addr}{fd:ZP}(F:Fun K "steps" "Stack.steps" gQ f fd)(B:Blt mg)(I:iK P w K mg base)(q:tM P w K mg base)(J:iw P w K mg base 2 "Stack" "chain" nl0 (spP ⟨K,mg⟩ aW))(N:iw P w K mg base 1 "Stack" "offset" nl6 (spP ⟨K,mg⟩ bw))(z:Kla K mg "Stack" nl2):dD P w K mg base CX0 3 f fd NB (spI ⟨K,mg⟩ ob0 ob0 dq):=by
 have nd:∀_:Unit,_:=λ_=>pq.nd;refine okI (k:=2) (ob:=ob0) (pr:=ob0) F pq λZ A outer s H E O=>?_;exact(au (mz (cg (gm (λ_=>I) 1.10 (aa (fJ z (aj true 0)) (aa 1.22 aq)))))
  (au (mz (cg (gm (λ_=>I) 1.10 (aa (fJ z (aj true 0)) (aa (aj false 2) aq)))))
  (au (cO (bG 1.26 1.22 (aj false 2)) (au (lW z (cg aF) (bK 0))
  (aL (cF aF))) bT)
  (au (zN 3 4 (λ_=>rfl) nd (aa (iR (λ_=>J) 1.10 (aj true 0) (aa 1.22 aq)) (aa (iR (λ_=>J) 1.10 (aj true 0) (aa (aj false 2) aq)) aq)))
  (au (lW z (cg (Jd (λ_=>rfl) (λ_=>B.len) (λ_=>B.set_) (aa (cG gZ (aj false 3) (aj false 4)) aq))) (bK 0))
  (au (cO (bG (Ge _ (λ_=>rfl) O.units) (bU 1.14 (aj false 3) (mQ jH aF)) (bU 1.14 (aj false 4) (mQ jH aF))) (aL (cF oU)) bT)
  (aL (cF (gm (λ_=>q) 1.10 (aa (fJ z (aj true 0)) (aa (cG pG (iR (λ_=>N) 1.10 (aj true 0) (aa (aj false 4) aq)) (iR (λ_=>N) 1.10 (aj true 0) (aa (aj false 3) aq))) aq)))))))))))
theorem qx:bz ["self","one","other","step","here","there","gap","head","hung"] nl4 (aA ig):=⟨rfl,rfl,rfl,by decide +kernel,rfl,by decide +kernel,by decide +kernel⟩
theorem xm{f:Addr}{fd:ZP}(F:Fun K "hang" "Stack.hang" ig f fd)(B:Blt mg)(J:iw P w K mg base 2 "Stack" "chain" nl0 (spP ⟨K,mg⟩ aW))(N:iw P w K mg base 1 "Stack" "offset" nl6 (spP ⟨K,mg⟩ bw))(z:Kla K mg "Stack" nl2):dD P w K mg base CX0 3 f fd nl4 (spI ⟨K,mg⟩ ob0 ob0 dF):=by
 have nd:∀_:Unit,_:=λ_=>qx.nd;refine okI (k:=2) (ob:=ob0) (pr:=ob0) F qx λZ A outer s H E O=>?_;exact(au (zN 4 5 (λ_=>rfl) nd (aa (iR (λ_=>J) 1.10 (aj true 0) (aa 1.22 aq)) (aa (iR (λ_=>J) 1.10 (aj true 0) (aa (aj false 2) aq)) aq)))
  (au (cJ 6 nd (cG pG (cG gZ (iR (λ_=>N) 1.10 (aj true 0) (aa (aj false 4) aq)) (aj false 3)) (iR (λ_=>N) 1.10 (aj true 0) (aa (aj false 5) aq))))
  (au (zN 7 8 (λ_=>rfl) nd (aa (bU 1.14 (aj false 4) (mQ jH aF)) (aa (bU 1.14 (aj false 5) (mQ jH aF)) aq)))
  (au (cO (bG Af (bU 1.14 (fJ z (aj true 0)) (aj false 7)) (bU 1.14 (fJ z (aj true 0)) (aj false 8))) (aL (JW 7 8 6 (λ_=>rfl) nd (aa (aj false 8) (aa (aj false 7) (aa (mQ jH (aj false 6)) aq))))) bT)
  (au (kJ (fK (aa (aj false 7) (aa (aj false 6) aq))) (lO (lJ (λ_=>aM O)) (kW z (bK 0)) (aj false 8)))
  (au (Ah (λ_=>VM) T_ (λ_=>aM O) (kW z (bK 0)) (aj false 7) (bU 1.14 (fJ z (aj true 0)) (aj false 8)))
  (aL (jm 8))))))))
theorem qz:bz ["self","one","other","step","known","n","hung"] nl4 (aA ik):=⟨rfl,rfl,rfl,by decide +kernel,rfl,by decide +kernel,by decide +kernel⟩
theorem xn{f:Addr}{fd:ZP}(F:Fun K "join" "Stack.join" ik f fd)(B:Blt mg)(D:iw P w K mg base 3 "Stack" "steps" NB (spI ⟨K,mg⟩ ob0 ob0 dq))(U:iw P w K mg base 1 "Stack" "standing" nl3 (spP ⟨K,mg⟩ bA))(I:iw P w K mg base 3 "Stack" "hang" nl4 (spI ⟨K,mg⟩ ob0 ob0 dF))(q:tM P w K mg base)(z:Kla K mg "Stack" nl2):dD P w K mg base CX0 4 f fd nl4 (spI ⟨K,mg⟩ ob0 ob0 dI):=by
 have nd:∀_:Unit,_:=λ_=>qz.nd;refine okI (k:=3) (ob:=ob0) (pr:=ob0) F qz λZ A outer s H E O=>?_;exact(au (dg 4 nd (oX 0 (λ_=>D) 1.10 (bO (aa 1.22 (aa (aj false 2) aq)))))
  (au (cO (Jy (Rg (bG A_ (aj false 4) oU) (JF (bG (Ge _ (λ_=>rfl) O.units) (aj false 4) (gm (λ_=>q) 1.10 (aa (fJ z (aj true 0)) (aa (aj false 3) aq))))))) (aL (cF (fK (aa jo (aa (aj false 4) aq))))) bT)
  (au (cJ 5 nd (bJ jO (λ_=>rfl) (λ_=>B.len) acb (aa (Ck (λ_=>U) 1.10 (aj true 0)) aq)))
  (au (dg 6 nd (OD (u_ (bG MF (aj false 4) oU)) (oX 0 (λ_=>I) 1.10 (bO (aa 1.22 (aa (aj false 2) (aa (aj false 3) aq))))) (cg oU)))
  (au (jr d7 ZX aab aac (kW z (bK 0)) (aa (fK (aa (fK (aa jo (aa 1.22 (aa (aj false 2) (aa (aj false 3) aq))))) (aa (aj false 6) aq))) aq))
  (aL (cF (fK (aa (T8 (bG MF (aj false 4) oU) jo jo) (aa (aj false 5) aq))))))))))
theorem N5:bz Jr Rt (aA mG):=⟨rfl,rfl,rfl,by decide +kernel,rfl,by decide +kernel,by decide +kernel⟩
def HY:Scope:={kind:=.function,names:=[(".0",.local),("_law_deed",.local)],isGenerator:=false,isCoroutine:=false}
theorem NQ:(Ov:List Str).Nodup:=by decide +kernel
theorem Nh:du (aA mG) Jr Ov HY [none]:=by trivial
def Ik:Scope:={kind:=.function,names:=[(".0",.local),("_law_deed",.local)],isGenerator:=false,isCoroutine:=false}
theorem KH:(Ov:List Str).Nodup:=by decide +kernel
theorem Ls:du (aA mG) Jr Ov Ik [none]:=by trivial
def Je:Scope:={kind:=.function,names:=[(".0",.local),("_law_other",.local),("_law_found",.free),("_law_name",.free)],isGenerator:=false,isCoroutine:=false}
theorem Jx:(Xf:List Str).Nodup:=by decide +kernel
theorem J1:du (aA mG) Jr Xf Je [none,some 11,some 13]:=by trivial
def Ig:Scope:={kind:=.function,names:=[(".0",.local),("_law_other",.local),("_law_weights",.free)],isGenerator:=false,isCoroutine:=false}
theorem Lk:(["_law_other","_law_weights"]:List Str).Nodup:=by decide +kernel
theorem Kh:du (aA mG) Jr ["_law_other","_law_weights"] Ig [none,some 12]:=by trivial
theorem U8{f:Addr}{fd:ZP}(F:Fun K "law" "law" mG f fd)(B:Blt mg)(U:uJ P w K mg base)(a3:rY P w K mg base)(a5:ug P w K mg base)(a2:q9 P w K mg base)(q:KMk P w K mg base 4 "Stack" nl5 (spI ⟨K,mg⟩ ob0 ob0 bF))(D:jc P w K mg base)(J:oR P w K mg base)(a4:uA P w K mg base)(Y:iw P w K mg base 2 "Stack" "back" nl3 (spI ⟨K,mg⟩ ob0 ob0 cM))(V:nq P w K mg base)(I:iw P w K mg base 2 "Stack" "weigh" nl9 (spI ⟨K,mg⟩ ob0 ob0 dm))(N:uw P w K mg base)(z:iw P w K mg base 3 "Stack" "size_of" nl0 (spP ⟨K,mg⟩ bZ))(a0:iw P w K mg base 4 "Stack" "sum_of" nl0 (spP ⟨K,mg⟩ cu))(a1:iw P w K mg base 4 "Stack" "join" nl4 (spI ⟨K,mg⟩ ob0 ob0 dI)):dD P w K mg base CX0 6 f fd Rt (spP ⟨K,mg⟩ m6):=by
 have nd:∀_:Unit,_:=λ_=>N5.nd;refine okP (k:=5) (ob:=(λi=>i==1||i==5)) (Pr:=λ_=>false) F N5 λZ A outer s H E O=>?_;exact(au (cJ 1 nd (gm (λ_=>U) 1.10 (aa 1.24 (aa aF aq))))
  (au (dg 2 nd (eV [1] (λ_=>a3) 1.10 (cW 1 (cY (bO aq)))))
  (au (dg 3 nd (eV [1] (λ_=>a5) 1.10 (cW 1 (cY (bO aq)))))
  (au (dg 4 nd (eV [1] (λ_=>a2) 1.10 (cW 1 (cY (bO (aa (aj false 2) aq))))))
  (au (cJ 5 nd (Rc (λ_=>q) () 1.10 (aa (mD Ke (λ_=>rfl) (λ_=>B.list_) boot_list (aa (aj false 2) aq)) (aa (aj false 3) aq))))
  (au (cJ 6 nd (l_ aq))
  (au (lV (λ_=>aaN) (λ_=>rfl) (V3 (λ_=>rfl) (λ_=>B.range) (aa (cG qU (cG gZ aF (bJ (Ak (λ_=>rfl)) (λ_=>rfl) (λ_=>B.min) boot_min (aa aF (aa (bJ jO (λ_=>rfl) (λ_=>B.len) acb (aa 1.24 aq)) aq)))) (mD GK (λ_=>rfl) (λ_=>B.int_) boot_int (aa (zR (Ge _ (λ_=>rfl) O.units) (aj false 2) (l_ aq)) aq))) aq)) (cD 7 nd) (au (cJ 1 nd (gm (λ_=>U) 1.10 (aa 1.24 (aa (cG gZ (aj false 7) aF) aq))))
  (au (dg 8 nd (eV [1] (λ_=>D) 1.10 (cW 1 (cY (bO (aa aF aq))))))
  (au (dg 9 nd (eV [1] (λ_=>J) 1.10 (cW 1 (cY (bO (aa (aj false 2) (aa (aj false 4) (aa (aj false 3) aq))))))))
  (au (cO (bG 1.26 (aj false 8) aF) (au (mz (IK 5 (λ_=>Y) 1.10))
  (aL (cJ 6 nd (jY slb (aj false 6) jQ (jZ (mQ jH aF)))))) (aL (cO (bG Af (aj false 8) aF) (au (dg 10 nd (eV [1] (λ_=>V) 1.10 (cW 1 (cY (bO aq)))))
  (au (mz (oX 5 (λ_=>I) 1.10 (bO (aa (bU 1.14 (aj false 9) aF) (aa (aj false 10) aq)))))
  (aL (jr d7 ZX aab aac (bK 6) (aa (fK (aa jo (aa (bU 1.14 (aj false 9) aF) (aa (aj false 10) aq)))) aq))))) (aL (yF (wZ (Ge _ (λ_=>rfl) O.units) (wY 1.14 (oX 5 (λ_=>a1) 1.10 (bO (aa (bU 1.14 (aj false 9) aF) (aa (bU 1.14 (aj false 9) aF) (aa (bU 1.14 (aj false 9) aF) aq))))) (cg aF)) (cg jo)) (aL (jr d7 ZX aab aac (bK 6) (aa (cG gZ (fK (aa jo aq)) (aj false 9)) aq))) bT)))))
  (au (cJ 11 nd (gm (λ_=>a4) 1.10 (aa (aj false 2) (aa (nJ [none] ob0 (λ_=>rfl) (λ_=>rfl) (λ_=>Nh) (iQ rfl) (fW (aj false 6)) (eY 0 (λ_=>NQ)) (rN (bG 1.26 (bU 1.14 1.24 aF) jo)) (jY slb 1.24 (jZ aF) jQ)) aq))))
  (au (cJ 12 nd (mD (BJ (λ_=>rfl)) (λ_=>rfl) (λ_=>B.dict) boot_dict (aa (nJ [none] ob0 (λ_=>rfl) (λ_=>rfl) (λ_=>Ls) (iQ rfl) (fW (aj false 6)) (eY 0 (λ_=>KH)) (rN (bG 1.26 (bU 1.14 1.24 aF) jo)) (fK (aa (bU 1.14 1.24 aF) (aa (bU 1.14 1.24 aF) aq)))) aq)))
  (aL (Vf 2 (lV (λ_=>aaN) (λ_=>rfl) (fW (aj false 2)) (cD 13 nd) (au (Lr 14 [none,some 11,some 13] ob0 nd (λ_=>rfl) (λ_=>rfl) (λ_=>J1) (iQ rfl) (fW (aj false 2)) (eY 0 (λ_=>Jx)) (rN (bG 1.26 (bU 1.14 (bU 1.14 1.22 1.24) aF) (bU 1.14 (bU 1.14 1.22 (aj false 2)) aF))) 1.24)
  (au (cO (vf (lH (gm (λ_=>N) 1.10 (aa (iR (λ_=>z) 1.10 (aj true 5) (aa (aj false 13) aq)) (aa (bJ jO (λ_=>rfl) (λ_=>B.len) acb (aa (aj false 14) aq)) aq))))) (aL (cF Al)) bT)
  (aL (cO (vf (lH (gm (λ_=>N) 1.10 (aa (iR (λ_=>a0) 1.10 (aj true 5) (aa (aj false 13) aq)) (aa (bJ (zF (λ_=>rfl)) (λ_=>rfl) (λ_=>B.sum) boot_sum (aa (nJ [none,some 12] ob0 (λ_=>rfl) (λ_=>rfl) (λ_=>Kh) (iQ rfl) (fW (aj false 14)) (eY 0 (λ_=>Lk)) j4 (RW (Qp (λ_=>aM O)) PySem.F.plainAttrs_dict abJ PySem.F.type_dict_get 1.22 (aa 1.24 (aa aF aq)))) aq)) aq))))) (aL (cF Al)) bT))))))))))))))
  (aL (cF Al)))))))))
end
theorem Ar:∀ns:List Int,aH G H W (ns.map D.int) (ns.map V.int) []
 |[]=>.nil
 |x::r=>aH.cons (M:=[]) (M':=[]) cX (Ar r)
theorem Ui{K:Frag}{a:Addr}{ns:List Int}{Q:VK}{E:XK}(Y:ns.length<=63)(B:SqL K H a (ns.map V.int))(q:∀H',Q (.bl true) H'):spP ⟨K,mg⟩ m6 [.ref a] H Q E:=by
 refine⟨[.lst .scr (ns.map D.int)],λ_=>False,?_,?_,?_,λ_ z=>z.elim,.bl true,K_ ns Y,λv H' L s r I nd c=>?_⟩
 .refine aH.one (M:=[]) ?_
  rw[Rep];refine⟨a,_,[],rfl,Ar ns,?_,rfl,rfl⟩;rcases B with z|z
  .exact .inl ⟨z,⟨λz=>z,λz=>z,λz=>z⟩⟩
  .exact .inr ⟨_,rfl,z⟩
 .simp[az,aD,bV (ds:=ns.map D.int) (by simp[aD])]
 .simp[aB,aC,bQ (ds:=ns.map D.int) (by simp[aC])]
 .rw[(ww r).1];exact q H'
variable{P:List Value->Prop}
theorem un1(h:∀q,P [q]):∀us:List Value,us.length=1->P us
 |[q],_=>h q
theorem un2(h:∀q N,P [q,N]):∀us:List Value,us.length=2->P us
 |[q,N],_=>h q N
theorem un3(h:∀q N z,P [q,N,z]):∀us:List Value,us.length=3->P us
 |[q,N,z],_=>h q N z
theorem un4(h:∀q N z D,P [q,N,z,D]):∀us:List Value,us.length=4->P us
 |[q,N,z,D],_=>h q N z D
def M3(K:Frag):Sp:=λvs H Q _=>∃(a:Addr)(ns:List Int),vs=[.ref a]/\SqL K H a (ns.map V.int)/\ns.length<=63/\∀H',Q (.bl true) H'
variable{l:aet}
theorem all_mk{w:World}{K:Frag}{fa O f2 f3 f4 f5 f6 f7 f8 f9 g0 m3 m2 n0 h3 g4 m8 h4 m5 e8 g3 m7 n1 m6 m4 e9 h0 f0 m9 g5 g6 g9 g7 m1 C1:Addr}(X:K.In h)(G:h.Ns Zh mg)(hfa:mg "law"=some (.ref fa))
  {W4 an1 V9 T7 W8 an3 V8 W2 od5 an5 Z0 an6 V6 R1 T2 an8 Z5 Q5 B1 B7 s1 o7 r9 y5 y0 s6 B4 O4 B3 C6 B9 M4 E7 G6 H8 C2 o8 u8 r6 K7 u2 H9 A8 L0 D4 H6 u6 G2 I5 J3 N3 t2 H3 v8 D7 r4 t9 M7 y1 C9 p7 u9 s4 L8 O7 j3:Option Addr} {X2 S8 sl3 sl4 S4 X4 W0 Y4 U2 K5 x4 v0 I4 u0 F0 A2 E8 K9 p5 q5 L5 y6 L9 q4 v2 O5 r1 N4 M2 D2 v5 n9 L3:Array (Option Value)} {U5 R3 Q3 pm1 s7 ct1 Z3 P4 dc2 X0 E9 ct2 W9 kV3 X1 P9 C4 ct3 Z9 kV4 dc4 U1 G7 Z4 P6 Y1 U6 pm5 I8 ct5 R6 kV6 V1 pm6 s3 ct6 Y0 T8 Y7 Q6 E1 ct7 X9 Q4 U4 S5 x3 Z1 oc9 T6 U9 pm9 n7 Q1 s8 J0 o3 s5 i8 K2 t0 y8 v6 I7 i9 N0 O1 n4 w4 G1 l0 H4 p9 p8 t4 M1 j7 n3 w6 C0 H7 t7 i6 u3 x5 I9 O3 O9 j0 n5 A6 o0 J1 u4 i4 y4 N2 E4 N7 A9 h6 D5 t1 x2 u7 J9 j8 I2 A3 w0 O8 o1 i3 K4 O0 D8 x9 x7 i2 H0 L6 J5 D0 q3 j6 I3 y7 H5 o6 A1 j4 r0 z0 L4 C5 M0 h9 w3 J4 K8 O6 N1 j5 o2 n2 u5 G4 N5 i5 r7 w7 G3 p4 t5 i7 A7 r2 p0 x6 E6 j1 K6 A5 K1 J6 C3 h7 B0 v3 D9 M8 q7 i1 y3 w1 y9 A4 t3 i0 G5 P0 r8 E3 M5 j9 D6 q6 O2 s9 L2 h5 p6 A0 h8 m0 j2 e7 k0:Value} {tk1 tk2:Tok}
  (a1:nsIn K Zh "_law_tape"=some (some (.ref O)))
  (l1:K.lookup O=some ⟨U5,W4,.func (fnOf "_law_tape" "_law_tape" (bx jA) (bc jA) (aA jA) .none R3 Q3 pm1 an1 s7 ct1),X2⟩) (Z:codeIn K s7 "_law_tape"=true) (k1:keepIn K (.ref O)=true)
  (a2:nsIn K Zh "_law_draw"=some (some (.ref f2)))
  (l2:K.lookup f2=some ⟨Z3,V9,.func (fnOf "_law_draw" "_law_draw" (bx ju) (bc ju) (aA ju) .none P4 dc2 X0 T7 E9 ct2),S8⟩) (c2:codeIn K E9 "_law_draw"=true) (k2:keepIn K (.ref f2)=true)
  (a3:nsIn K Zh "_law_names"=some (some (.ref f3)))
  (l3:K.lookup f3=some ⟨W9,W8,.func (fnOf "_law_names" "_law_names" (bx jb) (bc jb) (aA jb) .none kV3 X1 P9 an3 C4 ct3),sl3⟩) (c3:codeIn K C4 "_law_names"=true) (k3:keepIn K (.ref f3)=true)
  (a4:nsIn K Zh "_law_turn"=some (some (.ref f4)))
  (l4:K.lookup f4=some ⟨Z9,V8,.func (fnOf "_law_turn" "_law_turn" (bx jz) (bc jz) (aA jz) .none kV4 dc4 U1 W2 G7 Z4),sl4⟩) (c4:codeIn K G7 "_law_turn"=true) (k4:keepIn K (.ref f4)=true)
  (a5:nsIn K Zh "_law_far"=some (some (.ref f5)))
  (l5:K.lookup f5=some ⟨P6,od5,.func (fnOf "_law_far" "_law_far" (bx lq) (bc lq) (aA lq) .none Y1 U6 pm5 an5 I8 ct5),S4⟩) (c5:codeIn K I8 "_law_far"=true) (k5:keepIn K (.ref f5)=true)
  (a6:nsIn K Zh "_law_marks"=some (some (.ref f6)))
  (l6:K.lookup f6=some ⟨R6,Z0,.func (fnOf "_law_marks" "_law_marks" (bx g8) (bc g8) (aA g8) .none kV6 V1 pm6 an6 s3 ct6),X4⟩) (c6:codeIn K s3 "_law_marks"=true) (k6:keepIn K (.ref f6)=true)
  (a7:nsIn K Zh "is_name"=some (some (.ref f7)))
  (l7:K.lookup f7=some ⟨Y0,V6,.func (fnOf "is_name" "is_name" (bx jL) (bc jL) (aA jL) .none T8 Y7 Q6 R1 E1 ct7),W0⟩) (c7:codeIn K E1 "is_name"=true) (k7:keepIn K (.ref f7)=true)
  (a8:nsIn K Zh "check_new"=some (some (.ref f8)))
  (l8:K.lookup f8=some ⟨X9,T2,.func (fnOf "check_new" "check_new" (bx jd) (bc jd) (aA jd) .none Q4 U4 S5 an8 x3 Z1),Y4⟩) (c8:codeIn K x3 "check_new"=true) (k8:keepIn K (.ref f8)=true)
  (a9:nsIn K Zh "check_names"=some (some (.ref f9)))
  (l9:K.lookup f9=some ⟨oc9,Z5,.func (fnOf "check_names" "check_names" (bx gJ) (bc gJ) (aA gJ) .none T6 U9 pm9 Q5 n7 Q1),U2⟩) (c9:codeIn K n7 "check_names"=true) (k9:keepIn K (.ref f9)=true)
  (W3:ZF K (.ref C1) "__init__"=some (some (.ref g0))) (W7:aaB K (.ref g0)=true)
  (l10:K.lookup g0=some ⟨s8,B1,.func (fnOf "__init__" "Stack.__init__" (bx cH) (bc cH) (aA cH) .none J0 o3 s5 B7 i8 K2),K5⟩) (c10:codeIn K i8 "Stack.__init__"=true) (R7:keepIn K (.ref g0)=true)
  (a11:nsIn K Zh "_law_joining"=some (some (.ref m3)))
  (l11:K.lookup m3=some ⟨t0,s1,.func (fnOf "_law_joining" "_law_joining" (bx gP) (bc gP) (aA gP) .none y8 v6 I7 o7 i9 N0),x4⟩) (c11:codeIn K i9 "_law_joining"=true) (I6:keepIn K (.ref m3)=true)
  (Z6:nsIn K Zh "_law_beside"=some (some (.ref m2)))
  (Q9:K.lookup m2=some ⟨O1,r9,.func (fnOf "_law_beside" "_law_beside" (bx iz) (bc iz) (aA iz) .none n4 w4 G1 y5 l0 H4),v0⟩) (c12:codeIn K l0 "_law_beside"=true) (D3:keepIn K (.ref m2)=true)
  (Z2:nsIn K Zh "_law_walk"=some (some (.ref n0)))
  (T4:K.lookup n0=some ⟨p9,y0,.func (fnOf "_law_walk" "_law_walk" (bx jF) (bc jF) (aA jF) .none p8 t4 M1 s6 j7 n3),I4⟩) (c13:codeIn K j7 "_law_walk"=true) (v1:keepIn K (.ref n0)=true)
  (Z7:ZF K (.ref C1) "unhang"=some (some (.ref h3))) (P7:aaB K (.ref h3)=true)
  (l14:K.lookup h3=some ⟨w6,B4,.func (fnOf "unhang" "Stack.unhang" (bx gn) (bc gn) (aA gn) .none C0 H7 t7 O4 i6 u3),u0⟩) (c14:codeIn K i6 "Stack.unhang"=true) (B6:keepIn K (.ref h3)=true)
  (S9:ZF K (.ref C1) "back"=some (some (.ref g4))) (Y8:aaB K (.ref g4)=true)
  (R9:K.lookup g4=some ⟨x5,B3,.func (fnOf "back" "Stack.back" (bx iG) (bc iG) (aA iG) .none I9 O3 O9 C6 j0 n5),F0⟩) (V4:codeIn K j0 "Stack.back"=true) (t6:keepIn K (.ref g4)=true)
  (Y2:nsIn K Zh "check_there"=some (some (.ref m8)))
  (l16:K.lookup m8=some ⟨A6,B9,.func (fnOf "check_there" "check_there" (bx gK) (bc gK) (aA gK) .none o0 J1 u4 M4 i4 y4),A2⟩) (Q8:codeIn K i4 "check_there"=true) (J8:keepIn K (.ref m8)=true)
  (T9:ZF K (.ref C1) "weigh"=some (some (.ref h4))) (i17:aaB K (.ref h4)=true)
  (T0:K.lookup h4=some ⟨N2,E7,.func (fnOf "weigh" "Stack.weigh" (bx gH) (bc gH) (aA gH) .none E4 N7 A9 G6 h6 D5),E8⟩) (V0:codeIn K h6 "Stack.weigh"=true) (n6:keepIn K (.ref h4)=true)
  (a18:nsIn K Zh "_law_same"=some (some (.ref m5)))
  (X3:K.lookup m5=some ⟨t1,H8,.func (fnOf "_law_same" "_law_same" (bx jJ) (bc jJ) (aA jJ) .none x2 u7 J9 C2 j8 I2),K9⟩) (Y6:codeIn K j8 "_law_same"=true) (B2:keepIn K (.ref m5)=true)
  (a19:ZF K (.ref C1) "chain"=some (some (.ref e8))) (i19:aaB K (.ref e8)=true)
  (X6:K.lookup e8=some ⟨A3,o8,.func (fnOf "chain" "Stack.chain" (bx gM) (bc gM) (aA gM) .none w0 O8 o1 u8 i3 K4),p5⟩) (X8:codeIn K i3 "Stack.chain"=true) (N9:keepIn K (.ref e8)=true)
  (V2:ZF K (.ref C1) "size_of"=some (some (.ref g3))) (Q7:aaB K (.ref g3)=true)
  (l20:K.lookup g3=some ⟨O0,r6,.func (fnOf "size_of" "Stack.size_of" (bx eZ) (bc eZ) (aA eZ) .none D8 x9 x7 K7 i2 H0),q5⟩) (P8:codeIn K i2 "Stack.size_of"=true) (o9:keepIn K (.ref g3)=true)
  (X5:nsIn K Zh "sum_in"=some (some (.ref m7)))
  (S3:K.lookup m7=some ⟨L6,u2,.func (fnOf "sum_in" "sum_in" (bx lC) (bc lC) (aA lC) .none J5 D0 q3 H9 j6 I3),L5⟩) (U0:codeIn K j6 "sum_in"=true) (E5:keepIn K (.ref m7)=true)
  (R8:nsIn K Zh "ways_from"=some (some (.ref n1)))
  (S7:K.lookup n1=some ⟨y7,A8,.func (fnOf "ways_from" "ways_from" (bx je) (bc je) (aA je) .none H5 o6 A1 L0 j4 r0),y6⟩) (c22:codeIn K j4 "ways_from"=true) (n8:keepIn K (.ref n1)=true)
  (P3:nsIn K Zh "ends_by_name"=some (some (.ref m6)))
  (Z8:K.lookup m6=some ⟨z0,D4,.func (fnOf "ends_by_name" "ends_by_name" (bx eG) (bc eG) (aA eG) .none L4 C5 M0 H6 h9 w3),L9⟩) (S6:codeIn K h9 "ends_by_name"=true) (p3:keepIn K (.ref m6)=true)
  (P5:nsIn K Zh "class_with"=some (some (.ref m4)))
  (W1:K.lookup m4=some ⟨J4,u6,.func (fnOf "class_with" "class_with" (bx iD) (bc iD) (aA iD) .none K8 O6 N1 G2 j5 o2),q4⟩) (P2:codeIn K j5 "class_with"=true) (G8:keepIn K (.ref m4)=true)
  (a25:ZF K (.ref C1) "standing"=some (some (.ref e9))) (i25:aaB K (.ref e9)=true)
  (S0:K.lookup e9=some ⟨n2,I5,.func (fnOf "standing" "Stack.standing" (bx di) (bc di) (aA di) .none u5 G4 N5 J3 i5 r7),v2⟩) (c25:codeIn K i5 "Stack.standing"=true) (C7:keepIn K (.ref e9)=true)
  (a26:ZF K (.ref C1) "class_of"=some (some (.ref h0))) (i26:aaB K (.ref h0)=true)
  (U7:K.lookup h0=some ⟨w7,N3,.func (fnOf "class_of" "Stack.class_of" (bx dR) (bc dR) (aA dR) .none G3 p4 t5 t2 i7 A7),O5⟩) (X7:codeIn K i7 "Stack.class_of"=true) (K3:keepIn K (.ref h0)=true)
  (a27:ZF K (.ref C1) "sum_of"=some (some (.ref f0))) (W6:aaB K (.ref f0)=true)
  (T5:K.lookup f0=some ⟨r2,H3,.func (fnOf "sum_of" "Stack.sum_of" (bx gf) (bc gf) (aA gf) .none p0 x6 E6 v8 j1 K6),r1⟩) (c27:codeIn K j1 "Stack.sum_of"=true) (o5:keepIn K (.ref f0)=true)
  (a28:nsIn K Zh "counted"=some (some (.ref m9)))
  (R2:K.lookup m9=some ⟨A5,D7,.func (fnOf "counted" "counted" (bx k_) (bc k_) (aA k_) .none K1 J6 C3 r4 h7 B0),N4⟩) (c28:codeIn K h7 "counted"=true) (J2:keepIn K (.ref m9)=true)
  (Y5:ZF K (.ref C1) "offset"=some (some (.ref g5))) (i29:aaB K (.ref g5)=true)
  (l29:K.lookup g5=some ⟨v3,t9,.func (fnOf "offset" "Stack.offset" (bx eO) (bc eO) (aA eO) .none D9 M8 q7 M7 i1 y3),M2⟩) (c29:codeIn K i1 "Stack.offset"=true) (w2:keepIn K (.ref g5)=true)
  (a30:ZF K (.ref C1) "steps"=some (some (.ref g6))) (V7:aaB K (.ref g6)=true)
  (l30:K.lookup g6=some ⟨w1,y1,.func (fnOf "steps" "Stack.steps" (bx gQ) (bc gQ) (aA gQ) .none y9 A4 t3 C9 i0 G5),D2⟩) (c30:codeIn K i0 "Stack.steps"=true) (v4:keepIn K (.ref g6)=true)
  (V5:ZF K (.ref C1) "hang"=some (some (.ref g9))) (i31:aaB K (.ref g9)=true)
  (P1:K.lookup g9=some ⟨P0,p7,.func (fnOf "hang" "Stack.hang" (bx ig) (bc ig) (aA ig) .none r8 E3 M5 u9 j9 D6),v5⟩) (V3:codeIn K j9 "Stack.hang"=true) (x8:keepIn K (.ref g9)=true)
  (U3:ZF K (.ref C1) "join"=some (some (.ref g7))) (Q0:aaB K (.ref g7)=true)
  (l32:K.lookup g7=some ⟨q6,s4,.func (fnOf "join" "Stack.join" (bx ik) (bc ik) (aA ik) .none O2 s9 L2 L8 h5 p6),n9⟩) (Y9:codeIn K h5 "Stack.join"=true) (I0:keepIn K (.ref g7)=true)
  (Q2:nsIn K Zh "law"=some (some (.ref m1)))
  (l33:K.lookup m1=some ⟨A0,O7,.func (fnOf "law" "law" (bx mG) (bc mG) (aA mG) .none h8 m0 j2 j3 e7 k0),L3⟩) (c33:codeIn K e7 "law"=true) (R0:keepIn K (.ref m1)=true)
  (b0:nsIn K Zh "Stack"=some (some (.ref C1))) (pg1:ack K C1 Str.empty=true) (hd1:acK K C1=true) (po1:adS K C1=true) (T1:ZF K (.ref C1) "__setattr__"=some (some (.builtin "object.__setattr__"))) (R5:aeq K C1=true) (R4:keepIn K (.ref C1)=true)
  (B8:ZF K (.ref C1) "turn"=some none)
  (s2:ZF K (.ref C1) "weights"=some none)
  (G0:ZF K (.ref C1) "behind"=some none)
  (u1:ZF K (.ref C1) "sizes"=some none)
  (M6:ZF K (.ref C1) "done"=some none)
  (o4:ZF K (.ref C1) "looked"=some none)
  (g1:nsIn K Zh "LETTERS"=some (some (.str "abcdefghijklmnopqrstuvwxyz" tk1)))
  (g2:nsIn K Zh "LONGEST"=some (some (.int 8 tk2)))
  (z1:nsIn K Zh "abs"=some none)
  (z2:nsIn K Zh "all"=some none)
  (z3:nsIn K Zh "bool"=some none)
  (z4:nsIn K Zh "dict"=some none)
  (z5:nsIn K Zh "enumerate"=some none)
  (z6:nsIn K Zh "int"=some none)
  (z7:nsIn K Zh "isinstance"=some none)
  (z8:nsIn K Zh "len"=some none)
  (z9:nsIn K Zh "list"=some none)
  (W5:nsIn K Zh "max"=some none)
  (z11:nsIn K Zh "min"=some none)
  (z12:nsIn K Zh "range"=some none)
  (z13:nsIn K Zh "set"=some none)
  (z14:nsIn K Zh "sorted"=some none)
  (T3:nsIn K Zh "str"=some none)
  (z16:nsIn K Zh "sum"=some none)
  (z17:nsIn K Zh "tuple"=some none) :
  ∃fd:ZP,(∀(s:Hq)(v:Value),aeF s fd ⟨[v],[]⟩ [("_law_script",v)])/\∀base:Heap,K.In base->base.Ns Zh mg->dD l.prog w K mg base CX0 6 fa fd Rt (M3 K):=by
 have e:=hfa.symm.trans (mg_of X G Q2);cases e;have B:Blt mg:=⟨mg_none_of X G z1,mg_none_of X G z2,mg_none_of X G z3,mg_none_of X G z4,mg_none_of X G z5,mg_none_of X G z6,mg_none_of X G z7,mg_none_of X G z8,mg_none_of X G z9,mg_none_of X G W5,mg_none_of X G z11,mg_none_of X G z12,mg_none_of X G z13,mg_none_of X G z14,mg_none_of X G T3,mg_none_of X G z16,mg_none_of X G z17⟩;have b2:Cls K C1:=⟨pg1,hd1,po1,T1⟩;have z:Kla K mg "Stack" nl2:=⟨C1,mg_of X G b0,b2,abl.mpr ⟨B8,abl.mpr ⟨s2,abl.mpr ⟨G0,abl.mpr ⟨u1,abl.mpr ⟨M6,abl.mpr ⟨o4,List.forall_mem_nil _⟩⟩⟩⟩⟩⟩⟩;have e4:Glb mg "LETTERS" (.str "abcdefghijklmnopqrstuvwxyz"):=⟨_,mg_of X G g1,⟨_,rfl⟩⟩;have e3:Glb mg "LONGEST" (.int 8):=⟨_,mg_of X G g2,⟨_,rfl⟩⟩;have F1:=cA (st:=jA) l1 Z k1;have F2:=cA (st:=ju) l2 c2 k2;have F3:=cA (st:=jb) l3 c3 k3;have F4:=cA (st:=jz) l4 c4 k4;have F5:=cA (st:=lq) l5 c5 k5;have F6:=cA (st:=g8) l6 c6 k6;have F7:=cA (st:=jL) l7 c7 k7;have F8:=cA (st:=jd) l8 c8 k8;have F9:=cA (st:=gJ) l9 c9 k9;have x0:=cA (st:=cH) l10 c10 R7;have B5:=cA (st:=gP) l11 c11 I6;have L1:=cA (st:=iz) Q9 c12 D3;have E0:=cA (st:=jF) T4 c13 v1;have E2:=cA (st:=gn) l14 c14 B6;have v9:=cA (st:=iG) R9 V4 t6;have y2:=cA (st:=gK) l16 Q8 J8;have r3:=cA (st:=gH) T0 V0 n6;have v7:=cA (st:=jJ) X3 Y6 B2;have J7:=cA (st:=gM) X6 X8 N9;have w9:=cA (st:=eZ) l20 P8 o9;have t8:=cA (st:=lC) S3 U0 E5;have M9:=cA (st:=je) S7 c22 n8;have r5:=cA (st:=eG) Z8 S6 p3;have L7:=cA (st:=iD) W1 P2 G8;have D1:=cA (st:=di) S0 c25 C7;have w8:=cA (st:=dR) U7 X7 K3;have q0:=cA (st:=gf) T5 c27 o5;have I1:=cA (st:=k_) R2 c28 J2;have C8:=cA (st:=eO) l29 c29 w2;have q8:=cA (st:=gQ) l30 c30 v4;have s0:=cA (st:=ig) P1 V3 x8;have K0:=cA (st:=ik) l32 Y9 I0;have Y3:=cA (st:=mG) l33 c33 R0;refine⟨fnOf "law" "law" (bx mG) (bc mG) (aA mG) .none h8 m0 j2 j3 e7 k0,λs v=>.of_eq rfl,λbase _ _=>?_⟩;have e0:uJ l.prog w K mg base:=⟨_,_,Cp F1 B,mg_of X G a1,k1,F1.binds (ps:=Q_) λ_ _ _ _ _ _=>un2 λ_ _=>rfl⟩;have D:jc l.prog w K mg base:=⟨_,_,Bm F2 B,mg_of X G a2,k2,F2.binds (ps:=Rm) λ_ _ _ _ _ _=>un2 λ_ _=>rfl⟩;have d5:rY l.prog w K mg base:=⟨_,_,zL F3 B D,mg_of X G a3,k3,F3.binds (ps:=nl1) λ_ _ _ _ _ _=>un1 λ_=>rfl⟩;have e1:ug l.prog w K mg base:=⟨_,_,Bv F4 B D,mg_of X G a4,k4,F4.binds (ps:=nl1) λ_ _ _ _ _ _=>un1 λ_=>rfl⟩;have V:nq l.prog w K mg base:=⟨_,_,DK F5 B D,mg_of X G a5,k5,F5.binds (ps:=nl1) λ_ _ _ _ _ _=>un1 λ_=>rfl⟩;have d7:q9 l.prog w K mg base:=⟨_,_,zV F6 B V,mg_of X G a6,k6,F6.binds (ps:=nl7) λ_ _ _ _ _ _=>un2 λ_ _=>rfl⟩;have e5:xY l.prog w K mg base:=⟨_,_,Dk F7 B e4 e3,mg_of X G a7,k7,F7.binds (ps:=nl8) λ_ _ _ _ _ _=>un1 λ_=>rfl⟩;have d8:um l.prog w K mg base:=⟨_,_,yO F8 B e5,mg_of X G a8,k8,F8.binds (ps:=N8) λ_ _ _ _ _ _=>un3 λ_ _ _=>rfl⟩;have b6:qH l.prog w K mg base:=⟨_,_,xg F9 B d8,mg_of X G a9,k9,F9.binds (ps:=["things"]) λ_ _ _ _ _ _=>un1 λ_=>rfl⟩;have b1:KMk l.prog w K mg base 4 "Stack" nl5 (spI ⟨K,mg⟩ ob0 ob0 bF):=⟨C1,_,_,mg_of X G b0,⟨R5,W3,W7,R4⟩,rB x0 B b6 z,x0.binds (ps:=nl5) λ_ _ _ _ _ _=>un3 λ_ _ _=>rfl⟩;have c0:oR l.prog w K mg base:=⟨_,_,vH B5 B D V,mg_of X G a11,I6,B5.binds (ps:=Ql) λ_ _ _ _ _ _=>un4 λ_ _ _ _=>rfl⟩;have d3:qy l.prog w K mg base:=⟨_,_,xr L1 B,mg_of X G Z6,D3,L1.binds (ps:=P_) λ_ _ _ _ _ _=>un2 λ_ _=>rfl⟩;have d9:uA l.prog w K mg base:=⟨_,_,Bp E0 B d3,mg_of X G Z2,v1,E0.binds (ps:=QS) λ_ _ _ _ _ _=>un2 λ_ _=>rfl⟩;have b5:iw l.prog w K mg base 1 "Stack" "unhang" JG (spI ⟨K,mg⟩ ob0 ob0 cP):=⟨C1,_,_,mg_of X G b0,b2,⟨Z7,P7,B6⟩,uU E2 B z,E2.binds (ps:=JG) λ_ _ _ _ _ _=>un2 λ_ _=>rfl⟩;have d1:iw l.prog w K mg base 2 "Stack" "back" nl3 (spI ⟨K,mg⟩ ob0 ob0 cM):=⟨C1,_,_,mg_of X G b0,b2,⟨S9,Y8,t6⟩,xK v9 B b5 z,v9.binds (ps:=nl3) λ_ _ _ _ _ _=>un1 λ_=>rfl⟩;have I:iK l.prog w K mg base:=⟨_,_,wG y2 B,mg_of X G Y2,J8,y2.binds (ps:=Nq) λ_ _ _ _ _ _=>un2 λ_ _=>rfl⟩;have b9:iw l.prog w K mg base 2 "Stack" "weigh" nl9 (spI ⟨K,mg⟩ ob0 ob0 dm):=⟨C1,_,_,mg_of X G b0,b2,⟨T9,i17,n6⟩,w5 r3 B I z,r3.binds (ps:=nl9) λ_ _ _ _ _ _=>un3 λ_ _ _=>rfl⟩;have e2:uw l.prog w K mg base:=⟨_,_,Bb v7 B,mg_of X G a18,B2,v7.binds (ps:=Ld) λ_ _ _ _ _ _=>un2 λ_ _=>rfl⟩;have J:iw l.prog w K mg base 2 "Stack" "chain" nl0 (spP ⟨K,mg⟩ aW):=⟨C1,_,_,mg_of X G b0,b2,⟨a19,i19,N9⟩,wC J7 B I z,J7.binds (ps:=nl0) λ_ _ _ _ _ _=>un2 λ_ _=>rfl⟩;have b3:iw l.prog w K mg base 3 "Stack" "size_of" nl0 (spP ⟨K,mg⟩ bZ):=⟨C1,_,_,mg_of X G b0,b2,⟨V2,Q7,o9⟩,tB w9 B J z,w9.binds (ps:=nl0) λ_ _ _ _ _ _=>un2 λ_ _=>rfl⟩;have e6:BX l.prog w K mg base:=⟨_,_,G9 t8 B,mg_of X G X5,E5,t8.binds (ps:=Ib) λ_ _ _ _ _ _=>un2 λ_ _=>rfl⟩;have d6:uE l.prog w K mg base:=⟨_,_,zE M9 B,mg_of X G R8,n8,M9.binds (ps:=Ru) λ_ _ _ _ _ _=>un2 λ_ _=>rfl⟩;have b4:oK l.prog w K mg base:=⟨_,_,uN r5 B,mg_of X G P3,p3,r5.binds (ps:=QF) λ_ _ _ _ _ _=>un2 λ_ _=>rfl⟩;have d0:rP l.prog w K mg base:=⟨_,_,xu L7 B d6 b4,mg_of X G P5,G8,L7.binds (ps:=Jj) λ_ _ _ _ _ _=>un3 λ_ _ _=>rfl⟩;have U:iw l.prog w K mg base 1 "Stack" "standing" nl3 (spP ⟨K,mg⟩ bA):=⟨C1,_,_,mg_of X G b0,b2,⟨a25,i25,C7⟩,sO D1 B z,D1.binds (ps:=nl3) λ_ _ _ _ _ _=>un1 λ_=>rfl⟩;have a0:iw l.prog w K mg base 3 "Stack" "class_of" nl0 (spP ⟨K,mg⟩ bR):=⟨C1,_,_,mg_of X G b0,b2,⟨a26,i26,K3⟩,sU w8 B I d0 U z,w8.binds (ps:=nl0) λ_ _ _ _ _ _=>un2 λ_ _=>rfl⟩;have F:iw l.prog w K mg base 4 "Stack" "sum_of" nl0 (spP ⟨K,mg⟩ cu):=⟨C1,_,_,mg_of X G b0,b2,⟨a27,W6,o5⟩,uX q0 B e6 a0 z,q0.binds (ps:=nl0) λ_ _ _ _ _ _=>un2 λ_ _=>rfl⟩;have b8:tM l.prog w K mg base:=⟨_,_,Dz I1 B,mg_of X G a28,J2,I1.binds (ps:=N6) λ_ _ _ _ _ _=>un2 λ_ _=>rfl⟩;have N:iw l.prog w K mg base 1 "Stack" "offset" nl6 (spP ⟨K,mg⟩ bw):=⟨C1,_,_,mg_of X G b0,b2,⟨Y5,i29,w2⟩,uR C8 B z,C8.binds (ps:=nl6) λ_ _ _ _ _ _=>un2 λ_ _=>rfl⟩;have b7:iw l.prog w K mg base 3 "Stack" "steps" NB (spI ⟨K,mg⟩ ob0 ob0 dq):=⟨C1,_,_,mg_of X G b0,b2,⟨a30,V7,v4⟩,vz q8 B I b8 J N z,q8.binds (ps:=NB) λ_ _ _ _ _ _=>un3 λ_ _ _=>rfl⟩;have d4:iw l.prog w K mg base 3 "Stack" "hang" nl4 (spI ⟨K,mg⟩ ob0 ob0 dF):=⟨C1,_,_,mg_of X G b0,b2,⟨V5,i31,x8⟩,xm s0 B J N z,s0.binds (ps:=nl4) λ_ _ _ _ _ _=>un4 λ_ _ _ _=>rfl⟩;have d2:iw l.prog w K mg base 4 "Stack" "join" nl4 (spI ⟨K,mg⟩ ob0 ob0 dI):=⟨C1,_,_,mg_of X G b0,b2,⟨U3,Q0,I0⟩,xn K0 B b7 U d4 b8 z,K0.binds (ps:=nl4) λ_ _ _ _ _ _=>un4 λ_ _ _ _=>rfl⟩;exact dD.imp (U8 Y3 B e0 d5 e1 d7 b1 D c0 d9 d1 V b9 e2 b3 F d2) λvs H Q E ⟨a,ns,e,hS,Y,q⟩=>by subst e;exact Ui Y hS q
theorem walk{q:ZL}{O:List Str}{J:(Str->Option Value)->Heap->Prop}{I:World->Heap->Prop}{d:DefRec}{K:Params->Frag}(hn:l.most=some 63)(B:d.params.defaults=[])
  (N:∀(w:World)(h:Heap),I w h->(K w.params).In h)
  (F:∀(w:World)(mg:Str->Option Value)(fa:Addr)(h:Heap),(K w.params).In h->h.Ns Zh mg->mg d.name=some (.ref fa)->
   ∃fd:ZP,(∀(s:Hq)(u:Value),aeF s fd ⟨[u],[]⟩ [("_law_script",u)])/\∀base:Heap,(K w.params).In base->base.Ns Zh mg->dD l.prog w (K w.params) mg base CX0 6 fa fd Rt (M3 (K w.params))) :
  af8 q O J I l.row.toRowW d [] (λf vs=>afX f vs):=
 L2.walk_of (n:=63) (k:=6) (x:="_law_script") (CX:=λ_=>CX0) (sp:=λw=>M3 (K w.params)) hn (by decide) B ⟨rfl,by decide,by decide,rfl⟩ N F (λ_ _ a ns Y _ D=>⟨a,ns,rfl,D,Y,λ_=>rfl⟩) λ_ _ _ _ _ z=>z
end Jb
end
namespace PySem.W.Fast
def tw15921987392195640938:=0
def tw8877192410641055825:=0
def tw3945486975674001299:=0
def tw8721681863991076711:=0
def tw6145409710160080612:=0
def tw13143154533080144620:=0
def tw16059931352193371354:=0
def tw10459544680495960981:=0
def tw299734404449041394:=0
def tw7479559572775109711:=0
def tw15099816308185318666:=0
def tw3971517109544969317:=0
def tw6281569933372152355:=0
def tw15557127081899685533:=0
def tw9743758975979997721:=0
def tw5714633504649840120:=0
def tw10899767783609897694:=0
def tw6161610482392214664:=0
def tw4126587025454662341:=0
def tw2090481288482822617:=0
def tw6934056843826401734:=0
def tw3786947693657933834:=0
def tw8994277426890231990:=0
def tw8146717147925275171:=0
def tw15658412526256148999:=0
def tw1202209122323343841:=0
def tw11520669021642710171:=0
def tw6081124810446447785:=0
def tw4699210759177654774:=0
def tw3474242628701562364:=0
def tw1573442373355635934:=0
def tw14558168564490371188:=0
def tw870998922497913566:=0
def tw395774408357120706:=0
def tw16116125884209714659:=0
def tw17522791545698367807:=0
def tw761684807335192062:=0
def tw1032658741918091170:=0
def tw3569885230474834606:=0
def tw12475879618560712830:=0
def tw5283025844806176999:=0
def tw8440448435226935651:=0
def tw6504404926538898034:=0
def tw2779622407051266278:=0
def tw8111730378318207337:=0
def tw653425254229318133:=0
def tw83229923028777441:=0
def tw12474448392297207894:=0
def tw13325161886379498708:=0
def tw6449515551795842009:=0
def tw7833928268515737152:=0
def tw3730426536694824248:=0
def tw8054782506157325316:=0
def tw7394808056387035051:=0
def tw1536067021200762235:=0
def tw15737437507685080065:=0
def tw2165688557129478553:=0
def tw292439396015639138:=0
def tw13074222536414956050:=0
def tw10322014247514302372:=0
def tw2887879791269262216:=0
def tw11249017823354123725:=0
def tw35329935763181511:=0
def tw7039857192298502974:=0
def tw4924643332265256469:=0
def tw7397250575593127006:=0
def tw5091040789400916623:=0
def tw8723724338455858631:=0
def tw1948324962160962885:=0
def tw15866546356866840001:=0
def tw7622037299058162051:=0
def tw7422412727534327922:=0
def tw14334298749902084210:=0
def tw18095565418499684984:=0
def tw3231576467160568196:=0
def tw16089441041316728188:=0
def tw7560338560742956407:=0
def tw17620850842259047173:=0
def tw1520702758961471571:=0
def tw10416033200846245257:=0
def tw13196410666157778823:=0
def tw14243356421328411508:=0
def tw667638303008019946:=0
def tw12591553109252734905:=0
def tw9473585785262374273:=0
def tw798399591200026128:=0
def tw17117224420505755111:=0
def tw17016537887470152203:=0
def tw8825380293478908330:=0
def tw7826514315310050213:=0
def tw14845703800067002206:=0
def tw13462552985186387891:=0
def tw4494837100541260238:=0
def tw11687689471722778046:=0
def tw17301893737809325101:=0
def tw8731889531593175057:=0
def tw10977568114062010921:=0
def tw1114237070512428470:=0
def tw10779200082794744475:=0
def tw17024097148349419061:=0
def tw9234195149366227498:=0
def tw1160336747188713273:=0
def tw8222330283727550971:=0
def tw1092536193594110408:=0
def tw12878481235495656882:=0
def tw621213264445190694:=0
def tw10998864127520003671:=0
def tw8441937049619387154:=0
def tw16292466214561566632:=0
def tw4769403622777813374:=0
def tw8169423717275575485:=0
def tw4300208498829308778:=0
def tw956376984471114970:=0
def tw12676003781232290087:=0
def tw7582867597548530220:=0
def tw1976971695966532259:=0
def tw9610629347821876525:=0
def tw12374950939229634807:=0
def tw15016620160077796084:=0
def tw14883540079394875323:=0
def tw15712671916697258442:=0
def tw4625839497716700669:=0
def tw5914878132101804244:=0
def tw1729539730093189387:=0
def tw9909677897892440124:=0
def tw4579936122879592586:=0
def tw10250060195581976489:=0
def tw15846649453672062987:=0
def tw7790195893544233712:=0
def tw6379013874255276672:=0
def tw15528572704427311048:=0
def tw933660149558902294:=0
def tw4981492607999509502:=0
def tw3600657211719887949:=0
def tw2516037211168209787:=0
def tw6979479832992083819:=0
def tw17978822756959065433:=0
def tw5725123174010720998:=0
def tw13148777282456979575:=0
def tw12355865121608578902:=0
def tw14255552344972051754:=0
def tw16476335896081964214:=0
def tw16789822262089291535:=0
def tw18319618885640499846:=0
def tw1963082398772121928:=0
def tw10831314405706277954:=0
def tw12535747910701503885:=0
def tw8674224938032649050:=0
def tw7340105407792208078:=0
def tw10080304685633484130:=0
def tw1629635596074717907:=0
def tw664401320855022778:=0
def tw9682190240934059267:=0
def tw7480487156227883124:=0
def tw2092211091047744782:=0
def tw5394780016533645093:=0
def tw2285202074905989792:=0
def tw14405467289822280611:=0
def tw16442179760717374506:=0
def tw12450527054809976872:=0
def tw2432267038958782434:=0
def tw7609711950694133525:=0
def tw13278405088285757375:=0
def tw15278930066574438369:=0
def tw5730581620807371067:=0
def tw16131397314371655479:=0
def tw9417298105027022925:=0
def tw277774557094504802:=0
def tw15289960065443102639:=0
def tw5032853797665603766:=0
def tw1238236297669543687:=0
def tw11838404661791995724:=0
def tw13083132054482202696:=0
def tw7203849753168149120:=0
def tw16393594164072163231:=0
def tw12112956323425862065:=0
def tw6314611925644381661:=0
def tw1796482003346906198:=0
def tw9079293581860886440:=0
def tw13190438336265543643:=0
def tw10112877551356121481:=0
def tw16839170473453628711:=0
def tw16932670634183990809:=0
def tw4436186130618224904:=0
def tw3260287270888802725:=0
def tw8805797859811570361:=0
def tw16408526477156795773:=0
def tw9535187220371827420:=0
def tw1370610823238434427:=0
def tw4343381051498271657:=0
def tw660305309966409588:=0
def tw4320996441181508364:=0
def tw9122312096647688050:=0
def tw9648870827995077978:=0
def tw9944579276957821799:=0
def tw11542224283995659810:=0
def tw18316801471219940965:=0
def tw12988384297949824701:=0
def tw12991690549223506894:=0
def tw14822750477701700363:=0
def tw5753593963561536388:=0
def tw16402734533552570082:=0
def tw2548903634265516864:=0
def tw8411895232713808616:=0
def tw6603694734009711675:=0
def tw15555996140428894046:=0
def tw16843741165961728516:=0
def tw3879826351051306854:=0
def tw8098938013399821765:=0
def tw16590417917493678274:=0
def tw6619773116234222555:=0
def tw15505161197640838306:=0
def tw4813753866942304185:=0
def tw16372134046673282462:=0
def tw2459898071151890928:=0
def tw13866821020764240513:=0
def tw2055777261279994662:=0
def tw9507120207736353888:=0
def tw16235939106992451576:=0
def tw6554279058892916380:=0
def tw13006392271240524783:=0
def tw5227412674926680087:=0
def tw6375702921927543643:=0
def tw17725135032813572867:=0
def tw633709587334418707:=0
def tw4932524135290305840:=0
def tw6006000272818016619:=0
def tw2183485119607722444:=0
def tw16006526200876774282:=0
def tw3909324159829090547:=0
def tw3777787512791988493:=0
def tw16131879273815739333:=0
def tw9342523485543554277:=0
def tw17683039781939024541:=0
def tw13184831746904670822:=0
def tw10242234447396606417:=0
def tw13571030793937695494:=0
def tw465772203689548827:=0
def tw15920503777373447085:=0
def tw12213619217239582335:=0
def tw7159122579950211778:=0
def tw5610797669593344803:=0
def tw8974867640543346425:=0
def tw4544872344656316867:=0
def tw10962113027574293365:=0
def tw6311090084910672557:=0
def tw6049223987258074237:=0
def tw1599652429296341763:=0
def tw4551069993779664852:=0
def tw9865846203059796319:=0
def tw1420841661697602161:=0
def tw10851687070322673420:=0
def tw6648908399869990284:=0
def tw15029635539383964940:=0
def tw12384734585154238971:=0
def tw15471736313144043008:=0
def tw11773544517849623891:=0
def tw12082872167808911113:=0
def tw4014780973218308220:=0
def tw13737055304687045607:=0
def tw18133109537878952990:=0
def tw11424191270670005572:=0
def tw4047457225177361383:=0
def tw13744210070502084686:=0
def tw9299593646569234027:=0
def tw7702186360254625432:=0
def tw17386128263797186141:=0
def tw15447728741427279006:=0
def tw14902677561220136019:=0
def tw2581922387096912586:=0
def tw10510943340287830088:=0
def tw3345454828524198746:=0
def tw4731105986680356323:=0
def tw4112289893216494273:=0
def tw268620744624107472:=0
def tw4151754580216358822:=0
def tw1465072850843305113:=0
def tw8974252565644210420:=0
def tw13685867305236837671:=0
def tw15607877230796190033:=0
def tw6223554924053766217:=0
def tw15574878889403585587:=0
def tw5486647961863237846:=0
def tw13039278579678953288:=0
def tw9640736242246531707:=0
def tw11216684685228748136:=0
def tw10827751824956321377:=0
def tw16063538854469371990:=0
def tw4471160588509722764:=0
def tw12992356032048621003:=0
def tw16322082515917778170:=0
def tw7494917097406655468:=0
def tw13908499288723293179:=0
def tw14060311523114894406:=0
def tw3312732448153268826:=0
def tw7026514819703404505:=0
def tw3773263966780983534:=0
def tw17585113959817203307:=0
def tw6306277024674619213:=0
def tw13283959185737208530:=0
def tw16158560974535667363:=0
def tw8315651389010425668:=0
def tw5573011468689668059:=0
def tw7626992229446737023:=0
def tw4778504196067684111:=0
def tw3335650611286816434:=0
def tw13830798964993456821:=0
def tw9308352353164767780:=0
def tw9042730758507778860:=0
def tw8044872439382449575:=0
def tw9788912620580327674:=0
def tw9754511811128017311:=0
def tw8150471116858823059:=0
def tw10058779754259922829:=0
def tw11675072279431041983:=0
def tw6285651930836944397:=0
def tw5590740247183904457:=0
def tw11155850906780416070:=0
def tw8094319784702938475:=0
def tw17391135657793595782:=0
def tw18325542871545607107:=0
def tw17937094216144642397:=0
def tw497956692728663047:=0
def tw10485490487848494324:=0
def tw5180160894634636783:=0
def tw133558258864962344:=0
def tw3659602747612333787:=0
def tw10421965005431354350:=0
def tw17108573544471851436:=0
def tw9171392923519824485:=0
def tw16602159119714750810:=0
def tw14232915947104220453:=0
def tw10568627926810326276:=0
def tw468306890388180520:=0
def tw2570044594738799529:=0
def tw11369043861487697552:=0
def tw4042688568968364690:=0
def tw7627926361837518965:=0
def tw3330113012012300290:=0
def tw12024799564525864826:=0
def tw1985663413256653409:=0
def tw11891400553019846670:=0
def tw15604024323072568948:=0
def tw2497225920653954763:=0
def tw9477744104876757088:=0
def tw10574302535488287771:=0
def tw13096826296587931312:=0
def tw17296277369683184383:=0
def tw15524918290864728374:=0
def tw17488521298410202890:=0
def tw9500154209778089076:=0
def tw15535058222495701447:=0
def tw6917971084964430650:=0
def tw15873366979799222925:=0
def tw12764899141246024122:=0
def tw10963716215525006633:=0
def tw12272855437713410146:=0
def tw12366541726886381945:=0
def tw15031043445617053842:=0
def tw1843792984455515610:=0
def tw8658373550748558866:=0
def tw17525366429934064234:=0
def tw5885048746960894881:=0
def tw17111510731062854414:=0
def tw3389033157414162543:=0
def tw3561908055577694695:=0
def tw5178135605949074939:=0
def tw14490581532860125659:=0
def tw15240480797814266139:=0
def tw3762367125388944217:=0
def tw8282891703483158511:=0
def tw8991229585153016296:=0
def tw8976723237991129259:=0
def tw5322492076215183169:=0
def tw8519851942012348685:=0
def tw2191114381891522984:=0
def tw4066486137008372656:=0
def tw15704158187727192288:=0
def tw17289441326980969202:=0
def tw13929927039535385778:=0
def tw11784743680691133954:=0
def tw15070162516848766943:=0
def tw6712162875035313004:=0
def tw7505277548884968823:=0
def tw15563570788355406294:=0
def tw2820326074201543501:=0
def tw2537316969975537222:=0
def tw9449902220737119168:=0
def tw11120120276970647195:=0
def tw10037841379636898361:=0
def tw15018105993646633848:=0
def tw13290188700146295584:=0
def tw13370658467380124412:=0
def tw15989569283210730598:=0
def tw814547810184352732:=0
def tw11333000853150054773:=0
def tw4408873991163397411:=0
def tw9005600719134433664:=0
def tw8998427820881635332:=0
def tw9789035453869812625:=0
end PySem.W.Fast
open PySem PySem.W PyProof.Rows
set_option maxRecDepth 100000 in
set_option maxHeartbeats 0 in
theorem PySem.Challenge.cw_joinback_k25_sizes_and_sums_holds : PySem.Challenge.rw_joinback_k25_sizes_and_sums.Holds := by
 w_on;o_law;k_head;(case hw=>w_witness2)
 k_fill
 refine Jb.walk (l:=PySem.Challenge.rw_joinback_k25_sizes_and_sums) rfl rfl (λw h Y=>PySem.W.kIn_of Y) ?F
 case F=>
  intro w mg fa h KX G hmg;refine' Jb.all_mk KX G hmg ?_ ?_ ?_ ?_ ?_ ?_ ?_ ?_ ?_ ?_ ?_ ?_ ?_ ?_ ?_ ?_ ?_ ?_ ?_ ?_ ?_ ?_ ?_ ?_ ?_ ?_ ?_ ?_ ?_ ?_ ?_ ?_ ?_ ?_ ?_ ?_ ?_ ?_ ?_ ?_ ?_ ?_ ?_ ?_ ?_ ?_ ?_ ?_ ?_ ?_ ?_ ?_ ?_ ?_ ?_ ?_ ?_ ?_ ?_ ?_ ?_ ?_ ?_ ?_ ?_ ?_ ?_ ?_ ?_ ?_ ?_ ?_ ?_ ?_ ?_ ?_ ?_ ?_ ?_ ?_ ?_ ?_ ?_ ?_ ?_ ?_ ?_ ?_ ?_ ?_ ?_ ?_ ?_ ?_ ?_ ?_ ?_ ?_ ?_ ?_ ?_ ?_ ?_ ?_ ?_ ?_ ?_ ?_ ?_ ?_ ?_ ?_ ?_ ?_ ?_ ?_ ?_ ?_ ?_ ?_ ?_ ?_ ?_ ?_ ?_ ?_ ?_ ?_ ?_ ?_ ?_ ?_ ?_ ?_ ?_ ?_ ?_ ?_ ?_ ?_ ?_ ?_ ?_ ?_ ?_ ?_ ?_ ?_ ?_ ?_ ?_ ?_ ?_ ?_ ?_ ?_ ?_ ?_ ?_ ?_ ?_ ?_ ?_ ?_ ?_ ?_ ?_ ?_ ?_ ?_ ?_ ?_ ?_ ?_ ?_ ?_ ?_
  any_goals k_is
  any_goals k_is
