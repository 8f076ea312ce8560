import PyProof.Rows.All
import Wide.All
import OpenK.AllK
import Wide.FinOn
import Lean
import PyProof.EqAt
import PyProof.EqKinds
import PyProof.TupleCall
import KE.KDictList
import KE.KMinBuiltin
import KE.KSortTup
import PyProof.AttrMissHeap
import PyProof.NeKinds
import PyProof.Rows.CallKwBuiltin
import PyProof.StrWalks
import PyProof.TupleIter
import PyProof.TupleOfSeq
import PySem.Challenge.RW_joinback_k15_papers_of_since
set_option Elab.async false
set_option linter.all false
set_option compiler.extract_closed false
set_option genSizeOf false
set_option bootstrap.genMatcherCode false
set_option maxRecDepth 100000
set_option hygiene false
local macro_rules
 |`(tactic|simp![$x,*]$[$l:location]?)=>`(tactic|simp only[$x,*]$[$l:location]?)
set_option hygiene true
open Lean.Parser.Command Lean.Parser.Term in
local macro_rules
 |`(command|def $i:declId $s:optDeclSig := $v)=>`(command|noncomputable def $i $s := $v)
 |`(command|def $i:declId $s:optDeclSig $[$a:matchAlt]*)=>`(command|noncomputable def $i $s:optDeclSig $[$a:matchAlt]*)
section
def Yi:=@if_pos
def Yx:=@if_true
def YB:=@if_neg
def YL:=@decide_eq_false
def ZR:=@decide_eq_true
def Z1:=@decide_eq_true_iff
def aaa:=@if_false
open Option renaming bind_some->gD,map_some->YM,isSome_map->acH,isSome_iff_exists->acR,map_eq_some_iff->adk,map->adQ,getD_none->aeI
open PySem renaming wpAny_bind->X3,Shared->X4,sizeLine->Yc,wpAny_pure->Yg,starEach->Yh,Program->Yu,FuncData->YC,compareOp->YG,Around->Y0,boot_len->Y_,mainGlobals->Zo,assignEach->Zv,backTo->Zx,wpAny_newObj_type->ZC,foldedSetIterable->ZD,wpAny_holding->ZF,binaryOp->ZK,sysModules->ZW,codeAny_builtin->ZZ,wpAny_truthy_bool->Z4,bootBuiltins->Z7,builtinLookup_eq_fast->aab,mem_of_lookup->aal,Keyword->aam,wpAny_field->aap,tupleKind_room_in1->aaq,wpAny_passesOwn->aas,valueAt->aat,attributeBase->aaw,wpAny_mono->aaC,codeAny_mono->aaG,wpAny_call_entry->aaI,wpAny_callSpecial?_slot->aaN,swapsWith->aaQ,wpAny_Call_Name_kw->aaR,typeLookup_type->aaS,keywordEach->aaU,wpAny_pyIter_list->aaZ,IsPart->aa4,call_meetsIn->aa6
open PySem renaming isSubtype_type->aa7,swapsWithSole->abh,behindInMarks->abi,holding->abl,codeAny->abm,sliceBounds->abn,wpAny_typeOf->abx,scanBound->abA,assign->abI,wpAny_pyNext_list_item->abJ,swappedStores->abO,plainId_quiet->abP,NameKind->abQ,backToKw->abR,wpAny_isInstance->abS,tupleKind->abU,wpAny_pyNext_list_end->abW,wpAny_execs_nil->ab3,wpAny_rule->ab4,letOwnedTupleGo->ab6,codeAny_call_builtin->ab9,getItem->acd,sizeLine_eq->aci,PassesOwn->acn,wpAny_standAt->acv,wpAny_attempt->acB,slot_list_getitem->acG,call_meets->acL,callerA->acN,Paired->acO,pyIter->acQ,noFill_tuple_add->acS,wpAny_getItem_list_slice->acT,wpAny_comprehension_free->acV,wpAny_pyNext_tuple_item->ac4,wpAny_pyNext_tuple_end->ade,seqIndex_of->adg,wpAny_Call_method_late->adi,wpAny_of_eq->adl,wpAny_throw->adm
open PySem renaming richCompare_meets_room->ado,isTrue->adp,pyNext->adq,rawInt->adt,BindsTo->adv,wpAny_notOrdered_dict->ady,wpAny_setAddHashed_of->adB,wpAny_runValue->adC,weight_type_call_type->adD,dictSetDefault->adE,wpAny_load->adG,typeLookup->adH,PlainAttrs->adJ,attributeErrorLeaves->adN,assignInOrder->adT,seq_tuple_add->adU,evalPart_none->adV,concat_meets->aec,seqIndex?->aed,seqIndex_neg->aee,standAt->aeq,list_append->aew,call->aeQ,Fin->aeZ
open List renaming getElem?_eq_getElem->X5,mem_append_right->X7,map_cons->X8,length_map->X_,length_cons->Yd,mem_append_left->Ye,mem_cons->Yj,getElem?_cons_succ->Yn,getElem?_cons_zero->Yo,map_map->Yq,nodup_append->Yr,length_nil->Yt,cons_append->Yv,nodup_cons->Yy,append_nil->Yz,mem_of_getElem?->YD,map_nil->YF,set_cons_succ->YH,mem_cons_of_mem->YJ,replicate->YK,set_cons_zero->YQ,length_append->YW,length_take->YX,getElem?_append_left->Y5,range->Y9,getElem?_append_right->Za,findIdx?_eq_some_iff_getElem->Zc,sublist_append_right->Zf,findIdx?_eq_none_iff->Zg,mem_cons_self->Zh,map_append->Zi,take_of_length_le->Zq,mem_append->Zy,mem_of_mem_take->Zz,sublist_append_left->ZG,drop_length->ZM,Sublist->ZP,getElem?_set_self->ZQ,getElem_cons_drop->ZS,map_congr_left->ZV
open List renaming drop_eq_getElem_cons->Z0,getElem?_eq_none->aac,length->aad,find?_cons->aaf,append_assoc->aah,getElem?_set->aai,map_take->aak,getElem_mem->aao,ext_getElem?->aay,length_drop->aaH,length_reverse->aaM,any_cons->aaP,range_succ_eq_map->aaX,mem_range->aa1,set_append_right->aa8,perm_append_comm->aa9,any_eq_true->abe,mem_of_mem_drop->abf,all_eq_true->abg,all_cons->abk,filterMap_cons->abo,getElem?_eq_none_iff->abt,all_map->abz,reverse_cons->abH,eraseIdx_append_of_length_le->abM,drop_of_length_le->abN,nil_sublist->abT,length_singleton->abX,take_append_drop->abZ,mem_iff_getElem?->ab0,Perm->ab1,mem_filter->ab2,of_mem_zip->ab7,drop_zero->acf,mem_filterMap->aco,map_drop->acD,getElem?_inj->acJ,getElem_inj->acP,lookup_cons->acU,set_eq_of_length_le->acW
open List renaming mem_map->acX,any_map->acY,zip->acZ,take_length->ac2,getElem?_replicate->ac5,drop_eq_nil_of_le->adn,getElem?_reverse->adx,mapM_cons->adz,length_filter_le->adF,getElem?_of_mem->adP,sum_cons->adZ,getElem?_range->ad4,length_pos_iff->ad7,mem_singleton->aeg,findIdx?_cons->aei,pairwise_cons->aem,zip_cons_cons->aen,getElem?_take->aeo,any_eq_false->aes,take_sublist->aev,all_eq_false->aez,map_fst_zip->aeK,map_snd_zip->aeL,getElem_map->aeO,mem_reverse->aeP,foldl_cons->aeS,filter_map->aeT,take_succ->aeX
open PySem.Heap renaming get?_push_of_some->X6,lt_size->Yk,get?_push_size->Ym,get?_update_other->Z9,size_push->aan,SameBut->aa3,get?_update_self->aa5,IsSliceOf->aeW
open PySem.W renaming Frag->Yb,kia_one->ZJ,fnOf->abv,kitx_list->abF,kitx_dict->abG,kitOne->aca,keepIn->acb,kitAny->ace,methodObj->acE,instObj->ac9,OpenLaw->ac_,cellsFrom_some->adf,lookIn->adu,codeIn->adw,kitx_float->ad_,kitx_tuple->aea,kitx_none->aet,kitx_bool->aeu,plainGet->aeD,kitx_int->aeE,kitx_str->aeF,kitx_own->aeG,findIn->aeU,WalkO->ae1
open Sum renaming inr->Yl,inl->acM
open Bool renaming and_eq_true->Yp,false_ne_true->YT,false_eq_true->Zb,and_self->Zj,eq_iff_iff->Z6,not_false->ach,not_true->acA,and_eq_true_iff->adM,and_true->adY,true_and->ad0,not_eq_true'->aeA,or_eq_true->aeR,and_assoc->aeV
open Nat renaming lt_of_lt_of_le->Ys,ne_of_lt->Yw,le_trans->Y4,lt_irrefl->Z_,sub_self->aag,zero_add->aar,lt_succ_of_lt->aax,zero_le->aaV,le_of_lt->aa2,lt_succ_self->abd,ne_of_gt->ab5,min_eq_left->adb,lt_or_ge->ael,le_succ->aeC,min_le_right->aeH,min_eq_right->aeN
open PySem.Builtin.Slice renaming slicePlaces->YS,sliceAdjust->Y6,sliceApplied->aav
open PySem.PassesOwn renaming never->YZ
open PyProof.Rows renaming slot_tuple_getitem->Y7,boot_isinstance->Zt,callWith_type1->Z5,boot_tuple->aaE,envOfC->abj,AllBare->abV,assignInOrder_cons->ack,setObjOf_fresh->acq,subscriptTail->acz,subscriptTail_builtinR->adh,tail_any->adI,boot_all->adS,entry_tuple_getitem->ad1,boot_list->aep,IntsAre->aer
open PySem.Value renaming ref->Y8,type->aaB,str->aa_,none->aba,int->acj,bool->acK,float->aeB,isStrOf->ae0
open PySem.Builtin.Str renaming occurrences->Zd,strKind->abq,partsBetween->aby
open Option.some renaming inj->Ze,injEq->aaz
open PySem.F renaming plainAttrs_dict->Zk,called_set->Zu,slot_dict_get->Zw,plainAttrs_list->Z3,type_dict_get->aau,slot_list_getattribute->aaJ,slot_list_append->aaK,type_list_append->aaL,entry_dict_get->aaW,args_tuple_add_2->abw,slot_dict_update->abC,type_dict_update->abD,entry_tuple_add->abE,slot_tuple_add->abK,args_dict_get_2->ac6,args_dict_get_3->ac7,args_list_append_2->adL,args_dict_update_2->adO,entry_list_append->ad2,entry_dict_update->ad3,slot_list_append->aef,slot_dict_update->aeh,entry_type_call->aex,plain_list_iadd->aey
open Or renaming inr->Zm,inl->ZX
open True renaming intro->Zn
open Ne renaming symm->Zr
open PySem.Around renaming under_plainId->ZL,under_plain->aek
open PyProof.Rows.F renaming plain_set_update_loop->Z2,entry_set_update_loop->aaO
open PySem.Str renaming ofString->Z8,length_append->aa0
open PySem.Builtin.Tuple renaming tupleExact->aae,tupleItemsOf->acy
open Function renaming comp->aaj
open List.Sublist renaming refl->aaA
open False renaming elim->aaD
open PySem.PyData renaming hasDict->aaF,shownAll->aaT,showable->abu,showableAll->acr,hasDictAll->acI,shown->ac1,depthAll->ada
open Int renaming toNat_natCast->aaY,emod_lt_of_pos->abB,emod_nonneg->ab_,fmod_eq_emod_of_nonneg->acw,fdiv_eq_ediv_of_nonneg->acx
open PySem.Obj renaming mapSeq->abb,data_mapDictKeys->adR
open Array renaming length_toList->abp,getElem?_toList->abY
open ForInStep renaming yield->abr
open PySem.Calls renaming callWith_builtin->abL,evalArgs_plain->ab8,Name_function_global->acu,spliced_nil->acF,spliced_cons->aeb
open PySem.Builtin.Frozenset renaming updateFrom->acg
open PySem.Heap.IsSliceOf renaming new->acp
open PySem.Paired renaming length->acs
open PySem.Shared renaming TypeIs->acC
open PySem.SeqAt.EqAt renaming int_int->ac0,int_str->ad8,str_int->ad9,same->aeY
open PySem.Challenge renaming pw_joinback_k15_papers_of_since->ac3
open PySem.Builtin.Dict renaming updateFrom->ac8
open List.Perm renaming append_left->adA
open PySem.NameKind renaming free->adW
open Prod.mk renaming injEq->adX
open PySem.Heap.SameBut renaming update->ad5
open Std.Legacy.Range renaming forIn_eq_forIn_range'->ad6,size->ae2
open PySem.Code renaming quiet_builtin->aej
open PySem.IsL renaming update->aeJ
open PySem.SeqAt renaming EqAt->aeM
open PySem
variable{XP:(Str->Option Value)->Heap->Prop}{a it f dx sl:Addr}{A:Around}{osl:Array (Option Value)}{g' g:Array GenState}{items:Array Value}{b led:Bool}{op:CmpOp}{d:DefRec}{d':Drawn}{env:Env}{e c tg elt target:Expr}{h h' base:Heap}{m:Int}{C:Int->Int->Prop}{pins:List (Addr×Obj)}{U:List (Option Expr)}{ch M fp L:List Addr}{es B ifs elts:List Expr}{p js:List Nat}{body:List Stmt}{N ps l ks ns N' ys ss:List Str}{us its:List Value}{P:List Value->Prop}{t' i j n tk x1:Nat}{ob pr:Nat->Bool}{o:Obj}{pos pos' apos p2 cpos tpos ypos:Pos}{prog:Program}{R:Result->X4->Prop}{scope:Scope}{s:Shared}{x y qual name:Str}{mg:Str->Option Value}{q:Str->Option abQ}{T:String}{κ α β ι:Type}{u v oc v' u':Value}{E:Value->Shared->Prop}{Q:Value->X4->Prop}{w:World}{YP:World->Heap->Prop}{s':X4}{fd:YC}
namespace L2
open PySem PySem.Spec PyProof.Rows
abbrev Key:=Sum Int Str
def uq:Key->Value->Bool
 |.inl k,v=>Value.isInt k v
 |.inr x,v=>ae0 x v
def Xx(w:World):Key->Int
 |.inl k=>hashInt k
 |.inr x=>hashStr w x
theorem dI:∀{k:Key}{v:Value},uq k v=true->(∃i t,k=acM i/\v=acj i t)∨(∃x t,k=Yl x/\v=aa_ x t)
 |.inl i,v,h=>by
  obtain⟨t,e⟩:=Value.isInt_shape (k:=i) (v:=v) h;exact .inl ⟨i,t,rfl,e⟩
 |.inr x,v,h=>by
  obtain⟨t,e⟩:=Value.isStrOf_shape (x:=x) (v:=v) h;exact .inr ⟨x,t,rfl,e⟩
theorem HH(i:Int)(t:Tok):uq (.inl i) (.int i t)=true:=by simp[uq,Value.isInt]
theorem Hy(x:Str)(t:Tok):uq (.inr x) (.str x t)=true:=by simp[uq,ae0]
theorem Uq(a b:Int):decide ((acM a:Key)=acM b)=(a==b):=by
 by_cases e:a=b
 .subst e;simp
 .have h:¬(acM a:Key)=acM b:=λq=>e (Sum.inl.inj q)
  rw[YL h];exact(beq_eq_false_iff_ne.mpr e).symm
theorem TX(a b:Str):decide ((Yl a:Key)=Yl b)=decide (a=b):=by
 by_cases e:a=b
 .subst e;simp
 .have h:¬(Yl a:Key)=Yl b:=λq=>e (Sum.inr.inj q)
  rw[YL h,YL e]
theorem Sg(a:Int)(b:Str):decide ((acM a:Key)=Yl b)=false:=YL (λq=>nomatch q)
theorem Ul(a:Str)(b:Int):decide ((Yl a:Key)=acM b)=false:=YL (λq=>nomatch q)
noncomputable def bA(prog:Yu)(w:World):PySem.KeyKind prog w Key where
 is:=uq
 hash:=Xx w
 inj:=λv a b Y U=>by
  rcases dI Y with⟨i,t,rfl,rfl⟩|⟨x,t,rfl,rfl⟩
  .rcases dI U with⟨j,u,rfl,e⟩|⟨y,u,rfl,e⟩
   .injection e with e1 _;rw[e1]
   .exact nomatch e
  .rcases dI U with⟨j,u,rfl,e⟩|⟨y,u,rfl,e⟩
   .exact nomatch e
   .injection e with e1 _;rw[e1]
 byValue:=λk v h=>by
  rcases dI h with⟨i,t,rfl,rfl⟩|⟨x,t,rfl,rfl⟩<;>rfl
 pyHash:=λJ h=>by
  rcases dI J with⟨i,t,rfl,rfl⟩|⟨x,t,rfl,rfl⟩
  .exact wpAny_pyHash_int h
  .exact wpAny_pyHash_str h
 eqBool:=λF J h=>by
  rcases dI F with⟨i,t,rfl,rfl⟩|⟨x,t,rfl,rfl⟩
  .rcases dI J with⟨j,u,rfl,rfl⟩|⟨y,u,rfl,rfl⟩
   .rw[Uq]at h;exact wpAny_eqBool_int h
   .rw[Sg]at h;exact ad8 i t y u _ _ _ _ h
  .rcases dI J with⟨j,u,rfl,rfl⟩|⟨y,u,rfl,rfl⟩
   .rw[Ul]at h;exact ad9 x t j u _ _ _ _ h
   .rw[TX]at h;exact wpAny_eqBool_str h
 «strs»:=λk x t v h=>by
  rcases dI h with⟨i,u,rfl,e⟩|⟨y,u,rfl,e⟩
  .exact nomatch e
  .injection e with e1 _
   subst e1;cases v<;>rfl
theorem Ce(prog:Yu)(w:World)(i:Int)(t:Tok):(bA prog w).is (.inl i) (.int i t)=true:=HH i t
theorem Cr(prog:Yu)(w:World)(x:Str)(t:Tok):(bA prog w).is (.inr x) (.str x t)=true:=Hy x t
inductive V where
 |non|bl (b:Bool)|int (i:Int)|str (x:Str)|byt (b:Array UInt8)|flt (b:UInt64)|ref (a:Addr)|ty (n:String)
 deriving DecidableEq
def RelV:V->Value->Prop
 |.non,u=>u=aba
 |.bl b,u=>u=acK b
 |.int i,u=>∃t,u=acj i t
 |.str x,u=>∃t,u=aa_ x t
 |.byt b,u=>∃t,u=Value.bytes b t
 |.flt b,u=>∃t,u=aeB b t
 |.ref a,u=>u=Y8 a
 |.ty n,u=>u=aaB n
noncomputable abbrev Vals:List V->List Value->Prop:=acO RelV
variable{xs:List V}
theorem Vals.length(r:Vals xs us):xs.length=us.length:=acs r
theorem Vals.get:∀{xs:List V}{us:List Value}{i:Nat}{x:V},Vals xs us->xs[i]? =some x->∃u,us[i]? =some u/\RelV x u
 |_,_,_,_,.nil,e=>by simp at e
 |_,_,0,_,.cons r _,e=>by simp at e;subst e;exact⟨_,rfl,r⟩
 |_,_,i+1,x,.cons _ t,e=>by
  obtain⟨u,h1,h2⟩:=Vals.get (i:=i) (x:=x) t (by simpa using e);exact⟨u,by simpa using h1,h2⟩
theorem Vals.set{x:V}(r:RelV x u):∀{xs:List V}{us:List Value}(i:Nat),Vals xs us->Vals (xs.set i x) (us.set i u)
 |_,_,_,.nil=>.nil
 |_,_,0,.cons _ t=>.cons r t
 |_,_,i+1,.cons q t=>.cons q (Vals.set r i t)
theorem Vals.append:∀{xs ys:List V}{us Y:List Value},Vals xs us->Vals ys Y->Vals (xs++ys) (us++Y)
 |_,_,_,_,.nil,s=>s
 |_,_,_,_,.cons r t,s=>.cons r (Vals.append t s)
theorem Vals.take:∀{xs:List V}{us:List Value}(n:Nat),Vals xs us->Vals (xs.take n) (us.take n)
 |_,_,0,_=>.nil
 |_,_,_+1,.nil=>.nil
 |_,_,n+1,.cons r t=>.cons r (Vals.take n t)
theorem Vals.drop:∀{xs:List V}{us:List Value}(n:Nat),Vals xs us->Vals (xs.drop n) (us.drop n)
 |_,_,0,r=>r
 |_,_,_+1,.nil=>.nil
 |_,_,n+1,.cons _ t=>Vals.drop n t
def mZ:Option V->Option Value->Prop
 |some v,some u=>RelV v u
 |none,none=>True
 |_,_=>False
def KV:List (κ×V)->List (κ×Value)->Prop:=acO λ(p:κ×V)(q:κ×Value)=>p.1=q.1/\RelV p.2 q.2
def kV:Key->V
 |.inl i=>.int i
 |.inr x=>.str x
inductive HO where
 |lst (xs:List V)
 |tup (xs:List V)
 |dK (kvs:List (Key×V))|dT (kvs:List (List Key×V))
 |set (S:Int->Bool) (n:Nat)
 |ins (C dx:Addr) (fs:List (Str×V))
 |own (x:Addr)
 |xd (fs:List (Str×V))
 |met (f x:Addr)
 |rng (lo hi:Int)
 |frz (o:Obj) (u:HO)
 |tbl (ps:Array Value)
 |ext (φ:Heap->Prop)
abbrev Hp:=Addr->Option HO
def upd(H:Hp)(a:Addr)(o:HO):Hp:=λb=>if b=a then some o else H b
variable{H:Hp}{o:HO}
theorem aW:upd H a o a=some o:=by unfold upd;rw[Yi rfl]
variable{b:Addr}
theorem aR(h:b≠a):upd H a o b=H b:=by unfold upd;rw[YB h]
theorem PJ{u:HO}:upd (upd H a o) a u=upd H a u:=by
 funext b;unfold upd;split<;>rfl
theorem jP{u:HO}(h:H a=some o)(h':H b=some u)(d:o≠u):a≠b:=by
 intro e;subst e;rw[h]at h';exact d (Ze h')
theorem bJ(h:H a=some o)(h':H b=none):a≠b:=by
 intro e;subst e;rw[h]at h';cases h'
def mq(h:Heap)(a:Addr)(items:Array Value):Prop:=∃o,h.get? a=some o/\o.cls= .type "tuple"/\∃n,o.data= .seq items n/\o.dict=none
theorem mq.new(h:Heap)(items:Array Value):mq (h.push {cls:=.type "tuple",data:=.seq items}) h.objs.size items:=⟨_,Ym _ rfl,rfl,_,rfl,rfl⟩
theorem mq.t(x:mq h a items):IsTup h a items:=let⟨o,e,c,n,d,_⟩:=x;⟨o,e,c,n,d⟩
section
variable(P:Program)(w:World)
def cN(H:Hp)(h:Heap)(a:Addr):HO->Prop
 |.lst xs=>xs.length<=Yc/\∃(its:List Value)(n:Nat),Vals xs its/\h.get? a=some {cls:=.type "list",data:=.seq its.toArray n}
 |.tup xs=>xs.length<=Yc/\∃its:List Value,Vals xs its/\mq h a its.toArray
 |.dK kvs=>kvs.length<=Yc/\(a==ZW)=false/\∃B,KV kvs B/\h.DictOf (bA P w) a B
 |.dT kvs=>kvs.length<=Yc/\(a==ZW)=false/\∃xs:List (List Key×Addr×Value),
  acO (λ(p:List Key×V)(q:List Key×Addr×Value)=>p.1=q.1/\H q.2.1=some (.tup (p.1.map kV))/\RelV p.2 q.2.2) kvs xs/\
  ∃o es ep,h.get? a=some o/\o.ExactDict/\o.data= .dict es ep/\es.toList=xs.map (entryOfKey (abU (bA P w)))/\(xs.map (·.1)).Nodup
 |.set S n=>h.SetOf (intKind P w) a S n
 |.ins C dx fs=>H dx=some (.own a)/\fs.length<=1000/\dx≠a/\h.get? a=some (ac9 C dx)/\
  ∃D,h.Ns1 dx D/\(∀f,mZ (fs.lookup f) (D f))/\PySem.Within D (fs.map (·.1))
 |.own _=>∃o,h.get? a=some o
 |.xd fs=>∃D,h.Ns1 a D/\∀f,mZ (fs.lookup f) (D f)
 |.rng lo hi=>∃t u v,h.get? a=some {cls:=.type "range",data:=.fields #[.int lo t,.int hi u,.int 1 v]}
 |.frz o u=>h.get? a=some o/\cN H h a u
 |.tbl ps=>h.get? a=some {cls:=.none,data:=.fields ps}
 |.met f x=>h.get? a=some (acE (.ref f) (.ref x))
 |.ext F=>F h/\(∃o,h.get? a=some o)/\∀h1 h2:Heap,F h1->(∀o,h1.get? a=some o->h2.get? a=some o)->F h2
def HOk(H:Hp)(h:Heap):Prop:=∀a o,H a=some o->cN P w H h a o
end
variable{P:Program}
theorem cN.lt(x:cN P w H h a o):a<h.objs.size:=by
 cases o with
 |lst xs=>obtain⟨_,_,_,_,e⟩:=x;exact Yk e
 |tup xs=>obtain⟨_,_,_,p⟩:=x;exact p.t.lt
 |dK kvs=>obtain⟨_,_,_,_,o,_,_,e,_⟩:=x;exact Yk e
 |dT kvs=>obtain⟨_,_,_,_,o,_,_,e,_⟩:=x;exact Yk e
 |set S n=>obtain⟨o,_,_,_,e,_⟩:=x;exact Yk e
 |ins C dx fs=>obtain⟨_,_,_,e,_⟩:=x;exact Yk e
 |own y=>obtain⟨_,e⟩:=x;exact Yk e
 |xd fs=>obtain⟨_,⟨_,_,_,e,_⟩,_⟩:=x;exact Yk e
 |rng lo hi=>obtain⟨_,_,_,e⟩:=x;exact Yk e
 |frz ob u=>obtain⟨e,_⟩:=x;exact Yk e
 |tbl ps=>exact Yk (show h.get? a=some _ from x)
 |met f y=>exact Yk (show h.get? a=some _ from x)
 |ext F=>obtain⟨_,⟨_,e⟩,_⟩:=x;exact Yk e
theorem Paired.mapP{F G:α->β->Prop}:∀{q:List α}{z:List β},acO F q z->(∀a b,F a b->G a b)->acO G q z
 |_,_,.nil,_=>.nil
 |_,_,.cons r t,f=>.cons (f _ _ r) (Paired.mapP t f)
variable{H':Hp}
theorem cN.stay(x:cN P w H h a o)(k:∀b u,(b=a∨H b=some (.own a))->h.get? b=some u->h'.get? b=some u)
  (J:∀b,H b=some (.own a)->H' b=some (.own a)) (U:∀b xs,H b=some (.tup xs)->H' b=some (.tup xs)):cN P w H' h' a o:=by
 induction o with
 |lst xs=>obtain⟨z,its,n,r,e⟩:=x;exact⟨z,its,n,r,k _ _ (.inl rfl) e⟩
 |tup xs=>obtain⟨z,its,r,ob,e,c⟩:=x;exact⟨z,its,r,ob,k _ _ (.inl rfl) e,c⟩
 |dK kvs=>obtain⟨z,y,B,r,ob,es,ep,e,c⟩:=x;exact⟨z,y,B,r,ob,es,ep,k _ _ (.inl rfl) e,c⟩
 |dT kvs=>
  obtain⟨z,y,xs,r,ob,es,ep,e,c⟩:=x;exact⟨z,y,xs,Paired.mapP r λp q z=>⟨z.1,U _ _ z.2.1,z.2.2⟩,ob,es,ep,k _ _ (.inl rfl) e,c⟩
 |set S n=>obtain⟨ob,es,ep,t,e,c⟩:=x;exact⟨ob,es,ep,t,k _ _ (.inl rfl) e,c⟩
 |ins C dx fs=>
  obtain⟨d,z,Y,e,D,⟨od,es,ep,e2,c⟩,r⟩:=x;exact⟨J _ d,z,Y,k _ _ (.inl rfl) e,D,⟨od,es,ep,k _ _ (.inr d) e2,c⟩,r⟩
 |own y=>obtain⟨ob,e⟩:=x;exact⟨ob,k _ _ (.inl rfl) e⟩
 |xd fs=>obtain⟨D,⟨od,es,ep,e,c⟩,r⟩:=x;exact⟨D,⟨od,es,ep,k _ _ (.inl rfl) e,c⟩,r⟩
 |rng lo hi=>obtain⟨t,u,v,e⟩:=x;exact⟨t,u,v,k _ _ (.inl rfl) e⟩
 |frz ob u I=>obtain⟨e,q⟩:=x;exact⟨k _ _ (.inl rfl) e,I q⟩
 |tbl ps=>
  have e:h.get? a=some {cls:=.none,data:=.fields ps}:=x;show h'.get? a=some {cls:=.none,data:=.fields ps};exact k a _ (.inl rfl) e
 |met f y=>
  have e:h.get? a=some (acE (.ref f) (.ref y)):=x;show h'.get? a=some (acE (.ref f) (.ref y));exact k a _ (.inl rfl) e
 |ext F=>obtain⟨p,⟨o,e⟩,st⟩:=x;exact⟨st _ _ p λo q=>k _ _ (.inl rfl) q,⟨o,k _ _ (.inl rfl) e⟩,st⟩
theorem HOk.lt(x:HOk P w H h)(e:H a=some o):a<h.objs.size:=(x a o e).lt
theorem HOk.fresh(x:HOk P w H h)(e:h.objs.size<=a):H a=none:=by
 cases q:H a with
 |none=>rfl
 |some u=>exact absurd (Ys (x.lt q) e) (Z_ _)
theorem HOk.kept(x:HOk P w H h)(k:∀b u,h.get? b=some u->h'.get? b=some u):HOk P w H h':=λa o e=>
 (x a o e).stay (λb u _ q=>k b u q) (λ_ q=>q) λ_ _ q=>q
theorem HOk.laid(x:HOk P w H h)(k:∀b u,h.get? b=some u->h'.get? b=some u)(O:h.objs.size<=a)(new:cN P w (upd H a o) h' a o):HOk P w (upd H a o) h':=λb u e=>by
 have I:=x.fresh O;by_cases U:b=a
 .subst U;rw[aW]at e;cases e;exact new
 .rw[aR U]at e
  exact(x b u e).stay (λc v _ q=>k c v q) (λc q=>by rw[aR (bJ q I)];exact q) λc xs q=>by rw[aR (bJ q I)];exact q
def Rd(H:Hp)(a:Addr)(u:HO):Prop:=H a=some u∨∃o,H a=some (.frz o u)
theorem Rd.ok{P:Yu}{u:HO}(r:Rd H a u)(x:HOk P w H h):cN P w H h a u:=by
 rcases r with r|⟨o,r⟩
 .exact x a u r
 .obtain⟨_,q⟩:=x a _ r
  exact q
def Mut:Option HO->Prop
 |some (.lst _)=>True
 |some (.dK _)=>True
 |some (.dT _)=>True
 |some (.set _ _)=>True
 |some (.ins _ _ _)=>True
 |some (.ext _)=>True
 |_=>False
variable{x e:Addr}{o':HO}
theorem HOk.write(ok:HOk P w H h)(mu:Mut (H x))(Y:e=x∨H e=some (.own x))(k:∀b u,b≠e->h.get? b=some u->h'.get? b=some u)(O:∃u,h'.get? e=some u)
  (new:cN P w (upd H x o') h' x o'):HOk P w (upd H x o') h':=λb u q=>by
 have B:∀c y,H c=some (.own y)->c≠x:=λc y r z=>by subst z;rw[r]at mu;exact mu
 have I:∀c xs,H c=some (.tup xs)->c≠x:=λc xs r z=>by subst z;rw[r]at mu;exact mu
 by_cases U:b=x
 .subst U;rw[aW]at q;cases q;exact new
 .rw[aR U]at q
  by_cases D:b=e
  .have q':H b=some (.own x):=by
    rcases Y with z|z
    .exact absurd (D.trans z) U
    .rw[D];exact z
   rw[q]at q';cases q';obtain⟨v,J⟩:=O;exact⟨v,by rw[D];exact J⟩
  .refine(ok b u q).stay (λc v F r=>k c v ?_ r) (λc r=>by rw[aR (B c b r)];exact r) λc xs r=>by rw[aR (I c xs r)];exact r
   rcases F with rfl|F
   .exact D
   .rintro rfl
    rcases Y with z|z
    .exact B c b F z
    .rw[F]at z;cases z;exact U rfl
structure Un(fs ex:List Addr)(H H':Hp)(h h':Heap):Prop where
 keep:∀b o,h.get? b=some o->H b=none->b∉fs->b∉ex->h'.get? b=some o
 slot:∀b o,h.get? b=some o->H b=none->b∈fs->b∉ex->∃sl,h'.get? b=some {o with slots:=sl}
 free:∀b o,h.get? b=some o->H b=none->b∉ex->H' b=none
 there:∀b o,h.get? b=some o->b∉ex->∃o',h'.get? b=some o'
 tups:∀b xs,H b=some (.tup xs)->H' b=some (.tup xs)
 frzs:∀b o u,H b=some (.frz o u)->H' b=some (.frz o u)
 tbls:∀b ps,H b=some (.tbl ps)->∃more,H' b=some (.tbl (ps++more))
section
variable{fs fs' ex ex':List Addr}{H H1 H2:Hp}{h h1 h2 h':Heap}{a x e:Addr}{o:HO}
theorem Un.any(u:Un fs ex H H1 h h1){b:Addr}{ob:Obj}(q:h.get? b=some ob)(n:H b=none)(B:b∉ex):∃sl,h1.get? b=some {ob with slots:=sl}:=by
 by_cases U:b∈fs
 .exact u.slot b ob q n U B
 .exact⟨ob.slots,u.keep b ob q n U B⟩
theorem Un.kept(k:∀b u,h.get? b=some u->h'.get? b=some u):Un fs ex H H h h':=
 ⟨λb ob q _ _ _=>k b ob q,λb ob q _ _ _=>⟨ob.slots,k b ob q⟩,λ_ _ _ n _=>n,λb ob q _=>⟨ob,k b ob q⟩,λ_ _ q=>q,λ_ _ _ q=>q,λ_ ps q=>⟨#[],by rw[q];simp⟩⟩
theorem Un.refl:Un fs ex H H h h:=Un.kept λ_ _ q=>q
theorem Un.laid(k:∀b u,h.get? b=some u->h'.get? b=some u)(O:h.objs.size<=a)(I:H a=none):Un fs ex H (upd H a o) h h' where
 keep:=λb u q _ _ _=>k b u q
 slot:=λb u q _ _ _=>⟨u.slots,k b u q⟩
 free:=λb u q n _=>by rw[aR (Yw (Ys (Yk q) O))];exact n
 there:=λb u q _=>⟨u,k b u q⟩
 tups:=λb xs q=>by rw[aR (bJ q I)];exact q
 frzs:=λb u xs q=>by rw[aR (bJ q I)];exact q
 tbls:=λb ps q=>⟨#[],by rw[aR (bJ q I),q];simp⟩
theorem Un.write(mu:Mut (H x))(Y:e=x∨H e=some (.own x))(k:∀b u,b≠e->h.get? b=some u->h'.get? b=some u)(O:∃u,h'.get? e=some u):Un fs ex H (upd H x o) h h':=by
 have B:∀b,H b=none->b≠x:=λb n z=>by subst z;rw[n]at mu;exact mu
 have U:∀b,H b=none->b≠e:=λb n z=>by
  subst z;rcases Y with r|r
  .exact B b n r
  .rw[n]at r;cases r
 have V:∀b u,H b=some u->¬Mut (some u)->b≠x:=λb u q F z=>by subst z;rw[q]at mu;exact F mu
 refine⟨λb u q n _ _=>k b u (U b n) q,λb u q n _ _=>⟨u.slots,k b u (U b n) q⟩,λb u q n _=>by rw[aR (B b n)];exact n,λb u q _=>?_,
  λb xs q=>by rw[aR (V b _ q λz=>z)];exact q,λb u xs q=>by rw[aR (V b _ q λz=>z)];exact q,λb ps q=>⟨#[],by rw[aR (V b _ q λz=>z),q];simp⟩⟩
 by_cases D:b=e
 .subst D;exact O
 .exact⟨u,k b u D q⟩
end
def trk(h:Heap)(H:Hp):List Addr:=(Y9 h.objs.size).filter λa=>(H a).isSome
def zB(h:Heap)(H:Hp):Heap:=PySem.W.hideAll h (trk h H)
theorem Jj(h:Heap)(H:Hp):(zB h H).objs.size=h.objs.size:=PySem.W.hideAll_size _ _
variable{o:Obj}
theorem KR(e:h.get? b=some o)(n:H b=none):(zB h H).get? b=some o:=
 PySem.W.hideAll_get _ e λV=>by
  have q:(H b).isSome=true:=(ab2.mp V).2;rw[n]at q;simp at q
theorem Qf(e:(zB h H).get? b=some o):h.get? b=some o/\H b=none:=by
 have e':h.get? b=some o:=PySem.W.of_hideAll (trk h H) e;refine⟨e',?_⟩;cases q:H b with
 |none=>rfl
 |some x=>
  have V:b∈trk h H:=ab2.mpr ⟨aa1.mpr (Yk e'),by simp[q]⟩;have z:(zB h H).get? b=none:=PySem.W.hideAll_none (trk h H) V;rw[z]at e;cases e
def Qg(g h:Heap)(L:Addr):List (Addr×Obj):=(Y9 h.objs.size).filterMap λa=>if a=L∨(g.get? a).isSome=true then none else(h.get? a).map λo=>(a,o)
def rest(g h:Heap)(L d:Addr):List (Addr×Obj):=(Qg g h L).filter λp=>decide (p.1≠d)
structure Mod(K:PySem.W.Frag)(mg:Str->Option Value)(base:Heap):Prop where
 kin:K.In base
 glob:base.Ns Zo mg
 blt:∃mb,base.Ns builtinsNs mb/\∀x:Str,x≠"__name__"->mb x=Z7 x
 nolimit:base.NoLimit
structure Cx where
 prog:Yu
 w:World
 K:Yb
 mg:Str->Option Value
 base:Heap
 A:Y0
 N:List Str
 s₀:X4
 H₀:Hp
 env:Env
 outer:List Env
 stack:List Env
 ex:List Addr
 fn:Str->Bool
 calm:Bool
 pn:List (Addr×Obj)
 xe:Value->X4->Prop
def frs(l:List Env):List Addr:=l.filterMap (·.frame)
noncomputable abbrev Cx.fs(X:Cx):List Addr:=frs X.outer
def Vis(z:Scope)(x:Str):Prop:=z.names.lookup x=some .local∨z.names.lookup x=some .cell∨z.names.lookup x=some .free
def Loc(z:Scope)(x:Str):Prop:=z.names.lookup x=some .local∨z.names.lookup x=some .cell
def Look(env:Env)(h:Heap)(m:Str->Option Value)(x:Str)(u:Value):Prop:=
 (env.kindOf x=some .local/\m x=some u)∨((env.kindOf x=some .cell∨env.kindOf x=some .free)/\∃c,env.cells.lookup x=some c/\h.IsCell c (some u))
structure Cx.Ok(X:Cx):Prop where
 mod:Mod X.K X.mg X.base
 kind:X.env.scope.kind= .function
 glob:X.env.globals=Zo
 blt:X.env.builtins=builtinsNs
 above:X.s₀.heap.objs.size<=X.env.locals
 inj:∀x y c,X.env.cells.lookup x=some c->X.env.cells.lookup y=some c->x=y
 has:∀x,(X.env.kindOf x=some .cell∨X.env.kindOf x=some .free)->∃c,X.env.cells.lookup x=some c
 cab:∀x c,X.fn x=true->X.env.cells.lookup x=some c->X.s₀.heap.objs.size<=c
 hd:X.calm=true->X.A.handled=none
 frames:X.A.frames=some X.stack
 stk:X.stack=X.outer∨(X.stack=X.env::X.outer/\X.env.frame=some X.env.locals)
 exf:∀b∈X.ex,b≠X.env.locals/\∀x c,X.env.cells.lookup x=some c->c≠b
 bs:∀b o,X.base.get? b=some o->X.s₀.heap.get? b=some o/\X.H₀ b=none
 bsz:X.base.objs.size<=X.s₀.heap.objs.size
 noex:∀b o,X.base.get? b=some o->b∉X.ex
 exfs:∀b∈X.ex,b∉X.fs
 funs:X.s₀.heap.FunFrames X.base X.outer
 frf:∀b∈X.fs,X.H₀ b=none
structure Inv(X:Cx)(pins:List (Addr×Obj))(σ:List (Option V))(H:Hp)(s:Shared):Prop where
 ok:X.Ok
 os:s.os=X.s₀.os
 bare:abV s.gens
 base:Un X.fs X.ex X.H₀ H X.s₀.heap s.heap
 loc:∃m,s.heap.Ns X.env.locals m/\∀(i:Nat)(x:Str)(v:V),X.N[i]? =some x->σ[i]? =some (some v)->Vis X.env.scope x->∃u,RelV v u/\Look X.env s.heap m x u
 cell:∀x c,X.env.cells.lookup x=some c->∃v,s.heap.IsCell c v
 free:H X.env.locals=none
 freeC:∀x c,X.env.cells.lookup x=some c->H c=none
 pin:∀p∈X.pn++pins,s.heap.get? p.1=some p.2/\H p.1=none/\p.1≠X.env.locals/\p.1∉X.fs/\∀v,p.2.data≠.cell v
 hok:HOk X.prog X.w H s.heap
 len:σ.length=X.N.length
variable{X:Cx}
theorem Cx.Ok.nofr(ok:X.Ok)(e:X.base.get? b=some o):b∉X.fs:=λU=>by
 have:=(ok.funs.mem U).1;rw[e]at this;cases this
variable{σ:List (Option V)}
theorem Inv.bs(I:Inv X pins σ H s):∀b o,X.base.get? b=some o->s.heap.get? b=some o/\H b=none:=λb o e=>
 ⟨I.base.keep b o (I.ok.bs b o e).1 (I.ok.bs b o e).2 (I.ok.nofr e) (I.ok.noex b o e),I.base.free b o (I.ok.bs b o e).1 (I.ok.bs b o e).2 (I.ok.noex b o e)⟩
theorem Inv.bk(I:Inv X pins σ H s):∀b o,X.base.get? b=some o->s.heap.get? b=some o:=λb o e=>(I.bs b o e).1
theorem Inv.mod(I:Inv X pins σ H s):Mod X.K X.mg X.base:=I.ok.mod
theorem Inv.kIn(I:Inv X pins σ H s):X.K.In s.heap:=I.ok.mod.kin.keeps I.bk
theorem Inv.lt(I:Inv X pins σ H s):X.env.locals<s.heap.objs.size:=let⟨_,hn,_⟩:=I.loc;hn.lt
theorem Inv.sz(I:Inv X pins σ H s):X.s₀.heap.objs.size<=s.heap.objs.size:=Y4 I.ok.above (aa2 I.lt)
theorem Inv.nofs(I:Inv X pins σ H s)(h:s.heap.objs.size<=a):a∉X.fs:=λU=>by
 obtain⟨_,o,J,_⟩:=I.ok.funs.mem U;exact absurd (Ys (Yk J) (Y4 I.sz h)) (Z_ _)
theorem Inv.cne(I:Inv X pins σ H s):∀x c,X.env.cells.lookup x=some c->c≠X.env.locals:=λx c e z=>by
 obtain⟨v,o,J,hd⟩:=I.cell x c e;obtain⟨m,⟨o',es,ep,D,B,_⟩,_⟩:=I.loc;rw[z,D]at J;cases J;rw[B]at hd;cases hd
theorem Inv.funs(I:Inv X pins σ H s):s.heap.FunFrames X.base X.outer:=by
 have all:∀(l:List Env),(∀b∈frs l,b∈X.fs)->X.s₀.heap.FunFrames X.base l->s.heap.FunFrames X.base l:=by
  intro l
  induction l with
  |nil=>intro _ _;trivial
  |cons env r D=>
   intro O F;obtain⟨V,⟨L,o,Y,B,J,hd⟩,Z⟩:=F;have q:L∈X.fs:=O L (by unfold frs;rw[abo,Y];exact Zh);obtain⟨sl,e⟩:=I.base.slot L o J (I.ok.frf L q) q λz=>I.ok.exfs L z q;exact⟨V,⟨L,_,Y,B,e,hd⟩,D (λb U=>O b (by unfold frs;rw[abo,Y];exact YJ _ U)) Z⟩
 exact all X.outer (λ_ U=>U) I.ok.funs
theorem Inv.stack(I:Inv X pins σ H s):s.heap.FunFrames X.base X.stack:=by
 rcases I.ok.stk with e|⟨e,Y⟩
 .rw[e];exact I.funs
 .rw[e]
  obtain⟨m,q,_⟩:=I.loc;refine .cons (by rw[I.ok.kind];decide) Y q ?_ I.funs;exact Heap.get?_none_of_le (Y4 I.ok.bsz I.ok.above)
theorem Inv.stkSub(I:Inv X pins σ H s):∀b∈frs X.stack,b∈X.env.locals::X.fs:=λb U=>by
 rcases I.ok.stk with e|⟨e,Y⟩
 .rw[e]at U;exact YJ _ U
 .rw[e]at U
  unfold frs at U;rw[abo,Y]at U;exact U
theorem Inv.stkFree(I:Inv X pins σ H s):∀b∈frs X.stack,H b=none:=λb U=>by
 rcases Yj.mp (I.stkSub b U)with e|U
 .rw[e];exact I.free
 .obtain⟨_,o,ho,_⟩:=I.ok.funs.mem U
  exact I.base.free b o ho (I.ok.frf b U) λz=>I.ok.exfs b z U
theorem Inv.step(I:Inv X pins σ H s)
  (D:∀b∈ch,(b∈X.ex∨X.s₀.heap.objs.size<=b)/\b≠X.env.locals/\(∀x c,X.env.cells.lookup x=some c->c≠b)/\∀p∈X.pn++pins,p.1≠b)
  (keep:∀b o,b≠X.env.locals->b∉X.fs->b∉ch->s.heap.get? b=some o->H b=none->h'.get? b=some o)
  (slot:∀b o,b≠X.env.locals->b∈X.fs->b∉ch->s.heap.get? b=some o->H b=none->∃sl,h'.get? b=some {o with slots:=sl}) (free:∀b o,b∉ch->s.heap.get? b=some o->H b=none->H' b=none)
  (there:∀b o,b∉ch->s.heap.get? b=some o->∃o',h'.get? b=some o')
  (tups:∀b xs,H b=some (.tup xs)->H' b=some (.tup xs)) (frzs:∀b o u,H b=some (.frz o u)->H' b=some (.frz o u)) (tbls:∀b ps,H b=some (.tbl ps)->∃more,H' b=some (.tbl (ps++more)))
  (ns:∀m,s.heap.Ns X.env.locals m->h'.Ns X.env.locals m) (hok:HOk X.prog X.w H' h') (hg:abV g') :
  Inv X pins σ H' {s with heap:=h',gens:=g',drawn:=d',toks:=t'}:=by
 have a1:∀b o,X.s₀.heap.get? b=some o->b≠X.env.locals:=λb o e=>Yw (Ys (Yk e) I.ok.above);have a0:∀b o,X.s₀.heap.get? b=some o->b∉X.ex->b∉ch:=λb o e B U=>by
  rcases(D b U).1 with z|z
  .exact B z
  .exact absurd (Ys (Yk e) z) (Z_ _)
 have V:∀x c,X.env.cells.lookup x=some c->∀v,s.heap.IsCell c v->h'.IsCell c v:=λx c e v ⟨o,J,hd⟩=>by
  have Z:c∉ch:=λz=>(D c z).2.2.1 x c e rfl;by_cases F:c∈X.fs
  .obtain⟨sl,q⟩:=slot c o (I.cne x c e) F Z J (I.freeC x c e)
   exact⟨_,q,hd⟩
  .exact⟨o,keep c o (I.cne x c e) F Z J (I.freeC x c e),hd⟩
 refine⟨I.ok,I.os,hg,⟨λb o e n U B=>?_,λb o e n U B=>?_,λb o e n B=>?_,λb o e B=>?_,λb xs e=>tups b xs (I.base.tups b xs e),λb o xs e=>frzs b o xs (I.base.frzs b o xs e),λb ps e=>?_⟩,?_,λx c e=>?_,?_,λx c e=>?_,λp O=>?_,hok,I.len⟩
 .exact keep b o (a1 b o e) U (a0 b o e B) (I.base.keep b o e n U B) (I.base.free b o e n B)
 .obtain⟨sl,e1⟩:=I.base.slot b o e n U B
  obtain⟨a2,e2⟩:=slot b _ (a1 b o e) U (a0 b o e B) e1 (I.base.free b o e n B);exact⟨a2,e2⟩
 .obtain⟨o',e1⟩:=I.base.there b o e B
  exact free b o' (a0 b o e B) e1 (I.base.free b o e n B)
 .obtain⟨o',e1⟩:=I.base.there b o e B
  exact there b o' (a0 b o e B) e1
 .obtain⟨m1,e1⟩:=I.base.tbls b ps e
  obtain⟨m2,e2⟩:=tbls b _ e1;exact⟨m1++m2,by rw[e2,Array.append_assoc]⟩
 .obtain⟨m,hn,hl⟩:=I.loc
  refine⟨m,ns m hn,λi x v e1 e2 Y=>?_⟩;obtain⟨u,r,l⟩:=hl i x v e1 e2 Y;refine⟨u,r,?_⟩;rcases l with l|⟨k,c,e,z⟩
  .exact .inl l
  .exact .inr ⟨k,c,e,V x c e _ z⟩
 .obtain⟨v,z⟩:=I.cell x c e
  exact⟨v,V x c e v z⟩
 .obtain⟨m,⟨o,_,_,J,_⟩,_⟩:=I.loc
  exact free _ o (λz=>(D _ z).2.1 rfl) J I.free
 .obtain⟨v,o,J,hd⟩:=I.cell x c e
  exact free c o (λz=>(D c z).2.2.1 x c e rfl) J (I.freeC x c e)
 .obtain⟨e,n,ne,nf,d⟩:=I.pin p O
  have Z:p.1∉ch:=λz=>(D p.1 z).2.2.2 p O rfl;exact⟨keep p.1 p.2 ne nf Z e n,free p.1 p.2 Z e n,ne,nf,d⟩
theorem Inv.un(I:Inv X pins σ H s)(u:Un X.fs [] H H' s.heap h')(hok:HOk X.prog X.w H' h'):Inv X pins σ H' {s with heap:=h',toks:=t'}:=by
 obtain⟨m,⟨o,es,ep,J,r⟩,_⟩:=id I.loc;obtain⟨sl,q⟩:=u.any J I.free (by simp);exact I.step (g':=s.gens) (d':=s.drawn) (ch:=[]) (λ_ z=>nomatch z) (λb o _ U _ e n=>u.keep b o e n U (by simp)) (λb o _ U _ e n=>u.slot b o e n U (by simp)) (λb o _ e n=>u.free b o e n (by simp)) (λb o _ e=>u.there b o e (by simp)) u.tups u.frzs u.tbls (λB V=>by
  obtain⟨o',O,Y,D,Z⟩:=V;rw[J]at D;cases D;exact⟨_,O,Y,q,Z⟩) hok I.bare
theorem Inv.call(I:Inv X pins σ H s)(u:Un (frs X.stack) ch H H' s.heap h')(hok:HOk X.prog X.w H' h')(B:abV g')
  (a0:∀b∈ch,(b∈X.ex∨X.s₀.heap.objs.size<=b)/\b≠X.env.locals/\(∀x c,X.env.cells.lookup x=some c->c≠b)/\∀p∈X.pn++pins,p.1≠b) :
  Inv X pins σ H' {s with heap:=h',gens:=g',drawn:=d',toks:=t'}:=by
 obtain⟨m,⟨o,es,ep,J,r⟩,_⟩:=id I.loc;obtain⟨sl,q⟩:=u.any J I.free λz=>(a0 _ z).2.1 rfl;exact I.step (ch:=ch) a0 (λb o q U F e n=>u.keep b o e n (λz=>(Yj.mp (I.stkSub b z)).elim q U) F) (λb o _ _ F e n=>u.any e n F) (λb o F e n=>u.free b o e n F) (λb o F e=>u.there b o e F) u.tups u.frzs u.tbls (λm' V=>by
  obtain⟨o',O,Y,D,Z⟩:=V;rw[J]at D;cases D;exact⟨_,O,Y,q,Z⟩) hok B
theorem Inv.turned(I:Inv X pins σ H s)(k:∀b o,b≠it->s.heap.get? b=some o->h'.get? b=some o)(J:H it=none)(D:it≠X.env.locals)
  (h1:it∈X.ex∨X.s₀.heap.objs.size<=it) (h2:∀x c,X.env.cells.lookup x=some c->c≠it) (V:∀p∈X.pn++pins,p.1≠it):Inv X pins σ H {s with heap:=h',toks:=t'}:=by
 have B:∀b u,H b=some u->b≠it:=λb u e z=>by rw[z,J]at e;cases e
 refine I.step (g':=s.gens) (d':=s.drawn) (ch:=[it]) (λb U=>?_) (λb o _ _ F e _=>k b o (λz=>F (by simp[z])) e) (λb o _ _ F e _=>⟨o.slots,k b o (λz=>F (by simp[z])) e⟩) (λ_ _ _ _ n=>n)
  (λb o F e=>⟨o,k b o (λz=>F (by simp[z])) e⟩) (λ_ _ e=>e) (λ_ _ _ e=>e) (λb ps e=>⟨#[],by rw[e];simp⟩) (λm O=>?_) (λb u e=>?_) I.bare
 .have e:b=it:=by simpa using U
  subst e;exact⟨h1,D,h2,V⟩
 .obtain⟨o,es,ep,ho,r⟩:=O
  exact⟨o,es,ep,k _ o (Zr D) ho,r⟩
 .refine(I.hok b u e).stay (λc v F q=>k c v ?_ q) (λ_ q=>q) λ_ _ q=>q
  rcases F with z|z
  .rw[z];exact B b u e
  .exact B c _ z
theorem Inv.tok(I:Inv X pins σ H s)(t:Nat):Inv X pins σ H {s with toks:=t}:=I.un (h':=s.heap) (t':=t) Un.refl I.hok
theorem Inv.kept(I:Inv X pins σ H s)(k:∀b u,s.heap.get? b=some u->h'.get? b=some u):Inv X pins σ H {s with heap:=h',toks:=t'}:=I.un (Un.kept k) (I.hok.kept k)
theorem Inv.laid{o:HO}(I:Inv X pins σ H s)(k:∀b u,s.heap.get? b=some u->h'.get? b=some u)(O:s.heap.objs.size<=a)(new:cN X.prog X.w (upd H a o) h' a o) :
 Inv X pins σ (upd H a o) {s with heap:=h',toks:=t'}:=I.un (Un.laid k O (I.hok.fresh O)) (I.hok.laid k O new)
theorem Inv.write{o:HO}(I:Inv X pins σ H s)(mu:Mut (H x))(Y:e=x∨H e=some (.own x))(k:∀b u,b≠e->s.heap.get? b=some u->h'.get? b=some u)(O:∃u,h'.get? e=some u)
 (new:cN X.prog X.w (upd H x o) h' x o):Inv X pins σ (upd H x o) {s with heap:=h',toks:=t'}:=I.un (Un.write mu Y k O) (I.hok.write mu Y k O new)
theorem Inv.weak{O:List (Option V)}(I:Inv X pins σ H s)(Z:O.length=σ.length)(w:∀(i:Nat) v,O[i]? =some (some v)->σ[i]? =some (some v)):Inv X pins O H s:=
 ⟨I.ok,I.os,I.bare,I.base,let⟨m,hn,hl'⟩:=I.loc;⟨m,hn,λi x v e1 e2 Y=>hl' i x v e1 (w i v e2) Y⟩,I.cell,I.free,I.freeC,I.pin,I.hok,Z.trans I.len⟩
theorem Inv.pins_of{q:List (Addr×Obj)}(I:Inv X pins σ H s)(h:∀p∈q,s.heap.get? p.1=some p.2/\H p.1=none/\p.1≠X.env.locals/\p.1∉X.fs/\∀v,p.2.data≠.cell v):Inv X q σ H s:=
 ⟨I.ok,I.os,I.bare,I.base,I.loc,I.cell,I.free,I.freeC,λp O=>(List.mem_append.mp O).elim (λz=>I.pin p (Ye _ z)) (h p),I.hok,I.len⟩
variable{x:Str}
theorem Do(z:N.Nodup)(a:N[i]? =some x)(b:N[j]? =some x):i=j:=by
 obtain⟨h1,e1⟩:=List.getElem?_eq_some_iff.mp a;obtain⟨h2,e2⟩:=List.getElem?_eq_some_iff.mp b;exact(acP z).mp (e1.trans e2.symm)
variable{M:Model}{A:Y0}{E:Value->X4->Prop}{Q:Unit->X4->Prop}
theorem I_{v:V}(I:Inv X pins σ H s)(hN:X.N.Nodup)(hi:X.N[i]? =some x)(B:Loc X.env.scope x)(r:RelV v u)
  (h:∀s',Inv X pins (σ.set i (some v)) H s'->(∃a,aa3 a s.heap s'.heap/\(a=X.env.locals∨X.env.cells.lookup x=some a))->Q () s') (hf:X.fn x=true∨X.env.scope.names.lookup x=some .local:=by first|exact .inl rfl|exact .inr rfl|assumption):wpAny M A (storeName X.env x u) Q E s:=by
 obtain⟨m,hn,Z⟩:=id I.loc;have a5:(X.env.scope.kind== .class||(X.env.scope.kind== .module&&X.env.locals !=X.env.globals))=false:=by rw[I.ok.kind];rfl
 have a2:i<σ.length:=by rw[I.len];exact(List.getElem?_eq_some_iff.mp hi).1
 have cne:=I.cne;have a0:∀{a:Addr}{h':Heap},(∃o,s.heap.get? a=some o/\H a=none)->aa3 a s.heap h'->HOk X.prog X.w H h':=λ{a h'} Y O b ob e=>by
  obtain⟨_,_,a1⟩:=Y;refine(I.hok b ob e).stay (λc w' F q=>(O.2 c ?_).trans q) (λ_ q=>q) λ_ _ q=>q;rintro rfl;rcases F with rfl|F
  .rw[a1]at e;cases e
  .rw[a1]at F;cases F
 rcases B with J|J
 .refine wpAny_storeName_local J hn (λh' a6 O=>?_) a5
  obtain⟨oL,_,_,a7,_⟩:=id hn;refine h _ ⟨I.ok,I.os,I.bare,⟨λb o e n U B=>?_,λb o e n U B=>?_,I.base.free,λb o e B=>?_,I.base.tups,I.base.frzs,I.base.tbls⟩,⟨_,a6,λj y v' e1 e2 e3=>?_⟩,λy c e=>?_,I.free,I.freeC,λp hp=>?_,a0 ⟨oL,a7,I.free⟩ O,by simpa using I.len⟩ ⟨_,O,.inl rfl⟩
  .exact(O.2 b (Yw (Ys (Yk e) I.ok.above))).trans (I.base.keep b o e n U B)
  .obtain⟨sl,e1⟩:=I.base.slot b o e n U B
   exact⟨sl,(O.2 b (Yw (Ys (Yk e) I.ok.above))).trans e1⟩
  .obtain⟨o',e1⟩:=I.base.there b o e B
   exact⟨o',(O.2 b (Yw (Ys (Yk e) I.ok.above))).trans e1⟩
  .by_cases hj:j=i
   .subst hj
    rw[hi]at e1;cases e1;rw[ZQ a2]at e2;cases e2;exact⟨u,r,.inl ⟨J,by simp⟩⟩
   .rw[List.getElem?_set_ne (Zr hj)]at e2
    obtain⟨u',r',q⟩:=Z j y v' e1 e2 e3;refine⟨u',r',?_⟩;rcases q with⟨k,e⟩|⟨k,c,e,z⟩
    .refine .inl ⟨k,?_⟩
     have:y≠x:=λe=>hj (Do hN e1 (e▸hi));simp[this,e]
    .exact .inr ⟨k,c,e,z.sameBut O (cne y c e)⟩
  .obtain⟨w',z⟩:=I.cell y c e
   exact⟨w',z.sameBut O (cne y c e)⟩
  .obtain⟨e,n,ne,nf,d⟩:=I.pin p hp
   exact⟨(O.2 p.1 ne).trans e,n,ne,nf,d⟩
 .have hfn:X.fn x=true:=by
   rcases hf with z|z
   .exact z
   .rw[z]at J;cases J
  obtain⟨c,F⟩:=I.ok.has x (.inl J);obtain⟨w',z⟩:=I.cell x c F;refine wpAny_storeName_cell I.ok.kind J F z (λh' D O=>?_);obtain⟨oc,a3,a4⟩:=id z;refine h {s with heap:=h'} ⟨I.ok,I.os,I.bare,⟨λb o e n U B=>?_,λb o e n U B=>?_,I.base.free,λb o e B=>?_,I.base.tups,I.base.frzs,I.base.tbls⟩,⟨m,hn.sameBut O (Zr (cne x c F)),λj y v' e1 e2 e3=>?_⟩,λy c' e=>?_,I.free,I.freeC,λp hp=>?_,a0 ⟨oc,a3,I.freeC x c F⟩ O,by simpa using I.len⟩ ⟨c,O,.inr F⟩
  .exact(O.2 b (Yw (Ys (Yk e) (I.ok.cab x c hfn F)))).trans (I.base.keep b o e n U B)
  .obtain⟨sl,e1⟩:=I.base.slot b o e n U B
   exact⟨sl,(O.2 b (Yw (Ys (Yk e) (I.ok.cab x c hfn F)))).trans e1⟩
  .obtain⟨o',e1⟩:=I.base.there b o e B
   exact⟨o',(O.2 b (Yw (Ys (Yk e) (I.ok.cab x c hfn F)))).trans e1⟩
  .by_cases hj:j=i
   .subst hj
    rw[hi]at e1;cases e1;rw[ZQ a2]at e2;cases e2;exact⟨u,r,.inr ⟨.inl J,c,F,D⟩⟩
   .rw[List.getElem?_set_ne (Zr hj)]at e2
    obtain⟨u',r',q⟩:=Z j y v' e1 e2 e3;refine⟨u',r',?_⟩;rcases q with q|⟨k,c',e,z'⟩
    .exact .inl q
    .refine .inr ⟨k,c',e,z'.sameBut O ?_⟩
     rintro rfl;exact hj (Do hN e1 (I.ok.inj _ _ _ e F▸hi))
  .by_cases hcc:c'=c
   .subst hcc;exact⟨_,D⟩
   .obtain⟨w2,z2⟩:=I.cell y c' e
    exact⟨w2,z2.sameBut O hcc⟩
  .obtain⟨e,n,ne,nf,d⟩:=I.pin p hp
   refine⟨(O.2 p.1 ?_).trans e,n,ne,nf,d⟩;intro q;rw[q,a3]at e;have q':oc=p.2:=Ze e;exact d w' (by rw[←q'];exact a4)
theorem oA{v:V}(I:Inv X pins σ H s)(z:X.N.Nodup)(hi:X.N[i]? =some x)(B:Loc X.env.scope x)(r:RelV v u)
  (h:∀s',Inv X pins (σ.set i (some v)) H s'->Q () s') (Y:X.fn x=true∨X.env.scope.names.lookup x=some .local:=by first|exact .inl rfl|exact .inr rfl|assumption):wpAny M A (storeName X.env x u) Q E s:=
 I_ I z hi B r (λs' Z _=>h s' Z) Y
theorem Inv.call'(I:Inv X pins σ H s)(J:s'.os=s.os)(u:Un (frs X.stack) ch H H' s.heap s'.heap)(hok:HOk X.prog X.w H' s'.heap)(B:abV s'.gens)
  (D:∀b∈ch,(b∈X.ex∨X.s₀.heap.objs.size<=b)/\b≠X.env.locals/\(∀x c,X.env.cells.lookup x=some c->c≠b)/\∀p∈X.pn++pins,p.1≠b):Inv X pins σ H' s':=by
 obtain⟨h',g',d',t',o'⟩:=s';have e:o'=s.os:=J;subst e;exact I.call (g':=g') (t':=t') (d':=d') u hok B D
abbrev XK:=Value->Option Addr->Hp->Prop
abbrev St:=List (Option V)
abbrev VK:=V->Hp->Prop
abbrev TE:=St->Hp->VK->Prop
abbrev TT:=St->Hp->(Bool->Hp->Prop)->Prop
abbrev TA:=St->Hp->(List V->Hp->Prop)->Prop
structure Ends where
 nx:St->Hp->Prop
 rt:VK
 bk:St->Hp->Prop:=λ_ _=>False
 ct:St->Hp->Prop:=λ_ _=>False
abbrev TS:=Ends->St->Hp->Prop
def EP(X:Cx)(pins:List (Addr×Obj))(σ:St)(Q:VK)(u:Value)(s':X4):Prop:=∃v H',Inv X pins σ H' s'/\RelV v u/\Q v H'
def TP(X:Cx)(pins:List (Addr×Obj))(σ:St)(Q:Bool->Hp->Prop)(b:Bool)(s':X4):Prop:=∃H',Inv X pins σ H' s'/\Q b H'
def AP(X:Cx)(pins:List (Addr×Obj))(σ:St)(Q:List V->Hp->Prop)(us:List Value)(s':X4):Prop:=∃B H',Inv X pins σ H' s'/\Vals B us/\Q B H'
def SP(X:Cx)(pins:List (Addr×Obj))(D:Ends)(f:Flow)(s':X4):Prop:=
 match f with
 |.next=>∃O H',Inv X pins O H' s'/\D.nx O H'
 |.brk=>∃O H',Inv X pins O H' s'/\D.bk O H'
 |.cont=>∃O H',Inv X pins O H' s'/\D.ct O H'
 |.ret u=>∃v O H',Inv X pins O H' s'/\RelV v u/\D.rt v H'
def PE(X:Cx)(e:Expr)(t:TE):Prop:=
 ∀(pins:List (Addr×Obj))(s:X4)(σ:St)(H:Hp)(Q:VK),Inv X pins σ H s->t σ H Q->wpAny (model X.prog X.w) X.A (eval e X.env) (EP X pins σ Q) X.xe s
def PT(X:Cx)(e:Expr)(t:TT):Prop:=
 ∀(pins:List (Addr×Obj))(s:X4)(σ:St)(H:Hp)(Q:Bool->Hp->Prop),Inv X pins σ H s->t σ H Q->wpAny (model X.prog X.w) X.A (adp e X.env (eval e X.env)) (TP X pins σ Q) X.xe s
def PW(X:Cx)(e:Expr)(t:TT):Prop:=
 ∀(z:Sem Value)(pins:List (Addr×Obj))(s:X4)(σ:St)(H:Hp)(Q:Bool->Hp->Prop),Inv X pins σ H s->t σ H Q->wpAny (model X.prog X.w) X.A (adp e X.env z) (TP X pins σ Q) X.xe s
variable{e:Expr}
theorem PW.pt{t:TT}(h:PW X e t):PT X e t:=h _
def PA(X:Cx)(es:List Expr)(t:TA):Prop:=
 ∀(pos:Pos)(pins:List (Addr×Obj))(s:X4)(σ:St)(H:Hp)(Q:List V->Hp->Prop),Inv X pins σ H s->t σ H Q->wpAny (model X.prog X.w) X.A (spliced (Zx pos (Yh es X.env))) (AP X pins σ Q) X.xe s
def PS(X:Cx)(st:Stmt)(t:TS):Prop:=
 ∀(pins:List (Addr×Obj))(s:X4)(σ:St)(H:Hp)(D:Ends),Inv X pins σ H s->t D σ H->wpAny (model X.prog X.w) X.A (exec st X.env) (SP X pins D) X.xe s
def PSs(X:Cx)(st:List Stmt)(t:TS):Prop:=
 ∀(pins:List (Addr×Obj))(s:X4)(σ:St)(H:Hp)(D:Ends),Inv X pins σ H s->t D σ H->wpAny (model X.prog X.w) X.A (execs st X.env) (SP X pins D) X.xe s
theorem thn{t:Sem α}{Q z:α->X4->Prop}{s:X4}(h:wpAny M A t Q E s)(q:∀a s,Q a s->z a s):wpAny M A t z E s:=aaC h q λ_ _ x=>x
section
variable{X:Cx}
def Dv(i:Nat):TE:=λσ H Q=>∃v,σ[i]? =some (some v)/\Q v H
def tC(v:V):TE:=λ_ H Q=>Q v H
theorem vf{i:Nat}{x:Str}{pos:Pos}(z:X.N[i]? =some x)(O:Vis X.env.scope x)(hd:(x==("__debug__":Str))=false:=by decide)(D:(x==("__classdict__":Str))=false:=by decide):PE X (.Name x pos) (Dv i):=by
 intro pins s σ H Q I h;obtain⟨v,e,h⟩:=h;obtain⟨m,U,Z⟩:=I.loc;obtain⟨u,r,l⟩:=Z i x v z e O;have B:EP X pins σ Q u s:=⟨v,H,I,r,h⟩;rcases l with⟨J,V⟩|⟨J,c,F,q⟩
 .exact wpAny_Name (wpAny_loadName_local I.ok.kind J U V B) hd
 .rcases J with J|J
  .exact wpAny_Name (wpAny_loadName_cell I.ok.kind J F q B) hd
  .exact wpAny_Name (wpAny_loadName_free I.ok.kind J F q B D) hd
theorem Oa{i j pos}:PE X (.Constant (.int i) j pos) (tC (.int i)):=λ_ _ _ H _ I h=>wpAny_Constant_int ⟨.int i,H,I.tok _,⟨_,rfl⟩,h⟩
theorem Vl{b j pos}:PE X (.Constant (.bool b) j pos) (tC (.bl b)):=λ_ _ _ H _ I h=>Constant_bool ⟨.bl b,H,I,rfl,h⟩
theorem Uy{j pos}:PE X (.Constant .none j pos) (tC .non):=λ_ _ _ H _ I h=>Constant_none ⟨.non,H,I,rfl,h⟩
theorem FW{x j pos}:PE X (.Constant (.str x) j pos) (tC (.str x)):=λ_ _ _ H _ I h=>Calls.Constant_str ⟨.str x,H,I.tok _,⟨_,rfl⟩,h⟩
def Gl(X:Cx)(x:Str):Prop:=X.env.kindOf x=some .globalImplicit
theorem Gz{E:Value->X4->Prop}{pins:List (Addr×Obj)}{s:X4}{σ:St}{H:Hp}{x:Str}{u:Value}{pos:Pos}{Q:Value->X4->Prop}(I:Inv X pins σ H s)(B:Gl X x)(V:X.mg x=some u)(h:Q u s)
  (hd:(x==("__debug__":Str))=false:=by decide):wpAny (model X.prog X.w) X.A (eval (.Name x pos) X.env) Q E s:=
 acu I.ok.kind B (Calls.loadGlobal_global (by rw[I.ok.glob];exact I.mod.glob.keeps I.bk) V h) hd
theorem nR{E:Value->X4->Prop}{pins:List (Addr×Obj)}{s:X4}{σ:St}{H:Hp}{x:Str}{u:Value}{pos:Pos}{Q:Value->X4->Prop}(I:Inv X pins σ H s)(B:Gl X x)(V:X.mg x=none)(J:Z7 x=some u)(h:Q u s)
  (z:x≠"__name__":=by decide) (hd:(x==("__debug__":Str))=false:=by decide):wpAny (model X.prog X.w) X.A (eval (.Name x pos) X.env) Q E s:=by
 obtain⟨q,h1,h2⟩:=I.mod.blt;exact acu I.ok.kind B (Calls.loadGlobal_builtin (by rw[I.ok.glob];exact I.mod.glob.keeps I.bk) V (by rw[I.ok.blt];exact h1.keeps I.bk) ((h2 x z).trans J) h) hd
theorem G5{x:Str}{v:V}{u:Value}{pos:Pos}(B:Gl X x)(q:X.mg x=some u)(r:RelV v u)(hd:(x==("__debug__":Str))=false:=by decide):PE X (.Name x pos) (tC v):=
 λ_ _ _ H _ I h=>Gz I B q ⟨v,H,I,r,h⟩ hd
theorem Ox{x:Str}{v:V}{u:Value}{pos:Pos}(B:Gl X x)(z:X.mg x=none)(J:Z7 x=some u)(r:RelV v u)(q:x≠"__name__":=by decide)(hd:(x==("__debug__":Str))=false:=by decide):PE X (.Name x pos) (tC v):=
 λ_ _ _ H _ I h=>nR I B z J ⟨v,H,I,r,h⟩ q hd
variable{a b:Expr}{ta tb:TE}{pos:Pos}
variable{tA tB':TT}{rest:List Expr}
def We(t u:TT):TT:=λσ H Q=>t σ H λc H1=>if c=true then u σ H1 Q else Q false H1
def tOr(t u:TT):TT:=λσ H Q=>t σ H λc H1=>if c=true then Q true H1 else u σ H1 Q
def Tc(t:TT):TT:=λσ H Q=>t σ H λc H1=>Q (!c) H1
theorem Q5(Y:PT X a tA):PW X (.BoolOp .And [a] pos) tA:=by
 intro q pins s σ H Q I h;refine isTrue_and (thn (Y pins s σ H Q I h) λc Z e=>?_);cases c with
 |true=>exact isTrue_and_nil e
 |false=>exact e
theorem Ub(Y:PT X a tA):PW X (.BoolOp .Or [a] pos) tA:=by
 intro q pins s σ H Q I h;refine isTrue_or (thn (Y pins s σ H Q I h) λc Z e=>?_);cases c with
 |false=>exact isTrue_or_nil e
 |true=>exact e
theorem Uu(Y:PT X a tA)(U:PW X (.BoolOp .And (b::rest) pos) tB'):PW X (.BoolOp .And (a::b::rest) pos) (We tA tB'):=by
 intro q pins s σ H Q I h;refine isTrue_and (thn (Y pins s σ H _ I h) λc Z ⟨H1,J,q1⟩=>?_);cases c with
 |true=>exact U q pins Z σ H1 Q J q1
 |false=>exact⟨H1,J,q1⟩
theorem Wr(Y:PT X a tA)(U:PW X (.BoolOp .Or (b::rest) pos) tB'):PW X (.BoolOp .Or (a::b::rest) pos) (tOr tA tB'):=by
 intro q pins s σ H Q I h;refine isTrue_or (thn (Y pins s σ H _ I h) λc Z ⟨H1,J,q1⟩=>?_);cases c with
 |true=>exact⟨H1,J,q1⟩
 |false=>exact U q pins Z σ H1 Q J q1
theorem Kz(Y:PT X a tA):PT X (.UnaryOp .Not a pos) (Tc tA):=by
 intro pins s σ H Q I h;exact isTrue_not (Y pins s σ H (λc H1=>Q (!c) H1) I h)
def RD(ta tb:TE):TE:=λσ H Q=>ta σ H λx H1=>∃c,x= .bl c/\if c=true then tb σ H1 Q else Q (.bl false) H1
def Rc(ta:TE):TE:=λσ H Q=>ta σ H λx H1=>∃c,x= .bl c/\Q (.bl (!c)) H1
theorem TJ{op}{t:TE}(h:PE X a t):PE X (.BoolOp op [a] pos) t:=λpins s σ H Q I V=>BoolOp_one (h pins s σ H Q I V)
theorem RX(Y:PE X a ta)(U:PE X (.BoolOp .And (b::rest) pos) tb):PE X (.BoolOp .And (a::b::rest) pos) (RD ta tb):=by
 intro pins s σ H Q I h;refine BoolOp_and (thn (Y pins s σ H _ I h) λv Z ⟨x,H1,J,F,q1⟩=>?_);obtain⟨c,rfl,q1⟩:=q1;cases F;refine Z4 ?_;cases c with
 |true=>exact U pins Z σ H1 Q J q1
 |false=>exact⟨.bl false,H1,J,rfl,q1⟩
theorem TF(Y:PE X a ta):PE X (.UnaryOp .Not a pos) (Rc ta):=by
 intro pins s σ H Q I h;refine UnaryOp_ (thn (Y pins s σ H _ I h) λv Z ⟨x,H1,J,F,q1⟩=>?_);obtain⟨c,rfl,q1⟩:=q1;cases F;exact not_of (Z4 ⟨.bl (!c),H1,J,rfl,q1⟩)
def tIf(t:TT)(ta tb:TE):TE:=λσ H Q=>t σ H λc H1=>if c=true then ta σ H1 Q else tb σ H1 Q
theorem MN{c:Expr}(F:PT X c tA)(Y:PE X a ta)(U:PE X b tb):PE X (.IfExp c a b pos) (tIf tA ta tb):=by
 intro pins s σ H Q I h;refine wpAny_IfExp (thn (F pins s σ H _ I h) λd Z ⟨H1,J,q1⟩=>?_);cases d with
 |true=>exact Y pins Z σ H1 Q J q1
 |false=>exact U pins Z σ H1 Q J q1
end
def SqL(K:Yb)(H:Hp)(a:Addr)(xs:List V):Prop:=
 Rd H a (.lst xs)∨
  ∃(o:Obj)(its:Array Value)(n:Nat),K.lookup a=some o/\o.cls= .type "list"/\o.dict=none/\o.data= .seq its n/\its.size<=Yc/\Vals xs its.toList
def SqT(K:Yb)(H:Hp)(a:Addr)(xs:List V):Prop:=
 Rd H a (.tup xs)∨
  ∃(o:Obj)(its:Array Value)(n:Nat),K.lookup a=some o/\o.cls= .type "tuple"/\o.data= .seq its n/\its.size<=Yc/\Vals xs its.toList
def XC:Value->Option V
 |.none=>some .non
 |.bool b=>some (.bl b)
 |.int i _=>some (.int i)
 |.str x _=>some (.str x)
 |.bytes b _=>some (.byt b)
 |.float b _=>some (.flt b)
 |.ref a=>some (.ref a)
 |.type n=>some (.ty n)
 |_=>none
theorem RelV.abs{x:V}(r:RelV x u):XC u=some x:=by
 cases x with
 |non=>cases r;rfl
 |bl _=>cases r;rfl
 |int _=>obtain⟨t,rfl⟩:=r;rfl
 |str _=>obtain⟨t,rfl⟩:=r;rfl
 |byt _=>obtain⟨t,rfl⟩:=r;rfl
 |flt _=>obtain⟨t,rfl⟩:=r;rfl
 |ref _=>cases r;rfl
 |ty _=>cases r;rfl
theorem RelV.inj{x y:V}(r:RelV x u)(q:RelV y u):x=y:=Ze (r.abs.symm.trans q.abs)
theorem Vals.inj:∀{xs ys:List V}{us:List Value},Vals xs us->Vals ys us->xs=ys
 |_,_,_,.nil,.nil=>rfl
 |_,_,_,.cons r t,.cons r' t'=>by rw[r.inj r',Vals.inj t t']
theorem SqL.of{K:Yb}(h:H a=some (.lst xs)):SqL K H a xs:=.inl (.inl h)
theorem SqT.of{K:Yb}(h:H a=some (.tup xs)):SqT K H a xs:=.inl (.inl h)
variable{σ:St}
theorem Inv.list(I:Inv X pins σ H s)(h:SqL X.K H a xs):∃its:List Value,Vals xs its/\PlainL s.heap a its.toArray/\xs.length<=Yc:=by
 rcases h with h|⟨o,its,n,J,F,hd,O,hz,r⟩
 .obtain⟨z,its,n,r,e⟩:=h.ok I.hok
  exact⟨its,r,⟨_,n,e,rfl,rfl,rfl⟩,z⟩
 .refine⟨its.toList,r,⟨o,n,I.kIn a o J,F,hd,by simpa using O⟩,?_⟩
  have e:=r.length;simp![abp]at e;omega
theorem Inv.tuple(I:Inv X pins σ H s)(h:SqT X.K H a xs):∃its:List Value,Vals xs its/\IsTup s.heap a its.toArray/\xs.length<=Yc:=by
 rcases h with h|⟨o,its,n,J,F,O,hz,r⟩
 .obtain⟨z,its,r,p⟩:=h.ok I.hok
  exact⟨its,r,p.t,z⟩
 .refine⟨its.toList,r,⟨o,I.kIn a o J,F,n,by simpa using O⟩,?_⟩
  have e:=r.length;simp![abp]at e;omega
variable{ys:List V}
theorem Inv.list_inj(I:Inv X pins σ H s)(h:SqL X.K H a xs)(h':SqL X.K H a ys):xs=ys:=by
 obtain⟨its,r,⟨o,n,e,_,_,d⟩,_⟩:=I.list h;obtain⟨its',Z,⟨o',F,e',_,_,d'⟩,_⟩:=I.list h';rw[e]at e';cases e';rw[d]at d';injection d' with d1 _;have:its=its':=by simpa using congrArg Array.toList d1
 subst this;exact r.inj Z
theorem Inv.tuple_inj(I:Inv X pins σ H s)(h:SqT X.K H a xs)(h':SqT X.K H a ys):xs=ys:=by
 obtain⟨its,r,⟨o,e,_,n,d⟩,_⟩:=I.tuple h;obtain⟨its',Z,⟨o',e',_,F,d'⟩,_⟩:=I.tuple h';rw[e]at e';cases e';rw[d]at d';injection d' with d1 _;have:its=its':=by simpa using congrArg Array.toList d1
 subst this;exact r.inj Z
abbrev Cx.wish(X:Cx)(E:Value->X4->Prop):Cx:={X with xe:=E}
abbrev Cx.nox(X:Cx):Cx:=X.wish λ_ _=>False
theorem Cx.Ok.wish(ok:X.Ok)(E:Value->X4->Prop):(X.wish E).Ok:=
 ⟨ok.mod,ok.kind,ok.glob,ok.blt,ok.above,ok.inj,ok.has,ok.cab,ok.hd,ok.frames,ok.stk,ok.exf,ok.bs,ok.bsz,ok.noex,ok.exfs,ok.funs,ok.frf⟩
theorem Cx.Ok.unwish(ok:(X.wish E).Ok):X.Ok:=
 ⟨ok.mod,ok.kind,ok.glob,ok.blt,ok.above,ok.inj,ok.has,ok.cab,ok.hd,ok.frames,ok.stk,ok.exf,ok.bs,ok.bsz,ok.noex,ok.exfs,ok.funs,ok.frf⟩
theorem Inv.wish(I:Inv X pins σ H s)(E:Value->X4->Prop):Inv (X.wish E) pins σ H s:=⟨I.ok.wish E,I.os,I.bare,I.base,I.loc,I.cell,I.free,I.freeC,I.pin,I.hok,I.len⟩
variable{E:Value->Shared->Prop}
theorem Inv.unwish(I:Inv (X.wish E) pins σ H s):Inv X pins σ H s:=⟨I.ok.unwish,I.os,I.bare,I.base,I.loc,I.cell,I.free,I.freeC,I.pin,I.hok,I.len⟩
theorem SP.unwish{D:Ends}{f:Flow}(h:SP (X.wish E) pins D f s'):SP X pins D f s':=by
 cases f with
 |next=>obtain⟨O,H',I,q⟩:=h;exact⟨O,H',I.unwish,q⟩
 |brk=>obtain⟨O,H',I,q⟩:=h;exact⟨O,H',I.unwish,q⟩
 |cont=>obtain⟨O,H',I,q⟩:=h;exact⟨O,H',I.unwish,q⟩
 |ret u=>obtain⟨v,O,H',I,r,q⟩:=h;exact⟨v,O,H',I.unwish,r,q⟩
theorem PSs.nox{st:List Stmt}{t:TS}(h:PSs X.nox st t):PSs X st t:=λpins s σ H D I V=>
 aaC (h pins s σ H D (I.wish _) V) (λ_ _ q=>q.unwish) λ_ _ z=>aaD z
section
variable{X:Cx}{st:Stmt}{rest:List Stmt}{t u:TS}{e:Expr}{te:TE}{pos:Pos}
def Ru:TS:=λD σ H=>D.nx σ H
def Vq(t u:TS):TS:=λD σ H=>t {D with nx:=u D} σ H
theorem Og:PSs X [] Ru:=λ_ _ σ H _ I h=>ab3 ⟨σ,H,I,h⟩
theorem KC(h1:PS X st t)(h2:PSs X rest u):PSs X (st::rest) (Vq t u):=by
 intro pins s σ H D I h;refine wpAny_execs_cons (thn (h1 pins s σ H {D with nx:=u D} I h) λf Z q=>?_);cases f with
 |next=>
  obtain⟨O,H',z,q⟩:=q;exact h2 pins Z O H' D z q
 |ret v=>exact q
 |brk=>exact q
 |cont=>exact q
theorem Qj(h1:PS X st t):PSs X [st] t:=by
 intro pins s σ H D I h;refine wpAny_execs_cons (thn (h1 pins s σ H D I h) λf Z q=>?_);cases f with
 |next=>exact ab3 q
 |ret v=>exact q
 |brk=>exact q
 |cont=>exact q
theorem Inv.quiet{pins:List (Addr×Obj)}{σ:St}{H:Hp}{s:X4}(I:Inv X pins σ H s):interactive X.env=false:=by simp[interactive,I.ok.kind]
def Gd(te:TE):TS:=λD σ H=>te σ H λ_ H1=>D.nx σ H1
theorem Am(Y:PE X e te)(O:aaQ e none pos.line X.env=pure false:=by rfl):PS X (.Expr e pos) (Gd te):=by
 intro pins s σ H D I h;exact wpAny_Expr_any (thn (Y pins s σ H _ I h) λv Z ⟨x,H1,J,F,q1⟩=>⟨σ,H1,J,q1⟩) I.quiet O
def PP(te:TE):TS:=λD σ H=>te σ H D.rt
theorem yR(Y:PE X e te):PS X (.Return (some e) pos) (PP te):=by
 intro pins s σ H D I h;exact wpAny_Return_some (thn (Y pins s σ H _ I h) λv Z ⟨x,H1,J,F,q1⟩=>⟨x,σ,H1,J,F,q1⟩)
def W5(c:TT)(t u:TS):TS:=λD σ H=>c σ H λb H1=>if b=true then t D σ H1 else u D σ H1
theorem Ri{c:Expr}{a b:List Stmt}{tc:TT}(F:PT X c tc)(Y:PSs X a t)(U:PSs X b u):PS X (.If c a b pos) (W5 tc t u):=by
 intro pins s σ H D I h;refine wpAny_If (thn (F pins s σ H _ I h) λd Z ⟨H1,J,q1⟩=>?_);cases d with
 |true=>exact Y pins Z σ H1 D J q1
 |false=>exact U pins Z σ H1 D J q1
end
abbrev TG:=V->St->Hp->(St->Hp->Prop)->Prop
abbrev TGs:=List V->St->Hp->(St->Hp->Prop)->Prop
def PG(X:Cx)(target:Expr)(t:TG):Prop:=
 ∀(pins:List (Addr×Obj))(s:X4)(σ:St)(H:Hp)(v:V)(u:Value)(Q:St->Hp->Prop),Inv X pins σ H s->RelV v u->t v σ H Q->
  wpAny (model X.prog X.w) X.A (abI target X.env u) (λ_ s'=>∃O H',Inv X pins O H' s'/\Q O H') X.xe s
def PGs(X:Cx)(ts:List Expr)(t:TGs):Prop:=
 ∀(pins:List (Addr×Obj))(s:X4)(σ:St)(H:Hp)(B:List V)(us:List Value)(Q:St->Hp->Prop),Inv X pins σ H s->Vals B us->t B σ H Q->
  wpAny (model X.prog X.w) X.A (adT ((Zv ts X.env).map (·.2)) us) (λ_ s'=>∃O H',Inv X pins O H' s'/\Q O H') X.xe s
abbrev Jg:=V->V->V->Hp->(Hp->Prop)->Prop
def Pu(X:Cx)(t:Jg):Prop:=
 ∀(pins:List (Addr×Obj))(s:X4)(σ:St)(H:Hp)(o i v:V)(U B u:Value)(Q:Hp->Prop),Inv X pins σ H s->RelV o U->RelV i B->RelV v u->t o i v H Q->
  wpAny (model X.prog X.w) X.A (setItem U B u) (λ_ s'=>∃H',Inv X pins σ H' s'/\Q H') X.xe s
def xK(i:Nat):TG:=λv σ H Q=>Q (σ.set i (some v)) H
theorem zy(z:X.N.Nodup)(hi:X.N[i]? =some x)(B:Loc X.env.scope x)(Y:X.fn x=true∨X.env.scope.names.lookup x=some .local:=by first|exact .inl rfl|exact .inr rfl|assumption):PG X (.Name x pos) (xK i):=by
 intro pins s σ H v u Q I r h;exact wpAny_assign_Name (oA I z hi B r (λs' Z=>⟨_,H,Z,h⟩) Y)
def Qi:TGs:=λB σ H Q=>B=[]/\Q σ H
def J4(t:TG)(u:TGs):TGs:=λB σ H Q=>∃v r,B=v::r/\t v σ H λO H'=>u r O H' Q
theorem Gx:PGs X [] Qi:=by
 intro pins s σ H B us Q I r h;obtain⟨e,h⟩:=h;subst e;cases r;exact assignInOrder_nil ⟨σ,H,I,h⟩
theorem CG{t:TG}{u:TGs}(h1:PG X e t)(h2:PGs X es u)
  (O:(Zv (e::es) X.env).map (·.2)=abI e X.env::(Zv es X.env).map (·.2):=by rfl):PGs X (e::es) (J4 t u):=by
 intro pins s σ H B us Q I r h;obtain⟨v,q,e1,h⟩:=h;subst e1;cases r with
 |cons r z=>
  rw[O];refine ack (thn (h1 pins s σ H _ _ _ I r h) λ_ Z ⟨Y,H1,J,q1⟩=>?_);exact h2 pins Z Y H1 _ _ Q J z q1
def SN(K:Yb)(n:Nat)(t:TGs):TG:=λv σ H Q=>∃a xs,v= .ref a/\SqT K H a xs/\xs.length=n/\t xs σ H Q
variable{k:Nat}
theorem Ms{t:TGs}(F:X.calm=true)(h:PGs X es t)
  (z:(Zv es X.env).length=n:=by rfl) (q:(Zv es X.env).findIdx? (·.1)=none:=by rfl):PG X (.Tuple es k pos) (SN X.K n t):=by
 intro pins s σ H v u Q I r V;obtain⟨a,xs,e1,D,Z,V⟩:=V;subst e1;cases r;obtain⟨its,O,U,hz⟩:=I.tuple D;refine assign_Tuple_tuple (I.ok.hd F) U (by simp[z,←Z,O.length]) q λh' B=>?_;have J:Inv X pins σ H {s with heap:=h'}:=I.kept (t':=s.toks) λb o e=>B b o (Yw (Yk e)) e;exact h pins _ σ H xs _ Q J (by simpa using O) V
def jT(to q:TE)(t:Jg):TG:=λv σ H Q=>to σ H λo H1=>q σ H1 λi H2=>t o i v H2 λF=>Q σ F
theorem Vh{o i:Expr}{to ti:TE}{t:Jg}(J:PE X o to)(hi:PE X i ti)(O:Pu X t)
  (Y:∀v,abI (.Subscript o i pos) X.env v=(do
   let U ←abl [v] (eval o X.env)
   let iv ←abl [v,U] (eval i X.env)
   aeq pos
   abl [v,U,iv] (setItem U iv v)
   release [v,U,iv] []):=by intro _;rfl):PG X (.Subscript o i pos) (jT to ti t):=by
 intro pins s σ H v u Q I r h;rw[Y];refine X3 (ZF (thn (J pins s σ H _ I h) λU Z ⟨x,H1,I1,F,q1⟩=>?_));refine X3 (ZF (thn (hi pins Z σ H1 _ I1 q1) λiv B ⟨y,H2,V,r2,q2⟩=>?_));refine X3 (acv (X3 (ZF (thn (O pins B σ H2 x y v U iv u _ V F r2 r q2) λ_ z ⟨H3,q,D⟩=>?_))));exact wpAny_release ⟨σ,H3,q,D⟩
def Ou(te:TE)(g:TG):TS:=λD σ H=>te σ H λx H1=>g x σ H1 D.nx
variable{te:TE}{g:TG}
theorem Ng(Y:PE X e te)(z:PG X tg g)(O:abh [tg] e pos.line X.env=pure false:=by rfl)(V:abO [tg] e X.env=pure none:=by rfl)
  (h1:(Zv [tg] X.env).map (·.2)=[abI tg X.env]:=by rfl):PS X (.Assign [tg] e pos) (Ou te g):=by
 intro pins s σ H D I h;refine wpAny_Assign_stores (thn (Y pins s σ H _ I h) λv Z ⟨x,H1,J,F,q1⟩=>?_) O V;rw[h1];exact thn (z pins Z σ H1 x v _ J F q1) λ_ B q=>q
theorem Mj(z:X.N.Nodup)(hi:X.N[i]? =some x)(B:Loc X.env.scope x)(Y:PE X e te)(O:aaQ e (some (.Name x pos')) pos.line X.env=pure false:=by rfl)(q:X.fn x=true∨X.env.scope.names.lookup x=some .local:=by first|exact .inl rfl|exact .inr rfl|assumption) :
  PS X (.Assign [.Name x pos'] e pos) (Ou te (xK i)):=by
 intro pins s σ H D I h;refine wpAny_Assign_Name (thn (Y pins s σ H _ I h) λv Z ⟨y,H1,J,F,q1⟩=>?_) O;exact oA J z hi B F (λU V=>⟨_,H1,V,q1⟩) q
def V3(i j:Nat)(ta:TA):TS:=λD σ H=>ta σ H λB H1=>∃v w,B=[v,w]/\D.nx ((σ.set i (some v)).set j (some w)) H1
variable{a:Expr}{ta:TA}
theorem Ve{b:Expr}{px py pt:Pos}{kt k2 pt2}(F:X.calm=true)(hN:X.N.Nodup)(hi:X.N[i]? =some x)(hj:X.N[j]? =some y)(U:i≠j)
  (hx:X.env.scope.names.lookup x=some .local) (hy:X.env.scope.names.lookup y=some .local) (Y:PA X [a,b] ta)
  (V:abO [.Tuple [.Name x px,.Name y py] kt pt] (.Tuple [a,b] k2 pt2) X.env=pure (some [x,y]))
  (O:abh [.Tuple [.Name x px,.Name y py] kt pt] (.Tuple [a,b] k2 pt2) pos.line X.env=pure false:=by rfl) :
  PS X (.Assign [.Tuple [.Name x px,.Name y py] kt pt] (.Tuple [a,b] k2 pt2) pos) (V3 i j ta):=by
 intro pins s σ H D I h;rw[exec_Assign_arm];refine X3 (acv ?_);rw[O];refine X3 (Yg ?_);rw[YB (by decide)];refine X3 (Tuple_ (thn (Y _ pins s σ H _ I h) λus Z ⟨B,H1,J,r1,q1⟩=>?_));obtain⟨v,w,e1,q1⟩:=q1;subst e1;obtain⟨u1,u2,rfl,rv,a1⟩:∃u1 u2,us=[u1,u2]/\RelV v u1/\RelV w u2:=by
  cases r1 with
  |cons p q=>
   cases q with
   |cons p' q'=>
    cases q';exact⟨_,_,rfl,p,p'⟩
 refine ZC ?_ (by show 2<=Yc;decide);have I2:Inv X pins σ H1 {Z with heap:=Z.heap.push {cls:=.type "tuple",data:=.seq [u1,u2].toArray}}:=J.kept (t':=Z.toks) λb o e=>X6 _ e;rw[V];refine X3 (Yg ?_);show wpAny (model X.prog X.w) X.A (do rule "assign.swapped-stores";let items ←unpackItems (.ref Z.heap.objs.size) 2 none;adT [λv=>bindName X.env y v,λv=>bindName X.env x v] items.reverse;pure Flow.next) _ _ _;refine X3 (ab4 (X3 (unpackItems_tuple (items:=#[u1,u2]) (I.ok.hd F) (IsTup.new Z.heap _) λh' a0=>?_)));have I3:=I2.kept (h':=h') (t':=Z.toks) λb o e=>a0 b o (Yw (Yk e)) e;show wpAny _ _ (adT [λv=>bindName X.env y v,λv=>bindName X.env x v] [u2,u1] >>=λ_=>pure Flow.next) _ _ _;refine X3 (ack (wpAny_bindName (oA I3 hN hj (.inl hy) a1 (λs2 I4=>?_) (.inr hy))));refine ack (wpAny_bindName (oA I4 hN hi (.inl hx) rv (λz I5=>assignInOrder_nil (Yg ?_)) (.inr hx)));rw[List.set_comm _ _ (Zr U)]at I5;exact⟨_,H1,I5,q1⟩
def LC(c:TT)(tb:TS):TS:=λD σ H=>∃W:Nat->St->Hp->Prop,(∃m,W m σ H)/\∀m σ H,W m σ H->
 c σ H λb H1=>if b=true then ∃N:St->Hp->Prop,(∀O H',N O H'->∃B,B<m/\W B O H')/\tb {D with nx:=N,ct:=N,bk:=D.nx} σ H1 else D.nx σ H1
variable{tb:TS}
theorem NZ{tc:TT}(hp:acn (model X.prog X.w) X.A X.env X.xe)(F:PT X c tc)(U:PSs X body tb):PS X (.While c body [] pos) (LC tc tb):=by
 intro pins s σ H D I h;obtain⟨W,⟨q,w0⟩,a1⟩:=h;refine wpAny_While (codeAny_whileLoop (λn s'=>∃O H',Inv X pins O H' s'/\W n O H') ?_ q ⟨σ,H,I,w0⟩);rintro n Z ⟨Y,H1,J,w1⟩;refine aas hp (thn (F pins Z Y H1 _ J (a1 n Y H1 w1)) λb B ⟨H2,I2,q2⟩=>?_);cases b with
 |true=>
  obtain⟨N,hN,q2⟩:=q2;rw[Yi rfl];refine aas hp (thn (U pins B Y H2 _ I2 q2) λf z q3=>?_);cases f with
  |next=>
   obtain⟨a0,H3,I3,n3⟩:=q3;obtain⟨m',V,w3⟩:=hN a0 H3 n3;exact⟨m',V,a0,H3,I3,w3⟩
  |cont=>
   obtain⟨a0,H3,I3,n3⟩:=q3;obtain⟨m',V,w3⟩:=hN a0 H3 n3;exact⟨m',V,a0,H3,I3,w3⟩
  |brk=>exact q3
  |ret v=>exact q3
 |false=>
  rw[YB YT];exact ab3 ⟨Y,H2,I2,q2⟩
structure It where
 go:Nat->Hp->Prop
 yld:Nat->Hp->V->Hp->Prop
 stop:Nat->Hp->Prop
def mX(X:Cx)(pins:List (Addr×Obj))(H:Hp)(b:Addr):Prop:=
 H b=none/\b≠X.env.locals/\b∉X.fs/\(b∈X.ex∨X.s₀.heap.objs.size<=b)/\(∀x c,X.env.cells.lookup x=some c->c≠b)/\∀p∈X.pn++pins,p.1≠b
variable{s:X4}
theorem Inv.fpOk(I:Inv X pins σ H s)(U:s.heap.objs.size<=b)(B:H' b=none):mX X pins H' b:=by
 refine⟨B,ab5 (Ys I.lt U),I.nofs U,.inr (Y4 I.sz U),λx c e z=>?_,λp O z=>?_⟩
 .obtain⟨v,q⟩:=I.cell x c e
  exact absurd (Ys q.lt (by rw[z];exact U)) (Z_ _)
 .exact absurd (Ys (Yk (I.pin p O).1) (by rw[z];exact U)) (Z_ _)
structure Turn(P:Program)(w:World)(K:PySem.W.Frag)(tg:Expr)(J:It)(fp:List Addr)(it:Addr)(tn:Nat->Heap->Prop):Prop where
 mem:it∈fp
 obj:∀i h,tn i h->∀b∈fp,∃o,h.get? b=some o/\∀v,o.data≠.cell v
 keep:∀i h h',tn i h->(∀b∈fp,∀o,h.get? b=some o->h'.get? b=some o)->tn i h'
 item:∀(X:Cx),X.prog=P->X.w=w->X.K=K->X.calm=true->∀(i:Nat)(pins:List (Addr×Obj))(s:X4)(σ:St)(H:Hp)(E:Value->X4->Prop),Inv X pins σ H s->(∀b∈fp,mX X pins H b)->tn i s.heap->J.go i H->
  wpAny (model P w) X.A (adq (.ref it)) (λr s1=>∃u,r=some u/\
   wpAny (model P w) X.A (ab6 tg (.ref it) u) (λ_ s2=>∃x H',Inv X pins σ H' s2/\RelV x u/\J.yld i H x H'/\tn (i+1) s2.heap/\∀b∈fp,H' b=none) E s1) E s
 done:∀(X:Cx),X.prog=P->X.w=w->X.K=K->X.calm=true->∀(i:Nat)(pins:List (Addr×Obj))(s:X4)(σ:St)(H:Hp)(E:Value->X4->Prop),Inv X pins σ H s->(∀b∈fp,mX X pins H b)->tn i s.heap->J.stop i H->
  wpAny (model P w) X.A (adq (.ref it)) (λr s1=>r=none/\Inv X pins σ H s1) E s
 self:∀(A:Y0)(i:Nat)(s:X4)(Q:Value->X4->Prop)(E:Value->X4->Prop),tn i s.heap->Q (.ref it) s->wpAny (model P w) A (acQ (.ref it)) Q E s
abbrev TI:=St->Hp->(It->Hp->Prop)->Prop
def PIE(X:Cx)(pins:List (Addr×Obj))(σ:St)(tg:Expr)(R:It->Hp->Prop)(z:Value)(B:X4):Prop:=
 ∃(it:Addr)(fp:List Addr)(q:Nat->Heap->Prop)(J:It)(H':Hp),z= .ref it/\Inv X pins σ H' B/\Turn X.prog X.w X.K tg J fp it q/\q 0 B.heap/\(∀b∈fp,mX X pins H' b)/\R J H'
def PI(X:Cx)(tg iter:Expr)(wi:TI):Prop:=
 ∀(pins:List (Addr×Obj))(s:X4)(σ:St)(H:Hp)(R:It->Hp->Prop),Inv X pins σ H s->wi σ H R->
  wpAny (model X.prog X.w) X.A (eval iter X.env) (λv Z=>wpAny (model X.prog X.w) X.A (acQ v) (PIE X pins σ tg R) X.xe Z) X.xe s
theorem x_   {E:Value->X4->Prop}      {n:String} {B:Array Value}  (J:s.heap.get? it=some o) (F:o.cls = .type n) (hd:o.data = .fields B)
    (I:["enumerate", "zip", "dict_itemiterator", "dict_reverseitemiterator", "odict_iterator", "itertools.zip_longest", "itertools.pairwise"].contains n=false) (q:Q () s):wpAny M A (ab6 tg (.ref it) u) Q E s:=by
  unfold ab6
  cases tg <;> first
    | exact Yg q
    | (cases u <;> first
        | exact Yg q
        | (refine X3 (adG J ?_)
           rw [F,hd]
           show wpAny M A (if (["enumerate", "zip", "dict_itemiterator", "dict_reverseitemiterator", "odict_iterator", "itertools.zip_longest", "itertools.pairwise"].contains n && B[0]? == some (adt _))=true then _ else _) Q E s
           rw [YB (by intro h; rw [I,Bool.false_and] at h; cases h)]
           exact Yg q))
def Itl(K:Yb)(a:Addr):It:=
 ⟨λi H=>∃xs x,SqL K H a xs/\xs[i]? =some x,λi H x H'=>H'=H/\∀xs,SqL K H a xs->xs[i]? =some x,λi H=>∃xs,SqL K H a xs/\xs.length<=i⟩
def Itt(K:Yb)(a:Addr):It:=
 ⟨λi H=>∃xs x,SqT K H a xs/\xs[i]? =some x,λi H x H'=>H'=H/\∀xs,SqT K H a xs->xs[i]? =some x,λi H=>∃xs,SqT K H a xs/\xs.length<=i⟩
def Itr(lo:Int)(n:Nat):It:=⟨λi _=>i<n,λi H x H'=>H'=H/\x= .int (lo+i),λi _=>n<=i⟩
variable{P:Yu}
theorem JC{K:Yb}(a it:Addr):Turn P w K tg (Itl K a) [it] it (λi h=>h.IsListIter it a i)where
 mem:=by simp
 obj:=λi h st b U=>by
  have e:b=it:=by simpa using U
  subst e;obtain⟨o,e,c,d⟩:=st;exact⟨o,e,λv z=>by rw[d]at z;cases z⟩
 keep:=λi h h' st k=>st.at λo e=>k it (by simp) o e
 item:=by
  intro X hP V q F i pins s σ H E I Y st hg;subst hP V q;obtain⟨xs,x,D,B⟩:=hg;obtain⟨its,O,p,hz⟩:=I.list D;obtain⟨u,hu,ru⟩:=O.get B;obtain⟨f0,f1,f2,f3,f4,f5⟩:=Y it (by simp);refine abJ st p.isList (x:=u) (by simpa using hu) λh' a0 sb=>?_;have J:Inv X pins σ H {s with heap:=h'}:=I.turned (t':=s.toks) (λb o U e=>(sb.2 b U).trans e) f0 f1 f3 f4 f5;obtain⟨o,e,c,d⟩:=id a0;exact⟨u,rfl,x_ (s:={s with heap:=h'}) e c d (by decide) ⟨x,H,J,ru,⟨rfl,λys hy=>by rw[I.list_inj hy D];exact B⟩,a0,λb U=>(Y b U).1⟩⟩
 done:=by
  intro X hP V q F i pins s σ H E I Y st hg;subst hP V q;obtain⟨xs,D,B⟩:=hg;obtain⟨its,O,p,hz⟩:=I.list D;obtain⟨f0,f1,f2,f3,f4,f5⟩:=Y it (by simp);have Z:=O.length;exact abW (I.ok.hd F) st p.isList (by simp;omega) λh' eb=>⟨rfl,I.turned (t':=s.toks) (λb o U e=>eb b o U e) f0 f1 f3 f4 f5⟩
 self:=λ_ _ _ _ _ st h=>wpAny_pyIter_listiter st h
theorem Fb{K:Yb}(a it:Addr):Turn P w K tg (Itt K a) [it] it (λi h=>h.IsTupleIter it a i)where
 mem:=by simp
 obj:=λi h st b U=>by
  have e:b=it:=by simpa using U
  subst e;obtain⟨o,e,c,d⟩:=st;exact⟨o,e,λv z=>by rw[d]at z;cases z⟩
 keep:=λi h h' st k=>st.at λo e=>k it (by simp) o e
 item:=by
  intro X hP V q F i pins s σ H E I Y st hg;subst hP V q;obtain⟨xs,x,D,B⟩:=hg;obtain⟨its,O,p,hz⟩:=I.tuple D;obtain⟨u,hu,ru⟩:=O.get B;obtain⟨f0,f1,f2,f3,f4,f5⟩:=Y it (by simp);refine ac4 st (show s.heap.IsTuple a its.toArray from p) (x:=u) (by simpa using hu) λh' a0 sb=>?_;have J:Inv X pins σ H {s with heap:=h'}:=I.turned (t':=s.toks) (λb o U e=>(sb.2 b U).trans e) f0 f1 f3 f4 f5;obtain⟨o,e,c,d⟩:=id a0;exact⟨u,rfl,x_ (s:={s with heap:=h'}) e c d (by decide) ⟨x,H,J,ru,⟨rfl,λys hy=>by rw[I.tuple_inj hy D];exact B⟩,a0,λb U=>(Y b U).1⟩⟩
 done:=by
  intro X hP V q F i pins s σ H E I Y st hg;subst hP V q;obtain⟨xs,D,B⟩:=hg;obtain⟨its,O,p,hz⟩:=I.tuple D;obtain⟨f0,f1,f2,f3,f4,f5⟩:=Y it (by simp);have Z:=O.length;exact ade (I.ok.hd F) st (show s.heap.IsTuple a its.toArray from p) (by simp;omega) λh' eb=>⟨rfl,I.turned (t':=s.toks) (λb o U e=>eb b o U e) f0 f1 f3 f4 f5⟩
 self:=λ_ _ _ _ _ st h=>wpAny_pyIter_tupleiter st h
theorem Ft{K:Yb}(it:Addr)(lo:Int)(n:Nat):Turn P w K tg (Itr lo n) [it] it (λi h=>IsRangeIter h it (lo+(i:Nat)*1) ((n:Int)-(i:Nat)) 1)where
 mem:=by simp
 obj:=λi h st b U=>by
  have e:b=it:=by simpa using U
  subst e;exact⟨_,st,λv z=>by
   have z':Data.fields _=Data.cell v:=z;cases z'⟩
 keep:=λi h h' st k=>k it (by simp) _ st
 item:=by
  intro X hP V q F i pins s σ H E I Y st B;subst hP V q;obtain⟨f0,f1,f2,Z,O,f5⟩:=Y it (by simp);have W:=Walks.range (prog:=X.prog) (w:=X.w) (I.ok.hd F) it lo 1 n;refine W.item i s _ _ B st λv h' tk hv a0 kk=>?_;obtain⟨t,rfl⟩:=hv;have J:Inv X pins σ H {s with heap:=h',toks:=tk}:=I.turned (λb o U e=>kk b o (by simpa using U) e) f0 f1 Z O f5;refine⟨_,rfl,x_ (s:={s with heap:=h',toks:=tk}) (n:="range_iterator") a0 rfl rfl (by decide) ⟨.int (lo+i),H,J,⟨t,?_⟩,⟨rfl,rfl⟩,a0,λb U=>(Y b U).1⟩⟩;rw[Int.mul_one]
 done:=by
  intro X hP V q F i pins s σ H E I Y st B;subst hP V q;obtain⟨f0,f1,f2,Z,O,f5⟩:=Y it (by simp);exact wpAny_pyNext_range_end (I.ok.hd F) st (by have:n<=i:=B;omega) λh' D=>⟨rfl,I.turned (t':=s.toks) (λb o U e=>D b o U e) f0 f1 Z O f5⟩
 self:=λ_ _ _ _ _ st h=>wpAny_pyIter_rangeiter st h
theorem Mt{R:It->Hp->Prop}{E:Value->X4->Prop}{lo hi:Int}{t u v:Tok}(I:Inv X pins σ H s)(h1: -(2 ^ 62)<=lo)(h2:lo<2 ^ 62)(V: -(2 ^ 62)<=hi)(F:hi<2 ^ 62)
  (q:R (Itr lo (hi-lo).toNat) H):wpAny (model X.prog X.w) X.A (acQ (.ref s.heap.objs.size)) (PIE X pins σ tg R) E {s with heap:=s.heap.push {cls:=.type "range",data:=.fields #[.int lo t,.int hi u,.int 1 v]},toks:=tk}:=by
 refine wpAny_pyIter_range (IsRange.new ..) (small_one h1 h2 V F) ?_;have J:Inv X pins σ H {s with heap:=s.heap.push {cls:=.type "range",data:=.fields #[.int lo t,.int hi u,.int 1 v]},toks:=tk}:=I.kept λb o e=>X6 _ e;refine⟨(s.heap.push {cls:=.type "range",data:=.fields #[.int lo t,.int hi u,.int 1 v]}).objs.size,[(s.heap.push {cls:=.type "range",data:=.fields #[.int lo t,.int hi u,.int 1 v]}).objs.size],_,_,H,rfl,
  J.kept (t':=tk) λb o e=>X6 _ e,Ft _ lo (hi-lo).toNat,?_,λb U=>?_,q⟩
 .have e1:lo+((0:Nat):Int)*1=lo:=by simp
  have e2:(((hi-lo).toNat:Nat):Int)-((0:Nat):Int)=Builtin.Range.rangeSize lo hi 1:=by rw[rangeSize_one];split<;>omega
  show IsRangeIter _ _ (lo+((0:Nat):Int)*1) ((((hi-lo).toNat:Nat):Int)-((0:Nat):Int)) 1;rw[e1,e2];exact Ym _ rfl
 .have e:b=(s.heap.push {cls:=.type "range",data:=.fields #[.int lo t,.int hi u,.int 1 v]}).objs.size:=by simpa using U
  subst e;exact J.fpOk (Nat.le_refl _) (J.hok.fresh (Nat.le_refl _))
def Kg(ta:TA):TI:=λσ H R=>ta σ H λB H1=>∃j:Int,B=[.int j]/\-(2 ^ 62)<=j/\j<2 ^ 62/\R (Itr 0 j.toNat) H1
theorem xn{p:Pos}(D:Gl X "range")(V:X.mg "range"=none)(Y:PA X [a] ta)(O:Yh [a] X.env=[(false,eval a X.env)]:=by rfl):PI X tg (.Call (.Name "range" p) [a] [] pos) (Kg ta):=by
 intro pins s σ H R I h;refine Call_ (nR I D V boot_range (Z5 (thn (Y pos pins s σ H _ I h) λus Z ⟨B,H1,J,F,q1⟩=>?_) O rfl));obtain⟨j,e,q1,q2,q⟩:=q1;subst e;cases F with
 |cons r z=>
  cases z;obtain⟨t,rfl⟩:=r;exact call_range_1 (Mt J (by omega) (by omega) q1 q2 (by simpa using q))
def Qm(wi:TI)(g:TG)(tb:TS):TS:=λD σ H=>wi σ H λJ H1=>∃W:Nat->Nat->St->Hp->Prop,(∃m,W 0 m σ H1)/\∀i m σ H,W i m σ H->
 (J.stop i H/\D.nx σ H)∨(J.go i H/\∃N:St->Hp->Prop,(∀O H',N O H'->∃B,B<m/\W (i+1) B O H')/\∀x H',J.yld i H x H'->g x σ H' λσ2 H2=>tb {D with nx:=N,ct:=N,bk:=D.nx} σ2 H2)
def qH(fp:List Addr)(h:Heap):List (Addr×Obj):=fp.filterMap λb=>(h.get? b).map λo=>(b,o)
theorem iC(U:b∈fp)(e:h.get? b=some o):(b,o)∈qH fp h:=aco.mpr ⟨b,U,by rw[e];rfl⟩
theorem xW{p:Addr×Obj}(O:p∈qH fp h):p.1∈fp/\h.get? p.1=some p.2:=by
 obtain⟨b,U,e⟩:=aco.mp O;cases q:h.get? b with
 |none=>rw[q]at e;cases e
 |some o=>
  rw[q]at e;have e':(b,o)=p:=Ze e;subst e';exact⟨U,q⟩
theorem Inv.pinned(I:Inv X pins σ H s)(Y:∀b∈fp,mX X pins H b)(J:∀b∈fp,∃o,s.heap.get? b=some o/\∀v,o.data≠.cell v):Inv X (pins++qH fp s.heap) σ H s:=
 I.pins_of λp O=>(List.mem_append.mp O).elim (λz=>I.pin p (X7 _ z)) λz=>by
  obtain⟨U,e⟩:=xW z;obtain⟨q,B,D,_⟩:=Y p.1 U;obtain⟨o,e',d⟩:=J p.1 U;rw[e]at e';cases e';exact⟨e,q,B,D,d⟩
theorem Inv.unpinned{pl:List (Addr×Obj)}(I:Inv X (pins++pl) σ H s):Inv X pins σ H s:=I.pins_of λp O=>I.pin p (X7 _ (Ye _ O))
theorem Fx{iter:Expr}{wi:TI}(hp:acn (model X.prog X.w) X.A X.env X.xe)(F:X.calm=true)(hi:PI X tg iter wi)(hg:PG X tg g)(U:PSs X body tb)
  (O:∀x,ZD iter X.env x=pure x:=by intro _;rfl):PS X (.For tg iter body [] pos) (Qm wi g tb):=by
 intro pins s σ H D I h;refine wpAny_For (thn (hi pins s σ H _ I h) λv s1 h1=>thn h1 λb3 B h2=>?_) O;obtain⟨it,fp,tn,J,H2,e,I2,T,a9,f2,W,⟨q,w0⟩,a8⟩:=h2;subst e;have a3:∀{H':Hp},(∀b∈fp,H' b=none)->∀b∈fp,mX X pins H' b:=λhn b U=>⟨hn b U,(f2 b U).2⟩;refine codeAny_forLoop_any (λn s'=>∃i a4 H',Inv X pins a4 H' s'/\tn i s'.heap/\(∀b∈fp,H' b=none)/\W i n a4 H') ?_ q ⟨0,σ,H2,I2,a9,λb U=>(f2 b U).1,w0⟩;rintro n z ⟨i,a2,H3,I3,a7,a6,w3⟩;rcases a8 i n a2 H3 w3 with⟨stop,qn⟩|⟨go,N,hN,step⟩
 .refine aas hp (thn (T.done X rfl rfl rfl F i pins z a2 H3 X.xe I3 (a3 a6) a7 stop) λr s4 ⟨Z,I4⟩=>?_)
  subst Z;exact ab3 ⟨a2,H3,I4,qn⟩
 .refine aas hp (thn (T.item X rfl rfl rfl F i pins z a2 H3 X.xe I3 (a3 a6) a7 go) λr s4 ⟨u,Z,h4⟩=>?_)
  subst Z;refine aas hp (thn h4 λ_ s5 ⟨x,H5,I5,r5,y5,a5,b0⟩=>?_);have b2:=I5.pinned (a3 b0) (T.obj _ _ a5);refine aas hp (thn (hg _ s5 a2 H5 x u _ b2 r5 (step x H5 y5)) λ_ s6 ⟨b1,H6,I6,q6⟩=>?_);refine aas hp (thn (U _ s6 b1 H6 _ I6 q6) λf s7 q7=>?_);have a1:∀{a0:St}{H7:Hp},Inv X (pins++qH fp s5.heap) a0 H7 s7->N a0 H7->∃m,m<n/\∃i a4 H',Inv X pins a4 H' s7/\tn i s7.heap/\(∀b∈fp,H' b=none)/\W i m a4 H':=λ{a0 H7} I7 n7=>by
   obtain⟨m',V,w7⟩:=hN a0 H7 n7;refine⟨m',V,i+1,a0,H7,I7.unpinned,T.keep _ _ _ a5 λb U o e=>(I7.pin (b,o) (X7 _ (X7 _ (iC U e)))).1,λb U=>?_,w7⟩;obtain⟨o,e,d⟩:=T.obj _ _ a5 b U;exact(I7.pin (b,o) (X7 _ (X7 _ (iC U e)))).2.1
  cases f with
  |next=>obtain⟨a0,H7,I7,n7⟩:=q7;exact a1 I7 n7
  |cont=>obtain⟨a0,H7,I7,n7⟩:=q7;exact a1 I7 n7
  |brk=>obtain⟨a0,H7,I7,q7⟩:=q7;exact⟨a0,H7,I7.unpinned,q7⟩
  |ret v=>obtain⟨Y,a0,H7,I7,r7,q7⟩:=q7;exact⟨Y,a0,H7,I7.unpinned,r7,q7⟩
abbrev R2:=V->V->Hp->VK->Prop
def OpR(X:Cx)(f:Value->Value->Sem Value)(r:R2):Prop:=
 ∀(pins:List (Addr×Obj))(s:X4)(σ:St)(H:Hp)(x y:V)(v u:Value)(Q:VK),Inv X pins σ H s->RelV x v->RelV y u->r x y H Q->
  wpAny (model X.prog X.w) X.A (f v u) (EP X pins σ Q) X.xe s
def UnR(X:Cx)(f:Value->Sem Value)(r:V->Hp->VK->Prop):Prop:=
 ∀(pins:List (Addr×Obj))(s:X4)(σ:St)(H:Hp)(x:V)(v:Value)(Q:VK),Inv X pins σ H s->RelV x v->r x H Q->
  wpAny (model X.prog X.w) X.A (f v) (EP X pins σ Q) X.xe s
def gQ(X:Cx)(f:Value)(r:List V->Hp->VK->Prop):Prop:=
 ∀(pins:List (Addr×Obj))(s:X4)(σ:St)(H:Hp)(xs:List V)(us:List Value)(Q:VK),Inv X pins σ H s->Vals xs us->r xs H Q->
  wpAny (model X.prog X.w) X.A (call f us) (EP X pins σ Q) X.xe s
def Xv(X:Cx)(r:V->Hp->(Bool->Hp->Prop)->Prop):Prop:=
 ∀(pins:List (Addr×Obj))(s:X4)(σ:St)(H:Hp)(x:V)(v:Value)(Q:Bool->Hp->Prop),Inv X pins σ H s->RelV x v->r x H Q->
  wpAny (model X.prog X.w) X.A (truthy v) (TP X pins σ Q) X.xe s
def tOp(r:R2)(ta tb:TE):TE:=λσ H Q=>ta σ H λx H1=>tb σ H1 λy H2=>r x y H2 Q
def tUn(r:V->Hp->VK->Prop)(ta:TE):TE:=λσ H Q=>ta σ H λx H1=>r x H1 Q
def rI(C:Int->Int->Prop)(g:Int->Int->V):R2:=λx y H Q=>∃i j,x= .int i/\y= .int j/\C i j/\Q (g i j) H
def rI0(g:Int->Int->V):R2:=λx y H Q=>∃i j,x= .int i/\y= .int j/\Q (g i j) H
def rU(g:Int->V):V->Hp->VK->Prop:=λx H Q=>∃i,x= .int i/\Q (g i) H
variable{b:Expr}{f:Value->Value->Sem Value}{ta tb:TE}
theorem Ue(Y:PE X a ta)(U:PE X b tb){R:V->V->Hp->Prop}(I:Inv X pins σ H s)
  (h:ta σ H λx H1=>tb σ H1 λy H2=>R x y H2) {Q:Value->X4->Prop} 
  (z:∀v u B x y H2,Inv X pins σ H2 B->RelV x v->RelV y u->R x y H2->wpAny (model X.prog X.w) X.A (f v u) Q X.xe B) :
  wpAny (model X.prog X.w) X.A (eval a X.env) (λv O=>wpAny (model X.prog X.w) X.A (eval b X.env) (λu q=>wpAny (model X.prog X.w) X.A (f v u) Q X.xe q) X.xe O) X.xe s:=by
 refine thn (Y pins s σ H _ I h) λv Z ⟨x,H1,J,F,q1⟩=>?_;refine thn (U pins Z σ H1 _ J q1) λu B ⟨y,H2,D,r2,q2⟩=>?_;exact z v u B x y H2 D F r2 q2
variable{r:R2}
theorem Q_{op:Operator}(J:OpR X (ZK op) r)(Y:PE X a ta)(U:PE X b tb):PE X (.BinOp a op b pos) (tOp r ta tb):=by
 intro pins s σ H Q I h;exact wpAny_BinOp (Ue Y U I h λv u B x y H2 V rx z q=>J pins B σ H2 x y v u Q V rx z q)
theorem Vz{op:UnaryOp}{r:V->Hp->VK->Prop}(J:UnR X (unaryOp op) r)(Y:PE X a ta):PE X (.UnaryOp op a pos) (tUn r ta):=by
 intro pins s σ H Q I h;exact UnaryOp_ (thn (Y pins s σ H _ I h) λv Z ⟨x,H1,q,F,q1⟩=>J pins Z σ H1 x v Q q F q1)
variable{g:Int->Int->Int}
theorem opI
  (z:∀(i j:Int)(t u:Tok)(s:X4)(Q:Value->X4->Prop)(E:Value->X4->Prop),C i j->Q (.int (g i j) s.toks) {s with toks:=s.toks+1}->wpAny (model X.prog X.w) X.A (f (.int i t) (.int j u)) Q E s) :
  OpR X f (rI C λi j=>.int (g i j)):=by
 intro pins s σ H x y v u Q I rx U h;obtain⟨i,j,rfl,rfl,F,q⟩:=h;obtain⟨t,rfl⟩:=rx;obtain⟨t',rfl⟩:=U;exact z i j t t' s _ _ F ⟨.int (g i j),H,I.tok _,⟨_,rfl⟩,q⟩
theorem Wu
  (z:∀(i j:Int)(t u:Tok)(s:X4)(Q:Value->X4->Prop)(E:Value->X4->Prop),Q (.int (g i j) s.toks) {s with toks:=s.toks+1}->wpAny (model X.prog X.w) X.A (f (.int i t) (.int j u)) Q E s) :
  OpR X f (rI0 λi j=>.int (g i j)):=by
 intro pins s σ H x y v u Q I rx U h;obtain⟨i,j,rfl,rfl,q⟩:=h;obtain⟨t,rfl⟩:=rx;obtain⟨t',rfl⟩:=U;exact z i j t t' s _ _ ⟨.int (g i j),H,I.tok _,⟨_,rfl⟩,q⟩
theorem O9{g:Int->Int->Bool}
  (z:∀(i j:Int)(t u:Tok)(s:X4)(Q:Value->X4->Prop)(E:Value->X4->Prop),Q (.bool (g i j)) s->wpAny (model X.prog X.w) X.A (f (.int i t) (.int j u)) Q E s) :
  OpR X f (rI0 λi j=>.bl (g i j)):=by
 intro pins s σ H x y v u Q I rx U h;obtain⟨i,j,rfl,rfl,q⟩:=h;obtain⟨t,rfl⟩:=rx;obtain⟨t',rfl⟩:=U;exact z i j t t' s _ _ ⟨.bl (g i j),H,I,rfl,q⟩
def Xl(i j:Int):Prop:=0<j/\j<1073741824
def XJ(i j:Int):Prop:=0<=j/\j<=1000000/\i.natAbs<2 ^ 64
def Uk(i j:Int):Prop:=(-(2 ^ 64)<i/\i<2 ^ 64)∨(-(2 ^ 64)<j/\j<2 ^ 64)
theorem Uk.ok{i j:Int}(h:Uk i j):IntMulOk i j:=by
 rcases h with⟨h1,h2⟩|⟨h1,h2⟩
 .exact .of_left (intBits_le_64 h1 h2)
 .exact .of_right (intBits_le_64 h1 h2)
theorem R6:OpR X (ZK .Add) (rI0 λi j=>.int (i+j)):=Wu λ_ _ _ _ _ _ _ q=>add_int q
theorem Uc:OpR X (ZK .Sub) (rI0 λi j=>.int (i-j)):=Wu λ_ _ _ _ _ _ _ q=>sub_int q
theorem Ut:OpR X (ZK .Mult) (rI Uk λi j=>.int (i*j)):=opI λ_ _ _ _ _ _ _ F q=>mul_int q F.ok
theorem UL:OpR X (ZK .Mod) (rI (λ_ j=>0<j) λi j=>.int (i % j)):=opI λi j _ _ _ _ _ F q=>by
 have h1:(0:Int)<j:=F;exact mod_int' (by omega) (by rw[acw i (by omega)];exact q)
theorem Ss:OpR X (ZK .Pow) (rI XJ λi j=>.int (i ^ j.toNat)):=opI λ_ _ _ _ _ _ _ F q=>pow_int_small F.1 F.2.1 F.2.2 q
theorem unI{f:Value->Sem Value}{g:Int->Int}
  (z:∀(i:Int)(t:Tok)(s:X4)(Q:Value->X4->Prop)(E:Value->X4->Prop),Q (.int (g i) s.toks) {s with toks:=s.toks+1}->wpAny (model X.prog X.w) X.A (f (.int i t)) Q E s) :
  UnR X f (rU λi=>.int (g i)):=by
 intro pins s σ H x v Q I rx h;obtain⟨i,rfl,q⟩:=h;obtain⟨t,rfl⟩:=rx;exact z i t s _ _ ⟨.int (g i),H,I.tok _,⟨_,rfl⟩,q⟩
theorem UW:UnR X (unaryOp .USub) (rU λi=>.int (-i)):=unI λ_ _ _ _ _ q=>neg_int q
theorem Ep{Q:VK}{k O:Bool}(I:Inv X pins σ H s)(q:Q (.bl k) H)(e:k=O):EP X pins σ Q (.bool O) s:=by
 subst e;exact⟨.bl k,H,I,rfl,q⟩
theorem Wd:OpR X (YG .Lt) (rI0 λi j=>.bl (decide (i<j))):=O9 λ_ _ _ _ _ _ _ q=>lt_int q
theorem Vx:OpR X (YG .LtE) (rI0 λi j=>.bl (decide (i<=j))):=O9 λ_ _ _ _ _ _ _ q=>le_int q
theorem W8:OpR X (YG .Gt) (rI0 λi j=>.bl (decide (j<i))):=O9 λ_ _ _ _ _ _ _ q=>gt_int q
theorem WX:OpR X (YG .GtE) (rI0 λi j=>.bl (decide (j<=i))):=O9 λ_ _ _ _ _ _ _ q=>ge_int q
theorem Ii:OpR X (YG .Lt) (λx y H Q=>∃i j,x= .str i/\y= .str j/\Q (.bl (decide (i.cps.toList<j.cps.toList))) H):=by
 intro pins s σ H x y v u Q I rx U h;obtain⟨i,j,rfl,rfl,q⟩:=h;obtain⟨t,rfl⟩:=rx;obtain⟨t',rfl⟩:=U;exact lt_str (Ep I q rfl)
theorem Jc:OpR X (YG .In) (λx y H Q=>∃i j,x= .str i/\y= .str j/\Q (.bl (!(Zd j i 0 j.length 1).isEmpty)) H):=by
 intro pins s σ H x y v u Q I rx U h;obtain⟨i,j,rfl,rfl,q⟩:=h;obtain⟨t,rfl⟩:=rx;obtain⟨t',rfl⟩:=U;exact in_str (Ep I q rfl)
theorem T8:OpR X (YG .Is) (λx y H Q=>y= .non/\Q (.bl (decide (x= .non))) H):=by
 intro pins s σ H x y v u Q I rx U h;obtain⟨rfl,q⟩:=h;cases U;refine is_none_gen (Ep I q ?_);cases x<;>first
  |(cases rx;rfl)
  |(obtain⟨t,rfl⟩:=rx;rfl)
theorem Gf(J:OpR X (YG op) r)(Y:PE X a ta)(U:PE X b tb)(V:abi op b=false):PE X (.Compare a [op] [b] pos) (tOp r ta tb):=by
 intro pins s σ H Q I h;exact wpAny_Compare1 (Ue Y U I h λv u B x y H2 D rx z q=>J pins B σ H2 x y v u Q D rx z q) V
def FZ(t:TE):TT:=λσ H Q=>t σ H λx H'=>∃k,x= .bl k/\Q k H'
theorem Ho(J:OpR X (YG op) r)(Y:PE X a ta)(U:PE X b tb)(V:abi op b=false):PT X (.Compare a [op] [b] pos) (FZ (tOp r ta tb)):=by
 intro pins s σ H Q I h;refine wpAny_isTrue_Compare1 (thn (Y pins s σ H _ I h) λv Z ⟨x,H1,I1,F,q1⟩=>thn (U pins Z σ H1 _ I1 q1) λu B ⟨y,H2,I2,O,q2⟩=>
  thn (J pins B σ H2 x y v u _ I2 F O q2) λc s3 ⟨z,H3,q,r3,k,e,D⟩=>?_) V
 subst e;cases r3;exact Z4 ⟨H3,q,D⟩
def M4(r Z:R2)(ta tb tc:TE):TE:=λσ H Q=>ta σ H λx H1=>tb σ H1 λy H2=>r x y H2 λz F=>∃k,z= .bl k/\
 (if k=true then tc σ F λY q=>Z y Y q Q else Q (.bl false) F)
variable{tc:TE}
theorem Kf{a0:CmpOp}{r':R2}(J:OpR X (YG op) r)(a1:OpR X (YG a0) r')(Y:PE X a ta)(U:PE X b tb)(F:PE X c tc)
  (V:lastMarks [op,a0] [b,c]=false:=by with_unfolding_all rfl):PT X (.Compare a [op,a0] [b,c] pos) (FZ (M4 r r' ta tb tc)):=by
 intro pins s σ H Q I h;refine isTrue_chain (thn (Y pins s σ H _ I h) λv Z ⟨x,H1,I1,r1,q1⟩=>test_link (thn (U pins Z σ H1 _ I1 q1) λu B ⟨y,H2,I2,O,q2⟩=>
  thn (J pins B σ H2 x y v u _ I2 r1 O q2) λd s3 ⟨z,H3,q,r3,k,e,D⟩=>?_)) V
 subst e;cases r3;refine Z4 ?_;cases k with
 |false=>
  obtain⟨k',e',q'⟩:=D;cases e';exact ite_ff ⟨H3,q,q'⟩
 |true=>
  refine ite_tt (test_last (thn (F pins s3 σ H3 _ q D) λw' s4 ⟨z',H4,I4,r4,q4⟩=>thn (a1 pins s4 σ H4 y z' u w' _ I4 O r4 q4) λd' s5 ⟨z2,H5,I5,r5,k2,e2,q5⟩=>?_));subst e2;cases r5;exact Z4 ⟨H5,I5,q5⟩
def Mm(K:Yb)(x:V)(H:Hp)(k:Bool):Prop:=
 match x with
 |.non=>k=false
 |.bl b=>k=b
 |.int i=>k=(i !=0)
 |.str y=>y.length<=Yc/\k=((y.length:Int)!=0)
 |.byt y=>y.size<=Yc/\k=((y.size:Int)!=0)
 |.ref p=>(∃xs,SqL K H p xs/\k= !xs.isEmpty)∨(∃xs,SqT K H p xs/\k= !xs.isEmpty)∨∃kvs,H p=some (.dK kvs)/\k= !kvs.isEmpty
 |_=>False
theorem Eh{kvs:List (κ×V)}{B:List (κ×Value)}(r:KV kvs B):(!B.isEmpty)= !kvs.isEmpty:=by
 cases r<;>rfl
theorem v5(r:Vals xs its):(!its.toArray.isEmpty)= !xs.isEmpty:=by
 cases r<;>simp
theorem qj:(Yc:Nat)<2 ^ 63:=by rw[aci];decide
theorem Uj:Xv X (λx H Q=>∃k,Mm X.K x H k/\Q k H):=by
 intro pins s σ H x v Q I rx h;obtain⟨k,e,q⟩:=h;have Z:=qj;have O:Yc=16777216:=aci;cases x with
 |non=>
  cases rx;have e':k=false:=e;subst e';exact truthy_none ⟨H,I,q⟩
 |bl b=>
  cases rx;have e':k=b:=e;subst e';exact Z4 ⟨H,I,q⟩
 |int i=>
  obtain⟨t,rfl⟩:=rx;have e':k=(i !=0):=e;subst e';exact PySem.P.truthy_int ⟨H,I,q⟩
 |str y=>
  obtain⟨t,rfl⟩:=rx;obtain⟨F,e'⟩:y.length<=Yc/\k=((y.length:Int)!=0):=e;subst e';exact PySem.P.truthy_str (by omega) ⟨H,I.tok _,q⟩
 |byt y=>
  obtain⟨t,rfl⟩:=rx;obtain⟨F,e'⟩:y.size<=Yc/\k=((y.size:Int)!=0):=e;subst e';exact PySem.W.truthy_bytes (by omega) ⟨H,I.tok _,q⟩
 |ref p=>
  cases rx;have e':(∃xs,SqL X.K H p xs/\k= !xs.isEmpty)∨(∃xs,SqT X.K H p xs/\k= !xs.isEmpty)∨∃kvs,H p=some (.dK kvs)/\k= !kvs.isEmpty:=e;rcases e' with⟨xs,D,e'⟩|⟨xs,D,e'⟩|⟨kvs,D,e'⟩
  .subst e'
   obtain⟨its,r,pl,hz⟩:=I.list D;have z:=r.length;exact wpAny_truthy_list pl.isList (by simp![List.size_toArray];omega) ⟨H,I.tok _,by rw[v5 r];exact q⟩
  .subst e'
   obtain⟨its,r,pl,hz⟩:=I.tuple D;have z:=r.length;exact truthy_tuple pl (by simp![List.size_toArray];omega) ⟨H,I.tok _,by rw[v5 r];exact q⟩
  .subst e'
   obtain⟨hz,U,B,r,m⟩:kvs.length<=Yc/\(p==ZW)=false/\∃B,KV kvs B/\s.heap.DictOf (bA X.prog X.w) p B:=I.hok p _ D;have z:kvs.length=B.length:=acs r;exact wpAny_truthy_dict U m (by omega) ⟨H,I.tok _,by rw[Eh r];exact q⟩
 |_=>exact(show False from e).elim
theorem Dh(Y:PE X a ta)(q:∀z,adp a X.env z=(do let v ←z;aeq a.pos;abl [v] (truthy v))) :
  PT X a (λσ H Q=>ta σ H λx H'=>∃k,Mm X.K x H' k/\Q k H'):=by
 intro pins s σ H Q I h;exact isTrue_plain (thn (Y pins s σ H _ I h) λv Z ⟨x,H1,J,F,q1⟩=>Uj pins Z σ H1 x v Q J F q1) (q _)
theorem Eu:OpR X (ZK .Add) (λx y H Q=>∃i j,x= .str i/\y= .str j/\i.length+j.length<=Yc/\Q (.str (i++j)) H):=by
 intro pins s σ H x y v u Q I rx U h;obtain⟨i,j,rfl,rfl,hz,q⟩:=h;obtain⟨t,rfl⟩:=rx;obtain⟨t',rfl⟩:=U;exact add_str (λt' tk=>⟨.str (i++j),H,I.tok _,⟨_,rfl⟩,q⟩) hz
theorem vals1{x:V}(r:Vals [x] us):∃u,us=[u]/\RelV x u:=by
 cases r with
 |cons F O=>cases O;exact⟨_,rfl,F⟩
theorem vals2{x y:V}(r:Vals [x,y] us):∃u Y,us=[u,Y]/\RelV x u/\RelV y Y:=by
 cases r with
 |cons F O=>
  cases O with
  |cons U q=>cases q;exact⟨_,_,rfl,F,U⟩
theorem HF(F:X.calm=true):gQ X (.builtin "max") (λxs H Q=>∃i j,xs=[.int i,.int j]/\Q (.int (if j>i then j else i)) H):=by
 intro pins s σ H xs us Q I r h;obtain⟨i,j,rfl,q⟩:=h;obtain⟨u,Y,rfl,⟨t,rfl⟩,⟨t',rfl⟩⟩:=vals2 r;refine max_two_ints (I.ok.hd F) λh' tk k=>⟨_,H,I.kept k,?_,q⟩;by_cases O:j>i
 .rw[Yi O,Yi O];exact⟨_,rfl⟩
 .rw[YB O,YB O];exact⟨_,rfl⟩
theorem IW:gQ X (.type "int") (λxs H Q=>(∃i,xs=[.int i]/\Q (.int i) H)∨∃k,xs=[.bl k]/\Q (.int (if k then 1 else 0)) H):=by
 intro pins s σ H xs us Q I r h;rcases h with⟨i,rfl,q⟩|⟨k,rfl,q⟩
 .obtain⟨u,rfl,t,rfl⟩:=vals1 r
  exact call_int_int ⟨.int i,H,I,⟨_,rfl⟩,q⟩
 .obtain⟨u,rfl,r1⟩:=vals1 r
  cases r1;exact call_int_bool ⟨.int (if k then 1 else 0),H,I.tok _,⟨_,rfl⟩,q⟩
theorem Cd:gQ X (.builtin "divmod") (λxs H Q=>∃i j,xs=[.int i,.int j]/\Xl i j/\∀p,H p=none->Q (.ref p) (upd H p (.tup [.int (i / j),.int (i % j)]))):=by
 intro pins s σ H xs us Q I r h;obtain⟨i,j,rfl,⟨h1,h2⟩,q⟩:=h;obtain⟨u,Y,rfl,⟨t,rfl⟩,⟨t',rfl⟩⟩:=vals2 r;refine divmod_int (by omega) ?_ (.inl (PyProof.noPylong_small (by omega)));rw[acx i (by omega),acw i (by omega)];have z:H s.heap.objs.size=none:=I.hok.fresh (Nat.le_refl _);refine⟨.ref s.heap.objs.size,_,?_,rfl,q _ z⟩;refine I.laid (λb o e=>X6 _ e) (Nat.le_refl _) ⟨by simp![Yd,Yt];rw[aci];decide,[.int (i / j) s.toks,.int (i % j) (s.toks+1)],.cons ⟨_,rfl⟩ (.cons ⟨_,rfl⟩ .nil),?_⟩;exact⟨_,Ym s.heap rfl,rfl,0,rfl,rfl⟩
structure RT(h:Heap)(x dx C:Addr)(mA:Str->Option Value):Prop where
 obj:h.get? x=some (ac9 C dx)
 ns:h.Ns1 dx mA
 ne:dx≠x
theorem Io{D:Str->Option Value}(n:h.Ns1 dx D):∃od,h.get? dx=some od/\∀name,adu name od=some (D name):=by
 obtain⟨o,es,ep,J,hd,O,_,V⟩:=n;refine⟨o,J,λname=>?_⟩;have e:=V name;unfold nsFind findBy at e;rw[←Array.find?_toList]at e;unfold adu;rw[hd];dsimp only;split
 .rename_i y q
  rw[q]at e;exact congrArg some e
 .rename_i q
  rw[q]at e;have a:es.toList.any (·.refKey)=false:=by
   rw[aes];intro y I;obtain⟨z,t,B⟩:=O y (Array.mem_toList_iff.mp I);simp[DictEntry.refKey,B]
  have F:¬es.toList.any (·.refKey)=true:=by rw[a];exact YT
  rw[YB F];exact congrArg some e
theorem RT.look{x C:Addr}{D:Str->Option Value}(I:RT h x dx C D):∃od,PySem.W.InstAt h x (ac9 C dx) C (some od)/\∀name,adu name od=some (D name):=
 let⟨od,ho,hl⟩:=Io I.ns
 ⟨od,⟨I.obj,rfl,rfl,ho⟩,hl⟩
variable{o:Option Value}
theorem mZ.some_of{v:V}(r:mZ (some v) o):∃u,o=some u/\RelV v u:=by
 cases o with
 |none=>exact(show False from r).elim
 |some u=>exact⟨u,rfl,r⟩
theorem mZ.none_of(r:mZ none o):o=none:=by
 cases o with
 |none=>rfl
 |some u=>exact(show False from r).elim
section
variable{P:Program}{w:World}{H H':Hp}{h h':Heap}{a C dx:Addr}{fs fs':List (Str×V)}
theorem Gy(hok:HOk P w H h)(e:H a=some (.ins C dx fs)):∃D,RT h a dx C D/\(∀f,mZ (fs.lookup f) (D f))/\PySem.Within D (fs.map (·.1))/\fs.length<=1000/\H dx=some (.own a):=by
 obtain⟨d,z,Y,ob,D,n,r,q⟩:=(show cN P w H h a (.ins C dx fs)from hok a _ e);exact⟨D,⟨ob,n,Y⟩,r,q,z,d⟩
end
structure Cls(K:PySem.W.Frag)(C:Addr):Prop where
 pg:aeD K C Str.empty=true
 hd:PySem.W.hasDictIn K C=true
 po:PySem.W.plainOver K C=true
 sa:aeU K (.ref C) "__setattr__"=some (some (.builtin "object.__setattr__"))
theorem Cls.get{K:Yb}{C:Addr}(c:Cls K C)(f:Str):aeD K C f=true:=c.pg
inductive m5(K:PySem.W.Frag)(H:Hp):V->Value->Prop where
 |non:m5 K H .non (.type "NoneType")
 |bl (x:Bool):m5 K H (.bl x) (.type "bool")
 |int (i:Int):m5 K H (.int i) (.type "int")
 |str (x:Str):m5 K H (.str x) (.type "str")
 |flt (x:UInt64):m5 K H (.flt x) (.type "float")
 |lst {a:Addr} {xs:List V} (e:H a=some (.lst xs)):m5 K H (.ref a) (.type "list")
 |frz {a:Addr} {o:Obj} {xs:List V} (e:H a=some (.frz o (.lst xs))):m5 K H (.ref a) (.type "list")
 |tup {a:Addr} {xs:List V} (e:H a=some (.tup xs)):m5 K H (.ref a) (.type "tuple")
 |dK {a:Addr} {kvs:List (Key×V)} (e:H a=some (.dK kvs)):m5 K H (.ref a) (.type "dict")
 |dT {a:Addr} {kvs:List (List Key×V)} (e:H a=some (.dT kvs)):m5 K H (.ref a) (.type "dict")
 |ins {a C dx:Addr} {fs:List (Str×V)} (e:H a=some (.ins C dx fs)) (cl:Cls K C) (ha:aeU K (.ref C) "__class__"=some (some (.builtin "object.__class__")))
  (hn:PySem.W.specialIn K (.builtin "object.__class__") "__get__"=some (some (.builtin "getset_descriptor.__get__"))) (htk:PySem.W.takesIn K (.builtin "object.__class__")=some true)
  (hm:PySem.W.mroIn K C (.type "object")=some true):m5 K H (.ref a) (.ref C)
variable{b:Bool}{s:Shared}{A:Around}{Q:Value->Shared->Prop}{c:Value}
theorem Hz{x:V}{t:Value}(I:Inv X pins σ H s)(rx:RelV x u)(U:m5 X.K H x t)(e:aca X.K t c=some b)(h:∀tk,Q (.bool b) {s with toks:=tk}) :
  wpAny (model X.prog X.w) A (call (.builtin "isinstance") [u,c]) Q E s:=by
 cases U with
 |non=>cases (show u=aba from rx);exact ZJ aet I.kIn Zn e (λz=>nomatch z) h
 |bl y=>cases (show u=acK y from rx);exact ZJ aeu I.kIn Zn e (λz=>nomatch z) h
 |int i=>obtain⟨t,q⟩:=(show ∃t,u=acj i t from rx);cases q;exact ZJ aeE I.kIn Zn e (λz=>nomatch z) h
 |str y=>obtain⟨t,q⟩:=(show ∃t,u=aa_ y t from rx);cases q;exact ZJ aeF I.kIn Zn e (λz=>nomatch z) h
 |flt y=>obtain⟨t,q⟩:=(show ∃t,u=aeB y t from rx);cases q;exact ZJ ad_ I.kIn Zn e (λz=>nomatch z) h
 |@lst a xs F=>
  cases (show u=Y8 a from rx);obtain⟨_,_,n,_,h1⟩:=(show cN X.prog X.w H s.heap a (.lst xs)from I.hok a _ F);exact ZJ abF I.kIn ⟨_,h1,rfl⟩ e (λz=>nomatch z) h
 |@frz a ob xs F=>
  cases (show u=Y8 a from rx);obtain⟨_,_,_,n,_,h1⟩:=(show cN X.prog X.w H s.heap a (.frz ob (.lst xs))from I.hok a _ F);exact ZJ abF I.kIn ⟨_,h1,rfl⟩ e (λz=>nomatch z) h
 |@tup a xs F=>
  cases (show u=Y8 a from rx);obtain⟨_,_,_,p⟩:=(show cN X.prog X.w H s.heap a (.tup xs)from I.hok a _ F);obtain⟨o,h1,h2,_⟩:=p;exact ZJ aea I.kIn ⟨o,h1,h2⟩ e (λz=>nomatch z) h
 |@dK a kvs F=>
  cases (show u=Y8 a from rx);obtain⟨_,_,B,_,p⟩:=(show cN X.prog X.w H s.heap a (.dK kvs)from I.hok a _ F);obtain⟨o,es,ep,h1,h2,_⟩:=p;exact ZJ abG I.kIn ⟨o,h1,h2.1⟩ e (λz=>nomatch z) h
 |@dT a kvs F=>
  cases (show u=Y8 a from rx);obtain⟨_,_,xs,_,o,es,ep,h1,h2,_⟩:=(show cN X.prog X.w H s.heap a (.dT kvs)from I.hok a _ F);exact ZJ abG I.kIn ⟨o,h1,h2.1⟩ e (λz=>nomatch z) h
 |@ins a C dx fs F cl Y hn Z hm=>
  cases (show u=Y8 a from rx);obtain⟨D,O,_⟩:=Gy I.hok F;obtain⟨od,J,_⟩:=O.look;exact ZJ (aeG (cl.get _) cl.hd Y hn Z hm) I.kIn J e (λz=>nomatch z) h
structure jM(k:Nat)(A:Around):Prop where
 hd:A.handled=none
 dp:A.depth+3*k+5<recursionLimit
 un:A.units+16*k+200<cLine
 gd:A.guards=some []
variable{A:Y0}
theorem jM.mono(r:jM k A)(h:j<=k):jM j A:=⟨r.hd,by have:=r.dp;omega,by have:=r.un;omega,r.gd⟩
theorem jM.deeper(r:jM (k+1) A)(env:Env):jM k (A.deeper env):=
 ⟨r.hd,by have:=r.dp;show A.depth+1+3*k+5<_;omega,by have:=r.un;show A.units+3+16*k+200<_;omega,r.gd⟩
theorem jM.depth(r:jM k A):A.depth<recursionLimit:=by have:=r.dp;omega
theorem jM.units(r:jM k A):A.units+64<cLine:=by have:=r.un;omega
def Xf:TA:=λ_ H Q=>Q [] H
def NQ(ta:TE)(q:TA):TA:=λσ H Q=>ta σ H λx H1=>q σ H1 λxs H2=>Q (x::xs) H2
section
variable{X:Cx}{e:Expr}{es:List Expr}{te:TE}{t:TA}{pos:Pos}
theorem R4:PA X [] Xf:=λ_ _ _ _ H Q I h=>acF ⟨[],H,I,.nil,h⟩
theorem zj(Y:PE X e te)(Z:PA X es t)(O:Yh (e::es) X.env=(false,eval e X.env)::Yh es X.env:=by rfl):PA X (e::es) (NQ te t):=by
 intro pos pins s σ H Q I h;rw[O];show wpAny _ _ (spliced ((false,eval e X.env)::Zx pos (Yh es X.env))) _ _ s;refine aeb (thn (Y pins s σ H _ I h) λu q ⟨x,H1,J,F,q1⟩=>?_);exact thn (Z pos pins q σ H1 _ J q1) λus B ⟨xs,H2,V,z,q2⟩=>⟨x::xs,H2,V,.cons F z,q2⟩
def Xn(t:TA):TE:=λσ H Q=>t σ H λxs H1=>xs.length<=Yc/\∀p,H1 p=none->Q (.ref p) (upd H1 p (.tup xs))
def Xo(t:TA):TE:=λσ H Q=>t σ H λxs H1=>xs.length<=Yc/\∀p,H1 p=none->Q (.ref p) (upd H1 p (.lst xs))
theorem N_{x1}(h:PA X es t):PE X (.Tuple es x1 pos) (Xn t):=by
 intro pins s σ H Q I D;refine wpAny_Tuple_spliced (thn (h pos pins s σ H _ I D) λus Z ⟨xs,H1,J,r,z,q⟩=>⟨by rw[←r.length];exact z,?_⟩);have Y:H1 Z.heap.objs.size=none:=J.hok.fresh (Nat.le_refl _);refine⟨.ref Z.heap.objs.size,upd H1 Z.heap.objs.size (.tup xs),J.laid (t':=Z.toks) (λb u e=>X6 _ e) (Nat.le_refl _) ?_,rfl,q _ Y⟩;exact⟨z,us,r,⟨_,Ym _ rfl,rfl,_,rfl,rfl⟩⟩
theorem Ln(h:PA X es t):PE X (.List es pos) (Xo t):=by
 intro pins s σ H Q I D;refine wpAny_List_spliced (thn (h pos pins s σ H _ I D) λus Z ⟨xs,H1,J,r,z,q⟩=>⟨by rw[←r.length];exact z,?_⟩);have Y:H1 Z.heap.objs.size=none:=J.hok.fresh (Nat.le_refl _);refine⟨.ref Z.heap.objs.size,upd H1 Z.heap.objs.size (.lst xs),J.laid (t':=Z.toks) (λb u e=>X6 _ e) (Nat.le_refl _) ?_,rfl,q _ Y⟩;exact⟨z,us,0,r,Ym _ rfl⟩
end
abbrev Sp:=List V->Hp->VK->XK->Prop
abbrev CXT:=List Env->Hp->X4->XK->Value->X4->Prop
structure Q6(P:Program)(w:World)(K:PySem.W.Frag)(mg:Str->Option Value)(base:Heap)(A:Around)(outer:List Env)(s:Shared)(H:Hp):Prop where
 frames:A.frames=some outer
 mod:Mod K mg base
 bs:∀b o,base.get? b=some o->s.heap.get? b=some o/\H b=none
 bsz:base.objs.size<=s.heap.objs.size
 funs:s.heap.FunFrames base outer
 frf:∀b∈frs outer,H b=none
 hok:HOk P w H s.heap
 bare:abV s.gens
def CE(outer:List Env)(P:Yu)(w:World)(H:Hp)(s:X4)(Q:VK)(u:Value)(s':X4):Prop:=
 ∃v H',s'.os=s.os/\abV s'.gens/\Un (frs outer) [] H H' s.heap s'.heap/\HOk P w H' s'.heap/\RelV v u/\Q v H'
def CR(CX:CXT)(outer:List Env)(P:Yu)(w:World)(H:Hp)(s:X4)(Q:VK)(E:XK)(r:Result)(s':X4):Prop:=
 match r with
 |.ok (.ret u)=>CE outer P w H s Q u s'
 |.ok _=>False
 |.error e=>CX outer H s E e s'
structure dJ(P:Program)(w:World)(K:PySem.W.Frag)(mg:Str->Option Value)(base:Heap)(CX:CXT)(k:Nat)(f:Addr)(fd:FuncData)(ps:List Str)(sp:Sp):Prop where
 len:∀vs H Q E,sp vs H Q E->vs.length=ps.length
 run:∀(A:Y0)(outer:List Env)(s:X4)(H:Hp)(args:Args)(us:List Value)(vs:List V)(Q:VK)(E:XK),jM k A->Q6 P w K mg base A outer s H->adv s fd args (ps.zip us)->Vals vs us->sp vs H Q E->
  abm (model P w) A (.call (.ref f) args) (CR CX outer P w H s Q E) s
variable{f:Addr}{CX:CXT}
theorem dJ.imp{K:Yb}{sp z:Sp}(F:dJ P w K mg base CX k f fd ps sp)
  (h:∀B H Q E,z B H Q E->sp B H Q E):dJ P w K mg base CX k f fd ps z:=
 ⟨λB H Q E q=>F.len B H Q E (h _ _ _ _ q),λA outer s H args us B Q E Z Y U J O=>F.run A outer s H args us B Q E Z Y U J (h _ _ _ _ O)⟩
theorem Inv.env0(I:Inv X pins σ H s):Q6 X.prog X.w X.K X.mg X.base X.A X.stack s H:=
 ⟨I.ok.frames,I.ok.mod,I.bs,Y4 I.ok.bsz I.sz,I.stack,I.stkFree,I.hok,I.bare⟩
variable{s':Shared}
theorem Inv.after{Q:VK}(I:Inv X pins σ H s)(h:CE X.stack X.prog X.w H s Q u s'):EP X pins σ Q u s':=by
 obtain⟨v,H',os,bare,un,hok,r,q⟩:=h;obtain⟨U,g,d,t,B⟩:=s';obtain rfl:B=s.os:=os;exact⟨v,H',I.call (h':=U) (g':=g) (d':=d) (t':=t) (ch:=[]) un hok bare (λb z=>absurd z (by simp)),r,q⟩
def Rh(sp:Sp)(dvs:List V)(E:XK)(t:TA):TE:=λσ H Q=>t σ H λB H1=>sp (B++dvs) H1 Q E
def Binds(K:Yb)(fd:YC)(ps:List Str)(ds:List Value):Prop:=
 ∀(s:X4)(us:List Value),K.In s.heap->(us++ds).length=ps.length->adv s fd ⟨us,[]⟩ (ps.zip (us++ds))
theorem Binds.all{K:Yb}(h:∀us:List Value,us.length=ps.length->bindArgs fd ⟨us,[]⟩=pure (ps.zip us)):Binds K fd ps []:=λs us _ Z=>by
 rw[Yz]at Z⊢;exact .of_eq (h us Z)
def Eg(CX:CXT)(X:Cx)(E:XK):Prop:=∀(pins:List (Addr×Obj))(σ:St)(H:Hp)(s:X4)(e:Value)(s':X4),Inv X pins σ H s->CX X.stack H s E e s'->X.xe e s'
section
variable{X:Cx}{CX:CXT}{k:Nat}{f C:Addr}{fd:FuncData}{ps:List Str}{sp:Sp}{dvs:List V}{ds:List Value}{E:XK}{x m:Str}{p pos apos:Pos}{e o:Expr}{es:List Expr}{ta:TE}{t:TA}
theorem Vb{pins:List (Addr×Obj)}{σ:St}{H:Hp}{s:X4}{Q:VK}{us:List Value}{B:List V}(F:dJ X.prog X.w X.K X.mg X.base CX k f fd ps sp)(Z:jM k X.A)(U:Binds X.K fd ps ds)(hd:Vals dvs ds)(q:Eg CX X E)
  (I:Inv X pins σ H s) (r:Vals B us) (h:sp (B++dvs) H Q E):wpAny (model X.prog X.w) X.A (call (.ref f) us) (EP X pins σ Q) X.xe s:=by
 have O:Vals (B++dvs) (us++ds):=r.append hd;have z:(us++ds).length=ps.length:=by rw[←O.length];exact F.len _ _ _ _ h
 refine wpAny_call (aaG (F.run X.A X.stack s H ⟨us,[]⟩ (us++ds) (B++dvs) Q E Z I.env0 (U s us I.kIn z) O h) λr s' D=>?_);cases r with
 |error e=>exact q pins σ H s e s' I D
 |ok fl=>
  cases fl with
  |ret u=>exact I.after D
  |next=>exact aaD D
  |brk=>exact aaD D
  |cont=>exact aaD D
theorem P0(F:dJ X.prog X.w X.K X.mg X.base CX k f fd ps sp)(Z:jM k X.A)(hg:Gl X x)(V:X.mg x=some (.ref f))(J:acb X.K (.ref f)=true)(U:Binds X.K fd ps ds)(hd:Vals dvs ds)(hx:Eg CX X E)
  (Y:PA X (e::es) t) (D:(x==("__debug__":Str))=false:=by decide) (he:Yh (e::es) X.env=(false,eval e X.env)::Yh es X.env:=by rfl) (z:(Zx pos (Yh es X.env)).any (·.1)=false:=by rfl) :
  PE X (.Call (.Name x p) (e::es) [] pos) (Rh sp dvs E t):=by
 intro pins s σ H Q I h;refine aaR (Gz I hg V ?_ D);refine PySem.W.callWith_K (h₀:=X.base) I.ok.mod.kin J (thn (Y pos pins s σ H _ I h) λus s1 ⟨B,H1,O,r,q⟩=>⟨O.kIn,?_⟩) he z;exact Vb F Z U hd hx O r q
end
structure bz(N P:List Str)(sc:Scope):Prop where
 kind:sc.kind= .function
 co:sc.isCoroutine=false
 gen:sc.isGenerator=false
 nd:N.Nodup
 pre:N.take P.length=P
 par:∀x∈P,sc.names.lookup x=some .local∨sc.names.lookup x=some .cell
 nofree:∀y∈sc.names,y.2≠.free
theorem xY:∀{binds:List (Str×Value)}{m:Str->Option Value},(∀v,(x,v)∉binds)->bindL q binds m x=m x
 |[],_,_=>rfl
 |(n,v)::r,m,h=>by
  unfold bindL;rw[xY λw V=>h w (YJ _ V)];split
  .have:x≠n:=by rintro rfl;exact h v Zh
   simp[this]
  .rfl
theorem xM:∀{binds:List (Str×Value)}{m:Str->Option Value},(∀v,(x,v)∉binds)->bindC q binds m x=m x
 |[],_,_=>rfl
 |(n,v)::r,m,h=>by
  unfold bindC;rw[xM λw V=>h w (YJ _ V)];split
  .rfl
  .have:x≠n:=by rintro rfl;exact h v Zh
   simp[this]
theorem xT{q:Str->Option abQ}{x:Str}{v:Value}:∀{P:List Str}{B:List Value}{i:Nat}{m:Str->Option Value},P.Nodup->P[i]? =some x->B[i]? =some v->q x=some .local->
  bindL q (P.zip B) m x=some v
 |[],_,_,_,_,h,_,_=>by simp at h
 |_::_,[],_,_,_,_,h,_=>by simp at h
 |p::P,w::B,0,m,nd,h1,h2,hk=>by
  simp at h1 h2;subst h1;subst h2;show bindL q ((p,w)::P.zip B) m p=_;unfold bindL;rw[xY λv J=>(Yy.mp nd).1 (ab7 J).1,Yi hk];simp
 |p::P,w::B,i+1,m,nd,h1,h2,hk=>by
  show bindL q ((p,w)::P.zip B) m x=_;unfold bindL;exact xT (i:=i) (Yy.mp nd).2 (by simpa using h1) (by simpa using h2) hk
theorem xq{q:Str->Option abQ}{x:Str}{v:Value}:∀{P:List Str}{B:List Value}{i:Nat}{m:Str->Option Value},P.Nodup->P[i]? =some x->B[i]? =some v->q x≠some .local->
  bindC q (P.zip B) m x=some v
 |[],_,_,_,_,h,_,_=>by simp at h
 |_::_,[],_,_,_,_,h,_=>by simp at h
 |p::P,w::B,0,m,nd,h1,h2,hk=>by
  simp at h1 h2;subst h1;subst h2;show bindC q ((p,w)::P.zip B) m p=_;unfold bindC;rw[xM λv J=>(Yy.mp nd).1 (ab7 J).1,YB hk];simp
 |p::P,w::B,i+1,m,nd,h1,h2,hk=>by
  show bindC q ((p,w)::P.zip B) m x=_;unfold bindC;exact xq (i:=i) (Yy.mp nd).2 (by simpa using h1) (by simpa using h2) hk
def start(N:List Str)(B:List V):St:=B.map some++YK (N.length-B.length) none
noncomputable def wU(CX:CXT)(P:Yu)(w:World)(K:Yb)(mg:Str->Option Value)(base:Heap)(N:List Str)(qual:Str)(scope:Scope)(f:Addr)(q:Value)(A:Y0)(outer:List Env)(s:X4)(H:Hp)(E:XK):Cx where
 prog:=P
 w:=w
 K:=K
 mg:=mg
 base:=base
 A:=A.deeper (abj qual scope s.heap.objs.size f q)
 N:=N
 s₀:=s
 H₀:=H
 env:=abj qual scope s.heap.objs.size f q
 outer:=outer
 stack:=abj qual scope s.heap.objs.size f q::outer
 ex:=[]
 calm:=true
 fn:=λ_=>true
 pn:=[]
 xe:=λe s'=>wpAny (model P w) (A.deeper (abj qual scope s.heap.objs.size f q)) (leaving (abj qual scope s.heap.objs.size f q) e) (λ_ D=>CX outer H s E e D) (λe' D=>CX outer H s E e' D) s'
theorem Cm{z:Scope}(h:z.names.lookup x=some .cell):∃c,(cellsFrom n z.names []).lookup x=some c:=by
 have q:=adf z.names n [] (.inl h);exact acR.mp q
theorem Jp{K:Yb}{cd:Value}{outer:List Env}{s Z:X4}{E:XK}{B:List V}
  (S:bz N ps scope) (hd:A.handled=none) (U:Q6 P w K mg base A outer s H) (hl:B.length=ps.length) (r:Vals B us)
  (x:InCallC s s.heap.objs.size (bindL (abj qual scope s.heap.objs.size f cd).kindOf (ps.zip us) λ_=>none) (cellsFrom (s.heap.objs.size+1) scope.names []) (bindC (abj qual scope s.heap.objs.size f cd).kindOf (ps.zip us) λ_=>none) Z) :
  Inv (wU CX P w K mg base N qual scope f cd A outer s H E) [] (start N B) H Z:=by
 have a1:ps.length<=N.length:=by have:=congrArg aad S.pre;rw[YX]at this;omega
 obtain⟨h1,tk,rfl,J⟩:=x.done;have D:∀b:Addr,b∉(wU CX P w K mg base N qual scope f cd A outer s H E).ex:=λb z=>absurd (show b∈([]:List Addr)from z) (by simp);refine⟨⟨U.mod,S.kind,rfl,rfl,Nat.le_refl _,λy z c h1 h2=>?_,λy I=>?_,λy c _ h=>?_,λ_=>hd,Around.frames_deeper U.frames,.inr ⟨rfl,rfl⟩,λb z=>absurd z (D b),U.bs,U.bsz,λb _ _=>D b,λb z=>absurd z (D b),U.funs,U.frf⟩,
  rfl,U.bare,Un.kept J,⟨_,x.toInCall.ns,λi y v h1 h2 h3=>?_⟩,λy c h=>⟨_,x.cell y c h⟩,U.hok.fresh (Nat.le_refl _),λy c h=>?_,λp O=>absurd (show p∈([]:List (Addr×Obj))from O) (by simp),U.hok.kept J,?_⟩
 .exact name_of_addr x.apart (aal h1) (aal h2)
 .have I:scope.names.lookup y=some .cell∨scope.names.lookup y=some .free:=I
  rcases I with I|I
  .exact Cm I
  .exact absurd rfl (S.nofree _ (aal I))
 .exact aa2 (x.above y c (aal h))
 .have hi:i<B.length:=by
   unfold start at h2;by_cases hi:i<B.length
   .exact hi
   .rw[Za (by simpa using hi)]at h2
    rw[ac5]at h2;split at h2<;>cases h2
  have Y:B[i]? =some v:=by
   unfold start at h2;rw[Y5 (by simpa using hi),List.getElem?_map]at h2;cases e:B[i]? with
   |none=>rw[e]at h2;cases h2
   |some a=>rw[e]at h2;cases h2;rfl
  obtain⟨u,F,rv⟩:=r.get Y;have O:ps[i]? =some y:=by
   rw[←S.pre,List.getElem?_take_of_lt (by omega)];exact h1
  have a0:ps.Nodup:=by rw[←S.pre];exact S.nd.sublist (aev _ _)
  refine⟨u,rv,?_⟩;rcases S.par y (YD O)with k|k
  .exact .inl ⟨k,xT a0 O F k⟩
  .obtain⟨c,e⟩:=Cm (n:=s.heap.objs.size+1) k
   refine .inr ⟨.inl k,c,e,?_⟩;have q:=x.cell y c e;rw[xq a0 O F (by show scope.names.lookup y≠_;rw[k];decide)]at q;exact q
 .exact U.hok.fresh (aa2 (x.above y c (aal h)))
 .unfold start
  show _=N.length;rw[YW,X_,List.length_replicate];omega
theorem V6{K:Yb}{F:Arguments}{dV kV doc pm cdv ct:Value}{an od:Option Addr}
    {sp:Sp} (lk:K.lookup f=some ⟨oc,od,.func (abv name qual F body scope dV kV doc pm an cdv ct),osl⟩) (a5:adw K cdv qual=true) (S:bz N ps scope)
  (len:∀B H Q E,sp B H Q E->B.length=ps.length)
  (z:∀(A:Y0)(outer:List Env)(s:X4)(H:Hp)(B:List V)(Q:VK)(E:XK),jM k (A.deeper (abj qual scope s.heap.objs.size f cdv))->sp B H Q E->
   ∃t,PSs (wU CX P w K mg base N qual scope f cdv A outer s H E) body t/\t {nx:=λ_ H'=>Q .non H',rt:=Q} (start N B) H) :
  dJ P w K mg base CX (k+1) f (abv name qual F body scope dV kV doc pm an cdv ct) ps sp:=by
 refine⟨len,λA outer s H args us B Q E Z e0 U r a2=>?_⟩;have hl:=len _ _ _ _ a2;have KX:K.In s.heap:=e0.mod.kin.keeps λb o e=>(e0.bs b o e).1;have a4:s.heap.NoLimit:=e0.mod.nolimit.keeps λb o e=>(e0.bs b o e).1;have a1:∀y∈ps.zip us,scope.names.lookup y.1=some .local∨(scope.names.lookup y.1=some .cell/\((cellsFrom (s.heap.objs.size+1) scope.names []).lookup y.1).isSome=true):=λ⟨n,v⟩ hy=>by
  rcases S.par n (ab7 hy).1 with q|q
  .exact .inl q
  .exact .inr ⟨q,adf _ _ _ (.inl q)⟩
 refine codeAny_call_function Z.depth (KX _ _ lk) rfl S.co S.gen rfl (PySem.W.codeRec_of KX a5) (U _ _ _ _ ?_);refine wpAny_newFunctionEnv_cells S.kind a1 λenv Y s1 x=>?_;subst Y;refine⟨a4.keeps x.toInCall.keep,codeAny_func ?_⟩;obtain⟨t,ht,D⟩:=z A outer s H B Q E (Z.deeper _) a2;have I:Inv (wU CX P w K mg base N qual scope f cdv A outer s H E) [] (start N B) H s1:=Jp S Z.hd e0 hl r x;refine aaC (ht [] s1 (start N B) H _ I D) (λfl s' O=>?_) λe s' O=>O;have a3:∀{a0:St}{H':Hp}{v:V}{u:Value},Inv (wU CX P w K mg base N qual scope f cdv A outer s H E) [] a0 H' s'->RelV v u->Q v H'->CE outer P w H s Q u s':=
  λ{a0 H' v u} J rv q=>⟨v,H',J.os,J.bare,J.base,J.hok,rv,q⟩
 cases fl with
 |ret u=>
  obtain⟨v,a0,H',J,rv,q⟩:=O;exact a3 J rv q
 |next=>
  obtain⟨a0,H',J,q⟩:=O;exact a3 (v:=V.non) (u:=aba) J rfl q
 |brk=>
  obtain⟨_,_,_,q⟩:=O;exact aaD q
 |cont=>
  obtain⟨_,_,_,q⟩:=O;exact aaD q
section
variable{X:Cx}{x:Str}{p pos:Pos}{e:Expr}{es:List Expr}{t:TA}{id T:String}{r:List V->Hp->VK->Prop}
def tCB(r:List V->Hp->VK->Prop)(t:TA):TE:=λσ H Q=>t σ H λB H1=>r B H1 Q
theorem Nt(F:gQ X (.builtin id) r)(hg:Gl X x)(V:X.mg x=none)(D:Z7 x=some (.builtin id))(Y:PA X (e::es) t)(hn:x≠"__name__":=by decide)(q:(x==("__debug__":Str))=false:=by decide)
  (U:Yh (e::es) X.env=(false,eval e X.env)::Yh es X.env:=by rfl) (z:(Zx pos (Yh es X.env)).any (·.1)=false:=by rfl):PE X (.Call (.Name x p) (e::es) [] pos) (tCB r t):=by
 intro pins s σ H Q I h;refine aaR (nR I hg V D ?_ hn q);exact PyProof.Rows.callWith_builtin1 (thn (Y pos pins s σ H _ I h) λus Z ⟨B,H1,J,O,q1⟩=>F pins Z σ H1 B us Q J O q1) U z
theorem ym(F:gQ X (.type T) r)(hg:Gl X x)(V:X.mg x=none)(D:Z7 x=some (.type T))(Y:PA X (e::es) t)(hn:x≠"__name__":=by decide)(q:(x==("__debug__":Str))=false:=by decide)
  (U:Yh (e::es) X.env=(false,eval e X.env)::Yh es X.env:=by rfl) (z:(Zx pos (Yh es X.env)).any (·.1)=false:=by rfl):PE X (.Call (.Name x p) (e::es) [] pos) (tCB r t):=by
 intro pins s σ H Q I h;refine aaR (nR I hg V D ?_ hn q);exact Z5 (thn (Y pos pins s σ H _ I h) λus Z ⟨B,H1,J,O,q1⟩=>F pins Z σ H1 B us Q J O q1) U z
end
end L2
namespace HT
open PySem PyProof.Rows
theorem cat_tup{t b:Addr}{B Y:List Value}(ht:IsTup s.heap t B.toArray)(U:IsTup s.heap b Y.toArray)(hv:B≠[])
  (h1:Y=[]->Q (.ref t) s) (h2:Y≠[]->Q (.ref s.heap.objs.size) {s with heap:=s.heap.push {cls:=.type "tuple",data:=.seq (B++Y).toArray}})
  (hsz:B.length+Y.length<=Yc):wpAny (model prog w) A (ZK .Add (.ref t) (.ref b)) Q E s:=by
 obtain⟨⟨cls,D,data,sl⟩,J,hc,n,hd⟩:=id ht;obtain⟨⟨a2,q,a1,a0⟩,I,z,Z,O⟩:=id U;simp only at hc hd z O;subst hc hd z O;have e:B.toArray++Y.toArray=(B++Y).toArray:=by simp
 by_cases V:Y=[]
 .exact aec ⟨_,J,rfl⟩ ⟨_,I,rfl⟩ acS adU abK abE (abw _ _)
   (tuple_addW1 t b B.toArray Y.toArray n Z D q sl a0 (by simpa using hv) (by simp[V])) ⟨J,I,h1 V⟩
 .refine aec ⟨_,J,rfl⟩ ⟨_,I,rfl⟩ acS adU abK abE (abw _ _)
   (tuple_addW2 t b B.toArray Y.toArray n Z D q sl a0 (by simpa using hv) (by simpa using V) (by rw[List.size_toArray,List.size_toArray];exact hsz)) ⟨J,I,?_⟩
  rw[e];exact h2 V
def sIx(n d:Nat):Option Int->Nat
 |none=>d
 |some v=>if v<0 then(v+(n:Int)).toNat else min v.toNat n
theorem sIx_none(n d:Nat):sIx n d none=d:=rfl
theorem sIx_nat(n d k:Nat):sIx n d (some (k:Int))=min k n:=by
 show(if(k:Int)<0 then((k:Int)+(n:Int)).toNat else min (k:Int).toNat n)=min k n;rw[YB (by omega),aaY]
theorem R1(n d:Nat)(hd:d<=n)(o:Option Int):sIx n d o<=n:=by
 cases o with
 |none=>exact hd
 |some v=>
  show(if v<0 then(v+(n:Int)).toNat else min v.toNat n)<=n;by_cases J:v<0
  .rw[Yi J];omega
  .rw[YB J];exact aeH _ _
theorem Hi(v:Int)(n d:Nat):(if v<0 then max (v+(n:Int)) 0 else min v (n:Int))=((sIx n d (some v):Nat):Int):=by
 show(if v<0 then max (v+(n:Int)) 0 else min v (n:Int))=(((if v<0 then(v+(n:Int)).toNat else min v.toNat n):Nat):Int);by_cases J:v<0
 .simp![Yi J];omega
 .simp![YB J];omega
theorem adjust_gen(lo hi:Option Int)(n:Nat):Y6 lo hi 1 (n:Int)=(((sIx n 0 lo:Nat):Int),((sIx n n hi:Nat):Int)):=by
 have h1:¬((1:Int)<0):=by omega
 unfold Y6;simp![h1,aaa];refine Prod.ext ?_ ?_
 .cases lo with
  |none=>rfl
  |some v=>exact Hi v n 0
 .cases hi with
  |none=>rfl
  |some v=>exact Hi v n n
theorem places_gen(i j:Nat):YS (i:Int) (j:Int) 1=j-i:=by
 unfold YS;have h1:(1:Int)>0:=by omega
 simp![h1,Yx,Int.ediv_one];split<;>omega
theorem slicePart_{o:Option Int}{Q:Option Int->X4->Prop}(p:aa4 v o)(h:Q o s):wpAny (model prog w) A (Builtin.Slice.slicePartIndex v) Q E s:=by
 cases p with
 |none=>exact slicePart_none h
 |int i t=>exact slicePart_int h
theorem ud{vl D:Value}{lo hi:Option Int}{Q:Int×Int×Nat->X4->Prop}(O:s.heap.IsSliceOf sl vl D .none)(pl:aa4 vl lo)(Z:aa4 D hi)
  (h:Q (((sIx n 0 lo:Nat):Int),1,sIx n n hi-sIx n 0 lo) s):wpAny (model prog w) A (aav (.ref sl) (pure (n:Int))) Q E s:=by
 obtain⟨os,Y,F,q⟩:=id O;unfold aav Builtin.Slice.sliceFields;refine X3 (X3 (aap Y q (x:=vl) rfl (X3 (aap Y q (x:=D) rfl (X3 (aap Y q (x:=.none) rfl (Yg ?_)))))));refine X3 (slicePart_none ?_);show wpAny _ _ (if((1:Int)==0)=true then _ else _) _ _ s;rw[YB (by decide)];refine X3 (slicePart_ pl (X3 (slicePart_ Z (X3 (Yg ?_)))));show wpAny _ _ (match Y6 lo hi 1 (n:Int)with|(lo,hi)=>pure (lo,(1:Int),YS lo hi 1)) _ _ s;rw[adjust_gen lo hi n];show wpAny _ _ (pure (((sIx n 0 lo:Nat):Int),(1:Int),YS ((sIx n 0 lo:Nat):Int) ((sIx n n hi:Nat):Int) 1)) _ _ s;rw[places_gen];exact Yg h
theorem Lg(xs:Array Value)(i k:Nat):((Y9 k).filterMap λ(m:Nat)=>xs[((i:Int)+(m:Int)*1).toNat]?).toArray=((xs.toList.drop i).take k).toArray:=by
 have e:(λ(m:Nat)=>xs[((i:Int)+(m:Int)*1).toNat]?)=λm=>xs[i+m]?:=by
  funext m;have:((i:Int)+(m:Int)*1).toNat=i+m:=by omega
  rw[this]
 rw[e];have:=pick_run xs i k;rw[List.filterMap_map]at this;have e2:((λx=>xs[x]?)∘λx=>i+x)=λm=>xs[i+m]?:=rfl;rw[e2]at this;rw[this]
theorem getItem_tuple_cut{t:Addr}{vl D:Value}{lo hi:Option Int}(U:IsTup s.heap t items)(O:s.heap.IsSliceOf sl vl D .none)(pl:aa4 vl lo)(Z:aa4 D hi)
  (V:¬(sIx items.size 0 lo=0/\sIx items.size items.size hi=items.size))
  (h:Q (.ref s.heap.objs.size) {s with heap:=s.heap.push {cls:=.type "tuple",data:=.seq ((items.toList.drop (sIx items.size 0 lo)).take (sIx items.size items.size hi-sIx items.size 0 lo)).toArray}})
  (hsz:items.size<=Yc):wpAny (model prog w) A (acd (.ref t) (.ref sl)) Q E s:=by
 have J:sizeOk (.seq ((items.toList.drop (sIx items.size 0 lo)).take (sIx items.size items.size hi-sIx items.size 0 lo)).toArray):=by
  show((items.toList.drop (sIx items.size 0 lo)).take (sIx items.size items.size hi-sIx items.size 0 lo)).toArray.size<=Yc;rw[List.size_toArray,YX,aaH,abp];omega
 have hj:sIx items.size items.size hi<=items.size:=R1 _ _ (Nat.le_refl _) hi;obtain⟨os,Y,F,I⟩:=id O;have B:s.TypeIs (.ref sl) "slice":=⟨os,Y,F⟩;unfold acd
 try with_reducible refine ZF ?_
 first|refine X3 (Yg ?_)|skip
 refine X3 (wpAny_sequenceKey U.typeIs (by decide) ?_);refine X3 (aaN (name:=Z8 "__getitem__") U.typeIs Y7
  (aaI Y7 U.typeIs ad1 ?_ (args_tuple_getitem _ _)))
 show wpAny _ _ (acy (.ref t) >>=_) _ _ s;refine X3 (tupleItemsOf_ U ?_);refine X3 (abx B ?_);rw[Yi (by decide)];refine X3 (ud O pl Z ?_);have z:¬((((sIx items.size 0 lo:Nat):Int)==0&&(1:Int)==1&&(sIx items.size items.size hi-sIx items.size 0 lo)==items.size)=true):=by
  intro q;rw[Yp,Yp]at q;have q1:((sIx items.size 0 lo:Nat):Int)=0:=eq_of_beq q.1.1;have q2:sIx items.size items.size hi-sIx items.size 0 lo=items.size:=eq_of_beq q.2;exact V ⟨by omega,by omega⟩
 show wpAny _ _ (if(((sIx items.size 0 lo:Nat):Int)==0&&(1:Int)==1&&(sIx items.size items.size hi-sIx items.size 0 lo)==items.size)=true then _ else _) _ _ s;rw[YB z,Lg]
 first
  |exact X3 (m:=aae _) (ZC (Yg ⟨_,rfl,Yg h⟩) J)
  |exact X3 (m:=aae _) (ZC (X3 (Yg (Yg ⟨_,rfl,Yg h⟩))) J)
  |exact X3 (X3 (m:=aae _) (ZC (Yg (Yg ⟨_,rfl,Yg h⟩)) J))
  |exact X3 (X3 (m:=aae _) (ZC (Yg ⟨_,rfl,Yg h⟩) J))
end HT
namespace L2
open PySem PySem.Spec PyProof.Rows
abbrev TO:=St->Hp->(Option Int->Hp->Prop)->Prop
def PO(X:Cx)(e:Option Expr)(t:TO):Prop:=
 ∀(pins:List (Addr×Obj))(s:X4)(σ:St)(H:Hp)(Q:Option Int->Hp->Prop),Inv X pins σ H s->t σ H Q->
  wpAny (model X.prog X.w) X.A (evalPart e X.env) (λu s'=>∃o H',Inv X pins σ H' s'/\aa4 u o/\Q o H') X.xe s
def Qs:TO:=λ_ H Q=>Q none H
def V7(t:TE):TO:=λσ H Q=>t σ H λx H1=>∃i,x= .int i/\Q (some i) H1
section
variable{X:Cx}{e:Expr}{te:TE}{lo hi:Option Expr}{tl th:TO}{pos p2:Pos}
theorem Qo:PO X none Qs:=by
 intro pins s σ H Q I h;rw[adV];exact Yg ⟨none,H,I,.none,h⟩
theorem Ql(h:PE X e te):PO X (some e) (V7 te):=by
 intro pins s σ H Q I V;rw[evalPart_some];refine thn (h pins s σ H _ I V) λu Z ⟨x,H1,J,F,q1⟩=>?_;obtain⟨i,rfl,q⟩:=q1;obtain⟨t,rfl⟩:=F;exact⟨some i,H1,J,.int i t,q⟩
def SlR(X:Cx)(r:V->Option Int->Option Int->Hp->VK->Prop):Prop:=
 ∀(pins:List (Addr×Obj))(s:X4)(σ:St)(H:Hp)(x:V)(v vl D:Value)(lo hi:Option Int)(sl:Addr)(Q:VK),Inv X pins σ H s->RelV x v->s.heap.IsSliceOf sl vl D .none->aa4 vl lo->aa4 D hi->r x lo hi H Q->
  ∃T id,adH (.type T) "__getitem__"=pure (some (.builtin id))/\s.TypeIs v T/\wpAny (model X.prog X.w) X.A (acd v (.ref sl)) (EP X pins σ Q) X.xe s
theorem SlR.or{r Z:V->Option Int->Option Int->Hp->VK->Prop}(h:SlR X r)(h':SlR X Z):SlR X (λx lo hi H Q=>r x lo hi H Q∨Z x lo hi H Q):=by
 intro pins s σ H x v vl D lo hi sl Q I rx O pl z q;rcases q with q|q
 .exact h pins s σ H x v vl D lo hi sl Q I rx O pl z q
 .exact h' pins s σ H x v vl D lo hi sl Q I rx O pl z q
def tSl(r:V->Option Int->Option Int->Hp->VK->Prop)(te:TE)(tl th:TO):TE:=λσ H Q=>te σ H λx H1=>tl σ H1 λl H2=>th σ H2 λu F=>r x l u F Q
theorem Nh{r:V->Option Int->Option Int->Hp->VK->Prop}(Z:SlR X r)(Y:PE X e te)(hl:PO X lo tl)(F:PO X hi th):PE X (.Subscript e (.Slice lo hi none p2) pos) (tSl r te tl th):=by
 intro pins s σ H Q I h;refine Subscript_ (thn (Y pins s σ H _ I h) λv s1 ⟨x,H1,J,r1,q1⟩=>?_);refine wpAny_Slice (thn (hl pins s1 σ H1 _ J q1) λvl B ⟨l,H2,I2,pl,q2⟩=>thn (F pins B σ H2 _ I2 q2) λO z ⟨u,H3,I3,pu,D⟩=>?_);rw[adV];refine Yg ?_;have I4:Inv X pins σ H3 {z with heap:=z.heap.push {cls:=.type "slice",data:=.fields #[vl,O,.none]}}:=I3.kept (t':=z.toks) λb ob q=>X6 _ q;obtain⟨T,id,hT,U,hg⟩:=Z pins {z with heap:=z.heap.push {cls:=.type "slice",data:=.fields #[vl,O,.none]}} σ H3 x v vl O l u z.heap.objs.size Q I4 r1 (acp ..) pl pu D;show wpAny (model X.prog X.w) X.A (acz e (.Slice lo hi none p2) v (.ref z.heap.objs.size)) (EP X pins σ Q) X.xe {z with heap:=z.heap.push {cls:=.type "slice",data:=.fields #[vl,O,.none]}};exact adI (ops:=[.ref z.heap.objs.size,v]) U hT hg (by with_unfolding_all rfl)
def vP(xs:List V)(lo hi:Option Int):List V:=(xs.drop (HT.sIx xs.length 0 lo)).take (HT.sIx xs.length xs.length hi-HT.sIx xs.length 0 lo)
theorem uo(xs:List V)(lo hi:Option Int):(vP xs lo hi).length<=xs.length:=by
 unfold vP;rw[YX,aaH];omega
def Xy(K:Yb):V->Option Int->Option Int->Hp->VK->Prop:=λx lo hi H Q=>∃a xs,x= .ref a/\SqT K H a xs/\
 ¬(HT.sIx xs.length 0 lo=0/\HT.sIx xs.length xs.length hi=xs.length)/\∀p,H p=none->Q (.ref p) (upd H p (.tup (vP xs lo hi)))
theorem S7:SlR X (Xy X.K):=by
 intro pins s σ H x v vl D lo hi sl Q I rx O pl Z h;obtain⟨a,xs,rfl,B,V,q⟩:=h;cases rx;obtain⟨its,r,U,hz⟩:=I.tuple B;have z:its.toArray.size=xs.length:=by rw[List.size_toArray];exact r.length.symm
 refine⟨"tuple",_,Y7.lookup,U.typeIs,?_⟩;refine HT.getItem_tuple_cut U O pl Z (by rw[z];exact V) ?_ (by rw[z];exact hz);rw[z];refine⟨.ref s.heap.objs.size,_,I.laid (t':=s.toks) (o:=.tup (vP xs lo hi)) (λb ob q=>X6 _ q) (Nat.le_refl _) ?_,rfl,q _ (I.hok.fresh (Nat.le_refl _))⟩;exact⟨Y4 (uo xs lo hi) hz,_,(r.drop (HT.sIx xs.length 0 lo)).take (HT.sIx xs.length xs.length hi-HT.sIx xs.length 0 lo),mq.new _ _⟩
def WL(K:Yb):R2:=λx y H Q=>∃a b xs ys,x= .ref a/\y= .ref b/\SqT K H a xs/\SqT K H b ys/\xs≠[]/\xs.length+ys.length<=Yc/\
 (ys=[]->Q (.ref a) H)/\(ys≠[]->∀p,H p=none->Q (.ref p) (upd H p (.tup (xs++ys))))
theorem Vals.nil_iff{xs:List V}{us:List Value}(r:Vals xs us):us=[]↔xs=[]:=by
 cases r with
 |nil=>simp
 |cons _ _=>simp
theorem QK:OpR X (ZK .Add) (WL X.K):=by
 intro pins s σ H x y v u Q I rx J h;obtain⟨a,b,xs,ys,rfl,rfl,Y,U,B,hz,q1,q2⟩:=h;cases rx;cases J;obtain⟨its,F,p1,_⟩:=I.tuple Y;obtain⟨D,O,p2,_⟩:=I.tuple U;refine HT.cat_tup p1 p2 (λz=>B (F.nil_iff.mp z)) (λz=>⟨.ref a,H,I,rfl,q1 (O.nil_iff.mp z)⟩) (λz=>?_) (by rw[←F.length,←O.length];exact hz);refine⟨.ref s.heap.objs.size,_,I.laid (t':=s.toks) (o:=.tup (xs++ys)) (λb ob q=>X6 _ q) (Nat.le_refl _) ?_,rfl,q2 (λw=>z (O.nil_iff.mpr w)) _ (I.hok.fresh (Nat.le_refl _))⟩;exact⟨by rw[YW];exact hz,_,F.append O,mq.new _ _⟩
end
def ixN(n:Nat)(i:Int):Option Nat:=if 0<=i then(if i<n then some i.toNat else none)else if -(n:Int)<=i then some (i+n).toNat else none
def atI(xs:List α)(i:Int):Option α:=(ixN xs.length i).bind λj=>xs[j]?
variable{i:Int}
theorem zT(h:ixN n i=some j):aed i n=some j/\j<n/\-(n:Int)<=i/\i<n:=by
 unfold ixN at h;by_cases z:0<=i
 .rw[Yi z]at h
  by_cases h1:i<n
  .rw[Yi h1]at h
   have e:i.toNat=j:=Ze h;exact⟨by rw[adg z h1,e],by omega,by omega,h1⟩
  .rw[YB h1]at h;cases h
 .rw[YB z]at h
  by_cases h1: -(n:Int)<=i
  .rw[Yi h1]at h
   have e:(i+n).toNat=j:=Ze h;exact⟨by rw[aee (by omega) h1,e],by omega,h1,by omega⟩
  .rw[YB h1]at h;cases h
theorem zF{xs:List α}{v:α}(h:atI xs i=some v):∃j,aed i xs.length=some j/\xs[j]? =some v/\j<xs.length/\-(xs.length:Int)<=i/\i<xs.length:=by
 unfold atI at h;cases e:ixN xs.length i with
 |none=>rw[e]at h;cases h
 |some j=>
  rw[e]at h;obtain⟨h1,h2,V,F⟩:=zT e;exact⟨j,h1,h,h2,V,F⟩
def uT(b:Expr):Prop:=∀o i,subscripted b false o i=operate [o,i] (acd o i)
def IxR(X:Cx)(r:R2):Prop:=
 ∀(D B:Expr)(pins:List (Addr×Obj))(s:X4)(σ:St)(H:Hp)(x y:V)(v u:Value)(Q:VK),Inv X pins σ H s->RelV x v->RelV y u->r x y H Q->
  subscripted B false v u=operate [v,u] (acd v u)->wpAny (model X.prog X.w) X.A (acz D B v u) (EP X pins σ Q) X.xe s
def MtR(X:Cx)(id:String)(r:V->List V->Hp->VK->Prop):Prop:=
 ∀(pins:List (Addr×Obj))(s:X4)(σ:St)(H:Hp)(x:V)(xs:List V)(v:Value)(us:List Value)(Q:VK),Inv X pins σ H s->RelV x v->Vals xs us->r x xs H Q->
  wpAny (model X.prog X.w) X.A (call (.builtin id) (v::us)) (EP X pins σ Q) X.xe s
section
variable{X:Cx}{a b:Expr}{ta tb:TE}{pos:Pos}
theorem IxR.or{r Z:R2}(h:IxR X r)(h':IxR X Z):IxR X (λx y H Q=>r x y H Q∨Z x y H Q):=by
 intro D B pins s σ H x y v u Q I rx U q O;rcases q with q|q
 .exact h D B pins s σ H x y v u Q I rx U q O
 .exact h' D B pins s σ H x y v u Q I rx U q O
theorem M8{r:R2}(Z:IxR X r)(Y:PE X a ta)(U:PE X b tb)(O:uT b):PE X (.Subscript a b pos) (tOp r ta tb):=by
 intro pins s σ H Q I h;exact Subscript_ (Ue Y U I h λv u B x y H2 V rx z q=>Z a b pins B σ H2 x y v u Q V rx z q (O _ _))
def Vo(K:Yb):R2:=λx y H Q=>∃p xs i v,x= .ref p/\y= .int i/\SqL K H p xs/\atI xs i=some v/\Q v H
def Xa(K:Yb):R2:=λx y H Q=>∃p xs i v,x= .ref p/\y= .int i/\SqT K H p xs/\atI xs i=some v/\Q v H
def WD:R2:=λx y H Q=>∃z i c,x= .str z/\y= .int i/\z.length<=Yc/\atI z.cps.toList i=some c/\Q (.str ⟨#[c]⟩) H
theorem QX:IxR X (Vo X.K):=by
 intro a1 a0 pins s σ H x y v u Q I rx U h O;obtain⟨p,xs,i,z,rfl,rfl,D,Y,q⟩:=h;cases rx;obtain⟨t,rfl⟩:=U;obtain⟨its,r,pl,hz⟩:=I.list D;obtain⟨j,h1,h2,V,F,h5⟩:=zF Y;obtain⟨w,ew,J⟩:=r.get h2;have Z:=r.length;have hn:=qj;have B:EP X pins σ Q w s:=⟨z,H,I,J,q⟩;by_cases h0:0<=i
 .have hj:i.toNat=j:=by
   rw[adg h0 h5]at h1;exact Ze h1
  exact item_listR pl.isList h0 (by omega) (by rw[hj];simpa using ew) B O
 .have hj:(i+(its.toArray.size:Int)).toNat=j:=by
   rw[aee (by omega) F]at h1;rw[List.size_toArray,←Z];exact Ze h1
  exact adh (x:=w) pl.isList.typeIs acG.lookup
   (wpAny_getItem_list_neg (Q:=λr s'=>r=w/\EP X pins σ Q r s') pl.isList (by omega) (by rw[List.size_toArray]<;>omega) (by omega) (by rw[hj];simpa using ew) ⟨rfl,B⟩) O
theorem Va:IxR X (Xa X.K):=by
 intro a1 a0 pins s σ H x y v u Q I rx U h O;obtain⟨p,xs,i,z,rfl,rfl,D,Y,q⟩:=h;cases rx;obtain⟨t,rfl⟩:=U;obtain⟨its,r,pl,hz⟩:=I.tuple D;obtain⟨j,h1,h2,V,F,h5⟩:=zF Y;obtain⟨w,ew,J⟩:=r.get h2;have Z:=r.length;have hn:=qj;have B:EP X pins σ Q w s:=⟨z,H,I,J,q⟩;exact adh (x:=w) pl.typeIs slot_tuple_getitem.lookup
  (getItem_tuple (j:=j) (Q:=λr s'=>r=w/\EP X pins σ Q r s') pl (by omega) (by omega) (by rw[List.size_toArray,←Z];exact h1) (by simpa using ew) ⟨rfl,B⟩) O
theorem Tj:IxR X WD:=by
 intro D B pins s σ H x y v u Q I rx U h O;obtain⟨z,i,c,rfl,rfl,hz,Y,q⟩:=h;obtain⟨t,rfl⟩:=rx;obtain⟨t',rfl⟩:=U;obtain⟨j,h1,h2,V,F,J⟩:=zF Y;have Z:z.cps.toList.length=z.length:=by simp[Str.length]
 rw[Z]at h1 F J;have hn:=qj;exact adI (typeIs_str s z t) slot_str_getitem.lookup (getItem_str (c:=c) (by
  have e1:decide (i< -(2 ^ 63:Int))=false:=YL (by omega);have e2:decide (i>=2 ^ 63)=false:=YL (by omega);rw[e1,e2,Bool.or_false]) (by rw[h1];simpa using h2) ⟨.str ⟨#[c]⟩,H,I.tok _,⟨_,rfl⟩,q⟩) O
def rIx(K:Yb):R2:=λx y H Q=>Vo K x y H Q∨Xa K x y H Q∨WD x y H Q
theorem T7:IxR X (rIx X.K):=QX.or (Va.or Tj)
theorem Fi(its:List Value)(n j:Nat)(u:Value):abb (·.setIfInBounds j u) {cls:=.type "list",data:=.seq its.toArray n}={cls:=.type "list",data:=.seq (its.set j u).toArray n}:=by
 simp[abb]
theorem Inv.lst{pins:List (Addr×Obj)}{σ:St}{H:Hp}{s:X4}{p:Addr}{xs:List V}(I:Inv X pins σ H s)(h:H p=some (.lst xs)) :
  ∃(its:List Value)(n:Nat),Vals xs its/\s.heap.get? p=some {cls:=.type "list",data:=.seq its.toArray n}/\xs.length<=Yc:=by
 obtain⟨z,its,n,r,e⟩:=I.hok p _ h;exact⟨its,n,r,e,z⟩
theorem Inv.lstUpd{pins:List (Addr×Obj)}{σ:St}{H:Hp}{s:X4}{p:Addr}{xs ys:List V}{its its':List Value}{n F:Nat}{f:Obj->Obj}(I:Inv X pins σ H s)(h:H p=some (.lst xs))
  (J:s.heap.get? p=some {cls:=.type "list",data:=.seq its.toArray n}) (Y:f {cls:=.type "list",data:=.seq its.toArray n}={cls:=.type "list",data:=.seq its'.toArray F}) (r:Vals ys its') (hz:ys.length<=Yc) (t:Nat) :
  Inv X pins σ (upd H p (.lst ys)) {s with heap:=s.heap.update p f,toks:=t}:=by
 have e:(s.heap.update p f).get? p=some {cls:=.type "list",data:=.seq its'.toArray F}:=by
  rw[aa5 f J (by rw[Y]<;>rfl),Y]
 refine I.write (x:=p) (e:=p) (by rw[h];trivial) (.inl rfl) (λb u U q=>(Z9 _ _ (Zr U)).trans q) ⟨_,e⟩ ?_;exact⟨hz,its',F,r,e⟩
def Rt:V->V->V->Hp->(Hp->Prop)->Prop:=λo i v H Q=>∃p xs k j,o= .ref p/\i= .int k/\H p=some (.lst xs)/\ixN xs.length k=some j/\Q (upd H p (.lst (xs.set j v)))
theorem set_list:Pu X Rt:=by
 intro pins s σ H o i v U B u Q I ro D rv h;obtain⟨p,xs,k,j,rfl,rfl,O,hj,q⟩:=h;cases ro;obtain⟨t,rfl⟩:=D;obtain⟨its,n,r,J,hz⟩:=I.lst O;obtain⟨h1,h2,V,F⟩:=zT hj;have Z:=r.length;have hn:=qj;have Y:Inv X pins σ (upd H p (.lst (xs.set j v))) {s with heap:=s.heap.update p (abb (·.setIfInBounds j u))}:=
  I.lstUpd O J (Fi its n j u) (r.set rv j) (by rw[List.length_set];exact hz) s.toks
 by_cases z:0<=k
 .have hk:k.toNat=j:=by
   rw[adg z F]at h1;exact Ze h1
  exact PySem.W.ki_setAt J z (by omega) (by rw[List.size_toArray,←Z];exact F) (by rw[hk];exact⟨_,Y,q⟩)
 .have hk:(k+(its.toArray.size:Int)).toNat=j:=by
   rw[aee (by omega) V]at h1;rw[List.size_toArray,←Z];exact Ze h1
  exact PySem.W.ki_setBack J (by omega) (by rw[List.size_toArray,←Z];exact V) (by omega) (by rw[hk];exact⟨_,Y,q⟩)
theorem zP(lo hi:Option Int)(n:Nat):(abn lo hi none n).1=((HT.sIx n 0 lo:Nat):Int)/\(abn lo hi none n).2.1=((HT.sIx n n hi:Nat):Int)/\(abn lo hi none n).2.2=1:=by
 refine⟨?_,?_,rfl⟩
 .cases lo with
  |none=>simp[abn,HT.sIx]
  |some i=>
   simp![abn,HT.sIx,aeI,show(1:Int)>0 by decide,Yx];by_cases h:i<0
   .simp![h,Yx]<;>omega
   .simp![h,aaa]<;>omega
 .cases hi with
  |none=>simp[abn,HT.sIx]
  |some i=>
   simp![abn,HT.sIx,aeI,show(1:Int)>0 by decide,Yx];by_cases h:i<0
   .simp![h,Yx]<;>omega
   .simp![h,aaa]<;>omega
theorem wK(its:List Value)(lo hi:Option Int):slicePick its.toArray lo hi none=((its.drop (HT.sIx its.length 0 lo)).take (HT.sIx its.length its.length hi-HT.sIx its.length 0 lo)).toArray:=by
 obtain⟨h1,h2,V⟩:=zP lo hi its.toArray.size;unfold slicePick;rw[h1,h2,V];simp![sliceRange_one,pick_run,List.size_toArray]<;>rfl
def V9(K:Yb):V->Option Int->Option Int->Hp->VK->Prop:=λx lo hi H Q=>∃a xs,x= .ref a/\SqL K H a xs/\∀p,H p=none->Q (.ref p) (upd H p (.lst (vP xs lo hi)))
theorem Qw:SlR X (V9 X.K):=by
 intro pins s σ H x v vl D lo hi sl Q I rx O pl Z h;obtain⟨a,xs,rfl,B,q⟩:=h;cases rx;obtain⟨its,r,U,hz⟩:=I.list B;have z:=r.length;refine⟨"list",_,acG.lookup,U.isList.typeIs,?_⟩;refine acT U.isList O pl Z .none (by simp) ?_ (by rw[List.size_toArray]<;>omega);rw[wK,←z];refine⟨.ref s.heap.objs.size,_,I.laid (t':=s.toks) (o:=.lst (vP xs lo hi)) (λb ob q=>X6 _ q) (Nat.le_refl _) ?_,rfl,q _ (I.hok.fresh (Nat.le_refl _))⟩;exact⟨Y4 (uo xs lo hi) hz,_,0,(r.drop (HT.sIx xs.length 0 lo)).take (HT.sIx xs.length xs.length hi-HT.sIx xs.length 0 lo),Ym _ rfl⟩
def mU:V->Bool
 |.non=>true
 |.bl _=>true
 |.int _=>true
 |.str _=>true
 |_=>false
def eqV:V->V->Bool
 |.non,.non=>true
 |.bl a,.bl b=>a==b
 |.bl a,.int b=>(if a then 1 else 0)==b
 |.int a,.bl b=>a==(if b then 1 else 0)
 |.int a,.int b=>a==b
 |.str a,.str b=>a==b
 |_,_=>false
theorem U7{A:Y0}{s:X4}{y x:V}{u v:Value}(U:RelV y u)(rx:RelV x v)(F:mU y=true)(fx:mU x=true):SeqAt.EqAt A s u v (eqV y x):=by
 cases y with
 |non=>
  cases U;cases x with
  |non=>cases rx;exact SeqAt.EqAt.same _
  |bl b=>cases rx;exact SeqAt.EqAt.none_bool b
  |int b=>obtain⟨t,rfl⟩:=rx;exact SeqAt.EqAt.none_int b t
  |str b=>obtain⟨t,rfl⟩:=rx;exact SeqAt.EqAt.none_str b t
  |_=>exact absurd (show false=true from fx) YT
 |bl a=>
  cases U;cases x with
  |non=>cases rx;exact SeqAt.EqAt.bool_none a
  |bl b=>cases rx;exact SeqAt.EqAt.bool_bool a b
  |int b=>obtain⟨t,rfl⟩:=rx;exact SeqAt.EqAt.bool_int a b t
  |str b=>obtain⟨t,rfl⟩:=rx;exact SeqAt.EqAt.bool_str a b t
  |_=>exact absurd (show false=true from fx) YT
 |int a=>
  obtain⟨t',rfl⟩:=U;cases x with
  |non=>cases rx;exact SeqAt.EqAt.int_none a t'
  |bl b=>cases rx;exact SeqAt.EqAt.int_bool a t' b
  |int b=>obtain⟨t,rfl⟩:=rx;exact SeqAt.EqAt.int_int a t' b t
  |str b=>obtain⟨t,rfl⟩:=rx;exact ad8 a t' b t
  |_=>exact absurd (show false=true from fx) YT
 |str a=>
  obtain⟨t',rfl⟩:=U;cases x with
  |non=>cases rx;exact SeqAt.EqAt.str_none a t'
  |bl b=>cases rx;exact SeqAt.EqAt.str_bool a t' b
  |int b=>obtain⟨t,rfl⟩:=rx;exact ad9 a t' b t
  |str b=>obtain⟨t,rfl⟩:=rx;exact SeqAt.EqAt.str_str a t' b t
  |_=>exact absurd (show false=true from fx) YT
 |_=>exact absurd (show false=true from F) YT
def eqU(x:V)(u:Value):Bool:=match u with
 |.none=>eqV .non x
 |.bool b=>eqV (.bl b) x
 |.int i _=>eqV (.int i) x
 |.str z _=>eqV (.str z) x
 |_=>false
theorem Np{x y:V}{u:Value}(r:RelV y u)(f:mU y=true):eqU x u=eqV y x:=by
 cases y with
 |non=>cases r;rfl
 |bl b=>cases r;rfl
 |int i=>obtain⟨t,rfl⟩:=r;rfl
 |str z=>obtain⟨t,rfl⟩:=r;rfl
 |_=>exact absurd (show false=true from f) YT
theorem rH{x:V}:∀{xs:List V}{us:List Value},Vals xs us->xs.all mU=true->us.any (eqU x)=xs.any λy=>eqV y x
 |_,_,.nil,_=>rfl
 |y::xs,u::us,.cons r t,f=>by
  rw[abk,Yp]at f;rw[aaP,aaP,Np r f.1,rH t f.2]
theorem nq{A:Y0}{s:X4}{x:V}{v:Value}(rx:RelV x v)(fx:mU x=true):∀{xs:List V}{us:List Value},Vals xs us->xs.all mU=true->∀u∈us,SeqAt.EqAt A s u v (eqU x u)
 |_,_,.nil,_=>λu F=>by cases F
 |y::xs,u::us,.cons r t,f=>λu' F=>by
  rw[abk,Yp]at f;rcases Yj.mp F with rfl|F
  .rw[Np r f.1];exact U7 r rx f.1 fx
  .exact nq rx fx t f.2 u' F
def inV(x:V)(xs:List V):Bool:=xs.any λy=>eqV y x
def rIn(K:Yb)(q:Bool):R2:=λx y H Q=>∃p xs,y= .ref p/\(SqL K H p xs∨SqT K H p xs)/\mU x=true/\xs.all mU=true/\Q (.bl (if q then !inV x xs else inV x xs)) H
theorem Jw:OpR X (YG .In) (rIn X.K false):=by
 intro pins s σ H x y v u Q I rx U h;obtain⟨p,xs,rfl,D,fx,fs,q⟩:=h;cases U;rcases D with D|D
 .obtain⟨its,r,pl,hz⟩:=I.list D
  refine SeqAt.in_listAt (eqU x) pl.isList (λw V=>nq rx fx r fs w (by simpa using V)) ⟨.bl _,H,I,rfl,?_⟩;rw[show its.toArray.any (eqU x)=its.any (eqU x)by simp,rH r fs];exact q
 .obtain⟨its,r,pl,hz⟩:=I.tuple D
  refine SeqAt.in_tupleAt (eqU x) pl (λw V=>nq rx fx r fs w (by simpa using V)) ⟨.bl _,H,I,rfl,?_⟩;rw[show its.toArray.any (eqU x)=its.any (eqU x)by simp,rH r fs];exact q
theorem zx:OpR X (YG .NotIn) (rIn X.K true):=by
 intro pins s σ H x y v u Q I rx U h;obtain⟨p,xs,rfl,D,fx,fs,q⟩:=h;cases U;rcases D with D|D
 .obtain⟨its,r,pl,hz⟩:=I.list D
  refine SeqAt.notIn_listAt (eqU x) pl.isList (λw V=>nq rx fx r fs w (by simpa using V)) ⟨.bl _,H,I,rfl,?_⟩;rw[show its.toArray.any (eqU x)=its.any (eqU x)by simp,rH r fs];exact q
 .obtain⟨its,r,pl,hz⟩:=I.tuple D
  refine SeqAt.notIn_tupleAt (eqU x) pl (λw V=>nq rx fx r fs w (by simpa using V)) ⟨.bl _,H,I,rfl,?_⟩;rw[show its.toArray.any (eqU x)=its.any (eqU x)by simp,rH r fs];exact q
theorem zA:OpR X (YG .NotIn) (λx y H Q=>∃i j,x= .str i/\y= .str j/\Q (.bl (!(!(Zd j i 0 j.length 1).isEmpty))) H):=by
 intro pins s σ H x y v u Q I rx U h;obtain⟨i,j,rfl,rfl,q⟩:=h;obtain⟨t,rfl⟩:=rx;obtain⟨t',rfl⟩:=U;exact notIn_str ⟨.bl _,H,I,rfl,q⟩
theorem Aq:gQ X (.builtin "len") (λxs H Q=>∃p ys,xs=[.ref p]/\(SqL X.K H p ys∨SqT X.K H p ys)/\Q (.int ys.length) H):=by
 intro pins s σ H xs us Q I r h;obtain⟨p,ys,rfl,D,q⟩:=h;obtain⟨u,rfl,rx⟩:=vals1 r;cases rx;have B:=qj;rcases D with D|D
 .obtain⟨its,r',pl,hz⟩:=I.list D
  have z:=r'.length;exact Calls.call_len_list pl.isList (by simp![List.size_toArray]<;>omega) ⟨.int ys.length,H,I.tok _,⟨s.toks+1,by rw[List.size_toArray,z]⟩,q⟩
 .obtain⟨its,r',pl,hz⟩:=I.tuple D
  have z:=r'.length;exact len_tuple pl (by simp![List.size_toArray]<;>omega) ⟨.int ys.length,H,I.tok _,⟨s.toks+1,by rw[List.size_toArray,z]⟩,q⟩
theorem yN:gQ X (.builtin "len") (λxs H Q=>∃z,xs=[.str z]/\z.length<=Yc/\Q (.int z.length) H):=by
 intro pins s σ H xs us Q I r h;obtain⟨z,rfl,hz,q⟩:=h;obtain⟨u,rfl,t,rfl⟩:=vals1 r;have B:=qj;exact len_str (by omega) ⟨.int z.length,H,I.tok _,⟨_,rfl⟩,q⟩
theorem Ab:gQ X (.type "list") (λxs H Q=>∃p ys,xs=[.ref p]/\(SqL X.K H p ys∨SqT X.K H p ys)/\∀l,H l=none->Q (.ref l) (upd H l (.lst ys))):=by
 intro pins s σ H xs us Q I r h;obtain⟨p,ys,rfl,D,q⟩:=h;obtain⟨u,rfl,rx⟩:=vals1 r;cases rx;have B:∀(its:List Value),Vals ys its->ys.length<=Yc->∀(h':Heap)(O:Nat),(∀b o',s.heap.get? b=some o'->h'.get? b=some o')->
   h'.get? s.heap.objs.size=some {cls:=.type "list",dict:=none,data:=.seq its.toArray O,slots:=#[]}->EP X pins σ Q (.ref s.heap.objs.size) {s with heap:=h'}:=λits Z hz h' O kp e=>
  ⟨.ref s.heap.objs.size,_,I.laid (t':=s.toks) kp (Nat.le_refl _) (show cN X.prog X.w _ h' _ (.lst ys)from⟨hz,its,O,Z,e⟩),rfl,q _ (I.hok.fresh (Nat.le_refl _))⟩
 rcases D with D|D
 .obtain⟨its,Z,pl,hz⟩:=I.list D
  have z:=Z.length;obtain⟨o,J,F,n,hd⟩:=pl.isList;exact call_list_seq p (.inl rfl) J F hd (λh' O kp e=>B its Z hz h' O kp e) (by simp![List.size_toArray]<;>omega)
 .obtain⟨its,Z,pl,hz⟩:=I.tuple D
  have z:=Z.length;obtain⟨o,J,F,n,hd⟩:=pl;exact call_list_seq p (.inr rfl) J F hd (λh' O kp e=>B its Z hz h' O kp e) (by simp![List.size_toArray]<;>omega)
theorem wD:gQ X (.type "tuple") (λxs H Q=>∃p ys,xs=[.ref p]/\((SqL X.K H p ys/\∀l,H l=none->Q (.ref l) (upd H l (.tup ys)))∨(SqT X.K H p ys/\Q (.ref p) H))):=by
 intro pins s σ H xs us Q I r h;obtain⟨p,ys,rfl,h⟩:=h;obtain⟨u,rfl,rx⟩:=vals1 r;cases rx;rcases h with⟨D,q⟩|⟨D,q⟩
 .obtain⟨its,r',pl,hz⟩:=I.list D
  have z:=r'.length;refine call_tuple_list pl.isList (λh' kp=>?_) (by simp![List.size_toArray]<;>omega);have J:Inv X pins σ H {s with heap:=h'}:=I.kept (t':=s.toks) kp;have V:Inv X pins σ (upd H h'.objs.size (.tup ys)) {s with heap:=h'.push {cls:=.type "tuple",data:=.seq its.toArray}}:=
   J.laid (t':=s.toks) (λb o e=>X6 _ e) (Nat.le_refl _) (show cN X.prog X.w _ _ _ (.tup ys)from⟨hz,its,r',mq.new _ _⟩)
  exact⟨.ref h'.objs.size,_,V,rfl,q _ (J.hok.fresh (Nat.le_refl _))⟩
 .obtain⟨its,r',pl,hz⟩:=I.tuple D
  exact call_tuple_same pl ⟨.ref p,H,I,rfl,q⟩
def tyV(K:Yb)(T:String)(x:V)(H:Hp):Prop:=match x with
 |.str _=>T="str"
 |.int _=>T="int"
 |.ref p=>(T="list"/\∃xs,SqL K H p xs)∨(T="tuple"/\∃o,K.lookup p=some o/\o.cls= .type "tuple"/\o.dict=none)∨
  (T="dict"/\((∃kvs,H p=some (.dK kvs))∨∃kvs,H p=some (.dT kvs)))∨(T="set"/\∃S n,H p=some (.set S n))
 |_=>False
theorem Ti{pins:List (Addr×Obj)}{σ:St}{H:Hp}{s:X4}{T:String}{x:V}{v:Value}(I:Inv X pins σ H s)(r:RelV x v)(U:tyV X.K T x H) :
  s.TypeIs v T/\∀a,v= .ref a->∃ob,s.heap.get? a=some ob/\ob.dict=none:=by
 cases x with
 |str z=>
  obtain⟨t,rfl⟩:=r;cases (show T="str" from U);exact⟨typeIs_str s z t,λ_ e=>nomatch e⟩
 |int i=>
  obtain⟨t,rfl⟩:=r;cases (show T="int" from U);exact⟨typeIs_int s i t,λ_ e=>nomatch e⟩
 |ref p=>
  cases r;rcases U with⟨rfl,xs,D⟩|⟨rfl,o,J,F,hd⟩|⟨rfl,J⟩|⟨rfl,S,n,J⟩
  .obtain⟨its,_,pl,_⟩:=I.list D
   refine⟨pl.isList.typeIs,λa e=>?_⟩;cases e;obtain⟨o,n,e,c,hd,_⟩:=pl;exact⟨o,e,hd⟩
  .refine⟨⟨o,I.kIn p o J,F⟩,λa e=>?_⟩
   cases e;exact⟨o,I.kIn _ o J,hd⟩
  .have z:∃o,s.heap.get? p=some o/\o.ExactDict:=by
    rcases J with⟨kvs,J⟩|⟨kvs,J⟩
    .obtain⟨_,_,_,_,o,_,_,e,ex,_⟩:=I.hok p _ J
     exact⟨o,e,ex⟩
    .obtain⟨_,_,_,_,o,_,_,e,ex,_⟩:=I.hok p _ J
     exact⟨o,e,ex⟩
   obtain⟨o,e,ex⟩:=z;refine⟨⟨o,e,ex.1⟩,λa e2=>?_⟩;cases e2;exact⟨o,e,ex.2.1⟩
  .obtain⟨o,_,_,_,e,ex,_⟩:=I.hok p _ J
   refine⟨⟨o,e,ex.1⟩,λa e2=>?_⟩;cases e2;exact⟨o,e,ex.2.1⟩
 |_=>exact aaD U
def tBM(K:Yb)(T:String)(r:V->List V->Hp->VK->Prop)(to:TE)(t:TA):TE:=λσ H Q=>to σ H λx H1=>tyV K T x H1/\t σ H1 λxs H2=>r x xs H2 Q
variable{o e:Expr}{es:List Expr}{to:TE}{t:TA}{name:Str}{apos cpos:Pos}{T id:String}{r:V->List V->Hp->VK->Prop}
theorem Az(q:adJ T)(slot:Slot T name id)(a2:typeOf (.builtin id)=pure (.type "method_descriptor"))(V:MtR X id r)(J:PE X o to)(Y:PA X (e::es) t)
  (z:aaw o name X.env (eval o X.env)=eval o X.env:=by rfl)
  (a1:((Zx cpos (Yh (e::es) X.env)).all (λx=>!x.1)&&(abR cpos (aaU [] X.env)).all (λx=>x.1.isSome)
   &&decide ((e::es).length+([]:List aam).length+(if([]:List aam).isEmpty then 0 else 1)<30))=true:=by rfl)
  (a0:(apos.endLine==cpos.line)=true:=by rfl) (O:Yh (e::es) X.env=(false,eval e X.env)::Yh es X.env:=by rfl) (U:(Zx cpos (Yh es X.env)).any (·.1)=false:=by rfl) :
  PE X (.Call (.Attribute o name apos) (e::es) [] cpos) (tBM X.K T r to t):=by
 intro pins s σ H Q I h;refine adi z a1 a0 rfl (thn (J pins s σ H _ I h) λv Z ⟨x,H1,I1,F,ty,q1⟩=>?_);obtain⟨h1,h2⟩:=Ti I1 F ty;refine⟨T,id,q,slot,a2,h1,h2,?_⟩;have D:=Y cpos pins Z σ H1 _ I1 q1;rw[O]at D⊢;refine abL (by show(false||(Zx cpos (Yh es X.env)).any (·.1))=false;rw[U]<;>rfl) (ab8 ?_);exact thn D λus s2 ⟨B,H2,I2,r2,q2⟩=>V pins s2 σ H2 x B v us Q I2 F r2 q2
end
def MtM(X:Cx)(id:String)(r:V->List V->Hp->VK->Prop):Prop:=
 ∀(pins:List (Addr×Obj))(s:X4)(σ:St)(H:Hp)(x:V)(xs:List V)(v:Value)(us:List Value)(Q:VK),Inv X pins σ H s->RelV x v->Vals xs us->r x xs H Q->
  wpAny (model X.prog X.w) X.A (call (.builtin id) (v::us)) (EP X pins σ Q) X.xe s
theorem Vals.one:∀{x:V}{us:List Value},Vals [x] us->∃u,us=[u]/\RelV x u
 |_,_,.cons r .nil=>⟨_,rfl,r⟩
theorem Vals.two:∀{x y:V}{us:List Value},Vals [x,y] us->∃u v,us=[u,v]/\RelV x u/\RelV y v
 |_,_,_,.cons r (.cons q .nil)=>⟨_,_,rfl,r,q⟩
theorem Vals.eraseIdx:∀{xs:List V}{us:List Value}(i:Nat),Vals xs us->Vals (xs.eraseIdx i) (us.eraseIdx i)
 |_,_,_,.nil=>.nil
 |_,_,0,.cons _ t=>t
 |_,_,i+1,.cons r t=>.cons r (Vals.eraseIdx i t)
variable{xs:List V}
theorem Vals.reverse(h:Vals xs us):Vals xs.reverse us.reverse:=by
 induction h with
 |nil=>exact .nil
 |cons r t J=>rw[abH,abH];exact Vals.append J (.cons r .nil)
theorem xR:∀(l:List α)(i:Nat),(l.eraseIdx i).length<=l.length
 |[],_=>Nat.le_refl _
 |_::_,0=>aeC _
 |_::r,i+1=>Nat.succ_le_succ (xR r i)
variable{X:Cx}{σ:St}{H:Hp}{l:Addr}{ys:List V}
theorem Inv.lset{its':List Value}{f:Array Value->Array Value}(I:Inv X pins σ H s)(B:H l=some (.lst xs))
  (e:s.heap.get? l=some {cls:=.type "list",data:=.seq its.toArray n}) (Y:f its.toArray=its'.toArray) (J:Vals ys its') (hz:ys.length<=Yc) :
  Inv X pins σ (upd H l (.lst ys)) {s with heap:=s.heap.update l (abb f),toks:=t'}:=by
 have q:=aeJ e f;rw[Y]at q;refine I.write (x:=l) (e:=l) (by rw[B];exact trivial) (.inl rfl) (λz u U F=>(Z9 s.heap (abb f) (Zr U)).trans F) ⟨_,q⟩ ?_;exact⟨hz,its',_,J,q⟩
theorem Inv.lnew(I:Inv X pins σ H s)(J:Vals ys its)(hz:ys.length<=Yc) :
  Inv X pins σ (upd H s.heap.objs.size (.lst ys)) {s with heap:=s.heap.push {cls:=.type "list",data:=.seq its.toArray},toks:=t'}:=
 I.laid (λ_ _ q=>X6 _ q) (Nat.le_refl _) ⟨hz,its,0,J,Ym _ rfl⟩
theorem Inv.fresh(I:Inv X pins σ H s):H s.heap.objs.size=none:=I.hok.fresh (Nat.le_refl _)
theorem Inv.lstM(I:Inv X pins σ H s)(U:H l=some (.lst xs)):xs.length<=Yc/\∃(its:List Value)(n:Nat),Vals xs its/\xs.length=its.length/\s.heap.get? l=some {cls:=.type "list",data:=.seq its.toArray n}:=by
 obtain⟨z,its,n,r,e⟩:=I.hok l _ U;exact⟨z,its,n,r,r.length,e⟩
def rR:V->List V->Hp->VK->Prop:=λx B H Q=>∃l xs y,x= .ref l/\B=[y]/\H l=some (.lst xs)/\xs.length<Yc/\Q .non (upd H l (.lst (xs++[y])))
theorem w5:MtM X "list.append" rR:=by
 intro pins s σ H x B v us Q I rx O h;obtain⟨l,xs,y,rfl,rfl,U,hz,q⟩:=h;cases rx;obtain⟨u,rfl,D⟩:=O.one;obtain⟨z,its,n,r,Z,e⟩:=I.lstM U;refine acL aef ⟨_,e,rfl⟩ ad2 (adL _ _) (aew l its.toArray n u (by rw[List.size_toArray];omega)) ⟨e,?_⟩;refine⟨.non,_,I.lset (its':=its++[u]) U e (by simp) (r.append (.cons D .nil)) ?_,rfl,q⟩;rw[YW,abX];omega
def J8:V->List V->Hp->VK->Prop:=λx B H Q=>∃l xs i k y,x= .ref l/\B=[.int i]/\H l=some (.lst xs)/\-(2 ^ 63)<=i/\i<2 ^ 63/\aed i xs.length=some k/\xs[k]? =some y/\Q y (upd H l (.lst (xs.eraseIdx k)))
theorem Mh:MtM X "list.pop" J8:=by
 intro pins s σ H x B v us Q I rx O h;obtain⟨l,xs,i,k,y,rfl,rfl,U,h1,h2,J,hy,q⟩:=h;cases rx;obtain⟨u,rfl,D⟩:=O.one;obtain⟨t,rfl⟩:=D;obtain⟨z,its,n,r,Z,e⟩:=I.lstM U;obtain⟨w,V,Y⟩:=r.get hy;refine acL F.slot_list_pop ⟨_,e,rfl⟩ F.entry_list_pop (F.args_list_pop_2 _ _)
  (MeetsSeq.list_pop_at l its.toArray n i t k w (fitsIndex_both h1 h2) (by rw[List.size_toArray,←Z];exact J) (by rw[←abY];exact V) (by rw[List.size_toArray];omega)) ⟨e,?_⟩
 refine⟨y,_,I.lset (its':=its.eraseIdx k) U e ?_ (r.eraseIdx k) ?_,Y,q⟩
 .show its.toArray.eraseIdxIfInBounds k=(its.eraseIdx k).toArray
  rw[List.eraseIdxIfInBounds_toArray]
 .have:=xR xs k
  omega
def Vv:R2:=λx y H Q=>∃l b xs zs,x= .ref l/\y= .ref b/\H l=some (.lst xs)/\H b=some (.lst zs)/\xs.length+zs.length<=Yc/\∀p,H p=none->Q (.ref p) (upd H p (.lst (xs++zs)))
theorem TY:OpR X (ZK .Add) Vv:=by
 intro pins s σ H x y v u Q I rx U h;obtain⟨l,b,xs,zs,rfl,rfl,B,J,hz,q⟩:=h;cases rx;cases U;obtain⟨z,its,n,r,Z,e⟩:=I.lstM B;obtain⟨Y,D,n2,O,V,e2⟩:=I.lstM J;refine PySem.P.add_list e e2 ?_ (by rw[List.size_toArray,List.size_toArray];omega);have F:its.toArray++D.toArray=(its++D).toArray:=by simp
 rw[F];exact⟨.ref _,_,I.lnew (t':=s.toks) (r.append O) (by rw[YW];omega),rfl,q _ I.fresh⟩
section
variable{κ:Type}[DecidableEq κ]
def jr(kvs:List (κ×V))(k:κ):Option V:=(kvs.find? λkv=>decide (kv.1=k)).map (·.2)
def putK(kvs:List (κ×V))(k:κ)(v:V):List (κ×V):=
 if(kvs.any λkv=>decide (kv.1=k))=true then kvs.map (λkv=>if kv.1=k then(kv.1,v)else kv)else kvs++[(k,v)]
theorem vJ{p:κ×V}{r:List (κ×V)}{k:κ}(e:p.1=k):jr (p::r) k=some p.2:=by simp[jr,aaf,e]
theorem vy{p:κ×V}{r:List (κ×V)}{k:κ}(e:¬p.1=k):jr (p::r) k=jr r k:=by simp[jr,aaf,e]
theorem uY(k:κ):∀kvs:List (κ×V),(kvs.any λkv=>decide (kv.1=k))=(jr kvs k).isSome
 |[]=>rfl
 |p::r=>by
  rw[aaP];by_cases e:p.1=k
  .simp![vJ e,ZR e,Bool.true_or,Option.isSome_some]
  .rw[vy e,YL e,Bool.false_or];exact uY k r
theorem gW(kvs:List (κ×V))(k:κ)(v:V):(putK kvs k v).length<=kvs.length+1:=by
 unfold putK;split
 .rw[X_];omega
 .rw[YW,Yd,Yt];omega
theorem nP{kvs:List (κ×V)}{k:κ}(v:V)(h:jr kvs k=none):putK kvs k v=kvs++[(k,v)]:=by
 unfold putK;rw[uY,h];exact YB (by decide)
theorem mZ.isSome_eq{o:Option V}{u:Option Value}(r:mZ o u):o.isSome=u.isSome:=by
 cases o with
 |none=>cases u with
  |none=>rfl
  |some _=>exact(show False from r).elim
 |some _=>cases u with
  |none=>exact(show False from r).elim
  |some _=>rfl
theorem mZ.getD{o:Option V}{u:Option Value}{d:V}{d':Value}(r:mZ o u)(rd:RelV d d'):RelV (o.getD d) (u.getD d'):=by
 cases o with
 |none=>cases u with
  |none=>exact rd
  |some _=>exact(show False from r).elim
 |some _=>cases u with
  |none=>exact(show False from r).elim
  |some _=>exact r
theorem KV.val{kvs:List (κ×V)}{B:List (κ×Value)}(r:KV kvs B)(k:κ):mZ (jr kvs k) (aat B k):=by
 unfold KV at r
 induction r with
 |nil=>exact Zn
 |@cons p q ps qs h t J=>
  obtain⟨h1,h2⟩:=h;by_cases e:p.1=k
  .have e':q.1=k:=h1.symm.trans e
   have b:aat (q::qs) k=some q.2:=by simp[aat,aaf,e']
   rw[vJ e,b];exact h2
  .have e':¬q.1=k:=λz=>e (h1.trans z)
   have b:aat (q::qs) k=aat qs k:=by simp[aat,aaf,e']
   rw[vy e,b];exact J
theorem KV.any{kvs:List (κ×V)}{B:List (κ×Value)}(r:KV kvs B)(k:κ):(kvs.any λkv=>decide (kv.1=k))=B.any λkv=>decide (kv.1=k):=by
 unfold KV at r
 induction r with
 |nil=>rfl
 |cons h t J=>rw[aaP,aaP,J,h.1]
theorem KV.repl{kvs:List (κ×V)}{B:List (κ×Value)}(r:KV kvs B)(k:κ){y:V}{u:Value}(U:RelV y u) :
  KV (kvs.map λkv=>if kv.1=k then(kv.1,y)else kv) (B.map λkv=>if kv.1=k then(kv.1,u)else kv):=by
 unfold KV at r⊢
 induction r with
 |nil=>exact .nil
 |@cons p q ps qs h t J=>
  rw[X8,X8];refine .cons ?_ J;obtain⟨h1,h2⟩:=h;by_cases e:p.1=k
  .rw[Yi e,Yi (h1.symm.trans e)];exact⟨h1,U⟩
  .rw[YB e,YB (λz=>e (h1.trans z))];exact⟨h1,h2⟩
theorem KV.put{kvs:List (κ×V)}{B:List (κ×Value)}(r:KV kvs B)(k:κ){y:V}{u:Value}(U:RelV y u):KV (putK kvs k y) (stored B k u):=by
 unfold putK stored;rw[r.any k];by_cases e:(B.any λkv=>decide (kv.1=k))=true
 .rw[Yi e,Yi e];exact r.repl k U
 .rw[YB e,YB e];exact Paired.snoc r ⟨rfl,U⟩
theorem KV.length{kvs:List (κ×V)}{B:List (κ×Value)}(r:KV kvs B):kvs.length=B.length:=acs r
end
variable{P:Yu}
theorem lr{k:Key}(r:RelV (kV k) u):(bA P w).is k u=true:=by
 cases k with
 |inl i=>obtain⟨t,e⟩:=(show ∃t,u=acj i t from r);subst e;exact Ce P w i t
 |inr x=>obtain⟨t,e⟩:=(show ∃t,u=aa_ x t from r);subst e;exact Cr P w x t
theorem xH:∀{ks:List Key}{us:List Value},Vals (ks.map kV) us->ItemsAre (bA P w) ks us
 |[],_,r=>by rw[YF]at r;cases r;exact .nil
 |k::ks,_,r=>by
  rw[X8]at r;cases r with
  |cons h t=>exact .cons (lr h) (xH t)
noncomputable abbrev KT(H:Hp):List (List Key×V)->List (List Key×Addr×Value)->Prop:=acO λp q=>p.1=q.1/\H q.2.1=some (.tup (p.1.map kV))/\RelV p.2 q.2.2
variable{xs:List (List Key×Addr×Value)}{kvs:List (List Key×V)}
theorem KT.val(r:KT H kvs xs)(k:List Key):mZ (jr kvs k) ((atKey xs k).map (·.2)):=by
 induction r with
 |nil=>exact Zn
 |@cons p q ps qs h t J=>
  obtain⟨h1,_,h2⟩:=h;by_cases e:p.1=k
  .have e':q.1=k:=h1.symm.trans e
   have b:atKey (q::qs) k=some q.2:=by simp[atKey,aaf,e']
   rw[vJ e,b];exact h2
  .have e':¬q.1=k:=λz=>e (h1.trans z)
   have b:atKey (q::qs) k=atKey qs k:=by simp[atKey,aaf,e']
   rw[vy e,b];exact J
variable{y:V}
theorem KT.repl(r:KT H kvs xs)(k:List Key)(U:RelV y u) :
  KT H (kvs.map λkv=>if kv.1=k then(kv.1,y)else kv) (xs.map (putAt k u)):=by
 induction r with
 |nil=>exact .nil
 |@cons p q ps qs h t J=>
  rw[X8,X8];refine .cons ?_ J;obtain⟨h1,h2,B⟩:=h;unfold putAt;by_cases e:p.1=k
  .rw[Yi e,Yi (h1.symm.trans e)];exact⟨h1,h2,U⟩
  .rw[YB e,YB (λz=>e (h1.trans z))];exact⟨h1,h2,B⟩
theorem KT.put(r:KT H kvs xs)(k:List Key){b:Addr}(U:H b=some (.tup (k.map kV)))(z:RelV y u) :
  KT H (putK kvs k y) (storedH xs k b u):=by
 have e:(kvs.any λkv=>decide (kv.1=k))=(atKey xs k).isSome:=by
  rw[uY,(r.val k).isSome_eq,acH]
 unfold putK storedH;rw[e];by_cases q:(atKey xs k).isSome=true
 .rw[Yi q,Yi q];exact r.repl k z
 .rw[YB q,YB q];exact Paired.snoc r ⟨rfl,U,z⟩
variable{H':Hp}
theorem KT.keeps(r:KT H kvs xs)(U:∀b ys,H b=some (.tup ys)->H' b=some (.tup ys)):KT H' kvs xs:=
 Paired.mapP r λ_ _ z=>⟨z.1,U _ _ z.2.1,z.2.2⟩
variable{P:Program}
theorem Ry{u:HO}(ok:HOk P w H h)(e:Rd H a u):cN P w H h a u:=e.ok ok
theorem mL{kvs:List (Key×V)}(ok:HOk P w H h)(e:Rd H a (.dK kvs)):kvs.length<=Yc/\(a==ZW)=false/\∃B,KV kvs B/\h.DictOf (bA P w) a B:=
 show cN P w H h a (.dK kvs)from Ry ok e
theorem v4{kvs:List (Key×V)}(ok:HOk P w H h)(e:H a=some (.dK kvs)):kvs.length<=Yc/\(a==ZW)=false/\∃B,KV kvs B/\h.DictOf (bA P w) a B:=mL ok (.inl e)
theorem qz{ks:List Key}(ok:HOk P w H h)(e:H a=some (.tup (ks.map kV))):(abU (bA P w)).is h ks a:=by
 obtain⟨_,its,r,o,h1,h2,n,V⟩:=(show cN P w H h a (.tup (ks.map kV))from ok a _ e);exact⟨o,its.toArray,n,h1,h2,V.1,by simpa using xH r⟩
theorem vQ(ok:HOk P w H h)(e:Rd H a (.dT kvs)):kvs.length<=Yc/\(a==ZW)=false/\
  ∃xs,KT H kvs xs/\h.DictOfH (abU (bA P w)) a xs:=by
 obtain⟨z,y,xs,r,o,es,ep,h1,h2,I,F,Y⟩:=(show cN P w H h a (.dT kvs)from Ry ok e);refine⟨z,y,xs,r,o,es,ep,h1,h2,I,F,λx B=>?_,Y⟩;have all:∀{l:List (List Key×V)}{m:List (List Key×Addr×Value)},KT H l m->∀x∈m,(abU (bA P w)).is h x.1 x.2.1:=by
  intro l m q
  induction q with
  |nil=>intro x B;exact nomatch B
  |@cons p q ps qs D t J=>
   intro x B;rcases Yj.mp B with e|B
   .subst e
    exact qz ok (by rw[←D.1];exact D.2.1)
   .exact J x B
 exact all r x B
theorem Wt(ok:HOk P w H h)(e:H a=some (.dT kvs)):kvs.length<=Yc/\(a==ZW)=false/\
 ∃xs,KT H kvs xs/\h.DictOfH (abU (bA P w)) a xs:=vQ ok (.inl e)
def oE(H:Hp)(a:Addr)(y:V)(r:Option V):Prop:=
 (∃kvs k,Rd H a (.dK kvs)/\y=kV k/\r=jr kvs k)∨∃kvs k b,Rd H a (.dT kvs)/\y= .ref b/\H b=some (.tup (k.map kV))/\r=jr kvs k
def JQ(H:Hp)(a:Addr)(y v:V)(H':Hp):Prop:=
 (∃kvs k,H a=some (.dK kvs)/\y=kV k/\kvs.length<Yc/\H'=upd H a (.dK (putK kvs k v)))∨
 ∃kvs k b,H a=some (.dT kvs)/\y= .ref b/\H b=some (.tup (k.map kV))/\kvs.length<Yc/\H'=upd H a (.dT (putK kvs k v))
variable{kvs:List (Key×V)}
theorem oE.k{k:Key}(e:H a=some (.dK kvs)):oE H a (kV k) (jr kvs k):=.inl ⟨kvs,k,.inl e,rfl,rfl⟩
variable{v:V}
theorem JQ.k{k:Key}(e:H a=some (.dK kvs))(Z:kvs.length<Yc):JQ H a (kV k) v (upd H a (.dK (putK kvs k v))):=.inl ⟨kvs,k,e,rfl,Z,rfl⟩
theorem Inv.big(I:Inv X pins σ H s):ZW<s.heap.objs.size:=by
 have h:Zo<s.heap.objs.size:=(I.mod.glob.keeps I.bk).lt;exact Nat.lt_trans (by decide) h
theorem JL(F:A.units+1<cLine)(I:Inv X pins σ H s)(g:oE H a y (some v))(U:RelV y u)(h:∀Y s',Inv X pins σ H s'->RelV v Y->Q Y s') :
  wpAny (model X.prog X.w) A (acd (.ref a) u) Q E s:=by
 rcases g with⟨kvs,k,e,Z,l⟩|⟨kvs,k,b,e,Z,eb,l⟩
 .subst Z
  obtain⟨z,hd,B,rel,D⟩:=mL I.hok e;obtain⟨Y,V,J⟩:=mZ.some_of (v:=v) (o:=aat B k) (by rw[l];exact rel.val k);exact wpAny_getItem_of (lr U) D.mapOf V (h Y _ (I.tok _) J)
 .subst Z
  cases (show u=Y8 b from U);obtain⟨z,hd,xs,rel,D⟩:=vQ I.hok e;obtain⟨Y,V,J⟩:=mZ.some_of (v:=v) (o:=(atKey xs k).map (·.2)) (by rw[l];exact rel.val k);obtain⟨p,O,q⟩:=adk.mp V;refine wpAny_getItem_heap (aaq F) (qz I.hok eb) D O ?_;rw[q];exact h Y _ (I.tok _) J
variable{o:Option V}
theorem Xm(F:A.units+1<cLine)(I:Inv X pins σ H s)(g:oE H a y o)(U:RelV y u)(h:∀s',Inv X pins σ H s'->Q (.bool o.isSome) s') :
  wpAny (model X.prog X.w) A (YG .In u (.ref a)) Q E s:=by
 rcases g with⟨kvs,k,e,Z,l⟩|⟨kvs,k,b,e,Z,J,l⟩
 .subst Z
  obtain⟨z,hd,B,rel,D⟩:=mL I.hok e;refine wpAny_in_of (lr U) hd D.mapOf ?_;rw[←(rel.val k).isSome_eq,←l];exact h _ (I.tok _)
 .subst Z
  cases (show u=Y8 b from U);obtain⟨z,hd,xs,rel,D⟩:=vQ I.hok e;refine wpAny_in_heap (aaq F) (qz I.hok J) hd D ?_;have q:=(rel.val k).isSome_eq;rw[acH]at q;rw[←q,←l];exact h _ (I.tok _)
theorem Qv(F:A.units+1<cLine)(I:Inv X pins σ H s)(g:oE H a y o)(U:RelV y u)(h:∀s',Inv X pins σ H s'->Q (.bool (!o.isSome)) s') :
  wpAny (model X.prog X.w) A (YG .NotIn u (.ref a)) Q E s:=by
 rcases g with⟨kvs,k,e,Z,l⟩|⟨kvs,k,b,e,Z,J,l⟩
 .subst Z
  obtain⟨z,hd,B,rel,D⟩:=mL I.hok e;refine wpAny_notIn_of (lr U) hd D.mapOf ?_;rw[←(rel.val k).isSome_eq,←l];exact h _ (I.tok _)
 .subst Z
  cases (show u=Y8 b from U);obtain⟨z,hd,xs,rel,D⟩:=vQ I.hok e;refine wpAny_notIn_heap (aaq F) (qz I.hok J) hd D ?_;have q:=(rel.val k).isSome_eq;rw[acH]at q;rw[←q,←l];exact h _ (I.tok _)
theorem mJ{ob:HO}(I:Inv X pins σ H s)(mu:Mut (H a))(O:aa3 a s.heap h')(Y:∃q,h'.get? a=some q)(new:cN X.prog X.w (upd H a ob) h' a ob) :
  Inv X pins σ (upd H a ob) {s with heap:=h',toks:=t'}:=
 I.write (x:=a) (e:=a) mu (.inl rfl) (λb q U z=>(O.2 b U).trans z) Y new
variable{P:Yu}
theorem vp{B:List (Key×Value)}(z:kvs.length<=Yc)(hd:(a==ZW)=false)(rel:KV kvs B)(D:h'.DictOf (bA P w) a B) :
 cN P w H' h' a (.dK kvs):=⟨z,hd,B,rel,D⟩
variable{r:Value}
theorem Jf{Q:Unit->X4->Prop}(F:A.units+1<cLine)(I:Inv X pins σ H s)(g:JQ H a y v H')(U:RelV y u)(rv:RelV v r)(h:∀s',Inv X pins σ H' s'->Q () s') :
  wpAny (model X.prog X.w) A (setItem (.ref a) u r) Q E s:=by
 rcases g with⟨kvs,k,e,ey,l,eH⟩|⟨kvs,k,b,e,ey,eb,l,eH⟩
 .subst ey eH
  obtain⟨z,hd,B,rel,dd⟩:=v4 I.hok e;have hz:B.length<=Yc:=by rw[←rel.length];exact z
  have Z:(putK kvs k v).length<=Yc:=by have:=gW kvs k v;omega
  refine wpAny_setItem_pairs (hsz:=hz) (lr U) dd λh' J O=>h _ ?_;have Y:∃q,h'.get? a=some q:=let⟨q,_,_,D,_⟩:=J;⟨q,D⟩;exact mJ I (by rw[e];exact Zn) O Y (vp Z hd (rel.put k rv) J)
 .subst ey eH
  cases (show u=Y8 b from U);obtain⟨z,hd,xs,rel,dd⟩:=Wt I.hok e;have hz:xs.length<=Yc:=by rw[←acs rel];exact z
  have Z:(putK kvs k v).length<=Yc:=by have:=gW kvs k v;omega
  refine wpAny_setItem_heap (hsz:=hz) (aaq F) (qz I.hok eb) dd λh' J O=>h _ ?_;obtain⟨q,es,ep,D,h2,V,h4,_,h5⟩:=J;refine mJ I (by rw[e];exact Zn) O ⟨q,D⟩ ⟨Z,hd,_,(rel.put k eb rv).keeps λc ys ec=>?_,q,es,ep,D,h2,V,h4,h5⟩;rw[aR (jP ec e (λz=>nomatch z))];exact ec
section
variable{X:Cx}{pins:List (Addr×Obj)}{σ:St}{H:Hp}{s:Shared}{a:Addr}{kvs:List (Key×V)}{k:Key}{u:Value}{A:Around}{E:Value->Shared->Prop}
theorem WM{Q:Value->X4->Prop}(I:Inv X pins σ H s)(e:Rd H a (.dK kvs))(h:∀t s',Inv X pins σ H s'->Q (.int kvs.length t) s'):wpAny (model X.prog X.w) A (call (.builtin "len") [.ref a]) Q E s:=by
 obtain⟨z,hd,B,rel,D⟩:=mL I.hok e;refine call_len_dict hd D (by rw[←rel.length];rw[aci]at z;omega) ?_;rw[←rel.length];exact h _ _ (I.tok _)
end
theorem Cu{s:X4}(I:Inv X pins σ H s)(g:oE H a y o):s.TypeIs (.ref a) "dict":=by
 rcases g with⟨kvs,k,e,_,_⟩|⟨kvs,k,b,e,_,_,_⟩
 .obtain⟨_,_,vs,_,dd⟩:=mL I.hok e
  exact dd.typeIs
 .obtain⟨_,_,xs,_,dd⟩:=vQ I.hok e
  exact dd.typeIs
theorem Ds(h:Heap)(U:ZW<h.objs.size):cN P w H (h.push {cls:=.type "dict",data:=.dict #[]}) h.objs.size (.dK []):=
 ⟨aaV _,beq_eq_false_iff_ne.mpr (Zr (Yw U)),[],.nil,Heap.DictOf.new h⟩
def Sh:TE:=λ_ H Q=>∀p,H p=none->Q (.ref p) (upd H p (.dK []))
theorem M7:PE X (.Dict [] [] pos) Sh:=λpins s σ H Q I h=>
 wpAny_Dict_empty ⟨.ref s.heap.objs.size,_,I.laid (a:=s.heap.objs.size) (o:=.dK []) (t':=s.toks) (λ_ _ q=>X6 _ q) (Nat.le_refl _) (Ds s.heap I.big),rfl,h _ (I.hok.fresh (Nat.le_refl _))⟩
def zZ:List (TE×TE)->St->Hp->(List (V×V)->Hp->Prop)->Prop
 |[],_,H,Q=>Q [] H
 |(tk,tv)::r,σ,H,Q=>tk σ H λx H1=>tv σ H1 λy H2=>zZ r σ H2 λps F=>Q ((x,y)::ps) F
noncomputable abbrev VV:List (V×V)->List (Value×Value)->Prop:=acO λp q=>RelV p.1 q.1/\RelV p.2 q.2
def PPs(X:Cx)(pos:Pos)(U:List (Option Expr))(F:List Expr)(O:List (TE×TE)):Prop:=
 ∀(pins:List (Addr×Obj))(s:X4)(σ:St)(H:Hp)(Q:List (V×V)->Hp->Prop),Inv X pins σ H s->zZ O σ H Q->
  wpAny (model X.prog X.w) X.A (evalPairs (pairTrees U F X.env pos)) (λB s'=>∃ps H',Inv X pins σ H' s'/\VV ps B/\Q ps H') X.xe s
theorem Hl:PPs X pos [] [] []:=λpins s σ H Q I h=>pairTrees_nil_walk ⟨[],H,I,.nil,h⟩
theorem uX{k v:Expr}{ks:List (Option Expr)}{tk tv:TE}{O:List (TE×TE)}(J:PE X k tk)(hv:PE X v tv)(Z:PPs X pos ks B O) :
  PPs X pos (some k::ks) (v::B) ((tk,tv)::O):=λpins s σ H Q I h=>
 pairTrees_cons_walk (thn (J pins s σ H _ I h) λu s1 ⟨x,H1,I1,rx,q1⟩=>thn (hv pins s1 σ H1 _ I1 q1) λw2 s2 ⟨y,H2,V,U,q2⟩=>
  thn (Z pins s2 σ H2 _ V q2) λY z ⟨ps,F,q,rel,D⟩=>⟨(x,y)::ps,F,q,.cons ⟨rx,U⟩ rel,D⟩)
def m7(kvs more:List (Key×V)):List (Key×V):=more.foldl (λacc kv=>putK acc kv.1 kv.2) kvs
theorem KV.merge:∀{more:List (Key×V)}{z:List (Key×Value)}{kvs:List (Key×V)}{B:List (Key×Value)},KV more z->KV kvs B->KV (m7 kvs more) (merged B z):=by
 intro more z kvs B r;unfold KV at r
 induction r generalizing kvs B with
 |nil=>intro q;exact q
 |@cons p q ps qs h t J=>
  intro D;have e:KV (putK kvs p.1 p.2) (stored B q.1 q.2):=by
   have:=D.put p.1 h.2;rw[←h.1];exact this
  exact J e
theorem pJ:∀(more kvs:List (Key×V)),(m7 kvs more).length<=kvs.length+more.length
 |[],kvs=>by show kvs.length<=kvs.length+0;omega
 |p::r,kvs=>by
  have h1:=pJ r (putK kvs p.1 p.2);have h2:=gW kvs p.1 p.2;show(m7 (putK kvs p.1 p.2) r).length<=_;rw[Yd];omega
theorem vN{P:Yu}{w:World}:∀{kvs:List (Key×V)}{Y:List (Value×Value)},VV (kvs.map λkv=>(kV kv.1,kv.2)) Y->∃z,Carries (bA P w) Y z/\KV kvs z
 |[],_,r=>by rw[YF]at r;cases r;exact⟨[],Zn,.nil⟩
 |p::kvs,_,r=>by
  rw[X8]at r;cases r with
  |@cons a b B bs h t=>
   obtain⟨z,c,q⟩:=vN (P:=P) (w:=w) t;obtain⟨O,F⟩:=b;exact⟨(p.1,F)::z,⟨lr h.1,rfl,c⟩,.cons ⟨rfl,h.2⟩ q⟩
def Kr(O:List (TE×TE)):TE:=λσ H Q=>∀p,H p=none->zZ O σ (upd H p (.dK [])) λps H2=>H2 p=some (.dK [])/\∃kvs:List (Key×V),ps=kvs.map (λkv=>(kV kv.1,kv.2))/\kvs.length<=15/\Q (.ref p) (upd H2 p (.dK (m7 [] kvs)))
theorem Hh{F:List Expr}{a2:List (TE×TE)}(h:PPs X pos U F a2)(a1:U.all (·.isSome)=true)(Z:U.length=F.length)(h0:U≠[])
  (a3:U.length<=15):PE X (.Dict U F pos) (Kr a2):=by
 intro pins s σ H Q I q;have hn:=I.hok.fresh (Nat.le_refl s.heap.objs.size);have J:=I.laid (a:=s.heap.objs.size) (o:=.dK []) (h':=s.heap.push {cls:=.type "dict",data:=.dict #[]}) (t':=s.toks) (λ_ _ q=>X6 _ q) (Nat.le_refl _) (Ds s.heap I.big);refine wpAny_Dict_walk (knd:=bA X.prog X.w) a1 Z h0 a3 (thn (h pins _ σ _ _ J (q _ hn)) λws B ⟨ps,H2,V,rel,e,kvs,ep,lk,q2⟩=>?_);subst ep;obtain⟨rs,c,rk⟩:=vN (P:=X.prog) (w:=X.w) rel;obtain⟨z,hd,a4,r0,D⟩:=v4 V.hok e;cases r0;refine⟨rs,c,D,λh' a0 O=>⟨.ref s.heap.objs.size,_,?_,rfl,q2⟩⟩;have hz:(m7 [] kvs).length<=Yc:=by
  have h1:=pJ kvs [];rw[Yt]at h1;rw[aci];omega
 have Y:∃q,h'.get? s.heap.objs.size=some q:=let⟨q,_,_,hq,_⟩:=a0;⟨q,hq⟩;exact mJ V (by rw[e];exact Zn) O Y (vp hz hd (rk.merge .nil) a0)
theorem S_(q:A.units+1<cLine)(I:Inv X pins σ H s)(g:oE H a y o)(U:RelV y u)(h:∀Y s',Inv X pins σ H s'->RelV (o.getD .non) Y->Q Y s') :
  wpAny (model X.prog X.w) A (call (.builtin "dict.get") [.ref a,u]) Q E s:=by
 rcases g with⟨kvs,k,e,Z,l⟩|⟨kvs,k,b,e,Z,J,l⟩
 .subst Z
  obtain⟨z,hd,B,rel,D⟩:=mL I.hok e;refine aa6 Zw D.typeIs aaW (ac6 _ _) (meets_dict_get (bA X.prog X.w) a (lr U) hd) ⟨_,D.mapOf,h _ _ (I.tok _) ?_⟩;rw[l];exact(rel.val k).getD rfl
 .subst Z
  cases (show u=Y8 b from U);obtain⟨z,hd,xs,rel,D⟩:=vQ I.hok e;refine aa6 Zw D.typeIs aaW (ac6 _ _) (meetsH_dict_get (abU (bA X.prog X.w)) a b hd) ⟨aaq q,k,xs,qz I.hok J,D,h _ _ (I.tok _) ?_⟩;rw[l];exact(rel.val k).getD rfl
variable{d:V}
theorem Tu(q:A.units+1<cLine)(I:Inv X pins σ H s)(g:oE H a y o)(U:RelV y u)(rd:RelV d r)(h:∀Y s',Inv X pins σ H s'->RelV (o.getD d) Y->Q Y s') :
  wpAny (model X.prog X.w) A (call (.builtin "dict.get") [.ref a,u,r]) Q E s:=by
 rcases g with⟨kvs,k,e,Z,l⟩|⟨kvs,k,b,e,Z,J,l⟩
 .subst Z
  obtain⟨z,hd,B,rel,D⟩:=mL I.hok e;refine aa6 Zw D.typeIs aaW (ac7 _ _ _) (meets_dict_get_default (bA X.prog X.w) a (lr U) hd r) ⟨_,D.mapOf,h _ _ (I.tok _) ?_⟩;rw[l];exact(rel.val k).getD rd
 .subst Z
  cases (show u=Y8 b from U);obtain⟨z,hd,xs,rel,D⟩:=vQ I.hok e;refine aa6 Zw D.typeIs aaW (ac7 _ _ _) (meetsH_dict_get_default (abU (bA X.prog X.w)) a b hd r) ⟨aaq q,k,xs,qz I.hok J,D,h _ _ (I.tok _) ?_⟩;rw[l];exact(rel.val k).getD rd
end L2
namespace Att
open PySem PySem.W PySem.Calls PyProof.Rows
variable{P:Params}
theorem uB:∀(ns:List Int)(B:List Value),WellAll P h B (ns.map WData.int)->aer B ns:=by
 intro ns
 induction ns with
 |nil=>
  intro B w;rw[YF]at w;cases w;exact .nil
 |cons n ns J=>
  intro B w;rw[X8]at w;cases w with
  |cons a b=>
   cases a;exact .cons _ _ (J _ b)
variable{l:OpenLaw}
theorem Jr(I:l.most=some n){args:List WData}{a1:List Value}
  (a0:l.row.toRowW.claim.pre args=true) (a2:WellAll P h a1 args) :
  ∃a B ns,a1=[Y8 a]/\args=[WData.list (ns.map WData.int)]/\h.get? a=some {cls:=.type "list",data:=.seq B.toArray}/\aer B ns/\ns.length<=n:=by
 have D:WShape.hasAll [] args [.list .int]=true:=(pre_splitW a0).1;have F:l.pre.holds [] {args:=args}=true:=(pre_splitW a0).2;obtain⟨d,r,rfl,h1,h2⟩:=hasAllW_cons D;obtain rfl:=hasAllW_nil h2;obtain⟨xs,rfl,V⟩:=hasW_list h1;obtain⟨ns,rfl⟩:=items_int V;have z:ns.length<=n:=by
  unfold OpenLaw.pre at F;have h4:(WTm.not (.lt (.lit (.int (n:Int))) (.len (.arg 0)))).holds [] {args:=[.list (ns.map .int)]}=true:=by
   have h4:=(holds_andW F).1;rw[I]at h4;exact h4
  have Y:=condW_of h4 (w_not (w_lt w_lit (w_len_list (w_arg rfl))));rw[X_]at Y;refine Nat.le_of_not_lt λq=>?_;have q':(n:Int)<((ns.length:Nat):Int):=by omega
  first
   |(rw[ZR q']at Y;exact absurd Y (by decide))
   |(simp at Y;omega)
 cases a2 with
 |cons Z U=>
  cases U;cases Z with
  |list J O=>exact⟨_,_,ns,rfl,rfl,J,uB ns _ O,z⟩
theorem Jm(l:OpenLaw)(args:List WData):l.row.toRowW.claim.post args (.bool true) args=true:=
 postW_of (r:=l.row.toRowW) (X:=(true==true))
  (show WShape.has [] (.bool true) .bool=true by first|rfl|decide|simp[WShape.has,WShape.arms,WShape.armsAll])
  (show(WTm.eq .res (.lit (.bool true))).value [] {args:=args,res:=some (.bool true),after:=args}=some (.bool (true==true))from w_eq_bool (w_res rfl) w_lit) rfl
theorem attach_call{q:Yu}{Z:List Str}
  (I:l.most=some n) (a4:d.params.defaults=[])
  (call:∀(w:World)(s₀ O:X4)(mg mb:Str->Option Value)(fa:Addr)(o:Obj)(pm cd doc:Value)(a:Addr)(B:List Value)(ns:List Int),
   Ground q Z [] XP w s₀ mg mb O.heap->YP w O.heap->
   O.heap.get? fa=some o->o.data= .func (docDef d.name d.params d.body d.scope pm cd doc)->O.heap.CodeRec cd d.name->mg d.name=some (.ref fa)->
   O.heap.get? a=some {cls:=.type "list",data:=.seq B.toArray}->aer B ns->ns.length<=n->O.gens= #[]->
   abm (model l.prog w) acN (.call (.ref fa) ⟨[.ref a],[]⟩) (λr s'=>r= .ok (.ret (.bool true))/\OldK O.heap s'.heap/\s'.os=O.os/\abV s'.gens) O) :
  WalkO q Z XP YP l.row.toRowW d [] (λf B=>aeQ f B):=by
 intro w s₀ O mg mb G Y fa o pm cd doc dV kV J hd a6 U a5 hg args a8 as a1 a7 b0 a3 a9;obtain rfl:dV= .none:=Dflts.none U a4;obtain rfl:kV= .none:=Dflts.noKw U;obtain⟨a,B,ns,rfl,rfl,a2,a0,z⟩:=Jr I a1 a3;refine enter_call (aaG (call w s₀ O mg mb fa o pm cd doc a B ns G Y J (fd_plain hd) a6 a5 a2 a0 z hg) λr s' D=>?_);obtain⟨rfl,h2,V,F⟩:=D;exact⟨.inl ⟨.bool true,.bool true,[],rfl,λ_=>rfl,.bool true,Jm l _,λ_=>⟨List.Pairwise.nil,λ_ hm=>(nomatch hm)⟩⟩,h2,V,F⟩
end Att
namespace L2
open PySem PySem.Spec PyProof.Rows
theorem xQ:∀{B:List Value}{ns:List Int},aer B ns->Vals (ns.map V.int) B
 |_,_,.nil=>.nil
 |_,_,.cons n t h=>.cons ⟨t,rfl⟩ (xQ h)
def Only(H:Hp):Prop:=∀b,H b=none∨∃o xs,H b=some (.frz o (.lst xs))
theorem J7{P:Yu}{K:Yb}{mb:Str->Option Value}{CX:CXT}{k:Nat}{fa:Addr}{sp:Sp}{O:X4}{B:List Value}{ns:List Int}
  (KX:K.In O.heap) (a7:O.heap.Ns Zo mg) (U:O.heap.Ns builtinsNs mb) (a8:∀x:Str,x≠"__name__"->mb x=Z7 x) (a4:O.heap.NoLimit) (hg:O.gens= #[])
  (Y:O.heap.get? a=some {cls:=.type "list",data:=.seq B.toArray}) (hi:aer B ns) (hl:ns.length<=Yc) (Z:jM k acN)
  (F:∀base:Heap,K.In base->base.Ns Zo mg->dJ P w K mg base CX k fa fd [x] sp) (a2:∀(s:X4)(u:Value),adv s fd ⟨[u],[]⟩ [(x,u)])
  (D:∀H:Hp,Only H->SqL K H a (ns.map V.int)->sp [.ref a] H (λv _=>v= .bl true) λ_ _ _=>False)
  (a9:∀H e s',CX [] H O (λ_ _ _=>False) e s'->False) :
  abm (model P w) acN (.call (.ref fa) ⟨[.ref a],[]⟩) (λr s'=>r= .ok (.ret (.bool true))/\OldK O.heap s'.heap/\s'.os=O.os/\abV s'.gens) O:=by
 have rv:=xQ hi;have a6:=hi.length;have a1:∀H:Hp,Only H->SqL K H a (ns.map V.int)->HOk P w H O.heap->(∀b,H b≠none->b=a)->(H a≠none->K.lookup a=none)->
   abm (model P w) acN (.call (.ref fa) ⟨[.ref a],[]⟩) (λr s'=>r= .ok (.ret (.bool true))/\OldK O.heap s'.heap/\s'.os=O.os/\abV s'.gens) O:=by
  intro H hO hS hok hA hK;have I:∀{b:Addr}{o:Obj},O.heap.get? b=some o->H b=none->(zB O.heap H).get? b=some o:=λe n=>KR e n;have b0:∀{b:Addr}{o:Obj}{es:Array DictEntry}{ep:Nat},O.heap.get? b=some o->o.data= .dict es ep->H b=none:=λ{b o es ep} e d=>by
   cases q:H b with
   |none=>rfl
   |some u=>
    have e':b=a:=hA b (by rw[q];simp);subst e';rw[Y]at e;cases e;have d':Data.seq B.toArray _=Data.dict es ep:=d;cases d'
  have a0:∀{b:Addr}{m:Str->Option Value},O.heap.Ns b m->(zB O.heap H).Ns b m:=λ{b m}⟨o,es,ep,e,d,r⟩=>⟨o,es,ep,I e (b0 e d),d,r⟩;have a3:K.In (zB O.heap H):=λb o e=>I (KX b o e) (by
   cases q:H b with
   |none=>rfl
   |some u=>
    have e':b=a:=hA b (by rw[q];simp);subst e';rw[hK (by rw[q];simp)]at e;cases e)
  have hM:Mod K mg (zB O.heap H):=⟨a3,a0 a7,⟨mb,a0 U,a8⟩,let⟨mc,h1,h2⟩:=a4;⟨mc,a0 h1,h2⟩⟩;have e0:Q6 P w K mg (zB O.heap H) acN [] O H:=⟨rfl,hM,λb o e=>Qf e,Nat.le_of_eq (Jj _ _),trivial,λb U=>absurd (show b∈([]:List Addr)from U) (by simp),hok,.of_eq hg⟩;refine aaG ((F _ a3 (a0 a7)).run acN [] O H ⟨[.ref a],[]⟩ [.ref a] [.ref a] _ _ Z e0 (a2 O (.ref a)) (.cons rfl .nil) (D H hO hS)) λr s' h=>?_;cases r with
  |error e=>exact(a9 H e s' h).elim
  |ok fl=>
   cases fl with
   |next=>exact aaD h
   |brk=>exact aaD h
   |cont=>exact aaD h
   |ret u=>
    obtain⟨v,H',os,bare,un,a5,r',q⟩:=h;have q':v= .bl true:=q;subst q';obtain rfl:u=acK true:=r';refine⟨rfl,OldK.of_keep λb o e=>?_,os,bare⟩;cases q:H b with
    |none=>exact un.keep b o e q (by intro z;exact absurd (show b∈([]:List Addr)from z) (by simp)) (by simp)
    |some u=>
     rcases hO b with z|⟨ob,xs,z⟩
     .rw[q]at z;cases z
     .have z2:=un.frzs b ob _ z
      obtain⟨e1,_⟩:=hok b _ z;obtain⟨e2,_⟩:=a5 b _ z2;rw[e]at e1;cases e1;exact e2
 cases J:K.lookup a with
 |some o=>
  have e:=KX a o J;rw[Y]at e;cases e;refine a1 (λ_=>none) (λ_=>.inl rfl) (.inr ⟨_,B.toArray,_,J,rfl,rfl,rfl,by rw[List.size_toArray,a6];exact hl,by simpa using rv⟩) (λb u z=>by have z':(none:Option HO)=some u:=z;cases z') (λb z=>absurd rfl z) λz=>absurd rfl z
 |none=>
  refine a1 (λb=>if b=a then some (.frz {cls:=.type "list",data:=.seq B.toArray} (.lst (ns.map V.int)))else none) (λb=>?_) (.inl (.inr ⟨{cls:=.type "list",data:=.seq B.toArray},Yi rfl⟩)) (λb u z=>?_) (λb z=>?_) λ_=>J
  .by_cases U:b=a
   .exact .inr ⟨_,_,Yi U⟩
   .exact .inl (YB U)
  .by_cases U:b=a
   .have z':=(Yi U).symm.trans z
    cases z';subst U;exact⟨Y,by rw[X_];exact hl,B,_,rv,Y⟩
   .have z':=(YB U).symm.trans z
    cases z'
  .by_cases U:b=a
   .exact U
   .exact absurd (YB U) z
theorem walk_of{l:ac_}{k:Nat}{q:Yu}{a1:List Str}{K:Params->Yb}{CX:World->CXT}{sp:World->Sp}
  (I:l.most=some n) (a4:n<=Yc) (a3:d.params.defaults=[]) (Z:jM k acN)
  (hY:∀(w:World)(h:Heap),YP w h->(K w.params).In h)
  (F:∀(w:World)(mg:Str->Option Value)(fa:Addr)(h:Heap),(K w.params).In h->h.Ns Zo mg->mg d.name=some (.ref fa)->
   ∃fd:YC,(∀(s:X4)(u:Value),adv s fd ⟨[u],[]⟩ [(x,u)])/\
    ∀base:Heap,(K w.params).In base->base.Ns Zo mg->dJ l.prog w (K w.params) mg base (CX w) k fa fd [x] (sp w))
  (D:∀(w:World)(H:Hp)(a:Addr)(ns:List Int),ns.length<=n->Only H->SqL (K w.params) H a (ns.map V.int)->sp w [.ref a] H (λv _=>v= .bl true) λ_ _ _=>False)
  (a5:∀(w:World)(H:Hp)(s:X4)(e:Value)(s':X4),CX w [] H s (λ_ _ _=>False) e s'->False) :
  ae1 q a1 XP YP l.row.toRowW d [] (λf B=>aeQ f B):=by
 refine Att.attach_call I a3 λw s₀ O mg mb fa o pm cd doc a B ns G Y J hd a7 a6 a2 a0 z hg=>?_;have KX:=hY w _ Y;obtain⟨fd,U,hF⟩:=F w mg fa _ KX G.T.g a6;exact J7 KX G.T.g G.T.b G.T.builtins G.T.nolimit hg a2 a0 (Y4 z a4) Z hF U (λH hO hS=>D w H a ns z hO hS) λH e s'=>a5 w H O e s'
def o8(s:Stmt):Arguments:=match s with
 |.FunctionDef _ a _ _ _ _ _ _ _ _=>a
 |_=>{posonlyargs:=[],args:=[],vararg:=none,kwonlyargs:=[],kw_defaults:=[],kwarg:=none,defaults:=[]}
def iW(s:Stmt):List Stmt:=match s with
 |.FunctionDef _ _ b _ _ _ _ _ _ _=>b
 |_=>[]
def aQ(s:Stmt):Scope:=match s with
 |.FunctionDef _ _ _ _ _ _ z _ _ _=>z
 |_=>{kind:=.function,names:=[],isGenerator:=false,isCoroutine:=false}
abbrev CX0:CXT:=λ_ _ _ _ _ _=>False
abbrev E0:XK:=λ_ _ _=>False
variable{X:Cx}
theorem VB:Eg CX0 X E0:=λ_ _ _ _ _ _ _ h=>h.elim
structure Fun(K:PySem.W.Frag)(x qual:Str)(st:Stmt)(f:Addr)(fd:FuncData):Prop where
 ex:∃(oc:Value)(od:Option Addr)(kV doc pm:Value)(an:Option Addr)(cdv ct:Value)(osl:Array (Option Value)),
  fd=abv x qual (o8 st) (iW st) (aQ st) .none kV doc pm an cdv ct/\K.lookup f=some ⟨oc,od,.func fd,osl⟩/\adw K cdv qual=true
 kp:acb K (.ref f)=true
section
variable{P:Program}{w:World}{K:PySem.W.Frag}{mg:Str->Option Value}{base:Heap}
theorem Fun.ok{x qual:Str}{st:Stmt}{f:Addr}{fd:YC}{N ps:List Str}{k:Nat}{sp:Sp}(F:Fun K x qual st f fd)(S:bz N ps (aQ st))(len:∀B H Q E,sp B H Q E->B.length=ps.length)
  (z:∀(cdv:Value)(A:Y0)(outer:List Env)(s:X4)(H:Hp)(B:List V)(Q:VK)(E:XK),jM k (A.deeper (abj qual (aQ st) s.heap.objs.size f cdv))->sp B H Q E->
   ∃t,PSs (wU CX0 P w K mg base N qual (aQ st) f cdv A outer s H E).nox (iW st) t/\t {nx:=λ_ H'=>Q .non H',rt:=Q} (start N B) H):dJ P w K mg base CX0 (k+1) f fd ps sp:=by
 obtain⟨oc,od,kV,doc,pm,an,cdv,ct,osl,rfl,J,I⟩:=F.ex;refine V6 J I S len λA outer s H B Q E Z D=>?_;obtain⟨t,h,q⟩:=z cdv A outer s H B Q E Z D;exact⟨t,h.nox,q⟩
theorem Fun.binds{x qual:Str}{st:Stmt}{f:Addr}{fd:YC}{ps:List Str}(F:Fun K x qual st f fd)
  (h:∀(kV doc pm:Value)(an:Option Addr)(cdv ct:Value)(us:List Value),us.length=ps.length->bindArgs (abv x qual (o8 st) (iW st) (aQ st) .none kV doc pm an cdv ct) ⟨us,[]⟩=pure (ps.zip us)):Binds K fd ps []:=by
 obtain⟨oc,od,kV,doc,pm,an,cdv,ct,osl,rfl,J,I⟩:=F.ex;exact .all (h kV doc pm an cdv ct)
theorem Sv{x qual:Str}{st:Stmt}{f:Addr}{oc:Value}{od an:Option Addr}{osl:Array (Option Value)}{kV doc pm cdv ct:Value}(l:K.lookup f=some ⟨oc,od,.func (abv x qual (o8 st) (iW st) (aQ st) .none kV doc pm an cdv ct),osl⟩)
 (c:adw K cdv qual=true) (k:acb K (.ref f)=true):Fun K x qual st f (abv x qual (o8 st) (iW st) (aQ st) .none kV doc pm an cdv ct):=⟨⟨oc,od,kV,doc,pm,an,cdv,ct,osl,rfl,l,c⟩,k⟩
end
theorem pv(i:Nat)(z:X.N[i]? =some x:=by rfl)(J:Vis X.env.scope x:=by first|exact ZX rfl|exact Zm (ZX rfl)|exact Zm (Zm rfl))(hd:(x==("__debug__":Str))=false:=by decide)
 (I:(x==("__classdict__":Str))=false:=by decide):PE X (.Name x pos) (Dv i):=vf z J hd I
theorem wH{A B:Prop}(h:B):if false=true then A else B:=by
 rw[YB YT];exact h
theorem tK{A B:Prop}(h:A):if true=true then A else B:=by
 rw[Yi rfl];exact h
def Same(H H':Hp):Prop:=∀b o,H b=some o->H' b=some o
theorem Same.refl(H:Hp):Same H H:=λ_ _ h=>h
theorem Same.trans{H H1 H2:Hp}(a:Same H H1)(b:Same H1 H2):Same H H2:=λc o h=>b c o (a c o h)
theorem Same.free{H H':Hp}(e:Same H H'){l:Addr}(h:H' l=Option.none):H l=Option.none:=by
 cases q:H l with
 |none=>rfl
 |some o=>
  rw[e l o q]at h;cases h
theorem Iu:gQ X (.builtin "len") (λxs H Q=>∃a kvs,xs=[V.ref a]/\H a=some (.dK kvs)/\Q (.int kvs.length) H):=by
 intro pins s σ H xs us Q I r h;obtain⟨a,kvs,rfl,Y,q⟩:=h;obtain⟨u,rfl,D⟩:=vals1 r;cases D;exact WM I (.inl Y) λt s' Z=>⟨.int kvs.length,H,Z,⟨t,rfl⟩,q⟩
end L2
set_option maxHeartbeats 4000000
namespace Jb
open PySem PySem.Spec PyProof.Rows L2
structure Cal(P:Program)(w:World)(K:PySem.W.Frag)(mg:Str->Option Value)(base:Heap)(k:Nat)(x:Str)(ps:List Str)(sp:Sp):Prop where
 ex:∃f fd,dJ P w K mg base CX0 k f fd ps sp/\mg x=some (.ref f)/\acb K (.ref f)=true/\Binds K fd ps []
variable{X:Cx}{t:TA}{p:Pos}{k:Nat}
theorem Nb{sp:Sp}(C:Cal X.prog X.w X.K X.mg X.base k x ps sp)(Z:jM k X.A)(B:Gl X x)(Y:PA X (e::es) t)
  (q:(x==("__debug__":Str))=false:=by decide) (D:Yh (e::es) X.env=(false,eval e X.env)::Yh es X.env:=by rfl) (z:(Zx pos (Yh es X.env)).any (·.1)=false:=by rfl) :
  PE X (.Call (.Name x p) (e::es) [] pos) (Rh sp [] E0 t):=by
 obtain⟨f,fd,F,V,J,U⟩:=C.ex;exact P0 F Z B V J U .nil VB Y q D z
theorem Wj{n:String}(B:Gl X x)(V:X.mg x=none)(J:Z7 x=some (.type n))(I:x≠"__name__":=by decide)(hd:(x==("__debug__":Str))=false:=by decide):PE X (.Name x pos) (tC (.ty n)):=
 Ox B V J rfl I hd
def VP(_ j:Int):Prop:=0<j/\j<18446744073709551616
theorem MF:OpR X (ZK .FloorDiv) (rI VP λi j=>.int (i / j)):=opI λi j _ _ _ _ _ F q=>by
 have h1:(0:Int)<j:=F.1;have h2:j<18446744073709551616:=F.2;have V:j.natAbs<2 ^ 64:=by omega
 have z:j.natAbs≠0:=by omega
 have Y:j.natAbs.log2<64:=(Nat.log2_lt z).mpr V;exact floordiv_int (by omega) (by rw[acx i (by omega)];exact q) (.inl (PyProof.noPylong_of_log2 (by omega)))
variable{b:Expr}
theorem CN:gQ X (.builtin "isinstance") (λxs H Q=>∃x n t b,xs=[x,.ty n]/\m5 X.K H x t/\aca X.K t (.type n)=some b/\Q (.bl b) H):=by
 intro pins s σ H xs us Q I r h;obtain⟨x,n,t,b,rfl,U,e,q⟩:=h;obtain⟨u,Y,rfl,F,O⟩:=vals2 r;cases O;exact Hz I F U e λtk=>⟨.bl b,H,I.tok tk,rfl,q⟩
variable{H:Hp}
theorem Same.new{q:Addr}{o:HO}(h:H q=none):Same H (L2.upd H q o):=λb u e=>by rw[aR (bJ e h)];exact e
theorem DN{l:List α}{f:α->β->Sem (ForInStep β)}(g:β->α->β):∀(q:β),(∀x∈l,∀c,f x c=pure (.yield (g c x)))->forIn l q f=pure (l.foldl g q):=by
 induction l with
 |nil=>intro q _;rfl
 |cons x r J=>
  intro q h;rw[List.forIn_cons,h x Zh q];show(pure (abr (g q x)) >>=_)=_;rw[pure_bind];exact J (g q x) λy I c=>h y (YJ _ I) c
def pH(env:Env)(z:List (Str×Addr))(y:Str×abQ):List (Str×Addr):=if y.2== .free then(y.1,(env.cells.lookup y.1).getD 0)::z else z
def u9(scope:Scope)(env:Env):List (Str×Addr):=scope.names.foldl (pH env) []
theorem pN(h:∀y∈scope.names,y.2= .free->∃c,env.cells.lookup y.1=some c):closureFor scope env=pure (u9 scope env):=by
 unfold closureFor;dsimp only;rw[DN (pH env) [] λy I c=>?_]
 .rw[pure_bind]
  rfl
 .obtain⟨n,k⟩:=y
  unfold pH;dsimp only;by_cases J:(k==adW)=true
  .rw[Yi J,Yi J]
   obtain⟨a,Y⟩:=h (n,k) I (by simpa using J);have Y:env.cells.lookup n=some a:=Y;unfold cellOf;rw[Y];rfl
  .rw[YB J,YB J]
theorem wY(R:Str->Addr->Prop):∀(l:List (Str×abQ))(acc:List (Str×Addr)),(∀x c,acc.lookup x=some c->R x c)->(∀y∈l,y.2= .free->R y.1 ((env.cells.lookup y.1).getD 0))->
  ∀x c,(l.foldl (pH env) acc).lookup x=some c->R x c
 |[],acc,h,_=>h
 |y::r,acc,h,hy=>by
  refine wY R r (pH env acc y) (λx c e=>?_) λz hz=>hy z (YJ _ hz);unfold pH at e;split at e
  .rename_i hk
   rw[acU]at e;cases B:(x==y.1)with
   |true=>
    rw[B]at e;have ex:x=y.1:=by simpa using B
    cases e;rw[ex];exact hy y Zh (by simpa using hk)
   |false=>
    rw[B]at e;exact h x c e
  .exact h x c e
theorem uc{env:Env}:∀(l:List (Str×abQ))(acc:List (Str×Addr))(x:Str),((∃c,acc.lookup x=some c)∨(x,adW)∈l)->∃c,(l.foldl (pH env) acc).lookup x=some c
 |[],acc,x,h=>by
  rcases h with h|h
  .exact h
  .cases h
 |y::r,acc,x,h=>by
  refine uc r (pH env acc y) x ?_;rcases h with⟨c,h⟩|h
  .left
   unfold pH;split
   .rw[acU]
    cases B:(x==y.1)with
    |true=>exact⟨_,rfl⟩
    |false=>exact⟨c,h⟩
   .exact⟨c,h⟩
  .rcases Yj.mp h with e|e
   .left
    unfold pH;subst e;rw[Yi (by rfl),acU,show(x==x)=true by simp];exact⟨_,rfl⟩
   .exact .inr e
def eV(X:Cx)(N':List Str)(scope:Scope)(C:Addr)(V:X4)(q:Hp)(fp:List Addr):Cx:=
 {X with N:=N',s₀:=V,H₀:=q,env:=compEnvC scope (u9 scope X.env) C X.env,outer:=X.stack,stack:=X.stack,ex:=fp,fn:=λ_=>false,pn:=[],xe:=λ_ _=>False}
def jf(cap:List (Option Nat))(σ:L2.St):L2.St:=cap.map λo=>o.bind λj=>(σ[j]?).bind id
structure dO(sc:Scope)(N N':List Str)(scope:Scope)(cap:List (Option Nat)):Prop where
 kind:scope.kind= .function
 nocell:∀y∈scope.names,y.2≠.cell
 nm:∀y∈scope.names,y.2= .local->scope.names.lookup y.1=some .local
 free:∀y∈scope.names,y.2= .free->sc.names.lookup y.1=some .cell∨sc.names.lookup y.1=some .free
 len:cap.length=N'.length
 cap:∀i∈Y9 cap.length,∀j∈Y9 N.length,cap[i]? =some (some j)->N[j]? =N'[i]?/\∀x∈N'[i]?,scope.names.lookup x=some .free
theorem oO{l:List (Str×α)}{k:α}(h:l.lookup x=some k):(x,k)∈l:=aal h
theorem rN{k:abQ}(J:(relabel scope env).names.lookup x=some k)(Y:k= .cell∨k= .free)(B:∀y∈scope.names,y.2≠.cell):(x,adW)∈scope.names:=by
 have h:=oO J;obtain⟨⟨n,q⟩,V,e⟩:=List.mem_map.mp h;dsimp only at e;split at e
 .rename_i hc
  cases e;have:q= .free:=by
   have:=(adM.mp (adM.mp hc).1).1;simpa using this
  subst this;exact V
 .cases e
  rcases Y with z|z
  .subst z;exact absurd rfl (B _ V)
  .subst z;exact V
variable{σ:L2.St}{cap:List (Option Nat)}
theorem kj(I:Inv X pins σ H s)(O:dO X.env.scope X.N N' scope cap){c:Addr}(h:(u9 scope X.env).lookup x=some c):X.env.cells.lookup x=some c:=by
 refine wY (λx c=>X.env.cells.lookup x=some c) scope.names [] (λx c e=>by simp at e) (λy q J=>?_) x c h;obtain⟨c,e⟩:=I.ok.has y.1 (O.free y q J);rw[e];rfl
variable{C:Addr}
theorem QG(I:Inv X pins σ H s)(O:dO X.env.scope X.N N' scope cap)(Y:∀b∈fp,mX X pins H b)(D:∀b∈fp,b<s.heap.objs.size)(B:s.heap.objs.size<=C):(eV X N' scope C s H fp).Ok where
 mod:=I.ok.mod
 kind:=O.kind
 glob:=I.ok.glob
 blt:=I.ok.blt
 above:=B
 inj:=λx y c h1 h2=>I.ok.inj x y c (kj I O h1) (kj I O h2)
 has:=λx h=>by
  refine uc scope.names [] x (.inr ?_);rcases h with h|h
  .exact rN h (.inl rfl) O.nocell
  .exact rN h (.inr rfl) O.nocell
 cab:=λx c h _=>by cases h
 hd:=I.ok.hd
 frames:=I.ok.frames
 stk:=.inl rfl
 exf:=λb U=>⟨Yw (Ys (D b U) B),λx c e=>(Y b U).2.2.2.2.1 x c (kj I O e)⟩
 bs:=I.bs
 bsz:=Y4 I.ok.bsz I.sz
 noex:=λb o e U=>by
  rcases(Y b U).2.2.2.1 with z|z
  .exact I.ok.noex b o e z
  .exact absurd (Ys (Yk (I.ok.bs b o e).1) z) (Z_ _)
 exfs:=λb U z=>by
  rcases Yj.mp (I.stkSub b z)with q|q
  .exact(Y b U).2.1 q
  .exact(Y b U).2.2.1 q
 funs:=I.stack
 frf:=I.stkFree
theorem L_{a0:Heap}{D:Addr}(I:Inv X pins σ H s)(O:dO X.env.scope X.N N' scope cap)(Y:∀b∈fp,mX X pins H b)(b2:∀b∈fp,b<s.heap.objs.size)
  (hC:s.heap.objs.size<=C) (hD:s.heap.objs.size<=D) (a8:D≠C) (J:∀b u,s.heap.get? b=some u->a0.get? b=some u) {m:Str->Option Value} (b3:a0.Ns C m) (b0:a0.get? D=some o) (a9:∀v,o.data≠.cell v) :
  Inv (eV X N' scope C s H fp) [(D,o)] (jf cap σ) H {s with heap:=a0,toks:=tk}where
 ok:=QG I O Y b2 hC
 os:=rfl
 bare:=I.bare
 base:=Un.kept J
 loc:=by
  refine⟨m,b3,λi x v e1 e2 e3=>?_⟩;have e1:N'[i]? =some x:=e1;unfold jf at e2;rw[List.getElem?_map]at e2;cases F:cap[i]? with
  |none=>rw[F]at e2;cases e2
  |some q=>
   rw[F]at e2;cases q with
   |none=>cases e2
   |some j=>
    have e2:(σ[j]?).bind id=some v:=Ze e2;have a6:σ[j]? =some (some v):=by
     cases z:σ[j]? with
     |none=>rw[z]at e2;cases e2
     |some y=>
      rw[z]at e2;have:y=some v:=e2;rw[this]
    have hi:i<cap.length:=(List.getElem?_eq_some_iff.mp F).1;have hj:j<X.N.length:=by
     have:=(List.getElem?_eq_some_iff.mp a6).1;rw[I.len]at this;exact this
    obtain⟨c1,B⟩:=O.cap i (aa1.mpr hi) j (aa1.mpr hj) F;have a7:scope.names.lookup x=some .free:=B x (by rw[e1];rfl);have hN:X.N[j]? =some x:=c1.trans e1;have a1:=oO a7;have a4:Vis X.env.scope x:=(O.free _ a1 rfl).elim (λz=>.inr (.inl z)) λz=>.inr (.inr z);obtain⟨m0,_,Z⟩:=I.loc;obtain⟨u,r,lk⟩:=Z j x v hN a6 a4;refine⟨u,r,?_⟩;rcases lk with⟨k,_⟩|⟨_,c,ec,a2⟩
    .have k:X.env.scope.names.lookup x=some .local:=k
     rcases O.free _ a1 rfl with z|z
     .rw[k]at z;cases z
     .rw[k]at z;cases z
    .right
     obtain⟨c',a5⟩:=uc (env:=X.env) scope.names [] x (.inr a1);have a3:=kj I O a5;rw[ec]at a3;cases a3;refine⟨?_,c,a5,?_⟩
     .have e3:Vis (relabel scope X.env) x:=e3
      rcases e3 with e3|e3|e3
      .exfalso
       have V:=oO e3;obtain⟨⟨n,q⟩,b1,e⟩:=List.mem_map.mp V;dsimp only at e;split at e
       .cases e
       .cases e
        have:=O.nm _ b1 rfl;rw[a7]at this;cases this
      .exact .inl e3
      .exact .inr e3
     .obtain⟨oc,h1,h2⟩:=a2
      exact⟨oc,J _ _ h1,h2⟩
 cell:=λx c e=>by
  obtain⟨v,oc,h1,h2⟩:=I.cell x c (kj I O e);exact⟨v,oc,J _ _ h1,h2⟩
 free:=I.hok.fresh hC
 freeC:=λx c e=>I.freeC x c (kj I O e)
 pin:=λp hp=>by
  have e:p=(D,o):=by simpa[eV]using hp
  subst e;refine⟨b0,I.hok.fresh hD,a8,λz=>?_,a9⟩;obtain⟨b,U,e⟩:=aco.mp z;have hz:D∈X.env.locals::X.fs:=I.stkSub D z;rcases Yj.mp hz with q|q
  .exact absurd (Ys (by rw[q];exact I.lt) hD) (Z_ _)
  .exact I.nofs hD q
 hok:=I.hok.kept J
 len:=by
  unfold jf;rw[X_];exact O.len
abbrev NoX:Value->X4->Prop:=λ_ _=>False
variable{R:Result->Shared->Prop}
theorem zq{iter:Expr}{it acc:Value}(I:Nat->X4->Prop)
  (z:∀n s,I n s->wpAny (model prog w) A (adq it) (λr O=>match r with
   |none=>R (.ok .next) O
   |some v=>wpAny (model prog w) A (ab6 target it v) (λ_ J=>wpAny (model prog w) A (abI target env v) (λ_ V=>
    wpAny (model prog w) A (forIn ifs true λc r=>if r=true then do let ok ←adp c env (eval c env);pure (abr ok)else pure (abr r)) (λok D=>
     if ok=true then wpAny (model prog w) A (eval elt env) (λx F=>wpAny (model prog w) A (call (.builtin "list.append") [acc,x]) (λ_ Y=>∃m,m<n/\I m Y) NoX F) NoX D
     else ∃m,m<n/\I m D) NoX V) NoX J) NoX O) NoX s)
  (n:Nat) (h:I n s):abm (model prog w) A (.compLoop (.ListComp elt [⟨target,iter,ifs,0⟩] scope pos) 0 it acc env) R s:=by
 refine codeAny_loop rfl I (λn s B=>?_) n h;show wpAny _ A ((compTurn (.ListComp elt [⟨target,iter,ifs,0⟩] scope pos) 0 it acc env).onRaise (λx=>do noteFrame x env;theTreesLotGoes x)) _ _ s;refine wpAny_noted ?_;rw[compTurn_list];refine X3 (acv (X3 (aaC (z n s B) (λr O q=>?_) λ_ _ h'=>h'.elim)));cases r with
 |none=>exact Yg q
 |some v=>
  refine X3 (aaC q (λ_ J Z=>?_) λ_ _ h'=>h'.elim);refine X3 (aaC Z (λ_ V a1=>X3 (aaC a1 (λok D U=>?_) λ_ _ h'=>h'.elim)) λ_ _ h'=>h'.elim);cases ok with
  |false=>exact Yg ⟨rfl,U⟩
  |true=>
   exact X3 (X3 (aaC U (λx F a0=>X3 (aaC a0 (λ_ Y a2=>Yg (Yg ⟨rfl,a2⟩)) λ_ _ h'=>h'.elim)) λ_ _ h'=>h'.elim))
def PTs(X:Cx)(ifs:List Expr)(t:TT):Prop:=
 ∀(pins:List (Addr×Obj))(s:X4)(σ:L2.St)(H:Hp)(Q:Bool->Hp->Prop),Inv X pins σ H s->t σ H Q->
  wpAny (model X.prog X.w) X.A (forIn ifs true λc r=>if r=true then do let ok ←adp c X.env (eval c X.env);pure (abr ok)else pure (abr r)) (TP X pins σ Q) X.xe s
def W9:TT:=λ_ H Q=>Q true H
theorem PN:PTs X [] W9:=λ_ _ _ H _ I h=>wpAny_tests_nil ⟨H,I,h⟩
theorem O2{t:TT}(h:PT X c t):PTs X [c] t:=λpins s σ H Q I q=>wpAny_tests_one (h pins s σ H Q I q)
def Kp(σ q:L2.St):Prop:=∀(i:Nat) v,σ[i]? =some (some v)->q[i]? =some (some v)
def Rz(J:It)(H:Hp)(g:TG)(tt:TT)(te:TE)(σ:L2.St)(Q:List V->Hp->Prop):Prop:=
 ∃W:Nat->Nat->List V->Hp->Prop,(∃m,W 0 m [] H)/\∀i m ys H,W i m ys H->
  (J.stop i H/\Q ys H)∨(J.go i H/\ys.length<Yc/\∃N:List V->Hp->Prop,(∀O H',N O H'->∃B,B<m/\W (i+1) B O H')/\
   ∀x H',J.yld i H x H'->g x σ H' λσ2 H2=>Kp σ σ2/\tt σ2 H2 λb F=>if b=true then te σ2 F λv q=>N (ys++[v]) q else N ys F)
def Bk(cap:List (Option Nat))(wi:TI)(g:TG)(tt:TT)(te:TE):TE:=λσ H Q=>wi σ H λJ H1=>
 Rz J H1 g tt te (jf cap σ) λys H2=>ys.length<=Yc/\∀D,H2 D=none->Q (.ref D) (upd H2 D (.lst ys))
section
variable{X:Cx}{elt target iter:Expr}{ifs:List Expr}{scope:Scope}{pos:Pos}{N':List Str}{cap:List (Option Nat)}{wi:TI}{g:TG}{tt:TT}{te:TE}
def lobj(its:List Value)(n:Nat):Obj:={cls:=.type "list",data:=.seq its.toArray n}
theorem uZ{pins:List (Addr×Obj)}{σ:L2.St}{H:Hp}{a0:X4}{it:Addr}{fp:List Addr}{tn:Nat->Heap->Prop}{J:It}{Q:List V->Hp->Prop}{RR:Value->Addr->Result->X4->Prop}{E:Value->X4->Prop}
  (hc:X.calm=true) (O:dO X.env.scope X.N N' scope cap) (I:Inv X pins σ H a0) (T:Turn X.prog X.w X.K target J fp it tn) (st:tn 0 a0.heap) (f2:∀b∈fp,mX X pins H b)
  (B:∀C,PG (eV X N' scope C a0 H fp) target g) (ht:∀C,PTs (eV X N' scope C a0 H fp) ifs tt) (Y:∀C,PE (eV X N' scope C a0 H fp) elt te) (cw:Rz J H g tt te (jf cap σ) Q)
  (c7:∀(D C:Addr)(s':X4)(H':Hp)(ys:List V)(its:List Value)(n:Nat)(b1:L2.St),a0.heap.objs.size<=D->a0.heap.objs.size<=C->D≠C->Inv (eV X N' scope C a0 H fp) [(D,lobj its n)] b1 H' s'->Vals ys its->Q ys H'->
   RR (.ref D) C (.ok .next) s') :
  wpAny (model X.prog X.w) X.A (newList []) (λacc b7=>wpAny (model X.prog X.w) X.A (newFunctionEnv scope X.env.globals (u9 scope X.env) [] X.env.qual none .none (some X.env)) (λb3 c0=>
   abm (model X.prog X.w) X.A (.compStart (.ListComp elt [⟨target,iter,ifs,0⟩] scope pos) 0 (.ref it) acc {b3 with scope:=relabel scope X.env}) (RR acc b3.locals) c0) E b7) E a0:=by
 refine ZC (wpAny_newFunctionEnv O.nocell (by intro y hy;simp at hy) (λa3 a2 a1=>?_) O.kind);dsimp only at a2 a1⊢;generalize b4:a0.heap.push {cls:=.type "list",dict:=none,data:=.seq ([]:List Value).toArray}=H2 at a2 a1⊢;have hC:H2.objs.size=a0.heap.objs.size+1:=by rw[←b4,aan]
 have a5:a0.heap.objs.size≠H2.objs.size:=by rw[hC];exact Yw (abd _)
 have a7:a0.heap.objs.size<=H2.objs.size:=by rw[hC];exact aeC _
 have b5:∀b o,a0.heap.get? b=some o->a3.get? b=some o:=λb o e=>a1.extBut b o (by rw[hC];exact Yw (aax (Yk e))) (X6 _ (b4▸X6 _ e));have c3:a3.get? a0.heap.objs.size=some (lobj [] 0):=a1.extBut _ _ a5 (X6 _ (b4▸Ym _ rfl));have b0:∀b∈fp,b<a0.heap.objs.size:=λb U=>by
  obtain⟨o,e,_⟩:=T.obj 0 _ st b U;exact Yk e
 have I1:=L_ (tk:=a0.toks+([]:List (Str×Value)).length) I O f2 b0 a7 (Nat.le_refl _) a5 b5 a2 c3 (λv z=>by cases z);have c4:tn 0 a3:=T.keep _ _ _ st λb _ o e=>b5 b o e;obtain⟨W,⟨m0,w0⟩,c2⟩:=cw;generalize hD:a0.heap.objs.size=D at *
 generalize c9:H2.objs.size=C at *
 have a8:∀{H':Hp}{o:Obj},(∀b∈fp,H' b=none)->∀b∈fp,mX (eV X N' scope C a0 H fp) [(D,o)] H' b:=λ{H' o} hn b U=>by
  refine⟨hn b U,Yw (Ys (b0 b U) a7),I1.ok.exfs b U,.inl U,(I1.ok.exf b U).2,λp hp=>?_⟩;have e:p=(D,o):=by simpa[eV]using hp
  subst e;exact ab5 (b0 b U)
 have b2:abm (model X.prog X.w) X.A (.compLoop (.ListComp elt [⟨target,iter,ifs,0⟩] scope pos) 0 (.ref it) (.ref D) (compEnvC scope (u9 scope X.env) C X.env)) (RR (.ref D) C) {a0 with heap:=a3,toks:=a0.toks+([]:List (Str×Value)).length}:=by
  refine zq (λn s'=>∃i ys its k H',Inv (eV X N' scope C a0 H fp) [(D,lobj its k)] (jf cap σ) H' s'/\Vals ys its/\tn i s'.heap/\(∀b∈fp,H' b=none)/\W i n ys H') ?_ m0 ⟨0,[],[],0,H,I1,.nil,c4,λb U=>(f2 b U).1,w0⟩;rintro n s3 ⟨i,ys,its,k,H3,I3,rv,c1,b9,w3⟩;rcases c2 i n ys H3 w3 with⟨stop,qn⟩|⟨go,hsz,N,hN,step⟩
  .refine thn (T.done (eV X N' scope C a0 H fp) rfl rfl rfl hc i _ s3 _ H3 NoX I3 (a8 b9) c1 stop) λr s4 ⟨Z,I4⟩=>?_
   subst Z;exact c7 D C s4 H3 ys its k _ (Nat.le_refl _) a7 a5 I4 rv qn
  .refine thn (T.item (eV X N' scope C a0 H fp) rfl rfl rfl hc i _ s3 _ H3 NoX I3 (a8 b9) c1 go) λr s4 ⟨u,Z,h4⟩=>?_
   subst Z;refine thn h4 λ_ s5 ⟨x,H5,I5,r5,y5,a4,c5⟩=>?_;have c6:=I5.pinned (a8 c5) (T.obj _ _ a4);refine thn (B C _ s5 _ H5 x u _ c6 r5 (step x H5 y5)) λ_ s6 ⟨a9,H6,I6,b6,q6⟩=>?_;refine thn (ht C _ s6 a9 H6 _ I6 q6) λok s7 ⟨H7,I7,q7⟩=>?_;have a6:∀{s':X4}{H':Hp}{b1:L2.St},Inv (eV X N' scope C a0 H fp) ([(D,lobj its k)]++qH fp s5.heap) b1 H' s'->tn (i+1) s'.heap/\∀b∈fp,H' b=none:=λ{s' H' b1} Ix=>by
    refine⟨T.keep _ _ _ a4 λb U o e=>(Ix.pin (b,o) (X7 _ (X7 _ (iC U e)))).1,λb U=>?_⟩;obtain⟨o,e,d⟩:=T.obj _ _ a4 b U;exact(Ix.pin (b,o) (X7 _ (X7 _ (iC U e)))).2.1
   have b8:(jf cap σ).length=a9.length:=by rw[I6.len,I1.len]
   cases ok with
   |false=>
    have n7:N ys H7:=by simpa using q7
    obtain⟨m',hm,w7⟩:=hN _ _ n7;exact⟨m',hm,i+1,ys,its,k,H7,I7.unpinned.weak b8 b6,rv,(a6 I7).1,(a6 I7).2,w7⟩
   |true=>
    have q7:te a9 H7 λv H4=>N (ys++[v]) H4:=by simpa using q7
    refine thn (Y C _ s7 a9 H7 _ I7 q7) λu8 s8 ⟨v,H8,I8,r8,n8⟩=>?_;obtain⟨eD,nD,_,c8,_⟩:=I8.pin (D,lobj its k) (X7 _ (Ye _ Zh));have lv:=rv.length;refine acL aef ⟨_,eD,rfl⟩ ad2 (adL _ _) (aew D its.toArray k u8 (by rw[List.size_toArray];omega)) ⟨eD,?_⟩;obtain⟨m',hm,w8⟩:=hN _ _ n8;obtain⟨k',eN⟩:∃k',(s8.heap.update D (abb (·.push u8))).get? D=some (lobj (its++[u8]) k'):=by
     have q:=aeJ eD (·.push u8);dsimp only at q;rw[List.push_toArray]at q;exact⟨_,q⟩
    have I9:Inv (eV X N' scope C a0 H fp) (qH fp s5.heap) a9 H8 {s8 with heap:=s8.heap.update D (abb (·.push u8))}:=by
     refine Inv.turned (it:=D) (t':=s8.toks) (I8.pins_of λp hp=>I8.pin p (X7 _ (X7 _ hp))) (λb o U e=>(Z9 s8.heap (abb _) (Zr U)).trans e) nD a5 (.inr (by rw[←hD];exact Nat.le_refl _)) (λx c e z=>?_) (λp hp z=>?_)
     .obtain⟨vc,oc,h1,_⟩:=I.cell x c (kj I O e)
      have hh:=Yk h1;rw[z,hD]at hh;exact Z_ _ hh
     .have hp:p∈qH fp s5.heap:=hp
      have hh:=b0 p.1 (xW hp).1;rw[z]at hh;exact Z_ _ hh
    refine⟨m',hm,i+1,ys++[v],its++[u8],k',H8,(I9.weak b8 b6).pins_of (λp hp=>?_),rv.append (.cons r8 .nil),?_,λb U=>?_,w8⟩
    .have e:p=(D,lobj (its++[u8]) k'):=List.mem_singleton.mp hp
     rw[e];exact⟨eN,nD,a5,c8,λv z=>by cases z⟩
    .exact T.keep _ _ _ a4 λb U o e=>(I9.pin (b,o) (X7 _ (iC U e))).1
    .obtain⟨o,e,d⟩:=T.obj _ _ a4 b U
     exact(I9.pin (b,o) (X7 _ (iC U e))).2.1
 exact codeAny_compStart_list b2 (T.self _ 0 _ _ _ c4 b2)
theorem Hr(B:X.xe=NoX)(F:X.calm=true)(O:dO X.env.scope X.N N' scope cap)(hi:PI X target iter wi)
  (hg:∀C V H fp,PG (eV X N' scope C V H fp) target g) (ht:∀C V H fp,PTs (eV X N' scope C V H fp) ifs tt) (Y:∀C V H fp,PE (eV X N' scope C V H fp) elt te)
  (hs:∀x,ZD iter X.env x=pure x:=by intro _;rfl):PE X (.ListComp elt [⟨target,iter,ifs,0⟩] scope pos) (Bk cap wi g tt te):=by
 intro pins s σ H Q I h;rw[eval_ListComp];refine acV (use:=none) rfl hs (pN λy hy hk=>I.ok.has y.1 (O.free y hy hk)) O.kind O.nm (thn (hi pins s σ H _ I h) λv Z h1=>thn h1 λa4 s2 h2=>?_);obtain⟨it,fp,tn,J,H2,e,I2,T,a1,f2,cw⟩:=h2;subst e;refine uZ (RR:=λacc C=>compPost (model X.prog X.w) X.A X.xe none (EP X pins σ Q) acc C) F O I2 T a1 f2 (λC=>hg C _ _ _) (λC=>ht C _ _ _) (λC=>Y C _ _ _) cw ?_;intro D C s' H' ys its n a6 hD hC a0 I' rv q;obtain⟨hz,q⟩:=q;obtain⟨m,a3,_⟩:=I'.loc;refine⟨m,a3,λh' sb=>?_⟩;obtain⟨eD,nD,_,a5,_⟩:=I'.pin (D,lobj its n) (X7 _ Zh);have a2:Inv X pins σ (upd H' D (.lst ys)) {s' with heap:=h'}:=by
  refine I2.call' (ch:=fp) I'.os ?_ ?_ I'.bare (λb U=>⟨(f2 b U).2.2.2.1,(f2 b U).2.1,(f2 b U).2.2.2.2.1,(f2 b U).2.2.2.2.2⟩)
  .have ne:∀b o,s2.heap.get? b=some o->b≠C/\b≠D:=λb o e=>⟨Yw (Ys (Yk e) hC),Yw (Ys (Yk e) hD)⟩
   refine⟨λb o e n U Y=>sb.extBut b o (ne b o e).1 (I'.base.keep b o e n U Y),λb o e n U Y=>?_,λb o e n Y=>?_,λb o e Y=>?_,λb xs e=>?_,λb o u e=>?_,λb ps e=>?_⟩
   .obtain⟨sl,e1⟩:=I'.base.slot b o e n U Y
    exact⟨sl,sb.extBut b _ (ne b o e).1 e1⟩
   .rw[aR (ne b o e).2]
    exact I'.base.free b o e n Y
   .obtain⟨o',e1⟩:=I'.base.there b o e Y
    exact⟨o',sb.extBut b _ (ne b o e).1 e1⟩
   .have e1:=I'.base.tups b xs e
    rw[aR (bJ e1 nD)];exact e1
   .have e1:=I'.base.frzs b o u e
    rw[aR (bJ e1 nD)];exact e1
   .obtain⟨more,e1⟩:=I'.base.tbls b ps e
    refine⟨more,?_⟩;rw[aR (bJ e1 nD)];exact e1
  .intro b u e
   by_cases U:b=D
   .subst U
    rw[aW]at e;cases e;exact⟨hz,its,n,rv,sb.extBut _ _ a0 eD⟩
   .rw[aR U]at e
    have nC:∀b u,H' b=some u->b≠C:=λb u e z=>by
     have hf:H' C=none:=I'.free;rw[z,hf]at e;cases e
    refine(I'.hok b u e).stay (λc v F q=>sb.extBut c v ?_ q) (λc q=>by rw[aR (bJ q nD)];exact q) λc xs q=>by rw[aR (bJ q nD)];exact q
    rcases F with z|z
    .rw[z]
     exact nC b u e
    .exact nC c _ z
 exact⟨.ref D,_,a2,rfl,q D nD⟩
end
theorem UV{x:V}{t:Value}(I:Inv X pins σ H s)(rx:RelV x u)(U:m5 X.K H x t):∃Hq,PySem.W.KitX X.K u t Hq/\Hq s.heap/\u≠.builtin "__main__.__loader__#opaque":=by
 cases U with
 |non=>cases (show u=aba from rx);exact⟨_,aet,Zn,λz=>nomatch z⟩
 |bl y=>cases (show u=acK y from rx);exact⟨_,aeu,Zn,λz=>nomatch z⟩
 |int i=>obtain⟨t,q⟩:=(show ∃t,u=acj i t from rx);cases q;exact⟨_,aeE,Zn,λz=>nomatch z⟩
 |str y=>obtain⟨t,q⟩:=(show ∃t,u=aa_ y t from rx);cases q;exact⟨_,aeF,Zn,λz=>nomatch z⟩
 |flt y=>obtain⟨t,q⟩:=(show ∃t,u=aeB y t from rx);cases q;exact⟨_,ad_,Zn,λz=>nomatch z⟩
 |@lst a xs F=>
  cases (show u=Y8 a from rx);obtain⟨_,_,n,_,h1⟩:=(show cN X.prog X.w H s.heap a (.lst xs)from I.hok a _ F);exact⟨_,abF,⟨_,h1,rfl⟩,λz=>nomatch z⟩
 |@frz a ob xs F=>
  cases (show u=Y8 a from rx);obtain⟨_,_,_,n,_,h1⟩:=(show cN X.prog X.w H s.heap a (.frz ob (.lst xs))from I.hok a _ F);exact⟨_,abF,⟨_,h1,rfl⟩,λz=>nomatch z⟩
 |@tup a xs F=>
  cases (show u=Y8 a from rx);obtain⟨_,_,_,p⟩:=(show cN X.prog X.w H s.heap a (.tup xs)from I.hok a _ F);obtain⟨o,h1,h2,_⟩:=p;exact⟨_,aea,⟨o,h1,h2⟩,λz=>nomatch z⟩
 |@dK a kvs F=>
  cases (show u=Y8 a from rx);obtain⟨_,_,B,_,p⟩:=(show cN X.prog X.w H s.heap a (.dK kvs)from I.hok a _ F);obtain⟨o,es,ep,h1,h2,_⟩:=p;exact⟨_,abG,⟨o,h1,h2.1⟩,λz=>nomatch z⟩
 |@dT a kvs F=>
  cases (show u=Y8 a from rx);obtain⟨_,_,xs,_,o,es,ep,h1,h2,_⟩:=(show cN X.prog X.w H s.heap a (.dT kvs)from I.hok a _ F);exact⟨_,abG,⟨o,h1,h2.1⟩,λz=>nomatch z⟩
 |@ins a C dx fs F cl Y hn Z hm=>
  cases (show u=Y8 a from rx);obtain⟨D,O,_⟩:=Gy I.hok F;obtain⟨od,J,_⟩:=O.look;exact⟨_,aeG (cl.get _) cl.hd Y hn Z hm,J,λz=>nomatch z⟩
theorem G6:∀{z:List String}{us:List Value},Vals (z.map V.ty) us->us=z.map aaB
 |[],_,.nil=>rfl
 |t::r,_,.cons h q=>by cases (show _=aaB t from h);rw[G6 q];rfl
theorem Ac:gQ X (.builtin "isinstance") (λxs H Q=>∃x B z t b,xs=[x,.ref B]/\H B=some (.tup (List.map V.ty z))/\m5 X.K H x t/\ace X.K t (z.map aaB)=some b/\Q (.bl b) H):=by
 intro pins s σ H xs us Q I r h;obtain⟨x,B,z,t,b,rfl,a0,U,e,q⟩:=h;obtain⟨u,Y,rfl,F,O⟩:=vals2 r;cases O;obtain⟨J,Z,hz,hn⟩:=UV I F U;obtain⟨_,its,rv,o,h1,h2,n,h3,_⟩:=(show cN X.prog X.w H s.heap B (.tup (z.map V.ty))from I.hok B _ a0);rw[G6 rv]at h3;obtain⟨cls,D,data,sl⟩:=o;cases h2;cases h3;exact PySem.W.kia_tup Z I.kIn hz h1 e hn λtk=>⟨.bl b,H,I.tok tk,rfl,q⟩
theorem yp:∀(tk:Nat)(l:List Str),Vals (l.map V.str) (strsFrom tk l)
 |_,[]=>.nil
 |tk,x::r=>.cons ⟨_,rfl⟩ (yp (tk+1) r)
def Ud:V->List V->Hp->VK->Prop:=λx B H Q=>∃(a b:Str)(l:List Str),x= .str a/\B=[.str b]/\(decide (a.length<b.length)||decide (abq a<abq b))=false/\(b.length==0)=false/\
 (Zd a b 0 a.length (a.length+1)).isEmpty=false/\a.length<=Yc/\aby a (Zd a b 0 a.length (a.length+1)) b.length=l/\l.length<=Yc/\
 ∀p,H p=none->Q (.ref p) (upd H p (.lst (l.map V.str)))
theorem JP:MtR X "str.split" Ud:=by
 intro pins s σ H x B v us Q I rx O h;obtain⟨a,b,l,rfl,rfl,U,V,z,J,rfl,D,q⟩:=h;obtain⟨t,rfl⟩:=rx;obtain⟨u,rfl,t',rfl⟩:=O.one;refine acL F.slot_str_split (typeIs_str s a t) F.entry_str_split (F.args_str_split_2 _ _) (meets_str_split_sep a b t t' U V z J D) ?_;exact⟨.ref s.heap.objs.size,_,I.lnew (yp _ _) (by rw[X_];exact D),rfl,q _ I.fresh⟩
set_option genSizeOf true in
inductive Dt where
 |non|bl (b:Bool)|int (i:Int)|str (x:Str)|lst (ds:List Dt)|tup (ds:List Dt)
mutual
noncomputable def eqD:Dt->Dt->Bool
 |.non,.non=>true
 |.bl a,.bl b=>a==b
 |.int a,.int b=>a==b
 |.bl a,.int b=>(if a then 1 else 0)==b
 |.int a,.bl b=>a==(if b then 1 else 0)
 |.str a,.str b=>a==b
 |.lst a,.lst b=>eqL a b
 |.tup a,.tup b=>eqL a b
 |_,_=>false
noncomputable def eqL:List Dt->List Dt->Bool
 |[],[]=>true
 |a::r,b::q=>eqD a b&&eqL r q
 |_,_=>false
end
mutual
noncomputable def Brs(K:Yb)(H:Hp):Dt->V->Prop
 |.non,v=>v= .non
 |.bl b,v=>v= .bl b
 |.int i,v=>v= .int i
 |.str x,v=>v= .str x
 |.lst ds,v=>∃a xs,v= .ref a/\SqL K H a xs/\je K H ds xs
 |.tup ds,v=>∃a xs,v= .ref a/\SqT K H a xs/\je K H ds xs
noncomputable def je(K:Yb)(H:Hp):List Dt->List V->Prop
 |[],xs=>xs=[]
 |d::r,xs=>∃x ys,xs=x::ys/\Brs K H d x/\je K H r ys
end
theorem je.length{K:Yb}:∀{ds:List Dt}{xs:List V},je K H ds xs->ds.length=xs.length
 |[],xs,h=>by
  have h:xs=[]:=by simpa[je]using h
  rw[h];rfl
 |d::r,xs,h=>by
  obtain⟨x,ys,rfl,_,h⟩:=(by simpa[je]using h:∃x ys,xs=x::ys/\Brs K H d x/\je K H r ys);simp[je.length h]
theorem Aw:∀{ds es:List Dt},ds.length≠es.length->eqL ds es=false
 |[],[],h=>absurd rfl h
 |[],_::_,_=>by simp[eqL]
 |_::_,[],_=>by simp[eqL]
 |d::r,e::q,h=>by
  have:r.length≠q.length:=by simpa using h
  simp[eqL,Aw this]
def eqJ(ds es:List Dt)(j:Nat):Bool:=eqD (ds.getD j .non) (es.getD j .non)
theorem yx:∀{ds es:List Dt},ds.length=es.length->(Y9 ds.length).all (eqJ ds es)=eqL ds es
 |[],[],_=>by simp[eqL]
 |[],_::_,h=>by simp at h
 |_::_,[],h=>by simp at h
 |d::r,e::q,h=>by
  have h':r.length=q.length:=by simpa using h
  have J:=yx h';rw[Yd,aaX,abk,abz,eqL];congr 1
theorem uw{vl D B:Value}{lo hi st:Option Int}{Q:Int×Int×Nat->X4->Prop}(O:s.heap.IsSliceOf sl vl D B)(pl:aa4 vl lo)(Z:aa4 D hi)(ps:aa4 B st)(z:st.getD 1≠0)
  (h:Q ((Y6 lo hi (st.getD 1) (n:Int)).1,st.getD 1,YS (Y6 lo hi (st.getD 1) (n:Int)).1 (Y6 lo hi (st.getD 1) (n:Int)).2 (st.getD 1)) s) :
  wpAny (model prog w) A (aav (.ref sl) (pure (n:Int))) Q E s:=by
 obtain⟨os,Y,F,q⟩:=id O;unfold aav;refine X3 (X3 (aap Y q (x:=vl) rfl (X3 (aap Y q (x:=D) rfl (X3 (aap Y q (x:=B) rfl (Yg ?_)))))));refine X3 (HT.slicePart_ ps ?_);have h1:(st.getD 1==0)=false:=by simpa using z
 simp![h1,Zb,aaa,pure_bind];exact X3 (HT.slicePart_ pl (X3 (HT.slicePart_ Z (Yg h))))
def nG(xs:List α)(l st:Int)(k:Nat):List α:=(Y9 k).filterMap λ(m:Nat)=>xs[(l+(m:Int)*st).toNat]?
theorem ji{t:Addr}{items:List Value}{vl D B:Value}{lo hi st:Option Int}(U:IsTup s.heap t items.toArray)(O:s.heap.IsSliceOf sl vl D B)(pl:aa4 vl lo)(Z:aa4 D hi)(ps:aa4 B st)(z:st.getD 1≠0)
  {l h':Int} (ea:Y6 lo hi (st.getD 1) (items.length:Int)=(l,h'))  (ek:YS l h' (st.getD 1)=k)
  (V:(l=0/\st.getD 1=1/\k=items.length)->Q (.ref t) s)
  (I:¬(l=0/\st.getD 1=1/\k=items.length)->Q (.ref s.heap.objs.size) {s with heap:=s.heap.push {cls:=.type "tuple",data:=.seq (nG items l (st.getD 1) k).toArray}})
  (hsz:(nG items l (st.getD 1) k).length<=Yc):wpAny (model prog w) A (acd (.ref t) (.ref sl)) Q E s:=by
 have J:sizeOk (.seq (nG items l (st.getD 1) k).toArray):=by
  show(nG items l (st.getD 1) k).toArray.size<=Yc;rw[List.size_toArray];exact hsz
 obtain⟨os,Y,a1,q⟩:=id O;have a0:s.TypeIs (.ref sl) "slice":=⟨os,Y,a1⟩;unfold acd
 try with_reducible refine ZF ?_
 first|refine X3 (Yg ?_)|skip
 refine X3 (wpAny_sequenceKey U.typeIs (by decide) ?_);refine X3 (aaN (name:=Z8 "__getitem__") U.typeIs Y7
  (aaI Y7 U.typeIs ad1 ?_ (args_tuple_getitem _ _)))
 show wpAny _ _ (acy (.ref t) >>=_) _ _ s;refine X3 (tupleItemsOf_ U ?_);refine X3 (abx a0 ?_);rw[Yi (by decide)];rw[List.size_toArray];refine X3 (uw O pl Z ps z ?_);rw[ea,ek];dsimp only;by_cases F:(l=0/\st.getD 1=1/\k=items.length)
 .rw[Yi (by simp[F])]
  refine X3 ?_;unfold Builtin.Tuple.tupleIsExact;refine X3 (abx U.typeIs (Yg ?_));rw[Yi (by decide)];exact X3 (ab4 (Yg ⟨_,rfl,Yg (V F)⟩))
 .rw[YB (by simpa using F)]
  have e:(List.filterMap (λ(k:Nat)=>items.toArray[(l+(k:Int)*st.getD 1).toNat]?) (Y9 k)).toArray=(nG items l (st.getD 1) k).toArray:=by
   unfold nG;simp
  rw[e];exact X3 (m:=aae _) (ZC (Yg ⟨_,rfl,Yg (I F)⟩) J)
theorem wu(xs:List α)(l st:Int)(k:Nat):(nG xs l st k).length<=k:=by
 unfold nG;have:=List.length_filterMap_le (λ(m:Nat)=>xs[(l+(m:Int)*st).toNat]?) (Y9 k);rw[List.length_range]at this;exact this
theorem Lr(xs:List α):nG xs ((xs.length:Int)-1) (-1) xs.length=xs.reverse:=by
 unfold nG;apply aay;intro j;have V:∀n,n<=xs.length->(Y9 n).filterMap (λ(m:Nat)=>xs[((xs.length:Int)-1+(m:Int)* -1).toNat]?)=(xs.reverse).take n:=by
  intro n
  induction n with
  |zero=>intro _;simp
  |succ n J=>
   intro I;rw[List.range_succ,List.filterMap_append,J (by omega),List.take_add_one];congr 1;have e1:((xs.length:Int)-1+(n:Int)* -1).toNat=xs.length-1-n:=by omega
   rw[adx (by omega)];simp![abo,List.filterMap_nil,e1];rw[X5 (by omega)]
   try rfl
 rw[V xs.length (Nat.le_refl _),Zq (by simp)]
def WF(K:Yb):V->Option Int->Option Int->Hp->VK->Prop:=λx lo hi H Q=>∃a xs,x= .ref a/\SqT K H a xs/\(vP xs lo hi=xs->Q (.ref a) H)/\∀p,H p=none->Q (.ref p) (upd H p (.tup (vP xs lo hi)))
theorem SM:SlR X (WF X.K):=by
 intro pins s σ H x v vl D lo hi sl Q I rx O pl Z h;obtain⟨a,xs,rfl,B,q1,q2⟩:=h;by_cases V:(HT.sIx xs.length 0 lo=0/\HT.sIx xs.length xs.length hi=xs.length)
 .have rx0:=rx
  cases rx;obtain⟨its,r,U,hz⟩:=I.tuple B;have z:=r.length;refine⟨"tuple",_,Y7.lookup,U.typeIs,?_⟩;have e1:Y6 lo hi ((none:Option Int).getD 1) (its.length:Int)=(((0:Nat):Int),((xs.length:Nat):Int)):=by
   have e1:=HT.adjust_gen lo hi its.length;rw[←z,V.1,V.2]at e1;rw[←z];exact e1
  refine ji (items:=its) (st:=none) U O pl Z .none (by decide) e1 rfl (λ_=>?_) (λF=>?_) ?_
  .refine⟨.ref a,H,I,rfl,q1 ?_⟩
   unfold vP;rw[V.1,V.2];simp
  .refine absurd ⟨rfl,rfl,?_⟩ F
   show YS ((0:Nat):Int) ((xs.length:Nat):Int) 1=its.length;rw[HT.places_gen];omega
  .refine Y4 (wu _ _ _ _) ?_
   show YS ((0:Nat):Int) ((xs.length:Nat):Int) 1<=Yc;rw[HT.places_gen];omega
 .exact S7 pins s σ H _ v vl D lo hi sl Q I rx O pl Z ⟨a,xs,rfl,B,V,q2⟩
def WQ(K:Yb):R2:=λx y H Q=>∃a xs,x= .ref a/\SqT K H a xs/\((y= .int 1/\Q (.ref a) H)∨(y= .int (-1)/\∀p,H p=none->Q (.ref p) (upd H p (.tup xs.reverse))))
def Lf(K:Yb):R2:=λx y H Q=>∃a b xs ys,x= .ref a/\y= .ref b/\SqT K H a xs/\SqT K H b ys/\xs.length+ys.length<=Yc/\
 (xs=[]->Q (.ref b) H)/\(xs≠[]->ys=[]->Q (.ref a) H)/\(xs≠[]->ys≠[]->∀p,H p=none->Q (.ref p) (upd H p (.tup (xs++ys))))
theorem LQ:OpR X (ZK .Add) (Lf X.K):=by
 intro pins s σ H x y v u Q I rx ry h;obtain⟨a,b,xs,ys,rfl,rfl,Y,U,hz,q0,q1,q2⟩:=h;by_cases B:xs=[]
 .cases rx
  cases ry;obtain⟨its,r1,p1,_⟩:=I.tuple Y;obtain⟨a1,O,p2,_⟩:=I.tuple U;obtain⟨⟨cls,D,data,sl⟩,J,hc,n,hd⟩:=id p1;obtain⟨⟨a4,q,a3,V⟩,a2,z,Z,a0⟩:=id p2;simp only at hc hd z a0;subst hc hd z a0;exact aec ⟨_,J,rfl⟩ ⟨_,a2,rfl⟩ acS adU abK abE (abw _ _)
   (tuple_addW0 a b its.toArray a1.toArray n Z D q sl V (by rw[r1.nil_iff.mpr B];rfl)) ⟨J,a2,⟨.ref b,H,I,rfl,q0 B⟩⟩
 .exact QK pins s σ H _ _ v u Q I rx ry ⟨a,b,xs,ys,rfl,rfl,Y,U,B,hz,q1 B,q2 B⟩
theorem M5{p:Addr}{o:HO}(I:Inv X pins σ H s)(Y:∀b∈fp,mX X pins H b)(keep:∀b u,b∉fp->s.heap.get? b=some u->h'.get? b=some u)(O:s.heap.objs.size<=p)
  (new:cN X.prog X.w (upd H p o) h' p o):Inv X pins σ (upd H p o) {s with heap:=h',toks:=t'}:=by
 have J:H p=none:=I.hok.fresh O;have D:∀b u,H b=some u->b∉fp:=λb u e U=>by rw[(Y b U).1]at e;cases e
 have B:∀b u,s.heap.get? b=some u->b≠p:=λb u e=>Yw (Ys (Yk e) O);refine I.step (g':=s.gens) (d':=s.drawn) (ch:=fp) (λb U=>⟨(Y b U).2.2.2.1,(Y b U).2.1,(Y b U).2.2.2.2.1,(Y b U).2.2.2.2.2⟩) (λb u _ _ F e _=>keep b u F e) (λb u _ _ F e _=>⟨u.slots,keep b u F e⟩)
  (λb u _ e n=>by rw[aR (B b u e)];exact n) (λb u F e=>⟨u,keep b u F e⟩) (λb xs e=>by rw[aR (bJ e J)];exact e) (λb ob u e=>by rw[aR (bJ e J)];exact e)
  (λb ps e=>⟨#[],by rw[aR (bJ e J),e];simp⟩) (λm V=>?_) (λb u e=>?_) I.bare
 .obtain⟨ob,es,ep,ho,r⟩:=V
  exact⟨ob,es,ep,keep _ ob (λz=>(Y _ z).2.1 rfl) ho,r⟩
 .by_cases U:b=p
  .subst U
   rw[aW]at e;cases e;exact new
  .rw[aR U]at e
   refine(I.hok b u e).stay (λc v F q=>keep c v ?_ q) (λc q=>by rw[aR (bJ q J)];exact q) λc xs q=>by rw[aR (bJ q J)];exact q
   rcases F with z|z
   .rw[z]
    exact D b u e
   .exact D c _ z
theorem sX(I:Inv X pins σ H s)(Y:∀b∈fp,mX X pins H b)(keep:∀b u,b∉fp->s.heap.get? b=some u->h'.get? b=some u):Inv X pins σ H {s with heap:=h',toks:=t'}:=by
 have D:∀b u,H b=some u->b∉fp:=λb u e U=>by rw[(Y b U).1]at e;cases e
 refine I.step (g':=s.gens) (d':=s.drawn) (ch:=fp) (λb U=>⟨(Y b U).2.2.2.1,(Y b U).2.1,(Y b U).2.2.2.2.1,(Y b U).2.2.2.2.2⟩) (λb u _ _ F e _=>keep b u F e) (λb u _ _ F e _=>⟨u.slots,keep b u F e⟩)
  (λb u _ e n=>n) (λb u F e=>⟨u,keep b u F e⟩) (λb xs e=>e) (λb ob u e=>e) (λb ps e=>⟨#[],by rw[e];simp⟩) (λm V=>?_) (λb u e=>?_) I.bare
 .obtain⟨ob,es,ep,ho,r⟩:=V
  exact⟨ob,es,ep,keep _ ob (λz=>(Y _ z).2.1 rfl) ho,r⟩
 .refine(I.hok b u e).stay (λc v F q=>keep c v ?_ q) (λc q=>q) λc xs q=>q
  rcases F with z|z
  .rw[z]
   exact D b u e
  .exact D c _ z
def Ite(K:Yb)(a:Addr):It:=
 ⟨λi H=>∃xs x,SqL K H a xs/\xs[i]? =some x,λi H x H'=>∃p v,H p=none/\x= .ref p/\(∀xs,SqL K H a xs->xs[i]? =some v)/\H'=upd H p (.tup [.int i,v]),λi H=>∃xs,SqL K H a xs/\xs.length<=i⟩
theorem Ie{P:Yu}{K:Yb}{x1}(a e it:Addr)(a3:e≠it) :
  Turn P w K (.Tuple elts x1 pos) (Ite K a) [e,it] e (λi h=>(∃a0,IsEnum h e it (i:Int) a0)/\h.IsListIter it a i)where
 mem:=by simp
 obj:=λi h st b U=>by
  obtain⟨⟨a0,Y⟩,o,J,c,d⟩:=st;rcases Yj.mp U with z|z
  .subst z
   exact⟨_,Y,λv z=>by cases z⟩
  .have z:b=it:=by simpa using z
   subst z;exact⟨o,J,λv z=>by rw[d]at z;cases z⟩
 keep:=λi h h' st k=>by
  obtain⟨⟨a0,Y⟩,a1⟩:=st;exact⟨⟨a0,k e (by simp) _ Y⟩,a1.at λo q=>k it (by simp) o q⟩
 item:=by
  intro X hP V hK F i pins s σ H E I hf st hg;subst hP V hK;obtain⟨xs,x,D,B⟩:=hg;obtain⟨its,O,p,hz⟩:=I.list D;obtain⟨u,hu,ru⟩:=O.get B;obtain⟨⟨a0,Y⟩,a1⟩:=st;refine wpAny_pyNext_enum_item Y a1 p.isList (x:=u) (by simpa using hu) a3 λh1 a6 a4 b0 b1 k1=>?_;refine⟨.ref s.heap.objs.size,rfl,wpAny_letOwnedTupleGo_enum a6 λh2 a7 a2=>?_⟩;have a9:e<s.heap.objs.size:=Yk Y;have a5:s.heap.objs.size≠e:=ab5 a9;have a8:h2.get? s.heap.objs.size=some {cls:=.type "tuple",data:=.seq #[.int i s.toks,u]}:=a2.extBut _ _ a5 b0;have I2:Inv X pins σ (upd H s.heap.objs.size (.tup [.int i,x])) {s with heap:=h2,toks:=s.toks+1}:=by
   refine M5 (fp:=[e,it]) (t':=s.toks+1) I hf (λb o U q=>?_) (Nat.le_refl _) ?_
   .have n1:b≠e:=λz=>U (by simp[z])
    have n2:b≠it:=λz=>U (by simp[z]);exact a2.extBut b o n1 (k1 b o n1 n2 q)
   .exact⟨by show 2<=Yc;decide,[.int i s.toks,u],.cons ⟨_,rfl⟩ (.cons ru .nil),_,a8,rfl,_,rfl,rfl⟩
  refine⟨.ref s.heap.objs.size,upd H s.heap.objs.size (.tup [.int i,x]),I2,rfl,⟨_,x,I.hok.fresh (Nat.le_refl _),rfl,λys hy=>by rw[I.list_inj hy D];exact B,rfl⟩,?_,λb U=>?_⟩
  .refine⟨⟨u,?_⟩,a4.extBut a2.extBut (Zr a3)⟩
   have e1:(((i+1:Nat)):Int)=(i:Int)+1:=by omega
   rw[e1];exact a7
  .rw[aR]
   .exact(hf b U).1
   .intro z
    rw[z]at U;rcases Yj.mp U with q|q
    .exact a5 q
    .have q:s.heap.objs.size=it:=by simpa using q
     obtain⟨o,J,_⟩:=a1;exact absurd (Yk J) (by rw[q];exact Z_ _)
 done:=by
  intro X hP V hK F i pins s σ H E I hf st hg;subst hP V hK;obtain⟨xs,D,B⟩:=hg;obtain⟨its,O,p,hz⟩:=I.list D;obtain⟨⟨a0,Y⟩,a1⟩:=st;have Z:=O.length;refine wpAny_pyNext_enum_end (I.ok.hd F) Y a1 p.isList (by simp;omega) λh1 eb=>⟨rfl,?_⟩;exact sX (fp:=[e,it]) (t':=s.toks) I hf λb o U q=>eb b o (λz=>U (by simp[z])) q
 self:=λA i s Q E st h=>by
  obtain⟨⟨a0,Y⟩,_⟩:=st;exact wpAny_pyIter_enum Y h
def Rq(K:Yb)(ta:TA):TI:=λσ H R=>ta σ H λB H1=>∃a,B=[.ref a]/\(∃xs,SqL K H1 a xs)/\R (Ite K a) H1
theorem Px{a:Expr}{ta:TA}{x1}(hg:Gl X "enumerate")(V:X.mg "enumerate"=none)(Y:PA X [a] ta)(O:Yh [a] X.env=[(false,eval a X.env)]:=by rfl):PI X (.Tuple elts x1 tpos) (.Call (.Name "enumerate" p) [a] [] pos) (Rq X.K ta):=by
 intro pins s σ H R I h;refine Call_ (nR I hg V boot_enumerate (Z5 (thn (Y pos pins s σ H _ I h) λus Z ⟨B,H1,J,F,q1⟩=>?_) O rfl));obtain⟨l,e,⟨xs,D⟩,q⟩:=q1;subst e;obtain⟨u,rfl,ru⟩:=vals1 F;cases ru;obtain⟨its,rv,pl,hz⟩:=J.list D;refine call_enumerate_list pl.isList λh1 he a1 hsz k1=>?_;have I2:Inv X pins σ H1 {Z with heap:=h1}:=J.kept (t':=Z.toks) k1;refine wpAny_pyIter_enum he ?_;refine⟨Z.heap.objs.size+1,[Z.heap.objs.size+1,Z.heap.objs.size],_,_,H1,rfl,I2,Ie l _ _ (Nat.succ_ne_self _),⟨⟨_,he⟩,a1⟩,λb U=>?_,q⟩;have a0:Z.heap.objs.size<=b:=by
  rcases Yj.mp U with z|z
  .rw[z];exact aeC _
  .have z:b=Z.heap.objs.size:=by simpa using z
   rw[z];exact Nat.le_refl _
 exact J.fpOk a0 (J.hok.fresh a0)
end Jb
namespace PySem
theorem F.first_AttributeError:((Manifest.find? "AttributeError").elim false λt=>t.mro.contains "StopIteration"||t.mro.contains "SystemExit")=false:=by decide +kernel
theorem F.sub_AttributeError:isSubtype (.type "AttributeError") (.type "AttributeError")=pure true:=by rw[aa7];kernel_rfl
section
variable{prog:Program}{w:World}{A:Around}{E:Value->Shared->Prop}
theorem uJ{α:Type}{o:Value}{name a0:Str}{Q:α->X4->Prop}{h:Heap}{g:Array GenState}{d:Drawn}{t:Nat}{os:OsState}(U:A.handled=none)(V:a0.length<=Yc)
  (D:∀h' tk e,(∀b u,h.get? b=some u->h'.get? b=some u)->(∃oe,h'.get? e=some oe/\oe.cls= .type "AttributeError")->E (.ref e) ⟨h',g,d,tk,os⟩):wpAny (model prog w) A (raiseAttrError o name a0:Sem α) Q E ⟨h,g,d,t,os⟩:=by
 unfold raiseAttrError;refine X3 (wpAny_mkStr (X3 ?_) V);unfold newExc newTuple;refine X3 (ZC ?_);refine X3 (m:=firstArgMember _ _) (adl (a:=aba) (by simp![firstArgMember,F.first_AttributeError];rfl) ?_);refine ZC ?_;refine X3 (wpAny_mkText (X3 ?_));dsimp only;generalize a1:h.push {cls:=.type "tuple",dict:=none,data:=.seq [aa_ a0 t].toArray}=H1;generalize Z:({cls:=.type "AttributeError",dict:=none,data:=.fields (#[.ref h.objs.size,.none,.none,.none,.bool false,.none]++ownMembersOf (.type "AttributeError") [aa_ a0 t])}:Obj)=ob;have Y:(H1.push ob).get? H1.objs.size=some ob:=Ym _ (by subst Z;rfl);have hT:(⟨H1.push ob,g,d,t+1+1,os⟩:X4).TypeIs (.ref H1.objs.size) "AttributeError":=⟨_,Y,by subst Z;rfl⟩;have I:=F.sub_AttributeError;have J:∀b u,h.get? b=some u->(H1.push ob).get? b=some u:=λb u e=>X6 _ (a1▸X6 _ e);have O:ob.cls= .type "AttributeError":=by subst Z;rfl
 obtain⟨B,q,a2,a3⟩:∃B,ob.data= .fields B/\B[6]? =some unsetMember/\B[7]? =some unsetMember:=by subst Z;exact⟨_,rfl,rfl,rfl⟩
 unfold noteAttr;dsimp only;refine X3 ?_;unfold lacksNameAndObj;refine X3 (abS hT I ?_);simp![acA,Zb,aaa];refine X3 (adG Y ?_);rw[q];dsimp only;rw[a2,a3];show wpAny (model prog w) A (pure true) _ _ _;refine Yg ?_;rw[Yi rfl];refine X3 (ab4 (X3 (abx hT ?_)));dsimp only;unfold layMembers;refine X3 (adG Y ?_);rw[q];dsimp only;refine wpAny_update Y ?_;unfold raiseNew;refine X3 (wpAny_handled ?_);rw[U];dsimp only;have z:h.objs.size<H1.objs.size:=by rw[←a1,aan];exact abd _
 refine adm (D _ _ _ (λb u e=>?_) ⟨_,aa5 _ Y (Obj.isFreed_of_fields (Obj.data_mapFields q _)),(Obj.cls_mapFields ..).trans O⟩);exact(Z9 (H1.push ob) _ (Zr (Yw (Nat.lt_trans (Yk e) z)))).trans (J b u e)
theorem F.lk_list_keys:adH (.type "list") "keys"=pure none:=by rw[aaS,aab];kernel_rfl
theorem F.lk_list_getattr:adH (.type "list") "__getattr__"=pure none:=by rw[aaS,aab];kernel_rfl
variable{h:Heap}{g:Array GenState}{d:Drawn}{t:Nat}{os:OsState}{a:Addr}{items:Array Value}{n:Nat}
def Fq(E:Value->X4->Prop)(h:Heap)(g:Array GenState)(d:Drawn)(os:OsState):Prop:=∀h' tk e,(∀b u,h.get? b=some u->h'.get? b=some u)->(∃O,h'.get? e=some O/\O.cls= .type "AttributeError")->E (.ref e) ⟨h',g,d,tk,os⟩
theorem uF{tk:Tok}{Q:Fin->X4->Prop}(U:A.handled=none)(B:h.get? a=some {cls:=.type "list",data:=.seq items n})(D:Fq E h g d os) :
  wpAny (model prog w) A (Builtin.«object.__getattribute__» ⟨[.ref a,.str "keys" tk],[]⟩) Q E ⟨h,g,d,t,os⟩:=by
 have I:(⟨h,g,d,t,os⟩:X4).TypeIs (.ref a) "list":=⟨_,B,rfl⟩;have O:=F.lk_list_keys
 repeat(any_goals(first|assumption|wp_step))
 exact uJ U (by decide +kernel) D
theorem vZ{tk:Tok}{R:Result->X4->Prop}(U:A.handled=none)(B:h.get? a=some {cls:=.type "list",data:=.seq items n})(D:Fq (λe s=>R (.error e) s) h g d os) :
  abm (model prog w) A (.call (.builtin "list.__getattribute__") ⟨[.ref a,.str "keys" tk],[]⟩) R ⟨h,g,d,t,os⟩:=
 ab9 aaJ.plain F.entry_list_ga (aaJ.check _ _ _ _ _ _ _ _ (show(⟨h,g,d,t,os⟩:X4).TypeIs (.ref a) "list" from⟨_,B,rfl⟩) (F.args_list_getattribute_2 _ _) (uF U B D))
theorem Ao{tk:Tok}{Q:Value->X4->Prop}(U:A.handled=none)(B:h.get? a=some {cls:=.type "list",data:=.seq items n})(D:Fq E h g d os):wpAny (model prog w) A (getAttrBy (.ref a) (.str "keys" tk) false) Q E ⟨h,g,d,t,os⟩:=by
 have I:(⟨h,g,d,t,os⟩:X4).TypeIs (.ref a) "list":=⟨_,B,rfl⟩;have J:=aaJ.lookup;have Z:=aaJ.bind (.ref a)
 repeat(any_goals(first|assumption|wp_step))
 refine vZ U B λh' q e a0 Y=>?_;obtain⟨O,a1,z⟩:=id Y;have V:(⟨h',g,d,q,os⟩:X4).TypeIs (.ref e) "AttributeError":=⟨O,a1,z⟩;dsimp only;unfold getattributeRaised;refine X3 (abS V F.sub_AttributeError ?_);rw[Yi rfl];refine X3 (adl (show hookBehind (.type "list") none=pure none from F.lk_list_getattr) ?_);show wpAny (model prog w) A (adN (.ref a) (.str "keys" tk) (.ref e) false false) Q E ⟨h',g,d,q,os⟩;unfold adN;dsimp only;rw[Yi (show(!false)=true from rfl)]
 first|exact adm (D h' q e a0 Y)|exact X3 (adm (D h' q e a0 Y))
theorem vX{Q:Option Value->X4->Prop}(U:A.handled=none)(B:h.get? a=some {cls:=.type "list",data:=.seq items n})
  (D:∀h' tk,(∀b u,h.get? b=some u->h'.get? b=some u)->Q none ⟨h',g,d,tk,os⟩):wpAny (model prog w) A (getAttr? (.ref a) "keys") Q E ⟨h,g,d,t,os⟩:=by
 unfold getAttr? getAttrBy?;refine X3 (wpAny_mkText (X3 (acB (Ao U B λh' q e J Y=>?_))));obtain⟨O,I,z⟩:=id Y;have V:(⟨h',g,d,q,os⟩:X4).TypeIs (.ref e) "AttributeError":=⟨O,I,z⟩;dsimp only;refine X3 (abS V F.sub_AttributeError ?_);rw[Yi rfl];exact Yg (D h' q J)
end
namespace F
theorem entry_dict_update_loop:entryFor table "dict.update.loop"=some Builtin.«dict.update.loop»:=entryFor_of_tree (by kernel_rfl)
theorem plain_dict_update_loop:plainId "dict.update.loop"=true:=by decide +kernel
end F
end PySem
namespace Jb
open PySem PySem.Spec PyProof.Rows L2
def putAll(kvs:List (Key×V))(prs:List (Key×V)):List (Key×V):=prs.foldl (λacc kv=>putK acc kv.1 kv.2) kvs
theorem vV:∀(prs kvs:List (Key×V)),(putAll kvs prs).length<=kvs.length+prs.length
 |[],kvs=>by simp[putAll]
 |p::r,kvs=>by
  have h1:=vV r (putK kvs p.1 p.2);have h2:=gW kvs p.1 p.2;have e:putAll kvs (p::r)=putAll (putK kvs p.1 p.2) r:=rfl;rw[e,Yd];omega
variable{X:Cx}{σ:L2.St}{xs:List V}{prs:List (Key×V)}
theorem JM{D l:Addr}(hh:A.handled=none)(a5:prs.length=xs.length):∀(m i:Nat)(kvs:List (Key×V))(H:Hp)(s:X4),xs.length-i=m->i<=xs.length->
  Inv X pins σ H s->H D=some (.dK kvs)->SqL X.K H l xs->mX X pins H it->s.heap.IsListIter it l i->(∀(j:Nat)(k:Key)(v:V),prs[j]? =some (k,v)->∃p:Addr,xs[j]? =some (V.ref p)/\H p=some (.tup [kV k,v]))->kvs.length+m<=100000->
  (∀s',Inv X pins σ (upd H D (.dK (putAll kvs (prs.drop i)))) s'->R (.ok (.ret .none)) s')->abm (model X.prog X.w) A (.builtin "dict.update.loop" ⟨[.ref D,.ref it,adt i,.none],[]⟩) R s:=by
 intro m
 induction m with
 |zero=>
  intro i kvs H s hm hi I hD hq hf a0 O hz k;have e:i=xs.length:=by omega
  subst e;obtain⟨its,rv,p,_⟩:=I.list hq;have Z:=rv.length;refine ZZ F.entry_dict_update_loop ?_;rw[ZL F.plain_dict_update_loop _];unfold Builtin.«dict.update.loop»;dsimp only;refine X3 (abW (show A.in1.handled=none from hh) a0 p.isList (by simp;omega) λh' eb=>?_);dsimp only;have J:Inv X pins σ H {s with heap:=h'}:=sX (fp:=[it]) (t':=s.toks) I (λb U=>by rw[List.mem_singleton.mp U];exact hf) λb o U q=>eb b o (λz=>U (by simp[z])) q;have e1:prs.drop xs.length=[]:=by rw[←a5,ZM]
  have k1:=k _ (by
   rw[e1];show Inv X pins σ (upd H D (.dK kvs)) {s with heap:=h'};have:upd H D (.dK kvs)=H:=by
    funext b;unfold upd;split
    .rename_i z
     rw[z,hD]
    .rfl
   rw[this];exact J)
  show wpAny (model X.prog X.w) A.in1 (Builtin.Dict.addKeywords D [] >>=λ_=>ret .none) _ _ _;exact X3 (Yg (Yg k1))
 |succ m ih=>
  intro i kvs H s hm hi I hD hq hf a0 O hz k;have a9:i<xs.length:=by omega
  obtain⟨its,rv,p,_⟩:=I.list hq;have Z:=rv.length;have a1:i<prs.length:=by omega
  obtain⟨t,ht,hT⟩:=O i prs[i].1 prs[i].2 (by rw[X5 a1]);obtain⟨u,hu,ru⟩:=rv.get ht;cases ru;refine ZZ F.entry_dict_update_loop ?_;rw[ZL F.plain_dict_update_loop _];unfold Builtin.«dict.update.loop»;dsimp only;refine X3 (abJ a0 p.isList (x:=.ref t) (by simpa using hu) λh1 a2 a7=>?_);dsimp only;have J:Inv X pins σ H {s with heap:=h1}:=sX (fp:=[it]) (t':=s.toks) I (λb U=>by rw[List.mem_singleton.mp U];exact hf) λb o U q=>(a7.2 b (λz=>U (by simp[z]))).trans q;obtain⟨_,b5,rj,oj,ej,cj,nj,dj,_⟩:=(show cN X.prog X.w H h1 t (.tup [kV prs[i].1,prs[i].2])from J.hok t _ hT);obtain⟨ku,vu,rfl,rk,b3⟩:=vals2 rj;have b0:(({s with heap:=h1}:X4)).TypeIs (.ref t) "tuple":=⟨oj,ej,cj⟩;refine X3 (ZF (X3 (wpAny_tryCatch ?_)));unfold Builtin.Dict.pairItems;refine X3 (abx b0 ?_);rw[Yi (by decide)];refine X3 (wpAny_seqItems ej dj (Yg ?_));show wpAny (model X.prog X.w) A.in1 (abl [ku,vu] (dictSet D ku vu)) _ _ _;obtain⟨z,hd,B,rel,dd⟩:=v4 J.hok hD;have a8:B.length<=Yc:=by rw[←rel.length];exact z
  have b6:200000<=Yc:=by decide
  have b1:(putK kvs prs[i].1 prs[i].2).length<=Yc:=by have:=gW kvs prs[i].1 prs[i].2;omega
  refine ZF (wpAny_dictSet_pairs (hsz:=a8) (lr rk) dd λh2 a6 a3=>?_);have I2:Inv X pins σ (upd H D (.dK (putK kvs prs[i].1 prs[i].2))) {s with heap:=h2,toks:=s.toks+1}:=by
   have Y:∃q,h2.get? D=some q:=let⟨q,_,_,hq,_⟩:=a6;⟨q,hq⟩;exact mJ (s:=({s with heap:=h1}:X4)) (t':=s.toks+1) J (by rw[hD];exact Zn) a3 Y (vp b1 hd (rel.put prs[i].1 b3) a6)
  have b2:∀p ys,H p=some (.tup ys)->p≠D:=λp ys e=>jP e hD (by intro z;cases z);have a4:it≠D:=λz=>by have:=hf.1;rw[z,hD]at this;cases this
  show wpAny (model X.prog X.w) A.in1 (again (.builtin "dict.update.loop" ⟨[.ref D,.ref it,adt ((i:Int)+1),.none],[]⟩)) _ _ _;refine Yg ⟨abP F.plain_dict_update_loop _,?_⟩;have ei:((i:Int)+1)=((i+1:Nat):Int):=by omega
  rw[ei];have b4:=gW kvs prs[i].1 prs[i].2;refine ih (i+1) (putK kvs prs[i].1 prs[i].2) _ _ (by omega) a9 I2 aW ?_ ?_ (a2.extBut a3.extBut a4) ?_ (by omega) (λs' I'=>k s' ?_)
  .rcases hq with(hq|⟨o,hq⟩)|hq
   .exact .inl (.inl (by rw[aR (jP hq hD (by intro z;cases z))];exact hq))
   .exact .inl (.inr ⟨o,by rw[aR (jP hq hD (by intro z;cases z))];exact hq⟩)
   .exact .inr hq
  .exact⟨by rw[aR a4];exact hf.1,hf.2⟩
  .intro j kk vv e
   obtain⟨p,h1,h2⟩:=O j kk vv e;exact⟨p,h1,by rw[aR (b2 p _ h2)];exact h2⟩
  .rw[PJ]at I'
   rw[Z0 a1];exact I'
def Itd(a:Addr)(ob:Obj)(kvs:List (Key×V)):It:=
 ⟨λi H=>H a=some (.frz ob (.dK kvs))/\i<kvs.length,λi H x H'=>H'=H/\∃p,kvs[i]? =some p/\x=kV p.1,λi H=>H a=some (.frz ob (.dK kvs))/\kvs.length<=i⟩
variable{P:Yu}
theorem Nv{k:Key}(h:(bA P w).is k u=true):RelV (kV k) u:=by
 have h:uq k u=true:=h;rcases dI h with⟨i,t,rfl,rfl⟩|⟨x,t,rfl,rfl⟩
 .exact⟨t,rfl⟩
 .exact⟨t,rfl⟩
theorem sU{F:α->β->Prop}:∀{xs:List α}{ys:List β},acO F xs ys->∀{i:Nat}{a:α}{b:β},xs[i]? =some a->ys[i]? =some b->F a b
 |_,_,.nil,i,a,b,h,_=>by simp at h
 |_,_,.cons p r,0,a,b,h1,h2=>by cases h1;cases h2;exact p
 |_,_,.cons p r,i+1,a,b,h1,h2=>sU r (i:=i) (by simpa using h1) (by simpa using h2)
variable{H:Hp}{s:X4}{kvs:List (Key×V)}
theorem Nq{ob:Obj}{es:Array DictEntry}{ep:Nat}(I:Inv X pins σ H s)(e:H a=some (.frz ob (.dK kvs)))(hd:ob.data= .dict es ep) :
  ∃B,KV kvs B/\s.heap.DictAt (bA X.prog X.w) a B ep:=by
 obtain⟨h1,_,_,B,rel,o,q,Y,g,x,d,F,O,U⟩:=(show cN X.prog X.w H s.heap a (.frz ob (.dK kvs))from I.hok a _ e);rw[h1]at g;cases g;rw[hd]at d;cases d;exact⟨B,rel,ob,es,h1,x,hd,F,O,U⟩
theorem Ia{K:Yb}(a it:Addr)(ob:Obj)(kvs:List (Key×V)) :
  Turn P w K tg (Itd a ob kvs) [it] it (λi h=>∃es ep,ob.data= .dict es ep/\h.IsKeyIter it a i kvs.length ep)where
 mem:=by simp
 obj:=λi h st b U=>by
  have e:b=it:=by simpa using U
  subst e;obtain⟨_,_,_,o,e,c,d⟩:=st;exact⟨o,e,λv z=>by rw[d]at z;cases z⟩
 keep:=λi h h' st k=>let⟨es,ep,hd,st⟩:=st;⟨es,ep,hd,st.at λo e=>k it (by simp) o e⟩
 item:=by
  intro X hP hw q F i pins s σ H E I Y st hg;subst hP hw q;obtain⟨e,hi⟩:=hg;obtain⟨es,ep,hd,st⟩:=st;obtain⟨B,rel,D⟩:=Nq I e hd;have Z:=rel.length;obtain⟨f0,f1,f2,f3,O,f5⟩:=Y it (by simp);have a0:i<B.length:=by omega
  rw[Z]at st;refine wpAny_pyNext_dict_item (k:=B[i].1) (v:=B[i].2) st D (by rw[X5 a0]) λa2 h' J a1 sb=>?_;have I1:Inv X pins σ H {s with heap:=h'}:=I.turned (t':=s.toks) (λb o U e=>sb.extBut b o U e) f0 f1 f3 O f5;obtain⟨o,e2,c,d⟩:=id a1;have ek:kvs[i].1=B[i].1:=(sU rel (X5 hi) (X5 a0)).1;refine⟨a2,rfl,x_ (s:={s with heap:=h'}) e2 c d (by decide) ⟨kV kvs[i].1,H,I1,?_,⟨rfl,kvs[i],by rw[X5 hi],rfl⟩,⟨es,ep,hd,by rw[Z];exact a1⟩,λb U=>(Y b U).1⟩⟩;rw[ek];exact Nv J
 done:=by
  intro X hP hw q F i pins s σ H E I Y st hg;subst hP hw q;obtain⟨e,hi⟩:=hg;obtain⟨es,ep,hd,st⟩:=st;obtain⟨B,rel,D⟩:=Nq I e hd;have Z:=rel.length;obtain⟨f0,f1,f2,f3,O,f5⟩:=Y it (by simp);rw[Z]at st;exact wpAny_pyNext_dict_end (I.ok.hd F) st D (aac (by omega)) λh' eb=>⟨rfl,I.turned (t':=s.toks) (λb o U e=>eb b o U e) f0 f1 f3 O f5⟩
 self:=λ_ _ _ _ _ st h=>let⟨_,_,_,st⟩:=st;wpAny_pyIter_keyiter st h
variable{H2 H':Hp}
theorem J_{O:L2.St}{B:X4}{D C:Addr}{ob:HO}(V:Inv X pins σ H2 B)(J:∀b∈fp,mX X pins H2 b)
  (hD:B.heap.objs.size<=D) (hC:B.heap.objs.size<=C) (I:D≠C) (Z:Inv (eV X N' scope C B H2 fp) [(D,o)] O H' s') (new:∀h',h'.get? D=some o->cN X.prog X.w (upd H' D ob) h' D ob)
  (h':Heap) (sb:aa3 C s'.heap h'):Inv X pins σ (upd H' D ob) {s' with heap:=h'}:=by
 obtain⟨eD,nD,_,a0,_⟩:=Z.pin (D,o) (X7 _ Zh);refine V.call' (ch:=fp) Z.os ?_ ?_ Z.bare (λb U=>⟨(J b U).2.2.2.1,(J b U).2.1,(J b U).2.2.2.2.1,(J b U).2.2.2.2.2⟩)
 .have ne:∀b o,B.heap.get? b=some o->b≠C/\b≠D:=λb o e=>⟨Yw (Ys (Yk e) hC),Yw (Ys (Yk e) hD)⟩
  refine⟨λb o e n U Y=>sb.extBut b o (ne b o e).1 (Z.base.keep b o e n U Y),λb o e n U Y=>?_,λb o e n Y=>?_,λb o e Y=>?_,λb xs e=>?_,λb o u e=>?_,λb ps e=>?_⟩
  .obtain⟨sl,e1⟩:=Z.base.slot b o e n U Y
   exact⟨sl,sb.extBut b _ (ne b o e).1 e1⟩
  .rw[aR (ne b o e).2]
   exact Z.base.free b o e n Y
  .obtain⟨o',e1⟩:=Z.base.there b o e Y
   exact⟨o',sb.extBut b _ (ne b o e).1 e1⟩
  .have e1:=Z.base.tups b xs e
   rw[aR (bJ e1 nD)];exact e1
  .have e1:=Z.base.frzs b o u e
   rw[aR (bJ e1 nD)];exact e1
  .obtain⟨more,e1⟩:=Z.base.tbls b ps e
   refine⟨more,?_⟩;rw[aR (bJ e1 nD)];exact e1
 .intro b u e
  by_cases U:b=D
  .subst U
   rw[aW]at e;cases e;exact new h' (sb.extBut _ _ I eD)
  .rw[aR U]at e
   have nC:∀b u,H' b=some u->b≠C:=λb u e z=>by
    have hf:H' C=none:=Z.free;rw[z,hf]at e;cases e
   refine(Z.hok b u e).stay (λc v F q=>sb.extBut c v ?_ q) (λc q=>by rw[aR (bJ q nD)];exact q) λc xs q=>by rw[aR (bJ q nD)];exact q
   rcases F with z|z
   .rw[z]
    exact nC b u e
   .exact nC c _ z
section
variable{X:Cx}{elt kx vx target iter:Expr}{ifs:List Expr}{scope:Scope}{pos pos' pos2:Pos}{N':List Str}{cap:List (Option Nat)}{wi:TI}{g:TG}{tt:TT}{te tk tv:TE}
theorem Ol{pins:List (Addr×Obj)}{σ O:L2.St}{H2 H':Hp}{s2 s':X4}{fp:List Addr}{D C:Addr}{o:Obj}{ob:HO}{i:Nat}{x:Str}{Dn:Ends}(V:Inv X pins σ H2 s2)(J:∀b∈fp,mX X pins H2 b)
  (hD:s2.heap.objs.size<=D) (hC:s2.heap.objs.size<=C) (a1:D≠C) (I':Inv (eV X N' scope C s2 H2 fp) [(D,o)] O H' s') (new:∀h',h'.get? D=some o->cN X.prog X.w (upd H' D ob) h' D ob)
  (hN:X.N.Nodup) (hi:X.N[i]? =some x) (B:Loc X.env.scope x) (Y:X.fn x=true∨X.env.scope.names.lookup x=some .local) (q:Dn.nx (σ.set i (some (.ref D))) (upd H' D ob)) :
  wpAny (model X.prog X.w) X.A (assignAll (.ref D) ((Zv [.Name x pos'] X.env).map (·.2))) (λ_ a0=>∃m,a0.heap.Ns C m/\∀h',aa3 C a0.heap h'->SP X pins Dn .next {a0 with heap:=h'}) X.xe s':=by
 have I3:Inv X pins σ (upd H' D ob) s':=J_ V J hD hC a1 I' new s'.heap ⟨rfl,λ_ _=>rfl⟩;obtain⟨m,F,_⟩:=I'.loc;obtain⟨a5,nD,_,a4,_⟩:=I'.pin (D,o) (X7 _ Zh);have F:s'.heap.Ns C m:=F;have a2:upd H' D ob C=none:=by
  rw[aR (Zr a1)];exact I'.free
 obtain⟨f0,I,a3,f3,f4,f5⟩:=V.fpOk hC (V.hok.fresh hC);have fC:mX X pins (upd H' D ob) C:=⟨a2,I,a3,f3,f4,f5⟩;obtain⟨oC,es,ep,gC,dC,k1,Z⟩:=F;have I4:=I3.pinned (fp:=[C]) (λb U=>by rw[List.mem_singleton.mp U];exact fC) λb U=>⟨oC,by rw[List.mem_singleton.mp U];exact gC,λv z=>by rw[dC]at z;cases z⟩;have ea:assignAll (.ref D) ((Zv [.Name x pos'] X.env).map (·.2))=abI (.Name x pos') X.env (.ref D):=by
  unfold assignAll;simp[Zv]
 rw[ea];refine wpAny_assign_Name (oA I4 hN hi B (v:=.ref D) rfl (λa0 I5=>⟨m,?_,λh' sb=>?_⟩) Y)
 .exact⟨oC,es,ep,(I5.pin (C,oC) (X7 _ (X7 _ (iC (aeg.mpr rfl) gC)))).1,dC,k1,Z⟩
 .exact⟨_,_,I5.unpinned.turned (t':=a0.toks) (λb o U e=>sb.extBut b o U e) a2 I f3 f4 f5,q⟩
theorem GF{i:Nat}{x:Str}(B:X.xe=NoX)(F:X.calm=true)(z:X.N.Nodup)(hi:X.N[i]? =some x)(hl:Loc X.env.scope x)(O:dO X.env.scope X.N N' scope cap)(a2:PI X target iter wi)
  (hg:∀C V H fp,PG (eV X N' scope C V H fp) target g) (U:∀C V H fp,PTs (eV X N' scope C V H fp) ifs tt) (Y:∀C V H fp,PE (eV X N' scope C V H fp) elt te)
  (hw:aaQ (.ListComp elt [⟨target,iter,ifs,0⟩] scope pos) (some (.Name x pos')) pos2.line X.env=pure true:=by rfl) (hs:∀x,ZD iter X.env x=pure x:=by intro _;rfl)
  (hf:X.fn x=true∨X.env.scope.names.lookup x=some .local:=by first|exact .inl rfl|exact .inr rfl|assumption):PS X (.Assign [.Name x pos'] (.ListComp elt [⟨target,iter,ifs,0⟩] scope pos) pos2) (Ou (Bk cap wi g tt te) (xK i)):=by
 intro pins s σ H Dn I h;rw[exec_Assign_arm];refine X3 (acv ?_);rw[show abh [.Name x pos'] (.ListComp elt [⟨target,iter,ifs,0⟩] scope pos) pos2.line X.env=pure true from hw];refine X3 (Yg ?_);rw[Yi rfl,arm_evalThenUse_ListComp];refine X3 (X3 (acV (use:=some _) rfl hs (pN λy hy hk=>I.ok.has y.1 (O.free y hy hk)) O.kind O.nm (thn (a2 pins s σ H _ I h) λv Z h1=>thn h1 λa3 s2 h2=>?_)));obtain⟨it,fp,tn,J,H2,e,I2,T,a1,f2,cw⟩:=h2;subst e;refine uZ (RR:=λacc C=>compPost (model X.prog X.w) X.A X.xe (some _) _ acc C) F O I2 T a1 f2 (λC=>hg C _ _ _) (λC=>U C _ _ _) (λC=>Y C _ _ _) cw ?_;intro D C s' H' ys its n a5 hD hC a0 I' rv q;obtain⟨hz,q⟩:=q;have nD:=(I'.pin (D,lobj its n) (X7 _ Zh)).2.1;refine thn (Ol (ob:=.lst ys) (Dn:=Dn) (pos':=pos') I2 f2 hD hC a0 I' (λh' e=>⟨hz,its,n,rv,e⟩) z hi hl hf (q D nD)) λ_ a4 ⟨m,h1,h2⟩=>⟨m,h1,λh' sb=>Yg (Yg (h2 h' sb))⟩
end
theorem xu:∀(more:List (Key×V)){kvs:List (Key×V)}{B I:List (Key×Value)},KV kvs B->KV more I->KV (putAll kvs more) (merged B I)
 |[],kvs,B,_,r,.nil=>r
 |p::m,kvs,B,_::I,r,.cons h q=>by
  have e1:putAll kvs (p::m)=putAll (putK kvs p.1 p.2) m:=rfl;rw[e1];have:=xu m (r.put p.1 h.2) q;rw[h.1]at this;rw[h.1];exact this
def Hf:V->List V->Hp->VK->Prop:=λx B H Q=>∃D kvs,x= .ref D/\H D=some (.dK kvs)/\
 ((∃l ys prs,B=[.ref l]/\H l=some (.lst ys)/\aad prs=aad ys/\kvs.length+aad prs<=50000/\(∀(j:Nat)(k:Key)(v:V),prs[j]? =some (k,v)->∃p:Addr,ys[j]? =some (V.ref p)/\H p=some (.tup [kV k,v]))/\Q .non (upd H D (.dK (putAll kvs prs))))∨
  (∃o more,B=[.ref o]/\o≠D/\H o=some (.dK more)/\kvs.length+more.length<=50000/\Q .non (upd H D (.dK (putAll kvs more)))))
theorem Ip(hc:X.calm=true):MtM X "dict.update" Hf:=by
 intro pins s σ H x B v us Q I rx rv h;obtain⟨D,kvs,rfl,hD,h⟩:=h;cases rx;have U:X.A.handled=none:=I.ok.hd hc;have b3:200000<=Yc:=by decide
 obtain⟨z,a6,ds,rel,dd⟩:=v4 I.hok hD;rcases h with⟨l,ys,prs,rfl,Z,a4,hsz,O,q⟩|⟨o,more,rfl,J,hO,hsz,q⟩
 .obtain⟨u,rfl,ru⟩:=rv.one
  cases ru;obtain⟨_,its,n,b2,el⟩:=(show cN X.prog X.w _ _ l (.lst ys)from I.hok l _ Z);have a8:s.TypeIs (.ref l) "list":=⟨_,el,rfl⟩;refine aa6 aeh dd.typeIs ad3 (adO _ _) (S:=λA R s'=>A=X.A/\s'=s/\∀s2,Inv X pins σ (upd H D (.dK (putAll kvs prs))) s2->R (.ok (.ret .none)) s2) ?_ ⟨rfl,rfl,λs2 V=>⟨.non,_,V,rfl,q⟩⟩;rintro A R s' ⟨rfl,rfl,k⟩;unfold Builtin.«dict.update»;refine X3 ?_;unfold Builtin.Dict.selfAndRest;refine X3 (ady dd.typeIs ?_);show wpAny _ _ (pure (D,[Y8 l])) _ _ _;refine Yg ?_;show wpAny _ _ (ac8 "dict.update" D (.ref l) [] .none) _ _ _;unfold ac8;refine X3 (abx a8 ?_);rw[Yi (by decide)];refine X3 (vX (show X.A.in1.handled=none from U) el λh2 a0 a2=>?_);rw[Yi (by rfl)];have V:Inv X pins σ H {s' with heap:=h2,toks:=a0}:=I.kept (t':=a0) a2;obtain⟨a9,b1,p2,_⟩:=V.list (SqL.of Z);refine X3 (ab4 (X3 (aaZ p2.isList ?_)));have I3:Inv X pins σ H {s' with heap:=h2.push {cls:=.type "list_iterator",data:=.fields #[.ref l,.int 0 0]},toks:=a0}:=V.kept (t':=a0) λb o e=>X6 _ e;have a5:mX X pins H h2.objs.size:=V.fpOk (Nat.le_refl _) (V.hok.fresh (Nat.le_refl _));refine Yg ⟨abP F.plain_dict_update_loop _,?_⟩;refine JM (A:=X.A) (l:=l) (xs:=ys) (prs:=prs) U a4 ys.length 0 kvs _ _ rfl (aaV _) I3 hD (SqL.of Z) a5 ⟨_,Ym _ rfl,rfl,rfl⟩ O (by omega) λs2 I4=>?_;rw[acf]at I4;exact k s2 I4
 .obtain⟨u,rfl,ru⟩:=rv.one
  cases ru;obtain⟨z2,a3,ms,a1,a7⟩:=v4 I.hok hO;have l1:=rel.length;have l2:=a1.length;refine aa6 aeh dd.typeIs ad3 (adO _ _) (meets_dict_update (bA X.prog X.w) D o (Zr J) a3) ⟨ds,ms,dd,a7,by omega,λh' d1 d2 sb=>?_⟩;have Y:∃q,h'.get? D=some q:=let⟨q,_,_,hq,_⟩:=d1;⟨q,hq⟩;have b0:=vV more kvs;exact⟨.non,_,mJ (t':=s.toks) I (by rw[hD];exact Zn) sb Y (vp (by omega) a6 (xu more rel a1) d1),rfl,q⟩
mutual
noncomputable def pyD:Dt->PyData
 |.non=>.none
 |.bl b=>.bool b
 |.int i=>.int i
 |.str x=>.str x
 |.lst ds=>.list (pyL ds)
 |.tup ds=>.tuple (pyL ds)
noncomputable def pyL:List Dt->List PyData
 |[]=>[]
 |d::r=>pyD d::pyL r
end
mutual
theorem noDict:∀d:Dt,aaF (pyD d)=false
 |.non=>by simp[pyD,aaF]
 |.bl _=>by simp[pyD,aaF]
 |.int _=>by simp[pyD,aaF]
 |.str _=>by simp[pyD,aaF]
 |.lst ds=>by simp[pyD,aaF,zG ds]
 |.tup ds=>by simp[pyD,aaF,zG ds]
theorem zG:∀ds:List Dt,acI (pyL ds)=false
 |[]=>by simp[pyL,acI]
 |d::r=>by simp[pyL,acI,noDict d,zG r]
end
mutual
theorem Ck{X:Cx}{pins:List (Addr×Obj)}{σ:L2.St}{H:Hp}{s:X4}(I:Inv X pins σ H s):∀(d:Dt)(x:V)(u:Value),Brs X.K H d x->RelV x u->∃B,Reads s.heap u (pyD d) B
 |.non,x,u,h,r=>by simp![Brs]at h;subst h;cases (show u=aba from r);exact⟨_,.none⟩
 |.bl b,x,u,h,r=>by simp![Brs]at h;subst h;cases (show u=acK b from r);exact⟨_,.bool b⟩
 |.int i,x,u,h,r=>by simp![Brs]at h;subst h;obtain⟨t,rfl⟩:=(show ∃t,u=acj i t from r);exact⟨_,.int i t⟩
 |.str y,x,u,h,r=>by simp![Brs]at h;subst h;obtain⟨t,rfl⟩:=(show ∃t,u=aa_ y t from r);exact⟨_,.str y t⟩
 |.lst ds,x,u,h,r=>by
  simp![Brs]at h;obtain⟨a,xs,rfl,D,U⟩:=h;cases (show u=Y8 a from r);obtain⟨its,O,p,_⟩:=I.list D;obtain⟨B,Y⟩:=su I ds xs its U O;obtain⟨o,h1,h2,n,q⟩:=p.isList;exact⟨_,.list h1 h2 q Y⟩
 |.tup ds,x,u,h,r=>by
  simp![Brs]at h;obtain⟨a,xs,rfl,D,U⟩:=h;cases (show u=Y8 a from r);obtain⟨its,O,p,_⟩:=I.tuple D;obtain⟨B,Y⟩:=su I ds xs its U O;obtain⟨o,h1,h2,n,q⟩:=p;exact⟨_,.tuple h1 h2 q Y⟩
theorem su{X:Cx}{pins:List (Addr×Obj)}{σ:L2.St}{H:Hp}{s:X4}(I:Inv X pins σ H s):∀(ds:List Dt)(xs:List V)(us:List Value),je X.K H ds xs->Vals xs us->∃B,ReadsAll s.heap us (pyL ds) B
 |[],xs,us,h,r=>by simp![je]at h;subst h;cases r;exact⟨_,.nil⟩
 |d::ds,xs,us,h,r=>by
  simp![je]at h;obtain⟨x,ys,rfl,h1,h2⟩:=h;cases r with
  |cons p q=>
   obtain⟨B,Y⟩:=Ck I d x _ h1 p;obtain⟨bs,U⟩:=su I ds ys _ h2 q;exact⟨_,.cons Y U⟩
end
def Q9(K:Yb)(A:Y0):List V->Hp->VK->Prop:=λxs H Q=>∃a d,xs=[.ref a]/\Brs K H d (.ref a)/\A.guards=some []/\A.units+((pyD d).depth+1)<cLine/\(pyD d).showable=true/\(pyD d).shown.length<=Yc/\Q (.str (pyD d).shown) H
theorem JH:gQ X (.builtin "repr") (Q9 X.K X.A):=by
 intro pins s σ H xs us Q I r h;obtain⟨a,d,rfl,U,B,F,O,Z,q⟩:=h;obtain⟨u,rfl,D⟩:=vals1 r;cases D;obtain⟨V,Y⟩:=Ck I d (.ref a) (.ref a) U rfl;exact repr_of_reads' Y O (λz=>by rw[noDict d]at z;cases z) B F (λ_ _ e=>e) (λh' u tk J=>⟨.str _,H,I.kept (t':=tk) J,⟨_,rfl⟩,q⟩) Z
def Vw(K:Yb)(te:TE):TI:=λσ H R=>te σ H λx H1=>∃a,x= .ref a/\(((∃xs,SqL K H1 a xs)/\R (Itl K a) H1)∨((∃xs,SqT K H1 a xs)/\R (Itt K a) H1))
variable{te:TE}
theorem SJ(z:PE X e te):PI X tg e (Vw X.K te):=by
 intro pins s σ H R I h;refine thn (z pins s σ H _ I h) λv Z ⟨x,H1,J,F,q1⟩=>?_;obtain⟨a,ex,q⟩:=q1;subst ex;cases F;have B:∀b∈[Z.heap.objs.size],mX X pins H1 b:=λb U=>by
  rw[List.mem_singleton.mp U];exact J.fpOk (Nat.le_refl _) (J.hok.fresh (Nat.le_refl _))
 rcases q with⟨⟨xs,D⟩,q⟩|⟨⟨xs,D⟩,q⟩
 .obtain⟨its,rv,p,hz⟩:=J.list D
  refine aaZ p.isList ?_;exact⟨Z.heap.objs.size,[Z.heap.objs.size],_,_,H1,rfl,J.kept (t':=Z.toks) λb o e=>X6 _ e,JC a _,⟨_,Ym _ rfl,rfl,rfl⟩,B,q⟩
 .obtain⟨its,rv,p,hz⟩:=J.tuple D
  refine wpAny_pyIter_tuple (show Z.heap.IsTuple a its.toArray from p) ?_;exact⟨Z.heap.objs.size,[Z.heap.objs.size],_,_,H1,rfl,J.kept (t':=Z.toks) λb o e=>X6 _ e,Fb a _,⟨_,Ym _ rfl,rfl,rfl⟩,B,q⟩
theorem vY:∀{us:List Value}{ns:List Str},StrsAre us ns->Vals (ns.map V.str) us
 |_,_,.nil=>.nil
 |_,_,.cons n t r=>.cons ⟨t,rfl⟩ (vY r)
theorem wy:∀{ns:List Str}{us:List Value},Vals (ns.map V.str) us->StrsAre us ns
 |[],_,h=>by cases h;exact .nil
 |n::r,us,h=>by
  rw[X8]at h;cases h with
  |cons p q=>
   obtain⟨t,rfl⟩:=p;exact .cons n t (wy q)
inductive Mk where
 |own|frz|brw|bro|scr
 deriving DecidableEq
set_option genSizeOf true in
inductive D where
 |non|bl (b:Bool)|int (i:Int)|str (x:Str)|ty (n:String)
 |tup (ds:List D)
 |lst (m:Mk) (ds:List D)
 |dct (m:Mk) (ks:List Key) (ds:List D)
 |ins (m:Mk) (c:Str) (fs:List Str) (ds:List D)
structure Gc where
 K:Yb
 mg:Str->Option Value
structure Wn where
 n:Addr->Prop
 s:Addr->Prop
 o:Addr->Prop
def Wn.free(W:Wn)(a:Addr):Prop:=¬W.n a/\¬W.s a/\¬W.o a
def KO(K:Yb)(a:Addr)(o:HO):Prop:=∃xs,o= .lst xs/\∃(ob:Obj)(its:Array Value)(n:Nat),K.lookup a=some ob/\ob.cls= .type "list"/\ob.dict=none/\ob.data= .seq its n/\its.size<=Yc/\Vals xs its.toList
def dN(B:Addr->HO->Prop)(H:Hp)(W:Wn)(a:Addr)(o:HO):Mk->List Addr->List Addr->Prop
 |.own,L,M=>H a=some o/\L=a::M
 |.frz,L,M=>H a=some o/\W.free a/\M=[]/\L=[]
 |.brw,L,M=>H a=some o/\W.s a/\M=[]/\L=[]
 |.bro,L,M=>H a=some o/\M=[]/\L=[]
 |.scr,L,M=>((Rd H a o/\W.free a)∨B a o)/\M=[]/\L=[]
variable{B:Addr->HO->Prop}{o:HO}{W:Wn}{m:Mk}
theorem dN.sub(h:dN B H W a o m L M):ZP M L:=by
 cases m with
 |own=>rw[h.2];exact List.sublist_cons_self a M
 |frz=>rw[h.2.2.1];exact abT L
 |brw=>rw[h.2.2.1];exact abT L
 |bro=>rw[h.2.1];exact abT L
 |scr=>rw[h.2.1];exact abT L
theorem dN.rx(h:dN B H W a o m L M):Rd H a o∨B a o:=by
 cases m with
 |own=>exact .inl (.inl h.1)
 |frz=>exact .inl (.inl h.1)
 |brw=>exact .inl (.inl h.1)
 |bro=>exact .inl (.inl h.1)
 |scr=>exact h.1.imp (λz=>z.1) id
theorem dN.sq{K:Yb}(h:dN (KO K) H W a (.lst xs) m L M):SqL K H a xs:=by
 rcases h.rx with z|⟨ys,e,z⟩
 .exact .inl z
 .cases e
  exact .inr z
theorem dN.rdD{K:Yb}(h:dN (KO K) H W a (.dK kvs) m L M):Rd H a (.dK kvs):=by
 rcases h.rx with z|⟨ys,e,z⟩
 .exact z
 .cases e
theorem dN.at(h:dN B H W a o m L M)(V:m≠.scr):H a=some o:=by
 cases m with
 |own=>exact h.1
 |frz=>exact h.1
 |brw=>exact h.1
 |bro=>exact h.1
 |scr=>exact absurd rfl V
mutual
noncomputable def Rep(G:Gc)(H:Hp)(W:Wn):D->V->List Addr->Prop
 |.non,v,L=>v= .non/\L=[]
 |.bl b,v,L=>v= .bl b/\L=[]
 |.int i,v,L=>v= .int i/\L=[]
 |.str x,v,L=>v= .str x/\L=[]
 |.ty n,v,L=>v= .ty n/\L=[]
 |.tup ds,v,L=>∃a xs,v= .ref a/\H a=some (.tup xs)/\aM G H W ds xs L
 |.lst m ds,v,L=>∃a xs M,v= .ref a/\aM G H W ds xs M/\dN (KO G.K) H W a (.lst xs) m L M
 |.dct m ks ds,v,L=>∃a kvs M,v= .ref a/\(List.map (·.1) kvs=ks/\ks.Nodup)/\aM G H W ds (List.map (·.2) kvs) M/\dN (KO G.K) H W a (.dK kvs) m L M
 |.ins m c fs ds,v,L=>∃a C dx kvs M,v= .ref a/\G.mg c=some (.ref C)/\List.map (·.1) kvs=fs/\aM G H W ds (List.map (·.2) kvs) M/\dN (KO G.K) H W a (.ins C dx kvs) m L M
noncomputable def aM(G:Gc)(H:Hp)(W:Wn):List D->List V->List Addr->Prop
 |[],xs,L=>xs=[]/\L=[]
 |d::r,xs,L=>∃x ys M M',xs=x::ys/\L=M++M'/\Rep G H W d x M/\aM G H W r ys M'
end
variable{G:Gc}
theorem aM.nil:aM G H W [] [] []:=by simp[aM]
theorem aM.cons{d:D}{r:List D}{x:V}{ys:List V}{M M':List Addr}(h:Rep G H W d x M)(t:aM G H W r ys M'):aM G H W (d::r) (x::ys) (M++M'):=by
 rw[aM];exact⟨x,ys,M,M',rfl,rfl,h,t⟩
variable{d:D}
theorem aM.one{x:V}(h:Rep G H W d x M):aM G H W [d] [x] M:=by
 have:=aM.cons h aM.nil;rwa[Yz]at this
theorem aM.inv{r:List D}(h:aM G H W (d::r) xs L):∃x ys M M',xs=x::ys/\L=M++M'/\Rep G H W d x M/\aM G H W r ys M':=by
 rw[aM]at h;exact h
theorem aM.inv0(h:aM G H W [] xs L):xs=[]/\L=[]:=by
 rw[aM]at h;exact h
theorem aM.length:∀{ds:List D}{xs:List V}{L:List Addr},aM G H W ds xs L->ds.length=xs.length
 |[],xs,L,h=>by rw[h.inv0.1];rfl
 |d::r,xs,L,h=>by
  obtain⟨x,ys,M,M',rfl,_,_,h⟩:=h.inv;simp[aM.length h]
theorem aM.append:∀{ds es:List D}{xs ys:List V}{L M:List Addr},aM G H W ds xs L->aM G H W es ys M->aM G H W (ds++es) (xs++ys) (L++M)
 |[],es,xs,ys,L,M,h,h'=>by obtain⟨rfl,rfl⟩:=h.inv0;exact h'
 |d::r,es,xs,ys,L,M,h,h'=>by
  obtain⟨x,zs,A,B,rfl,rfl,h1,h2⟩:=h.inv;rw[aah];exact .cons h1 (aM.append h2 h')
theorem aM.split:∀{ds es:List D}{xs:List V}{L:List Addr},aM G H W (ds++es) xs L->∃ys zs A B,xs=ys++zs/\L=A++B/\aM G H W ds ys A/\aM G H W es zs B
 |[],es,xs,L,h=>⟨[],xs,[],L,rfl,rfl,.nil,h⟩
 |d::r,es,xs,L,h=>by
  obtain⟨x,zs,A,B,rfl,rfl,h1,h2⟩:=aM.inv (r:=r++es) h;obtain⟨ys,Y,z,q,rfl,rfl,I,F⟩:=aM.split h2;exact⟨x::ys,Y,A++z,q,rfl,by rw[aah],.cons h1 I,F⟩
variable{ds:List D}
theorem aM.at(h:aM G H W ds xs L)(e:ds[j]? =some d) :
  ∃A B x ys zs z M I,ds=A++d::B/\A.length=j/\xs=ys++x::zs/\ys.length=j/\L=z++(M++I)/\aM G H W A ys z/\Rep G H W d x M/\aM G H W B zs I:=by
 have O:j<ds.length:=(List.getElem?_eq_some_iff.mp e).1;have hd:ds=ds.take j++d::ds.drop (j+1):=by
  have:ds[j]=d:=(List.getElem?_eq_some_iff.mp e).2;rw[←this,ZS,abZ]
 rw[hd]at h;obtain⟨ys,zs,A,B,rfl,rfl,h1,h2⟩:=aM.split h;obtain⟨x,Y,M,M',rfl,rfl,q,F⟩:=h2.inv;have Z:(ds.take j).length=j:=by rw[YX];omega
 exact⟨_,_,x,ys,Y,A,M,M',hd,Z,rfl,by rw[←h1.length];exact Z,rfl,h1,q,F⟩
theorem aM.get(h:aM G H W ds xs L)(e:ds[j]? =some d):∃x M,xs[j]? =some x/\Rep G H W d x M/\ZP M L:=by
 obtain⟨A,B,x,ys,zs,z,M,I,_,_,rfl,Z,rfl,_,h,_⟩:=h.at e;exact⟨x,M,by rw[Za (by omega),Z,aag];rfl,h,(ZG M I).trans (Zf z _)⟩
def muO:HO->Bool
 |.lst _=>true
 |.dK _=>true
 |.ins _ _ _=>true
 |_=>false
def Mu(H:Hp)(a:Addr):Prop:=∃o,H a=some o/\muO o=true
mutual
noncomputable def aA:D->Bool
 |.tup ds=>aC ds
 |.lst m ds=>m != .brw&&aC ds
 |.dct m _ ds=>m != .brw&&aC ds
 |.ins m _ _ ds=>m != .brw&&aC ds
 |_=>true
noncomputable def aC:List D->Bool
 |[]=>true
 |d::r=>aA d&&aC r
end
mutual
noncomputable def az:D->Bool
 |.tup ds=>aD ds
 |.lst m ds=>m != .bro&&aD ds
 |.dct m _ ds=>m != .bro&&aD ds
 |.ins m _ _ ds=>m != .bro&&aD ds
 |_=>true
noncomputable def aD:List D->Bool
 |[]=>true
 |d::r=>az d&&aD r
end
def clean(d:D):Bool:=aA d&&az d
structure Evo(H H':Hp)(W W':Wn):Prop where
 k:∀b u,H b=some u->W.free b->H' b=some u/\W'.free b
 t:∀b xs,H b=some (.tup xs)->H' b=some (.tup xs)
def Mg(H H':Hp)(W W':Wn):Prop:=∀b u,H b=some u->W.s b->H' b=some u/\W'.s b
variable{W':Wn}
theorem Evo.rd(e:Evo H H' W W')(h:Rd H a o)(f:W.free a):Rd H' a o/\W'.free a:=by
 rcases h with h|⟨u,h⟩
 .exact⟨.inl (e.k a _ h f).1,(e.k a _ h f).2⟩
 .exact⟨.inr ⟨u,(e.k a _ h f).1⟩,(e.k a _ h f).2⟩
theorem dN.mono(e:Evo H H' W W')(h:dN B H W a o m L M)(U:m≠.brw∨Mg H H' W W')(J:m≠.bro∨Same H H')(D:∀c∈L,∀u,H c=some u->H' c=some u):dN B H' W' a o m L M:=by
 cases m with
 |own=>exact⟨D a (by rw[h.2];simp) o h.1,h.2⟩
 |frz=>exact⟨(e.k a o h.1 h.2.1).1,(e.k a o h.1 h.2.1).2,h.2.2⟩
 |brw=>
  have q:=(U.resolve_left λz=>z rfl) a o h.1 h.2.1;exact⟨q.1,q.2,h.2.2⟩
 |bro=>exact⟨(J.resolve_left λz=>z rfl) a o h.1,h.2⟩
 |scr=>exact⟨h.1.imp (λz=>e.rd z.1 z.2) id,h.2⟩
theorem Same.rd(s:Same H H')(h:Rd H a o):Rd H' a o:=h.imp (s _ _) λ⟨u,z⟩=>⟨u,s _ _ z⟩
mutual
theorem Rep.mono(e:Evo H H' W W'):∀{d:D}{v:V}{L:List Addr},Rep G H W d v L->(aA d=true∨Mg H H' W W')->(az d=true∨Same H H')->(∀c∈L,∀u,H c=some u->H' c=some u)->Rep G H' W' d v L
 |.non,v,L,h,_,_,_=>by rw[Rep]at h⊢;exact h
 |.bl _,v,L,h,_,_,_=>by rw[Rep]at h⊢;exact h
 |.int _,v,L,h,_,_,_=>by rw[Rep]at h⊢;exact h
 |.str _,v,L,h,_,_,_=>by rw[Rep]at h⊢;exact h
 |.ty _,v,L,h,_,_,_=>by rw[Rep]at h⊢;exact h
 |.tup ds,v,L,h,b,o,hl=>by
  rw[Rep]at h⊢;obtain⟨a,xs,rfl,U,Z⟩:=h;exact⟨a,xs,rfl,e.t a xs U,aM.mono e Z (by simpa[aA]using b) (by simpa[az]using o) hl⟩
 |.lst m ds,v,L,h,b,o,hl=>by
  rw[Rep]at h⊢;obtain⟨a,xs,M,rfl,Z,O⟩:=h;exact⟨a,xs,M,rfl,aM.mono e Z (b.imp (λz=>by simp[aA]at z;exact z.2) id) (o.imp (λz=>by simp[az]at z;exact z.2) id) λc F=>hl c (O.sub.subset F),O.mono e (b.imp (λz=>by simp[aA]at z;exact z.1) id) (o.imp (λz=>by simp[az]at z;exact z.1) id) hl⟩
 |.dct m ks ds,v,L,h,b,o,hl=>by
  rw[Rep]at h⊢;obtain⟨a,xs,M,rfl,J,Z,O⟩:=h;exact⟨a,xs,M,rfl,J,aM.mono e Z (b.imp (λz=>by simp[aA]at z;exact z.2) id) (o.imp (λz=>by simp[az]at z;exact z.2) id) λc F=>hl c (O.sub.subset F),O.mono e (b.imp (λz=>by simp[aA]at z;exact z.1) id) (o.imp (λz=>by simp[az]at z;exact z.1) id) hl⟩
 |.ins m c fs ds,v,L,h,b,o,hl=>by
  rw[Rep]at h⊢;obtain⟨a,C,dx,xs,M,rfl,B,J,Z,O⟩:=h;exact⟨a,C,dx,xs,M,rfl,B,J,aM.mono e Z (b.imp (λz=>by simp[aA]at z;exact z.2) id) (o.imp (λz=>by simp[az]at z;exact z.2) id) λc F=>hl c (O.sub.subset F),O.mono e (b.imp (λz=>by simp[aA]at z;exact z.1) id) (o.imp (λz=>by simp[az]at z;exact z.1) id) hl⟩
theorem aM.mono(e:Evo H H' W W'):∀{ds:List D}{B:List V}{L:List Addr},aM G H W ds B L->(aC ds=true∨Mg H H' W W')->(aD ds=true∨Same H H')->(∀c∈L,∀u,H c=some u->H' c=some u)->aM G H' W' ds B L
 |[],B,L,h,_,_,_=>by rw[aM]at h⊢;exact h
 |d::r,B,L,h,b,o,hl=>by
  obtain⟨x,ys,M,M',rfl,rfl,h1,h2⟩:=h.inv;exact .cons (Rep.mono e h1 (b.imp (λz=>by simp[aC]at z;exact z.1) id) (o.imp (λz=>by simp[aD]at z;exact z.1) id) λb U=>hl b (Ye _ U))
   (aM.mono e h2 (b.imp (λz=>by simp[aC]at z;exact z.2) id) (o.imp (λz=>by simp[aD]at z;exact z.2) id) λb U=>hl b (X7 _ U))
end
structure Up(H H':Hp)(W W':Wn):Prop where
 s:Same H H'
 f:∀b u,H b=some u->W.free b->W'.free b
 n:∀b u,H b=some u->W.s b->W'.s b
theorem Up.evo(u:Up H H' W W'):Evo H H' W W':=⟨λb o h f=>⟨u.s b o h,u.f b o h f⟩,λb xs h=>u.s b _ h⟩
theorem Up.evoN(u:Up H H' W W'):Mg H H' W W':=λb o h f=>⟨u.s b o h,u.n b o h f⟩
theorem Up.refl:Up H H W W:=⟨Same.refl H,λ_ _ _ f=>f,λ_ _ _ f=>f⟩
variable{J:Wn}
theorem Up.trans(a:Up H H' W W')(b:Up H' H2 W' J):Up H H2 W J:=⟨a.s.trans b.s,λc u h f=>b.f c u (a.s c u h) (a.f c u h f),λc u h f=>b.n c u (a.s c u h) (a.n c u h f)⟩
variable{v:V}
theorem Rep.up(h:Rep G H W d v L)(u:Up H H' W W'):Rep G H' W' d v L:=h.mono u.evo (.inr u.evoN) (.inr u.s) λc _ o e=>u.s c o e
theorem aM.up{d:List D}{v:List V}(h:aM G H W d v L)(u:Up H H' W W'):aM G H' W' d v L:=h.mono u.evo (.inr u.evoN) (.inr u.s) λc _ o e=>u.s c o e
def Wn.add(W:Wn)(L:List Addr):Wn:=⟨λa=>a∈L∨W.n a,W.s,W.o⟩
theorem Up.add(s:Same H H')(q:∀a∈L,H a=none):Up H H' W (W.add L):=⟨s,λb u h f=>⟨λz=>z.elim (λz=>by rw[q b z]at h;cases h) f.1,f.2⟩,λb u h f=>f⟩
theorem Up.same(s:Same H H'):Up H H' W W:=⟨s,λ_ _ _ f=>f,λ_ _ _ f=>f⟩
def mkV(ob:Bool):Mk->Mk
 |.own=>if ob then .bro else .brw
 |m=>m
def mkF:Mk->Mk
 |.scr=>.scr
 |_=>.frz
mutual
noncomputable def view(ob:Bool):D->D
 |.tup ds=>.tup (fU ob ds)
 |.lst m ds=>.lst (mkV ob m) (fU ob ds)
 |.dct m ks ds=>.dct (mkV ob m) ks (fU ob ds)
 |.ins m c fs ds=>.ins (mkV ob m) c fs (fU ob ds)
 |d=>d
noncomputable def fU(ob:Bool):List D->List D
 |[]=>[]
 |d::r=>view ob d::fU ob r
end
mutual
noncomputable def fz:D->D
 |.tup ds=>.tup (fzL ds)
 |.lst m ds=>.lst (mkF m) (fzL ds)
 |.dct m ks ds=>.dct (mkF m) ks (fzL ds)
 |.ins m c fs ds=>.ins (mkF m) c fs (fzL ds)
 |d=>d
noncomputable def fzL:List D->List D
 |[]=>[]
 |d::r=>fz d::fzL r
end
theorem jh(ob:Bool):∀ds:List D,fU ob ds=ds.map (view ob)
 |[]=>rfl
 |d::r=>by rw[fU,jh ob r];rfl
theorem lq:∀ds:List D,fzL ds=ds.map fz
 |[]=>rfl
 |d::r=>by rw[fzL,lq r];rfl
theorem dN.view{ob:Bool}(I:ob=false->∀c∈L,W.s c)(h:dN B H W a o m L M):dN B H W a o (mkV ob m) [] []:=by
 cases m with
 |own=>
  cases ob with
  |false=>exact⟨h.1,I rfl a (by rw[h.2];simp),rfl,rfl⟩
  |true=>exact⟨h.1,rfl,rfl⟩
 |frz=>exact⟨h.1,h.2.1,rfl,rfl⟩
 |brw=>exact⟨h.1,h.2.1,rfl,rfl⟩
 |bro=>exact⟨h.1,rfl,rfl⟩
 |scr=>exact⟨h.1,rfl,rfl⟩
mutual
theorem Rep.view{ob:Bool}:∀{d:D}{v:V}{L:List Addr},Rep G H W d v L->(ob=false->∀c∈L,W.s c)->Rep G H W (view ob d) v []
 |.non,v,L,h,_=>by rw[Rep]at h;simp[Jb.view,Rep,h]
 |.bl _,v,L,h,_=>by rw[Rep]at h;simp[Jb.view,Rep,h]
 |.int _,v,L,h,_=>by rw[Rep]at h;simp[Jb.view,Rep,h]
 |.str _,v,L,h,_=>by rw[Rep]at h;simp[Jb.view,Rep,h]
 |.ty _,v,L,h,_=>by rw[Rep]at h;simp[Jb.view,Rep,h]
 |.tup ds,v,L,h,hn=>by
  rw[Rep]at h;rw[Jb.view,Rep];obtain⟨a,xs,rfl,U,Z⟩:=h;exact⟨a,xs,rfl,U,aM.view Z hn⟩
 |.lst m ds,v,L,h,hn=>by
  rw[Rep]at h;rw[Jb.view,Rep];obtain⟨a,xs,M,rfl,Z,O⟩:=h;exact⟨a,xs,[],rfl,aM.view Z λz c F=>hn z c (O.sub.subset F),O.view hn⟩
 |.dct m ks ds,v,L,h,hn=>by
  rw[Rep]at h;rw[Jb.view,Rep];obtain⟨a,xs,M,rfl,J,Z,O⟩:=h;exact⟨a,xs,[],rfl,J,aM.view Z λz c F=>hn z c (O.sub.subset F),O.view hn⟩
 |.ins m c fs ds,v,L,h,hn=>by
  rw[Rep]at h;rw[Jb.view,Rep];obtain⟨a,C,dx,xs,M,rfl,B,J,Z,O⟩:=h;exact⟨a,C,dx,xs,[],rfl,B,J,aM.view Z λz c F=>hn z c (O.sub.subset F),O.view hn⟩
theorem aM.view{ob:Bool}:∀{ds:List D}{B:List V}{L:List Addr},aM G H W ds B L->(ob=false->∀c∈L,W.s c)->aM G H W (fU ob ds) B []
 |[],B,L,h,_=>by obtain⟨rfl,_⟩:=h.inv0;rw[fU];exact .nil
 |d::r,B,L,h,hn=>by
  obtain⟨x,ys,M,M',rfl,rfl,h1,h2⟩:=h.inv;rw[fU];exact .cons (M:=[]) (M':=[]) (Rep.view h1 λz c F=>hn z c (Ye _ F)) (aM.view h2 λz c F=>hn z c (X7 _ F))
end
structure Les(H:Hp)(W W':Wn)(L:List Addr):Prop where
 f:∀a,W.free a->W'.free a
 l:∀a∈L,W'.free a
theorem Les.sub(h:Les H W W' L)(s:∀a∈M,a∈L):Les H W W' M:=⟨h.f,λa Y=>h.l a (s a Y)⟩
def oV(W:Wn):Prop:=∀a,W.free a
theorem dN.fz(O:Les H W W' L)(I:(m≠.brw/\m≠.bro)∨oV W')(h:dN B H W a o m L M):dN B H W' a o (mkF m) [] []:=by
 cases m with
 |own=>exact⟨h.1,O.l a (by rw[h.2];simp),rfl,rfl⟩
 |frz=>exact⟨h.1,O.f a h.2.1,rfl,rfl⟩
 |brw=>exact⟨h.1,I.elim (λz=>absurd rfl z.1) λz=>z a,rfl,rfl⟩
 |bro=>exact⟨h.1,I.elim (λz=>absurd rfl z.2) λz=>z a,rfl,rfl⟩
 |scr=>exact⟨h.1.imp (λz=>⟨z.1,O.f a z.2⟩) id,rfl,rfl⟩
mutual
theorem Rep.fz:∀{d:D}{v:V}{L:List Addr},Rep G H W d v L->Les H W W' L->(clean d=true∨oV W')->Rep G H W' (fz d) v []
 |.non,v,L,h,_,_=>by rw[Rep]at h;simp[Jb.fz,Rep,h]
 |.bl _,v,L,h,_,_=>by rw[Rep]at h;simp[Jb.fz,Rep,h]
 |.int _,v,L,h,_,_=>by rw[Rep]at h;simp[Jb.fz,Rep,h]
 |.str _,v,L,h,_,_=>by rw[Rep]at h;simp[Jb.fz,Rep,h]
 |.ty _,v,L,h,_,_=>by rw[Rep]at h;simp[Jb.fz,Rep,h]
 |.tup ds,v,L,h,O,c=>by
  rw[Rep]at h;rw[Jb.fz,Rep];obtain⟨a,xs,rfl,U,Z⟩:=h;exact⟨a,xs,rfl,U,aM.fz Z O (c.imp (λz=>by simpa[clean,aA,az]using z) id)⟩
 |.lst m ds,v,L,h,he,c=>by
  rw[Rep]at h;rw[Jb.fz,Rep];obtain⟨a,xs,M,rfl,Z,O⟩:=h;exact⟨a,xs,[],rfl,aM.fz Z (he.sub λc F=>O.sub.subset F) (c.imp (λz=>by simp[clean,aA,az]at z;exact⟨z.1.2,z.2.2⟩) id),O.fz he (c.imp (λz=>by simp[clean,aA,az]at z;exact⟨z.1.1,z.2.1⟩) id)⟩
 |.dct m ks ds,v,L,h,he,c=>by
  rw[Rep]at h;rw[Jb.fz,Rep];obtain⟨a,xs,M,rfl,J,Z,O⟩:=h;exact⟨a,xs,[],rfl,J,aM.fz Z (he.sub λc F=>O.sub.subset F) (c.imp (λz=>by simp[clean,aA,az]at z;exact⟨z.1.2,z.2.2⟩) id),O.fz he (c.imp (λz=>by simp[clean,aA,az]at z;exact⟨z.1.1,z.2.1⟩) id)⟩
 |.ins m c' fs ds,v,L,h,he,c=>by
  rw[Rep]at h;rw[Jb.fz,Rep];obtain⟨a,C,dx,xs,M,rfl,B,J,Z,O⟩:=h;exact⟨a,C,dx,xs,[],rfl,B,J,aM.fz Z (he.sub λc F=>O.sub.subset F) (c.imp (λz=>by simp[clean,aA,az]at z;exact⟨z.1.2,z.2.2⟩) id),O.fz he (c.imp (λz=>by simp[clean,aA,az]at z;exact⟨z.1.1,z.2.1⟩) id)⟩
theorem aM.fz:∀{ds:List D}{B:List V}{L:List Addr},aM G H W ds B L->Les H W W' L->((aC ds=true/\aD ds=true)∨oV W')->aM G H W' (fzL ds) B []
 |[],B,L,h,_,_=>by obtain⟨rfl,_⟩:=h.inv0;rw[fzL];exact .nil
 |d::r,B,L,h,he,c=>by
  obtain⟨x,ys,M,M',rfl,rfl,h1,h2⟩:=h.inv;rw[fzL];exact .cons (M:=[]) (M':=[]) (Rep.fz h1 (he.sub λc F=>Ye _ F) (c.imp (λz=>by simp[clean,aC,aD]at z⊢;exact⟨z.1.1,z.2.1⟩) id))
   (aM.fz h2 (he.sub λc F=>X7 _ F) (c.imp (λz=>by simp[clean,aC,aD]at z⊢;exact⟨z.1.2,z.2.2⟩) id))
end
mutual
theorem Be:∀d:D,aA (Jb.fz d)=true
 |.non=>rfl|.bl _=>rfl|.int _=>rfl|.str _=>rfl|.ty _=>rfl
 |.tup ds=>by simp[Jb.fz,aA,iI ds]
 |.lst m ds=>by cases m<;>simp[Jb.fz,aA,iI ds,mkF]
 |.dct m _ ds=>by cases m<;>simp[Jb.fz,aA,iI ds,mkF]
 |.ins m _ _ ds=>by cases m<;>simp[Jb.fz,aA,iI ds,mkF]
theorem iI:∀ds:List D,aC (fzL ds)=true
 |[]=>rfl
 |d::r=>by simp[fzL,aC,Be d,iI r]
end
mutual
theorem CP:∀d:D,az (Jb.fz d)=true
 |.non=>rfl|.bl _=>rfl|.int _=>rfl|.str _=>rfl|.ty _=>rfl
 |.tup ds=>by simp[Jb.fz,az,iH ds]
 |.lst m ds=>by cases m<;>simp[Jb.fz,az,iH ds,mkF]
 |.dct m _ ds=>by cases m<;>simp[Jb.fz,az,iH ds,mkF]
 |.ins m _ _ ds=>by cases m<;>simp[Jb.fz,az,iH ds,mkF]
theorem iH:∀ds:List D,aD (fzL ds)=true
 |[]=>rfl
 |d::r=>by simp[fzL,aD,CP d,iH r]
end
theorem Lw(d:D):clean (Jb.fz d)=true:=by simp[clean,Be,CP]
mutual
theorem Rep.dom:∀{d:D}{v:V}{L:List Addr},Rep G H W d v L->∀a∈L,Mu H a
 |.non,v,L,h=>by rw[Rep]at h;rw[h.2];simp
 |.bl _,v,L,h=>by rw[Rep]at h;rw[h.2];simp
 |.int _,v,L,h=>by rw[Rep]at h;rw[h.2];simp
 |.str _,v,L,h=>by rw[Rep]at h;rw[h.2];simp
 |.ty _,v,L,h=>by rw[Rep]at h;rw[h.2];simp
 |.tup ds,v,L,h=>by
  rw[Rep]at h;obtain⟨a,xs,rfl,q,Z⟩:=h;exact aM.dom Z
 |.lst m ds,v,L,h=>by
  rw[Rep]at h;obtain⟨a,xs,M,rfl,Z,O⟩:=h;intro b U;cases m with
  |own=>
   rw[O.2]at U;rcases Yj.mp U with z|z
   .rw[z];exact⟨_,O.1,rfl⟩
   .exact aM.dom Z b z
  |frz=>rw[O.2.2.2]at U;cases U
  |brw=>rw[O.2.2.2]at U;cases U
  |bro=>rw[O.2.2]at U;cases U
  |scr=>rw[O.2.2]at U;cases U
 |.dct m ks ds,v,L,h=>by
  rw[Rep]at h;obtain⟨a,xs,M,rfl,J,Z,O⟩:=h;intro b U;cases m with
  |own=>
   rw[O.2]at U;rcases Yj.mp U with z|z
   .rw[z];exact⟨_,O.1,rfl⟩
   .exact aM.dom Z b z
  |frz=>rw[O.2.2.2]at U;cases U
  |brw=>rw[O.2.2.2]at U;cases U
  |bro=>rw[O.2.2]at U;cases U
  |scr=>rw[O.2.2]at U;cases U
 |.ins m c fs ds,v,L,h=>by
  rw[Rep]at h;obtain⟨a,C,dx,xs,M,rfl,B,J,Z,O⟩:=h;intro b U;cases m with
  |own=>
   rw[O.2]at U;rcases Yj.mp U with z|z
   .rw[z];exact⟨_,O.1,rfl⟩
   .exact aM.dom Z b z
  |frz=>rw[O.2.2.2]at U;cases U
  |brw=>rw[O.2.2.2]at U;cases U
  |bro=>rw[O.2.2]at U;cases U
  |scr=>rw[O.2.2]at U;cases U
theorem aM.dom:∀{ds:List D}{B:List V}{L:List Addr},aM G H W ds B L->∀a∈L,Mu H a
 |[],B,L,h=>by rw[h.inv0.2];simp
 |d::r,B,L,h=>by
  obtain⟨x,ys,M,M',rfl,rfl,h1,h2⟩:=h.inv;intro a Y;rcases List.mem_append.mp Y with z|z
  .exact Rep.dom h1 a z
  .exact aM.dom h2 a z
end
abbrev En:=List (Option D)
abbrev Ad:=Nat->List Addr
def Rel(G:Gc)(H:Hp)(W:Wn)(ob:Nat->Bool)(ρ:En)(σ:L2.St):Prop:=∀(i:Nat)(d:D),ρ[i]? =some (some d)->∃v L,σ[i]? =some (some v)/\Rep G H W d v L/\(ob i=false->∀c∈L,W.s c)
def WOk(H:Hp)(W:Wn):Prop:=∀a,W.n a∨W.s a∨W.o a->Mu H a
variable{ρ:En}
theorem Rel.up(r:Rel G H W ob ρ σ)(u:Up H H' W W'):Rel G H' W' ob ρ σ:=λi d e=>let⟨v,L,h1,h2,h3⟩:=r i d e;⟨v,L,h1,h2.up u,λz c F=>let⟨o,ho,_⟩:=h2.dom c F;u.n c o ho (h3 z c F)⟩
theorem WOk.add(h:WOk H W)(s:Same H H')(q:∀a∈L,Mu H' a):WOk H' (W.add L):=λa Y=>by
 rcases Y with(z|z)|z
 .exact q a z
 .obtain⟨o,h1,h2⟩:=h a (.inl z);exact⟨o,s a o h1,h2⟩
 .obtain⟨o,h1,h2⟩:=h a (.inr z);exact⟨o,s a o h1,h2⟩
def wn(ob:Nat->Bool)(S:Ad)(Fr:Addr->Prop):Wn:=⟨Fr,λa=>∃i,ob i=false/\a∈S i,λa=>∃i,ob i=true/\a∈S i⟩
def inS(S:Ad)(a:Addr):Prop:=∃i,a∈S i
def inO(ob:Nat->Bool)(S:Ad)(a:Addr):Prop:=∃i,ob i=true/\a∈S i
def plus(M:List Addr)(Fr:Addr->Prop):Addr->Prop:=λa=>a∈M∨Fr a
structure Sta(G:Gc)(H:Hp)(ob:Nat->Bool)(ρ:En)(σ:L2.St)(S:Ad)(Fr:Addr->Prop):Prop where
 len:ρ.length=σ.length
 sl:∀(i:Nat)(d:D),ρ[i]? =some (some d)->∃v,σ[i]? =some (some v)/\Rep G H (wn ob S Fr) d v (S i)/\clean d=true
 em:∀i,(∀d,ρ[i]?≠some (some d))->S i=[]
 nd:∀i,(S i).Nodup
 dj:∀i j a,a∈S i->a∈S j->i=j
 fdj:∀i a,Fr a->a∉S i
 fdm:∀a,Fr a->Mu H a
section
variable{G:Gc}{H H':Hp}{ob:Nat->Bool}{ρ:En}{σ:L2.St}{S S':Ad}{Fr Fr':Addr->Prop}
theorem Sta.mu(s:Sta G H ob ρ σ S Fr){i:Nat}{a:Addr}(h:a∈S i):Mu H a:=by
 by_cases e:∃d,ρ[i]? =some (some d)
 .obtain⟨d,e⟩:=e
  obtain⟨v,_,r,_⟩:=s.sl i d e;exact r.dom a h
 .rw[s.em i λd z=>e ⟨d,z⟩]at h
  cases h
theorem Sta.wok(s:Sta G H ob ρ σ S Fr):WOk H (wn ob S Fr):=λa Y=>by
 rcases Y with z|⟨i,_,z⟩|⟨i,_,z⟩
 .exact s.fdm a z
 .exact s.mu z
 .exact s.mu z
theorem Sta.rel(s:Sta G H ob ρ σ S Fr):Rel G H (wn ob S Fr) ob ρ σ:=λi d e=>by
 obtain⟨v,h1,h2,_⟩:=s.sl i d e;exact⟨v,S i,h1,h2,λz c F=>⟨i,z,F⟩⟩
theorem Sta.grow(s:Sta G H ob ρ σ S Fr)(B:Same H H')(h1:∀a,Fr' a->Fr a∨(H a=none/\Mu H' a)):Sta G H' ob ρ σ S Fr' where
 len:=s.len
 sl:=λi d e=>by
  obtain⟨v,q1,q2,D⟩:=s.sl i d e;have F:aA d=true/\az d=true:=by simpa[clean]using D
  have J:Evo H H' (wn ob S Fr) (wn ob S Fr'):=⟨λb u h f=>⟨B b u h,⟨λz=>(h1 b z).elim f.1 (λz=>by rw[z.1]at h;cases h),f.2⟩⟩,λb xs h=>B b _ h⟩;exact⟨v,q1,q2.mono J (.inl F.1) (.inl F.2) λc _ u e=>B c u e,D⟩
 em:=s.em
 nd:=s.nd
 dj:=s.dj
 fdj:=λi a h z=>by
  rcases h1 a h with q|q
  .exact s.fdj i a q z
  .obtain⟨o,ho,_⟩:=s.mu z
   rw[q.1]at ho;cases ho
 fdm:=λa h=>by
  rcases h1 a h with q|q
  .obtain⟨o,ho,hm⟩:=s.fdm a q
   exact⟨o,B a o ho,hm⟩
  .exact q.2
theorem Sta.lessF(s:Sta G H ob ρ σ S Fr)(h1:∀a,Fr' a->Fr a):Sta G H ob ρ σ S Fr':=s.grow (Same.refl H) λa h=>.inl (h1 a h)
end
def RfE(G:Gc)(ob:Nat->Bool)(t:TE)(f:En->Option D):Prop:=∀(ρ:En)(d:D),f ρ=some d->∀(σ:L2.St)(H:Hp)(W:Wn),Rel G H W ob ρ σ->WOk H W->∀Q:VK,
 (∀v H' L,Same H H'->Rep G H' (W.add L) d v L->(∀a∈L,H a=none)->L.Nodup->Q v H')->t σ H Q
def RfT(G:Gc)(ob:Nat->Bool)(t:TT)(f:En->Option Bool):Prop:=∀(ρ:En)(b:Bool),f ρ=some b->∀(σ:L2.St)(H:Hp)(W:Wn),Rel G H W ob ρ σ->WOk H W->∀Q:Bool->Hp->Prop,
 (∀H',Same H H'->Q b H')->t σ H Q
def RfA(G:Gc)(ob:Nat->Bool)(t:TA)(f:En->Option (List D)):Prop:=∀(ρ:En)(ds:List D),f ρ=some ds->∀(σ:L2.St)(H:Hp)(W:Wn),Rel G H W ob ρ σ->WOk H W->∀Q:List V->Hp->Prop,
 (∀B H' L,Same H H'->aM G H' (W.add L) ds B L->(∀a∈L,H a=none)->L.Nodup->Q B H')->t σ H Q
structure Eff(ob:Nat->Bool)(H H':Hp)(S S':Ad)(M:List Addr):Prop where
 kp:∀b u,H b=some u->¬inO ob S b->H' b=some u
 sn:∀i,ob i=false->S' i=S i
 gr:∀i a,ob i=true->a∈S' i->inO ob S a∨H a=none
 fm:∀a∈M,inO ob S a∨H a=none
def mW(G:Gc)(ob:Nat->Bool)(t:TE)(f:En->Option (D×En)):Prop:=∀(ρ:En)(d:D)(I:En),f ρ=some (d,I)->∀(σ:L2.St)(H:Hp)(S:Ad)(Fr:Addr->Prop),Sta G H ob ρ σ S Fr->∀Q:VK,
 (∀v H' M S',Sta G H' ob I σ S' (plus M Fr)->Rep G H' (wn ob S' (plus M Fr)) d v M->M.Nodup->Eff ob H H' S S' M->Q v H')->t σ H Q
def CW(G:Gc)(ob:Nat->Bool)(t:TT)(f:En->Option (Bool×En)):Prop:=∀(ρ:En)(b:Bool)(I:En),f ρ=some (b,I)->∀(σ:L2.St)(H:Hp)(S:Ad)(Fr:Addr->Prop),Sta G H ob ρ σ S Fr->∀Q:Bool->Hp->Prop,
 (∀H' S',Sta G H' ob I σ S' Fr->Eff ob H H' S S' []->Q b H')->t σ H Q
def Dp(G:Gc)(ob:Nat->Bool)(t:TA)(f:En->Option (List D×En)):Prop:=∀(ρ:En)(ds:List D)(I:En),f ρ=some (ds,I)->∀(σ:L2.St)(H:Hp)(S:Ad)(Fr:Addr->Prop),Sta G H ob ρ σ S Fr->∀Q:List V->Hp->Prop,
 (∀B H' M S',Sta G H' ob I σ S' (plus M Fr)->aM G H' (wn ob S' (plus M Fr)) ds B M->M.Nodup->Eff ob H H' S S' M->Q B H')->t σ H Q
inductive Fl where
 |nx (ρ:En)|ret (d:D) (ρ:En)|brk (ρ:En)|cnt (ρ:En)
def Fz(P:Nat->Bool)(σ O:L2.St):Prop:=∀i,P i=true->O[i]? =σ[i]?
variable{P:Nat->Bool}
theorem Fz.refl:Fz P σ σ:=λ_ _=>rfl
theorem Fz.trans{Y σ2:L2.St}(a:Fz P σ Y)(b:Fz P Y σ2):Fz P σ σ2:=λi h=>(b i h).trans (a i h)
structure Mv(P:Nat->Bool)(H H':Hp)(σ σ':L2.St)(S S':Ad)(M:List Addr):Prop where
 kp:∀b u,H b=some u->¬inS S b->b∉M->H' b=some u
 gr:∀i a,a∈S' i->inS S a∨a∈M∨H a=none
 pr:Fz P σ σ'
variable{S:Ad}
theorem Mv.trans{H1:Hp}{Y σ2:L2.St}{S1 S2:Ad}(a:Mv P H H1 σ Y S S1 M)(b:Mv P H1 H2 Y σ2 S1 S2 []):Mv P H H2 σ σ2 S S2 M where
 kp:=λc u h n m=>b.kp c u (a.kp c u h n m) (λ⟨i,z⟩=>(a.gr i c z).elim n λz=>z.elim m λe=>by rw[h]at e;cases e) (by simp)
 gr:=λi c z=>by
  rcases b.gr i c z with⟨j,q⟩|q|q
  .exact a.gr j c q
  .cases q
  .by_cases h:inS S c
   .exact .inl h
   .by_cases hm:c∈M
    .exact .inr (.inl hm)
    .refine .inr (.inr ?_)
     cases e:H c with
     |none=>rfl
     |some u=>rw[a.kp c u e h hm]at q;cases q
 pr:=a.pr.trans b.pr
theorem Eff.mv{S':Ad}(e:Eff ob H H' S S' M):Mv P H H' σ σ S S' []where
 kp:=λb u h n _=>e.kp b u h λ⟨i,_,z⟩=>n ⟨i,z⟩
 gr:=λi a z=>by
  cases h:ob i with
  |false=>rw[e.sn i h]at z;exact .inl ⟨i,z⟩
  |true=>exact(e.gr i a h z).imp (λ⟨j,_,q⟩=>⟨j,q⟩) .inr
 pr:=.refl
def Aft(G:Gc)(ob P:Nat->Bool)(H:Hp)(σ:L2.St)(S:Ad)(Fr:Addr->Prop)(E:Ends):Fl->Prop
 |.nx I=>∀O H' S',Sta G H' ob I O S' Fr->Mv P H H' σ O S S' []->E.nx O H'
 |.brk I=>∀O H' S',Sta G H' ob I O S' Fr->Mv P H H' σ O S S' []->E.bk O H'
 |.cnt I=>∀O H' S',Sta G H' ob I O S' Fr->Mv P H H' σ O S S' []->E.ct O H'
 |.ret d I=>∀v O H' M S',Sta G H' ob I O S' (plus M Fr)->Rep G H' (wn ob S' (plus M Fr)) d v M->clean d=true->M.Nodup->(∀a∈M,inS S a∨H a=none)->Mv P H H' σ O S S' []->E.rt v H'
def RfS(G:Gc)(ob P:Nat->Bool)(t:TS)(f:En->Option Fl):Prop:=∀(ρ:En)(r:Fl),f ρ=some r->∀(σ:L2.St)(H:Hp)(S:Ad)(Fr:Addr->Prop),Sta G H ob ρ σ S Fr->∀E:Ends,Aft G ob P H σ S Fr E r->t E σ H
def RfG(G:Gc)(ob P:Nat->Bool)(g:TG)(f:D->En->Option En):Prop:=∀(d:D)(ρ I:En),f d ρ=some I->∀(v:V)(σ:L2.St)(H:Hp)(S:Ad)(M:List Addr)(Fr:Addr->Prop),Sta G H ob ρ σ S (plus M Fr)->Rep G H (wn ob S (plus M Fr)) d v M->M.Nodup->(∀a∈M,¬Fr a)->
 ∀Q:L2.St->Hp->Prop,(∀O H' S',Sta G H' ob I O S' Fr->Mv P H H' σ O S S' M->Q O H')->g v σ H Q
def XS(G:Gc)(ob P:Nat->Bool)(g:TGs)(f:List D->En->Option En):Prop:=∀(ds:List D)(ρ I:En),f ds ρ=some I->∀(B:List V)(σ:L2.St)(H:Hp)(S:Ad)(M:List Addr)(Fr:Addr->Prop),Sta G H ob ρ σ S (plus M Fr)->aM G H (wn ob S (plus M Fr)) ds B M->M.Nodup->(∀a∈M,¬Fr a)->
 ∀Q:L2.St->Hp->Prop,(∀O H' S',Sta G H' ob I O S' Fr->Mv P H H' σ O S S' M->Q O H')->g B σ H Q
structure PV{ι:Type}(X:ι->Cx)(G:Gc)(ob:Nat->Bool)(e:Expr)(f:En->Option D):Prop where
 mk::(ex:∃t,(∀c,PE (X c) e t)/\RfE G ob t f)
structure PVT{ι:Type}(X:ι->Cx)(G:Gc)(ob:Nat->Bool)(e:Expr)(f:En->Option Bool):Prop where
 mk::(ex:∃t,(∀c,PT (X c) e t)/\RfT G ob t f)
structure PVW{ι:Type}(X:ι->Cx)(G:Gc)(ob:Nat->Bool)(e:Expr)(f:En->Option Bool):Prop where
 mk::(ex:∃t,(∀c,PW (X c) e t)/\RfT G ob t f)
structure PVA{ι:Type}(X:ι->Cx)(G:Gc)(ob:Nat->Bool)(es:List Expr)(f:En->Option (List D)):Prop where
 mk::(ex:∃t,(∀c,PA (X c) es t)/\RfA G ob t f)
structure PVe{ι:Type}(X:ι->Cx)(G:Gc)(ob:Nat->Bool)(e:Expr)(f:En->Option (D×En)):Prop where
 mk::(ex:∃t,(∀c,PE (X c) e t)/\mW G ob t f)
structure Ei{ι:Type}(X:ι->Cx)(G:Gc)(ob:Nat->Bool)(e:Expr)(f:En->Option (Bool×En)):Prop where
 mk::(ex:∃t,(∀c,PT (X c) e t)/\CW G ob t f)
structure wF{ι:Type}(X:ι->Cx)(G:Gc)(ob:Nat->Bool)(es:List Expr)(f:En->Option (List D×En)):Prop where
 mk::(ex:∃t,(∀c,PA (X c) es t)/\Dp G ob t f)
structure PVS{ι:Type}(X:ι->Cx)(G:Gc)(ob P:Nat->Bool)(st:Stmt)(f:En->Option Fl):Prop where
 mk::(ex:∃t,(∀c,PS (X c) st t)/\RfS G ob P t f)
structure pA{ι:Type}(X:ι->Cx)(G:Gc)(ob P:Nat->Bool)(st:List Stmt)(f:En->Option Fl):Prop where
 mk::(ex:∃t,(∀c,PSs (X c) st t)/\RfS G ob P t f)
structure PVG{ι:Type}(X:ι->Cx)(G:Gc)(ob P:Nat->Bool)(tg:Expr)(f:D->En->Option En):Prop where
 mk::(ex:∃t,(∀c,PG (X c) tg t)/\RfG G ob P t f)
theorem fK(h1:L.Nodup)(h2:M.Nodup)(V:∀a∈L,a∉M):(L++M).Nodup:=List.nodup_append.mpr ⟨h1,h2,λa Y b U e=>V a Y (e▸U)⟩
def Wn.drop(W:Wn)(L:List Addr):Wn:=⟨λa=>W.n a/\a∉L,W.s,W.o⟩
def Wn.tmp(W:Wn)(a:Addr):Prop:=W.n a/\¬W.s a/\¬W.o a
theorem WOk.tmp(w:WOk H W)(I:∀a∈L,H a=none):∀a∈L,(W.add L).tmp a:=λa Y=>by
 refine⟨.inl Y,λz=>?_,λz=>?_⟩
 .obtain⟨o,ho,_⟩:=w a (.inr (.inl z));rw[I a Y]at ho;cases ho
 .obtain⟨o,ho,_⟩:=w a (.inr (.inr z));rw[I a Y]at ho;cases ho
def Done(G:Gc)(H:Hp)(W:Wn)(F:List Addr)(d:D)(Q:VK):Prop:=∀v H' L,Same H H'->Rep G H' ((W.drop F).add L) d v L->(∀a∈L,a∈F∨H a=none)->L.Nodup->Q v H'
def OpV(G:Gc)(r:R2)(g:D->D->Option D):Prop:=∀(dx O d:D),g dx O=some d->∀(x y:V)(H:Hp)(W:Wn)(B J:List Addr),Rep G H W dx x B->Rep G H W O y J->(B++J).Nodup->(∀a∈B++J,W.tmp a)->WOk H W->∀Q:VK,Done G H W (B++J) d Q->r x y H Q
def UnV(G:Gc)(r:V->Hp->VK->Prop)(g:D->Option D):Prop:=∀(dx d:D),g dx=some d->∀(x:V)(H:Hp)(W:Wn)(B:List Addr),Rep G H W dx x B->B.Nodup->(∀a∈B,W.tmp a)->WOk H W->∀Q:VK,Done G H W B d Q->r x H Q
def CaV(G:Gc)(r:List V->Hp->VK->Prop)(g:List D->Option D):Prop:=∀(ds:List D)(d:D),g ds=some d->∀(xs:List V)(H:Hp)(W:Wn)(F:List Addr),aM G H W ds xs F->F.Nodup->(∀a∈F,W.tmp a)->WOk H W->∀Q:VK,Done G H W F d Q->r xs H Q
def MtV(G:Gc)(r:V->List V->Hp->VK->Prop)(g:D->List D->Option D):Prop:=∀(dx:D)(ds:List D)(d:D),g dx ds=some d->∀(x:V)(xs:List V)(H:Hp)(W:Wn)(B F:List Addr),Rep G H W dx x B->aM G H W ds xs F->(B++F).Nodup->(∀a∈B++F,W.tmp a)->WOk H W->∀Q:VK,Done G H W (B++F) d Q->r x xs H Q
theorem WOk.new(w:WOk H W)(I:∀a∈L,H a=none)(h:W.n a):a∉L:=λz=>by
 obtain⟨o,J,_⟩:=w a (.inl h);rw[I a z]at J;cases J
variable{Q:VK}
theorem Done.scal{F:List Addr}(h:Done G H W F d Q)(r:∀W,Rep G H W d v []):Q v H:=h v H [] (Same.refl H) (r _) (by simp) List.nodup_nil
theorem _root_.L2.Same.none'(s:Same H H')(h:H' a=none):H a=none:=Same.free s h
variable{ta tb:TE}{fa fb:En->Option D}
theorem RfE.two(Y:RfE G ob ta fa)(U:RfE G ob tb fb){dx O:D}(e1:fa ρ=some dx)(e2:fb ρ=some O)(r:Rel G H W ob ρ σ)(w:WOk H W){R:V->V->Hp->Prop}
  (h:∀x y H' L M,Same H H'->Rep G H' (W.add (L++M)) dx x L->Rep G H' (W.add (L++M)) O y M->(∀a∈L++M,H a=none)->(L++M).Nodup->WOk H' (W.add (L++M))->R x y H'):ta σ H λx H1=>tb σ H1 λy H2=>R x y H2:=by
 refine Y ρ dx e1 σ H W r w _ λx H1 L Z rx fx nx=>?_;have u1:Up H H1 W (W.add L):=.add Z fx;have w1:WOk H1 (W.add L):=w.add Z rx.dom;refine U ρ O e2 σ H1 (W.add L) (r.up u1) w1 _ λy H2 M B ry F ny=>?_;have q:∀a∈L,a∉M:=λa h1 h2=>by
  obtain⟨o,J,_⟩:=rx.dom a h1;rw[F a h2]at J;cases J
 have eW:∀a,((W.add L).add M).n a↔(W.add (L++M)).n a:=λa=>by
  show(a∈M∨a∈L∨W.n a)↔(a∈L++M∨W.n a);rw[Zy];constructor
  .rintro(z|z|z)
   .exact .inl (.inr z)
   .exact .inl (.inl z)
   .exact .inr z
  .rintro((z|z)|z)
   .exact .inr (.inl z)
   .exact .inl z
   .exact .inr (.inr z)
 have a0:(W.add L).add M=W.add (L++M):=by
  show Wn.mk _ _ _=Wn.mk _ _ _;congr 1;funext a;exact propext (eW a)
 have I:Up H1 H2 (W.add L) (W.add (L++M)):=by rw[←a0];exact .add B F
 rw[a0]at ry;refine h x y H2 L M (Z.trans B) (rx.up I) ry (λa Y=>?_) (fK nx ny q) ?_
 .rcases List.mem_append.mp Y with z|z
  .exact fx a z
  .exact Z.none' (F a z)
 .rw[←a0]
  exact w1.add B ry.dom
def ak(b:Bool)(i:Nat):En->Option D:=λρ=>match ρ[i]? with
 |some (some d)=>some (view b d)
 |_=>none
def eC(d:D):En->Option D:=λ_=>some d
theorem xj(W:Wn):W.add []=W:=by
 cases W;simp[Wn.add]
theorem Uh:RfE G ob (Dv i) (ak (ob i) i):=λρ d e σ H W r w Q q=>by
 unfold ak at e;split at e
 .rename_i d0 e0
  cases e;obtain⟨v,L,h1,h2,V⟩:=r i d0 e0;refine⟨v,h1,q v H [] (Same.refl H) ?_ (by simp) List.nodup_nil⟩;rw[xj];exact h2.view V
 .cases e
variable{X:ι->Cx}
theorem aj(b:Bool)(i:Nat)(U:ob i=b:=by rfl)(z:∀c,(X c).N[i]? =some x:=by intro _;rfl)(J:∀c,Vis (X c).env.scope x:=by intro _;first|exact ZX rfl|exact Zm (ZX rfl)|exact Zm (Zm rfl))(hd:(x==("__debug__":Str))=false:=by decide)(I:(x==("__classdict__":Str))=false:=by decide):PV X G ob (.Name x pos) (ak b i):=⟨_,λc=>pv i (z c) (J c) hd I,by rw[←U];exact Uh⟩
theorem Em(h:∀H W,Rep G H W d v []):RfE G ob (tC v) (eC d):=λρ d' e σ H W r w Q q=>by
 cases e;exact q v H [] (Same.refl H) (h _ _) (by simp) List.nodup_nil
theorem aF{i j pos}:PV X G ob (.Constant (.int i) j pos) (eC (.int i)):=⟨_,λc=>Oa,Em λ_ _=>by simp[Rep]⟩
theorem eZ{b j pos}:PV X G ob (.Constant (.bool b) j pos) (eC (.bl b)):=⟨_,λc=>Vl,Em λ_ _=>by simp[Rep]⟩
theorem yu{j pos}:PV X G ob (.Constant .none j pos) (eC .non):=⟨_,λc=>Uy,Em λ_ _=>by simp[Rep]⟩
theorem jK{x j pos}:PV X G ob (.Constant (.str x) j pos) (eC (.str x)):=⟨_,λc=>FW,Em λ_ _=>by simp[Rep]⟩
theorem j_{n:String}(B:∀c,Gl (X c) x)(V:∀c,(X c).mg x=none)(J:Z7 x=some (.type n))(I:x≠"__name__":=by decide)(hd:(x==("__debug__":Str))=false:=by decide):PV X G ob (.Name x pos) (eC (.ty n)):=⟨_,λc=>Wj (B c) (V c) J I hd,Em λ_ _=>by simp[Rep]⟩
structure OpB{ι:Type}(X:ι->Cx)(G:Gc)(f:Value->Value->Sem Value)(g:D->D->Option D):Prop where
 ex:∃r,(∀c,OpR (X c) f r)/\OpV G r g
structure UnB{ι:Type}(X:ι->Cx)(G:Gc)(f:Value->Sem Value)(g:D->Option D):Prop where
 ex:∃r,(∀c,UnR (X c) f r)/\UnV G r g
structure IxB{ι:Type}(X:ι->Cx)(G:Gc)(g:D->D->Option D):Prop where
 ex:∃r,(∀c,IxR (X c) r)/\OpV G r g
structure CaB{ι:Type}(X:ι->Cx)(G:Gc)(f:Value)(g:List D->Option D):Prop where
 ex:∃r,(∀c,gQ (X c) f r)/\CaV G r g
structure MtB{ι:Type}(X:ι->Cx)(G:Gc)(T id:String)(g:D->List D->Option D):Prop where
 ex:∃r,(∀c,MtR (X c) id r)/\MtV G r g/\∀dx ds d,g dx ds=some d->∀(x:V)(H:Hp)(W:Wn)(Lx:List Addr),Rep G H W dx x Lx->tyV G.K T x H
def e2(g:D->D->Option D)(fa fb:En->Option D):En->Option D:=λρ=>(fa ρ).bind λx=>(fb ρ).bind λy=>g x y
def e1(g:D->Option D)(fa:En->Option D):En->Option D:=λρ=>(fa ρ).bind g
variable{g:D->D->Option D}
theorem CT{r:R2}(J:OpV G r g)(Y:RfE G ob ta fa)(U:RfE G ob tb fb):RfE G ob (tOp r ta tb) (e2 g fa fb):=λρ d e σ H W V w Q q=>by
 unfold e2 at e;cases h1:fa ρ with
 |none=>rw[h1]at e;cases e
 |some dx=>
  rw[h1]at e;cases h2:fb ρ with
  |none=>simp[h2]at e
  |some F=>
   have e:g dx F=some d:=by simpa[h2]using e
   refine RfE.two Y U h1 h2 V w λx y H' L M s rx ry I nd w'=>?_;refine J dx F d e x y H' _ L M rx ry nd (w.tmp I) w' Q λv H2 L2 B O f2 Z=>?_;refine q v H2 L2 (s.trans B) ?_ (λa Y=>(f2 a Y).elim (I a) λz=>s.none' z) Z;exact O.up ⟨Same.refl _,λb u U f=>⟨λz=>z.elim (λz=>f.1 (.inl z)) λz=>f.1 (.inr ⟨.inr z,WOk.new w I z⟩),f.2⟩,λ_ _ _ f=>f⟩
theorem Vj{r:V->Hp->VK->Prop}{g:D->Option D}(J:UnV G r g)(Y:RfE G ob ta fa):RfE G ob (tUn r ta) (e1 g fa):=λρ d e σ H W F w Q q=>by
 unfold e1 at e;cases h1:fa ρ with
 |none=>rw[h1]at e;cases e
 |some dx=>
  rw[h1]at e;have e:g dx=some d:=by simpa using e
  refine Y ρ dx h1 σ H W F w _ λx H' L s rx I nd=>?_;refine J dx d e x H' _ L rx nd (w.tmp I) (w.add s rx.dom) Q λv H2 L2 B O f2 Z=>?_;refine q v H2 L2 (s.trans B) ?_ (λa Y=>(f2 a Y).elim (I a) λz=>s.none' z) Z;exact O.up ⟨Same.refl _,λb u U f=>⟨λz=>z.elim (λz=>f.1 (.inl z)) λz=>f.1 (.inr ⟨.inr z,WOk.new w I z⟩),f.2⟩,λ_ _ _ f=>f⟩
def aB:En->Option (List D):=λ_=>some []
def ao(fa:En->Option D)(I:En->Option (List D)):En->Option (List D):=λρ=>(fa ρ).bind λx=>(I ρ).bind λxs=>some (x::xs)
theorem Ko:RfA G ob Xf aB:=λρ ds e σ H W O w Q q=>by
 cases e;exact q [] H [] (Same.refl H) .nil (by simp) List.nodup_nil
variable{t:TA}{I:En->Option (List D)}
theorem Qx(Y:RfE G ob ta fa)(Z:RfA G ob t I):RfA G ob (NQ ta t) (ao fa I):=λρ ds e σ H W O w Q q=>by
 unfold ao at e;cases h1:fa ρ with
 |none=>rw[h1]at e;cases e
 |some dx=>
  rw[h1]at e;cases h2:I ρ with
  |none=>simp[h2]at e
  |some es=>
   have e:dx::es=ds:=by simpa[h2]using e
   subst e;refine Y ρ dx h1 σ H W O w _ λx H1 L s1 rx fx nx=>?_;have V:Up H H1 W (W.add L):=.add s1 fx;have w1:WOk H1 (W.add L):=w.add s1 rx.dom;refine Z ρ es h2 σ H1 (W.add L) (O.up V) w1 _ λys H2 M B ry F ny=>?_;have a0:∀a∈L,a∉M:=λa h1 h2=>by
    obtain⟨o,J,_⟩:=rx.dom a h1;rw[F a h2]at J;cases J
   have u2:Up H1 H2 (W.add L) (W.add (L++M)):=⟨B,λb u U f=>⟨λz=>z.elim (λz=>(List.mem_append.mp z).elim (λz=>f.1 (.inl z)) λz=>by rw[F b z]at U;cases U) λz=>f.1 (.inr z),f.2⟩,λ_ _ _ f=>f⟩;refine q (x::ys) H2 (L++M) (s1.trans B) (.cons (rx.up u2) (ry.up ⟨Same.refl _,λb u U f=>⟨λz=>?_,f.2⟩,λ_ _ _ f=>f⟩)) (λa Y=>?_) (fK nx ny a0)
   .rcases z with z|z
    .exact(List.mem_append.mp z).elim (λz=>f.1 (.inr (.inl z))) λz=>f.1 (.inl z)
    .exact f.1 (.inr (.inr z))
   .rcases List.mem_append.mp Y with z|z
    .exact fx a z
    .exact s1.none' (F a z)
variable{r:List V->Hp->VK->Prop}{f:En->Option (List D)}
theorem wg{g:List D->Option D}(J:CaV G r g)(h:RfA G ob t f):RfE G ob (λσ H Q=>t σ H λB H1=>r B H1 Q) (λρ=>(f ρ).bind g):=λρ d e σ H W F w Q q=>by
 cases h1:f ρ with
 |none=>simp[h1]at e
 |some ds=>
  have e:g ds=some d:=by simpa[h1]using e
  refine h ρ ds h1 σ H W F w _ λxs H' L s rx I nd=>?_;refine J ds d e xs H' _ L rx nd (w.tmp I) (w.add s rx.dom) Q λv H2 L2 s2 O f2 Z=>?_;refine q v H2 L2 (s.trans s2) ?_ (λa Y=>(f2 a Y).elim (I a) λz=>s.none' z) Z;exact O.up ⟨Same.refl _,λb u U f=>⟨λz=>z.elim (λz=>f.1 (.inl z)) λz=>f.1 (.inr ⟨.inr z,WOk.new w I z⟩),f.2⟩,λ_ _ _ f=>f⟩
def eAp(g:List D->Option D)(f:En->Option (List D)):En->Option D:=λρ=>(f ρ).bind g
theorem Wv{r:V->List V->Hp->VK->Prop}{g:D->List D->Option D}{ty:V->Hp->Prop}{to:TE}{fo:En->Option D}(J:MtV G r g)(a1:∀dx ds d,g dx ds=some d->∀(x:V)(H:Hp)(W:Wn)(Lx:List Addr),Rep G H W dx x Lx->ty x H)
  (h0:RfE G ob to fo) (h:RfA G ob t f):RfE G ob (λσ H Q=>to σ H λx H1=>ty x H1/\t σ H1 λxs H2=>r x xs H2 Q) (λρ=>(fo ρ).bind λx=>(f ρ).bind λds=>g x ds):=λρ d e σ H W O w Q q=>by
 cases h1:fo ρ with
 |none=>simp[h1]at e
 |some dx=>
  cases h2:f ρ with
  |none=>simp[h1,h2]at e
  |some ds=>
   have e:g dx ds=some d:=by simpa[h1,h2]using e
   refine h0 ρ dx h1 σ H W O w _ λx H1 L Z rx fx nx=>⟨a1 dx ds d e x H1 _ L rx,?_⟩;have u1:Up H H1 W (W.add L):=.add Z fx;have w1:WOk H1 (W.add L):=w.add Z rx.dom;refine h ρ ds h2 σ H1 (W.add L) (O.up u1) w1 _ λys H2 M B ry fy ny=>?_;have a0:∀a∈L,a∉M:=λa h1 h2=>by
    obtain⟨o,J,_⟩:=rx.dom a h1;rw[fy a h2]at J;cases J
   have u2:Up H1 H2 (W.add L) (W.add (L++M)):=⟨B,λb u U f=>⟨λz=>z.elim (λz=>(List.mem_append.mp z).elim (λz=>f.1 (.inl z)) λz=>by rw[fy b z]at U;cases U) λz=>f.1 (.inr z),f.2⟩,λ_ _ _ f=>f⟩;have u3:Up H2 H2 ((W.add L).add M) (W.add (L++M)):=⟨Same.refl _,λb u U f=>⟨λz=>by
    rcases z with z|z
    .exact(List.mem_append.mp z).elim (λz=>f.1 (.inr (.inl z))) λz=>f.1 (.inl z)
    .exact f.1 (.inr (.inr z)),f.2⟩,λ_ _ _ f=>f⟩
   have w2:WOk H2 (W.add (L++M)):=w.add (Z.trans B) λa Y=>(List.mem_append.mp Y).elim (λz=>let⟨o,h,m⟩:=rx.dom a z;⟨o,B a o h,m⟩) (ry.dom a);refine J dx ds d e x ys H2 (W.add (L++M)) L M (rx.up u2) (ry.up u3) (fK nx ny a0) (w.tmp λa Y=>(List.mem_append.mp Y).elim (fx a) λz=>Z.none' (fy a z)) w2 Q λv F L3 s3 r3 f3 I=>?_;refine q v F L3 ((Z.trans B).trans s3) ?_ (λa Y=>(f3 a Y).elim (λz=>?_) λz=>(Z.trans B).none' z) I
   .exact r3.up ⟨Same.refl _,λb u U f=>⟨λz=>z.elim (λz=>f.1 (.inl z)) λz=>f.1 (.inr ⟨.inr z,WOk.new w (λa Y=>(List.mem_append.mp Y).elim (fx a) λz=>Z.none' (fy a z)) z⟩),f.2⟩,λ_ _ _ f=>f⟩
   .rcases List.mem_append.mp z with z|z
    .exact fx a z
    .exact Z.none' (fy a z)
variable{a b:Expr}
theorem cO{op:Operator}(o:OpB X G (ZK op) g)(Y:PV X G ob a fa)(U:PV X G ob b fb):PV X G ob (.BinOp a op b pos) (e2 g fa fb):=let⟨r,o1,o2⟩:=o.ex;let⟨t,a1,a2⟩:=Y.ex;let⟨u,b1,b2⟩:=U.ex;⟨_,λc=>Q_ (o1 c) (a1 c) (b1 c),CT o2 a2 b2⟩
theorem fP(o:OpB X G (YG op) g)(Y:PV X G ob a fa)(U:PV X G ob b fb)(V:abi op b=false:=by with_unfolding_all rfl):PV X G ob (.Compare a [op] [b] pos) (e2 g fa fb):=let⟨r,o1,o2⟩:=o.ex;let⟨t,a1,a2⟩:=Y.ex;let⟨u,b1,b2⟩:=U.ex;⟨_,λc=>Gf (o1 c) (a1 c) (b1 c) V,CT o2 a2 b2⟩
theorem lJ{op:UnaryOp}{g:D->Option D}(o:UnB X G (unaryOp op) g)(Y:PV X G ob a fa):PV X G ob (.UnaryOp op a pos) (e1 g fa):=let⟨r,o1,o2⟩:=o.ex;let⟨t,a1,a2⟩:=Y.ex;⟨_,λc=>Vz (o1 c) (a1 c),Vj o2 a2⟩
theorem cI(o:IxB X G g)(Y:PV X G ob a fa)(U:PV X G ob b fb)(O:uT b:=by exact λ_ _=>rfl):PV X G ob (.Subscript a b pos) (e2 g fa fb):=let⟨r,o1,o2⟩:=o.ex;let⟨t,a1,a2⟩:=Y.ex;let⟨u,b1,b2⟩:=U.ex;⟨_,λc=>M8 (o1 c) (a1 c) (b1 c) O,CT o2 a2 b2⟩
theorem aq:PVA X G ob [] aB:=⟨_,λc=>R4,Ko⟩
theorem aa{f:En->Option D}(Y:PV X G ob e f)(Z:PVA X G ob es I)(O:∀c,Yh (e::es) (X c).env=(false,eval e (X c).env)::Yh es (X c).env:=by intro _;rfl):PVA X G ob (e::es) (ao f I):=let⟨t,a1,a2⟩:=Y.ex;let⟨u,b1,b2⟩:=Z.ex;⟨_,λc=>zj (a1 c) (b1 c) (O c),Qx a2 b2⟩
variable{p:Pos}
theorem aV{id:String}{g:List D->Option D}(o:CaB X G (.builtin id) g)(B:∀c,Gl (X c) x)(V:∀c,(X c).mg x=none)(J:Z7 x=some (.builtin id))(Y:PVA X G ob (e::es) f)(I:x≠"__name__":=by decide)(q:(x==("__debug__":Str))=false:=by decide)(F:∀c,Yh (e::es) (X c).env=(false,eval e (X c).env)::Yh es (X c).env:=by intro _;rfl)(z:∀c,(Zx pos (Yh es (X c).env)).any (·.1)=false:=by intro _;rfl):PV X G ob (.Call (.Name x p) (e::es) [] pos) (eAp g f):=let⟨r,o1,o2⟩:=o.ex;let⟨t,a1,a2⟩:=Y.ex;⟨_,λc=>Nt (o1 c) (B c) (V c) J (a1 c) I q (F c) (z c),wg o2 a2⟩
theorem jZ{g:List D->Option D}(o:CaB X G (.type T) g)(B:∀c,Gl (X c) x)(V:∀c,(X c).mg x=none)(J:Z7 x=some (.type T))(Y:PVA X G ob (e::es) f)(I:x≠"__name__":=by decide)(q:(x==("__debug__":Str))=false:=by decide)(F:∀c,Yh (e::es) (X c).env=(false,eval e (X c).env)::Yh es (X c).env:=by intro _;rfl)(z:∀c,(Zx pos (Yh es (X c).env)).any (·.1)=false:=by intro _;rfl):PV X G ob (.Call (.Name x p) (e::es) [] pos) (eAp g f):=let⟨r,o1,o2⟩:=o.ex;let⟨t,a1,a2⟩:=Y.ex;⟨_,λc=>ym (o1 c) (B c) (V c) J (a1 c) I q (F c) (z c),wg o2 a2⟩
def bB(ds:List D):Option D:=if ds.length<=1000 then some (.tup ds)else none
def bL(ds:List D):Option D:=if ds.length<=1000 then some (.lst .own ds)else none
theorem BW(h:n<=1000):n<=Yc:=Y4 h (by decide)
theorem Ht:CaV G (λxs H Q=>xs.length<=Yc/\∀p,H p=none->Q (.ref p) (upd H p (.tup xs))) bB:=λds d e xs H W F r nd I w Q q=>by
 unfold bB at e;split at e
 .rename_i hl
  cases e;refine⟨BW (by rw[←r.length];exact hl),λp O=>?_⟩;have B:Same H (upd H p (.tup xs)):=Same.new O;refine q (.ref p) _ F B ?_ (λa Y=>.inl Y) nd;rw[Rep];exact⟨p,xs,rfl,aW,r.up ⟨B,λb u U f=>⟨λz=>z.elim (λz=>f.1 (I b z).1) λz=>f.1 z.1,f.2⟩,λ_ _ _ f=>f⟩⟩
 .cases e
theorem Gb:CaV G (λxs H Q=>xs.length<=Yc/\∀p,H p=none->Q (.ref p) (upd H p (.lst xs))) bL:=λds d e xs H W F r nd I w Q q=>by
 unfold bL at e;split at e
 .rename_i hl
  cases e;refine⟨BW (by rw[←r.length];exact hl),λp O=>?_⟩;have B:Same H (upd H p (.lst xs)):=Same.new O;refine q (.ref p) _ (p::F) B ?_ (λa Y=>(Yj.mp Y).elim (λz=>.inr (by rw[z];exact O)) .inl) (Yy.mpr ⟨λz=>?_,nd⟩)
  .rw[Rep]
   exact⟨p,xs,F,rfl,r.up ⟨B,λb u U f=>⟨λz=>z.elim (λz=>(Yj.mp z).elim (λz=>by rw[z,O]at U;cases U) λz=>f.1 (I b z).1) λz=>f.1 z.1,f.2⟩,λ_ _ _ f=>f⟩,aW,rfl⟩
  .obtain⟨o,ho,_⟩:=r.dom p z
   rw[O]at ho;cases ho
 .cases e
variable{k:Nat}
theorem eO(h:PVA X G ob es f):PV X G ob (.Tuple es k pos) (eAp bB f):=let⟨t,a1,a2⟩:=h.ex;⟨_,λc=>N_ (a1 c),wg Ht a2⟩
theorem fL(h:PVA X G ob es f):PV X G ob (.List es pos) (eAp bL f):=let⟨t,a1,a2⟩:=h.ex;⟨_,λc=>Ln (a1 c),wg Gb a2⟩
section
variable{G:Gc}{ob:Nat->Bool}{H H1 H2:Hp}{S S1 S2:Ad}{L M:List Addr}{ρ ρ1:En}{σ:L2.St}{Fr:Addr->Prop}
theorem Eff.refl:Eff ob H H S S []:=⟨λ_ _ h _=>h,λ_ _=>rfl,λi a h z=>.inl ⟨i,h,z⟩,by simp⟩
theorem Eff.back(e:Eff ob H H1 S S1 L){a:Addr}(h:H1 a=none):inO ob S a∨H a=none:=by
 by_cases z:inO ob S a
 .exact .inl z
 .refine .inr ?_
  cases q:H a with
  |none=>rfl
  |some u=>rw[e.kp a u q z]at h;cases h
theorem Eff.inO(e:Eff ob H H1 S S1 L){a:Addr}(h:inO ob S1 a):inO ob S a∨H a=none:=let⟨i,h1,h2⟩:=h;e.gr i a h1 h2
theorem Eff.notO(e:Eff ob H H1 S S1 L){a:Addr}{u:HO}(h:H a=some u)(n:¬Jb.inO ob S a):¬Jb.inO ob S1 a:=λz=>(e.inO z).elim n λz=>by rw[h]at z;cases z
theorem Eff.trans(a:Eff ob H H1 S S1 L)(b:Eff ob H1 H2 S1 S2 M):Eff ob H H2 S S2 (L++M)where
 kp:=λc u h n=>b.kp c u (a.kp c u h n) (a.notO h n)
 sn:=λi h=>(b.sn i h).trans (a.sn i h)
 gr:=λi c h z=>(b.gr i c h z).elim a.inO a.back
 fm:=λc F=>(List.mem_append.mp F).elim (a.fm c) λz=>(b.fm c z).elim a.inO a.back
theorem Eff.same(a:Eff ob H H1 S S1 L)(s:Same H1 H2)(h:∀c∈M,c∈L∨H1 c=none):Eff ob H H2 S S1 M where
 kp:=λc u F n=>s c u (a.kp c u F n)
 sn:=a.sn
 gr:=a.gr
 fm:=λc F=>(h c F).elim (a.fm c) a.back
theorem Sta.notO(s:Sta G H ob ρ σ S Fr){a:Addr}(h:Fr a):¬inO ob S a:=λ⟨i,_,z⟩=>s.fdj i a h z
theorem Sta.tmp(s:Sta G H ob ρ σ S Fr){a:Addr}(h:Fr a):(wn ob S Fr).tmp a:=⟨h,λ⟨i,_,z⟩=>s.fdj i a h z,λ⟨i,_,z⟩=>s.fdj i a h z⟩
theorem Eff.evo(s:Sta G H ob ρ σ S Fr)(e:Eff ob H H1 S S1 M):Evo H H1 (wn ob S Fr) (wn ob S1 (plus M Fr))where
 k:=λb u h f=>⟨e.kp b u h f.2.2,λz=>z.elim (λz=>(e.fm b z).elim f.2.2 λq=>by rw[h]at q;cases q) f.1,λ⟨i,h1,h2⟩=>f.2.1 ⟨i,h1,by rw[←e.sn i h1];exact h2⟩,e.notO h f.2.2⟩
 t:=λb xs h=>by
  have D:∀u,H b=some u->muO u=false->H1 b=some u:=λu F m=>e.kp b u F λ⟨i,_,z⟩=>by
   obtain⟨o,J,V⟩:=s.mu z;rw[F]at J;cases J;rw[m]at V;cases V
  exact D _ h rfl
theorem Eff.evoN(s:Sta G H ob ρ σ S Fr)(e:Eff ob H H1 S S1 M):Mg H H1 (wn ob S Fr) (wn ob S1 (plus M Fr)):=λb u h ⟨i,h1,h2⟩=>
 ⟨e.kp b u h (λ⟨j,q1,q2⟩=>by rw[s.dj i j b h2 q2,q1]at h1;cases h1),⟨i,h1,by rw[e.sn i h1];exact h2⟩⟩
theorem Eff.keepsF(s:Sta G H ob ρ σ S Fr)(e:Eff ob H H1 S S1 M){a:Addr}(h:Fr a):∀u,H a=some u->H1 a=some u:=λu F=>e.kp a u F (s.notO h)
theorem oZ{L M:List Addr}:plus M (plus L Fr)=plus (L++M) Fr:=by
 funext a;simp![plus,Zy,eq_iff_iff];constructor
 .rintro(z|z|z)
  .exact .inl (.inr z)
  .exact .inl (.inl z)
  .exact .inr z
 .rintro((z|z)|z)
  .exact .inr (.inl z)
  .exact .inl z
  .exact .inr (.inr z)
theorem RC{O:List Addr}{d:D}{v:V}(s:Sta G H1 ob ρ1 σ S1 (plus L Fr))(e:Eff ob H H1 S S1 L)(B:Same H1 H2)(r:Rep G H2 (((wn ob S1 (plus L Fr)).drop L).add O) d v O)(f:∀a∈O,a∈L∨H1 a=none)(F:Sta G H ob ρ σ S Fr) :
  Sta G H2 ob ρ1 σ S1 (plus O Fr)/\Rep G H2 (wn ob S1 (plus O Fr)) d v O/\Eff ob H H2 S S1 O:=by
 refine⟨s.grow B λa h=>?_,r.up ⟨Same.refl _,λb u U q=>⟨λz=>?_,q.2⟩,λ_ _ _ q=>q⟩,e.same B f⟩
 .rcases h with h|h
  .exact(f a h).imp .inl λz=>⟨z,r.dom a h⟩
  .exact .inl (.inr h)
 .rcases z with z|z
  .exact q.1 (.inl z)
  .refine q.1 (.inr ⟨.inr z,λh=>?_⟩)
   rcases e.fm b h with y|y
   .exact F.notO z y
   .obtain⟨o,ho,_⟩:=F.fdm b z
    rw[y]at ho;cases ho
end
def eUp(f:En->Option D):En->Option (D×En):=λρ=>(f ρ).map λd=>(d,ρ)
theorem BP{f:En->Option D}(h:RfE G ob ta f):mW G ob ta (eUp f):=λρ d I e σ H S Fr s Q q=>by
 unfold eUp at e;cases h1:f ρ with
 |none=>rw[h1]at e;cases e
 |some d0=>
  rw[h1]at e;cases e;refine h ρ d h1 σ H _ s.rel s.wok Q λv H' L B r F nd=>?_;exact q v H' L S (s.grow B λa z=>z.elim (λz=>.inr ⟨F a z,r.dom a z⟩) .inl) r nd ⟨λb u U _=>B b u U,λ_ _=>rfl,λi a h z=>.inl ⟨i,h,z⟩,λa Y=>.inr (F a Y)⟩
def uK(f:En->Option Bool):En->Option (Bool×En):=λρ=>(f ρ).map λd=>(d,ρ)
theorem MK{t:TT}{f:En->Option Bool}(h:RfT G ob t f):CW G ob t (uK f):=λρ d I e σ H S Fr s Q q=>by
 unfold uK at e;cases h1:f ρ with
 |none=>rw[h1]at e;cases e
 |some d0=>
  rw[h1]at e;cases e;refine h ρ d h1 σ H _ s.rel s.wok Q λH' B=>?_;exact q H' S (s.grow B λa z=>.inl z) ⟨λb u U _=>B b u U,λ_ _=>rfl,λi a h z=>.inl ⟨i,h,z⟩,by simp⟩
def cG(f:En->Option (List D)):En->Option (List D×En):=λρ=>(f ρ).map λd=>(d,ρ)
theorem R3(h:RfA G ob t f):Dp G ob t (cG f):=λρ d I e σ H S Fr s Q q=>by
 unfold cG at e;cases h1:f ρ with
 |none=>rw[h1]at e;cases e
 |some d0=>
  rw[h1]at e;cases e;refine h ρ d h1 σ H _ s.rel s.wok Q λv H' L B r F nd=>?_;exact q v H' L S (s.grow B λa z=>z.elim (λz=>.inr ⟨F a z,r.dom a z⟩) .inl) r nd ⟨λb u U _=>B b u U,λ_ _=>rfl,λi a h z=>.inl ⟨i,h,z⟩,λa Y=>.inr (F a Y)⟩
theorem dg{f:En->Option D}(h:PV X G ob e f):PVe X G ob e (eUp f):=let⟨t,a1,a2⟩:=h.ex;⟨t,a1,BP a2⟩
theorem GK{f:En->Option Bool}(h:PVT X G ob e f):Ei X G ob e (uK f):=let⟨t,a1,a2⟩:=h.ex;⟨t,a1,MK a2⟩
theorem bj{e:List Expr}(h:PVA X G ob e f):wF X G ob e (cG f):=let⟨t,a1,a2⟩:=h.ex;⟨t,a1,R3 a2⟩
variable{fa fb:En->Option (D×En)}
theorem mW.two(Y:mW G ob ta fa)(U:mW G ob tb fb){ρ1 ρ2:En}{dx O:D}(e1:fa ρ=some (dx,ρ1))(e2:fb ρ1=some (O,ρ2))(B:az dx=true){Fr:Addr->Prop}(s:Sta G H ob ρ σ S Fr){R:V->V->Hp->Prop}
  (h:∀x y H' L M S',Sta G H' ob ρ2 σ S' (plus (L++M) Fr)->Rep G H' (wn ob S' (plus (L++M) Fr)) dx x L->Rep G H' (wn ob S' (plus (L++M) Fr)) O y M->(L++M).Nodup->Eff ob H H' S S' (L++M)->R x y H'):ta σ H λx H1=>tb σ H1 λy H2=>R x y H2:=by
 refine Y ρ dx ρ1 e1 σ H S Fr s _ λx H1 L S1 Z rx nx I=>?_;refine U ρ1 O ρ2 e2 σ H1 S1 (plus L Fr) Z _ λy H2 M S2 s2 ry q J=>?_;have a0:=rx.mono (J.evo Z) (.inr (J.evoN Z)) (.inl B) λc F u hu=>J.keepsF Z (.inl F) u hu;rw[oZ]at s2 ry a0;refine h x y H2 L M S2 s2 a0 ry (fK nx q λa h1 h2=>?_) (I.trans J);rcases J.fm a h2 with z|z
 .exact Z.notO (.inl h1) z
 .obtain⟨o,ho,_⟩:=rx.dom a h1
  rw[z]at ho;cases ho
def ee2(g:D->D->Option D)(fa fb:En->Option (D×En)):En->Option (D×En):=λρ=>(fa ρ).bind λp=>(fb p.2).bind λq=>if az p.1 then(g p.1 q.1).map λd=>(d,q.2)else none
theorem yG{r:R2}(J:OpV G r g)(Y:mW G ob ta fa)(U:mW G ob tb fb):mW G ob (tOp r ta tb) (ee2 g fa fb):=λρ d I e σ H S Fr s Q q=>by
 unfold ee2 at e;cases h1:fa ρ with
 |none=>simp[h1]at e
 |some p=>
  obtain⟨dx,ρ1⟩:=p;cases h2:fb ρ1 with
  |none=>simp[h1,h2]at e
  |some p=>
   obtain⟨O,ρ2⟩:=p;cases B:az dx with
   |false=>simp[h1,h2,B]at e
   |true=>
    cases V:g dx O with
    |none=>simp[h1,h2,B,V]at e
    |some d'=>
     obtain⟨rfl,rfl⟩:d'=d/\ρ2=I:=by simpa[h1,h2,B,V]using e
     refine mW.two Y U h1 h2 B s λx y H' L M S' s' rx ry nd ef=>?_;refine J dx O _ V x y H' _ L M rx ry nd (λa Y=>s'.tmp (.inl Y)) s'.wok Q λv F L3 z r3 Z n3=>?_;obtain⟨q1,q2,q3⟩:=RC s' ef z r3 Z s;exact q v F L3 S' q1 q2 n3 q3
def ee1(g:D->Option D)(fa:En->Option (D×En)):En->Option (D×En):=λρ=>(fa ρ).bind λp=>(g p.1).map λd=>(d,p.2)
def cH(fa:En->Option (D×En))(I:En->Option (List D×En)):En->Option (List D×En):=λρ=>(fa ρ).bind λp=>(I p.2).bind λq=>if az p.1 then some (p.1::q.1,q.2)else none
theorem NB{fr:En->Option (List D×En)}(Y:mW G ob ta fa)(Z:Dp G ob t fr):Dp G ob (NQ ta t) (cH fa fr):=λρ ds I e σ H S Fr s Q q=>by
 unfold cH at e;cases h1:fa ρ with
 |none=>simp[h1]at e
 |some p=>
  obtain⟨dx,ρ1⟩:=p;cases h2:fr ρ1 with
  |none=>simp[h1,h2]at e
  |some p=>
   obtain⟨es,ρ2⟩:=p;cases B:az dx with
   |false=>simp[h1,h2,B]at e
   |true=>
    obtain⟨rfl,rfl⟩:dx::es=ds/\ρ2=I:=by simpa[h1,h2,B]using e
    refine Y ρ dx ρ1 h1 σ H S Fr s _ λx H1 L S1 V rx nx f1=>?_;refine Z ρ1 es _ h2 σ H1 S1 (plus L Fr) V _ λys H2 M S2 s2 U ny J=>?_;have O:=rx.mono (J.evo V) (.inr (J.evoN V)) (.inl B) λc F u hu=>J.keepsF V (.inl F) u hu;rw[oZ]at s2 U O;refine q (x::ys) H2 (L++M) S2 s2 (.cons O U) (fK nx ny λa h1 h2=>?_) (f1.trans J);rcases J.fm a h2 with z|z
    .exact V.notO (.inl h1) z
    .obtain⟨o,ho,_⟩:=rx.dom a h1
     rw[z]at ho;cases ho
def sW(g:List D->Option D)(f:En->Option (List D×En)):En->Option (D×En):=λρ=>(f ρ).bind λp=>(g p.1).map λd=>(d,p.2)
variable{f:En->Option (List D×En)}
theorem Fv{g:List D->Option D}(J:CaV G r g)(h:Dp G ob t f):mW G ob (λσ H Q=>t σ H λB H1=>r B H1 Q) (sW g f):=λρ d I e σ H S Fr s Q q=>by
 unfold sW at e;cases h1:f ρ with
 |none=>simp[h1]at e
 |some p=>
  obtain⟨ds,ρ1⟩:=p;cases h3:g ds with
  |none=>simp[h1,h3]at e
  |some d'=>
   obtain⟨rfl,rfl⟩:d'=d/\ρ1=I:=by simpa[h1,h3]using e
   refine h ρ ds _ h1 σ H S Fr s _ λxs H' L S' s' rx nd ef=>?_;refine J ds _ h3 xs H' _ L rx nd (λa Y=>s'.tmp (.inl Y)) s'.wok Q λv F O z U Z n3=>?_;obtain⟨q1,q2,q3⟩:=RC s' ef z U Z s;exact q v F O S' q1 q2 n3 q3
theorem n_{op:Operator}(o:OpB X G (ZK op) g)(Y:PVe X G ob a fa)(U:PVe X G ob b fb):PVe X G ob (.BinOp a op b pos) (ee2 g fa fb):=let⟨r,o1,o2⟩:=o.ex;let⟨t,a1,a2⟩:=Y.ex;let⟨u,b1,b2⟩:=U.ex;⟨_,λc=>Q_ (o1 c) (a1 c) (b1 c),yG o2 a2 b2⟩
theorem Pn(o:OpB X G (YG op) g)(Y:PVe X G ob a fa)(U:PVe X G ob b fb)(V:abi op b=false:=by with_unfolding_all rfl):PVe X G ob (.Compare a [op] [b] pos) (ee2 g fa fb):=let⟨r,o1,o2⟩:=o.ex;let⟨t,a1,a2⟩:=Y.ex;let⟨u,b1,b2⟩:=U.ex;⟨_,λc=>Gf (o1 c) (a1 c) (b1 c) V,yG o2 a2 b2⟩
theorem l_(o:IxB X G g)(Y:PVe X G ob a fa)(U:PVe X G ob b fb)(O:uT b:=by exact λ_ _=>rfl):PVe X G ob (.Subscript a b pos) (ee2 g fa fb):=let⟨r,o1,o2⟩:=o.ex;let⟨t,a1,a2⟩:=Y.ex;let⟨u,b1,b2⟩:=U.ex;⟨_,λc=>M8 (o1 c) (a1 c) (b1 c) O,yG o2 a2 b2⟩
theorem bK{f:En->Option (D×En)}{I:En->Option (List D×En)}(Y:PVe X G ob e f)(Z:wF X G ob es I)(O:∀c,Yh (e::es) (X c).env=(false,eval e (X c).env)::Yh es (X c).env:=by intro _;rfl):wF X G ob (e::es) (cH f I):=let⟨t,a1,a2⟩:=Y.ex;let⟨u,b1,b2⟩:=Z.ex;⟨_,λc=>zj (a1 c) (b1 c) (O c),NB a2 b2⟩
theorem EY{g:List D->Option D}(o:CaB X G (.type T) g)(B:∀c,Gl (X c) x)(V:∀c,(X c).mg x=none)(J:Z7 x=some (.type T))(Y:wF X G ob (e::es) f)(I:x≠"__name__":=by decide)(q:(x==("__debug__":Str))=false:=by decide)(F:∀c,Yh (e::es) (X c).env=(false,eval e (X c).env)::Yh es (X c).env:=by intro _;rfl)(z:∀c,(Zx pos (Yh es (X c).env)).any (·.1)=false:=by intro _;rfl):PVe X G ob (.Call (.Name x p) (e::es) [] pos) (sW g f):=let⟨r,o1,o2⟩:=o.ex;let⟨t,a1,a2⟩:=Y.ex;⟨_,λc=>ym (o1 c) (B c) (V c) J (a1 c) I q (F c) (z c),Fv o2 a2⟩
theorem Hu(h:wF X G ob es f):PVe X G ob (.Tuple es k pos) (sW bB f):=let⟨t,a1,a2⟩:=h.ex;⟨_,λc=>N_ (a1 c),Fv Ht a2⟩
theorem G4(h:wF X G ob es f):PVe X G ob (.List es pos) (sW bL f):=let⟨t,a1,a2⟩:=h.ex;⟨_,λc=>Ln (a1 c),Fv Gb a2⟩
def truth:D->Option Bool
 |.non=>some false
 |.bl b=>some b
 |.int i=>some (i !=0)
 |.str y=>if y.length<=Yc then some ((y.length:Int)!=0)else none
 |.lst _ ds=>some (!ds.isEmpty)
 |.tup ds=>some (!ds.isEmpty)
 |.dct m _ ds=>if m= .scr then none else some (!ds.isEmpty)
 |_=>none
theorem tM(r:aM G H W ds xs L):ds.isEmpty=xs.isEmpty:=by
 have:=r.length;cases ds<;>cases xs<;>simp_all
theorem Dl{k:Bool}(r:Rep G H W d v L)(h:truth d=some k):Mm G.K v H k:=by
 cases d with
 |non=>rw[Rep]at r;obtain⟨rfl,_⟩:=r;cases h;rfl
 |bl b=>rw[Rep]at r;obtain⟨rfl,_⟩:=r;cases h;rfl
 |int i=>rw[Rep]at r;obtain⟨rfl,_⟩:=r;cases h;rfl
 |str y=>
  rw[Rep]at r;obtain⟨rfl,_⟩:=r;simp![truth]at h;split at h
  .cases h;exact⟨‹_›,rfl⟩
  .cases h
 |ty n=>cases h
 |tup ds=>
  rw[Rep]at r;obtain⟨a,xs,rfl,U,Z⟩:=r;cases h;exact .inr (.inl ⟨xs,SqT.of U,by rw[tM Z]⟩)
 |lst m ds=>
  rw[Rep]at r;obtain⟨a,xs,M,rfl,Z,O⟩:=r;cases h;exact .inl ⟨xs,O.sq,by rw[tM Z]⟩
 |dct m ks ds=>
  rw[Rep]at r;obtain⟨a,kvs,M,rfl,J,Z,O⟩:=r;simp![truth]at h;split at h
  .cases h
  .cases h
   refine .inr (.inr ⟨kvs,O.at ‹_›,?_⟩);rw[tM Z];cases kvs<;>rfl
 |ins m c fs ds=>cases h
section
variable{ι:Type}{X:ι->Cx}{G:Gc}{ob:Nat->Bool}{a b:Expr}{pos:Pos}
def i_(f:En->Option D):En->Option Bool:=λρ=>(f ρ).bind truth
def Dw(f:En->Option (D×En)):En->Option (Bool×En):=λρ=>(f ρ).bind λp=>(truth p.1).map λb=>(b,p.2)
theorem Uv{ta:TE}{f:En->Option D}(h:RfE G ob ta f):RfT G ob (λσ H Q=>ta σ H λx H'=>∃k,Mm G.K x H' k/\Q k H') (i_ f):=λρ k e σ H W O w Q q=>by
 unfold i_ at e;cases h1:f ρ with
 |none=>simp[h1]at e
 |some d=>
  have e:truth d=some k:=by simpa[h1]using e
  exact h ρ d h1 σ H W O w _ λx H' L s r I nd=>⟨k,Dl r e,q H' s⟩
theorem QL{ta:TE}{f:En->Option (D×En)}(h:mW G ob ta f):CW G ob (λσ H Q=>ta σ H λx H'=>∃k,Mm G.K x H' k/\Q k H') (Dw f):=λρ k I e σ H S Fr s Q q=>by
 unfold Dw at e;cases h1:f ρ with
 |none=>simp[h1]at e
 |some p=>
  obtain⟨d,ρ1⟩:=p;cases h2:truth d with
  |none=>simp[h1,h2]at e
  |some O=>
   obtain⟨rfl,rfl⟩:O=k/\ρ1=I:=by simpa[h1,h2]using e
   exact h ρ d _ h1 σ H S Fr s _ λx H' M S' s' r nd U=>⟨_,Dl r h2,q H' S' (s'.lessF λa z=>.inr z) (U.same (Same.refl _) (by simp))⟩
theorem dF{f:En->Option D}(h:PV X G ob a f)(Y:∀c,∀z,adp a (X c).env z=(do let v ←z;aeq a.pos;abl [v] (truthy v)):=by intro _;intro _;rfl)(q:∀c,(X c).K=G.K:=by intro _;rfl):PVT X G ob a (i_ f):=let⟨t,a1,a2⟩:=h.ex;⟨_,λc=>(by have h:=Dh (a1 c) (Y c);rw[q c]at h;exact h),Uv a2⟩
theorem Lp{f:En->Option (D×En)}(h:PVe X G ob a f)(Y:∀c,∀z,adp a (X c).env z=(do let v ←z;aeq a.pos;abl [v] (truthy v)):=by intro _;intro _;rfl)(q:∀c,(X c).K=G.K:=by intro _;rfl):Ei X G ob a (Dw f):=let⟨t,a1,a2⟩:=h.ex;⟨_,λc=>(by have h:=Dh (a1 c) (Y c);rw[q c]at h;exact h),QL a2⟩
def isB:D->Option Bool
 |.bl b=>some b
 |_=>none
def eB(f:En->Option D):En->Option Bool:=λρ=>(f ρ).bind isB
def eeB(f:En->Option (D×En)):En->Option (Bool×En):=λρ=>(f ρ).bind λp=>(isB p.1).map λb=>(b,p.2)
theorem qU{d:D}{k:Bool}(h:isB d=some k):d= .bl k:=by
 cases d<;>simp[isB]at h;rw[h]
theorem V1{ta:TE}{f:En->Option D}(h:RfE G ob ta f):RfT G ob (FZ ta) (eB f):=λρ k e σ H W O w Q q=>by
 unfold eB at e;cases h1:f ρ with
 |none=>simp[h1]at e
 |some d=>
  have e:isB d=some k:=by simpa[h1]using e
  have:=qU e;subst this;refine h ρ _ h1 σ H W O w _ λx H' L s r I nd=>⟨k,?_,q H' s⟩;rw[Rep]at r;exact r.1
theorem WT{ta:TE}{f:En->Option (D×En)}(h:mW G ob ta f):CW G ob (FZ ta) (eeB f):=λρ k I e σ H S Fr s Q q=>by
 unfold eeB at e;cases h1:f ρ with
 |none=>simp[h1]at e
 |some p=>
  obtain⟨d,ρ1⟩:=p;cases h2:isB d with
  |none=>simp[h1,h2]at e
  |some O=>
   obtain⟨rfl,rfl⟩:O=k/\ρ1=I:=by simpa[h1,h2]using e
   have:=qU h2;subst this;refine h ρ _ _ h1 σ H S Fr s _ λx H' M S' s' r nd U=>⟨O,?_,q H' S' (s'.lessF λa z=>.inr z) (U.same (Same.refl _) (by simp))⟩;rw[Rep]at r;exact r.1
theorem a_{fa fb:En->Option D}{op:CmpOp}{g:D->D->Option D}(o:OpB X G (YG op) g)(Y:PV X G ob a fa)(U:PV X G ob b fb)(V:abi op b=false:=by with_unfolding_all rfl):PVT X G ob (.Compare a [op] [b] pos) (eB (e2 g fa fb)):=let⟨r,o1,o2⟩:=o.ex;let⟨t,a1,a2⟩:=Y.ex;let⟨u,b1,b2⟩:=U.ex;⟨_,λc=>Ho (o1 c) (a1 c) (b1 c) V,V1 (CT o2 a2 b2)⟩
theorem BK{fa fb:En->Option (D×En)}{op:CmpOp}{g:D->D->Option D}(o:OpB X G (YG op) g)(Y:PVe X G ob a fa)(U:PVe X G ob b fb)(V:abi op b=false:=by with_unfolding_all rfl):Ei X G ob (.Compare a [op] [b] pos) (eeB (ee2 g fa fb)):=let⟨r,o1,o2⟩:=o.ex;let⟨t,a1,a2⟩:=Y.ex;let⟨u,b1,b2⟩:=U.ex;⟨_,λc=>Ho (o1 c) (a1 c) (b1 c) V,WT (yG o2 a2 b2)⟩
def lC(f g:En->Option Bool):En->Option Bool:=λρ=>(f ρ).bind λc=>if c then g ρ else some false
def eOr(f g:En->Option Bool):En->Option Bool:=λρ=>(f ρ).bind λc=>if c then some true else g ρ
def jL(f:En->Option Bool):En->Option Bool:=λρ=>(f ρ).map λc=>!c
def Wq(f g:En->Option (Bool×En)):En->Option (Bool×En):=λρ=>(f ρ).bind λp=>if p.1 then g p.2 else some (false,p.2)
def CQ(f:En->Option (Bool×En)):En->Option (Bool×En):=λρ=>(f ρ).map λp=>(!p.1,p.2)
theorem R0{t u:TT}{f g:En->Option Bool}(h:RfT G ob t f)(h':RfT G ob u g):RfT G ob (We t u) (lC f g):=λρ k e σ H W O w Q q=>by
 unfold lC at e;cases h1:f ρ with
 |none=>simp[h1]at e
 |some c=>
  refine h ρ c h1 σ H W O w _ λH1 Z=>?_;cases c with
  |false=>
   have:false=k:=by simpa[h1]using e
   subst this;exact wH (q H1 Z)
  |true=>
   have e:g ρ=some k:=by simpa[h1]using e
   exact tK (h' ρ k e σ H1 W (O.up (Up.same Z)) (λa Y=>let⟨o,z,m⟩:=w a Y;⟨o,Z a o z,m⟩) Q λH2 B=>q H2 (Z.trans B))
theorem Wz{t u:TT}{f g:En->Option Bool}(h:RfT G ob t f)(h':RfT G ob u g):RfT G ob (tOr t u) (eOr f g):=λρ k e σ H W O w Q q=>by
 unfold eOr at e;cases h1:f ρ with
 |none=>simp[h1]at e
 |some c=>
  refine h ρ c h1 σ H W O w _ λH1 Z=>?_;cases c with
  |true=>
   have:true=k:=by simpa[h1]using e
   subst this;exact tK (q H1 Z)
  |false=>
   have e:g ρ=some k:=by simpa[h1]using e
   exact wH (h' ρ k e σ H1 W (O.up (Up.same Z)) (λa Y=>let⟨o,z,m⟩:=w a Y;⟨o,Z a o z,m⟩) Q λH2 B=>q H2 (Z.trans B))
theorem Ur{t:TT}{f:En->Option Bool}(h:RfT G ob t f):RfT G ob (Tc t) (jL f):=λρ k e σ H W O w Q q=>by
 unfold jL at e;cases h1:f ρ with
 |none=>simp[h1]at e
 |some c=>
  have:(!c)=k:=by simpa[h1]using e
  subst this;exact h ρ c h1 σ H W O w _ λH1 Z=>q H1 Z
theorem QT{t:TT}{f:En->Option (Bool×En)}(h:CW G ob t f):CW G ob (Tc t) (CQ f):=λρ k I e σ H S Fr s Q q=>by
 unfold CQ at e;cases h1:f ρ with
 |none=>simp[h1]at e
 |some p=>
  obtain⟨c,ρ1⟩:=p;obtain⟨rfl,rfl⟩:(!c)=k/\ρ1=I:=by simpa[h1]using e
  exact h ρ c ρ1 h1 σ H S Fr s _ λH1 S1 Z z=>q H1 S1 Z z
variable{rest:List Expr}{fa fb:En->Option Bool}{ga gb:En->Option (Bool×En)}
theorem rP(Y:PVT X G ob a fa)(U:PVW X G ob (.BoolOp .And (b::rest) pos) fb):PVW X G ob (.BoolOp .And (a::b::rest) pos) (lC fa fb):=let⟨t,a1,a2⟩:=Y.ex;let⟨u,b1,b2⟩:=U.ex;⟨_,λc=>Uu (a1 c) (b1 c),R0 a2 b2⟩
theorem fV(Y:PVT X G ob a fa)(U:PVW X G ob (.BoolOp .Or (b::rest) pos) fb):PVW X G ob (.BoolOp .Or (a::b::rest) pos) (eOr fa fb):=let⟨t,a1,a2⟩:=Y.ex;let⟨u,b1,b2⟩:=U.ex;⟨_,λc=>Wr (a1 c) (b1 c),Wz a2 b2⟩
theorem oh(Y:PVT X G ob a fa):PVW X G ob (.BoolOp .And [a] pos) fa:=let⟨t,a1,a2⟩:=Y.ex;⟨_,λc=>Q5 (a1 c),a2⟩
theorem gR(Y:PVT X G ob a fa):PVW X G ob (.BoolOp .Or [a] pos) fa:=let⟨t,a1,a2⟩:=Y.ex;⟨_,λc=>Ub (a1 c),a2⟩
theorem iT(h:PVW X G ob a fa):PVT X G ob a fa:=let⟨t,a1,a2⟩:=h.ex;⟨_,λc=>PW.pt (a1 c),a2⟩
theorem dZ(Y:PVT X G ob a fa):PVT X G ob (.UnaryOp .Not a pos) (jL fa):=let⟨t,a1,a2⟩:=Y.ex;⟨_,λc=>Kz (a1 c),Ur a2⟩
theorem Km(Y:Ei X G ob a ga):Ei X G ob (.UnaryOp .Not a pos) (CQ ga):=let⟨t,a1,a2⟩:=Y.ex;⟨_,λc=>Kz (a1 c),QT a2⟩
def pW(f g:En->Option D):En->Option D:=λρ=>(f ρ).bind λx=>(isB x).bind λc=>if c then g ρ else some (.bl false)
def Dz(x:D):Option D:=(isB x).map λc=>.bl !c
def aU(c:En->Option Bool)(f g:En->Option D):En->Option D:=λρ=>(c ρ).bind λb=>if b then f ρ else g ρ
def aK(c:En->Option (Bool×En))(f g:En->Option (D×En)):En->Option (D×En):=λρ=>(c ρ).bind λp=>if p.1 then f p.2 else g p.2
theorem WOk.up{H H':Hp}{W:Wn}(w:WOk H W)(s:Same H H'):WOk H' W:=λa Y=>let⟨o,z,m⟩:=w a Y;⟨o,s a o z,m⟩
theorem LR{G:Gc}{H:Hp}{W:Wn}{b:Bool}:Rep G H W (.bl b) (.bl b) []:=by rw[Rep];exact⟨rfl,rfl⟩
theorem PK{ta tb:TE}{f g:En->Option D}(h:RfE G ob ta f)(h':RfE G ob tb g):RfE G ob (RD ta tb) (pW f g):=λρ d e σ H W O w Q q=>by
 unfold pW at e;cases h1:f ρ with
 |none=>simp[h1]at e
 |some x=>
  cases h2:isB x with
  |none=>simp[h1,h2]at e
  |some c=>
   have:=qU h2;subst this;refine h ρ _ h1 σ H W O w _ λv H1 L Z r I nd=>?_;rw[Rep]at r;refine⟨c,r.1,?_⟩;cases c with
   |false=>
    have:D.bl false=d:=by simpa[h1,isB]using e
    subst this;exact wH (q _ H1 [] Z LR (by simp) List.nodup_nil)
   |true=>
    have e:g ρ=some d:=by simpa[h1,isB]using e
    exact tK (h' ρ d e σ H1 W (O.up (Up.same Z)) (w.up Z) Q λv H2 L B r I nd=>q v H2 L (Z.trans B) r (λa Y=>Z.none' (I a Y)) nd)
theorem Pk{ta:TE}{f:En->Option D}(h:RfE G ob ta f):RfE G ob (Rc ta) (e1 Dz f):=λρ d e σ H W O w Q q=>by
 unfold e1 at e;cases h1:f ρ with
 |none=>simp[h1]at e
 |some x=>
  cases h2:isB x with
  |none=>simp[h1,h2,Dz]at e
  |some c=>
   have:=qU h2;subst this;have:D.bl (!c)=d:=by simpa[h1,Dz,isB]using e
   subst this;refine h ρ _ h1 σ H W O w _ λv H1 L Z r I nd=>?_;rw[Rep]at r;exact⟨c,r.1,q _ H1 [] Z LR (by simp) List.nodup_nil⟩
theorem Tv{t:TT}{ta tb:TE}{c:En->Option Bool}{f g:En->Option D}(F:RfT G ob t c)(h:RfE G ob ta f)(h':RfE G ob tb g):RfE G ob (tIf t ta tb) (aU c f g):=λρ d e σ H W O w Q q=>by
 unfold aU at e;cases h1:c ρ with
 |none=>simp[h1]at e
 |some b=>
  refine F ρ b h1 σ H W O w _ λH1 Z=>?_;cases b with
  |true=>
   have e:f ρ=some d:=by simpa[h1]using e
   exact tK (h ρ d e σ H1 W (O.up (Up.same Z)) (w.up Z) Q λv H2 L B r I nd=>q v H2 L (Z.trans B) r (λa Y=>Z.none' (I a Y)) nd)
  |false=>
   have e:g ρ=some d:=by simpa[h1]using e
   exact wH (h' ρ d e σ H1 W (O.up (Up.same Z)) (w.up Z) Q λv H2 L B r I nd=>q v H2 L (Z.trans B) r (λa Y=>Z.none' (I a Y)) nd)
section
variable{c:Expr}{fa fb:En->Option D}{fc:En->Option Bool}
theorem kO(Y:PV X G ob a fa)(U:PV X G ob (.BoolOp .And (b::rest) pos) fb):PV X G ob (.BoolOp .And (a::b::rest) pos) (pW fa fb):=let⟨t,a1,a2⟩:=Y.ex;let⟨u,b1,b2⟩:=U.ex;⟨_,λc=>RX (a1 c) (b1 c),PK a2 b2⟩
theorem oG{op}(Y:PV X G ob a fa):PV X G ob (.BoolOp op [a] pos) fa:=let⟨t,a1,a2⟩:=Y.ex;⟨_,λc=>TJ (a1 c),a2⟩
theorem Ma(Y:PV X G ob a fa):PV X G ob (.UnaryOp .Not a pos) (e1 Dz fa):=let⟨t,a1,a2⟩:=Y.ex;⟨_,λc=>TF (a1 c),Pk a2⟩
theorem RZ(F:PVT X G ob c fc)(Y:PV X G ob a fa)(U:PV X G ob b fb):PV X G ob (.IfExp c a b pos) (aU fc fa fb):=let⟨v,c1,c2⟩:=F.ex;let⟨t,a1,a2⟩:=Y.ex;let⟨u,b1,b2⟩:=U.ex;⟨_,λc=>MN (c1 c) (a1 c) (b1 c),Tv c2 a2 b2⟩
end
end
section
variable{G:Gc}{ob P:Nat->Bool}{H H1 H2:Hp}{S S1 S2:Ad}{L M:List Addr}{ρ ρ1:En}{σ:L2.St}{Fr:Addr->Prop}
def ie(S:Ad)(i:Nat)(M:List Addr):Ad:=λj=>if j=i then M else S j
theorem fB{i:Nat}:ie S i M i=M:=Yi rfl
theorem fJ{i j:Nat}(h:j≠i):ie S i M j=S j:=YB h
theorem dR{i j:Nat}{a:Addr}(h:a∈ie S i M j):(j=i/\a∈M)∨(j≠i/\a∈S j):=by
 by_cases e:j=i
 .rw[e,fB]at h;exact .inl ⟨e,h⟩
 .rw[fJ e]at h;exact .inr ⟨e,h⟩
theorem Mv.refl:Mv P H H σ σ S S M:=⟨λ_ _ h _ _=>h,λi a z=>.inl ⟨i,z⟩,.refl⟩
theorem Sta.store{i:Nat}{d:D}{v:V}(s:Sta G H ob ρ σ S (plus M Fr))(r:Rep G H (wn ob S (plus M Fr)) d v M)(F:clean d=true)(nd:M.Nodup)(U:∀a∈M,¬Fr a) :
  ∃S',Sta G H ob (ρ.set i (some d)) (σ.set i (some v)) S' Fr/\∀j a,a∈S' j->inS S a∨a∈M:=by
 by_cases hi:i<ρ.length
 .refine⟨ie S i M,⟨by simp[s.len],λj e Y=>?_,λj O=>?_,λj=>?_,λj k a h1 h2=>?_,λj a h1 h2=>?_,λa h=>s.fdm a (.inr h)⟩,λj a h=>?_⟩
  .have ev:Evo H H (wn ob S (plus M Fr)) (wn ob (ie S i M) Fr):=⟨λb u h f=>⟨h,⟨λz=>f.1 (.inr z),λ⟨k,h1,h2⟩=>?_,λ⟨k,h1,h2⟩=>?_⟩⟩,λ_ _ h=>h⟩
   .by_cases e:j=i
    .subst e
     have:d=e:=by simpa[hi]using Y
     have:d=e:=this;subst this;have Z:j<σ.length:=by rw[←s.len];exact hi
     refine⟨v,by simp[Z],?_,F⟩;rw[fB];have q:aA d=true/\az d=true:=by simpa[clean]using F
     exact r.mono ev (.inl q.1) (.inl q.2) λ_ _ _ h=>h
    .rw[List.getElem?_set_ne (Zr e)]at Y
     obtain⟨v',h1,h2,B⟩:=s.sl j _ Y;refine⟨v',by rw[List.getElem?_set_ne (Zr e)];exact h1,?_,B⟩;rw[fJ e];have q:=(by simpa[clean]using B:aA _=true/\az _=true);exact h2.mono ev (.inl q.1) (.inl q.2) λ_ _ _ h=>h
   .rcases dR h2 with⟨_,z⟩|⟨_,z⟩
    .exact f.1 (.inl z)
    .exact f.2.1 ⟨k,h1,z⟩
   .rcases dR h2 with⟨_,z⟩|⟨_,z⟩
    .exact f.1 (.inl z)
    .exact f.2.2 ⟨k,h1,z⟩
  .by_cases e:j=i
   .subst e
    exact absurd (by simp[hi]) (O d)
   .rw[fJ e]
    exact s.em j λd'=>by have:=O d';rwa[List.getElem?_set_ne (Zr e)]at this
  .by_cases e:j=i
   .rw[e,fB];exact nd
   .rw[fJ e];exact s.nd j
  .rcases dR h1 with⟨e1,z1⟩|⟨e1,z1⟩<;>rcases dR h2 with⟨e2,I⟩|⟨e2,I⟩
   .rw[e1,e2]
   .exact absurd I (s.fdj k a (.inl z1))
   .exact absurd z1 (s.fdj j a (.inl I))
   .exact s.dj j k a z1 I
  .rcases dR h2 with⟨_,z⟩|⟨_,z⟩
   .exact U a z h1
   .exact s.fdj j a (.inr h1) z
  .rcases dR h with⟨_,z⟩|⟨_,z⟩
   .exact .inr z
   .exact .inl ⟨j,z⟩
 .have h1:ρ.set i (some d)=ρ:=acW (by omega)
  have h2:σ.set i (some v)=σ:=acW (by rw[←s.len];omega);rw[h1,h2];exact⟨S,s.lessF λa z=>.inr z,λj a h=>.inl ⟨j,h⟩⟩
end
section
variable{ι:Type}{X:ι->Cx}{G:Gc}{ob P:Nat->Bool}
def bY:En->Option Fl:=λρ=>some (.nx ρ)
def bc(f g:En->Option Fl):En->Option Fl:=λρ=>match f ρ with
 |some (.nx ρ')=>g ρ'
 |r=>r
theorem Aft.from{G:Gc}{H H1:Hp}{σ D:L2.St}{S S1:Ad}{Fr:Addr->Prop}{E:Ends}(m:Mv P H H1 σ D S S1 []):∀{r:Fl},Aft G ob P H σ S Fr E r->Aft G ob P H1 D S1 Fr E r
 |.nx ρ',h=>λO H' S' s B=>h O H' S' s (m.trans B)
 |.brk ρ',h=>λO H' S' s B=>h O H' S' s (m.trans B)
 |.cnt ρ',h=>λO H' S' s B=>h O H' S' s (m.trans B)
 |.ret d ρ',h=>λv O H' M S' s r c n f B=>h v O H' M S' s r c n (λa Y=>by
  rcases f a Y with⟨i,z⟩|z
  .exact(m.gr i a z).elim .inl λz=>z.elim (λz=>by cases z) .inr
  .by_cases q:inS S a
   .exact .inl q
   .refine .inr ?_
    cases e:H a with
    |none=>rfl
    |some u=>rw[m.kp a u e q (by simp)]at z;cases z) (m.trans B)
theorem QC:RfS G ob P Ru bY:=λρ r e σ H S Fr s E h=>by
 cases e;exact h σ H S s .refl
theorem QF{t u:TS}{f g:En->Option Fl}(h1:RfS G ob P t f)(h2:RfS G ob P u g):RfS G ob P (Vq t u) (bc f g):=λρ r e σ H S Fr s E h=>by
 unfold bc at e;cases V:f ρ with
 |none=>rw[V]at e;cases e
 |some fl=>
  rw[V]at e;refine h1 ρ fl V σ H S Fr s _ ?_;cases fl with
  |nx I=>exact λO H' S' s' m=>h2 I r e O H' S' Fr s' E (h.from m)
  |brk I=>cases e;exact h
  |cnt I=>cases e;exact h
  |ret d I=>cases e;exact h
theorem bu:pA X G ob P [] bY:=⟨_,λc=>Og,QC⟩
theorem au{st:Stmt}{rest:List Stmt}{f g:En->Option Fl}(h1:PVS X G ob P st f)(h2:pA X G ob P rest g):pA X G ob P (st::rest) (bc f g):=let⟨t,a1,a2⟩:=h1.ex;let⟨u,b1,b2⟩:=h2.ex;⟨_,λc=>KC (a1 c) (b1 c),QF a2 b2⟩
theorem aJ{st:Stmt}{f:En->Option Fl}(h1:PVS X G ob P st f):pA X G ob P [st] f:=let⟨t,a1,a2⟩:=h1.ex;⟨_,λc=>Qj (a1 c),a2⟩
def tgN(i:Nat):D->En->Option En:=λd ρ=>if clean d then some (ρ.set i (some d))else none
theorem kh{i:Nat}(J:P i=false):RfG G ob P (xK i) (tgN i):=λd ρ I e v σ H S M Fr s r nd U Q q=>by
 unfold tgN at e;split at e
 .rename_i hc
  cases e;obtain⟨S',s',h⟩:=s.store r hc nd U (i:=i);refine q _ H S' s' ⟨λb u h _ _=>h,λj a z=>(h j a z).imp id .inl,λj O=>?_⟩;have:j≠i:=λz=>by rw[z,J]at O;cases O
  rw[List.getElem?_set_ne (Zr this)]
 .cases e
def bM:List D->En->Option En:=λds ρ=>match ds with
 |[]=>some ρ
 |_=>none
def aP(f:D->En->Option En)(g:List D->En->Option En):List D->En->Option En:=λds ρ=>match ds with
 |d::r=>(f d ρ).bind λρ1=>g r ρ1
 |[]=>none
def tgT(n:Nat)(g:List D->En->Option En):D->En->Option En:=λd ρ=>match d with
 |.tup ds=>if ds.length=n/\aD ds=true/\aC ds=true then g ds ρ else none
 |_=>none
theorem K4:XS G ob P Qi bM:=λds ρ I e B σ H S M Fr s r nd U Q q=>by
 cases ds with
 |nil=>
  cases e;obtain⟨rfl,rfl⟩:=r.inv0;exact⟨rfl,q σ H S (s.lessF λa z=>.inr z) .refl⟩
 |cons d r=>cases e
def Lh(G:Gc)(ob P:Nat->Bool)(g:TGs)(f:List D->En->Option En):Prop:=∀(ds:List D)(ρ I:En),aC ds=true->aD ds=true->f ds ρ=some I->∀(B:List V)(σ:L2.St)(H:Hp)(S:Ad)(M:List Addr)(Fr:Addr->Prop),Sta G H ob ρ σ S (plus M Fr)->aM G H (wn ob S (plus M Fr)) ds B M->M.Nodup->(∀a∈M,¬Fr a)->
 ∀Q:L2.St->Hp->Prop,(∀O H' S',Sta G H' ob I O S' Fr->Mv P H H' σ O S S' M->Q O H')->g B σ H Q
theorem CJ:Lh G ob P Qi bM:=λds ρ I _ _ e=>K4 ds ρ I e
theorem sS{t:TG}{u:TGs}{f:D->En->Option En}{g:List D->En->Option En}(h1:RfG G ob P t f)(h2:Lh G ob P u g):Lh G ob P (J4 t u) (aP f g):=λds ρ I O c2 e B σ H S M Fr s r nd hF Q q=>by
 cases ds with
 |nil=>cases e
 |cons d ds=>
  obtain⟨x,ys,M1,M2,rfl,rfl,hx,Z⟩:=r.inv;simp![aC,aD,Yp]at O c2;simp![aP]at e;cases V:f d ρ with
  |none=>rw[V]at e;cases e
  |some ρ1=>
   have e:g ds ρ1=some I:=by simpa[V]using e
   have a0:=Yr.mp nd;have a2:plus (M1++M2) Fr=plus M1 (plus M2 Fr):=by
    funext a;simp![plus,Zy,or_assoc]
   rw[a2]at s hx Z;refine⟨x,ys,rfl,h1 d ρ ρ1 V x σ H S M1 (plus M2 Fr) s hx a0.1 (λa Y z=>?_) _ λa1 H1 S1 s1 m1=>?_⟩
   .rcases z with z|z
    .exact a0.2.2 a Y a z rfl
    .exact hF a (Ye _ Y) z
   .have ev:Evo H H1 (wn ob S (plus M1 (plus M2 Fr))) (wn ob S1 (plus M2 Fr)):=⟨λb u U f=>?_,λb xs h=>?_⟩
    .have hr1:aM G H1 (wn ob S1 (plus M2 Fr)) ds ys M2:=Z.mono ev (.inl O.2) (.inl c2.2) λc F u hu=>m1.kp c u hu (λ⟨i,z⟩=>s.fdj i c (.inr (.inl F)) z) λz=>a0.2.2 c z c F rfl
     refine h2 ds ρ1 I O.2 c2.2 e ys a1 H1 S1 M2 Fr s1 hr1 a0.2.1 (λa Y=>hF a (X7 _ Y)) Q λσ2 H2 S2 s2 m2=>q σ2 H2 S2 s2 ⟨λb u U n1 n2=>?_,λi a z=>?_,m1.pr.trans m2.pr⟩
     .have n3:b∉M1:=λz=>n2 (Ye _ z)
      exact m2.kp b u (m1.kp b u U n1 n3) (λ⟨i,z⟩=>(m1.gr i b z).elim n1 λz=>z.elim n3 λz=>by rw[U]at z;cases z) λz=>n2 (X7 _ z)
     .rcases m2.gr i a z with⟨j,z⟩|z|z
      .exact(m1.gr j a z).imp id λz=>z.imp (Ye _) id
      .exact .inr (.inl (X7 _ z))
      .by_cases q1:inS S a
       .exact .inl q1
       .by_cases q2:a∈M1
        .exact .inr (.inl (Ye _ q2))
        .refine .inr (.inr ?_)
         cases e:H a with
         |none=>rfl
         |some u=>rw[m1.kp a u e q1 q2]at z;cases z
    .have n1:¬inS S b:=λ⟨i,z⟩=>by
      cases J:ob i with
      |false=>exact f.2.1 ⟨i,J,z⟩
      |true=>exact f.2.2 ⟨i,J,z⟩
     have n2:b∉M1:=λz=>f.1 (.inl z);refine⟨m1.kp b u U n1 n2,λz=>f.1 (.inr z),λ⟨i,_,z⟩=>?_,λ⟨i,_,z⟩=>?_⟩
     .exact(m1.gr i b z).elim n1 λz=>z.elim n2 λz=>by rw[U]at z;cases z
     .exact(m1.gr i b z).elim n1 λz=>z.elim n2 λz=>by rw[U]at z;cases z
    .have no:∀u,H b=some u->muO u=false->H1 b=some u:=λu hu m=>m1.kp b u hu (λ⟨i,z⟩=>by
       obtain⟨o,J,hm⟩:=s.mu z;rw[hu]at J;cases J;rw[m]at hm;cases hm) λz=>by
       obtain⟨o,J,hm⟩:=hx.dom b z;rw[hu]at J;cases J;rw[m]at hm;cases hm
     exact no _ h rfl
theorem OJ{n:Nat}{t:TGs}{g:List D->En->Option En}(h:Lh G ob P t g):RfG G ob P (SN G.K n t) (tgT n g):=λd ρ I e v σ H S M Fr s r nd z Q q=>by
 cases d with
 |tup ds=>
  simp![tgT]at e;split at e
  .rename_i hl
   rw[Rep]at r;obtain⟨a,xs,rfl,U,Z⟩:=r;exact⟨a,xs,rfl,SqT.of U,by rw[←Z.length];exact hl.1,h ds ρ I hl.2.2 hl.2.1 e xs σ H S M Fr s Z nd z Q q⟩
  .cases e
 |_=>cases e
structure QR{ι:Type}(X:ι->Cx)(G:Gc)(ob P:Nat->Bool)(tg:List Expr)(f:List D->En->Option En):Prop where
 mk::(ex:∃t,(∀c,PGs (X c) tg t)/\Lh G ob P t f)
theorem bf(i:Nat){x:Str}{pos:Pos}(z:∀c,(X c).N.Nodup)(J:P i=false:=by rfl)(hi:∀c,(X c).N[i]? =some x:=by intro _;rfl)(B:∀c,Loc (X c).env.scope x:=by intro _;first|exact ZX rfl|exact Zm rfl)(Y:∀c,(X c).fn x=true∨(X c).env.scope.names.lookup x=some .local:=by intro _;first|exact .inl rfl|exact .inr rfl):PVG X G ob P (.Name x pos) (tgN i):=⟨_,λc=>zy (z c) (hi c) (B c) (Y c),kh J⟩
theorem eU:QR X G ob P [] bM:=⟨_,λc=>Gx,CJ⟩
theorem bh{e:Expr}{es:List Expr}{f:D->En->Option En}{g:List D->En->Option En}(h1:PVG X G ob P e f)(h2:QR X G ob P es g)(O:∀c,(Zv (e::es) (X c).env).map (·.2)=abI e (X c).env::(Zv es (X c).env).map (·.2):=by intro _;rfl):QR X G ob P (e::es) (aP f g):=let⟨t,a1,a2⟩:=h1.ex;let⟨u,b1,b2⟩:=h2.ex;⟨_,λc=>CG (a1 c) (b1 c) (O c),sS a2 b2⟩
theorem gq{es:List Expr}{k n:Nat}{pos:Pos}{g:List D->En->Option En}(F:∀c,(X c).calm=true)(h:QR X G ob P es g)(I:∀c,(Zv es (X c).env).length=n:=by intro _;rfl)(U:∀c,(Zv es (X c).env).findIdx? (·.1)=none:=by intro _;rfl)(q:∀c,(X c).K=G.K:=by intro _;rfl):PVG X G ob P (.Tuple es k pos) (tgT n g):=let⟨t,a1,a2⟩:=h.ex;⟨_,λc=>(by rw[←q c];exact Ms (F c) (a1 c) (I c) (U c)),OJ a2⟩
def bI(f:En->Option D)(g:D->En->Option En):En->Option Fl:=λρ=>(f ρ).bind λd=>(g d ρ).map .nx
def cZ(f:En->Option (D×En))(g:D->En->Option En):En->Option Fl:=λρ=>(f ρ).bind λp=>(g p.1 p.2).map .nx
theorem kW{Fr:Addr->Prop}:plus [] Fr=Fr:=by funext a;simp[plus]
theorem lQ{te:TE}{t:TG}{f:En->Option (D×En)}{g:D->En->Option En}(h:mW G ob te f)(B:RfG G ob P t g):RfS G ob P (Ou te t) (cZ f g):=λρ r e σ H S Fr s E q=>by
 unfold cZ at e;cases h1:f ρ with
 |none=>simp[h1]at e
 |some p=>
  obtain⟨d,ρ1⟩:=p;cases h2:g d ρ1 with
  |none=>simp[h1,h2]at e
  |some ρ2=>
   have:Fl.nx ρ2=r:=by simpa[h1,h2]using e
   subst this;refine h ρ d ρ1 h1 σ H S Fr s _ λv H1 M S1 Z F nd I=>?_;have hF:∀a∈M,¬Fr a:=λa Y z=>by
    rcases I.fm a Y with q|q
    .exact s.notO z q
    .obtain⟨o,J,_⟩:=s.fdm a z
     rw[q]at J;cases J
   refine B d ρ1 ρ2 h2 v σ H1 S1 M Fr Z F nd hF _ λO H' S' s' m=>q O H' S' s' ⟨λb u U V n2=>?_,λi a z=>?_,m.pr⟩
   .have hno:¬inO ob S b:=λ⟨i,_,z⟩=>V ⟨i,z⟩
    refine m.kp b u (I.kp b u U hno) (λ⟨i,z⟩=>?_) λz=>(I.fm b z).elim hno λz=>by rw[U]at z;cases z
    cases J:ob i with
    |false=>rw[I.sn i J]at z;exact V ⟨i,z⟩
    |true=>exact(I.gr i b J z).elim hno λz=>by rw[U]at z;cases z
   .rcases m.gr i a z with⟨j,z⟩|z|z
    .cases J:ob j with
     |false=>rw[I.sn j J]at z;exact .inl ⟨j,z⟩
     |true=>exact(I.gr j a J z).imp (λ⟨k,_,z⟩=>⟨k,z⟩) .inr
    .exact(I.fm a z).imp (λ⟨k,_,z⟩=>⟨k,z⟩) .inr
    .exact(I.back z).imp (λ⟨k,_,z⟩=>⟨k,z⟩) .inr
theorem Et{f:En->Option D}{g:D->En->Option En}:cZ (eUp f) g=bI f g:=by
 funext ρ;unfold cZ bI eUp;cases f ρ<;>rfl
section
variable{tg e:Expr}{pos:Pos}{g:D->En->Option En}
theorem jx{f:En->Option D}(Y:PV X G ob e f)(B:PVG X G ob P tg g)(O:∀c,abh [tg] e pos.line (X c).env=pure false:=by intro _;rfl)(V:∀c,abO [tg] e (X c).env=pure none:=by intro _;rfl)(h1:∀c,(Zv [tg] (X c).env).map (·.2)=[abI tg (X c).env]:=by intro _;rfl):PVS X G ob P (.Assign [tg] e pos) (bI f g):=let⟨t,a1,a2⟩:=Y.ex;let⟨u,b1,b2⟩:=B.ex;⟨_,λc=>Ng (a1 c) (b1 c) (O c) (V c) (h1 c),by rw[←Et];exact lQ (BP a2) b2⟩
theorem lU{f:En->Option (D×En)}(Y:PVe X G ob e f)(B:PVG X G ob P tg g)(O:∀c,abh [tg] e pos.line (X c).env=pure false:=by intro _;rfl)(V:∀c,abO [tg] e (X c).env=pure none:=by intro _;rfl)(h1:∀c,(Zv [tg] (X c).env).map (·.2)=[abI tg (X c).env]:=by intro _;rfl):PVS X G ob P (.Assign [tg] e pos) (cZ f g):=let⟨t,a1,a2⟩:=Y.ex;let⟨u,b1,b2⟩:=B.ex;⟨_,λc=>Ng (a1 c) (b1 c) (O c) (V c) (h1 c),lQ a2 b2⟩
theorem bx(i:Nat){x:Str}{pos':Pos}{f:En->Option D}(z:∀c,(X c).N.Nodup)(Y:PV X G ob e f)(J:P i=false:=by rfl)(hi:∀c,(X c).N[i]? =some x:=by intro _;rfl)(B:∀c,Loc (X c).env.scope x:=by intro _;first|exact ZX rfl|exact Zm rfl)(O:∀c,aaQ e (some (.Name x pos')) pos.line (X c).env=pure false:=by intro _;rfl)(q:∀c,(X c).fn x=true∨(X c).env.scope.names.lookup x=some .local:=by intro _;first|exact .inl rfl|exact .inr rfl):PVS X G ob P (.Assign [.Name x pos'] e pos) (bI f (tgN i)):=let⟨t,a1,a2⟩:=Y.ex;⟨_,λc=>Mj (z c) (hi c) (B c) (a1 c) (O c) (q c),by rw[←Et];exact lQ (BP a2) (kh J)⟩
theorem eQ(i:Nat){x:Str}{pos':Pos}{f:En->Option (D×En)}(z:∀c,(X c).N.Nodup)(Y:PVe X G ob e f)(J:P i=false:=by rfl)(hi:∀c,(X c).N[i]? =some x:=by intro _;rfl)(B:∀c,Loc (X c).env.scope x:=by intro _;first|exact ZX rfl|exact Zm rfl)(O:∀c,aaQ e (some (.Name x pos')) pos.line (X c).env=pure false:=by intro _;rfl)(q:∀c,(X c).fn x=true∨(X c).env.scope.names.lookup x=some .local:=by intro _;first|exact .inl rfl|exact .inr rfl):PVS X G ob P (.Assign [.Name x pos'] e pos) (cZ f (tgN i)):=let⟨t,a1,a2⟩:=Y.ex;⟨_,λc=>Mj (z c) (hi c) (B c) (a1 c) (O c) (q c),lQ a2 (kh J)⟩
end
def u_(f:En->Option (List D×En))(g:List D->En->Option En):En->Option Fl:=λρ=>(f ρ).bind λp=>if aC p.1/\aD p.1 then(g p.1 p.2).map .nx else none
def aL(f:En->Option (List D))(g:List D->En->Option En):En->Option Fl:=λρ=>(f ρ).bind λp=>if aC p/\aD p then(g p ρ).map .nx else none
theorem KJ{ta:TA}{i j:Nat}(hi:P i=false)(hj:P j=false){f:En->Option (List D×En)}(h:Dp G ob ta f):RfS G ob P (V3 i j ta) (u_ f (aP (tgN i) (aP (tgN j) bM))):=λρ r e σ H S Fr s E q=>by
 unfold u_ at e;cases h1:f ρ with
 |none=>simp[h1]at e
 |some p=>
  obtain⟨ds,ρ1⟩:=p;by_cases F:aC ds/\aD ds
  .cases h2:(aP (tgN i) (aP (tgN j) bM)) ds ρ1 with
   |none=>simp[h1,h2,F]at e
   |some ρ2=>
    have:Fl.nx ρ2=r:=by simpa[h1,h2,F]using e
    subst this;refine h ρ ds ρ1 h1 σ H S Fr s _ λB H1 M S1 Z r1 nd I=>?_;have hF:∀a∈M,¬Fr a:=λa Y z=>by
     rcases I.fm a Y with q|q
     .exact s.notO z q
     .obtain⟨o,J,_⟩:=s.fdm a z
      rw[q]at J;cases J
    have V:=sS (kh (G:=G) (ob:=ob) hi) (sS (kh hj) CJ) ds ρ1 ρ2 F.1 F.2 h2 B σ H1 S1 M Fr Z r1 nd hF (λO H'=>E.nx O H') λO H' S' s' m=>q O H' S' s' ⟨λb u U n1 n2=>?_,λi a z=>?_,m.pr⟩
    .obtain⟨v,rr,e1,v2,r2,e2,e3,k⟩:=V
     subst e3;exact⟨v,v2,by rw[e1,e2],k⟩
    .have hno:¬inO ob S b:=λ⟨i,_,z⟩=>n1 ⟨i,z⟩
     refine m.kp b u (I.kp b u U hno) (λ⟨i,z⟩=>?_) λz=>(I.fm b z).elim hno λz=>by rw[U]at z;cases z
     cases J:ob i with
     |false=>rw[I.sn i J]at z;exact n1 ⟨i,z⟩
     |true=>exact(I.gr i b J z).elim hno λz=>by rw[U]at z;cases z
    .rcases m.gr i a z with⟨j,z⟩|z|z
     .cases J:ob j with
      |false=>rw[I.sn j J]at z;exact .inl ⟨j,z⟩
      |true=>exact(I.gr j a J z).imp (λ⟨k,_,z⟩=>⟨k,z⟩) .inr
     .exact(I.fm a z).imp (λ⟨k,_,z⟩=>⟨k,z⟩) .inr
     .exact(I.back z).imp (λ⟨k,_,z⟩=>⟨k,z⟩) .inr
  .simp[h1,F]at e
section
variable{x y:Str}{a b:Expr}{px py pt pos:Pos}{kt k2 pt2}
theorem Kd(i j:Nat){f:En->Option (List D×En)}(F:∀c,(X c).calm=true)(z:∀c,(X c).N.Nodup)(Y:wF X G ob [a,b] f)(q:P i=false:=by rfl)(J:P j=false:=by rfl)(hi:∀c,(X c).N[i]? =some x:=by intro _;rfl)(Z:∀c,(X c).N[j]? =some y:=by intro _;rfl)(U:i≠j:=by decide)(B:∀c,(X c).env.scope.names.lookup x=some .local:=by intro _;rfl)(I:∀c,(X c).env.scope.names.lookup y=some .local:=by intro _;rfl)(V:∀c,abO [.Tuple [.Name x px,.Name y py] kt pt] (.Tuple [a,b] k2 pt2) (X c).env=pure (some [x,y]):=by intro _;rfl)(O:∀c,abh [.Tuple [.Name x px,.Name y py] kt pt] (.Tuple [a,b] k2 pt2) pos.line (X c).env=pure false:=by intro _;rfl) :
 PVS X G ob P (.Assign [.Tuple [.Name x px,.Name y py] kt pt] (.Tuple [a,b] k2 pt2) pos) (u_ f (aP (tgN i) (aP (tgN j) bM))):=let⟨t,a1,a2⟩:=Y.ex;⟨_,λc=>Ve (F c) (z c) (hi c) (Z c) U (B c) (I c) (a1 c) (V c) (O c),KJ q J a2⟩
end
def sIf(c:En->Option Bool)(f g:En->Option Fl):En->Option Fl:=λρ=>(c ρ).bind λb=>if b then f ρ else g ρ
def yK(c:En->Option (Bool×En))(f g:En->Option Fl):En->Option Fl:=λρ=>(c ρ).bind λp=>if p.1 then f p.2 else g p.2
theorem WY{c:En->Option Bool}{f g:En->Option Fl}:yK (uK c) f g=sIf c f g:=by
 funext ρ;unfold yK sIf uK;cases c ρ<;>rfl
theorem Gv{tc:TT}{t u:TS}{c:En->Option (Bool×En)}{f g:En->Option Fl}(F:CW G ob tc c)(h1:RfS G ob P t f)(h2:RfS G ob P u g):RfS G ob P (W5 tc t u) (yK c f g):=λρ r e σ H S Fr s E q=>by
 unfold yK at e;cases V:c ρ with
 |none=>simp[V]at e
 |some p=>
  obtain⟨b,ρ1⟩:=p;refine F ρ b ρ1 V σ H S Fr s _ λH1 S1 Z I=>?_;have m:Mv P H H1 σ σ S S1 []:=I.mv;cases b with
  |true=>exact tK (h1 ρ1 r (by simpa[V]using e) σ H1 S1 Fr Z E (q.from m))
  |false=>exact wH (h2 ρ1 r (by simpa[V]using e) σ H1 S1 Fr Z E (q.from m))
theorem bG{c:Expr}{a b:List Stmt}{pos:Pos}{fc:En->Option Bool}{f g:En->Option Fl}(F:PVT X G ob c fc)(Y:pA X G ob P a f)(U:pA X G ob P b g):PVS X G ob P (.If c a b pos) (sIf fc f g):=let⟨v,c1,c2⟩:=F.ex;let⟨t,a1,a2⟩:=Y.ex;let⟨u,b1,b2⟩:=U.ex;⟨_,λc=>Ri (c1 c) (a1 c) (b1 c),by rw[←WY];exact Gv (MK c2) a2 b2⟩
theorem zH{c:Expr}{a b:List Stmt}{pos:Pos}{fc:En->Option (Bool×En)}{f g:En->Option Fl}(F:Ei X G ob c fc)(Y:pA X G ob P a f)(U:pA X G ob P b g):PVS X G ob P (.If c a b pos) (yK fc f g):=let⟨v,c1,c2⟩:=F.ex;let⟨t,a1,a2⟩:=Y.ex;let⟨u,b1,b2⟩:=U.ex;⟨_,λc=>Ri (c1 c) (a1 c) (b1 c),Gv c2 a2 b2⟩
def sEx(f:En->Option (D×En)):En->Option Fl:=λρ=>(f ρ).map λp=>.nx p.2
def um(f:En->Option (D×En)):En->Option Fl:=λρ=>(f ρ).bind λp=>if clean p.1 then some (.ret p.1 p.2)else none
def cD(f:En->Option D):En->Option Fl:=λρ=>(f ρ).bind λd=>if clean d then some (.ret d ρ)else none
theorem Su{f:En->Option D}:um (eUp f)=cD f:=by
 funext ρ;unfold um cD eUp;cases f ρ<;>rfl
theorem A_{te:TE}{f:En->Option (D×En)}(h:mW G ob te f):RfS G ob P (PP te) (um f):=λρ r e σ H S Fr s E q=>by
 unfold um at e;cases h1:f ρ with
 |none=>simp[h1]at e
 |some p=>
  obtain⟨d,ρ1⟩:=p;cases F:clean d with
  |false=>simp[h1,F]at e
  |true=>
   have:Fl.ret d ρ1=r:=by simpa[h1,F]using e
   subst this;exact h ρ d ρ1 h1 σ H S Fr s _ λv H1 M S1 Z B nd I=>q v σ H1 M S1 Z B F nd (λa Y=>(I.fm a Y).imp (λ⟨i,_,z⟩=>⟨i,z⟩) id) I.mv
theorem aZ{e:Expr}{pos:Pos}{f:En->Option D}(Y:PV X G ob e f):PVS X G ob P (.Return (some e) pos) (cD f):=let⟨t,a1,a2⟩:=Y.ex;⟨_,λc=>yR (a1 c),by rw[←Su];exact A_ (BP a2)⟩
theorem Bw{e:Expr}{pos:Pos}{f:En->Option (D×En)}(Y:PVe X G ob e f):PVS X G ob P (.Return (some e) pos) (um f):=let⟨t,a1,a2⟩:=Y.ex;⟨_,λc=>yR (a1 c),A_ a2⟩
theorem Sta.move{G:Gc}{H:Hp}{ρ:En}{σ:L2.St}{S:Ad}{Fr:Addr->Prop}{i:Nat}{d:D}(s:Sta G H ob ρ σ S Fr)(e:ρ[i]? =some (some d)) :
  ∃v,σ[i]? =some (some v)/\clean d=true/\Sta G H ob (ρ.set i none) σ (ie S i []) (plus (S i) Fr)/\Rep G H (wn ob (ie S i []) (plus (S i) Fr)) d v (S i):=by
 obtain⟨v,h1,h2,V⟩:=s.sl i d e;have J:Evo H H (wn ob S Fr) (wn ob (ie S i []) (plus (S i) Fr)):=⟨λb u h f=>⟨h,⟨λz=>z.elim (λz=>?_) f.1,λ⟨k,q1,q2⟩=>?_,λ⟨k,q1,q2⟩=>?_⟩⟩,λ_ _ h=>h⟩
 .have q:=(by simpa[clean]using V:aA d=true/\az d=true)
  refine⟨v,h1,V,⟨by simp[s.len],λj d' Y=>?_,λj O=>?_,λj=>?_,λj k a q1 q2=>?_,λj a q1 q2=>?_,λa h=>?_⟩,h2.mono J (.inl q.1) (.inl q.2) λ_ _ _ h=>h⟩
  .by_cases e':j=i
   .subst e'
    rw[aai]at Y;split at Y
    .split at Y
     .simp at Y
     .cases Y
    .exact absurd rfl ‹_›
   .rw[List.getElem?_set_ne (Zr e')]at Y
    obtain⟨v',q1,q2,B⟩:=s.sl j _ Y;refine⟨v',q1,?_,B⟩;rw[fJ e'];have q:=(by simpa[clean]using B:aA d'=true/\az d'=true);exact q2.mono J (.inl q.1) (.inl q.2) λ_ _ _ h=>h
  .by_cases e':j=i
   .rw[e',fB]
   .rw[fJ e']
    exact s.em j λd'=>by have:=O d';rwa[List.getElem?_set_ne (Zr e')]at this
  .by_cases e':j=i
   .rw[e',fB];exact List.nodup_nil
   .rw[fJ e'];exact s.nd j
  .rcases dR q1 with⟨_,z⟩|⟨_,z⟩
   .cases z
   .rcases dR q2 with⟨_,z'⟩|⟨_,z'⟩
    .cases z'
    .exact s.dj j k a z z'
  .rcases dR q2 with⟨_,z⟩|⟨n,z⟩
   .cases z
   .rcases q1 with q1|q1
    .exact n (s.dj j i a z q1)
    .exact s.fdj j a q1 z
  .rcases h with h|h
   .exact s.mu h
   .exact s.fdm a h
 .cases ho:ob i with
  |false=>exact f.2.1 ⟨i,ho,z⟩
  |true=>exact f.2.2 ⟨i,ho,z⟩
 .rcases dR q2 with⟨_,z⟩|⟨_,z⟩
  .cases z
  .exact f.2.1 ⟨k,q1,z⟩
 .rcases dR q2 with⟨_,z⟩|⟨_,z⟩
  .cases z
  .exact f.2.2 ⟨k,q1,z⟩
def jF(i:Nat):En->Option Fl:=λρ=>match ρ[i]? with
 |some (some d)=>some (.ret d (ρ.set i none))
 |_=>none
theorem K8{i:Nat}:RfS G ob P (PP (Dv i)) (jF i):=λρ r e σ H S Fr s E q=>by
 unfold jF at e;split at e
 .rename_i d h1
  cases e;obtain⟨v,h2,V,F,B⟩:=s.move h1;exact⟨v,h2,q v σ H (S i) (ie S i []) F B V (s.nd i) (λa Y=>.inl ⟨i,Y⟩) ⟨λ_ _ h _ _=>h,λj a z=>(dR z).elim (λz=>by cases z.2) λz=>.inl ⟨j,z.2⟩,.refl⟩⟩
 .cases e
theorem ig(i:Nat){x:Str}{pos pos':Pos}(z:∀c,(X c).N[i]? =some x:=by intro _;rfl)(J:∀c,Vis (X c).env.scope x:=by intro _;first|exact ZX rfl|exact Zm (ZX rfl)|exact Zm (Zm rfl))(hd:(x==("__debug__":Str))=false:=by decide)(I:(x==("__classdict__":Str))=false:=by decide):PVS X G ob P (.Return (some (.Name x pos)) pos') (jF i):=⟨_,λc=>yR (pv i (z c) (J c) hd I),K8⟩
end
def mkO:Mk->Mk
 |.own=>.frz
 |m=>m
mutual
noncomputable def fzo:D->D
 |.tup ds=>.tup (iQ ds)
 |.lst m ds=>.lst (mkO m) (iQ ds)
 |.dct m ks ds=>.dct (mkO m) ks (iQ ds)
 |.ins m c fs ds=>.ins (mkO m) c fs (iQ ds)
 |d=>d
noncomputable def iQ:List D->List D
 |[]=>[]
 |d::r=>fzo d::iQ r
end
theorem nM:∀ds:List D,iQ ds=ds.map fzo
 |[]=>rfl
 |d::r=>by rw[iQ,nM r];rfl
variable{a:Addr}
theorem dN.fzo(O:Les H W W' L)(I:∀a,W.s a->W'.s a)(h:dN B H W a o m L M):dN B H W' a o (mkO m) [] []:=by
 cases m with
 |own=>exact⟨h.1,O.l a (by rw[h.2];simp),rfl,rfl⟩
 |frz=>exact⟨h.1,O.f a h.2.1,rfl,rfl⟩
 |brw=>exact⟨h.1,I a h.2.1,rfl,rfl⟩
 |bro=>exact⟨h.1,rfl,rfl⟩
 |scr=>exact⟨h.1.imp (λz=>⟨z.1,O.f a z.2⟩) id,rfl,rfl⟩
mutual
theorem Rep.fzo(I:∀a,W.s a->W'.s a):∀{d:D}{v:V}{L:List Addr},Rep G H W d v L->Les H W W' L->Rep G H W' (fzo d) v []
 |.non,v,L,h,_=>by rw[Rep]at h;simp[Jb.fzo,Rep,h]
 |.bl _,v,L,h,_=>by rw[Rep]at h;simp[Jb.fzo,Rep,h]
 |.int _,v,L,h,_=>by rw[Rep]at h;simp[Jb.fzo,Rep,h]
 |.str _,v,L,h,_=>by rw[Rep]at h;simp[Jb.fzo,Rep,h]
 |.ty _,v,L,h,_=>by rw[Rep]at h;simp[Jb.fzo,Rep,h]
 |.tup ds,v,L,h,O=>by
  rw[Rep]at h;rw[Jb.fzo,Rep];obtain⟨a,xs,rfl,U,Z⟩:=h;exact⟨a,xs,rfl,U,aM.fzo I Z O⟩
 |.lst m ds,v,L,h,he=>by
  rw[Rep]at h;rw[Jb.fzo,Rep];obtain⟨a,xs,M,rfl,Z,O⟩:=h;exact⟨a,xs,[],rfl,aM.fzo I Z (he.sub λc F=>O.sub.subset F),O.fzo he I⟩
 |.dct m ks ds,v,L,h,he=>by
  rw[Rep]at h;rw[Jb.fzo,Rep];obtain⟨a,xs,M,rfl,J,Z,O⟩:=h;exact⟨a,xs,[],rfl,J,aM.fzo I Z (he.sub λc F=>O.sub.subset F),O.fzo he I⟩
 |.ins m c' fs ds,v,L,h,he=>by
  rw[Rep]at h;rw[Jb.fzo,Rep];obtain⟨a,C,dx,xs,M,rfl,B,J,Z,O⟩:=h;exact⟨a,C,dx,xs,[],rfl,B,J,aM.fzo I Z (he.sub λc F=>O.sub.subset F),O.fzo he I⟩
theorem aM.fzo(I:∀a,W.s a->W'.s a):∀{ds:List D}{B:List V}{L:List Addr},aM G H W ds B L->Les H W W' L->aM G H W' (iQ ds) B []
 |[],B,L,h,_=>by obtain⟨rfl,_⟩:=h.inv0;rw[iQ];exact .nil
 |d::r,B,L,h,he=>by
  obtain⟨x,ys,M,M',rfl,rfl,h1,h2⟩:=h.inv;rw[iQ];exact .cons (M:=[]) (M':=[]) (Rep.fzo I h1 (he.sub λc F=>Ye _ F)) (aM.fzo I h2 (he.sub λc F=>X7 _ F))
end
mutual
theorem H_:∀{d:D},aA d=true->aA (Jb.fzo d)=true
 |.non,_=>rfl|.bl _,_=>rfl|.int _,_=>rfl|.str _,_=>rfl|.ty _,_=>rfl
 |.tup ds,h=>by simp[aA]at h;simp[Jb.fzo,aA,gn h]
 |.lst m ds,h=>by simp[aA]at h;cases m<;>simp[Jb.fzo,aA,gn h.2,mkO]<;>simp at h
 |.dct m _ ds,h=>by simp[aA]at h;cases m<;>simp[Jb.fzo,aA,gn h.2,mkO]<;>simp at h
 |.ins m _ _ ds,h=>by simp[aA]at h;cases m<;>simp[Jb.fzo,aA,gn h.2,mkO]<;>simp at h
theorem gn:∀{ds:List D},aC ds=true->aC (iQ ds)=true
 |[],_=>rfl
 |d::r,h=>by simp[aC]at h;simp[iQ,aC,H_ h.1,gn h.2]
end
mutual
theorem Js:∀{d:D},az d=true->az (Jb.fzo d)=true
 |.non,_=>rfl|.bl _,_=>rfl|.int _,_=>rfl|.str _,_=>rfl|.ty _,_=>rfl
 |.tup ds,h=>by simp[az]at h;simp[Jb.fzo,az,gF h]
 |.lst m ds,h=>by simp[az]at h;cases m<;>simp[Jb.fzo,az,gF h.2,mkO]<;>simp at h
 |.dct m _ ds,h=>by simp[az]at h;cases m<;>simp[Jb.fzo,az,gF h.2,mkO]<;>simp at h
 |.ins m _ _ ds,h=>by simp[az]at h;cases m<;>simp[Jb.fzo,az,gF h.2,mkO]<;>simp at h
theorem gF:∀{ds:List D},aD ds=true->aD (iQ ds)=true
 |[],_=>rfl
 |d::r,h=>by simp[aD]at h;simp[iQ,aD,Js h.1,gF h.2]
end
structure Wk(G:Gc)(J:It)(Lt:Hp->Wn->Prop)(items:List D):Prop where
 go:∀(i:Nat)(d:D),items[i]? =some d->∀H W,Lt H W->J.go i H
 yld:∀(i:Nat)(d:D),items[i]? =some d->∀H W,Lt H W->∀x H',J.yld i H x H'->Same H H'/\Rep G H' W d x []
 stop:∀H W,Lt H W->J.stop items.length H
def LtB(b:Bool)(H:Hp)(W:Wn):Hp->Wn->Prop:=λH2 J=>if b=true then Evo H H2 W J else Up H H2 W J
variable{b:Bool}
theorem LtB.up(u:Up H H2 W J):LtB b H W H2 J:=by
 cases b with
 |true=>exact tK u.evo
 |false=>exact wH u
def RfI(G:Gc)(ob:Nat->Bool)(wi:TI)(f:En->Option (Bool×List D)):Prop:=∀(ρ:En)(b:Bool)(items:List D),f ρ=some (b,items)->∀(σ:L2.St)(H:Hp)(W:Wn),Rel G H W ob ρ σ->WOk H W->∀R:It->Hp->Prop,
 (∀J H',Same H H'->Wk G J (LtB b H' W) items->R J H')->wi σ H R
structure PVI{ι:Type}(X:ι->Cx)(G:Gc)(ob:Nat->Bool)(tg it:Expr)(f:En->Option (Bool×List D)):Prop where
 mk::(ex:∃t,(∀c,PI (X c) tg it t)/\RfI G ob t f)
def lD(lo:Int)(n:Nat):List D:=(Y9 n).map λ(k:Nat)=>D.int (lo+(k:Int))
def rY(f:En->Option (List D)):En->Option (Bool×List D):=λρ=>(f ρ).bind λds=>match ds with
 |[.int j]=>if -(2 ^ 62)<=j/\j<2 ^ 62 then some (true,lD 0 j.toNat)else none
 |_=>none
theorem Nf{q:Hp->Wn->Prop}{lo:Int}:Wk G (Itr lo n) q (lD lo n)where
 go:=λi d e H W _=>by
  have:=(List.getElem?_eq_some_iff.mp e).1;show i<n;simpa[lD]using this
 yld:=λi d e H W _ x H' h=>by
  obtain⟨rfl,rfl⟩:=h;have:d= .int (lo+(i:Int)):=by
   unfold lD at e;rw[List.getElem?_map]at e;have hi:i<n:=by
    have:=(List.getElem?_eq_some_iff.mp (show(lD lo n)[i]? =some d by unfold lD;rw[List.getElem?_map];exact e)).1;simpa[lD]using this
   rw[ad4 hi]at e;simpa using e.symm
  subst this;exact⟨Same.refl _,by rw[Rep];exact⟨rfl,rfl⟩⟩
 stop:=λH W _=>by
  show n<=(lD lo n).length;simp[lD]
variable{f:En->Option (List D)}
theorem Uz(h:RfA G ob t f):RfI G ob (Kg t) (rY f):=λρ b items e σ H W O w R q=>by
 unfold rY at e;cases h1:f ρ with
 |none=>simp[h1]at e
 |some ds=>
  rw[h1]at e;simp![gD]at e;split at e
  .rename_i j
   split at e
   .rename_i hj
    cases e;refine h ρ _ h1 σ H W O w _ λB H' L s r I nd=>?_;obtain⟨x,ys,M,M',rfl,_,z,F⟩:=r.inv;obtain⟨rfl,_⟩:=F.inv0;rw[Rep]at z;obtain⟨rfl,_⟩:=z;exact⟨j,rfl,hj.1,hj.2,q _ H' s Nf⟩
   .cases e
  .cases e
def gU:D->Option (Bool×List D)
 |.lst m ds=>some (clean (.lst m ds),iQ ds)
 |.tup ds=>some (clean (.tup ds),iQ ds)
 |_=>none
def itS(f:En->Option D):En->Option (Bool×List D):=λρ=>(f ρ).bind gU
theorem xr{W1:Wn}(h:dN B H W1 a o m L M)(Y:Les H W1 W L)(I:W1.s a->W.s a)(U:b=true->m≠.brw/\m≠.bro)(l:LtB b H W H2 J):Rd H2 a o∨B a o:=by
 cases b with
 |false=>
  have u:Up H H2 W J:=(YB YT).mp l;exact h.rx.imp (Same.rd u.s) id
 |true=>
  have e:Evo H H2 W J:=(Yi rfl).mp l;cases m with
  |own=>exact .inl (.inl (e.k a o h.1 (Y.l a (by rw[h.2];simp))).1)
  |frz=>exact .inl (.inl (e.k a o h.1 (Y.f a h.2.1)).1)
  |brw=>exact absurd rfl (U rfl).1
  |bro=>exact absurd rfl (U rfl).2
  |scr=>exact h.1.imp (λz=>(e.rd z.1 (Y.f a z.2)).1) id
theorem Rm{K:Yb}(h:Rd H a (.lst xs)∨KO K a (.lst xs)):SqL K H a xs:=by
 rcases h with z|⟨ys,e,z⟩
 .exact .inl z
 .cases e
  exact .inr z
theorem LtB.rep(l:LtB b H W H2 J)(U:b=true->aA d=true/\az d=true)(r:Rep G H W d v []):Rep G H2 J d v []:=by
 cases b with
 |false=>exact r.up ((YB YT).mp l)
 |true=>exact r.mono ((Yi rfl).mp l) (.inl (U rfl).1) (.inl (U rfl).2) (by simp)
theorem LtB.tup{H H2:Hp}{W J:Wn}{b:Bool}{K:Yb}{a:Addr}{xs:List V}(l:LtB b H W H2 J)(h:H a=some (.tup xs)):SqT K H2 a xs:=by
 cases b with
 |false=>exact SqT.of (((YB YT).mp l).s a _ h)
 |true=>exact SqT.of (((Yi rfl).mp l).t a xs h)
theorem jo(h:aC ds=true)(e:ds[i]? =some d):aA d=true:=by
 induction ds generalizing i with
 |nil=>simp at e
 |cons a r J=>
  simp![aC,Yp]at h;cases i with
  |zero=>
   have:a=d:=by simpa using e
   rw[←this];exact h.1
  |succ i=>exact J h.2 (by simpa using e)
theorem jn(h:aD ds=true)(e:ds[i]? =some d):az d=true:=by
 induction ds generalizing i with
 |nil=>simp at e
 |cons a r J=>
  simp![aD,Yp]at h;cases i with
  |zero=>
   have:a=d:=by simpa using e
   rw[←this];exact h.1
  |succ i=>exact J h.2 (by simpa using e)
structure Parts(G:Gc)(H:Hp)(W:Wn)(b:Bool)(es:List D)(xs:List V):Prop where
 r:aM G H W es xs []
 c:b=true->aC es=true/\aD es=true
theorem Parts.at{G:Gc}{H H2:Hp}{W J:Wn}{b:Bool}{es:List D}{xs:List V}(p:Parts G H W b es xs)(l:LtB b H W H2 J){i:Nat}{d:D}{x:V}(e:es[i]? =some d)(B:xs[i]? =some x):Rep G H2 J d x []:=by
 obtain⟨y,M,h1,h2,q⟩:=p.r.get e;rw[B]at h1;cases h1;have:M=[]:=by simpa using q
 subst this;exact l.rep (λz=>⟨jo (p.c z).1 e,jn (p.c z).2 e⟩) h2
theorem Q4{es:List D}(w:WOk H W)(s:Same H H')(r:Rep G H' (W.add L) d v L)(I:∀a∈L,H a=none)(e:gU d=some (b,es)) :
  ∃a xs,v= .ref a/\Parts G H' W b es xs/\((∀H2 J,LtB b H' W H2 J->SqL G.K H2 a xs)∨(∀H2 J,LtB b H' W H2 J->SqT G.K H2 a xs)):=by
 have free:∀a∈L,W.free a:=λa Y=>⟨λz=>?_,λz=>?_,λz=>?_⟩
 .have les:Les H' (W.add L) W L:=⟨λa f=>⟨λz=>f.1 (.inr z),f.2⟩,free⟩
  cases d with
  |lst m ds=>
   simp![gU,aaz,adX]at e;obtain⟨rfl,rfl⟩:=e;rw[Rep]at r;obtain⟨a,xs,M,rfl,Z,O⟩:=r;refine⟨a,xs,rfl,⟨aM.fzo (W:=W.add L) (W':=W) (λ_ z=>z) Z (les.sub λc F=>O.sub.subset F),λz=>?_⟩,.inl λH2 J l=>Rm (xr O les (λz=>z) (λz=>?_) l)⟩
   .simp[clean,aA,az]at z
    exact⟨gn z.1.2,gF z.2.2⟩
   .simp[clean,aA,az]at z
    exact⟨z.1.1,z.2.1⟩
  |tup ds=>
   simp![gU,aaz,adX]at e;obtain⟨rfl,rfl⟩:=e;rw[Rep]at r;obtain⟨a,xs,rfl,U,Z⟩:=r;refine⟨a,xs,rfl,⟨aM.fzo (W:=W.add L) (W':=W) (λ_ z=>z) Z les,λz=>?_⟩,.inr λH2 J l=>l.tup U⟩;simp[clean,aA,az]at z;exact⟨gn z.1,gF z.2⟩
  |_=>simp[gU]at e
 .obtain⟨o,ho,_⟩:=w a (.inl z);rw[I a Y]at ho;cases ho
 .obtain⟨o,ho,_⟩:=w a (.inr (.inl z));rw[I a Y]at ho;cases ho
 .obtain⟨o,ho,_⟩:=w a (.inr (.inr z));rw[I a Y]at ho;cases ho
theorem aM.getV(h:aM G H W ds xs L)(e:ds[i]? =some d):∃x,xs[i]? =some x:=let⟨x,_,h,_⟩:=h.get e;⟨x,h⟩
theorem Qa{f:En->Option D}(h:RfE G ob te f):RfI G ob (Vw G.K te) (itS f):=λρ b items e σ H W z w R q=>by
 unfold itS at e;cases h1:f ρ with
 |none=>simp[h1]at e
 |some d=>
  have e:gU d=some (b,items):=by simpa[h1]using e
  refine h ρ d h1 σ H W z w _ λv H' L s r I nd=>?_;obtain⟨a,xs,rfl,p,O⟩:=Q4 w s r I e;refine⟨a,rfl,?_⟩;rcases O with O|O
  .refine .inl ⟨⟨xs,O H' W (LtB.up Up.refl)⟩,q _ H' s ⟨λi d e H2 J l=>?_,λi d e H2 J l x F y=>?_,λH2 J l=>?_⟩⟩
   .obtain⟨x,hx⟩:=p.r.getV e
    exact⟨xs,x,O H2 J l,hx⟩
   .obtain⟨rfl,y⟩:=y
    exact⟨Same.refl _,p.at l e (y xs (O _ J l))⟩
   .exact⟨xs,O H2 J l,by rw[p.r.length];exact Nat.le_refl _⟩
  .refine .inr ⟨⟨xs,O H' W (LtB.up Up.refl)⟩,q _ H' s ⟨λi d e H2 J l=>?_,λi d e H2 J l x F y=>?_,λH2 J l=>?_⟩⟩
   .obtain⟨x,hx⟩:=p.r.getV e
    exact⟨xs,x,O H2 J l,hx⟩
   .obtain⟨rfl,y⟩:=y
    exact⟨Same.refl _,p.at l e (y xs (O _ J l))⟩
   .exact⟨xs,O H2 J l,by rw[p.r.length];exact Nat.le_refl _⟩
def jO:Nat->List D->List D
 |_,[]=>[]
 |i,d::r=>.tup [.int (i:Int),d]::jO (i+1) r
theorem jY:∀(ds:List D)(k i:Nat),(jO k ds)[i]? =(ds[i]?).map λd=>.tup [.int ((k+i:Nat):Int),d]
 |[],k,i=>by simp[jO]
 |d::r,k,i=>by
  cases i with
  |zero=>simp[jO]
  |succ i=>
   simp![jO,Yn];rw[jY r (k+1) i,show k+1+i=k+(i+1)by omega]
theorem lV:∀(ds:List D)(k:Nat),(jO k ds).length=ds.length
 |[],k=>rfl
 |d::r,k=>by simp[jO,lV r (k+1)]
def itE(f:En->Option (List D)):En->Option (Bool×List D):=λρ=>(f ρ).bind λds=>match ds with
 |[d]=>(gU d).map λp=>(p.1,jO 0 p.2)
 |_=>none
variable{a:Expr}
theorem Ej(B:∀c,Gl (X c) "range")(V:∀c,(X c).mg "range"=none)(Y:PVA X G ob [a] f)(O:∀c,Yh [a] (X c).env=[(false,eval a (X c).env)]:=by intro _;rfl):PVI X G ob tg (.Call (.Name "range" p) [a] [] pos) (rY f):=let⟨t,a1,a2⟩:=Y.ex;⟨_,λc=>xn (B c) (V c) (a1 c) (O c),Uz a2⟩
theorem fO{f:En->Option D}(Y:PV X G ob a f)(q:∀c,(X c).K=G.K:=by intro _;rfl):PVI X G ob tg a (itS f):=let⟨t,a1,a2⟩:=Y.ex;⟨_,λc=>(by rw[←q c];exact SJ (a1 c)),Qa a2⟩
def forL(tg:D->En->Option En)(body:En->Option Fl):List D->En->Option Fl
 |[],ρ=>some (.nx ρ)
 |d::r,ρ=>(tg d ρ).bind λρ1=>match body ρ1 with
  |some (.nx ρ2)=>forL tg body r ρ2
  |some (.cnt ρ2)=>forL tg body r ρ2
  |some (.brk ρ2)=>some (.nx ρ2)
  |o=>o
def iV(it:En->Option (Bool×List D))(tg:D->En->Option En)(body:En->Option Fl):En->Option Fl:=λρ=>(it ρ).bind λp=>if p.1=true then forL tg body p.2 ρ else none
theorem DW{σ2:L2.St}{S2:Ad}{Fr:Addr->Prop}(s:Sta G H ob ρ σ S Fr)(m:Mv P H H2 σ σ2 S S2 []):Evo H H2 (wn ob S Fr) (wn ob S2 Fr)where
 k:=λb u U f=>by
  have q:¬inS S b:=λ⟨i,z⟩=>by
   cases J:ob i with
   |false=>exact f.2.1 ⟨i,J,z⟩
   |true=>exact f.2.2 ⟨i,J,z⟩
  have Z:¬inS S2 b:=λ⟨i,z⟩=>(m.gr i b z).elim q λz=>z.elim (λz=>by cases z) λz=>by rw[U]at z;cases z
  exact⟨m.kp b u U q (by simp),f.1,λ⟨i,_,z⟩=>Z ⟨i,z⟩,λ⟨i,_,z⟩=>Z ⟨i,z⟩⟩
 t:=λb xs h=>by
  have D:∀u,H b=some u->muO u=false->H2 b=some u:=λu F mu=>m.kp b u F (λ⟨i,z⟩=>by
   obtain⟨o,J,V⟩:=s.mu z;rw[F]at J;cases J;rw[mu]at V;cases V) (by simp)
  exact D _ h rfl
variable{it:En->Option (Bool×List D)}{tg:D->En->Option En}{tb:TS}{wi:TI}{body:En->Option Fl}
theorem GR{g:TG}(hi:RfI G ob wi it)(hg:RfG G ob P g tg)(U:RfS G ob P tb body):RfS G ob P (Qm wi g tb) (iV it tg body):=λρ r e σ H S Fr s E q=>by
 unfold iV at e;cases h1:it ρ with
 |none=>simp[h1]at e
 |some p=>
  obtain⟨b,items⟩:=p;cases b with
  |false=>simp[h1]at e
  |true=>
   have e:forL tg body items ρ=some r:=by simpa[h1]using e
   refine hi ρ true items h1 σ H _ s.rel s.wok _ λJ H1 sm wk=>?_;have Z:Sta G H1 ob ρ σ S Fr:=s.grow sm λa z=>.inl z;have m1:Mv P H H1 σ σ S S []:=⟨λb u h _ _=>sm b u h,λi a z=>.inl ⟨i,z⟩,.refl⟩;have q1:=q.from m1;have a1:∀{ρ2:En}{σ2:L2.St}{H2:Hp}{S2:Ad},Mv P H1 H2 σ σ2 S S2 []->LtB true H1 (wn ob S Fr) H2 (wn ob S2 Fr):=λm=>tK (DW Z m);refine⟨λi m σ2 H2=>i+m=items.length/\∃ρ2 S2,Sta G H2 ob ρ2 σ2 S2 Fr/\Mv P H1 H2 σ σ2 S S2 []/\forL tg body (items.drop i) ρ2=some r,⟨items.length,by omega,ρ,S,Z,.refl,e⟩,?_⟩;rintro i m σ2 H2 ⟨a7,ρ2,S2,B,m2,e2⟩;by_cases a4:i<items.length
   .refine .inr ⟨wk.go i items[i] (by simp[a4]) H2 _ (a1 (ρ2:=ρ2) m2),λO H'=>(i+1)+(m-1)=items.length/\∃ρ2 S2,Sta G H' ob ρ2 O S2 Fr/\Mv P H1 H' σ O S S2 []/\forL tg body (items.drop (i+1)) ρ2=some r,λO H' h=>⟨m-1,by omega,h⟩,λx F I=>?_⟩
    obtain⟨s3,rx⟩:=wk.yld i items[i] (by simp[a4]) H2 _ (a1 (ρ2:=ρ2) m2) x F I;rw[←ZS a4,forL]at e2;cases V:tg items[i] ρ2 with
    |none=>simp[V]at e2
    |some a3=>
     rw[V]at e2;simp![gD]at e2;have a6:Sta G F ob ρ2 σ2 S2 Fr:=B.grow s3 λa z=>.inl z;refine hg items[i] ρ2 a3 V x σ2 F S2 [] Fr (by rw[kW];exact a6) (by rw[kW];exact rx) List.nodup_nil (by simp) _ λa5 H4 S4 s4 m4=>?_;have a2:Mv P H1 H4 σ a5 S S4 []:=(m2.trans (S2:=S2) ⟨λb u h _ _=>s3 b u h,λi a z=>.inl ⟨i,z⟩,.refl⟩).trans m4;cases Y:body a3 with
     |none=>rw[Y]at e2;cases e2
     |some fl=>
      rw[Y]at e2;refine U a3 fl Y a5 H4 S4 Fr s4 _ ?_;cases fl with
      |nx a0=>exact λO H' S' s' m'=>⟨by omega,a0,S',s',a2.trans m',e2⟩
      |cnt a0=>exact λO H' S' s' m'=>⟨by omega,a0,S',s',a2.trans m',e2⟩
      |brk a0=>cases e2;exact λO H' S' s' m'=>q1 O H' S' s' (a2.trans m')
      |ret d a0=>cases e2;exact q1.from a2
   .have hl:i=items.length:=by omega
    rw[hl,ZM,forL]at e2;cases e2;subst hl;exact .inl ⟨wk.stop H2 _ (a1 (ρ2:=ρ2) m2),q1 σ2 H2 S2 B m2⟩
variable{f:En->Option Fl}
theorem iU{tg iter:Expr}{body:List Stmt}{g:D->En->Option En}(q:∀c,acn (model (X c).prog (X c).w) (X c).A (X c).env (X c).xe)(F:∀c,(X c).calm=true)(hi:PVI X G ob tg iter it)(B:PVG X G ob P tg g)(U:pA X G ob P body f)(O:∀c,∀x,ZD iter (X c).env x=pure x:=by intro _;intro _;rfl):PVS X G ob P (.For tg iter body [] pos) (iV it g f):=let⟨v,c1,c2⟩:=hi.ex;let⟨t,a1,a2⟩:=B.ex;let⟨u,b1,b2⟩:=U.ex;⟨_,λc=>Fx (q c) (F c) (c1 c) (a1 c) (b1 c) (O c),GR c2 a2 b2⟩
def km(c:En->Option (Bool×En))(body:En->Option Fl):Nat->En->Option Fl
 |0,_=>none
 |n+1,ρ=>(c ρ).bind λp=>if p.1=true then(match body p.2 with
  |some (.nx ρ2)=>km c body n ρ2
  |some (.cnt ρ2)=>km c body n ρ2
  |some (.brk ρ2)=>some (.nx ρ2)
  |o=>o)else some (.nx p.2)
theorem Jq{tc:TT}{c:En->Option (Bool×En)}(n:Nat)(F:CW G ob tc c)(U:RfS G ob P tb body):RfS G ob P (LC tc tb) (km c body n):=λρ r e σ H S Fr s E q=>by
 refine⟨λm σ2 H2=>∃ρ2 S2,Sta G H2 ob ρ2 σ2 S2 Fr/\Mv P H H2 σ σ2 S S2 []/\km c body m ρ2=some r,⟨n,ρ,S,s,.refl,e⟩,?_⟩;rintro m σ2 H2 ⟨ρ2,S2,B,I,e2⟩;cases m with
 |zero=>cases e2
 |succ m=>
  rw[km]at e2;cases h1:c ρ2 with
  |none=>simp[h1]at e2
  |some p=>
   obtain⟨b,J⟩:=p;rw[h1]at e2;simp![gD]at e2;refine F ρ2 b J h1 σ2 H2 S2 Fr B _ λH3 S3 z Z=>?_;have V:Mv P H H3 σ σ2 S S3 []:=I.trans Z.mv;cases b with
   |false=>
    simp![Zb,aaa]at e2;cases e2;exact wH (q σ2 H3 S3 z V)
   |true=>
    simp![Yx]at e2;refine tK ⟨λO H'=>∃ρ2 S2,Sta G H' ob ρ2 O S2 Fr/\Mv P H H' σ O S S2 []/\km c body m ρ2=some r,λO H' h=>⟨m,abd m,h⟩,?_⟩;cases Y:body J with
    |none=>rw[Y]at e2;cases e2
    |some fl=>
     rw[Y]at e2;refine U J fl Y σ2 H3 S3 Fr z _ ?_;cases fl with
     |nx D=>exact λO H' S' s' m'=>⟨D,S',s',V.trans m',e2⟩
     |cnt D=>exact λO H' S' s' m'=>⟨D,S',s',V.trans m',e2⟩
     |brk D=>cases e2;exact λO H' S' s' m'=>q O H' S' s' (V.trans m')
     |ret d D=>cases e2;exact q.from V
theorem xJ(n:Nat){body:List Stmt}{fc:En->Option (Bool×En)}(O:∀c,acn (model (X c).prog (X c).w) (X c).A (X c).env (X c).xe)(F:Ei X G ob c fc)(U:pA X G ob P body f):PVS X G ob P (.While c body [] pos) (km fc f n):=let⟨v,c1,c2⟩:=F.ex;let⟨u,b1,b2⟩:=U.ex;⟨_,λc=>NZ (O c) (c1 c) (b1 c),Jq n c2 b2⟩
def lw(i:Nat)(ρ:En):Option En:=match ρ[i]? with
 |some (some d)=>some (ρ.set i (some (fz d)))
 |_=>none
theorem Sta.freeze{I:En}{Fr:Addr->Prop}(s:Sta G H ob ρ σ S Fr)(e:lw i ρ=some I):Sta G H ob I σ (ie S i []) Fr:=by
 unfold lw at e;split at e
 .rename_i d h1
  cases e;obtain⟨v,h2,V,F,J⟩:=s.move h1;have U:Sta G H ob (ρ.set i none) σ (ie S i []) Fr:=F.lessF λa z=>.inr z;have D:i<ρ.length:=(List.getElem?_eq_some_iff.mp h1).1;have q:Rep G H (wn ob (ie S i []) Fr) (fz d) v []:=by
   refine J.fz ⟨λa f=>⟨λz=>f.1 (.inr z),f.2⟩,λa Y=>⟨λz=>s.fdj i a z Y,λ⟨j,q1,q2⟩=>?_,λ⟨j,q1,q2⟩=>?_⟩⟩ (.inl V)
   .rcases dR q2 with⟨_,z⟩|⟨n,z⟩
    .cases z
    .exact n (s.dj j i a z Y)
   .rcases dR q2 with⟨_,z⟩|⟨n,z⟩
    .cases z
    .exact n (s.dj j i a z Y)
  refine⟨by simp[s.len],λj d' B=>?_,λj O=>?_,U.nd,U.dj,U.fdj,U.fdm⟩
  .by_cases e':j=i
   .subst e'
    have:fz d=d':=by simpa[D]using B
    subst this;exact⟨v,h2,by rw[fB];exact q,Lw d⟩
   .rw[List.getElem?_set_ne (Zr e')]at B
    exact U.sl j d' (by rw[List.getElem?_set_ne (Zr e')];exact B)
  .by_cases e':j=i
   .rw[e',fB]
   .exact U.em j λd'=>by have:=O d';rw[List.getElem?_set_ne (Zr e')]at this⊢;exact this
 .cases e
def sFz(i:Nat)(f:En->Option Fl):En->Option Fl:=λρ=>(lw i ρ).bind f
theorem Ux{t:TS}(h:RfS G ob P t f):RfS G ob P t (sFz i f):=λρ r e σ H S Fr s E q=>by
 unfold sFz at e;cases h1:lw i ρ with
 |none=>simp[h1]at e
 |some ρ1=>
  have e:f ρ1=some r:=by simpa[h1]using e
  have m:Mv P H H σ σ S (ie S i []) []:=⟨λ_ _ h _ _=>h,λj a z=>(dR z).elim (λz=>by cases z.2) λz=>.inl ⟨j,z.2⟩,.refl⟩;exact h ρ1 r e σ H (ie S i []) Fr (s.freeze h1) E (q.from m)
theorem qJ(i:Nat){st:Stmt}(h:PVS X G ob P st f):PVS X G ob P st (sFz i f):=let⟨t,a1,a2⟩:=h.ex;⟨t,a1,Ux a2⟩
mutual
noncomputable def dh:D->Bool
 |.tup ds=>bO ds
 |.lst m ds=>m== .own&&bO ds
 |.dct m _ ds=>m== .own&&bO ds
 |.ins m _ _ ds=>m== .own&&bO ds
 |_=>true
noncomputable def bO:List D->Bool
 |[]=>true
 |d::r=>dh d&&bO r
end
mutual
theorem Rep.own:∀{d:D}{v:V}{L:List Addr},Rep G H W d v L->dh d=true->Rep G H W' d v L
 |.non,v,L,h,_=>by rw[Rep]at h⊢;exact h
 |.bl _,v,L,h,_=>by rw[Rep]at h⊢;exact h
 |.int _,v,L,h,_=>by rw[Rep]at h⊢;exact h
 |.str _,v,L,h,_=>by rw[Rep]at h⊢;exact h
 |.ty _,v,L,h,_=>by rw[Rep]at h⊢;exact h
 |.tup ds,v,L,h,o=>by
  rw[Rep]at h⊢;obtain⟨a,xs,rfl,U,Z⟩:=h;exact⟨a,xs,rfl,U,aM.own Z (by simpa[dh]using o)⟩
 |.lst m ds,v,L,h,o=>by
  rw[Rep]at h⊢;obtain⟨a,xs,M,rfl,Z,O⟩:=h;simp[dh]at o;obtain⟨rfl,o⟩:=o;exact⟨a,xs,M,rfl,aM.own Z o,O⟩
 |.dct m ks ds,v,L,h,o=>by
  rw[Rep]at h⊢;obtain⟨a,xs,M,rfl,J,Z,O⟩:=h;simp[dh]at o;obtain⟨rfl,o⟩:=o;exact⟨a,xs,M,rfl,J,aM.own Z o,O⟩
 |.ins m c fs ds,v,L,h,o=>by
  rw[Rep]at h⊢;obtain⟨a,C,dx,xs,M,rfl,B,J,Z,O⟩:=h;simp[dh]at o;obtain⟨rfl,o⟩:=o;exact⟨a,C,dx,xs,M,rfl,B,J,aM.own Z o,O⟩
theorem aM.own:∀{ds:List D}{B:List V}{L:List Addr},aM G H W ds B L->bO ds=true->aM G H W' ds B L
 |[],B,L,h,_=>by rw[aM]at h⊢;exact h
 |d::r,B,L,h,o=>by
  obtain⟨x,ys,M,M',rfl,rfl,h1,h2⟩:=h.inv;simp[bO]at o;exact .cons (Rep.own h1 o.1) (aM.own h2 o.2)
end
def W1(Fr:Addr->Prop):Wn:=⟨Fr,λ_=>False,λ_=>False⟩
def spP(G:Gc)(F:List D->Option D):Sp:=λB H Q _=>∃(ds:List D)(Fr:Addr->Prop),aM G H (W1 Fr) ds B []/\aC ds=true/\aD ds=true/\(∀a,Fr a->Mu H a)/\∃d,F ds=some d/\
 ∀v H' L,Same H H'->Rep G H' (W1 (plus L Fr)) d v L->(∀a∈L,H a=none)->L.Nodup->clean d=true->Q v H'
def en0(n:Nat)(ds:List D):En:=ds.map some++YK (n-ds.length) none
def fnP(B n:Nat)(body:En->Option Fl):List D->Option D:=λds=>if ds.length=B then(body (en0 n ds)).bind λr=>match r with
 |.ret d _=>some d
 |.nx _=>some .non
 |_=>none else none
theorem Gn(h:(en0 n ds)[i]? =some (some d)):ds[i]? =some d:=by
 unfold en0 at h;by_cases hi:i<ds.length
 .rw[Y5 (by simpa using hi)]at h
  simpa using h
 .rw[Za (by simpa using Nat.le_of_not_lt hi)]at h
  rw[ac5]at h;split at h
  .simp at h
  .cases h
theorem XM{B:List V}{Fr:Addr->Prop}(r:aM G H (W1 Fr) ds B [])(O:aC ds=true)(F:aD ds=true)(fm:∀a,Fr a->Mu H a):Sta G H ob (en0 N.length ds) (L2.start N B) (λ_=>[]) Fr where
 len:=by simp[en0,L2.start,r.length]
 sl:=λi d e=>by
  have e:=Gn e;obtain⟨x,M,h1,h2,q⟩:=r.get e;have:M=[]:=by simpa using q
  subst this;refine⟨x,?_,h2.up ⟨Same.refl _,λb u U f=>⟨f.1,λ⟨j,_,z⟩=>(by cases z),λ⟨j,_,z⟩=>(by cases z)⟩,λb u U f=>f.elim⟩,by simp[clean,jo O e,jn F e]⟩;unfold L2.start;have hi:i<B.length:=(List.getElem?_eq_some_iff.mp h1).1;rw[Y5 (by simpa using hi)];simp[h1]
 em:=λ_ _=>rfl
 nd:=λ_=>List.nodup_nil
 dj:=λi j a h=>by cases h
 fdj:=λi a _ h=>by cases h
 fdm:=fm
section
variable{P:Program}{w:World}{K:PySem.W.Frag}{mg:Str->Option Value}{base:Heap}
theorem R5{a:Addr}:¬inS (λ_=>[]) a:=λ⟨_,z⟩=>by cases z
theorem okP{x qual:Str}{st:Stmt}{f:Addr}{fd:YC}{N ps:List Str}{k:Nat}{ob Pr:Nat->Bool}{body:En->Option Fl}(F:Fun K x qual st f fd)(S:bz N ps (aQ st))
  (U:∀(cdv:Value)(A:Y0)(outer:List Env)(s:X4)(H:Hp)(E:XK),jM k (A.deeper (abj qual (aQ st) s.heap.objs.size f cdv))->pA (λ_:Unit=>(wU CX0 P w K mg base N qual (aQ st) f cdv A outer s H E).nox) ⟨K,mg⟩ ob Pr (iW st) body) :
  dJ P w K mg base CX0 (k+1) f fd ps (spP ⟨K,mg⟩ (fnP ps.length N.length body)):=by
 refine F.ok S (λB H Q E h=>?_) (λcdv A outer s H B Q E Z h=>?_)
 .obtain⟨ds,Fr,r,_,_,_,d,e,_⟩:=h
  unfold fnP at e;split at e
  .rename_i hl
   rw[←r.length];exact hl
  .cases e
 .obtain⟨ds,Fr,r,c1,c2,fm,d,e,q⟩:=h
  obtain⟨t,a1,a2⟩:=(U cdv A outer s H E Z).ex;refine⟨t,a1 (),?_⟩;unfold fnP at e;split at e
  .cases h1:body (en0 N.length ds)with
   |none=>simp[h1]at e
   |some fl=>
    rw[h1]at e;simp![gD]at e;refine a2 _ fl h1 (L2.start N B) H (λ_=>[]) Fr (XM (ob:=ob) r c1 c2 fm) _ ?_;have D:∀{S':Ad}{M:List Addr}{b:Addr},(wn ob S' (plus M Fr)).free b->(W1 (plus M Fr)).free b:=λz=>⟨z.1,id,id⟩;cases fl with
    |nx I=>
     cases e;exact λO H' S' s' m=>q .non H' [] (λb o h=>m.kp b o h R5 (by simp)) (by rw[Rep];exact⟨rfl,rfl⟩) (by simp) List.nodup_nil rfl
    |ret d' I=>
     cases e;exact λv O H' M S' s' r' c n f m=>q v H' M (λb o h=>m.kp b o h R5 (by simp)) (by
      have V:=(by simpa[clean]using c:aA d=true/\az d=true);have J:Evo H' H' (wn ob S' (plus M Fr)) (W1 (plus M Fr)):=⟨λb u h z=>⟨h,D z⟩,λ_ _ h=>h⟩;exact r'.mono J (.inl V.1) (.inl V.2) λ_ _ _ h=>h) (λa Y=>(f a Y).resolve_left R5) n c
    |brk I=>cases e
    |cnt I=>cases e
  .cases e
end
def aX(F:List D->Option D)(ds:List D):Option D:=(F (fzL ds)).bind λd=>if(aC ds&&aD ds)||dh d then some d else none
variable{E:XK}
theorem NK{F:List D->Option D}:CaV G (λB H Q=>spP G F (B++[]) H Q E) (aX F):=λds d e xs H W V r nd I w Q q=>by
 unfold aX at e;cases h1:F (fzL ds)with
 |none=>simp[h1]at e
 |some d'=>
  rw[h1]at e;simp![gD]at e;split at e
  .rename_i hc
   cases e;rw[Yz];by_cases U:aC ds=true/\aD ds=true
   .refine⟨fzL ds,λa=>(W.n a∨W.s a∨W.o a)/\a∉V,r.fz ⟨λa f=>⟨λz=>z.1.elim f.1 λz=>z.elim f.2.1 f.2.2,id,id⟩,λa Y=>⟨λz=>z.2 Y,id,id⟩⟩ (.inl U),iI ds,iH ds,λa h=>w a h.1,d,h1,λv H' L s Z fr n c=>?_⟩
    refine q v H' L s ?_ (λa Y=>.inr (fr a Y)) n;have O:=(by simpa[clean]using c:aA d=true/\az d=true);have hL:∀a∈L,a∉V:=λa Y z=>by
     obtain⟨o,J,_⟩:=r.dom a z;rw[fr a Y]at J;cases J
    have ev:Evo H' H' (W1 (plus L λa=>(W.n a∨W.s a∨W.o a)/\a∉V)) ((W.drop V).add L):=⟨λb u h f=>⟨h,⟨λz=>z.elim (λz=>f.1 (.inl z)) λz=>f.1 (.inr ⟨.inl z.1,z.2⟩),λz=>f.1 (.inr ⟨.inr (.inl z),λy=>?_⟩),λz=>f.1 (.inr ⟨.inr (.inr z),λy=>?_⟩)⟩⟩,λ_ _ h=>h⟩
    .exact Z.mono ev (.inl O.1) (.inl O.2) λ_ _ _ h=>h
    .exact(I b y).2.1 z
    .exact(I b y).2.2 z
   .have J:dh d=true:=by
     simp![aeR,Yp]at hc;exact hc.resolve_left U
    refine⟨fzL ds,λ_=>False,r.fz ⟨λa f=>⟨id,id,id⟩,λa Y=>⟨id,id,id⟩⟩ (.inr λa=>⟨id,id,id⟩),iI ds,iH ds,λa h=>h.elim,d,h1,λv H' L s Z fr n c=>?_⟩;exact q v H' L s (Z.own J) (λa Y=>.inr (fr a Y)) n
  .cases e
theorem cF{F:List D->Option D}{f:En->Option (List D)}(C:∀c,Cal (X c).prog (X c).w (X c).K (X c).mg (X c).base k x ps (spP G F))(Z:∀c,jM k (X c).A)(Y:PVA X G ob (e::es) f)(B:∀c,Gl (X c) x:=by intro _;rfl)(q:(x==("__debug__":Str))=false:=by decide)(I:∀c,Yh (e::es) (X c).env=(false,eval e (X c).env)::Yh es (X c).env:=by intro _;rfl)(z:∀c,(Zx pos (Yh es (X c).env)).any (·.1)=false:=by intro _;rfl) :
 PV X G ob (.Call (.Name x p) (e::es) [] pos) (eAp (aX F) f):=let⟨t,a1,a2⟩:=Y.ex;⟨_,λc=>Nb (C c) (Z c) (B c) (a1 c) q (I c) (z c),wg NK a2⟩
variable{a:Addr}
theorem dN.fz2(O:Les H W W' L)(U:m≠.brw∨∀a,W.s a->W'.free a)(J:m≠.bro∨oV W')(h:dN B H W a o m L M):dN B H W' a o (mkF m) [] []:=by
 cases m with
 |own=>exact⟨h.1,O.l a (by rw[h.2];simp),rfl,rfl⟩
 |frz=>exact⟨h.1,O.f a h.2.1,rfl,rfl⟩
 |brw=>exact⟨h.1,U.elim (λz=>absurd rfl z) λz=>z a h.2.1,rfl,rfl⟩
 |bro=>exact⟨h.1,J.elim (λz=>absurd rfl z) λz=>z a,rfl,rfl⟩
 |scr=>exact⟨h.1.imp (λz=>⟨z.1,O.f a z.2⟩) id,rfl,rfl⟩
mutual
theorem Rep.fz2:∀{d:D}{v:V}{L:List Addr},Rep G H W d v L->Les H W W' L->(aA d=true∨∀a,W.s a->W'.free a)->(az d=true∨oV W')->Rep G H W' (fz d) v []
 |.non,v,L,h,_,_,_=>by rw[Rep]at h;simp[Jb.fz,Rep,h]
 |.bl _,v,L,h,_,_,_=>by rw[Rep]at h;simp[Jb.fz,Rep,h]
 |.int _,v,L,h,_,_,_=>by rw[Rep]at h;simp[Jb.fz,Rep,h]
 |.str _,v,L,h,_,_,_=>by rw[Rep]at h;simp[Jb.fz,Rep,h]
 |.ty _,v,L,h,_,_,_=>by rw[Rep]at h;simp[Jb.fz,Rep,h]
 |.tup ds,v,L,h,O,c,o=>by
  rw[Rep]at h;rw[Jb.fz,Rep];obtain⟨a,xs,rfl,U,Z⟩:=h;exact⟨a,xs,rfl,U,aM.fz2 Z O (by simpa[aA]using c) (by simpa[az]using o)⟩
 |.lst m ds,v,L,h,he,c,o=>by
  rw[Rep]at h;rw[Jb.fz,Rep];obtain⟨a,xs,M,rfl,Z,O⟩:=h;exact⟨a,xs,[],rfl,aM.fz2 Z (he.sub λc F=>O.sub.subset F) (c.imp (λz=>by simp[aA]at z;exact z.2) id) (o.imp (λz=>by simp[az]at z;exact z.2) id),O.fz2 he (c.imp (λz=>by simp[aA]at z;exact z.1) id) (o.imp (λz=>by simp[az]at z;exact z.1) id)⟩
 |.dct m ks ds,v,L,h,he,c,o=>by
  rw[Rep]at h;rw[Jb.fz,Rep];obtain⟨a,xs,M,rfl,J,Z,O⟩:=h;exact⟨a,xs,[],rfl,J,aM.fz2 Z (he.sub λc F=>O.sub.subset F) (c.imp (λz=>by simp[aA]at z;exact z.2) id) (o.imp (λz=>by simp[az]at z;exact z.2) id),O.fz2 he (c.imp (λz=>by simp[aA]at z;exact z.1) id) (o.imp (λz=>by simp[az]at z;exact z.1) id)⟩
 |.ins m c' fs ds,v,L,h,he,c,o=>by
  rw[Rep]at h;rw[Jb.fz,Rep];obtain⟨a,C,dx,xs,M,rfl,B,J,Z,O⟩:=h;exact⟨a,C,dx,xs,[],rfl,B,J,aM.fz2 Z (he.sub λc F=>O.sub.subset F) (c.imp (λz=>by simp[aA]at z;exact z.2) id) (o.imp (λz=>by simp[az]at z;exact z.2) id),O.fz2 he (c.imp (λz=>by simp[aA]at z;exact z.1) id) (o.imp (λz=>by simp[az]at z;exact z.1) id)⟩
theorem aM.fz2:∀{ds:List D}{B:List V}{L:List Addr},aM G H W ds B L->Les H W W' L->(aC ds=true∨∀a,W.s a->W'.free a)->(aD ds=true∨oV W')->aM G H W' (fzL ds) B []
 |[],B,L,h,_,_,_=>by obtain⟨rfl,_⟩:=h.inv0;rw[fzL];exact .nil
 |d::r,B,L,h,he,c,o=>by
  obtain⟨x,ys,M,M',rfl,rfl,h1,h2⟩:=h.inv;rw[fzL];exact .cons (M:=[]) (M':=[]) (Rep.fz2 h1 (he.sub λc F=>Ye _ F) (c.imp (λz=>by simp[aC]at z;exact z.1) id) (o.imp (λz=>by simp[aD]at z;exact z.1) id))
   (aM.fz2 h2 (he.sub λc F=>X7 _ F) (c.imp (λz=>by simp[aC]at z;exact z.2) id) (o.imp (λz=>by simp[aD]at z;exact z.2) id))
end
def spI(G:Gc)(ob pr:Nat->Bool)(F:List D->Option (D×List D)):Sp:=λB H Q _=>∃(ds:List D)(S:Ad)(Fr:Addr->Prop),Sta G H ob (ds.map some) (B.map some) S Fr/\(∀i,pr i=false->S i=[])/\∃d I,F ds=some (d,I)/\
 ∀v H' M S',Sta G H' ob (I.map some) (B.map some) S' (plus M Fr)->Rep G H' (wn ob S' (plus M Fr)) d v M->clean d=true->M.Nodup->(∀a∈M,inS S a∨H a=none)->Mv (λ_=>false) H H' [] [] S S' []->Q v H'
def outs(pr:Nat->Bool)(ρ:En):Nat->List D->Option (List D)
 |_,[]=>some []
 |i,d::r=>(if pr i=true then(match ρ[i]? with
  |some (some e)=>some e
  |_=>none)else some d).bind λe=>(outs pr ρ (i+1) r).map λt=>e::t
def fnI(pr:Nat->Bool)(B n:Nat)(body:En->Option Fl):List D->Option (D×List D):=λds=>if ds.length=B then(body (en0 n ds)).bind λr=>match r with
 |.ret d ρ=>(outs pr ρ 0 ds).map λo=>(d,o)
 |.nx ρ=>(outs pr ρ 0 ds).map λo=>(.non,o)
 |_=>none else none
theorem G_{pr:Nat->Bool}{ρ:En}:∀{ds I:List D}{k:Nat},outs pr ρ k ds=some I->I.length=ds.length/\∀i d,I[i]? =some d->(pr (k+i)=true/\ρ[k+i]? =some (some d))∨(pr (k+i)=false/\ds[i]? =some d)
 |[],I,k,e=>by
  cases e;exact⟨rfl,λi d h=>by simp at h⟩
 |d0::r,I,k,e=>by
  rw[outs]at e;cases h2:outs pr ρ (k+1) r with
  |none=>
   rw[h2]at e;simp at e
  |some t=>
   rw[h2]at e;obtain⟨q,B⟩:=G_ h2;have V:∃U,I=U::t/\((pr k=true/\ρ[k]? =some (some U))∨(pr k=false/\d0=U)):=by
    split at e
    .rename_i hp
     split at e
     .rename_i U h0
      exact⟨U,by simpa using e.symm,.inl ⟨hp,h0⟩⟩
     .simp at e
    .rename_i hp
     exact⟨d0,by simpa using e.symm,.inr ⟨by simpa using hp,rfl⟩⟩
   obtain⟨U,rfl,J⟩:=V;refine⟨by simp[q],λi d h=>?_⟩;cases i with
   |zero=>
    have:U=d:=by simpa using h
    subst this;exact J.imp id λz=>⟨z.1,by simp[z.2]⟩
   |succ i=>
    have:=B i d (by simpa using h);rw[show k+1+i=k+(i+1)by omega]at this;simpa using this
theorem lZ{xs:List α}{x:α}(h:(xs.map some)[i]? =some (some x)):xs[i]? =some x:=by
 rw[List.getElem?_map]at h;cases e:xs[i]? with
 |none=>rw[e]at h;cases h
 |some y=>rw[e]at h;simpa using h
theorem gB{xs:List α}{x:α}(h:xs[i]? =some x):(xs.map some)[i]? =some (some x):=by rw[List.getElem?_map,h];rfl
theorem Xu{B:List V}{Fr:Addr->Prop}(s:Sta G H ob (ds.map some) (B.map some) S Fr):Sta G H ob (en0 N.length ds) (L2.start N B) S Fr where
 len:=by have:=s.len;simp at this;simp[en0,L2.start,this]
 sl:=λi d e=>by
  obtain⟨v,h1,h2,q⟩:=s.sl i d (gB (Gn e));refine⟨v,?_,h2,q⟩;unfold L2.start;have hi:i<(B.map some).length:=(List.getElem?_eq_some_iff.mp h1).1;rw[Y5 hi];exact h1
 em:=λi h=>s.em i λd e=>h d (by
  unfold en0;have hi:i<(ds.map some).length:=(List.getElem?_eq_some_iff.mp e).1;rw[Y5 hi];exact e)
 nd:=s.nd
 dj:=s.dj
 fdj:=s.fdj
 fdm:=s.fdm
section
variable{P:Program}{w:World}{K:PySem.W.Frag}{mg:Str->Option Value}{base:Heap}
theorem Ci{G:Gc}{H H':Hp}{ob pr:Nat->Bool}{ds a0:List D}{B:List V}{N:List Str}{S S1:Ad}{Fr:Addr->Prop}{ρ:En}{σ:L2.St}{M:List Addr}(s:Sta G H ob (ds.map some) (B.map some) S Fr)(O:∀i,pr i=false->S i=[])(Z:Sta G H' ob ρ σ S1 (plus M Fr))
  (m:Mv pr H H' (L2.start N B) σ S S1 []) (F:∀a∈M,inS S a∨H a=none) (e:outs pr ρ 0 ds=some a0) :
  Sta G H' ob (a0.map some) (B.map some) (λi=>if pr i=true/\i<ds.length then S1 i else[]) (plus M Fr):=by
 obtain⟨hl,hg⟩:=G_ e;have lv:ds.length=B.length:=by have:=s.len;simpa using this
 have sub:∀{i a},a∈(if pr i=true/\i<ds.length then S1 i else[])->a∈S1 i:=λ{i a} z=>by
  split at z
  .exact z
  .cases z
 refine⟨by simp[hl,lv],λi d h=>?_,λi h=>?_,λi=>?_,λi j a h1 h2=>Z.dj i j a (sub h1) (sub h2),λi a h z=>Z.fdj i a h (sub z),Z.fdm⟩
 .have h:=lZ h
  have hi:i<ds.length:=by rw[←hl];exact(List.getElem?_eq_some_iff.mp h).1
  rcases hg i d h with⟨h1,h2⟩|⟨h1,h2⟩
  .rw[aar]at h1 h2
   obtain⟨v,q1,q2,q3⟩:=Z.sl i d h2;have e1:=m.pr i h1;rw[q1]at e1;refine⟨v,?_,?_,q3⟩
   .unfold L2.start at e1
    rw[Y5 (by simp;omega)]at e1;exact e1.symm
   .rw[Yi ⟨h1,hi⟩]
    have q:=(by simpa[clean]using q3:aA d=true/\az d=true);have J:Evo H' H' (wn ob S1 (plus M Fr)) (wn ob (λi=>if pr i=true/\i<ds.length then S1 i else[]) (plus M Fr)):=⟨λb u U f=>⟨U,⟨f.1,λ⟨j,Y,I⟩=>f.2.1 ⟨j,Y,sub I⟩,λ⟨j,Y,I⟩=>f.2.2 ⟨j,Y,sub I⟩⟩⟩,λ_ _ h=>h⟩;exact q2.mono J (.inl q.1) (.inl q.2) λ_ _ _ h=>h
  .rw[aar]at h1
   obtain⟨v,q1,q2,q3⟩:=s.sl i d (gB h2);refine⟨v,q1,?_,q3⟩;rw[YB λz=>by rw[h1]at z;cases z.1];rw[O i h1]at q2;have q:=(by simpa[clean]using q3:aA d=true/\az d=true);have a1:=DW s (σ2:=σ) (H2:=H') (S2:=S1) (P:=λ_=>false) ⟨m.kp,m.gr,λi h=>by cases h⟩;have J:Evo H H' (wn ob S Fr) (wn ob (λi=>if pr i=true/\i<ds.length then S1 i else[]) (plus M Fr)):=⟨λb u U f=>?_,a1.t⟩
   .exact q2.mono J (.inl q.1) (.inl q.2) (by simp)
   .obtain⟨k1,k2⟩:=a1.k b u U f
    refine⟨k1,λz=>z.elim (λz=>?_) f.1,λ⟨j,Y,I⟩=>k2.2.1 ⟨j,Y,sub I⟩,λ⟨j,Y,I⟩=>k2.2.2 ⟨j,Y,sub I⟩⟩;rcases F b z with⟨j,y⟩|y
    .cases ho:ob j with
     |false=>exact f.2.1 ⟨j,ho,y⟩
     |true=>exact f.2.2 ⟨j,ho,y⟩
    .rw[U]at y;cases y
 .split
  .rename_i z
   exfalso;have hi:i<a0.length:=by rw[hl];exact z.2
   exact h a0[i] (gB (by simp[hi]))
  .rfl
 .show(if pr i=true/\i<ds.length then S1 i else[]).Nodup
  split
  .exact Z.nd i
  .exact List.nodup_nil
theorem okI{x qual:Str}{st:Stmt}{f:Addr}{fd:YC}{N ps:List Str}{k:Nat}{ob pr:Nat->Bool}{body:En->Option Fl}(F:Fun K x qual st f fd)(S:bz N ps (aQ st))
  (U:∀(cdv:Value)(A:Y0)(outer:List Env)(s:X4)(H:Hp)(E:XK),jM k (A.deeper (abj qual (aQ st) s.heap.objs.size f cdv))->pA (λ_:Unit=>(wU CX0 P w K mg base N qual (aQ st) f cdv A outer s H E).nox) ⟨K,mg⟩ ob pr (iW st) body) :
  dJ P w K mg base CX0 (k+1) f fd ps (spI ⟨K,mg⟩ ob pr (fnI pr ps.length N.length body)):=by
 refine F.ok S (λB H Q E h=>?_) (λcdv A outer s H B Q E Z h=>?_)
 .obtain⟨ds,S,Fr,st,_,d,ds',e,_⟩:=h
  unfold fnI at e;split at e
  .rename_i hl
   have:=st.len;simp at this;rw[←this];exact hl
  .cases e
 .obtain⟨ds,S0,Fr,st,hp,d,ds',e,q⟩:=h
  obtain⟨t,a1,a2⟩:=(U cdv A outer s H E Z).ex;refine⟨t,a1 (),?_⟩;unfold fnI at e;split at e
  .cases h1:body (en0 N.length ds)with
   |none=>simp[h1]at e
   |some fl=>
    rw[h1]at e;simp![gD]at e;refine a2 _ fl h1 (L2.start N B) H S0 Fr (Xu st) _ ?_;have sub:∀{S1:Ad}{i a},a∈(if pr i=true/\i<ds.length then S1 i else[])->a∈S1 i:=λ{S1 i a} z=>by
     split at z
     .exact z
     .cases z
    cases fl with
    |nx I=>
     cases h2:outs pr I 0 ds with
     |none=>simp[h2]at e
     |some o=>
      obtain⟨rfl,rfl⟩:D.non=d/\o=ds':=by simpa[h2]using e
      refine λO H' S1 s1 m=>q .non H' [] _ (Ci st hp (M:=[]) (by rw[kW];exact s1) m (by simp) h2) (by rw[Rep];exact⟨rfl,rfl⟩) rfl List.nodup_nil (by simp) ⟨m.kp,λi a z=>m.gr i a (sub z),λi h=>by cases h⟩
    |ret d' I=>
     cases h2:outs pr I 0 ds with
     |none=>simp[h2]at e
     |some o=>
      obtain⟨rfl,rfl⟩:d'=d/\o=ds':=by simpa[h2]using e
      refine λv O H' M S1 s1 r c n f m=>q v H' M _ (Ci st hp s1 m f h2) ?_ c n f ⟨m.kp,λi a z=>m.gr i a (sub z),λi h=>by cases h⟩;have V:=(by simpa[clean]using c:aA d'=true/\az d'=true);have J:Evo H' H' (wn ob S1 (plus M Fr)) (wn ob (λi=>if pr i=true/\i<ds.length then S1 i else[]) (plus M Fr)):=⟨λb u U f=>⟨U,⟨f.1,λ⟨j,Y,z2⟩=>f.2.1 ⟨j,Y,sub z2⟩,λ⟨j,Y,z2⟩=>f.2.2 ⟨j,Y,sub z2⟩⟩⟩,λ_ _ h=>h⟩;exact r.mono J (.inl V.1) (.inl V.2) λ_ _ _ h=>h
    |brk I=>cases e
    |cnt I=>cases e
  .cases e
end
def RfM(G:Gc)(ob:Nat->Bool)(t:TA)(js:List Nat)(f:En->Option (List D×En)):Prop:=∀(ρ:En)(ds:List D)(I:En),f ρ=some (ds,I)->∀(σ:L2.St)(H:Hp)(S:Ad)(Fr:Addr->Prop),Sta G H ob ρ σ S Fr->
 ∀us:List V,js.map (λj=>σ[j]?)=us.map (λu=>some (some u))->∀Q:List V->Hp->Prop,
 (∀B H' M S',Sta G H' ob I σ S' (plus M Fr)->aM G H' (wn ob S' (plus M Fr)) ds B M->M.Nodup->Eff ob H H' S S' M->Q (us++B) H')->t σ H Q
structure PVM{ι:Type}(X:ι->Cx)(G:Gc)(ob:Nat->Bool)(es:List Expr)(js:List Nat)(f:En->Option (List D×En)):Prop where
 mk::(ex:∃t,(∀c,PA (X c) es t)/\RfM G ob t js f)
variable{f:En->Option (List D×En)}
theorem bC(h:wF X G ob es f):PVM X G ob es [] f:=by
 obtain⟨t,Y,z⟩:=h.ex;refine⟨t,Y,λρ ds I e σ H S Fr s us F Q q=>?_⟩;have:us=[]:=by simpa using F
 subst this;exact z ρ ds I e σ H S Fr s Q q
theorem bF(i:Nat)(h:PVM X G ob es js f)(z:∀c,(X c).N[i]? =some x:=by intro _;rfl)(J:∀c,Vis (X c).env.scope x:=by intro _;first|exact ZX rfl|exact Zm (ZX rfl)|exact Zm (Zm rfl))(hd:(x==("__debug__":Str))=false:=by decide)(V:(x==("__classdict__":Str))=false:=by decide)(O:∀c,Yh (.Name x pos::es) (X c).env=(false,eval (.Name x pos) (X c).env)::Yh es (X c).env:=by intro _;rfl):PVM X G ob (.Name x pos::es) (i::js) f:=by
 obtain⟨t,Y,Z⟩:=h.ex;refine⟨_,λc=>zj (pv i (z c) (J c) hd V) (Y c) (O c),λρ ds I e σ H S Fr s us F Q q=>?_⟩;cases us with
 |nil=>simp at F
 |cons u us=>
  rw[X8,X8]at F;injection F with h1 h2;exact⟨u,h1,Z ρ ds I e σ H S Fr s us h2 _ λB H' M S' s' r n U=>q B H' M S' s' r n U⟩
def objs(js:List Nat)(ρ:En):Option (List D):=js.mapM λj=>ρ[j]?.bind id
def iZ:List Nat->List D->En->En
 |j::js,d::ds,ρ=>iZ js ds (ρ.set j (some d))
 |_,_,ρ=>ρ
def eIo(F:List D->Option (D×List D))(js:List Nat)(f:En->Option (List D×En)):En->Option (D×En):=λρ=>if(objs js ρ).isSome=true then(f ρ).bind λp=>(objs js p.2).bind λos=>if aD p.1=true then(F (os++fzL p.1)).bind λq=>
 if aC p.1=true∨(dh q.1=true/\bO (q.2.take js.length)=true)then some (q.1,iZ js q.2 p.2)else none else none else none
theorem Ai{ρ:En}:∀{js:List Nat}{os:List D},objs js ρ=some os->os.length=js.length/\∀(k j:Nat),js[k]? =some j->∃d,os[k]? =some d/\ρ[j]? =some (some d)
 |[],os,h=>by
  have:os=[]:=by simpa[objs]using h.symm
  subst this;exact⟨rfl,λk j h=>by simp at h⟩
 |j::js,os,h=>by
  unfold objs at h;rw[adz]at h;cases h1:ρ[j]?.bind id with
  |none=>simp[h1]at h
  |some d=>
   cases h2:js.mapM (λj=>ρ[j]?.bind id)with
   |none=>simp[h1,h2]at h
   |some t=>
    have:os=d::t:=by simpa[h1,h2]using h.symm
    subst this;obtain⟨l,g⟩:=Ai (js:=js) (os:=t) h2;refine⟨by simp[l],λk i e=>?_⟩;cases k with
    |zero=>
     have:j=i:=by simpa using e
     subst this;refine⟨d,rfl,?_⟩;cases V:ρ[j]? with
     |none=>rw[V]at h1;cases h1
     |some o=>rw[V]at h1;simpa using h1
    |succ k=>simpa using g k i (by simpa using e)
theorem xO:∀(js:List Nat)(ds:List D)(ρ:En),(iZ js ds ρ).length=ρ.length
 |[],ds,ρ=>by cases ds<;>rfl
 |_::_,[],ρ=>rfl
 |j::js,d::ds,ρ=>by rw[iZ,xO js ds];simp
theorem nU:∀{js:List Nat}{ds:List D}{ρ:En}{j:Nat},j∉js->(iZ js ds ρ)[j]? =ρ[j]?
 |[],ds,ρ,j,_=>by cases ds<;>rfl
 |_::_,[],ρ,j,_=>rfl
 |i::js,d::ds,ρ,j,h=>by
  rw[iZ,nU (λz=>h (YJ _ z)),List.getElem?_set_ne λz=>h (by rw[z];exact Zh)]
theorem ww:∀{js:List Nat}{ds:List D}{ρ:En}{k j:Nat}{d:D},js.Nodup->js[k]? =some j->ds[k]? =some d->j<ρ.length->(iZ js ds ρ)[j]? =some (some d)
 |[],ds,ρ,k,j,d,_,h,_,_=>by simp at h
 |_::_,[],ρ,k,j,d,_,_,h,_=>by simp at h
 |i::js,d0::ds,ρ,k,j,d,n,h1,h2,hl=>by
  rw[iZ];cases k with
  |zero=>
   have e1:i=j:=by simpa using h1
   have e2:d0=d:=by simpa using h2
   subst e1 e2;rw[nU (Yy.mp n).1];simp[hl]
  |succ k=>exact ww (Yy.mp n).2 (by simpa using h1) (by simpa using h2) (by simpa using hl)
def pick(S:Ad)(js:List Nat):Ad:=λi=>match js[i]? with
 |some j=>S j
 |none=>[]
theorem jC(h:a∈pick S js i):∃j,js[i]? =some j/\a∈S j:=by
 unfold pick at h;split at h
 .rename_i j e;exact⟨j,e,h⟩
 .cases h
def back(S:Ad)(js:List Nat)(Sc:Ad):Ad:=λj=>match js.idxOf? j with
 |some i=>Sc i
 |none=>S j
theorem v6(h:js.idxOf? j=some i):js[i]? =some j:=by
 obtain⟨h1,h2,V⟩:=Zc.mp h;have:js[i]=j:=by simpa using h2
 rw[X5 h1,this]
theorem Dy(h:js.idxOf? j=none):j∉js:=by
 intro z;have:=Zg.mp h j z;simp at this
theorem U8(n:js.Nodup)(h:js[i]? =some j):js.idxOf? j=some i:=by
 cases e:js.idxOf? j with
 |none=>exact absurd (YD h) (Dy e)
 |some k=>
  have:=v6 e;have J:k<js.length:=(List.getElem?_eq_some_iff.mp this).1;rw[(acJ J n).mp (this.trans h.symm)]
theorem Qp{Sc:Ad}(n:js.Nodup)(h:js[i]? =some j):back S js Sc j=Sc i:=by unfold back;rw[U8 n h]
theorem z6{Sc:Ad}(h:j∉js):back S js Sc j=S j:=by
 unfold back;split
 .rename_i i e;exact absurd (YD (v6 e)) h
 .rfl
theorem lR{Sc:Ad}(h:a∈back S js Sc j):(∃i,js[i]? =some j/\a∈Sc i)∨(j∉js/\a∈S j):=by
 unfold back at h;split at h
 .rename_i i e;exact .inl ⟨i,v6 e,h⟩
 .rename_i e;exact .inr ⟨Dy e,h⟩
theorem zN(h:bO (ds.take k)=true)(e:ds[i]? =some d)(hi:i<k):dh d=true:=by
 induction ds generalizing k i with
 |nil=>simp at e
 |cons a r J=>
  cases k with
  |zero=>omega
  |succ k=>
   rw[List.take_succ_cons,bO,Yp]at h;cases i with
   |zero=>
    have:a=d:=by simpa using e
    rw[←this];exact h.1
   |succ i=>exact J h.2 (by simpa using e) (by omega)
theorem Hm:∀{js:List Nat},(∀j∈js,∃u,σ[j]? =some (some u))->∃us:List V,js.map (λj=>σ[j]?)=us.map (λu=>some (some u))
 |[],_=>⟨[],rfl⟩
 |j::js,h=>by
  obtain⟨us,F⟩:=Hm (js:=js) λi hi=>h i (YJ _ hi);obtain⟨u,q⟩:=h j Zh;exact⟨u::us,by rw[X8,X8,F,q]⟩
theorem Sq{oc:Nat->Bool}{F:List D->Option (D×List D)}(hj:js.Nodup)(J:∀j∈js,ob j=true)(O:∀i,i<js.length->pr i=true)(h:RfM G ob t js f) :
  mW G ob (λσ H Q=>t σ H λB H1=>spI G oc pr F (B++[]) H1 Q E) (eIo F js f):=λρ d I e σ H S Fr s Q q=>by
 unfold eIo at e;split at e
 .rename_i hsome
  cases h0:objs js ρ with
  |none=>rw[h0]at hsome;cases hsome
  |some d4=>
   cases h1:f ρ with
   |none=>simp[h1]at e
   |some p=>
    obtain⟨ds,ρ1⟩:=p;rw[h1]at e;simp![gD]at e;cases h2:objs js ρ1 with
    |none=>simp[h2]at e
    |some os=>
     rw[h2]at e;simp![gD]at e;split at e
     .rename_i hbro
      cases h3:F (os++fzL ds)with
      |none=>simp[h3]at e
      |some z=>
       obtain⟨d1,a1⟩:=z;rw[h3]at e;simp![gD]at e;split at e
       .rename_i b5
        obtain⟨rfl,rfl⟩:d1=d/\iZ js a1 ρ1=I:=by simpa using e
        obtain⟨l0,g0⟩:=Ai h0;obtain⟨l1,g1⟩:=Ai h2;have b1:∃us:List V,js.map (λj=>σ[j]?)=us.map (λu=>some (some u)):=by
         have:∀j∈js,∃u,σ[j]? =some (some u):=λj hj=>by
          obtain⟨k,hk⟩:=ab0.mp hj;obtain⟨d0,_,q2⟩:=g0 k j hk;obtain⟨v,q3,_⟩:=s.sl j d0 q2;exact⟨v,q3⟩
         exact Hm this
        obtain⟨us,b1⟩:=b1;have c1:us.length=js.length:=by have:=congrArg aad b1;simpa using this.symm
        have c4:∀(k j:Nat)(u:V),js[k]? =some j->us[k]? =some u->σ[j]? =some (some u):=λk j u h1 h2=>by
         have:=congrArg (λl=>l[k]?) b1;simp![List.getElem?_map,h1,h2,YM,aaz]at this;exact this
        refine h ρ ds ρ1 h1 σ H S Fr s us b1 _ λB H1 M S1 Z r1 d5 c3=>?_;rw[Yz];have b2:∀{i a},a∈pick S1 js i->inO ob S1 a:=λ{i a} z=>by
         obtain⟨j,e,y⟩:=jC z;exact⟨j,J j (YD e),y⟩
        have a2:∀{a},inS (pick S1 js) a->inO ob S1 a:=λ⟨i,z⟩=>b2 z;have b0:∀{i a},a∈S1 i->¬(wn ob S1 (plus M Fr)).free a:=λ{i a} z f=>by
         cases b3:ob i with
         |false=>exact f.2.1 ⟨i,b3,z⟩
         |true=>exact f.2.2 ⟨i,b3,z⟩
        let a5:Addr->Prop:=λa=>aC ds=true/\((Fr a∨inS S1 a)/\¬inS (pick S1 js) a)
        have a8:∀a,(wn ob S1 (plus M Fr)).free a->(wn oc (pick S1 js) a5).free a:=λa f=>by
         refine⟨λz=>?_,λ⟨i,_,z⟩=>?_,λ⟨i,_,z⟩=>?_⟩
         .rcases z.2.1 with y|⟨i,y⟩
          .exact f.1 (.inr y)
          .exact b0 y f
         .exact f.2.2 (b2 z)
         .exact f.2.2 (b2 z)
        have c8:∀a∈M,¬Fr a:=λa Y z=>by
         rcases c3.fm a Y with y|y
         .exact s.notO z y
         .obtain⟨o,J,_⟩:=s.fdm a z
          rw[y]at J;cases J
        have b7:∀a∈M,(wn oc (pick S1 js) a5).free a:=λa Y=>by
         refine⟨λz=>?_,λ⟨i,_,z⟩=>?_,λ⟨i,_,z⟩=>?_⟩
         .rcases z.2.1 with y|⟨i,y⟩
          .exact c8 a Y y
          .exact Z.fdj i a (.inl Y) y
         .obtain⟨j,_,y⟩:=jC z;exact Z.fdj j a (.inl Y) y
         .obtain⟨j,_,y⟩:=jC z;exact Z.fdj j a (.inl Y) y
        have c7:aM G H1 (wn oc (pick S1 js) a5) (fzL ds) B []:=by
         refine r1.fz2 ⟨a8,b7⟩ ?_ (.inl hbro);by_cases c6:aC ds=true
         .exact .inl c6
         .refine .inr λa Y=>⟨λz=>c6 z.1,λ⟨i,_,z⟩=>?_,λ⟨i,_,z⟩=>?_⟩
          .obtain⟨i1,o1,y1⟩:=Y
           obtain⟨i2,o2,y2⟩:=b2 z;rw[Z.dj i1 i2 a y1 y2,o2]at o1;cases o1
          .obtain⟨i1,o1,y1⟩:=Y
           obtain⟨i2,o2,y2⟩:=b2 z;rw[Z.dj i1 i2 a y1 y2,o2]at o1;cases o1
        have sc:Sta G H1 oc ((os++fzL ds).map some) ((us++B).map some) (pick S1 js) a5:=by
         refine⟨by simp[l1,c1,c7.length],λi d0 hi=>?_,λi hi=>?_,λi=>?_,λi k a h1 h2=>?_,λi a h1 h2=>h1.2.2 ⟨i,h2⟩,λa Y=>?_⟩
         .have hi:=lZ hi
          by_cases b4:i<js.length
          .obtain⟨dd,q1,q2⟩:=g1 i js[i] (by simp[b4])
           rw[Y5 (by omega),q1]at hi;cases hi;obtain⟨v,q3,q4,q5⟩:=Z.sl _ _ q2;have a3:=(by simpa[clean]using q5:aA d0=true/\az d0=true);have d2:∃u,us[i]? =some u:=⟨us[i],by simp[c1,b4]⟩;obtain⟨u,hu⟩:=d2;have:=c4 i js[i] u (by simp[b4]) hu;rw[q3]at this;cases this;refine⟨v,gB (by rw[Y5 (by omega)];exact hu),?_,q5⟩;have:pick S1 js i=S1 js[i]:=by unfold pick;rw[X5 b4]
           rw[this];have ev:Evo H1 H1 (wn ob S1 (plus M Fr)) (wn oc (pick S1 js) a5):=⟨λb u h f=>⟨h,a8 b f⟩,λ_ _ h=>h⟩;exact q4.mono ev (.inl a3.1) (.inl a3.2) λ_ _ _ h=>h
          .rw[Za (by omega)]at hi
           obtain⟨x,M',q1,q2,q3⟩:=c7.get hi;have:M'=[]:=by simpa using q3
           subst this;refine⟨x,gB (by rw[Za (by omega),c1,←l1];exact q1),?_,by simp[clean,jo (iI ds) hi,jn (iH ds) hi]⟩;have:pick S1 js i=[]:=by unfold pick;rw[aac (by omega)]
           rw[this];exact q2
         .unfold pick
          split
          .rename_i j hj'
           exfalso;obtain⟨dd,q1,q2⟩:=g1 i j hj';exact hi dd (gB (by rw[Y5 (by rw[l1];exact(List.getElem?_eq_some_iff.mp hj').1)];exact q1))
          .rfl
         .unfold pick
          split
          .exact Z.nd _
          .exact List.nodup_nil
         .obtain⟨j1,e1,y1⟩:=jC h1
          obtain⟨j2,e2,y2⟩:=jC h2;have:=Z.dj j1 j2 a y1 y2;rw[this,←e2]at e1;exact(acJ (by
           cases hh:js[i]? with
           |none=>rw[hh,e2]at e1;cases e1
           |some _=>exact(List.getElem?_eq_some_iff.mp hh).1) hj).mp e1
         .rcases Y.2.1 with y|⟨i,y⟩
          .exact Z.fdm a (.inr y)
          .exact Z.mu y
        refine⟨os++fzL ds,pick S1 js,a5,sc,λi hi=>?_,d1,a1,h3,λv H2 Mc Sc s2 r2 c2 n2 c0 m2=>?_⟩
        .unfold pick
         split
         .rename_i j hj'
          rw[O i (List.getElem?_eq_some_iff.mp hj').1]at hi;cases hi
         .rfl
        .have l2:a1.length=(os++fzL ds).length:=by
          have h1:=s2.len;have h2:=sc.len;simp![X_]at h1 h2;rw[h1,←h2]
         have kept:∀b u,H1 b=some u->¬inS (pick S1 js) b->H2 b=some u:=λb u U n=>m2.kp b u U n (by simp);have a4:∀{i b},b∈Sc i->inS (pick S1 js) b∨H1 b=none:=λ{i b} z=>(m2.gr i b z).imp id λy=>y.resolve_left (by simp);have b6:∀{b},Fr b->¬inS (pick S1 js) b:=λ{b} z ⟨i,y⟩=>by obtain⟨j,_,y⟩:=jC y;exact Z.fdj j b (.inr z) y
         have a0:∀{j b},j∉js->b∈S1 j->¬inS (pick S1 js) b:=λ{j b} hn z ⟨i,y⟩=>by
          obtain⟨k,e,y⟩:=jC y;rw[Z.dj j k b z y]at hn;exact hn (YD e)
         have b9:∀{i b},b∈S1 i->H1 b≠none:=λ{i b} z y=>by obtain⟨o,J,_⟩:=Z.mu z;rw[y]at J;cases J
         have ev:Evo H1 H2 (wn ob S1 (plus M Fr)) (wn ob (back S1 js Sc) (plus Mc Fr)):=by
          refine⟨λb u U f=>?_,λb xs h=>?_⟩
          .have n1:¬inS (pick S1 js) b:=λz=>f.2.2 (a2 z)
           have n2:∀i,b∉back S1 js Sc i:=λi z=>by
            rcases lR z with⟨k,_,y⟩|⟨_,y⟩
            .rcases a4 y with y|y
             .exact n1 y
             .rw[U]at y;cases y
            .exact b0 y f
           refine⟨kept b u U n1,λz=>?_,λ⟨i,_,z⟩=>n2 i z,λ⟨i,_,z⟩=>n2 i z⟩;rcases z with z|z
           .rcases c0 b z with y|y
            .exact n1 y
            .rw[U]at y;cases y
           .exact f.1 (.inr z)
          .have no:∀u,H1 b=some u->muO u=false->H2 b=some u:=λu hu mu=>kept b u hu λ⟨i,z⟩=>by
            obtain⟨j,_,z⟩:=jC z;obtain⟨o,J,hm⟩:=Z.mu z;rw[hu]at J;cases J;rw[mu]at hm;cases hm
           exact no _ h rfl
         have conv:∀(e:D)(x:V)(L:List Addr),(aC ds=true∨dh e=true)->clean e=true->Rep G H2 (wn oc Sc (plus Mc a5)) e x L->Rep G H2 (wn ob (back S1 js Sc) (plus Mc Fr)) e x L:=λe x L hc b5 r=>by
          rcases hc with hc|hc
          .have a3:=(by simpa[clean]using b5:aA e=true/\az e=true)
           have c9:Evo H2 H2 (wn oc Sc (plus Mc a5)) (wn ob (back S1 js Sc) (plus Mc Fr)):=⟨λb u U f=>?_,λ_ _ h=>h⟩
           .exact r.mono c9 (.inl a3.1) (.inl a3.2) λ_ _ _ h=>h
           .have nSc:∀i,b∉Sc i:=λi z=>by
             cases b3:oc i with
             |false=>exact f.2.1 ⟨i,b3,z⟩
             |true=>exact f.2.2 ⟨i,b3,z⟩
            have nb:∀j,b∉back S1 js Sc j:=λj z=>by
             rcases lR z with⟨k,_,y⟩|⟨hn,y⟩
             .exact nSc k y
             .exact f.1 (.inr ⟨hc,.inr ⟨j,y⟩,a0 hn y⟩)
            refine⟨U,λz=>?_,λ⟨i,_,z⟩=>nb i z,λ⟨i,_,z⟩=>nb i z⟩;rcases z with z|z
            .exact f.1 (.inl z)
            .exact f.1 (.inr ⟨hc,.inl z,b6 z⟩)
          .exact r.own hc
         have d3:∀(j:Nat)(d0:D),(iZ js a1 ρ1)[j]? =some (some d0)->∃v,σ[j]? =some (some v)/\Rep G H2 (wn ob (back S1 js Sc) (plus Mc Fr)) d0 v (back S1 js Sc j)/\clean d0=true:=λj d0 a7=>by
          by_cases a6:j∈js
          .obtain⟨k,hk⟩:=ab0.mp a6
           have c5:k<js.length:=(List.getElem?_eq_some_iff.mp hk).1;obtain⟨dd,q1,q2⟩:=g1 k j hk;have b8:j<ρ1.length:=(List.getElem?_eq_some_iff.mp q2).1;have a9:k<a1.length:=by rw[l2,YW];omega
           rw[ww hj hk (d:=a1[k]) (by simp[a9]) b8]at a7;cases a7;obtain⟨v,q3,q4,q5⟩:=s2.sl k a1[k] (gB (by simp[a9]));have q3:=lZ q3;rw[Y5 (by omega)]at q3;refine⟨v,c4 k j v hk q3,?_,q5⟩;rw[Qp hj hk];refine conv _ _ _ (b5.imp id λz=>zN z.2 (by simp[a9]) c5) q5 q4
          .rw[nU a6]at a7
           obtain⟨v,q1,q2,q3⟩:=Z.sl j d0 a7;have a3:=(by simpa[clean]using q3:aA d0=true/\az d0=true);refine⟨v,q1,?_,q3⟩;rw[z6 a6];exact q2.mono ev (.inl a3.1) (.inl a3.2) λc hc u hu=>kept c u hu (a0 a6 hc)
         refine q v H2 Mc (back S1 js Sc) ⟨?_,d3,?_,?_,?_,?_,?_⟩ (conv _ _ _ (b5.imp id λz=>z.1) c2 r2) n2 ?_
         .rw[xO];exact Z.len
         .intro j a7
          by_cases a6:j∈js
          .obtain⟨k,hk⟩:=ab0.mp a6
           obtain⟨dd,q1,q2⟩:=g1 k j hk;have b8:j<ρ1.length:=(List.getElem?_eq_some_iff.mp q2).1;have c5:k<js.length:=(List.getElem?_eq_some_iff.mp hk).1;have a9:k<a1.length:=by rw[l2,YW];omega
           exact absurd (ww hj hk (d:=a1[k]) (by simp[a9]) b8) (a7 _)
          .rw[z6 a6]
           exact Z.em j λd0=>by have:=a7 d0;rwa[nU a6]at this
         .intro j
          unfold back;split
          .exact s2.nd _
          .exact Z.nd j
         .intro i k a y1 y2
          rcases lR y1 with⟨i1,e1,z1⟩|⟨e1,z1⟩<;>rcases lR y2 with⟨i2,e2,z2⟩|⟨e2,z2⟩
          .have:=s2.dj i1 i2 a z1 z2
           rw[this,e2]at e1;exact(Ze e1).symm
          .rcases a4 z1 with y|y
           .exact absurd y (a0 e2 z2)
           .exact absurd y (b9 z2)
          .rcases a4 z2 with y|y
           .exact absurd y (a0 e1 z1)
           .exact absurd y (b9 z1)
          .exact Z.dj i k a z1 z2
         .intro j a Y z
          rcases lR z with⟨i,_,y⟩|⟨hn,y⟩
          .rcases Y with Y|Y
           .exact s2.fdj i a (.inl Y) y
           .rcases a4 y with y|y
            .exact b6 Y y
            .obtain⟨o,J,_⟩:=Z.fdm a (.inr Y)
             rw[y]at J;cases J
          .rcases Y with Y|Y
           .rcases c0 a Y with y'|y'
            .exact a0 hn y y'
            .exact b9 y y'
           .exact Z.fdj j a (.inr Y) y
         .intro a Y
          rcases Y with Y|Y
          .exact r2.dom a Y
          .obtain⟨o,J,hm⟩:=Z.fdm a (.inr Y)
           exact⟨o,kept a o J (b6 Y),hm⟩
         .have ef2:Eff ob H1 H2 S1 (back S1 js Sc) Mc:=by
           refine⟨λb u U n=>kept b u U λz=>n (a2 z),λi hi=>z6 (λz=>by rw[J i z]at hi;cases hi),λi a hi z=>?_,λa Y=>(c0 a Y).imp (λy=>a2 y) id⟩;rcases lR z with⟨k,_,y⟩|⟨_,y⟩
           .exact(a4 y).imp (λy=>a2 y) id
           .exact .inl ⟨i,hi,y⟩
          exact(c3.trans ef2).same (Same.refl _) λc hc=>.inl (X7 _ hc)
       .cases e
     .cases e
 .cases e
theorem bZ(js:List Nat){oc:Nat->Bool}{F:List D->Option (D×List D)}(C:∀c,Cal (X c).prog (X c).w (X c).K (X c).mg (X c).base k x ps (spI G oc pr F))(Z:∀c,jM k (X c).A)(Y:PVM X G ob (e::es) js f)(U:js.Nodup:=by decide)(J:∀j∈js,ob j=true:=by decide)(O:∀i,i<js.length->pr i=true:=by decide)(B:∀c,Gl (X c) x:=by intro _;rfl)(q:(x==("__debug__":Str))=false:=by decide)(I:∀c,Yh (e::es) (X c).env=(false,eval e (X c).env)::Yh es (X c).env:=by intro _;rfl)(z:∀c,(Zx pos (Yh es (X c).env)).any (·.1)=false:=by intro _;rfl) :
 PVe X G ob (.Call (.Name x p) (e::es) [] pos) (eIo F js f):=let⟨t,a1,a2⟩:=Y.ex;⟨_,λc=>Nb (C c) (Z c) (B c) (a1 c) q (I c) (z c),Sq U J O a2⟩
def kids:D->List D
 |.tup ds=>ds
 |.lst _ ds=>ds
 |.dct _ _ ds=>ds
 |.ins _ _ _ ds=>ds
 |_=>[]
def CV:D->List D->D
 |.tup _,es=>.tup es
 |.lst m _,es=>.lst m es
 |.dct m ks _,es=>.dct m ks es
 |.ins m c fs _,es=>.ins m c fs es
 |d,_=>d
def gV:List Nat->D->Option D
 |[],d=>some d
 |j::p,d=>((kids d)[j]?).bind (gV p)
def gA:List Nat->D->D->D
 |[],e,_=>e
 |j::p,e,d=>match(kids d)[j]? with
  |some c=>CV d ((kids d).set j (gA p e c))
  |none=>d
theorem Evo.trans{H1:Hp}{W1:Wn}(a:Evo H H1 W W1)(b:Evo H1 H2 W1 J):Evo H H2 W J:=⟨λc u h f=>let⟨h1,f1⟩:=a.k c u h f;b.k c u h1 f1,λc xs h=>b.t c xs (a.t c xs h)⟩
structure Foc(G:Gc)(H:Hp)(W:Wn)(d0:D)(v0:V)(L:List Addr)(p:List Nat)(d:D)(v:V)(M:List Addr):Prop where
 r:Rep G H W d v M
 b:∃A B,L=A++(M++B)/\∀H' W' d' M',Evo H H' W W'->(∀c∈A++B,∀u,H c=some u->H' c=some u)->Rep G H' W' d' v M'->Rep G H' W' (gA p d' d0) v0 (A++(M'++B))
theorem Foc.nil(r:Rep G H W d v L):Foc G H W d v L [] d v L:=⟨r,[],[],by simp,λH' W' d' M' _ _ h=>by simpa[gA]using h⟩
variable{p:List Nat}{d0:D}
theorem Foc.mono{H1:Hp}{W1:Wn}{I:V}(f:Foc G H W d0 I L p d v M)(F:clean d=true∨Up H H1 W W1)(e:Evo H H1 W W1)(k:∀c∈L,∀u,H c=some u->H1 c=some u):Foc G H1 W1 d0 I L p d v M:=by
 obtain⟨A,B,q,U⟩:=f.b;refine⟨?_,A,B,q,λH' W' d' M' e' O Z=>U H' W' d' M' (e.trans e') (λc F u J=>O c F u (k c ?_ u J)) Z⟩
 .rcases F with F|F
  .have hcc:=(by simpa[clean]using F:aA d=true/\az d=true)
   exact f.r.mono e (.inl hcc.1) (.inl hcc.2) λc F u J=>k c (by rw[q];simp[F]) u J
  .exact f.r.up F
 .rw[q]
  simp![Zy]at F⊢;rcases F with z|z<;>simp[z]
theorem Mr(p:List Nat)(j:Nat)(e:D):∀(d0:D){d:D},gV p d0=some d->(kids d)[j]?≠none->gA (p++[j]) e d0=gA p (gA [j] e d) d0:=by
 induction p with
 |nil=>intro d0 d h _;cases h;rfl
 |cons k p J=>
  intro d0 d h I;simp![gV]at h;cases h1:(kids d0)[k]? with
  |none=>simp[h1]at h
  |some c=>
   have h:gV p c=some d:=by simpa[h1]using h
   rw[Yv,gA,gA,h1];simp only;rw[J c h I]
theorem Lz(p:List Nat)(j:Nat):∀(d0:D){d:D},gV p d0=some d->gV (p++[j]) d0=(kids d)[j]?:=by
 induction p with
 |nil=>
  intro d0 d h;cases h;simp![List.nil_append,gV];cases (kids d0)[j]?<;>rfl
 |cons k p J=>
  intro d0 d h;simp![gV]at h;cases h1:(kids d0)[k]? with
  |none=>simp[h1]at h
  |some c=>
   have h:gV p c=some d:=by simpa[h1]using h
   rw[Yv,gV,h1];exact J c h
theorem lH(h:clean (.lst m ds)=true):aC ds=true/\aD ds=true:=by simp[clean,aA,az]at h;exact⟨h.1.2,h.2.2⟩
theorem j8{a b:List D}:aC (a++b)=(aC a&&aC b):=by
 induction a with
 |nil=>rfl
 |cons d r J=>rw[Yv,aC,aC,J,aeV]
theorem j4{a b:List D}:aD (a++b)=(aD a&&aD b):=by
 induction a with
 |nil=>rfl
 |cons d r J=>rw[Yv,aD,aD,J,aeV]
variable{c:D}
theorem aM.kid(Z:aM G H W ds xs L)(U:aC ds=true)(J:aD ds=true)(e:ds[j]? =some c) :
  ∃x A M B,xs[j]? =some x/\L=A++(M++B)/\Rep G H W c x M/\∀H' W' d' M',Evo H H' W W'->(∀b∈A++B,∀u,H b=some u->H' b=some u)->Rep G H' W' d' x M'->aM G H' W' (ds.set j d') xs (A++(M'++B)):=by
 obtain⟨P,Q,x,ys,zs,z,M1,I,rfl,q,rfl,O,rfl,h1,h2,h3⟩:=Z.at e;simp![j8,j4,aC,aD,Yp]at U J;refine⟨x,z,M1,I,by rw[Za (by omega),O,aag];rfl,rfl,h2,λH' W' d' M' Y kp r'=>?_⟩;rw[←q,aa8 _ _ (Nat.le_refl _),aag];exact aM.append (h1.mono Y (.inl U.1) (.inl J.1) λb U u F=>kp b (Ye _ U) u F) (aM.cons r' (h3.mono Y (.inl U.2.2) (.inl J.2.2) λb U u F=>kp b (X7 _ U) u F))
theorem Foc.lst{ds:List D}(r:Rep G H W (.lst .own ds) v L)(F:clean (.lst .own ds)=true)(e:ds[j]? =some c):∃a xs x M,v= .ref a/\H a=some (.lst xs)/\xs.length=ds.length/\xs[j]? =some x/\Foc G H W (.lst .own ds) v L [j] c x M:=by
 rw[Rep]at r;obtain⟨a,xs,N,rfl,Z,Y,rfl⟩:=r;obtain⟨h1,h2⟩:=lH F;obtain⟨x,A,M,B,z,rfl,rx,U⟩:=Z.kid h1 h2 e;refine⟨a,xs,x,M,rfl,Y,Z.length.symm,z,rx,a::A,B,by simp,λH' W' d' M' J kp O=>?_⟩;have q:gA [j] d' (.lst .own ds)= .lst .own (ds.set j d'):=by simp![gA,kids,e,CV]
 rw[q,Rep];exact⟨a,xs,A++(M'++B),rfl,U H' W' d' M' J (λb U u I=>kp b (YJ _ U) u I) O,kp a (by simp) _ Y,by simp⟩
theorem Foc.tup{ds:List D}(r:Rep G H W (.tup ds) v L)(F:clean (.tup ds)=true)(e:ds[j]? =some c):∃a xs x M,v= .ref a/\H a=some (.tup xs)/\xs.length=ds.length/\xs[j]? =some x/\Foc G H W (.tup ds) v L [j] c x M:=by
 rw[Rep]at r;obtain⟨a,xs,rfl,Y,Z⟩:=r;have q:aC ds=true/\aD ds=true:=by simpa[clean,aA,az]using F
 obtain⟨x,A,M,B,I,rfl,rx,U⟩:=Z.kid q.1 q.2 e;refine⟨a,xs,x,M,rfl,Y,Z.length.symm,I,rx,A,B,rfl,λH' W' d' M' J kp O=>?_⟩;have z:gA [j] d' (.tup ds)= .tup (ds.set j d'):=by simp![gA,kids,e,CV]
 rw[z,Rep];exact⟨a,xs,rfl,J.t a xs Y,U H' W' d' M' J kp O⟩
variable{ks:List Key}
theorem Foc.dct(r:Rep G H W (.dct .own ks ds) v L)(F:clean (.dct .own ks ds)=true)(e:ds[j]? =some c):∃a kvs x M,v= .ref a/\H a=some (.dK kvs)/\(kvs.map (·.1)=ks/\ks.Nodup)/\(kvs.map (·.2))[j]? =some x/\Foc G H W (.dct .own ks ds) v L [j] c x M:=by
 rw[Rep]at r;obtain⟨a,kvs,N,rfl,J,Z,Y,rfl⟩:=r;have q:aC ds=true/\aD ds=true:=by simp[clean,aA,az]at F;exact F
 obtain⟨x,A,M,B,O,rfl,rx,U⟩:=Z.kid q.1 q.2 e;refine⟨a,kvs,x,M,rfl,Y,J,O,rx,a::A,B,by simp,λH' W' d' M' I kp r'=>?_⟩;have z:gA [j] d' (.dct .own ks ds)= .dct .own ks (ds.set j d'):=by simp![gA,kids,e,CV]
 rw[z,Rep];exact⟨a,kvs,A++(M'++B),rfl,J,U H' W' d' M' I (λb U u V=>kp b (YJ _ U) u V) r',kp a (by simp) _ Y,by simp⟩
theorem Foc.trans{I x:V}{L0:List Addr}(f:Foc G H W d0 I L0 p d v L)(g:Foc G H W d v L [j] c x M)(O:gV p d0=some d)(hj:(kids d)[j]?≠none):Foc G H W d0 I L0 (p++[j]) c x M:=by
 obtain⟨A,B,q,U⟩:=f.b;obtain⟨A',B',a0,Y⟩:=g.b;refine⟨g.r,A++A',B'++B,by rw[q,a0];simp,λH' W' d' M' J kp Z=>?_⟩;rw[Mr p j d' d0 O hj];have:=U H' W' (gA [j] d' d) (A'++(M'++B')) J (λb U u F=>kp b ?_ u F) (Y H' W' d' M' J (λb U u F=>kp b ?_ u F) Z)
 .simpa using this
 .simp![Zy]at U⊢
  rcases U with z|z<;>simp[z]
 .simp![Zy]at U⊢
  rcases U with z|z<;>simp[z]
def RfP(G:Gc)(ob:Nat->Bool)(t:TE)(i:Nat)(pf:En->Option (List Nat)):Prop:=∀(ρ:En)(p:List Nat),pf ρ=some p->∀(σ:L2.St)(H:Hp)(S:Ad)(Fr:Addr->Prop),Sta G H ob ρ σ S Fr->∃d0 d,ρ[i]? =some (some d0)/\gV p d0=some d/\∀Q:VK,
 (∀v I H' M,Same H H'->σ[i]? =some (some I)->Foc G H' (wn ob S Fr) d0 I (S i) p d v M->Q v H')->t σ H Q
structure PVP{ι:Type}(X:ι->Cx)(G:Gc)(ob:Nat->Bool)(e:Expr)(i:Nat)(pf:En->Option (List Nat)):Prop where
 mk::(ex:∃t,(∀c,PE (X c) e t)/\RfP G ob t i pf)
def g_(i:Nat):En->Option (List Nat):=λρ=>match ρ[i]? with
 |some (some _)=>some []
 |_=>none
theorem eY(i:Nat)(z:∀c,(X c).N[i]? =some x:=by intro _;rfl)(J:∀c,Vis (X c).env.scope x:=by intro _;first|exact ZX rfl|exact Zm (ZX rfl)|exact Zm (Zm rfl))(hd:(x==("__debug__":Str))=false:=by decide)
  (I:(x==("__classdict__":Str))=false:=by decide):PVP X G ob (.Name x pos) i (g_ i):=by
 refine⟨_,λc=>pv i (z c) (J c) hd I,λρ p e σ H S Fr s=>?_⟩;unfold g_ at e;split at e
 .rename_i d h1
  cases e;obtain⟨v,h2,V,F⟩:=s.sl i d h1;exact⟨d,d,h1,rfl,λQ q=>⟨v,h2,q v v H _ (Same.refl H) h2 (.nil V)⟩⟩
 .cases e
theorem o5:∀{p:List Nat}{d:D},clean d0=true->gV p d0=some d->clean d=true:=by
 intro p
 induction p generalizing d0 with
 |nil=>intro d h e;cases e;exact h
 |cons j p q=>
  intro d h e;simp![gV]at e;cases h1:(kids d0)[j]? with
  |none=>simp[h1]at e
  |some c=>
   have e:gV p c=some d:=by simpa[h1]using e
   refine q ?_ e;have J:aC (kids d0)=true/\aD (kids d0)=true:=by
    cases d0<;>simp[kids,clean,aA,az,aC,aD]at h h1⊢<;>(try exact h)<;>exact⟨h.1.2,h.2.2⟩
   simp[clean,jo J.1 h1,jn J.2 h1]
def dG:D->Option Key
 |.int i=>some (.inl i)
 |.str x=>some (.inr x)
 |_=>none
def dU(ks:List Key)(k:Key):Option Nat:=ks.findIdx? λx=>decide (x=k)
def ixP:D->D->Option Nat
 |.lst .own ds,.int i=>ixN ds.length i
 |.tup ds,.int i=>ixN ds.length i
 |.dct .own ks ds,k=>(dG k).bind λk=>(dU ks k).bind λj=>if j<ds.length then some j else none
 |_,_=>none
def Nj(i:Nat)(pf:En->Option (List Nat))(z:En->Option D):En->Option (List Nat):=λρ=>(pf ρ).bind λp=>(z ρ).bind λk=>match ρ[i]? with
 |some (some d0)=>(gV p d0).bind λd=>(ixP d k).bind λj=>if j<(kids d).length then some (p++[j])else none
 |_=>none
def Ov:R2:=λx y H Q=>∃a v,x= .ref a/\oE H a y (some v)/\Q v H
variable{Y:Cx}
theorem O6(V:Y.A.units+1<cLine):IxR Y Ov:=by
 intro D B pins s σ H x y v u Q I rx U h O;obtain⟨a,z,rfl,g,q⟩:=h;cases rx;exact adI (Cu I g) PySem.F.slot_dict_getitem.lookup (JL V I g U λw' s3 Z J=>⟨z,H,Z,J,q⟩) O
theorem KN(F:Y.A.units+1<cLine):IxR Y (λx y H Q=>rIx Y.K x y H Q∨Ov x y H Q):=T7.or (O6 F)
theorem ik:∀{kvs:List (Key×V)}{k:Key}{j:Nat},dU (kvs.map (·.1)) k=some j->jr kvs k=(kvs.map (·.2))[j]?
 |[],k,j,h=>by simp[dU]at h
 |(k0,v)::r,k,j,h=>by
  simp![X8,dU,aei]at h;by_cases e:k0=k
  .subst e
   simp at h;subst h;simp[jr]
  .rw[YL e]at h
   simp![Zb,aaa]at h;cases h1:(r.map (·.1)).findIdx? (λx=>decide (x=k))with
   |none=>rw[h1]at h;cases h
   |some i=>
    rw[h1]at h;have:i+1=j:=by simpa using h
    subst this;have J:=ik (kvs:=r) (k:=k) (j:=i) h1;simp![jr,aaf,YL e,X8,Yn];exact J
theorem jX:∀{kvs:List (Key×V)}{k:Key},dU (kvs.map (·.1)) k=none->jr kvs k=none
 |[],k,h=>rfl
 |(k0,v)::r,k,h=>by
  simp![X8,dU,aei]at h;by_cases e:k0=k
  .subst e
   simp at h
  .rw[YL e]at h
   simp![Zb,aaa]at h;have h1:(r.map (·.1)).findIdx? (λx=>decide (x=k))=none:=by
    cases h1:(r.map (·.1)).findIdx? (λx=>decide (x=k))with
    |none=>rfl
    |some i=>rw[h1]at h;cases h
   have J:=jX (kvs:=r) (k:=k) h1;simp![jr,aaf,YL e];exact J
theorem iY{k:Key}(r:Rep G H W d v L)(h:dG d=some k):v=kV k:=by
 cases d<;>simp[dG]at h<;>subst h<;>rw[Rep]at r<;>exact r.1
variable{pf:En->Option (List Nat)}
theorem QW{to ti:TE}{i0:Nat}{fk:En->Option D}(J:RfP G ob to i0 pf)(hi:RfE G ob ti fk):RfP G ob (tOp (λx y H Q=>rIx G.K x y H Q∨Ov x y H Q) to ti) i0 (Nj i0 pf fk):=λρ p e σ H S Fr s=>by
 unfold Nj at e;cases h1:pf ρ with
 |none=>simp[h1]at e
 |some p0=>
  cases h2:fk ρ with
  |none=>simp[h1,h2]at e
  |some k=>
   rw[h1,h2]at e;simp![gD]at e;split at e
   .rename_i d0 h3
    cases h4:gV p0 d0 with
    |none=>simp[h4]at e
    |some d=>
     cases h5:ixP d k with
     |none=>simp[h4,h5]at e
     |some j=>
      by_cases h6:j<(kids d).length
      .obtain rfl:p0++[j]=p:=by simpa[h4,h5,h6]using e
       obtain⟨a6,d',g1,g2,g3⟩:=J ρ p0 h1 σ H S Fr s;rw[h3]at g1;cases g1;rw[h4]at g2;cases g2;have I:clean d=true:=o5 (let⟨_,_,_,h⟩:=s.sl i0 d0 h3;h) h4;refine⟨d0,(kids d)[j],h3,by rw[Lz p0 j d0 h4,X5 h6],λQ q=>?_⟩;refine g3 _ λv v0 H1 M Z a3 a5=>?_;have a1:Sta G H1 ob ρ σ S Fr:=s.grow Z λa z=>.inl z;refine hi ρ k h2 σ H1 _ a1.rel a1.wok _ λy H2 L2 s2 U fy ny=>?_;have up:Up H1 H2 (wn ob S Fr) (wn ob S Fr):=Up.same s2;have V:=a5.mono (.inr up) up.evo λc _ u F=>s2 c u F;have O:(kids d)[j]? =some (kids d)[j]:=X5 h6;have a0:∀x M',Foc G H2 (wn ob S Fr) d v M [j] (kids d)[j] x M'->Q x H2:=λx M' f=>q x v0 H2 M' (Z.trans s2) a3 (V.trans f h4 (by rw[O];simp));cases d with
       |lst m ds=>
        cases m<;>(try(simp[ixP]at h5));cases k<;>(try(simp[ixP]at h5));rename_i n;rw[Rep]at U;obtain⟨a,xs,x,M',rfl,Y,hl,B,f⟩:=Foc.lst V.r I O;refine .inl (.inl ⟨a,xs,n,x,rfl,U.1,SqL.of Y,?_,a0 x M' f⟩);unfold atI;rw[hl,h5];exact B
       |tup ds=>
        cases k<;>(try(simp[ixP]at h5));rename_i n;rw[Rep]at U;obtain⟨a,xs,x,M',rfl,Y,hl,B,f⟩:=Foc.tup V.r I O;refine .inl (.inr (.inl ⟨a,xs,n,x,rfl,U.1,SqT.of Y,?_,a0 x M' f⟩));unfold atI;rw[hl,h5];exact B
       |dct m ks ds=>
        cases m<;>(try(simp[ixP]at h5));cases hk:dG k with
        |none=>simp[hk]at h5
        |some kk=>
         cases B:dU ks kk with
         |none=>simp[hk,B]at h5
         |some j'=>
          have:j'=j:=by
           have:=h5;simp[hk,B]at this;exact this.2
          subst this;obtain⟨a,kvs,x,M',rfl,Y,a2,a4,f⟩:=Foc.dct V.r I O;refine .inr ⟨a,x,rfl,?_,a0 x M' f⟩;have:=iY U hk;subst this;have hv:=ik (kvs:=kvs) (k:=kk) (j:=j') (by rw[a2.1];exact B);rw[a4]at hv;rw[←hv];exact oE.k Y
       |_=>simp[ixP]at h5
      .simp[h4,h5,h6]at e
   .cases e
theorem QH{o i:Expr}{B:Nat}{z:En->Option D}(F:∀c,(X c).A.units+1<cLine)(J:PVP X G ob o B pf)(hi:PV X G ob i z)(O:uT i:=by exact λ_ _=>rfl)(q:∀c,(X c).K=G.K:=by intro _;rfl):PVP X G ob (.Subscript o i pos) B (Nj B pf z):=let⟨t,a1,a2⟩:=J.ex;let⟨u,b1,b2⟩:=hi.ex;⟨_,λc=>(by rw[←q c];exact M8 (KN (F c)) (a1 c) (b1 c) O),QW a2 b2⟩
def MuV(G:Gc)(r:V->List V->Hp->VK->Prop)(op:D->List D->Option (D×D)):Prop:=∀(d:D)(es:List D)(d' res:D),op d es=some (d',res)->∀(v:V)(xs:List V)(H:Hp)(W:Wn)(M N:List Addr),Rep G H W d v M->aM G H W es xs N->(M++N).Nodup->(∀a∈M,¬W.free a)->
 clean d=true->aC es=true->aD es=true->∀Q:VK,(∀x H' M' R,(∀b u,H b=some u->b∉M->H' b=some u)->(∀W',Evo H H' W W'->Rep G H' W' d' v M'/\Rep G H' W' res x R)->(M'++R).Nodup->(∀a∈M'++R,a∈M∨a∈N∨H a=none)->clean d'=true->clean res=true->Q x H')->r v xs H Q
theorem Fj{e:D}:∀{p:List Nat},clean d0=true->clean e=true->clean (gA p e d0)=true:=by
 intro p
 induction p generalizing d0 with
 |nil=>intro _ h;exact h
 |cons j p J=>
  intro h Y;simp![gA];cases h1:(kids d0)[j]? with
  |none=>exact h
  |some c=>
   have F:clean c=true:=o5 (p:=[j]) h (by simp[gV,h1]);have:=J (d0:=c) F Y;have q:∀{ds:List D}{j:Nat}{x:D},aC ds=true->aD ds=true->clean x=true->aC (ds.set j x)=true/\aD (ds.set j x)=true:=λ{ds}=>by
    induction ds with
    |nil=>intro j x a b _;simp[a,b]
    |cons y r z=>
     intro j x a b B;simp![aC,aD,Yp]at a b;have I:=(by simpa[clean]using B:aA x=true/\az x=true);cases j with
     |zero=>simp[aC,aD,I,a,b]
     |succ j=>simp![YH,aC,aD,Yp];exact⟨⟨a.1,(z a.2 b.2 B).1⟩,⟨b.1,(z a.2 b.2 B).2⟩⟩
   cases d0<;>simp![kids,List.getElem?_nil]at h1<;>(try cases h1)<;>simp![CV,kids]<;>simp[clean,aA,az]at h⊢
   .exact⟨(q h.1 h.2 this).1,(q h.1 h.2 this).2⟩
   .exact⟨⟨h.1.1,(q h.1.2 h.2.2 this).1⟩,h.2.1,(q h.1.2 h.2.2 this).2⟩
   .exact⟨⟨h.1.1,(q h.1.2 h.2.2 this).1⟩,h.2.1,(q h.1.2 h.2.2 this).2⟩
   .exact⟨⟨h.1.1,(q h.1.2 h.2.2 this).1⟩,h.2.1,(q h.1.2 h.2.2 this).2⟩
variable{res:D}
theorem Sta.mut{Fr:Addr->Prop}{d':D}{v0 x:V}{N M' R:List Addr}(s:Sta G H ob ρ σ S (plus N Fr))(e:ρ[i]? =some (some d0))(b1:σ[i]? =some (some v0))(b4:Foc G H (wn ob S (plus N Fr)) d0 v0 (S i) p d v M)
  (hF:∀a∈N,¬Fr a) (kp:∀b u,H b=some u->b∉M->H' b=some u) (Z:∀W',Evo H H' (wn ob S (plus N Fr)) W'->Rep G H' W' d' v M'/\Rep G H' W' res x R) (nd:(M'++R).Nodup) (gr:∀a∈M'++R,a∈M∨a∈N∨H a=none) (F:clean d'=true) :
  ∃S',Sta G H' ob (ρ.set i (some (gA p d' d0))) σ S' (plus R Fr)/\Rep G H' (wn ob S' (plus R Fr)) res x R/\(∀j,j≠i->S' j=S j)/\(∀a∈S' i,a∈S i∨a∈N∨H a=none)/\(∀a∈R,a∈S i∨a∈N∨H a=none)/\(∀b u,H b=some u->b∉S i->H' b=some u):=by
 obtain⟨A,B,hL,U⟩:=b4.b;have b0:i<ρ.length:=(List.getElem?_eq_some_iff.mp e).1;have a1:∀a∈M,a∈S i:=λa Y=>by rw[hL];simp[Y]
 have a2:∀a∈A++B,a∈S i/\a∉M:=λa Y=>by
  have I:=s.nd i;rw[hL]at I;have h1:=Yr.mp I;have h2:=Yr.mp h1.2.1;rcases List.mem_append.mp Y with z|z
  .exact⟨by rw[hL];simp[z],λy=>h1.2.2 a z a (by simp[y]) rfl⟩
  .exact⟨by rw[hL];simp[z],λy=>h2.2.2 a y a z rfl⟩
 have a8:∀a∈M'++R,∀j,j≠i->a∉S j:=λa Y j O z=>by
  rcases gr a Y with y|y|y
  .exact O (s.dj j i a z (a1 a y))
  .exact s.fdj j a (.inl y) z
  .obtain⟨o,J,_⟩:=s.mu z;rw[y]at J;cases J
 have b2:∀a∈M'++R,¬Fr a:=λa Y z=>by
  rcases gr a Y with y|y|y
  .exact s.fdj i a (.inr z) (a1 a y)
  .exact hF a y z
  .obtain⟨o,J,_⟩:=s.fdm a (.inr z);rw[y]at J;cases J
 have a3:∀a∈M'++R,a∉A++B:=λa Y z=>by
  obtain⟨z1,z2⟩:=a2 a z;rcases gr a Y with y|y|y
  .exact z2 y
  .exact s.fdj i a (.inl y) z1
  .obtain⟨o,J,_⟩:=s.mu z1;rw[y]at J;cases J
 let S':=ie S i (A++(M'++B))
 have a5:∀a∈S' i,a∈S i∨a∈N∨H a=none:=λa Y=>by
  have Y:a∈ie S i (A++(M'++B)) i:=Y;rw[fB]at Y;simp![Zy]at Y;rcases Y with z|z|z
  .exact .inl (a2 a (Ye _ z)).1
  .exact(gr a (Ye _ z)).imp (a1 a) id
  .exact .inl (a2 a (X7 _ z)).1
 have a6:∀b u,H b=some u->(wn ob S (plus N Fr)).free b->H' b=some u/\(wn ob S' (plus R Fr)).free b:=λb u U f=>by
  have nS:∀j,b∉S j:=λj z=>by
   cases J:ob j with
   |false=>exact f.2.1 ⟨j,J,z⟩
   |true=>exact f.2.2 ⟨j,J,z⟩
  have a9:∀j,b∉S' j:=λj z=>by
   by_cases O:j=i
   .subst O
    rcases a5 b z with y|y|y
    .exact nS j y
    .exact f.1 (.inl y)
    .rw[U]at y;cases y
   .have z:b∈ie S i (A++(M'++B)) j:=z
    rw[fJ O]at z;exact nS j z
  refine⟨kp b u U λz=>nS i (a1 b z),λz=>?_,λ⟨j,_,z⟩=>a9 j z,λ⟨j,_,z⟩=>a9 j z⟩;rcases z with z|z
  .rcases gr b (X7 _ z)with y|y|y
   .exact nS i (a1 b y)
   .exact f.1 (.inl y)
   .rw[U]at y;cases y
  .exact f.1 (.inr z)
 have ev:Evo H H' (wn ob S (plus N Fr)) (wn ob S' (plus R Fr)):=⟨a6,λb xs h=>by
  have no:∀u,H b=some u->muO u=false->H' b=some u:=λu hu mu=>kp b u hu λz=>by
   obtain⟨o,J,hm⟩:=s.mu (a1 b z);rw[hu]at J;cases J;rw[mu]at hm;cases hm
  exact no _ h rfl⟩
 obtain⟨r1,r2⟩:=Z _ ev;have a7:=Yr.mp nd;refine⟨S',⟨by simp[s.len],λj dj O=>?_,λj O=>?_,λj=>?_,λj k a h1 h2=>?_,λj a h1 h2=>?_,λa Y=>?_⟩,r2,λj O=>fJ O,a5,λa Y=>(gr a (X7 _ Y)).imp (a1 a) id,λb u U n=>kp b u U λz=>n (a1 b z)⟩
 .by_cases a0:j=i
  .subst a0
   have:gA p d' d0=dj:=by simpa[b0]using O
   subst this;have b3:clean d0=true:=let⟨_,_,_,h⟩:=s.sl j d0 e;h;refine⟨v0,b1,?_,Fj b3 F⟩;show Rep G H' _ _ v0 (ie S j (A++(M'++B)) j);rw[fB];exact U H' _ d' M' ev (λc F u hu=>kp c u hu (a2 c F).2) r1
  .rw[List.getElem?_set_ne (Zr a0)]at O
   obtain⟨w,q1,q2,q3⟩:=s.sl j dj O;have q:=(by simpa[clean]using q3:aA dj=true/\az dj=true);refine⟨w,q1,?_,q3⟩;show Rep G H' _ dj w (ie S i (A++(M'++B)) j);rw[fJ a0];exact q2.mono ev (.inl q.1) (.inl q.2) λc F u hu=>kp c u hu λz=>a0 (s.dj j i c F (a1 c z))
 .by_cases a0:j=i
  .subst a0
   exact absurd (by simp[b0]) (O (gA p d' d0))
  .show ie S i (A++(M'++B)) j=[]
   rw[fJ a0];exact s.em j λd1=>by have:=O d1;rwa[List.getElem?_set_ne (Zr a0)]at this
 .by_cases a0:j=i
  .subst a0
   show(ie S j (A++(M'++B)) j).Nodup;rw[fB];have I:=s.nd j;rw[hL]at I;have h1:=Yr.mp I;have h2:=Yr.mp h1.2.1;refine fK h1.1 (fK a7.1 h2.2.1 λa Y z=>a3 a (Ye _ Y) (X7 _ z)) λa Y z=>?_;rcases List.mem_append.mp z with z|z
   .exact a3 a (Ye _ z) (Ye _ Y)
   .exact h1.2.2 a Y a (by simp[z]) rfl
  .show(ie S i (A++(M'++B)) j).Nodup
   rw[fJ a0];exact s.nd j
 .have key:∀{j:Nat}{a:Addr},j≠i->a∈S j->a∈S' i->False:=λ{j a} O z1 z2=>by
   have z2:a∈ie S i (A++(M'++B)) i:=z2;rw[fB]at z2;simp![Zy]at z2;rcases z2 with z|z|z
   .exact O (s.dj j i a z1 (a2 a (Ye _ z)).1)
   .exact a8 a (Ye _ z) j O z1
   .exact O (s.dj j i a z1 (a2 a (X7 _ z)).1)
  by_cases a0:j=i<;>by_cases a4:k=i
  .rw[a0,a4]
  .subst a0
   have h2:a∈ie S j (A++(M'++B)) k:=h2;rw[fJ a4]at h2;exact(key a4 h2 h1).elim
  .subst a4
   have h1:a∈ie S k (A++(M'++B)) j:=h1;rw[fJ a0]at h1;exact(key a0 h1 h2).elim
  .have h1:a∈ie S i (A++(M'++B)) j:=h1
   have h2:a∈ie S i (A++(M'++B)) k:=h2;rw[fJ a0]at h1;rw[fJ a4]at h2;exact s.dj j k a h1 h2
 .by_cases a0:j=i
  .subst a0
   have h2:a∈ie S j (A++(M'++B)) j:=h2;rw[fB]at h2;simp![Zy]at h2;rcases h1 with h1|h1
   .rcases h2 with z|z|z
    .exact a3 a (X7 _ h1) (Ye _ z)
    .exact a7.2.2 a z a h1 rfl
    .exact a3 a (X7 _ h1) (X7 _ z)
   .rcases h2 with z|z|z
    .exact s.fdj j a (.inr h1) (a2 a (Ye _ z)).1
    .exact b2 a (Ye _ z) h1
    .exact s.fdj j a (.inr h1) (a2 a (X7 _ z)).1
  .have h2:a∈ie S i (A++(M'++B)) j:=h2
   rw[fJ a0]at h2;rcases h1 with h1|h1
   .exact a8 a (X7 _ h1) j a0 h2
   .exact s.fdj j a (.inr h1) h2
 .rcases Y with Y|Y
  .exact r2.dom a Y
  .obtain⟨o,J,hm⟩:=s.fdm a (.inr Y)
   exact⟨o,kp a o J λz=>s.fdj i a (.inr Y) (a1 a z),hm⟩
section
variable{ι:Type}{X:ι->Cx}{G:Gc}{ob P:Nat->Bool}
theorem nT{G:Gc}{r:V->List V->Hp->VK->Prop}{op:D->List D->Option (D×D)}{H:Hp}{ρ:En}{σ:L2.St}{S:Ad}{Fr:Addr->Prop}{i:Nat}{p:List Nat}{d0 d d' res:D}{v I:V}{M N:List Addr}{es:List D}{xs:List V}(hm:MuV G r op)(s:Sta G H ob ρ σ S (plus N Fr))(e:ρ[i]? =some (some d0))(F:σ[i]? =some (some I))(O:gV p d0=some d)
  (z:Foc G H (wn ob S (plus N Fr)) d0 I (S i) p d v M) (re:aM G H (wn ob S (plus N Fr)) es xs N) (nd:N.Nodup) (U:∀a∈N,¬Fr a) (c1:aC es=true) (c2:aD es=true) (h:op d es=some (d',res)) {Q:VK}
  (q:∀x H' R S',Sta G H' ob (ρ.set i (some (gA p d' d0))) σ S' (plus R Fr)->Rep G H' (wn ob S' (plus R Fr)) res x R->R.Nodup->clean res=true->(∀j,j≠i->S' j=S j)->(∀a∈S' i,a∈S i∨a∈N∨H a=none)->(∀a∈R,a∈S i∨a∈N∨H a=none)->(∀b u,H b=some u->b∉S i->H' b=some u)->Q x H'):r v xs H Q:=by
 have a0:ZP M (S i):=by
  obtain⟨A,B,hL,_⟩:=z.b;rw[hL];exact(ZG M B).trans (Zf A _)
 have a2:clean d0=true:=let⟨_,_,_,h⟩:=s.sl i d0 e;h;refine hm d es d' res h v xs H _ M N z.r re (fK (a0.nodup (s.nd i)) nd λa h1 h2=>s.fdj i a (.inl h2) (a0.subset h1)) (λa Y f=>?_) (o5 a2 O) c1 c2 Q λx H' M' R kp Z J gr a3 a1=>?_
 .cases ho:ob i with
  |false=>exact f.2.1 ⟨i,ho,a0.subset Y⟩
  |true=>exact f.2.2 ⟨i,ho,a0.subset Y⟩
 .obtain⟨S',q1,q2,q3,q4,q5,q6⟩:=s.mut e F z U kp Z J gr a3
  exact q x H' R S' q1 q2 (Yr.mp J).2.1 a1 q3 q4 q5 q6
def upS(op:D->List D->Option (D×D))(i:Nat)(p:List Nat)(es:List D)(ρ:En):Option (D×En):=match ρ[i]? with
 |some (some d0)=>(gV p d0).bind λd=>if aC es=true/\aD es=true then(op d es).map λq=>(q.2,ρ.set i (some (gA p q.1 d0)))else none
 |_=>none
theorem Aj{op:D->List D->Option (D×D)}{i:Nat}{p:List Nat}{es:List D}{ρ I:En}{res:D}(h:upS op i p es ρ=some (res,I)):∃d0 d d',ρ[i]? =some (some d0)/\gV p d0=some d/\aC es=true/\aD es=true/\op d es=some (d',res)/\I=ρ.set i (some (gA p d' d0)):=by
 unfold upS at h;split at h
 .rename_i d0 h1
  cases h2:gV p d0 with
  |none=>simp[h2]at h
  |some d=>
   by_cases F:aC es=true/\aD es=true
   .cases h3:op d es with
    |none=>simp[h2,F,h3]at h
    |some q=>
     obtain⟨d',Z⟩:=q;obtain⟨rfl,rfl⟩:Z=res/\ρ.set i (some (gA p d' d0))=I:=by simpa[h2,F,h3]using h
     exact⟨d0,d,d',h1,h2,F.1,F.2,h3,rfl⟩
   .simp[h2,F]at h
 .cases h
def Il(op:D->List D->Option (D×D))(i:Nat)(pf:En->Option (List Nat))(f:En->Option (List D)):En->Option (D×En):=λρ=>(pf ρ).bind λp=>(f ρ).bind λes=>upS op i p es ρ
def v8(op:D->List D->Option (D×D))(i:Nat)(pf:En->Option (List Nat))(f:En->Option (List D)):En->Option Fl:=λρ=>(Il op i pf f ρ).map λq=>.nx q.2
def v_(op:D->List D->Option (D×D))(i:Nat)(pf:En->Option (List Nat))(f:En->Option (List D×En)):En->Option Fl:=λρ=>(pf ρ).bind λp=>(f ρ).bind λq=>(upS op i p q.1 q.2).map λq=>.nx q.2
def HS(G:Gc)(T:String)(op:D->List D->Option (D×D)):Prop:=∀d es q,op d es=some q->∀(v:V)(H:Hp)(W:Wn)(L:List Addr),Rep G H W d v L->tyV G.K T v H
theorem Te{T:String}{r:V->List V->Hp->VK->Prop}{op:D->List D->Option (D×D)}{to:TE}{t:TA}{i:Nat}{pf:En->Option (List Nat)}{f:En->Option (List D)}(hm:MuV G r op)(ht:HS G T op)(J:RfP G ob to i pf)(Y:RfA G ob t f){ρ I:En}{res:D}(e:Il op i pf f ρ=some (res,I))
  {σ:L2.St} {H:Hp} {S:Ad} {Fr:Addr->Prop} (s:Sta G H ob ρ σ S Fr) {Q:VK}
  (q:∀x H' R S',Sta G H' ob I σ S' (plus R Fr)->Rep G H' (wn ob S' (plus R Fr)) res x R->R.Nodup->clean res=true->(∀j,j≠i->S' j=S j)->(∀a∈S' i,a∈S i∨H a=none)->(∀a∈R,a∈S i∨H a=none)->(∀b u,H b=some u->b∉S i->H' b=some u)->Q x H'):tBM G.K T r to t σ H Q:=by
 unfold Il at e;cases h1:pf ρ with
 |none=>simp[h1]at e
 |some p=>
  cases h2:f ρ with
  |none=>simp[h1,h2]at e
  |some es=>
   have e:upS op i p es ρ=some (res,I):=by simpa[h1,h2]using e
   obtain⟨d0,d,d',g1,g2,c1,c2,g3,rfl⟩:=Aj e;obtain⟨a4,dd,k1,k2,k3⟩:=J ρ p h1 σ H S Fr s;rw[g1]at k1;cases k1;rw[g2]at k2;cases k2;refine k3 _ λv v0 H1 M Z a3 a1=>⟨ht d es _ g3 v H1 _ M a1.r,?_⟩;have O:Sta G H1 ob ρ σ S Fr:=s.grow Z λa z=>.inl z;refine Y ρ es h2 σ H1 _ O.rel O.wok _ λxs H2 N B re fr nd=>?_;have a2:Sta G H2 ob ρ σ S (plus N Fr):=O.grow B λa z=>z.elim (λz=>.inr ⟨fr a z,re.dom a z⟩) .inl;have up:Up H1 H2 (wn ob S Fr) (wn ob S (plus N Fr)):=Up.add B fr;have a0:=a1.mono (.inr up) up.evo λc _ u F=>B c u F;have hF:∀a∈N,¬Fr a:=λa Y z=>by
    obtain⟨o,J,_⟩:=O.fdm a z;rw[fr a Y]at J;cases J
   have nf:∀{a},a∈S i∨a∈N∨H2 a=none->a∈S i∨H a=none:=λ{a} z=>z.imp id λz=>z.elim (λz=>Z.none' (fr a z)) λz=>(Z.trans B).none' z;exact nT hm a2 g1 a3 g2 a0 re nd hF c1 c2 g3 λx H' R S' q1 q2 q3 q4 q5 q6 q7 q8=>q x H' R S' q1 q2 q3 q4 q5 (λa Y=>nf (q6 a Y)) (λa Y=>nf (q7 a Y)) λb u U n=>q8 b u ((Z.trans B) b u U) n
theorem Pq{T:String}{r:V->List V->Hp->VK->Prop}{op:D->List D->Option (D×D)}{to:TE}{t:TA}{i:Nat}{pf:En->Option (List Nat)}{f:En->Option (List D)}(hm:MuV G r op)(ht:HS G T op)(J:RfP G ob to i pf)(Y:RfA G ob t f):RfS G ob P (Gd (tBM G.K T r to t)) (v8 op i pf f):=λρ r e σ H S Fr s E q=>by
 unfold v8 at e;cases h1:Il op i pf f ρ with
 |none=>simp[h1]at e
 |some p=>
  obtain⟨res,I⟩:=p;have:Fl.nx I=r:=by simpa[h1]using e
  subst this;refine Te hm ht J Y h1 s λx H' R S' q1 q2 q3 q4 Z F B q8=>q σ H' S' (q1.lessF λa z=>.inr z) ⟨λb u U n _=>q8 b u U λz=>n ⟨i,z⟩,λj a z=>?_,.refl⟩;by_cases O:j=i
  .subst O;exact(F a z).imp (λz=>⟨j,z⟩) .inr
  .rw[Z j O]at z;exact .inl ⟨j,z⟩
theorem N8{T:String}{r:V->List V->Hp->VK->Prop}{op:D->List D->Option (D×D)}{to:TE}{t:TA}{i:Nat}{pf:En->Option (List Nat)}{f:En->Option (List D×En)}(a5:ob i=false)(hm:MuV G r op)(ht:HS G T op)(J:RfP G ob to i pf)(Y:Dp G ob t f)(a4:∀ρ q,f ρ=some q->q.2[i]? =ρ[i]?):RfS G ob P (Gd (tBM G.K T r to t)) (v_ op i pf f):=λρ r e σ H S Fr s E q=>by
 unfold v_ at e;cases h1:pf ρ with
 |none=>simp[h1]at e
 |some p=>
  cases h2:f ρ with
  |none=>simp[h1,h2]at e
  |some w=>
   obtain⟨es,ρ1⟩:=w;cases h3:upS op i p es ρ1 with
   |none=>simp[h1,h2,h3]at e
   |some w=>
    obtain⟨res,I⟩:=w;have:Fl.nx I=r:=by simpa[h1,h2,h3]using e
    subst this;obtain⟨d0,d,d',g1,g2,c1,B,g3,rfl⟩:=Aj h3;have O:=a4 ρ _ h2;simp only at O;obtain⟨b1,dd,k1,k2,k3⟩:=J ρ p h1 σ H S Fr s;rw[←O,g1]at k1;cases k1;rw[g2]at k2;cases k2;have b0:clean d0=true:=let⟨_,_,_,h⟩:=s.sl i d0 (by rw[←O];exact g1);h;refine k3 _ λv v0 H1 M Z a9 a6=>⟨ht d es _ g3 v H1 _ M a6.r,?_⟩;have a0:Sta G H1 ob ρ σ S Fr:=s.grow Z λa z=>.inl z;refine Y ρ es ρ1 h2 σ H1 S Fr a0 _ λxs H2 N S2 a8 re nd ef=>?_;have a1:=a6.mono (.inl (o5 b0 g2)) (ef.evo a0) λc F u hu=>ef.kp c u hu λ⟨j,hj,z⟩=>by rw[←a0.dj i j c F z,a5]at hj;cases hj
    have a2:S2 i=S i:=ef.sn i a5;rw[←a2]at a1;have hF:∀a∈N,¬Fr a:=λa Y z=>by
     rcases ef.fm a Y with y|y
     .exact a0.notO z y
     .obtain⟨o,J,_⟩:=a0.fdm a z
      rw[y]at J;cases J
    have a3:∀{a},inO ob S a∨H1 a=none->inS S a∨H a=none:=λ{a} z=>z.imp (λ⟨k,_,z⟩=>⟨k,z⟩) λz=>Z.none' z;refine nT hm a8 g1 a9 g2 a1 re nd hF c1 B g3 λx H' R S' q1 q2 q3 q4 q5 q6 q7 q8=>q σ H' S' (q1.lessF λa z=>.inr z) ⟨λb u U n _=>?_,λj a z=>?_,.refl⟩
    .exact q8 b u (ef.kp b u (Z b u U) λ⟨k,_,z⟩=>n ⟨k,z⟩) λz=>n ⟨i,by rw[←a2];exact z⟩
    .by_cases hj:j=i
     .subst hj
      rcases q6 a z with y|y|y
      .rw[a2]at y;exact .inl ⟨j,y⟩
      .exact(a3 (ef.fm a y)).imp id .inr
      .exact(a3 (ef.back y)).imp id .inr
     .rw[q5 j hj]at z
      cases a7:ob j with
      |false=>rw[ef.sn j a7]at z;exact .inl ⟨j,z⟩
      |true=>exact(a3 (ef.gr j a a7 z)).imp id .inr
structure MuB{ι:Type}(X:ι->Cx)(G:Gc)(T id:String)(op:D->List D->Option (D×D)):Prop where
 ex:∃r,(∀c,MtR (X c) id r)/\MuV G r op/\HS G T op
section
variable{T name id:String}{op:D->List D->Option (D×D)}{o e:Expr}{es:List Expr}{apos cpos pos:Pos}{i:Nat}{pf:En->Option (List Nat)}
theorem o4{F:Str}(m:MuB X G T id op)(pa:adJ T)(slot:Slot T F id)(B:typeOf (.builtin id)=pure (.type "method_descriptor")){f:En->Option (List D)}(J:PVP X G ob o i pf)(Y:PVA X G ob (e::es) f)(Z:∀c,aaQ (.Call (.Attribute o F apos) (e::es) [] cpos) none pos.line (X c).env=pure false:=by intro _;rfl)(z:∀c,aaw o F (X c).env (eval o (X c).env)=eval o (X c).env:=by intro _;rfl)(V:∀c,((Zx cpos (Yh (e::es) (X c).env)).all (λx=>!x.1)&&(abR cpos (aaU [] (X c).env)).all (λx=>x.1.isSome)
  &&decide ((e::es).length+([]:List aam).length+(if([]:List aam).isEmpty then 0 else 1)<30))=true:=by intro _;rfl) (I:(apos.endLine==cpos.line)=true:=by rfl) (O:∀c,Yh (e::es) (X c).env=(false,eval e (X c).env)::Yh es (X c).env:=by intro _;rfl) (U:∀c,(Zx cpos (Yh es (X c).env)).any (·.1)=false:=by intro _;rfl) (q:∀c,(X c).K=G.K:=by intro _;rfl) :
 PVS X G ob P (.Expr (.Call (.Attribute o F apos) (e::es) [] cpos) pos) (v8 op i pf f):=let⟨r,m1,m2,m3⟩:=m.ex;let⟨t,a1,a2⟩:=J.ex;let⟨u,b1,b2⟩:=Y.ex;⟨_,λc=>(by rw[←q c];exact Am (Az pa slot B (m1 c) (a1 c) (b1 c) (z c) (V c) I (O c) (U c)) (Z c)),Pq m2 m3 a2 b2⟩
theorem Dj{nm:Str}(m:MuB X G T id op)(pa:adJ T)(slot:Slot T nm id)(B:typeOf (.builtin id)=pure (.type "method_descriptor")){f:En->Option (List D×En)}(J:PVP X G ob o i pf)(Y:wF X G ob (e::es) f)(F:∀ρ q,f ρ=some q->q.2[i]? =ρ[i]?)(Z:ob i=false:=by rfl)(a0:∀c,aaQ (.Call (.Attribute o nm apos) (e::es) [] cpos) none pos.line (X c).env=pure false:=by intro _;rfl)(z:∀c,aaw o nm (X c).env (eval o (X c).env)=eval o (X c).env:=by intro _;rfl)(V:∀c,((Zx cpos (Yh (e::es) (X c).env)).all (λx=>!x.1)&&(abR cpos (aaU [] (X c).env)).all (λx=>x.1.isSome)
  &&decide ((e::es).length+([]:List aam).length+(if([]:List aam).isEmpty then 0 else 1)<30))=true:=by intro _;rfl) (I:(apos.endLine==cpos.line)=true:=by rfl) (O:∀c,Yh (e::es) (X c).env=(false,eval e (X c).env)::Yh es (X c).env:=by intro _;rfl) (U:∀c,(Zx cpos (Yh es (X c).env)).any (·.1)=false:=by intro _;rfl) (hK:∀c,(X c).K=G.K:=by intro _;rfl) :
 PVS X G ob P (.Expr (.Call (.Attribute o nm apos) (e::es) [] cpos) pos) (v_ op i pf f):=let⟨r,m1,m2,m3⟩:=m.ex;let⟨t,a1,a2⟩:=J.ex;let⟨u,b1,b2⟩:=Y.ex;⟨_,λc=>(by rw[←hK c];exact Am (Az pa slot B (m1 c) (a1 c) (b1 c) (z c) (V c) I (O c) (U c)) (a0 c)),N8 Z m2 m3 a2 b2 F⟩
end
structure MuT{ι:Type}(X:ι->Cx)(G:Gc)(op:D->List D->Option (D×D)):Prop where
 ex:∃t:Jg,(∀c,Pu (X c) t)/\MuV G (λo xs H Q=>∃i v,xs=[i,v]/\t o i v H λH'=>Q .non H') op
def gh(op:D->List D->Option (D×D))(i:Nat)(pf:En->Option (List Nat))(z:En->Option D):D->En->Option En:=λd ρ=>(pf ρ).bind λp=>(z ρ).bind λk=>(upS op i p [k,d] ρ).map λq=>q.2
theorem Q7{t:Jg}{op:D->List D->Option (D×D)}{to ti:TE}{i:Nat}{pf:En->Option (List Nat)}{fk:En->Option D}(hm:MuV G (λo xs H Q=>∃i v,xs=[i,v]/\t o i v H λH'=>Q .non H') op)(J:RfP G ob to i pf)(hi:RfE G ob ti fk):RfG G ob P (jT to ti t) (gh op i pf fk):=λd ρ I e v σ H S M Fr s r nd hF Q q=>by
 unfold gh at e;cases h1:pf ρ with
 |none=>simp[h1]at e
 |some p=>
  cases h2:fk ρ with
  |none=>simp[h1,h2]at e
  |some k=>
   cases V:upS op i p [k,d] ρ with
   |none=>simp[h1,h2,V]at e
   |some w=>
    obtain⟨res,ρ1⟩:=w;obtain rfl:ρ1=I:=by simpa[h1,h2,V]using e
    obtain⟨d0,dd,d',g1,g2,c1,c2,g3,rfl⟩:=Aj V;obtain⟨b0,a9,k1,k2,k3⟩:=J ρ p h1 σ H S (plus M Fr) s;rw[g1]at k1;cases k1;rw[g2]at k2;cases k2;refine k3 _ λo v0 H1 M1 Z a7 a8=>?_;have O:Sta G H1 ob ρ σ S (plus M Fr):=s.grow Z λa z=>.inl z;refine hi ρ k h2 σ H1 _ O.rel O.wok _ λy H2 N B ry fr nN=>?_;have a4:Sta G H2 ob ρ σ S (plus (N++M) Fr):=O.grow B λa z=>z.elim (λz=>(List.mem_append.mp z).elim (λz=>.inr ⟨fr a z,ry.dom a z⟩) λz=>.inl (.inl z)) λz=>.inl (.inr z);have up:Up H1 H2 (wn ob S (plus M Fr)) (wn ob S (plus (N++M) Fr)):=⟨B,λb u U f=>⟨λz=>z.elim (λz=>(List.mem_append.mp z).elim (λz=>by rw[fr b z]at U;cases U) λz=>f.1 (.inl z)) λz=>f.1 (.inr z),f.2⟩,λ_ _ _ f=>f⟩;have a2:Up H H2 (wn ob S (plus M Fr)) (wn ob S (plus (N++M) Fr)):=(Up.same Z).trans up;have a0:=a8.mono (.inr up) up.evo λc _ u F=>B c u F;have a3:(wn ob S (plus M Fr)).add N=wn ob S (plus (N++M) Fr):=by
     show Wn.mk _ _ _=Wn.mk _ _ _;congr 1;funext a;simp![plus,Zy,eq_iff_iff,or_assoc];constructor
     .rintro(z|z)
      .exact .inl z
      .exact .inr z
     .rintro(z|z)
      .exact .inl z
      .exact .inr z
    rw[a3]at ry;have a5:∀a∈N,a∉M:=λa h1 h2=>by
     obtain⟨o,J,_⟩:=r.dom a h2;rw[Z.none' (fr a h1)]at J;cases J
    have re:aM G H2 (wn ob S (plus (N++M) Fr)) [k,d] [y,v] (N++M):=.cons ry (.one (r.up a2));have a1:∀a∈N++M,¬Fr a:=λa Y z=>by
     rcases List.mem_append.mp Y with y|y
     .obtain⟨o,J,_⟩:=O.fdm a (.inr z)
      rw[fr a y]at J;cases J
     .exact hF a y z
    have a6:=nT hm a4 g1 a7 g2 a0 re (fK nN nd a5) a1 c1 c2 g3 (Q:=λ_ H'=>Q σ H') λx H' R S' q1 q2 q3 q4 q5 q6 q7 q8=>q σ H' S' (q1.lessF λa z=>.inr z) ⟨λb u U n m=>?_,λj a z=>?_,.refl⟩
    .obtain⟨i1,v1,e1,k⟩:=a6
     cases e1;exact k
    .exact q8 b u ((Z.trans B) b u U) λz=>n ⟨i,z⟩
    .by_cases hj:j=i
     .subst hj
      rcases q6 a z with y|y|y
      .exact .inl ⟨j,y⟩
      .exact(List.mem_append.mp y).elim (λy=>.inr (.inr (Z.none' (fr a y)))) λy=>.inr (.inl y)
      .exact .inr (.inr ((Z.trans B).none' y))
     .rw[q5 j hj]at z;exact .inl ⟨j,z⟩
theorem jw{op:D->List D->Option (D×D)}{o k:Expr}{pos:Pos}{i:Nat}{pf:En->Option (List Nat)}{z:En->Option D}(m:MuT X G op)(J:PVP X G ob o i pf)(q:PV X G ob k z)(Y:∀c,∀v,abI (.Subscript o k pos) (X c).env v=(do
 let ov ←abl [v] (eval o (X c).env)
 let iv ←abl [v,ov] (eval k (X c).env)
 aeq pos
 abl [v,ov,iv] (setItem ov iv v)
 release [v,ov,iv] []):=by intro _;intro _;rfl):PVG X G ob P (.Subscript o k pos) (gh op i pf z):=let⟨t,m1,m2⟩:=m.ex;let⟨_,a1,a2⟩:=J.ex;let⟨_,b1,b2⟩:=q.ex;⟨_,λc=>Vh (a1 c) (b1 c) (m1 c) (Y c),Q7 m2 a2 b2⟩
theorem oW{G:Gc}{H:Hp}{W:Wn}:Rep G H W .non .non []:=by rw[Rep];exact⟨rfl,rfl⟩
theorem tQ{ds:List D}(h1:aC ds=true)(h2:aD ds=true):clean (.lst .own ds)=true:=by simp[clean,aA,az,h1,h2]
theorem Ha{G:Gc}{H:Hp}{W W':Wn}{a:Addr}{xs:List V}{ds:List D}{M:List Addr}{ys:List V}(Z:aM G H W ds xs M)(q:aC ds=true)(B:aD ds=true)(I:a∉M)(J:Evo H (upd H a (.lst ys)) W W'):aM G (upd H a (.lst ys)) W' ds xs M:=
 Z.mono J (.inl q) (.inl B) λc F u O=>by rw[aR (show c≠a from λz=>I (z▸F))];exact O
def cJ:D->List D->Option (D×D)
 |.lst .own ds,[e]=>if ds.length<1000000 then some (.lst .own (ds++[e]),.non)else none
 |_,_=>none
theorem yS{n:Nat}(h:n<1000000):n<Yc:=Ys h (by decide)
theorem vA{G:Gc}:MuV G rR cJ:=λd es d' res h v xs H W M N r D nd hM F O c2 Q q=>by
 unfold cJ at h;split at h
 .rename_i ds e
  split at h
  .rename_i hl
   cases h;rw[Rep]at r;obtain⟨a,ys,M0,rfl,Z,Y,rfl⟩:=r;obtain⟨x,zs,N1,N2,rfl,rfl,B,hz⟩:=D.inv;obtain⟨rfl,rfl⟩:=hz.inv0;rw[Yz]at nd D;obtain⟨V,k2⟩:=lH F;have a0:=Yr.mp nd;have I:=Yy.mp a0.1;have a1:a∉N1:=λz=>a0.2.2 a (by simp) a z rfl;simp![aC,aD,Yp]at O c2;refine⟨a,ys,x,rfl,rfl,Y,yS (by rw[←Z.length];exact hl),q .non _ (a::(M0++N1)) [] (λb u U n=>by rw[aR (show b≠a from λz=>n (by rw[z];simp))];exact U) (λW' J=>⟨?_,oW⟩) ?_ (λb U=>?_) (tQ (by rw[j8];simp[V,aC,O]) (by rw[j4];simp[k2,aD,c2])) rfl⟩
   .rw[Rep]
    refine⟨a,ys++[x],M0++N1,rfl,(Ha Z V k2 I.1 J).append (.one (B.mono J (.inl O.1) (.inl c2.1) λc F u hu=>?_)),aW,rfl⟩;rw[aR (show c≠a from λz=>a1 (z▸F))];exact hu
   .rw[Yz]
    exact nd
   .rw[Yz]at U
    rcases Yj.mp U with z|z
    .exact .inl (by simp[z])
    .rcases List.mem_append.mp z with z|z
     .exact .inl (by simp[z])
     .exact .inr (.inl (by simp[z]))
  .cases h
 .cases h
theorem DK{T:String}{op:D->List D->Option (D×D)}(I:T="list")(h:∀d es q,op d es=some q->∃m ds,d= .lst m ds):HS G T op:=λd es q e v H W L r=>by
 obtain⟨m,ds,rfl⟩:=h d es q e;rw[Rep]at r;obtain⟨a,xs,M,rfl,Z,O⟩:=r;exact .inl ⟨I,xs,O.sq⟩
theorem qt:MuB X G "list" "list.append" cJ:=⟨_,λc=>w5,vA,DK rfl λd es q e=>by
 unfold cJ at e;split at e
 .exact⟨_,_,rfl⟩
 .cases e⟩
def gO(ks:List Key)(ds:List D)(k:Key)(v:D):List Key×List D:=match dU ks k with
 |some j=>(ks,ds.set j v)
 |none=>(ks++[k],ds++[v])
def cX:D->List D->Option (D×D)
 |.lst .own ds,[.int k,v]=>(ixN ds.length k).map λj=>(.lst .own (ds.set j v),.non)
 |.dct .own ks ds,[k,v]=>(dG k).bind λk=>if ks.length<1000000 then some (.dct .own (gO ks ds k v).1 (gO ks ds k v).2,.non)else none
 |_,_=>none
def Ro:Jg:=λo i v H Q=>Rt o i v H Q∨∃a H',o= .ref a/\JQ H a i v H'/\Q H'
theorem QS{Y:Cx}(F:Y.A.units+1<cLine):Pu Y Ro:=by
 intro pins s σ H o i v J B u Q I z D O h;rcases h with h|⟨a,H',rfl,g,q⟩
 .exact set_list pins s σ H o i v J B u Q I z D O h
 .cases z
  exact Jf F I g D O λU V=>⟨H',V,q⟩
theorem aM.set{G:Gc}{H:Hp}{W:Wn}{ds:List D}{xs:List V}{L:List Addr}{j:Nat}{c d':D}{y:V}{M':List Addr}(Z:aM G H W ds xs L)(e:ds[j]? =some c)(J:Rep G H W d' y M'):∃A M B,L=A++(M++B)/\aM G H W (ds.set j d') (xs.set j y) (A++(M'++B)):=by
 obtain⟨P,Q,x,ys,zs,z,U,I,rfl,q,rfl,O,rfl,h1,h2,F⟩:=Z.at e;refine⟨z,U,I,rfl,?_⟩;rw[←q,aa8 _ _ (Nat.le_refl _),aag];rw[show P.length=ys.length by omega,aa8 _ _ (Nat.le_refl _),aag];exact aM.append h1 (aM.cons J F)
theorem wj{ds:List D}{j:Nat}{x:D}(h:aC ds=true)(B:aA x=true):aC (ds.set j x)=true:=by
 induction ds generalizing j with
 |nil=>simpa using h
 |cons y r J=>
  simp![aC,Yp]at h;cases j with
  |zero=>simp[aC,B,h]
  |succ j=>simp![YH,aC,Yp];exact⟨h.1,J h.2⟩
theorem vU{ds:List D}{j:Nat}{x:D}(h:aD ds=true)(B:az x=true):aD (ds.set j x)=true:=by
 induction ds generalizing j with
 |nil=>simpa using h
 |cons y r J=>
  simp![aD,Yp]at h;cases j with
  |zero=>simp[aD,B,h]
  |succ j=>simp![YH,aD,Yp];exact⟨h.1,J h.2⟩
theorem T5{n:Nat}{k:Int}{j:Nat}(h:ixN n k=some j):j<n:=by
 unfold ixN at h;split at h
 .split at h
  .cases h;omega
  .cases h
 .split at h
  .cases h;omega
  .cases h
theorem yt{ks:List Key}{k:Key}{j:Nat}(h:dU ks k=some j):j<ks.length:=(Zc.mp h).1
theorem Bm:∀{kvs:List (Key×V)}{k:Key}{j:Nat}{v:V},dU (kvs.map (·.1)) k=some j->(kvs.map (·.1)).Nodup->(putK kvs k v).map (·.1)=kvs.map (·.1)/\(putK kvs k v).map (·.2)=(kvs.map (·.2)).set j v:=by
 intro kvs k j v h n;have O:=Zc.mp h;obtain⟨Z,J,_⟩:=O;have F:j<kvs.length:=by simpa using Z
 have B:kvs[j].1=k:=by simpa using J
 have Y:(kvs.any λkv=>decide (kv.1=k))=true:=abe.mpr ⟨kvs[j],aao _,by simpa using B⟩;unfold putK;rw[Yi Y];constructor
 .rw[Yq]
  apply ZV;intro p _;simp![aaj];split<;>rfl
 .apply aay
  intro i;rw[Yq,List.getElem?_map];by_cases U:j=i
  .subst U
   rw[ZQ (by simpa using F)];simp[F,B]
  .rw[List.getElem?_set_ne U,List.getElem?_map]
   cases e:kvs[i]? with
   |none=>rfl
   |some p=>
    have D:i<kvs.length:=(List.getElem?_eq_some_iff.mp e).1;have I:kvs[i]=p:=(List.getElem?_eq_some_iff.mp e).2;have q:p.1≠k:=λz=>by
     have e1:(kvs.map (·.1))[i]? =(kvs.map (·.1))[j]?:=by
      rw[List.getElem?_map,List.getElem?_map,e,X5 F];simp[z,B]
     exact U ((acJ (by simpa using D) n).mp e1).symm
    simp[q]
theorem nP{kvs:List (Key×V)}{k:Key}{v:V}(h:dU (kvs.map (·.1)) k=none):putK kvs k v=kvs++[(k,v)]:=by
 unfold putK;rw[YB];intro z;obtain⟨p,O,e⟩:=abe.mp z;have:=Zg.mp h p.1 (acX.mpr ⟨p,O,rfl⟩);simp at this e;exact this e
theorem BL{ks:List Key}{k:Key}(h:dU ks k=none):k∉ks:=λz=>by
 have:=Zg.mp h k z;simp at this
def zV{α:Type}(j:Option Nat)(l:List α)(y:α):List α:=match j with
 |some j=>l.set j y
 |none=>l++[y]
theorem G3{G:Gc}{H:Hp}{W:Wn}{ds:List D}{xs:List V}{a:Addr}{M0 N:List Addr}{e:D}{x:V}{o:HO}{j:Option Nat}(Z:aM G H W ds xs M0)(hx:Rep G H W e x N)(nd:(a::M0++N).Nodup)(k1:aC ds=true)(k2:aD ds=true)(c1:aA e=true)(c2:az e=true)(O:∀i,j=some i->i<ds.length) :
  ∃M',(a::M').Nodup/\(∀b∈a::M',b∈a::M0∨b∈N)/\(∀W',Evo H (upd H a o) W W'->aM G (upd H a o) W' (zV j ds e) (zV j xs x) M')/\aC (zV j ds e)=true/\aD (zV j ds e)=true:=by
 have a1:=Yr.mp nd;have I:=Yy.mp a1.1;have a2:a∉N:=λz=>a1.2.2 a (by simp) a z rfl;have kp:∀{L:List Addr},a∉L->∀c∈L,∀u,H c=some u->upd H a o c=some u:=λh c F u hu=>by rw[aR (show c≠a from λz=>h (z▸F))];exact hu
 cases j with
 |none=>
  refine⟨M0++N,by simpa using nd,λb U=>by simpa[or_assoc]using U,λW' ev=>?_,by simp[zV,j8,aC,k1,c1],by simp[zV,j4,aD,k2,c2]⟩;exact(Z.mono ev (.inl k1) (.inl k2) (kp I.1)).append (.one (hx.mono ev (.inl c1) (.inl c2) (kp a2)))
 |some j=>
  obtain⟨A,M1,B,a4,q⟩:=Z.set (X5 (O j rfl)) hx;have a0:ZP (A++B) M0:=by rw[a4];exact(aaA A).append (Zf M1 B)
  have n3:=Yr.mp (a0.nodup I.2);have a3:∀z∈N,z∉A++B:=λz h1 h2=>a1.2.2 z (YJ _ (a0.subset h2)) z h1 rfl;have J:∀b∈A++(N++B),b∈M0∨b∈N:=λb U=>by
   simp![Zy]at U;rcases U with y|y|y
   .exact .inl (a0.subset (by simp[y]))
   .exact .inr y
   .exact .inl (a0.subset (by simp[y]))
  have Y:a∉A++(N++B):=λz=>(J a z).elim I.1 a2;refine⟨A++(N++B),Yy.mpr ⟨Y,fK n3.1 (fK a1.2.1 n3.2.1 λz h1 h2=>a3 z h1 (by simp[h2])) λz h1 h2=>?_⟩,λb U=>(Yj.mp U).elim (λz=>.inl (by simp[z])) λz=>(J b z).imp (YJ _) id,λW' ev=>q.mono ev (.inl (wj k1 c1)) (.inl (vU k2 c2)) (kp Y),wj k1 c1,vU k2 c2⟩;rcases List.mem_append.mp h2 with y|y
  .exact a3 z y (by simp[h1])
  .exact n3.2.2 z h1 z y rfl
theorem Hj{G:Gc}:MuV G (λo xs H Q=>∃i v,xs=[i,v]/\Ro o i v H λH'=>Q .non H') cX:=λd es d' res h v xs H W M N r re nd hM F c1 c2 Q q=>by
 have kp:∀{a:Addr}{L:List Addr}{o:HO}(b:Addr)(u:HO),H b=some u->b∉a::L->upd H a o b=some u:=λb u U n=>by rw[aR (show b≠_ from λz=>n (by rw[z];simp))];exact U
 unfold cX at h;split at h
 .rename_i ds k e
  cases O:ixN ds.length k with
  |none=>simp[O]at h
  |some j=>
   obtain⟨rfl,rfl⟩:D.lst .own (ds.set j e)=d'/\D.non=res:=by simpa[O]using h
   rw[Rep]at r;obtain⟨a,ys,M0,rfl,Z,Y,rfl⟩:=r;obtain⟨x1,zs,N1,N2,rfl,rfl,a0,hz⟩:=re.inv;obtain⟨x,zs,N3,N4,rfl,rfl,B,hz⟩:=hz.inv;obtain⟨rfl,rfl⟩:=hz.inv0;rw[Rep]at a0;obtain⟨rfl,rfl⟩:=a0;rw[Yz,List.nil_append]at nd re;obtain⟨V,k2⟩:=lH F;simp![aC,aD,Yp]at c1 c2;obtain⟨M',n1,n2,n3,n4,n5⟩:=G3 (o:=.lst (ys.set j x)) (j:=some j) Z B nd V k2 c1.2.1 c2.2.1 λi hi=>by cases hi;exact T5 O
   refine⟨_,_,rfl,.inl ⟨a,ys,k,j,rfl,rfl,Y,by rw[←Z.length];exact O,q .non _ (a::M') [] kp (λW' ev=>⟨?_,oW⟩) (by simpa using n1) (λb U=>(n2 b (by simpa using U)).imp id λz=>.inl (by simpa using z)) (tQ n4 n5) rfl⟩⟩;rw[Rep];exact⟨a,_,M',rfl,n3 W' ev,aW,rfl⟩
 .rename_i ks ds k0 e
  cases J:dG k0 with
  |none=>simp[J]at h
  |some k=>
   rw[J]at h;simp![gD]at h;split at h
   .rename_i hl
    cases h;rw[Rep]at r;obtain⟨a,kvs,M0,rfl,⟨rfl,a1⟩,Z,Y,rfl⟩:=r;obtain⟨x1,zs,N1,N2,rfl,rfl,a0,hz⟩:=re.inv;obtain⟨x,zs,N3,N4,rfl,rfl,B,hz⟩:=hz.inv;obtain⟨rfl,rfl⟩:=hz.inv0;have a2:=iY a0 J;subst a2;have a3:N1=[]:=by
     cases k0<;>simp[dG]at J<;>rw[Rep]at a0<;>exact a0.2
    subst a3;rw[Yz,List.nil_append]at nd re;have V:aC ds=true/\aD ds=true:=by simp[clean,aA,az]at F;exact F
    simp![aC,aD,Yp]at c1 c2;obtain⟨M',n1,n2,n3,n4,n5⟩:=G3 (o:=.dK (putK kvs k x)) (j:=dU (kvs.map (·.1)) k) Z B nd V.1 V.2 c1.2.1 c2.2.1 λi hi=>by rw[Z.length];simpa using yt hi
    have pe:(putK kvs k x).map (·.1)=(gO (kvs.map (·.1)) ds k e).1/\(putK kvs k x).map (·.2)=zV (dU (kvs.map (·.1)) k) (kvs.map (·.2)) x/\zV (dU (kvs.map (·.1)) k) ds e=(gO (kvs.map (·.1)) ds k e).2/\(gO (kvs.map (·.1)) ds k e).1.Nodup:=by
     cases O:dU (kvs.map (·.1)) k with
     |some j=>
      obtain⟨p1,p2⟩:=Bm (v:=x) O a1;simp![gO,O];exact⟨p1,p2,rfl,a1⟩
     |none=>
      rw[nP O];simp![gO,O];refine⟨by simp,by simp[zV],rfl,List.nodup_append.mpr ⟨a1,by simp,λy I z hz=>?_⟩⟩;obtain rfl:z=k:=by simpa using hz
      exact λe=>BL O (e▸I)
    refine⟨_,_,rfl,.inr ⟨a,_,rfl,JQ.k (k:=k) Y (yS (by simpa using hl)),q .non _ (a::M') [] kp (λW' ev=>⟨?_,oW⟩) (by simpa using n1) (λb U=>(n2 b (by simpa using U)).imp id λz=>.inl (by simpa using z)) ?_ rfl⟩⟩
    .rw[Rep]
     exact⟨a,_,M',rfl,⟨pe.1,pe.2.2.2⟩,by rw[←pe.2.2.1,pe.2.1];exact n3 W' ev,aW,rfl⟩
    .rw[←pe.2.2.1]
     simp[clean,aA,az,n4,n5]
   .cases h
 .cases h
theorem jy(F:∀c,(X c).A.units+1<cLine):MuT X G cX:=⟨_,λc=>QS (F c),Hj⟩
end
noncomputable abbrev InX(X:ι->Cx)(N':List Str)(scope:Scope):ι×(Addr×X4×Hp×List Addr)->Cx:=λp=>eV (X p.1) N' scope p.2.1 p.2.2.1 p.2.2.2.1 p.2.2.2.2
def gf(cap:List (Option Nat))(ρ:En):En:=cap.map λo=>o.bind λj=>(ρ[j]?).bind id
def obC(cap:List (Option Nat))(ob:Nat->Bool):Nat->Bool:=λi=>match cap[i]? with
 |some (some j)=>ob j
 |_=>false
variable{l:List (Option α)}{x:α}
theorem rK{α:Type}{cap:List (Option Nat)}{l:List (Option α)}{x:α}(h:(cap.map λo=>o.bind λj=>(l[j]?).bind id)[i]? =some (some x)):∃j,cap[i]? =some (some j)/\l[j]? =some (some x):=by
 rw[List.getElem?_map]at h;cases e:cap[i]? with
 |none=>rw[e]at h;cases h
 |some o=>
  rw[e]at h;cases o with
  |none=>simp at h
  |some j=>
   refine⟨j,rfl,?_⟩;have h:(l[j]?).bind id=some x:=by simpa using h
   cases e2:l[j]? with
   |none=>rw[e2]at h;cases h
   |some o=>rw[e2]at h;simpa using h
theorem zR{α:Type}{cap:List (Option Nat)}{l:List (Option α)}{x:α}(h:cap[i]? =some (some j))(h2:l[j]? =some (some x)):(cap.map λo=>o.bind λj=>(l[j]?).bind id)[i]? =some (some x):=by
 rw[List.getElem?_map,h];simp[h2]
theorem Rel.cap{cap:List (Option Nat)}(r:Rel G H W ob ρ σ):Rel G H W (obC cap ob) (gf cap ρ) (jf cap σ):=λi d e=>by
 obtain⟨j,h1,h2⟩:=rK e;obtain⟨v,L,q1,q2,D⟩:=r j d h2;refine⟨v,L,zR h1 q1,q2,λz=>D ?_⟩;unfold obC at z;rw[h1]at z;exact z
def Jl(G:Gc)(ob own:Nat->Bool)(g:TG)(f:D->En->Option En):Prop:=∀(d:D)(ρ I:En),f d ρ=some I->∀(x:V)(σ:L2.St)(H:Hp)(W:Wn),Rep G H W d x []->Rel G H W ob ρ σ->σ.length=ρ.length->∀Q:L2.St->Hp->Prop,
 (∀O,Rel G H W ob I O->O.length=I.length->(∀j,own j=false->O[j]? =σ[j]?)->Q O H)->g x σ H Q
def De(G:Gc)(ob own:Nat->Bool)(g:TGs)(f:List D->En->Option En):Prop:=∀(ds:List D)(ρ I:En),f ds ρ=some I->∀(xs:List V)(σ:L2.St)(H:Hp)(W:Wn),aM G H W ds xs []->Rel G H W ob ρ σ->σ.length=ρ.length->∀Q:L2.St->Hp->Prop,
 (∀O,Rel G H W ob I O->O.length=I.length->(∀j,own j=false->O[j]? =σ[j]?)->Q O H)->g xs σ H Q
structure Iw{ι:Type}(X:ι->Cx)(G:Gc)(ob own:Nat->Bool)(tg:Expr)(f:D->En->Option En):Prop where
 mk::(ex:∃t,(∀c,PG (X c) tg t)/\Jl G ob own t f)
structure Hw{ι:Type}(X:ι->Cx)(G:Gc)(ob own:Nat->Bool)(tg:List Expr)(f:List D->En->Option En):Prop where
 mk::(ex:∃t,(∀c,PGs (X c) tg t)/\De G ob own t f)
def tpN(i:Nat):D->En->Option En:=λd ρ=>some (ρ.set i (some d))
def tpT(n:Nat)(g:List D->En->Option En):D->En->Option En:=λd ρ=>match d with
 |.tup ds=>if ds.length=n then g ds ρ else none
 |_=>none
theorem HW{own:Nat->Bool}(J:own i=true):Jl G ob own (xK i) (tpN i):=λd ρ I e x σ H W r B Z Q q=>by
 cases e;refine q _ (λj d' O=>?_) (by simp[Z]) λj O=>?_
 .by_cases e:i=j
  .subst e
   rw[aai]at O;split at O
   .split at O
    .rename_i h2
     have:d=d':=by simpa using O
     subst this;exact⟨x,[],by simp[Z,h2],r,λ_ c F=>by cases F⟩
    .cases O
   .exact absurd rfl ‹_›
  .rw[List.getElem?_set_ne e]at O
   obtain⟨v,L,h1,h2,V⟩:=B j d' O;exact⟨v,L,by rw[List.getElem?_set_ne e];exact h1,h2,V⟩
 .have:i≠j:=λz=>by rw[←z,J]at O;cases O
  rw[List.getElem?_set_ne this]
theorem Ih{own:Nat->Bool}:De G ob own Qi bM:=λds ρ I e xs σ H W r O Z Q q=>by
 cases ds with
 |nil=>
  cases e;obtain⟨rfl,_⟩:=r.inv0;exact⟨rfl,q σ O Z λ_ _=>rfl⟩
 |cons d r=>cases e
variable{g:List D->En->Option En}
theorem DX{own:Nat->Bool}{t:TG}{u:TGs}{f:D->En->Option En}(h1:Jl G ob own t f)(h2:De G ob own u g):De G ob own (J4 t u) (aP f g):=λds ρ I e xs σ H W r rl hl Q q=>by
 cases ds with
 |nil=>cases e
 |cons d ds=>
  obtain⟨x,ys,M1,F,rfl,hL,B,Z⟩:=r.inv;obtain⟨rfl,rfl⟩:M1=[]/\F=[]:=by simpa using hL.symm
  simp![aP]at e;cases V:f d ρ with
  |none=>rw[V]at e;cases e
  |some ρ1=>
   have e:g ds ρ1=some I:=by simpa[V]using e
   exact⟨x,ys,rfl,h1 d ρ ρ1 V x σ H W B rl hl _ λY J a0 k1=>h2 ds ρ1 I e ys Y H W Z J a0 Q λσ2 U z k2=>q σ2 U z λj O=>(k2 j O).trans (k1 j O)⟩
theorem K5{own:Nat->Bool}{t:TGs}(h:De G ob own t g):Jl G ob own (SN G.K n t) (tpT n g):=λd ρ I e x σ H W r O z Q q=>by
 cases d with
 |tup ds=>
  simp![tpT]at e;split at e
  .rename_i hn
   rw[Rep]at r;obtain⟨a,xs,rfl,U,Z⟩:=r;exact⟨a,xs,rfl,SqT.of U,by rw[←Z.length];exact hn,h ds ρ I e xs σ H W Z O z Q q⟩
  .cases e
 |_=>cases e
section
variable{ι:Type}{X:ι->Cx}{G:Gc}{ob own:Nat->Bool}
theorem cg(i:Nat){x:Str}{pos:Pos}(z:∀c,(X c).N.Nodup)(J:own i=true:=by rfl)(hi:∀c,(X c).N[i]? =some x:=by intro _;rfl)(B:∀c,Loc (X c).env.scope x:=by intro _;first|exact ZX rfl|exact Zm rfl)(Y:∀c,(X c).fn x=true∨(X c).env.scope.names.lookup x=some .local:=by intro _;first|exact .inl rfl|exact .inr rfl):Iw X G ob own (.Name x pos) (tpN i):=⟨_,λc=>zy (z c) (hi c) (B c) (Y c),HW J⟩
theorem lF:Hw X G ob own [] bM:=⟨_,λc=>Gx,Ih⟩
theorem eX{e:Expr}{es:List Expr}{f:D->En->Option En}{g:List D->En->Option En}(h1:Iw X G ob own e f)(h2:Hw X G ob own es g)(O:∀c,(Zv (e::es) (X c).env).map (·.2)=abI e (X c).env::(Zv es (X c).env).map (·.2):=by intro _;rfl):Hw X G ob own (e::es) (aP f g):=
 let⟨t,a1,a2⟩:=h1.ex;let⟨u,b1,b2⟩:=h2.ex;⟨_,λc=>CG (a1 c) (b1 c) (O c),DX a2 b2⟩
theorem nF{es:List Expr}{k n:Nat}{pos:Pos}{g:List D->En->Option En}(F:∀c,(X c).calm=true)(h:Hw X G ob own es g)(I:∀c,(Zv es (X c).env).length=n:=by intro _;rfl)(U:∀c,(Zv es (X c).env).findIdx? (·.1)=none:=by intro _;rfl)(q:∀c,(X c).K=G.K:=by intro _;rfl):Iw X G ob own (.Tuple es k pos) (tpT n g):=
 let⟨t,a1,a2⟩:=h.ex;⟨_,λc=>(by rw[←q c];exact Ms (F c) (a1 c) (I c) (U c)),K5 a2⟩
structure IK{ι:Type}(X:ι->Cx)(G:Gc)(ob:Nat->Bool)(ifs:List Expr)(f:En->Option Bool):Prop where
 mk::(ex:∃t,(∀c,PTs (X c) ifs t)/\RfT G ob t f)
def eTT:En->Option Bool:=λ_=>some true
theorem f9:IK X G ob [] eTT:=⟨_,λc=>PN,λρ b e σ H W O w Q q=>by cases e;exact q H (Same.refl H)⟩
theorem Cw{c:Expr}{f:En->Option Bool}(h:PVT X G ob c f):IK X G ob [c] f:=let⟨t,a1,a2⟩:=h.ex;⟨t,λc=>O2 (a1 c),a2⟩
def il(tg:D->En->Option En)(c:En->Option Bool)(e:En->Option D)(ρ0:En):List D->Option (List D)
 |[]=>some []
 |d::r=>(tg d ρ0).bind λρ1=>(c ρ1).bind λb=>if b=true then(e ρ1).bind λx=>(il tg c e ρ0 r).map λt=>x::t else il tg c e ρ0 r
def bT(cap:List (Option Nat))(it:En->Option (Bool×List D))(tg:D->En->Option En)(c:En->Option Bool)(e:En->Option D):En->Option D:=λρ=>(it ρ).bind λp=>if p.2.length<=1000000 then(il tg c e (gf cap ρ) p.2).map λys=>.lst .own ys else none
theorem six{n:Nat}(h:n<=1000000):n<Yc:=Nat.lt_of_le_of_lt h (by decide)
theorem Mw{cap:List (Option Nat)}{σ O:L2.St}(F:∀i:Nat,own i=true->cap[i]?≠none->cap[i]? =some none)(h:∀j,own j=false->O[j]? =(jf cap σ)[j]?):Kp (jf cap σ) O:=λi v e=>by
 cases J:own i with
 |false=>rw[h i J];exact e
 |true=>
  obtain⟨j,h1,_⟩:=rK e;rw[F i J (by rw[h1];simp)]at h1;cases h1
theorem yF{cap:List (Option Nat)}{wi:TI}{g:TG}{tt:TT}{te:TE}{it:En->Option (Bool×List D)}{tg:D->En->Option En}{c:En->Option Bool}{e:En->Option D}(a6:∀i:Nat,own i=true->cap[i]?≠none->cap[i]? =some none)(hi:RfI G ob wi it)(hg:Jl G (obC cap ob) own g tg)(ht:RfT G (obC cap ob) tt c)(he:RfE G (obC cap ob) te e):RfE G ob (Bk cap wi g tt te) (bT cap it tg c e):=λρ d ee σ H W rl w Q q=>by
 unfold bT at ee;cases h1:it ρ with
 |none=>simp[h1]at ee
 |some p=>
  obtain⟨b,items⟩:=p;rw[h1]at ee;simp![gD]at ee;split at ee
  .rename_i hlen
   cases h2:il tg c e (gf cap ρ) items with
   |none=>simp[h2]at ee
   |some a3=>
    obtain rfl:D.lst .own a3=d:=by simpa[h2]using ee
    refine hi ρ b items h1 σ H W rl w _ λJ H1 Z wk=>?_;refine⟨λi m ys H2=>i+m=items.length/\ys.length<=i/\∃acc L rest,Same H1 H2/\aM G H2 (W.add L) acc ys L/\(∀a∈L,H1 a=none)/\L.Nodup/\WOk H2 (W.add L)/\il tg c e (gf cap ρ) (items.drop i)=some rest/\acc++rest=a3,⟨items.length,by omega,by simp,[],[],a3,Same.refl _,.nil,by simp,List.nodup_nil,?_,h2,rfl⟩,?_⟩
    .rw[xj];exact w.up Z
    rintro i m ys H2 ⟨b4,b3,acc,L,rest,B,ra,fa,na,wa,F,a0⟩;have a4:Up H1 H2 W (W.add L):=Up.add B fa
    .by_cases hil:i<items.length
     .have hdr:=(ZS hil).symm
      rw[hdr,il]at F;refine .inr ⟨wk.go i items[i] (by simp[hil]) H2 _ (LtB.up a4),by have:=six hlen;omega,λa5 H'=>(i+1)+(m-1)=items.length/\a5.length<=i+1/\∃acc L rest,Same H1 H'/\aM G H' (W.add L) acc a5 L/\(∀a∈L,H1 a=none)/\L.Nodup/\WOk H' (W.add L)/\il tg c e (gf cap ρ) (items.drop (i+1))=some rest/\acc++rest=a3,λa5 H' h=>⟨m-1,by omega,h⟩,λx H3 I=>?_⟩;obtain⟨s3,rx⟩:=wk.yld i items[i] (by simp[hil]) H2 _ (LtB.up a4) x H3 I;cases V:tg items[i] (gf cap ρ)with
      |none=>simp[V]at F
      |some ρ1=>
       rw[V]at F;simp![gD]at F;have b0:Rel G H3 (W.add L) (obC cap ob) (gf cap ρ) (jf cap σ):=(rl.cap).up ((Up.same Z).trans (a4.trans (Up.same s3)));have a2:=ra.up (Up.same s3 (W:=W.add L));have a7:WOk H3 (W.add L):=wa.up s3;refine hg items[i] _ ρ1 V x _ H3 (W.add L) rx b0 (by simp[gf,jf]) _ λσ2 a8 b5 k4=>⟨Mw a6 k4,?_⟩;cases h4:c ρ1 with
       |none=>simp[h4]at F
       |some bb=>
        rw[h4]at F;simp![gD]at F;refine ht ρ1 bb h4 σ2 H3 (W.add L) a8 a7 _ λH4 s4=>?_;have b2:=a8.up (Up.same s4);have a9:=a7.up s4;cases bb with
        |false=>
         simp![Zb,aaa]at F;exact wH ⟨by omega,by omega,acc,L,rest,((B.trans s3).trans s4),a2.up (Up.same s4),fa,na,a9,F,a0⟩
        |true=>
         simp![Yx]at F;cases h5:e ρ1 with
         |none=>simp[h5]at F
         |some y=>
          cases h6:il tg c e (gf cap ρ) (items.drop (i+1))with
          |none=>simp[h5,h6]at F
          |some a1=>
           obtain rfl:y::a1=rest:=by simpa[h5,h6]using F
           refine tK (he ρ1 y h5 σ2 H4 (W.add L) b2 a9 _ λv H5 M s5 ry fy ny=>?_);have fM:∀a∈M,H1 a=none:=λa Y=>(((B.trans s3).trans s4)).none' (fy a Y);have b1:∀a∈L,a∉M:=λa h1 h2=>by
            obtain⟨o,ho,_⟩:=(a2.up (Up.same s4 (W:=W.add L))).dom a h1;rw[fy a h2]at ho;cases ho
           have u5:Up H4 H5 (W.add L) (W.add (L++M)):=⟨s5,λb u U f=>⟨λz=>z.elim (λz=>(List.mem_append.mp z).elim (λz=>f.1 (.inl z)) λz=>by rw[fy b z]at U;cases U) λz=>f.1 (.inr z),f.2⟩,λ_ _ _ f=>f⟩;have u6:Up H5 H5 ((W.add L).add M) (W.add (L++M)):=⟨Same.refl _,λb u U f=>⟨λz=>by
            rcases z with z|z
            .exact(List.mem_append.mp z).elim (λz=>f.1 (.inr (.inl z))) λz=>f.1 (.inl z)
            .exact f.1 (.inr (.inr z)),f.2⟩,λ_ _ _ f=>f⟩
           refine⟨by omega,by simp;omega,acc++[y],L++M,a1,((B.trans s3).trans s4).trans s5,((a2.up (Up.same s4)).up u5).append (.one (ry.up u6)),λa Y=>(List.mem_append.mp Y).elim (fa a) (fM a),fK na ny b1,?_,rfl,by rw[←a0];simp⟩;exact w.add (((Z.trans B).trans s3).trans s4 |>.trans s5) λa Y=>(List.mem_append.mp Y).elim (λz=>let⟨o,h,m⟩:=(a2.up (Up.same s4 (W:=W.add L))).dom a z;⟨o,s5 a o h,m⟩) (ry.dom a)
     .have hl:i=items.length:=by omega
      subst hl;rw[ZM,il]at F;cases F;refine .inl ⟨wk.stop H2 _ (LtB.up a4),aa2 (six (by omega)),λp O=>?_⟩;have sm:Same H2 (upd H2 p (.lst ys)):=Same.new O;rw[Yz]at a0;subst a0;refine q (.ref p) _ (p::L) ((Z.trans B).trans sm) ?_ (λa Y=>(Yj.mp Y).elim (λz=>by rw[z];exact(Z.trans B).none' O) λz=>Z.none' (fa a z)) (Yy.mpr ⟨λz=>?_,na⟩)
      .rw[Rep]
       exact⟨p,ys,L,rfl,ra.up ⟨sm,λb u U f=>⟨λz=>z.elim (λz=>(Yj.mp z).elim (λz=>by rw[z,O]at U;cases U) λz=>f.1 (.inl z)) λz=>f.1 (.inr z),f.2⟩,λ_ _ _ f=>f⟩,aW,rfl⟩
      .obtain⟨o,ho,_⟩:=ra.dom p z
       rw[O]at ho;cases ho
  .cases ee
end
def qD(cap:List (Option Nat)):Prop:=∀(i k j:Nat),cap[i]? =some (some j)->cap[k]? =some (some j)->i=k
def lY(cap:List (Option Nat))(S:Ad):Ad:=λi=>match cap[i]? with
 |some (some j)=>S j
 |_=>[]
def sY(cap:List (Option Nat))(S:Ad)(Fr:Addr->Prop):Addr->Prop:=λa=>Fr a∨∃j:Nat,(∀i:Nat,cap[i]?≠some (some j))/\a∈S j
theorem jH{cap:List (Option Nat)}(h:a∈lY cap S i):∃j,cap[i]? =some (some j)/\a∈S j:=by
 unfold lY at h;split at h
 .rename_i j e;exact⟨j,e,h⟩
 .cases h
theorem za{cap:List (Option Nat)}(h:cap[i]? =some (some j)):lY cap S i=S j:=by unfold lY;rw[h]
theorem Ex{cap:List (Option Nat)}(h:cap[i]? =some (some j)):obC cap ob i=ob j:=by unfold obC;rw[h]
section
variable{G:Gc}{ob own:Nat->Bool}{cap:List (Option Nat)}
theorem yL{S:Ad}{Fr:Addr->Prop}{a:Addr}:(wn ob S Fr).free a↔(wn (obC cap ob) (lY cap S) (sY cap S Fr)).free a:=by
 constructor
 .intro f
  have q:∀j,a∉S j:=λj z=>by
   cases J:ob j with
   |false=>exact f.2.1 ⟨j,J,z⟩
   |true=>exact f.2.2 ⟨j,J,z⟩
  refine⟨λz=>z.elim f.1 λ⟨j,_,z⟩=>q j z,λ⟨i,_,z⟩=>?_,λ⟨i,_,z⟩=>?_⟩
  .obtain⟨j,_,z⟩:=jH z;exact q j z
  .obtain⟨j,_,z⟩:=jH z;exact q j z
 .intro f
  have q:∀j,a∉S j:=λj z=>by
   by_cases F:∃i:Nat,cap[i]? =some (some j)
   .obtain⟨i,hi⟩:=F
    have B:a∈lY cap S i:=by rw[za hi];exact z
    cases J:obC cap ob i with
    |false=>exact f.2.1 ⟨i,J,B⟩
    |true=>exact f.2.2 ⟨i,J,B⟩
   .exact f.1 (.inr ⟨j,λi hi=>F ⟨i,hi⟩,z⟩)
  exact⟨λz=>f.1 (.inl z),λ⟨j,_,z⟩=>q j z,λ⟨j,_,z⟩=>q j z⟩
theorem RP{H:Hp}{S:Ad}{Fr:Addr->Prop}{d:D}{v:V}{L:List Addr}(F:clean d=true):Rep G H (wn ob S Fr) d v L↔Rep G H (wn (obC cap ob) (lY cap S) (sY cap S Fr)) d v L:=by
 have q:=(by simpa[clean]using F:aA d=true/\az d=true);constructor
 .intro r
  have J:Evo H H (wn ob S Fr) (wn (obC cap ob) (lY cap S) (sY cap S Fr)):=⟨λb u U f=>⟨U,yL.mp f⟩,λ_ _ h=>h⟩;exact r.mono J (.inl q.1) (.inl q.2) λ_ _ _ h=>h
 .intro r
  have J:Evo H H (wn (obC cap ob) (lY cap S) (sY cap S Fr)) (wn ob S Fr):=⟨λb u U f=>⟨U,yL.mpr f⟩,λ_ _ h=>h⟩;exact r.mono J (.inl q.1) (.inl q.2) λ_ _ _ h=>h
theorem Sta.inn{H:Hp}{ρ:En}{σ:L2.St}{S:Ad}{Fr:Addr->Prop}(O:qD cap)(s:Sta G H ob ρ σ S Fr):Sta G H (obC cap ob) (gf cap ρ) (jf cap σ) (lY cap S) (sY cap S Fr)where
 len:=by simp[gf,jf]
 sl:=λi d e=>by
  obtain⟨j,h1,h2⟩:=rK e;obtain⟨v,q1,q2,D⟩:=s.sl j d h2;exact⟨v,zR h1 q1,by rw[za h1];exact(RP D).mp q2,D⟩
 em:=λi h=>by
  unfold lY;split
  .rename_i j e
   exact s.em j λd hd=>h d (zR e hd)
  .rfl
 nd:=λi=>by
  unfold lY;split
  .exact s.nd _
  .exact List.nodup_nil
 dj:=λi k a h1 h2=>by
  obtain⟨B,e1,Y⟩:=jH h1;obtain⟨q,e2,I⟩:=jH h2;have:=s.dj B q a Y I;subst this;exact O i k B e1 e2
 fdj:=λi a h z=>by
  obtain⟨j,e,z⟩:=jH z;rcases h with h|⟨k,J,h⟩
  .exact s.fdj j a h z
  .have:=s.dj j k a z h
   subst this;exact J i e
 fdm:=λa h=>by
  rcases h with h|⟨k,_,h⟩
  .exact s.fdm a h
  .exact s.mu h
def jg:List (Option Nat)->En->En->En
 |some j::cs,d::ds,ρ=>jg cs ds (ρ.set j d)
 |none::cs,_::ds,ρ=>jg cs ds ρ
 |_,_,ρ=>ρ
theorem oX:∀(cap:List (Option Nat))(ds ρ:En),(jg cap ds ρ).length=ρ.length
 |[],ds,ρ=>by cases ds<;>rfl
 |some j::cs,[],ρ=>rfl
 |none::cs,[],ρ=>rfl
 |some j::cs,d::ds,ρ=>by rw[jg,oX cs ds];simp
 |none::cs,d::ds,ρ=>by rw[jg,oX cs ds]
theorem nY:∀{cap:List (Option Nat)}{ds ρ:En}{j:Nat},(∀i:Nat,cap[i]?≠some (some j))->(jg cap ds ρ)[j]? =ρ[j]?
 |[],ds,ρ,j,_=>by cases ds<;>rfl
 |some k::cs,[],ρ,j,_=>rfl
 |none::cs,[],ρ,j,_=>rfl
 |some k::cs,d::ds,ρ,j,h=>by
  rw[jg,nY λi e=>h (i+1) (by simpa using e),List.getElem?_set_ne λz=>h 0 (by simp[z])]
 |none::cs,d::ds,ρ,j,h=>by rw[jg,nY λi e=>h (i+1) (by simpa using e)]
theorem rE:∀{cap:List (Option Nat)}{ds ρ:En}{i j:Nat}{x:Option D},qD cap->cap[i]? =some (some j)->ds[i]? =some x->j<ρ.length->(jg cap ds ρ)[j]? =some x
 |[],ds,ρ,i,j,x,_,h,_,_=>by simp at h
 |some k::cs,[],ρ,i,j,x,_,_,h,_=>by simp at h
 |none::cs,[],ρ,i,j,x,_,_,h,_=>by simp at h
 |some k::cs,d::ds,ρ,i,j,x,hj,h1,h2,hl=>by
  rw[jg];cases i with
  |zero=>
   have e1:k=j:=by simpa using h1
   have e2:d=x:=by simpa using h2
   subst e1 e2;rw[nY λi e=>?_]
   .simp[hl]
   .have:=hj 0 (i+1) k (by simp) (by simpa using e)
    omega
  |succ i=>exact rE (λa b c h1 h2=>by have:=hj (a+1) (b+1) c (by simpa using h1) (by simpa using h2);omega) (by simpa using h1) (by simpa using h2) (by simpa using hl)
 |none::cs,d::ds,ρ,i,j,x,hj,h1,h2,hl=>by
  rw[jg];cases i with
  |zero=>simp at h1
  |succ i=>exact rE (λa b c h1 h2=>by have:=hj (a+1) (b+1) c (by simpa using h1) (by simpa using h2);omega) (by simpa using h1) (by simpa using h2) hl
def ut(cap:List (Option Nat))(q S:Ad):Ad:=λj=>match cap.findIdx? (λo=>o==some j)with
 |some i=>q i
 |none=>S j
theorem jd{q S:Ad}{i j:Nat}(O:qD cap)(h:cap[i]? =some (some j)):ut cap q S j=q i:=by
 unfold ut;split
 .rename_i k e
  obtain⟨h1,h2,_⟩:=Zc.mp e;have:cap[k]=some j:=by simpa using h2
  rw[O i k j h (by rw[X5 h1,this])]
 .rename_i e
  have:=Zg.mp e (some j) (YD h);simp at this
theorem iR{q S:Ad}{j:Nat}(h:∀i:Nat,cap[i]?≠some (some j)):ut cap q S j=S j:=by
 unfold ut;split
 .rename_i k e
  obtain⟨h1,h2,_⟩:=Zc.mp e;have:cap[k]=some j:=by simpa using h2
  exact absurd (by rw[X5 h1,this]) (h k)
 .rfl
theorem h_(cap:List (Option Nat))(j:Nat):(∃i:Nat,cap[i]? =some (some j))∨(∀i:Nat,cap[i]?≠some (some j)):=by
 by_cases h:∃i:Nat,cap[i]? =some (some j)
 .exact .inl h
 .exact .inr λi z=>h ⟨i,z⟩
theorem Sta.out{H H':Hp}{ρ a4:En}{σ a6:L2.St}{S Si:Ad}{Fr:Addr->Prop}{M:List Addr}(O:qD cap)(s:Sta G H ob ρ σ S Fr)(J:∀i:Nat,cap[i]? =some none->True)(hk:∀i j:Nat,cap[i]? =some (some j)->a6[i]? =(jf cap σ)[i]?)
  (si:Sta G H' (obC cap ob) a4 a6 Si (plus M (sY cap S Fr))) (ef:Eff (obC cap ob) H H' (lY cap S) Si M):Sta G H' ob (jg cap a4 ρ) σ (ut cap Si S) (plus M Fr)/\Eff ob H H' S (ut cap Si S) M/\
   (∀d v L,clean d=true->Rep G H' (wn (obC cap ob) Si (plus M (sY cap S Fr))) d v L->Rep G H' (wn ob (ut cap Si S) (plus M Fr)) d v L):=by
 have a0:∀{a},inO (obC cap ob) (lY cap S) a->inO ob S a:=λ{a}⟨i,h1,h2⟩=>by
  obtain⟨j,e,z⟩:=jH h2;exact⟨j,by rw[←Ex (ob:=ob) e];exact h1,z⟩
 have a9:Eff ob H H' S (ut cap Si S) M:=by
  refine⟨λb u U n=>ef.kp b u U λz=>n (a0 z),λj a2=>?_,λj a a2 z=>?_,λa Y=>(ef.fm a Y).imp a0 id⟩
  .rcases h_ cap j with⟨i,hi⟩|I
   .rw[jd O hi,ef.sn i (by rw[Ex hi];exact a2),za hi]
   .exact iR I
  .rcases h_ cap j with⟨i,hi⟩|I
   .rw[jd O hi]at z
    exact(ef.gr i a (by rw[Ex hi];exact a2) z).imp a0 id
   .rw[iR I]at z;exact .inl ⟨j,a2,z⟩
 have a5:∀a,(wn (obC cap ob) Si (plus M (sY cap S Fr))).free a->(wn ob (ut cap Si S) (plus M Fr)).free a:=λa f=>by
  have nS:∀j,a∉ut cap Si S j:=λj z=>by
   rcases h_ cap j with⟨i,hi⟩|I
   .rw[jd O hi]at z
    cases b0:obC cap ob i with
    |false=>exact f.2.1 ⟨i,b0,z⟩
    |true=>exact f.2.2 ⟨i,b0,z⟩
   .rw[iR I]at z
    exact f.1 (.inr (.inr ⟨j,I,z⟩))
  exact⟨λz=>z.elim (λz=>f.1 (.inl z)) λz=>f.1 (.inr (.inl z)),λ⟨j,_,z⟩=>nS j z,λ⟨j,_,z⟩=>nS j z⟩
 have conv:∀d v L,clean d=true->Rep G H' (wn (obC cap ob) Si (plus M (sY cap S Fr))) d v L->Rep G H' (wn ob (ut cap Si S) (plus M Fr)) d v L:=λd v L F r=>by
  have q:=(by simpa[clean]using F:aA d=true/\az d=true);have ev:Evo H' H' (wn (obC cap ob) Si (plus M (sY cap S Fr))) (wn ob (ut cap Si S) (plus M Fr)):=⟨λb u U f=>⟨U,a5 b f⟩,λ_ _ h=>h⟩;exact r.mono ev (.inl q.1) (.inl q.2) λ_ _ _ h=>h
 have a1:∀{j a},(∀i:Nat,cap[i]?≠some (some j))->a∈S j->∀i,a∉Si i:=λ{j a} I z i y=>si.fdj i a (.inr (.inr ⟨j,I,z⟩)) y;refine⟨⟨by rw[oX];exact s.len,λj d hd=>?_,λj hd=>?_,λj=>?_,λj k a h1 h2=>?_,λj a h z=>?_,λa h=>?_⟩,a9,conv⟩
 .rcases h_ cap j with⟨i,hi⟩|I
  .have Z:j<ρ.length:=by
    have:=(List.getElem?_eq_some_iff.mp hd).1;rwa[oX]at this
   cases B:a4[i]? with
   |none=>
    have h1:a4.length<=i:=abt.mp B;have h2:a6.length<=i:=by rw[←si.len];exact h1
    have V:=hk i j hi;rw[abt.mpr h2]at V;have h4:(jf cap σ).length<=i:=abt.mp V.symm;have h5:i<cap.length:=(List.getElem?_eq_some_iff.mp hi).1;simp[jf]at h4;omega
   |some x=>
    rw[rE O hi B Z]at hd;cases hd;obtain⟨v,q1,q2,D⟩:=si.sl i d B;rw[hk i j hi]at q1;obtain⟨j',e1,e2⟩:=rK q1;rw[hi]at e1;cases e1;exact⟨v,e2,by rw[jd O hi];exact conv _ _ _ D q2,D⟩
  .rw[nY I]at hd
   obtain⟨v,q1,q2,D⟩:=s.sl j d hd;refine⟨v,q1,?_,D⟩;rw[iR I];have q:=(by simpa[clean]using D:aA d=true/\az d=true);refine q2.mono (a9.evo s) (.inl q.1) (.inl q.2) λc F u hu=>?_;exact ef.kp c u hu λ⟨i,_,z⟩=>by
    obtain⟨k,e,z⟩:=jH z;have:=s.dj j k c F z;subst this;exact I i e
 .rcases h_ cap j with⟨i,hi⟩|I
  .rw[jd O hi]
   refine si.em i λd a8=>?_;by_cases Z:j<ρ.length
   .exact hd d (rE O hi a8 Z)
   .
    obtain⟨v,q1,_⟩:=si.sl i d a8;rw[hk i j hi]at q1;obtain⟨j',e1,e2⟩:=rK q1;rw[hi]at e1;cases e1;have:=(List.getElem?_eq_some_iff.mp e2).1;rw[←s.len]at this;exact Z this
  .rw[iR I]
   exact s.em j λd=>by have:=hd d;rwa[nY I]at this
 .rcases h_ cap j with⟨i,hi⟩|I
  .rw[jd O hi];exact si.nd i
  .rw[iR I];exact s.nd j
 .rcases h_ cap j with⟨i,hi⟩|I<;>rcases h_ cap k with⟨i',a3⟩|a7
  .rw[jd O hi]at h1
   rw[jd O a3]at h2;have:=si.dj i i' a h1 h2;subst this;rw[hi]at a3;cases a3;rfl
  .rw[jd O hi]at h1
   rw[iR a7]at h2;exact absurd h1 (a1 a7 h2 i)
  .rw[iR I]at h1
   rw[jd O a3]at h2;exact absurd h2 (a1 I h1 i')
  .rw[iR I]at h1
   rw[iR a7]at h2;exact s.dj j k a h1 h2
 .rcases h_ cap j with⟨i,hi⟩|I
  .rw[jd O hi]at z
   exact si.fdj i a (h.imp id .inl) z
  .rw[iR I]at z
   rcases h with h|h
   .rcases ef.fm a h with y|y
    .obtain⟨k,_,y⟩:=a0 y
     have:=s.dj j k a z y;subst this;obtain⟨i,hi,y'⟩:∃i,obC cap ob i=true/\a∈lY cap S i:=by assumption
     obtain⟨k',e,y'⟩:=jH y';have:=s.dj j k' a z y';subst this;exact I i e
    .obtain⟨o,J,_⟩:=s.mu z
     rw[y]at J;cases J
   .exact s.fdj j a h z
 .rcases h with h|h
  .exact si.fdm a (.inl h)
  .exact si.fdm a (.inr (.inl h))
end
section
variable{ι:Type}{X:ι->Cx}{G:Gc}{ob own:Nat->Bool}
def R7(G:Gc)(ob own:Nat->Bool)(g:TG)(f:D->En->Option En):Prop:=∀(d:D)(ρ I:En),f d ρ=some I->∀(x:V)(σ:L2.St)(H:Hp)(S:Ad)(Fr:Addr->Prop),Sta G H ob ρ σ S Fr->(∀i,own i=true->S i=[])->Rep G H (wn ob S Fr) d x []->∀Q:L2.St->Hp->Prop,
 (∀O,Sta G H ob I O S Fr->(∀j,own j=false->O[j]? =σ[j]?)->Q O H)->g x σ H Q
theorem Jv{i:Nat}(J:own i=true):R7 G ob own (xK i) (tgN i):=λd ρ I e x σ H S Fr s U r Q q=>by
 unfold tgN at e;split at e
 .rename_i hc
  cases e;refine q _ ⟨by simp[s.len],λj d' O=>?_,λj O=>?_,s.nd,s.dj,s.fdj,s.fdm⟩ λj O=>?_
  .by_cases ej:i=j
   .subst ej
    rw[aai]at O;split at O
    .split at O
     .rename_i h2
      have:d=d':=by simpa using O
      subst this;exact⟨x,by simp[←s.len,h2],by rw[U i J];exact r,hc⟩
     .cases O
    .exact absurd rfl ‹_›
   .rw[List.getElem?_set_ne ej]at O
    obtain⟨v,h1,h2,V⟩:=s.sl j d' O;exact⟨v,by rw[List.getElem?_set_ne ej];exact h1,h2,V⟩
  .by_cases ej:i=j
   .subst ej;exact U i J
   .exact s.em j λd'=>by have:=O d';rwa[List.getElem?_set_ne ej]at this
  .have:i≠j:=λz=>by rw[←z,J]at O;cases O
   rw[List.getElem?_set_ne this]
 .cases e
structure W_{ι:Type}(X:ι->Cx)(G:Gc)(ob own:Nat->Bool)(tg:Expr)(f:D->En->Option En):Prop where
 mk::(ex:∃t,(∀c,PG (X c) tg t)/\R7 G ob own t f)
theorem HJ(i:Nat){x:Str}{pos:Pos}(z:∀c,(X c).N.Nodup)(J:own i=true:=by rfl)(hi:∀c,(X c).N[i]? =some x:=by intro _;rfl)(B:∀c,Loc (X c).env.scope x:=by intro _;first|exact ZX rfl|exact Zm rfl)(Y:∀c,(X c).fn x=true∨(X c).env.scope.names.lookup x=some .local:=by intro _;first|exact .inl rfl|exact .inr rfl):W_ X G ob own (.Name x pos) (tgN i):=⟨_,λc=>zy (z c) (hi c) (B c) (Y c),Jv J⟩
def lg(cap:List (Option Nat))(tg:D->En->Option En)(c:En->Option Bool)(e:En->Option (D×En)):List D->En->Option (List D×En)
 |[],ρ=>some ([],ρ)
 |d::r,ρ=>(tg d (gf cap ρ)).bind λρ1=>(c ρ1).bind λb=>if b=true then(e ρ1).bind λp=>if clean p.1=true then(lg cap tg c e r (jg cap p.2 ρ)).map λt=>(p.1::t.1,t.2)else none else lg cap tg c e r ρ
def vh(cap:List (Option Nat))(it:En->Option (Bool×List D))(tg:D->En->Option En)(c:En->Option Bool)(e:En->Option (D×En)):En->Option (D×En):=λρ=>(it ρ).bind λp=>if p.1=true/\p.2.length<=1000000 then(lg cap tg c e p.2 ρ).map λt=>(.lst .own t.1,t.2)else none
theorem KQ{cap:List (Option Nat)}{wi:TI}{g:TG}{tt:TT}{te:TE}{it:En->Option (Bool×List D)}{tg:D->En->Option En}{c:En->Option Bool}{e:En->Option (D×En)}(hj:qD cap)(a4:∀i:Nat,own i=true->cap[i]?≠none->cap[i]? =some none)(hi:RfI G ob wi it)(hg:R7 G (obC cap ob) own g tg)(ht:RfT G (obC cap ob) tt c)(Y:mW G (obC cap ob) te e) :
  mW G ob (Bk cap wi g tt te) (vh cap it tg c e):=λρ d I ee σ H S Fr s Q q=>by
 unfold vh at ee;cases h1:it ρ with
 |none=>simp[h1]at ee
 |some p=>
  obtain⟨b,items⟩:=p;rw[h1]at ee;simp![gD]at ee;split at ee
  .rename_i a2
   obtain⟨U,a2⟩:=a2;change b=true at U;change items.length<=1000000 at a2;subst U;cases h2:lg cap tg c e items ρ with
   |none=>simp[h2]at ee
   |some w=>
    obtain⟨b0,a5⟩:=w;obtain⟨rfl,rfl⟩:D.lst .own b0=d/\a5=I:=by simpa[h2]using ee
    refine hi ρ true items h1 σ H _ s.rel s.wok _ λJ H1 sm wk=>?_;have s1:Sta G H1 ob ρ σ S Fr:=s.grow sm λa z=>.inl z;have e1:Eff ob H H1 S S []:=⟨λb u h _=>sm b u h,λ_ _=>rfl,λi a h z=>.inl ⟨i,h,z⟩,by simp⟩;refine⟨λi m ys H2=>i+m=items.length/\ys.length<=i/\∃ρ2 S2 acc L rest,Sta G H2 ob ρ2 σ S2 (plus L Fr)/\aM G H2 (wn ob S2 (plus L Fr)) acc ys L/\L.Nodup/\aC acc=true/\aD acc=true/\Eff ob H1 H2 S S2 L/\lg cap tg c e (items.drop i) ρ2=some (rest,a5)/\acc++rest=b0,
     ⟨items.length,by omega,by simp,ρ,S,[],[],b0,by rw[kW];exact s1,.nil,List.nodup_nil,rfl,rfl,.refl,h2,rfl⟩,?_⟩
    rintro i m ys H2 ⟨d3,d2,ρ2,S2,acc,L,rest,B,ra,na,b1,b5,ef,a0,a1⟩;have lt:LtB true H1 (wn ob S Fr) H2 (wn (obC cap ob) (lY cap S2) (sY cap S2 (plus L Fr))):=tK ⟨λb u U f=>let⟨h1,h2⟩:=(ef.evo s1).k b u U f;⟨h1,yL.mp h2⟩,(ef.evo s1).t⟩;by_cases b7:i<items.length
    .have hdr:=(ZS b7).symm
     rw[hdr,lg]at a0;refine .inr ⟨wk.go i items[i] (by simp[b7]) H2 _ lt,by have:=six a2;omega,λb4 H'=>(i+1)+(m-1)=items.length/\b4.length<=i+1/\∃ρ2 S2 acc L rest,Sta G H' ob ρ2 σ S2 (plus L Fr)/\aM G H' (wn ob S2 (plus L Fr)) acc b4 L/\L.Nodup/\aC acc=true/\aD acc=true/\Eff ob H1 H' S S2 L/\lg cap tg c e (items.drop (i+1)) ρ2=some (rest,a5)/\acc++rest=b0,λb4 H' h=>⟨m-1,by omega,h⟩,λx H3 hy=>?_⟩;obtain⟨s3,rx⟩:=wk.yld i items[i] (by simp[b7]) H2 _ lt x H3 hy;have c4:Sta G H3 ob ρ2 σ S2 (plus L Fr):=B.grow s3 λa z=>.inl z;have c9:Eff ob H1 H3 S S2 L:=ef.same s3 λc F=>.inl F;have c7:aM G H3 (wn ob S2 (plus L Fr)) acc ys L:=ra.up (Up.same s3);have si:=c4.inn (cap:=cap) hj;cases V:tg items[i] (gf cap ρ2)with
     |none=>simp[V]at a0
     |some a3=>
      rw[V]at a0;simp![gD]at a0;have d0:∀k,own k=true->lY cap S2 k=[]:=λk hk=>by
       unfold lY;split
       .rename_i j e
        rw[a4 k hk (by rw[e];simp)]at e;cases e
       .rfl
      refine hg items[i] _ a3 V x _ H3 _ (sY cap S2 (plus L Fr)) si d0 rx _ λa8 s4 c0=>⟨Mw a4 c0,?_⟩;cases h4:c a3 with
      |none=>simp[h4]at a0
      |some bb=>
       rw[h4]at a0;simp![gD]at a0;refine ht a3 bb h4 a8 H3 _ s4.rel s4.wok _ λH4 a9=>?_;have a7:Sta G H4 ob ρ2 σ S2 (plus L Fr):=c4.grow a9 λa z=>.inl z;have c5:Sta G H4 (obC cap ob) a3 a8 (lY cap S2) (sY cap S2 (plus L Fr)):=s4.grow a9 λa z=>.inl z;have c1:Eff ob H1 H4 S S2 L:=c9.same a9 λc F=>.inl F;have b3:aM G H4 (wn ob S2 (plus L Fr)) acc ys L:=c7.up (Up.same a9);cases bb with
       |false=>
        simp![Zb,aaa]at a0;exact wH ⟨by omega,by omega,ρ2,S2,acc,L,rest,a7,b3,na,b1,b5,c1,a0,a1⟩
       |true=>
        simp![Yx]at a0;cases h5:e a3 with
        |none=>simp[h5]at a0
        |some w=>
         obtain⟨y,b6⟩:=w;rw[h5]at a0;simp![gD]at a0;split at a0
         .rename_i hcy
          cases h6:lg cap tg c e (items.drop (i+1)) (jg cap b6 ρ2)with
          |none=>simp[h6]at a0
          |some w=>
           obtain⟨a6,c3⟩:=w;obtain⟨rfl,rfl⟩:y::a6=rest/\c3=a5:=by simpa[h6]using a0
           refine tK (Y a3 y b6 h5 a8 H4 _ _ c5 _ λv H5 M S5 s5 ry ny c8=>?_);have d1:∀i j:Nat,cap[i]? =some (some j)->a8[i]? =(jf cap σ)[i]?:=λi j hi=>c0 i (by
            cases ho:own i with
            |false=>rfl
            |true=>rw[a4 i ho (by rw[hi];simp)]at hi;cases hi)
           obtain⟨o1,o2,o3⟩:=a7.out hj (λ_ _=>trivial) d1 s5 c8;have b8:=(by simpa[clean]using hcy:aA y=true/\az y=true);have b9:=b3.mono (o2.evo a7) (.inl b1) (.inl b5) λc F u hu=>o2.keepsF a7 (.inl F) u hu;rw[oZ]at o1 b9;have c2:=o3 y v M hcy ry;rw[oZ]at c2;have c6:∀a∈L,a∉M:=λa z1 z2=>by
            rcases o2.fm a z2 with y|y
            .exact a7.notO (.inl z1) y
            .obtain⟨o,ho,_⟩:=b3.dom a z1
             rw[y]at ho;cases ho
           exact⟨by omega,by simp;omega,jg cap b6 ρ2,_,acc++[y],L++M,a6,o1,b9.append (.one c2),fK na ny c6,by rw[j8];simp[b1,aC,b8],by rw[j4];simp[b5,aD,b8],c1.trans o2,h6,by rw[←a1];simp⟩
         .cases a0
    .have hl:i=items.length:=by omega
     subst hl;rw[ZM,lg]at a0;obtain⟨rfl,rfl⟩:[]=rest/\ρ2=a5:=by simpa using a0
     refine .inl ⟨wk.stop H2 _ lt,aa2 (six (by omega)),λp O=>?_⟩;have b2:Same H2 (upd H2 p (.lst ys)):=Same.new O;rw[Yz]at a1;subst a1;have np:p∉L:=λz=>by obtain⟨o,ho,_⟩:=ra.dom p z;rw[O]at ho;cases ho
     have Z:Rep G (upd H2 p (.lst ys)) (wn ob S2 (plus (p::L) Fr)) (.lst .own acc) (.ref p) (p::L):=by
      rw[Rep];exact⟨p,ys,L,rfl,ra.up ⟨b2,λb u U f=>⟨λz=>z.elim (λz=>(Yj.mp z).elim (λz=>by rw[z,O]at U;cases U) λz=>f.1 (.inl z)) λz=>f.1 (.inr z),f.2⟩,λ_ _ _ f=>f⟩,aW,rfl⟩
     refine q (.ref p) _ (p::L) S2 (B.grow b2 λa z=>?_) Z (Yy.mpr ⟨np,na⟩) ?_
     .rcases z with z|z
      .rcases Yj.mp z with z|z
       .exact .inr ⟨by rw[z];exact O,Z.dom a (by simp[z])⟩
       .exact .inl (.inl z)
      .exact .inl (.inr z)
     .exact(e1.trans ef).same b2 λc F=>(Yj.mp F).elim (λz=>.inr (by rw[z];exact O)) λz=>.inl (by simpa using z)
  .cases ee
section
variable{elt target iter:Expr}{ifs:List Expr}{scope:Scope}{pos pos' pos2:Pos}{N':List Str}{it:En->Option (Bool×List D)}{tg:D->En->Option En}{fc:En->Option Bool}
theorem iu(cap:List (Option Nat))(own:Nat->Bool){fe:En->Option D}(B:∀c,(X c).xe=NoX)(F:∀c,(X c).calm=true)(O:∀c,dO (X c).env.scope (X c).N N' scope cap)(q:∀i:Nat,own i=true->cap[i]?≠none->cap[i]? =some none)(hi:PVI X G ob target iter it)(I:Iw (InX X N' scope) G (obC cap ob) own target tg)(U:IK (InX X N' scope) G (obC cap ob) ifs fc)(Y:PV (InX X N' scope) G (obC cap ob) elt fe)
  (z:∀c,∀x,ZD iter (X c).env x=pure x:=by intro _ _;rfl):PV X G ob (.ListComp elt [⟨target,iter,ifs,0⟩] scope pos) (bT cap it tg fc fe):=
 let⟨_,i1,i2⟩:=hi.ex;let⟨_,g1,g2⟩:=I.ex;let⟨_,t1,t2⟩:=U.ex;let⟨_,e1,e2⟩:=Y.ex
 ⟨_,λc=>Hr (B c) (F c) (O c) (i1 c) (λC s H fp=>g1 (c,C,s,H,fp)) (λC s H fp=>t1 (c,C,s,H,fp)) (λC s H fp=>e1 (c,C,s,H,fp)) (z c),yF q i2 g2 t2 e2⟩
variable{P:Nat->Bool}{x:Str}
theorem Mf(i:Nat)(cap:List (Option Nat))(own:Nat->Bool){fe:En->Option D}(z:∀c,(X c).N.Nodup)(B:∀c,(X c).xe=NoX)(F:∀c,(X c).calm=true)(O:∀c,dO (X c).env.scope (X c).N N' scope cap)(q:∀i:Nat,own i=true->cap[i]?≠none->cap[i]? =some none)(hi:PVI X G ob target iter it)(hg:Iw (InX X N' scope) G (obC cap ob) own target tg)(U:IK (InX X N' scope) G (obC cap ob) ifs fc)(Y:PV (InX X N' scope) G (obC cap ob) elt fe)
  (J:P i=false:=by rfl) (I:∀c,(X c).N[i]? =some x:=by intro _;rfl) (Z:∀c,Loc (X c).env.scope x:=by intro _;first|exact ZX rfl|exact Zm rfl) (V:∀c,aaQ (.ListComp elt [⟨target,iter,ifs,0⟩] scope pos) (some (.Name x pos')) pos2.line (X c).env=pure true:=by intro _;rfl) (hs:∀c,∀x,ZD iter (X c).env x=pure x:=by intro _ _;rfl)
  (hf:∀c,(X c).fn x=true∨(X c).env.scope.names.lookup x=some .local:=by intro _;first|exact .inl rfl|exact .inr rfl):PVS X G ob P (.Assign [.Name x pos'] (.ListComp elt [⟨target,iter,ifs,0⟩] scope pos) pos2) (bI (bT cap it tg fc fe) (tgN i)):=
 let⟨_,i1,i2⟩:=hi.ex;let⟨_,g1,g2⟩:=hg.ex;let⟨_,t1,t2⟩:=U.ex;let⟨_,e1,e2⟩:=Y.ex
 ⟨_,λc=>GF (B c) (F c) (z c) (I c) (Z c) (O c) (i1 c) (λC s H fp=>g1 (c,C,s,H,fp)) (λC s H fp=>t1 (c,C,s,H,fp)) (λC s H fp=>e1 (c,C,s,H,fp)) (V c) (hs c) (hf c),by rw[←Et];exact lQ (BP (yF q i2 g2 t2 e2)) (kh J)⟩
theorem Je(i:Nat)(cap:List (Option Nat))(own:Nat->Bool){fe:En->Option (D×En)}(z:∀c,(X c).N.Nodup)(B:∀c,(X c).xe=NoX)(F:∀c,(X c).calm=true)(O:∀c,dO (X c).env.scope (X c).N N' scope cap)(hj:qD cap)(q:∀i:Nat,own i=true->cap[i]?≠none->cap[i]? =some none)(hi:PVI X G ob target iter it)(hg:W_ (InX X N' scope) G (obC cap ob) own target tg)(U:IK (InX X N' scope) G (obC cap ob) ifs fc)(Y:PVe (InX X N' scope) G (obC cap ob) elt fe)
  (J:P i=false:=by rfl) (I:∀c,(X c).N[i]? =some x:=by intro _;rfl) (Z:∀c,Loc (X c).env.scope x:=by intro _;first|exact ZX rfl|exact Zm rfl) (V:∀c,aaQ (.ListComp elt [⟨target,iter,ifs,0⟩] scope pos) (some (.Name x pos')) pos2.line (X c).env=pure true:=by intro _;rfl) (hs:∀c,∀x,ZD iter (X c).env x=pure x:=by intro _ _;rfl)
  (hf:∀c,(X c).fn x=true∨(X c).env.scope.names.lookup x=some .local:=by intro _;first|exact .inl rfl|exact .inr rfl):PVS X G ob P (.Assign [.Name x pos'] (.ListComp elt [⟨target,iter,ifs,0⟩] scope pos) pos2) (cZ (vh cap it tg fc fe) (tgN i)):=
 let⟨_,i1,i2⟩:=hi.ex;let⟨_,g1,g2⟩:=hg.ex;let⟨_,t1,t2⟩:=U.ex;let⟨_,e1,e2⟩:=Y.ex
 ⟨_,λc=>GF (B c) (F c) (z c) (I c) (Z c) (O c) (i1 c) (λC s H fp=>g1 (c,C,s,H,fp)) (λC s H fp=>t1 (c,C,s,H,fp)) (λC s H fp=>e1 (c,C,s,H,fp)) (V c) (hs c) (hf c),lQ (KQ hj q i2 g2 t2 e2) (kh J)⟩
end
end
inductive Sc:Dt->Dt->Prop
 |bl (a b:Bool):Sc (.bl a) (.bl b)
 |int (a b:Int):Sc (.int a) (.int b)
 |str (a b:Str):Sc (.str a) (.str b)
 |non:Sc .non .non
 |ns (b:Str):Sc .non (.str b)
def Flt(d e:Dt):Prop:=∃a b,d= .tup a/\e= .tup b/\∀p∈a.zip b,Sc p.1 p.2
def Vm(d e:Dt):Prop:=∃a b,d= .lst a/\e= .lst b/\∀p∈a.zip b,Sc p.1 p.2
inductive Alk:Dt->Dt->Prop
 |sc {d e:Dt}:Sc d e->Alk d e
 |lst {a b:List Dt}:(∀p∈a.zip b,Sc p.1 p.2)->Alk (.lst a) (.lst b)
 |tup {a b:List Dt}:(∀p∈a.zip b,Sc p.1 p.2)->Alk (.tup a) (.tup b)
 |deep {a b:List Dt}:(∀p∈a.zip b,Flt p.1 p.2)->Alk (.lst a) (.lst b)
 |deepL {a b:List Dt}:(∀p∈a.zip b,Vm p.1 p.2)->Alk (.lst a) (.lst b)
 |deepT {a b:List Dt}:(∀p∈a.zip b,Flt p.1 p.2)->Alk (.tup a) (.tup b)
section
variable{X:Cx}{pins:List (Addr×Obj)}{σ:L2.St}{H:Hp}{s:Shared}{A:Around}
open PySem.SeqAt
theorem Hd{d e:Dt}{v u:V}{v' u':Value}(h:Sc d e)(h1:Brs X.K H d v)(h2:Brs X.K H e u)(F:RelV v v')(O:RelV u u'):EqAt A s v' u' (eqD d e)/\RcAt A s v' u' (eqD d e)/\RcNeAt A s v' u' (!eqD d e):=by
 cases h<;>simp![Brs]at h1 h2<;>subst h1 h2
 case bl a b=>cases F;cases O;exact⟨EqAt.bool_bool a b,RcAt.bool_bool a b,RcNeAt.bool_bool a b⟩
 case int a b=>obtain⟨t,rfl⟩:=F;obtain⟨t',rfl⟩:=O;exact⟨EqAt.int_int a t b t',RcAt.int_int a t b t',RcNeAt.int_int a t b t'⟩
 case non=>cases F;cases O;exact⟨aeY _,RcAt.none_none,RcNeAt.none_none⟩
 case ns b=>cases F;obtain⟨t',rfl⟩:=O;exact⟨EqAt.none_str b t',RcAt.none_str b t',RcNeAt.none_str b t'⟩
 case str a b=>obtain⟨t,rfl⟩:=F;obtain⟨t',rfl⟩:=O;exact⟨EqAt.str_str a t b t',RcAt.str_str a t b t',RcNeAt.str_str a t b t'⟩
theorem vG{R:Dt->Dt->Prop}(Y:∀{d e:Dt}{v u:V}{v' u':Value},R d e->Brs X.K H d v->Brs X.K H e u->RelV v v'->RelV u u'->EqAt A s v' u' (eqD d e)):∀{ds es:List Dt}{ys xs:List V}{q its:List Value},(∀p∈ds.zip es,R p.1 p.2)->je X.K H ds ys->je X.K H es xs->Vals ys q->Vals xs its->
  ∀j (h1:j<q.toArray.size)(h2:j<its.toArray.size),EqAt A s q.toArray[j] its.toArray[j] (eqJ ds es j)
 |[],es,ys,xs,q,its,_,h,h',r,r',j,h1,h2=>by
  simp![je]at h;subst h;cases r;simp at h1
 |d::ds,[],ys,xs,q,its,_,h,h',r,r',j,h1,h2=>by
  simp![je]at h';subst h';cases r';simp at h2
 |d::ds,e::es,ys,xs,q,its,ha,h,h',r,r',j,h1,h2=>by
  simp![je]at h h';obtain⟨y,a0,rfl,hd,Z⟩:=h;obtain⟨x,U,rfl,B,D⟩:=h';cases r with
  |cons z J=>
   cases r' with
   |cons F I=>
    cases j with
    |zero=>exact Y (ha (d,e) (by simp)) hd B z F
    |succ j=>exact vG Y (λp O=>ha p (by simp[O])) Z D J I j (by simpa using h1) (by simpa using h2)
theorem yJ(I:Inv X pins σ H s){R:Dt->Dt->Prop}(hR:∀{d e:Dt}{v u:V}{v' u':Value},R d e->Brs X.K H d v->Brs X.K H e u->RelV v v'->RelV u u'->EqAt A.in1 s v' u' (eqD d e)){ds es:List Dt}{v u:V}{v' u':Value}(h:∀p∈ds.zip es,R p.1 p.2)(h1:Brs X.K H (.lst ds) v)(h2:Brs X.K H (.lst es) u)(F:RelV v v')(O:RelV u u')(hz:A.units<cLine):RcAt A s v' u' (eqD (.lst ds) (.lst es))/\RcNeAt A s v' u' (!eqD (.lst ds) (.lst es)):=by
 simp![Brs]at h1 h2;obtain⟨Y,a5,rfl,a3,B⟩:=h1;obtain⟨z,a6,rfl,a4,q⟩:=h2;cases F;cases O;obtain⟨J,a0,p1,_⟩:=I.list a3;obtain⟨D,U,p2,_⟩:=I.list a4;have l1:=B.length;have l2:=q.length;have l3:=a0.length;have l4:=U.length;rw[show eqD (.lst ds) (.lst es)=eqL ds es by simp[eqD]];by_cases Z:ds.length=es.length
 .have e1:J.toArray.size=D.toArray.size:=by rw[List.size_toArray,List.size_toArray];omega
  have e2:ds.length=J.toArray.size:=by rw[List.size_toArray];omega
  rw[←yx Z,e2];exact⟨RcAt.lists p1.isList p2.isList e1 hz (vG hR h B q a0 U),RcNeAt.lists p1.isList p2.isList e1 hz (vG hR h B q a0 U)⟩
 .have e1:(J.toArray.size !=D.toArray.size)=true:=by rw[List.size_toArray,List.size_toArray];exact bne_iff_ne.mpr (by omega)
  rw[Aw Z];exact⟨RcAt.lists_lengths p1.isList p2.isList e1 hz,RcNeAt.lists_lengths p1.isList p2.isList e1 hz⟩
theorem G7(I:Inv X pins σ H s){R:Dt->Dt->Prop}(hR:∀{d e:Dt}{v u:V}{v' u':Value},R d e->Brs X.K H d v->Brs X.K H e u->RelV v v'->RelV u u'->EqAt A.in1 s v' u' (eqD d e)){ds es:List Dt}{v u:V}{v' u':Value}(h:∀p∈ds.zip es,R p.1 p.2)(h1:Brs X.K H (.tup ds) v)(h2:Brs X.K H (.tup es) u)(F:RelV v v')(O:RelV u u')(hz:A.units<cLine):RcAt A s v' u' (eqD (.tup ds) (.tup es))/\RcNeAt A s v' u' (!eqD (.tup ds) (.tup es)):=by
 simp![Brs]at h1 h2;obtain⟨Y,a5,rfl,a3,B⟩:=h1;obtain⟨z,a6,rfl,a4,q⟩:=h2;cases F;cases O;obtain⟨J,a0,p1,_⟩:=I.tuple a3;obtain⟨D,U,p2,_⟩:=I.tuple a4;have l1:=B.length;have l2:=q.length;have l3:=a0.length;have l4:=U.length;have e:eqD (.tup ds) (.tup es)=((Y9 (min J.toArray.size D.toArray.size)).all (eqJ ds es)&&J.toArray.size==D.toArray.size):=by
  rw[show eqD (.tup ds) (.tup es)=eqL ds es by simp[eqD],List.size_toArray,List.size_toArray];by_cases Z:ds.length=es.length
  .rw[show min J.length D.length=ds.length by omega,yx Z,show(J.length==D.length)=true by simp;omega,adY]
  .rw[Aw Z,show(J.length==D.length)=false by simp;omega,Bool.and_false]
 rw[e];exact⟨RcAt.tuples p1 p2 hz (vG hR h B q a0 U),RcNeAt.tuples p1 p2 hz (vG hR h B q a0 U)⟩
theorem Ka(I:Inv X pins σ H s){ds es:List Dt}{v u:V}{v' u':Value}(h:∀p∈ds.zip es,Sc p.1 p.2)(h1:Brs X.K H (.tup ds) v)(h2:Brs X.K H (.tup es) u)(F:RelV v v')(O:RelV u u')(hz:A.units<cLine):RcAt A s v' u' (eqD (.tup ds) (.tup es))/\RcNeAt A s v' u' (!eqD (.tup ds) (.tup es)):=
 G7 I (λh a b c d=>(Hd h a b c d).1) h h1 h2 F O hz
theorem zQ{K:Yb}:∀{ds es:List Dt}{xs:List V},(∀p∈ds.zip es,Sc p.1 p.2)->je K H ds xs->je K H es xs->eqL ds es=true
 |[],[],_,_,_,_=>by simp[eqL]
 |[],_::_,_,_,h,h'=>by simp![je]at h;subst h;simp[je]at h'
 |_::_,[],_,_,h,h'=>by simp![je]at h';subst h';simp[je]at h
 |d::r,e::q,_,ha,h,h'=>by
  simp![je]at h h';obtain⟨x,ys,rfl,hd,Z⟩:=h;obtain⟨_,_,e1,B,D⟩:=h';cases e1;rw[eqL,zQ (λp z=>ha p (by simp[z])) Z D,adY];have O:=ha (d,e) (by simp);dsimp only at O;cases O<;>simp![Brs]at hd B<;>rw[hd]at B<;>first|(cases B;done)|(cases B;simp[eqD];done)|simp[eqD]
theorem DY(I:Inv X pins σ H s)(hz:A.units<cLine){d e:Dt}{v u:V}{v' u':Value}(h:Flt d e)(h1:Brs X.K H d v)(h2:Brs X.K H e u)(F:RelV v v')(O:RelV u u'):EqAt A s v' u' (eqD d e):=by
 obtain⟨a,b,rfl,rfl,h⟩:=h;have D:=(Ka I h h1 h2 F O hz).1;simp![Brs]at h1 h2;obtain⟨Y,a3,rfl,U,B⟩:=h1;obtain⟨z,a0,rfl,Z,q⟩:=h2;cases F;cases O;by_cases J:Y=z
 .subst J
  obtain rfl:=I.tuple_inj U Z;rw[show eqD (.tup a) (.tup b)=true by rw[eqD];exact zQ h B q];exact aeY _
 .exact EqAt.of_refs J D
theorem Od(I:Inv X pins σ H s)(hz:A.units<cLine){d e:Dt}{v u:V}{v' u':Value}(h:Vm d e)(h1:Brs X.K H d v)(h2:Brs X.K H e u)(F:RelV v v')(O:RelV u u'):EqAt A s v' u' (eqD d e):=by
 obtain⟨a,b,rfl,rfl,h⟩:=h;have D:=(yJ I (λh a b c d=>(Hd h a b c d).1) h h1 h2 F O hz).1;simp![Brs]at h1 h2;obtain⟨Y,a3,rfl,U,B⟩:=h1;obtain⟨z,a0,rfl,Z,q⟩:=h2;cases F;cases O;by_cases J:Y=z
 .subst J
  obtain rfl:=I.list_inj U Z;rw[show eqD (.lst a) (.lst b)=true by rw[eqD];exact zQ h B q];exact aeY _
 .exact EqAt.of_refs J D
theorem JW(I:Inv X pins σ H s){d e:Dt}{v u:V}{v' u':Value}(h:Alk d e)(h1:Brs X.K H d v)(h2:Brs X.K H e u)(F:RelV v v')(O:RelV u u')(hz:A.units+1<cLine):RcAt A s v' u' (eqD d e)/\RcNeAt A s v' u' (!eqD d e):=by
 cases h with
 |sc h=>exact(Hd h h1 h2 F O).2
 |lst h=>exact yJ I (λh a b c d=>(Hd h a b c d).1) h h1 h2 F O (by omega)
 |tup h=>exact Ka I h h1 h2 F O (by omega)
 |deepL h=>exact yJ I (λh a b c d=>Od I (show A.units+1<cLine from hz) h a b c d) h h1 h2 F O (by omega)
 |deepT h=>exact G7 I (λh a b c d=>DY I (show A.units+1<cLine from hz) h a b c d) h h1 h2 F O (by omega)
 |deep h=>exact yJ I (λh a b c d=>DY I (show A.units+1<cLine from hz) h a b c d) h h1 h2 F O (by omega)
def VJ(K:Yb)(A:Y0):R2:=λx y H Q=>∃d e,Alk d e/\Brs K H d x/\Brs K H e y/\A.units+1<cLine/\Q (.bl (eqD d e)) H
def Vk(K:Yb)(A:Y0):R2:=λx y H Q=>∃d e,Alk d e/\Brs K H d x/\Brs K H e y/\A.units+1<cLine/\Q (.bl (!eqD d e)) H
theorem TV:OpR X (YG .Eq) (VJ X.K X.A):=by
 intro pins s σ H x y v u Q I rx U ⟨d,e,h,h1,h2,F,q⟩;exact(JW I h h1 h2 rx U F).1 _ _ _ _ ⟨.bl (eqD d e),H,I,rfl,q⟩
theorem Tf:OpR X (YG .NotEq) (Vk X.K X.A):=by
 intro pins s σ H x y v u Q I rx U ⟨d,e,h,h1,h2,F,q⟩;exact(JW I h h1 h2 rx U F).2 _ _ _ _ ⟨.bl (!eqD d e),H,I,rfl,q⟩
end
theorem OpR.or{f:Value->Value->Sem Value}{r Z:R2}(h:OpR Y f r)(h':OpR Y f Z):OpR Y f (λx y H Q=>r x y H Q∨Z x y H Q):=λpins s σ H x y v u Q I rx U q=>q.elim (h pins s σ H x y v u Q I rx U) (h' pins s σ H x y v u Q I rx U)
theorem gQ.or{f:Value}{Z:List V->Hp->VK->Prop}(h:gQ Y f r)(h':gQ Y f Z):gQ Y f (λxs H Q=>r xs H Q∨Z xs H Q):=λpins s σ H xs us Q I O q=>q.elim (h pins s σ H xs us Q I O) (h' pins s σ H xs us Q I O)
variable{i:Int}
theorem dY:Rep G H W (.int i) (.int i) []:=by rw[Rep];exact⟨rfl,rfl⟩
theorem uQ{i:Str}:Rep G H W (.str i) (.str i) []:=by rw[Rep];exact⟨rfl,rfl⟩
theorem fH{i:Bool}:Rep G H W (.bl i) (.bl i) []:=by rw[Rep];exact⟨rfl,rfl⟩
theorem bw(r:Rep G H W (.int i) v L):v= .int i/\L=[]:=by rw[Rep]at r;exact r
theorem c7{i:Str}(r:Rep G H W (.str i) v L):v= .str i/\L=[]:=by rw[Rep]at r;exact r
theorem mH{i:Bool}(r:Rep G H W (.bl i) v L):v= .bl i/\L=[]:=by rw[Rep]at r;exact r
variable{g:Int->Int->V}{z:D->D->Option D}
theorem Ge(h:∀dx O d,z dx O=some d->∃i j,dx= .int i/\O= .int j/\C i j/\∀H W,Rep G H W d (g i j) []):OpV G (rI C g) z:=λdx O d e x y H W B J rx U nd I w Q q=>by
 obtain⟨i,j,rfl,rfl,F,Z⟩:=h dx O d e;obtain⟨rfl,rfl⟩:=bw rx;obtain⟨rfl,rfl⟩:=bw U;exact⟨i,j,rfl,rfl,F,q.scal (λW=>Z H W)⟩
theorem yM(h:∀dx O d,z dx O=some d->∃i j,dx= .int i/\O= .int j/\∀H W,Rep G H W d (g i j) []):OpV G (rI0 g) z:=λdx O d e x y H W B J rx U nd I w Q q=>by
 obtain⟨i,j,rfl,rfl,Z⟩:=h dx O d e;obtain⟨rfl,rfl⟩:=bw rx;obtain⟨rfl,rfl⟩:=bw U;exact⟨i,j,rfl,rfl,q.scal (λW=>Z H W)⟩
def jT:D->D->Option D
 |.int a,.int b=>some (.int (a-b))
 |_,_=>none
def lL:D->D->Option D
 |.int a,.int b=>if(-(2 ^ 64)<a/\a<2 ^ 64)∨(-(2 ^ 64)<b/\b<2 ^ 64)then some (.int (a*b))else none
 |_,_=>none
def wz:D->D->Option D
 |.int a,.int b=>if 0<b/\b<18446744073709551616 then some (.int (a / b))else none
 |_,_=>none
def qR:D->D->Option D
 |.int a,.int b=>if 0<b then some (.int (a % b))else none
 |_,_=>none
def FT:D->D->Option D
 |.int a,.int b=>if 0<=b/\b<=1000000/\a.natAbs<2 ^ 64 then some (.int (a ^ b.toNat))else none
 |_,_=>none
theorem qu:OpB X G (ZK .Sub) jT:=⟨_,λc=>Uc,yM λdx O d e=>by
 unfold jT at e;split at e
 .cases e;exact⟨_,_,rfl,rfl,λ_ _=>dY⟩
 .cases e⟩
theorem mG:OpB X G (ZK .Mult) lL:=⟨_,λc=>Ut,Ge λdx O d e=>by
 unfold lL at e;split at e
 .split at e
  .cases e;exact⟨_,_,rfl,rfl,‹_›,λ_ _=>dY⟩
  .cases e
 .cases e⟩
theorem OD:OpB X G (ZK .FloorDiv) wz:=⟨_,λc=>MF,Ge λdx O d e=>by
 unfold wz at e;split at e
 .split at e
  .cases e;exact⟨_,_,rfl,rfl,‹_›,λ_ _=>dY⟩
  .cases e
 .cases e⟩
theorem pZ:OpB X G (ZK .Mod) qR:=⟨_,λc=>UL,Ge λdx O d e=>by
 unfold qR at e;split at e
 .split at e
  .cases e;exact⟨_,_,rfl,rfl,‹_›,λ_ _=>dY⟩
  .cases e
 .cases e⟩
theorem Td:OpB X G (ZK .Pow) FT:=⟨_,λc=>Ss,Ge λdx O d e=>by
 unfold FT at e;split at e
 .split at e
  .cases e;exact⟨_,_,rfl,rfl,‹_›,λ_ _=>dY⟩
  .cases e
 .cases e⟩
def fW:D->Option D
 |.int a=>some (.int (-a))
 |_=>none
theorem jj:UnB X G (unaryOp .USub) fW:=⟨_,λc=>UW,λdx d e x H W B rx nd I w Q q=>by
 unfold fW at e;split at e
 .cases e
  obtain⟨rfl,rfl⟩:=bw rx;exact⟨_,rfl,q.scal λW=>dY⟩
 .cases e⟩
def dM:D->D->Option D
 |.int a,.int b=>some (.int (a+b))
 |.str a,.str b=>if a.length+b.length<=Yc then some (.str (a++b))else none
 |.lst m a,.lst n b=>if m≠.scr/\n≠.scr/\a.length+b.length<=1000000 then some (.lst .own (a++b))else none
 |.tup a,.tup b=>if a.length+b.length<=1000000 then some (.tup (a++b))else none
 |_,_=>none
theorem yc{dx O:List D}{ys:List V}{Lx J F My:List Addr}(B:aM G H W dx xs F)(hy:aM G H W O ys My)(Z:ZP F Lx)(sy:ZP My J)(I:∀a∈Lx++J,W.tmp a)(s:Same H H')(q:List Addr)(Y:∀a∈q,H a=none):aM G H' ((W.drop (Lx++J)).add (q++(F++My))) (dx++O) (xs++ys) (F++My):=by
 refine(B.append hy).up ⟨s,λb u U f=>⟨λz=>z.elim (λz=>?_) λz=>f.1 z.1,f.2⟩,λ_ _ _ f=>f⟩;rcases List.mem_append.mp z with z|z
 .rw[Y b z]at U;cases U
 .rcases List.mem_append.mp z with z|z
  .exact f.1 (I b (Ye _ (Z.subset z))).1
  .exact f.1 (I b (X7 _ (sy.subset z))).1
def V2(K:Yb):R2:=λx y H Q=>((rI0 (λi j=>.int (i+j)) x y H Q∨(∃i j,x= .str i/\y= .str j/\i.length+j.length<=Yc/\Q (.str (i++j)) H))∨Vv x y H Q)∨Lf K x y H Q
theorem Pz:OpV G (V2 G.K) dM:=λdx dy d e x y H W Lx Ly rx U nd I w Q q=>by
 unfold dM at e;split at e
 .cases e
  obtain⟨rfl,rfl⟩:=bw rx;obtain⟨rfl,rfl⟩:=bw U;exact .inl (.inl (.inl ⟨_,_,rfl,rfl,q.scal λ_=>dY⟩))
 .split at e
  .cases e
   obtain⟨rfl,rfl⟩:=c7 rx;obtain⟨rfl,rfl⟩:=c7 U;exact .inl (.inl (.inr ⟨_,_,rfl,rfl,‹_›,q.scal λ_=>uQ⟩))
  .cases e
 .rename_i m a n b
  split at e
  .rename_i F
   cases e;rw[Rep]at rx U;obtain⟨p,xs,Mx,rfl,B,sx⟩:=rx;obtain⟨p',ys,Y,rfl,hy,sy⟩:=U;refine .inl (.inr ⟨p,p',xs,ys,rfl,rfl,sx.at F.1,sy.at F.2.1,by rw[←B.length,←hy.length];exact aa2 (six F.2.2),λr Z=>?_⟩);have sm:Same H (upd H r (.lst (xs++ys))):=Same.new Z;have nr:r∉Mx++Y:=λz=>by
    obtain⟨o,J,_⟩:=(B.append hy).dom r z;rw[Z]at J;cases J
   have a0:(Mx++Y).Nodup:=(sx.sub.append sy.sub).nodup nd;refine q (.ref r) _ (r::(Mx++Y)) sm ?_ (λc F=>?_) (Yy.mpr ⟨nr,a0⟩)
   .rw[Rep]
    exact⟨r,xs++ys,Mx++Y,rfl,yc B hy sx.sub sy.sub I sm [r] (by simpa using Z),aW,rfl⟩
   .rcases Yj.mp F with z|z
    .exact .inr (by rw[z];exact Z)
    .exact .inl ((sx.sub.append sy.sub).subset z)
  .cases e
 .rename_i a b
  split at e
  .rename_i F
   cases e;rw[Rep]at rx U;obtain⟨p,xs,rfl,O,B⟩:=rx;obtain⟨p',ys,rfl,V,hy⟩:=U;have base:∀H' p2,Same H H'->H' p2=some (.tup (xs++ys))->Q (.ref p2) H':=λH' p2 sm D=>by
    refine q (.ref p2) H' (Lx++Ly) sm ?_ (λc F=>.inl F) nd;rw[Rep];exact⟨p2,xs++ys,rfl,D,yc B hy (aaA _) (aaA _) I sm [] (by simp)⟩
   refine .inr ⟨p,p',xs,ys,rfl,rfl,SqT.of O,SqT.of V,by rw[←B.length,←hy.length];exact aa2 (six F),λz=>base H p' (Same.refl H) (by rw[z];exact V),λ_ z=>base H p (Same.refl H) (by rw[z,Yz];exact O),λ_ _ r Z=>base _ r (Same.new Z) aW⟩
  .cases e
 .cases e
theorem dX(q:∀c,(X c).K=G.K:=by intro _;rfl):OpB X G (ZK .Add) dM:=⟨_,λc=>by rw[←q c];exact OpR.or (OpR.or (OpR.or R6 Eu) TY) LQ,Pz⟩
def gLt:D->D->Option D
 |.int a,.int b=>some (.bl (decide (a<b)))
 |.str a,.str b=>some (.bl (decide (a.cps.toList<b.cps.toList)))
 |_,_=>none
def gLe:D->D->Option D
 |.int a,.int b=>some (.bl (decide (a<=b)))
 |_,_=>none
def gGt:D->D->Option D
 |.int a,.int b=>some (.bl (decide (b<a)))
 |_,_=>none
def gGe:D->D->Option D
 |.int a,.int b=>some (.bl (decide (b<=a)))
 |_,_=>none
theorem xX:OpB X G (YG .Lt) gLt:=⟨_,λc=>OpR.or Wd Ii,λdx O d e x y H W B J rx U nd I w Q q=>by
 unfold gLt at e;split at e
 .cases e
  obtain⟨rfl,rfl⟩:=bw rx;obtain⟨rfl,rfl⟩:=bw U;exact .inl ⟨_,_,rfl,rfl,q.scal λ_=>fH⟩
 .cases e
  obtain⟨rfl,rfl⟩:=c7 rx;obtain⟨rfl,rfl⟩:=c7 U;exact .inr ⟨_,_,rfl,rfl,q.scal λ_=>fH⟩
 .cases e⟩
theorem KZ:OpB X G (YG .LtE) gLe:=⟨_,λc=>Vx,yM λdx O d e=>by
 unfold gLe at e;split at e
 .cases e;exact⟨_,_,rfl,rfl,λ_ _=>fH⟩
 .cases e⟩
theorem KY:OpB X G (YG .Gt) gGt:=⟨_,λc=>W8,yM λdx O d e=>by
 unfold gGt at e;split at e
 .cases e;exact⟨_,_,rfl,rfl,λ_ _=>fH⟩
 .cases e⟩
theorem Rb:OpB X G (YG .GtE) gGe:=⟨_,λc=>WX,yM λdx O d e=>by
 unfold gGe at e;split at e
 .cases e;exact⟨_,_,rfl,rfl,λ_ _=>fH⟩
 .cases e⟩
def ur:D->Bool
 |.non=>true
 |_=>false
def gIs:D->D->Option D
 |x,.non=>some (.bl (ur x))
 |_,_=>none
theorem HD(r:Rep G H W d v L):decide (v= .non)=ur d:=by
 cases d<;>rw[Rep]at r
 case non=>obtain⟨rfl,_⟩:=r;rfl
 case bl=>obtain⟨rfl,_⟩:=r;rfl
 case int=>obtain⟨rfl,_⟩:=r;rfl
 case str=>obtain⟨rfl,_⟩:=r;rfl
 case ty=>obtain⟨rfl,_⟩:=r;rfl
 case tup=>obtain⟨a,xs,rfl,_⟩:=r;rfl
 case lst=>obtain⟨a,xs,M,rfl,_⟩:=r;rfl
 case dct=>obtain⟨a,xs,M,rfl,_⟩:=r;rfl
 case ins=>obtain⟨a,C,dx,xs,M,rfl,_⟩:=r;rfl
theorem Wm:OpB X G (YG .Is) gIs:=⟨_,λc=>T8,λdx O d e x y H W B J rx U nd I w Q q=>by
 unfold gIs at e;split at e
 .cases e
  rw[Rep]at U;exact⟨U.1,by rw[HD rx];exact q.scal λ_=>fH⟩
 .cases e⟩
mutual
noncomputable def dt:D->Dt
 |.non=>.non
 |.bl b=>.bl b
 |.int i=>.int i
 |.str x=>.str x
 |.tup ds=>.tup (dtL ds)
 |.lst _ ds=>.lst (dtL ds)
 |_=>.non
noncomputable def dtL:List D->List Dt
 |[]=>[]
 |d::r=>dt d::dtL r
end
mutual
noncomputable def iM:D->Bool
 |.ty _=>false
 |.dct _ _ _=>false
 |.ins _ _ _ _=>false
 |.tup ds=>iJ ds
 |.lst _ ds=>iJ ds
 |_=>true
noncomputable def iJ:List D->Bool
 |[]=>true
 |d::r=>iM d&&iJ r
end
mutual
theorem Rep.brs{H:Hp}{W:Wn}:∀{d:D}{v:V}{L:List Addr},Rep G H W d v L->iM d=true->Brs G.K H (dt d) v
 |.non,v,L,r,_=>by rw[Rep]at r;simp[dt,Brs,r]
 |.bl _,v,L,r,_=>by rw[Rep]at r;simp[dt,Brs,r]
 |.int _,v,L,r,_=>by rw[Rep]at r;simp[dt,Brs,r]
 |.str _,v,L,r,_=>by rw[Rep]at r;simp[dt,Brs,r]
 |.ty _,v,L,r,h=>by cases h
 |.dct _ _ _,v,L,r,h=>by cases h
 |.ins _ _ _ _,v,L,r,h=>by cases h
 |.tup ds,v,L,r,h=>by
  rw[Rep]at r;obtain⟨a,xs,rfl,U,Z⟩:=r;rw[dt,Brs];exact⟨a,xs,rfl,SqT.of U,aM.brs Z h⟩
 |.lst m ds,v,L,r,h=>by
  rw[Rep]at r;obtain⟨a,xs,M,rfl,Z,O⟩:=r;rw[dt,Brs];exact⟨a,xs,rfl,O.sq,aM.brs Z h⟩
theorem aM.brs{H:Hp}{W:Wn}:∀{ds:List D}{B:List V}{L:List Addr},aM G H W ds B L->iJ ds=true->je G.K H (dtL ds) B
 |[],B,L,r,_=>by obtain⟨rfl,_⟩:=r.inv0;simp[dtL,je]
 |d::r,B,L,hr,h=>by
  obtain⟨x,ys,M,M',rfl,rfl,h1,h2⟩:=hr.inv;rw[iJ,Yp]at h;rw[dtL,je];exact⟨x,ys,rfl,Rep.brs h1 h.1,aM.brs h2 h.2⟩
end
open Classical in
def gEq:D->D->Option D:=λx y=>if iM x=true/\iM y=true/\Alk (dt x) (dt y)then some (.bl (eqD (dt x) (dt y)))else none
open Classical in
def gNe:D->D->Option D:=λx y=>if iM x=true/\iM y=true/\Alk (dt x) (dt y)then some (.bl (!eqD (dt x) (dt y)))else none
theorem cb_eq(A:Y0)(D:∀c,(X c).A=A)(F:A.units+64<cLine)(z:∀c,(X c).K=G.K:=by intro _;rfl):OpB X G (YG .Eq) gEq:=⟨VJ G.K A,λc=>by rw[←z c,←D c];exact TV,λdx O d e x y H W B J rx U nd I w Q q=>by
 unfold gEq at e;split at e
 .rename_i hc
  cases e;exact⟨_,_,hc.2.2,rx.brs hc.1,U.brs hc.2.1,by omega,q.scal λ_=>fH⟩
 .cases e⟩
theorem jR(A:Y0)(D:∀c,(X c).A=A)(F:A.units+64<cLine)(z:∀c,(X c).K=G.K:=by intro _;rfl):OpB X G (YG .NotEq) gNe:=⟨Vk G.K A,λc=>by rw[←z c,←D c];exact Tf,λdx O d e x y H W B J rx U nd I w Q q=>by
 unfold gNe at e;split at e
 .rename_i hc
  cases e;exact⟨_,_,hc.2.2,rx.brs hc.1,U.brs hc.2.1,by omega,q.scal λ_=>fH⟩
 .cases e⟩
def gIx:D->D->Option D
 |.lst _ ds,.int i=>atI ds i
 |.tup ds,.int i=>atI ds i
 |.str z,.int i=>if z.length<=Yc then(atI z.cps.toList i).map λc=>.str ⟨#[c]⟩else none
 |.dct _ ks ds,k=>(dG k).bind λk=>(dU ks k).bind λj=>ds[j]?
 |_,_=>none
theorem K1(Z:aM G H W ds xs L)(e:atI ds i=some d):∃j:Nat,ds[j]? =some d/\∀x,xs[j]? =some x->atI xs i=some x:=by
 unfold atI at e⊢;rw[←Z.length];cases h:ixN ds.length i with
 |none=>simp[h]at e
 |some j=>
  refine⟨j,by simpa[h]using e,λx B=>by simpa using B⟩
variable{x:V}
theorem sH{B J:List Addr}(r:Rep G H W d x M)(s:ZP M B)(nd:(B++J).Nodup)(I:∀a∈B++J,W.tmp a)(q:Done G H W (B++J) d Q):Q x H:=by
 refine q x H M (Same.refl H) (r.up ⟨Same.refl H,λb u U f=>⟨λz=>z.elim (λz=>f.1 (I b (Ye _ (s.subset z))).1) λz=>f.1 z.1,f.2⟩,λ_ _ _ f=>f⟩) (λa Y=>.inl (Ye _ (s.subset Y))) (s.nodup (Yr.mp nd).1)
theorem Vc:OpV G (λx y H Q=>rIx G.K x y H Q∨Ov x y H Q) gIx:=λdx dy d e x y H W B Ly rx U nd I w Q q=>by
 unfold gIx at e;split at e
 .rename_i m ds i
  obtain⟨rfl,rfl⟩:=bw U;rw[Rep]at rx;obtain⟨a,xs,M,rfl,Z,O⟩:=rx;obtain⟨j,h1,h2⟩:=K1 Z e;obtain⟨z,Mz,V,F,Y⟩:=Z.get h1;exact .inl (.inl ⟨a,xs,i,z,rfl,rfl,O.sq,h2 z V,sH F (Y.trans O.sub) nd I q⟩)
 .rename_i ds i
  obtain⟨rfl,rfl⟩:=bw U;rw[Rep]at rx;obtain⟨a,xs,rfl,ht,Z⟩:=rx;obtain⟨j,h1,h2⟩:=K1 Z e;obtain⟨z,Mz,V,F,Y⟩:=Z.get h1;exact .inl (.inr (.inl ⟨a,xs,i,z,rfl,rfl,SqT.of ht,h2 z V,sH F Y nd I q⟩))
 .rename_i z i
  obtain⟨rfl,rfl⟩:=bw U;obtain⟨rfl,rfl⟩:=c7 rx;split at e
  .rename_i hl
   cases h1:atI z.cps.toList i with
   |none=>simp[h1]at e
   |some c=>
    obtain rfl:D.str ⟨#[c]⟩=d:=by simpa[h1]using e
    exact .inl (.inr (.inr ⟨z,i,c,rfl,rfl,hl,h1,q.scal λ_=>uQ⟩))
  .cases e
 .rename_i m ks ds
  cases J:dG dy with
  |none=>simp[J]at e
  |some k=>
   cases hj:dU ks k with
   |none=>simp[J,hj]at e
   |some j=>
    have e':ds[j]? =some d:=by simpa[J,hj]using e
    rw[Rep]at rx;obtain⟨a,kvs,M,rfl,⟨rfl,a0⟩,Z,O⟩:=rx;obtain⟨z,Mz,V,F,Y⟩:=Z.get e';have hv:=ik hj;rw[V]at hv;refine .inr ⟨a,z,rfl,.inl ⟨kvs,k,O.rdD,iY U J,hv.symm⟩,sH F (Y.trans O.sub) nd I q⟩
 .cases e
theorem ixb(F:∀c,(X c).A.units+1<cLine)(q:∀c,(X c).K=G.K:=by intro _;rfl):IxB X G gIx:=⟨_,λc=>by rw[←q c];exact KN (F c),Vc⟩
def scV:D->Option V
 |.non=>some .non
 |.bl b=>some (.bl b)
 |.int i=>some (.int i)
 |.str x=>some (.str x)
 |_=>none
def wW:List D->Option (List V)
 |[]=>some []
 |d::r=>(scV d).bind λv=>(wW r).map λt=>v::t
theorem zY{u:V}(r:Rep G H W d v L)(h:scV d=some u):v=u/\mU u=true:=by
 cases d<;>simp[scV]at h<;>subst h<;>rw[Rep]at r<;>exact⟨r.1,rfl⟩
theorem vB:∀{ds:List D}{B us:List V}{L:List Addr},aM G H W ds B L->wW ds=some us->B=us/\us.all mU=true
 |[],B,us,L,r,h=>by
  cases h;exact⟨r.inv0.1,rfl⟩
 |d::t,B,us,L,r,h=>by
  obtain⟨x,ys,M,M',rfl,rfl,h1,h2⟩:=r.inv;rw[wW]at h;cases e1:scV d with
  |none=>simp[e1]at h
  |some v=>
   cases e2:wW t with
   |none=>simp[e1,e2]at h
   |some w=>
    obtain rfl:v::w=us:=by simpa[e1,e2]using h
    obtain⟨rfl,I⟩:=zY h1 e1;obtain⟨rfl,J⟩:=vB h2 e2;exact⟨rfl,by simp[I,J]⟩
def xN(x y:Str):Bool:=!(Zd y x 0 y.length 1).isEmpty
def qN:D->D->Option Bool
 |x,.lst _ ds=>(scV x).bind λv=>(wW ds).map λB=>inV v B
 |x,.tup ds=>(scV x).bind λv=>(wW ds).map λB=>inV v B
 |.str x,.str y=>some (xN x y)
 |x,.dct _ ks _=>(dG x).map λk=>(dU ks k).isSome
 |_,_=>none
def gIn(x y:D):Option D:=(qN x y).map .bl
def e_(x y:D):Option D:=(qN x y).map λb=>.bl !b
theorem Fe(F:Y.A.units+1<cLine):OpR Y (YG .In) (λx y H Q=>∃a o,y= .ref a/\oE H a x o/\Q (.bl o.isSome) H):=λpins s σ H x y v u Q I rx U h=>by
 obtain⟨a,o,rfl,g,q⟩:=h;cases U;exact Xm F I g rx λz B=>⟨.bl o.isSome,H,B,rfl,q⟩
theorem wC(F:Y.A.units+1<cLine):OpR Y (YG .NotIn) (λx y H Q=>∃a o,y= .ref a/\oE H a x o/\Q (.bl (!o.isSome)) H):=λpins s σ H x y v u Q I rx U h=>by
 obtain⟨a,o,rfl,g,q⟩:=h;cases U;exact Qv F I g rx λz B=>⟨.bl (!o.isSome),H,B,rfl,q⟩
theorem Nx{dx z:D}{y:V}{F Y:List Addr}(e:qN dx z=some b)(rx:Rep G H W dx x F)(U:Rep G H W z y Y) :
  (∃p xs,y= .ref p/\(SqL G.K H p xs∨SqT G.K H p xs)/\mU x=true/\xs.all mU=true/\b=inV x xs)∨(∃i j,x= .str i/\y= .str j/\b=xN i j)∨(∃a o,y= .ref a/\oE H a x o/\b=o.isSome):=by
 unfold qN at e;split at e
 .rename_i m ds
  cases e1:scV dx with
  |none=>simp[e1]at e
  |some v=>
   cases e2:wW ds with
   |none=>simp[e1,e2]at e
   |some B=>
    obtain rfl:inV v B=b:=by simpa[e1,e2]using e
    rw[Rep]at U;obtain⟨a,xs,M,rfl,Z,O⟩:=U;obtain⟨rfl,I⟩:=zY rx e1;obtain⟨rfl,J⟩:=vB Z e2;exact .inl ⟨a,_,rfl,.inl O.sq,I,J,rfl⟩
 .rename_i ds
  cases e1:scV dx with
  |none=>simp[e1]at e
  |some v=>
   cases e2:wW ds with
   |none=>simp[e1,e2]at e
   |some B=>
    obtain rfl:inV v B=b:=by simpa[e1,e2]using e
    rw[Rep]at U;obtain⟨a,xs,rfl,ht,Z⟩:=U;obtain⟨rfl,I⟩:=zY rx e1;obtain⟨rfl,J⟩:=vB Z e2;exact .inl ⟨a,_,rfl,.inr (SqT.of ht),I,J,rfl⟩
 .cases e
  obtain⟨rfl,_⟩:=c7 rx;obtain⟨rfl,_⟩:=c7 U;exact .inr (.inl ⟨_,_,rfl,rfl,rfl⟩)
 .rename_i m ks ds
  cases e1:dG dx with
  |none=>simp[e1]at e
  |some k=>
   have e':(dU ks k).isSome=b:=by simpa[e1]using e
   rw[Rep]at U;obtain⟨a,kvs,M,rfl,⟨rfl,a0⟩,Z,O⟩:=U;refine .inr (.inr ⟨a,jr kvs k,rfl,.inl ⟨kvs,k,O.rdD,iY rx e1,rfl⟩,?_⟩);rw[←e'];cases q:dU (kvs.map (·.1)) k with
   |none=>rw[jX q];rfl
   |some j=>
    rw[ik q,X5 (by simpa using yt q)];rfl
 .cases e
def XQ(K:Yb):R2:=λx y H Q=>(rIn K false x y H Q∨(∃i j,x= .str i/\y= .str j/\Q (.bl (!(Zd j i 0 j.length 1).isEmpty)) H))∨∃a o,y= .ref a/\oE H a x o/\Q (.bl o.isSome) H
def QQ(K:Yb):R2:=λx y H Q=>(rIn K true x y H Q∨(∃i j,x= .str i/\y= .str j/\Q (.bl (!(!(Zd j i 0 j.length 1).isEmpty))) H))∨∃a o,y= .ref a/\oE H a x o/\Q (.bl (!o.isSome)) H
theorem lG(F:∀c,(X c).A.units+1<cLine)(Z:∀c,(X c).K=G.K:=by intro _;rfl):OpB X G (YG .In) gIn:=⟨XQ G.K,λc=>by rw[←Z c];exact OpR.or (OpR.or Jw Jc) (Fe (F c)),λdx O d e x y H W B J rx U nd I w Q q=>by
 unfold gIn at e;cases h1:qN dx O with
 |none=>simp[h1]at e
 |some b=>
  obtain rfl:D.bl b=d:=by simpa[h1]using e
  have z:Q (.bl b) H:=q.scal λ_=>fH;rcases Nx h1 rx U with⟨p,xs,rfl,h2,V,Y,rfl⟩|⟨i,j,rfl,rfl,rfl⟩|⟨a,o,rfl,h2,rfl⟩
  .exact .inl (.inl ⟨p,xs,rfl,h2,V,Y,z⟩)
  .exact .inl (.inr ⟨i,j,rfl,rfl,z⟩)
  .exact .inr ⟨a,o,rfl,h2,z⟩⟩
theorem oK(F:∀c,(X c).A.units+1<cLine)(Z:∀c,(X c).K=G.K:=by intro _;rfl):OpB X G (YG .NotIn) e_:=⟨QQ G.K,λc=>by rw[←Z c];exact OpR.or (OpR.or zx zA) (wC (F c)),λdx O d e x y H W B J rx U nd I w Q q=>by
 unfold e_ at e;cases h1:qN dx O with
 |none=>simp[h1]at e
 |some b=>
  obtain rfl:D.bl (!b)=d:=by simpa[h1]using e
  have z:Q (.bl (!b)) H:=q.scal λ_=>fH;rcases Nx h1 rx U with⟨p,xs,rfl,h2,V,Y,rfl⟩|⟨i,j,rfl,rfl,rfl⟩|⟨a,o,rfl,h2,rfl⟩
  .exact .inl (.inl ⟨p,xs,rfl,h2,V,Y,z⟩)
  .exact .inl (.inr ⟨i,j,rfl,rfl,z⟩)
  .exact .inr ⟨a,o,rfl,h2,z⟩⟩
theorem aM.inv1(r:aM G H W [d] xs L):∃x,xs=[x]/\Rep G H W d x L:=by
 obtain⟨x,ys,M,M',rfl,rfl,h1,h2⟩:=r.inv;obtain⟨rfl,rfl⟩:=h2.inv0;exact⟨x,rfl,by rw[Yz];exact h1⟩
theorem aM.inv2{e:D}(r:aM G H W [d,e] xs L):∃x y M N,xs=[x,y]/\L=M++N/\Rep G H W d x M/\Rep G H W e y N:=by
 obtain⟨x,ys,M,M',rfl,rfl,h1,h2⟩:=r.inv;obtain⟨y,rfl,q⟩:=h2.inv1;exact⟨x,y,M,M',rfl,rfl,h1,q⟩
def cL:List D->Option D
 |[.lst _ ds]=>some (.int ds.length)
 |[.tup ds]=>some (.int ds.length)
 |[.str z]=>if z.length<=Yc then some (.int z.length)else none
 |[.dct m _ ds]=>if m= .scr then none else some (.int ds.length)
 |_=>none
theorem b_(B:∀c,(X c).K=G.K:=by intro _;rfl):CaB X G (.builtin "len") cL:=⟨λxs H Q=>((∃p ys,xs=[.ref p]/\(SqL G.K H p ys∨SqT G.K H p ys)/\Q (.int ys.length) H)∨∃z,xs=[.str z]/\z.length<=Yc/\Q (.int z.length) H)∨∃a kvs,xs=[V.ref a]/\H a=some (.dK kvs)/\Q (.int kvs.length) H,λc=>by rw[←B c];exact gQ.or (gQ.or Aq yN) Iu,λds d e xs H W F r nd I w Q q=>by
 unfold cL at e;split at e
 .cases e
  obtain⟨x,rfl,rx⟩:=r.inv1;rw[Rep]at rx;obtain⟨a,ys,M,rfl,Z,O⟩:=rx;exact .inl (.inl ⟨a,ys,rfl,.inl O.sq,by rw[←Z.length];exact q.scal λ_=>dY⟩)
 .cases e
  obtain⟨x,rfl,rx⟩:=r.inv1;rw[Rep]at rx;obtain⟨a,ys,rfl,U,Z⟩:=rx;exact .inl (.inl ⟨a,ys,rfl,.inr (SqT.of U),by rw[←Z.length];exact q.scal λ_=>dY⟩)
 .split at e
  .cases e
   obtain⟨x,rfl,rx⟩:=r.inv1;obtain⟨rfl,rfl⟩:=c7 rx;exact .inl (.inr ⟨_,rfl,‹_›,q.scal λ_=>dY⟩)
  .cases e
 .split at e
  .cases e
  .cases e
   obtain⟨x,rfl,rx⟩:=r.inv1;rw[Rep]at rx;obtain⟨a,kvs,M,rfl,J,Z,O⟩:=rx;exact .inr ⟨a,kvs,rfl,O.at ‹_›,by have:=Z.length;simp at this;rw[←this];exact q.scal λ_=>dY⟩
 .cases e⟩
def Om:List D->Option D
 |[.int i]=>some (.int (if i<0 then -i else i))
 |_=>none
def Bx:List D->Option D
 |[.int i]=>some (.int i)
 |[.bl k]=>some (.int (if k then 1 else 0))
 |_=>none
theorem Pa:CaB X G (.type "int") Bx:=⟨_,λc=>IW,λds d e xs H W F r nd I w Q q=>by
 unfold Bx at e;split at e
 .cases e
  obtain⟨x,rfl,rx⟩:=r.inv1;obtain⟨rfl,rfl⟩:=bw rx;exact .inl ⟨_,rfl,q.scal λ_=>dY⟩
 .cases e
  obtain⟨x,rfl,rx⟩:=r.inv1;obtain⟨rfl,rfl⟩:=mH rx;exact .inr ⟨_,rfl,q.scal λ_=>dY⟩
 .cases e⟩
def Ga:List D->Option D
 |[.int i,.int j]=>some (.int (if j<i then j else i))
 |_=>none
def Br:List D->Option D
 |[.int i,.int j]=>some (.int (if j>i then j else i))
 |_=>none
theorem Ls(F:∀c,(X c).calm=true):CaB X G (.builtin "max") Br:=⟨_,λc=>HF (F c),λds d e xs H W z r nd I w Q q=>by
 unfold Br at e;split at e
 .cases e
  obtain⟨x,y,M,N,rfl,rfl,rx,U⟩:=r.inv2;obtain⟨rfl,rfl⟩:=bw rx;obtain⟨rfl,rfl⟩:=bw U;exact⟨_,_,rfl,q.scal λ_=>dY⟩
 .cases e⟩
def uW:List D->Option D
 |[.int i,.int j]=>if 0<j/\j<1073741824 then some (.tup [.int (i / j),.int (i % j)])else none
 |_=>none
theorem Fy:CaB X G (.builtin "divmod") uW:=⟨_,λc=>Cd,λds d e xs H W F r nd I w Q q=>by
 unfold uW at e;split at e
 .split at e
  .cases e
   obtain⟨x,y,M,N,rfl,rfl,rx,U⟩:=r.inv2;obtain⟨rfl,rfl⟩:=bw rx;obtain⟨rfl,rfl⟩:=bw U;refine⟨_,_,rfl,‹_›,λp O=>q (.ref p) _ [] (Same.new O) ?_ (by simp) List.nodup_nil⟩;rw[Rep];exact⟨p,_,rfl,aW,.cons (M:=[]) (M':=[]) dY (.one dY)⟩
  .cases e
 .cases e⟩
variable{p:Addr}
theorem sO{F:List Addr}(Z:aM G H W ds xs M)(s:ZP M F)(nd:F.Nodup)(I:∀a∈F,W.tmp a)(O:H p=none)(q:Done G H W F (.lst .own ds) Q):Q (.ref p) (upd H p (.lst xs)):=by
 have B:Same H (upd H p (.lst xs)):=Same.new O;have np:p∉M:=λz=>by obtain⟨o,J,_⟩:=Z.dom p z;rw[O]at J;cases J
 refine q (.ref p) _ (p::M) B ?_ (λa Y=>(Yj.mp Y).elim (λz=>.inr (by rw[z];exact O)) λz=>.inl (s.subset z)) (Yy.mpr ⟨np,s.nodup nd⟩);rw[Rep];exact⟨p,xs,M,rfl,Z.up ⟨B,λb u U f=>⟨λz=>z.elim (λz=>(Yj.mp z).elim (λz=>by rw[z,O]at U;cases U) λz=>f.1 (I b (s.subset z)).1) λz=>f.1 z.1,f.2⟩,λ_ _ _ f=>f⟩,aW,rfl⟩
theorem wX{F:List Addr}(Z:aM G H W ds xs M)(s:ZP M F)(nd:F.Nodup)(I:∀a∈F,W.tmp a)(O:H p=none)(q:Done G H W F (.tup ds) Q):Q (.ref p) (upd H p (.tup xs)):=by
 have B:Same H (upd H p (.tup xs)):=Same.new O;refine q (.ref p) _ M B ?_ (λa Y=>.inl (s.subset Y)) (s.nodup nd);rw[Rep];exact⟨p,xs,rfl,aW,Z.up ⟨B,λb u U f=>⟨λz=>z.elim (λz=>f.1 (I b (s.subset z)).1) λz=>f.1 z.1,f.2⟩,λ_ _ _ f=>f⟩⟩
theorem g8{F:List Addr}(Z:Rep G H W d x M)(s:ZP M F)(nd:F.Nodup)(I:∀a∈F,W.tmp a)(q:Done G H W F d Q):Q x H:=by
 refine q x H M (Same.refl H) (Z.up ⟨Same.refl H,λb u U f=>⟨λz=>z.elim (λz=>f.1 (I b (s.subset z)).1) λz=>f.1 z.1,f.2⟩,λ_ _ _ f=>f⟩) (λa Y=>.inl (s.subset Y)) (s.nodup nd)
def xf:List D->Option D
 |[.lst _ ds]=>some (.lst .own ds)
 |[.tup ds]=>some (.lst .own ds)
 |_=>none
def jb:List D->Option D
 |[.lst _ ds]=>some (.tup ds)
 |[.tup ds]=>some (.tup ds)
 |_=>none
theorem Bt(B:∀c,(X c).K=G.K:=by intro _;rfl):CaB X G (.type "list") xf:=⟨λxs H Q=>∃p ys,xs=[.ref p]/\(SqL G.K H p ys∨SqT G.K H p ys)/\∀l,H l=none->Q (.ref l) (upd H l (.lst ys)),λc=>by rw[←B c];exact Ab,λds d e xs H W F r nd I w Q q=>by
 unfold xf at e;split at e
 .cases e
  obtain⟨x,rfl,rx⟩:=r.inv1;rw[Rep]at rx;obtain⟨a,ys,M,rfl,Z,O⟩:=rx;exact⟨a,ys,rfl,.inl O.sq,λp z=>sO Z O.sub nd I z q⟩
 .cases e
  obtain⟨x,rfl,rx⟩:=r.inv1;rw[Rep]at rx;obtain⟨a,ys,rfl,U,Z⟩:=rx;exact⟨a,ys,rfl,.inr (SqT.of U),λp z=>sO Z (aaA _) nd I z q⟩
 .cases e⟩
theorem oR(B:∀c,(X c).K=G.K:=by intro _;rfl):CaB X G (.type "tuple") jb:=⟨λxs H Q=>∃p ys,xs=[.ref p]/\((SqL G.K H p ys/\∀l,H l=none->Q (.ref l) (upd H l (.tup ys)))∨(SqT G.K H p ys/\Q (.ref p) H)),λc=>by rw[←B c];exact wD,λds d e xs H W F r nd I w Q q=>by
 unfold jb at e;split at e
 .cases e
  obtain⟨x,rfl,rx⟩:=r.inv1;rw[Rep]at rx;obtain⟨a,ys,M,rfl,Z,O⟩:=rx;exact⟨a,ys,rfl,.inl ⟨O.sq,λp z=>wX Z O.sub nd I z q⟩⟩
 .cases e
  obtain⟨x,rfl,rx⟩:=r.inv1;have V:=rx;rw[Rep]at rx;obtain⟨a,ys,rfl,U,Z⟩:=rx;exact⟨a,ys,rfl,.inr ⟨SqT.of U,g8 V (aaA _) nd I q⟩⟩
 .cases e⟩
def tyN:D->Option String
 |.non=>some "NoneType"
 |.bl _=>some "bool"
 |.int _=>some "int"
 |.str _=>some "str"
 |.tup _=>some "tuple"
 |.lst m _=>if m= .scr then none else some "list"
 |.dct m _ _=>if m= .scr then none else some "dict"
 |_=>none
def okT(n:String):Bool:=n=="int"||n=="bool"||n=="str"||n=="list"||n=="tuple"
def isT(t n:String):Bool:=t==n||(t=="bool"&&n=="int")
variable{t:String}
theorem Hx{K:Yb}{n:String}(h1:tyN d=some t)(h2:okT n=true):aca K (.type t) (.type n)=some (isT t n):=by
 have U:t="NoneType"∨t="bool"∨t="int"∨t="str"∨t="tuple"∨t="list"∨t="dict":=by
  cases d<;>simp[tyN]at h1<;>(try split at h1)<;>simp_all
 have I:n="int"∨n="bool"∨n="str"∨n="list"∨n="tuple":=by simpa[okT,or_assoc]using h2
 rcases U with rfl|rfl|rfl|rfl|rfl|rfl|rfl<;>rcases I with rfl|rfl|rfl|rfl|rfl<;>with_unfolding_all rfl
theorem Bc(r:Rep G H W d v L)(h:tyN d=some t):m5 G.K H v (.type t):=by
 cases d with
 |non=>rw[Rep]at r;obtain⟨rfl,_⟩:=r;cases h;exact .non
 |bl b=>rw[Rep]at r;obtain⟨rfl,_⟩:=r;cases h;exact .bl _
 |int b=>rw[Rep]at r;obtain⟨rfl,_⟩:=r;cases h;exact .int _
 |str b=>rw[Rep]at r;obtain⟨rfl,_⟩:=r;cases h;exact .str _
 |ty n=>cases h
 |tup ds=>rw[Rep]at r;obtain⟨a,xs,rfl,U,Z⟩:=r;cases h;exact .tup U
 |lst m ds=>
  rw[Rep]at r;obtain⟨a,xs,M,rfl,Z,O⟩:=r;simp![tyN]at h;split at h
  .cases h
  .cases h;exact .lst (O.at ‹_›)
 |dct m ks ds=>
  rw[Rep]at r;obtain⟨a,xs,M,rfl,J,Z,O⟩:=r;simp![tyN]at h;split at h
  .cases h
  .cases h;exact .dK (O.at ‹_›)
 |ins m c fs ds=>cases h
def Bh:List D->Option (List String)
 |[]=>some []
 |.ty n::r=>(Bh r).map λt=>n::t
 |_::_=>none
theorem ye:∀{ds:List D}{B:List V}{L:List Addr}{ns:List String},aM G H W ds B L->Bh ds=some ns->B=ns.map V.ty
 |[],B,L,ns,r,h=>by cases h;rw[r.inv0.1];rfl
 |d::t,B,L,ns,r,h=>by
  obtain⟨x,ys,M,M',rfl,rfl,h1,h2⟩:=r.inv;cases d<;>simp[Bh]at h;obtain⟨w,q,rfl⟩:=h;rw[Rep]at h1;rw[h1.1,ye h2 q];rfl
theorem vO{K:Yb}(h1:tyN d=some t):∀{ns:List String},ns.all okT=true->ace K (.type t) (ns.map aaB)=some (ns.any (isT t))
 |[],_=>rfl
 |n::r,h=>by
  rw[abk,Yp]at h;rw[X8,ace,Hx h1 h.1];cases e:isT t n with
  |true=>simp[e]
  |false=>simp![e];rw[vO h1 h.2];simp[e]
def cQ:List D->Option D
 |[x,.ty n]=>(tyN x).bind λt=>if okT n=true then some (.bl (isT t n))else none
 |[x,.tup ts]=>(tyN x).bind λt=>(Bh ts).bind λns=>if ns.all okT=true then some (.bl (ns.any (isT t)))else none
 |_=>none
theorem dw(J:∀c,(X c).K=G.K:=by intro _;rfl):CaB X G (.builtin "isinstance") cQ:=⟨λxs H Q=>(∃x n t b,xs=[x,.ty n]/\m5 G.K H x t/\aca G.K t (.type n)=some b/\Q (.bl b) H)∨∃x B z t b,xs=[x,.ref B]/\H B=some (.tup (List.map V.ty z))/\m5 G.K H x t/\ace G.K t (z.map aaB)=some b/\Q (.bl b) H,λc=>by rw[←J c];exact gQ.or CN Ac,λds d e xs H W F r nd I w Q q=>by
 unfold cQ at e;split at e
 .rename_i x n
  cases e1:tyN x with
  |none=>simp[e1]at e
  |some t=>
   rw[e1]at e;simp![gD]at e;split at e
   .cases e
    obtain⟨u,v,M,N,rfl,rfl,rx,U⟩:=r.inv2;rw[Rep]at U;obtain⟨rfl,_⟩:=U;exact .inl ⟨u,n,_,_,rfl,Bc rx e1,Hx e1 ‹_›,q.scal λ_=>fH⟩
   .cases e
 .rename_i x ts
  cases e1:tyN x with
  |none=>simp[e1]at e
  |some t=>
   cases e2:Bh ts with
   |none=>simp[e1,e2]at e
   |some ns=>
    rw[e1,e2]at e;simp![gD]at e;split at e
    .cases e
     obtain⟨u,v,M,N,rfl,rfl,rx,U⟩:=r.inv2;rw[Rep]at U;obtain⟨a,ys,rfl,D,Z⟩:=U;have:=ye Z e2;subst this;exact .inr ⟨u,a,ns,_,_,rfl,D,Bc rx e1,vO e1 ‹_›,q.scal λ_=>fH⟩
    .cases e
 .cases e⟩
def wN(n:Nat)(i:Int):Nat:=if i<0 then(i+(n:Int)).toNat else min i.toNat n
def Gm:V->List V->Hp->VK->Prop:=λx B H Q=>∃l xs i y,x= .ref l/\B=[.int i,y]/\H l=some (.lst xs)/\-(2 ^ 63)<=i/\i<2 ^ 63/\aad xs<Yc/\Q .non (upd H l (.lst (xs.take (wN xs.length i)++y::xs.drop (wN xs.length i))))
variable{X:Cx}
theorem Iv:MtM X "list.insert" Gm:=by
 intro pins s σ H x B v us Q I rx O h;obtain⟨l,xs,i,y,rfl,rfl,U,h1,h2,hz,q⟩:=h;cases rx;cases O with
 |cons J O=>
  obtain⟨u,rfl,D⟩:=vals1 O;obtain⟨t,rfl⟩:=J;obtain⟨z,its,n,r,Z,e⟩:=I.lstM U;refine acL F.slot_list_insert ⟨_,e,rfl⟩ F.entry_list_insert (F.args_list_insert_3 _ _ _) (AutoSeq1.list_insert_list_int_val_1 l its.toArray n i t u (by simp[fitsIndex_both h1 h2]) (by rw[List.size_toArray];omega)) ⟨e,?_⟩;refine⟨.non,_,I.lset (its':=its.take (wN its.length i)++u::its.drop (wN its.length i)) U e ?_ ?_ ?_,rfl,q⟩
  .show(its.toArray.extract 0 (wN its.length i)).push u++its.toArray.extract (wN its.length i)=_
   apply Array.ext';simp[List.extract_eq_take_drop];exact Zq (by simp)
  .rw[Z]
   exact(r.take _).append (.cons D (r.drop _))
  .simp![YW,YX,Yd,aaH]
   omega
theorem Bu{O:List V}{I:List D}{M0 N B R:List Addr}(Z:aM G H W I O B)(rr:Rep G H W res x R)(k1:aC I=true)(k2:aD I=true)(kr:clean res=true)
  (Y:a∉B++R) (nd:(B++R).Nodup) (sub:∀b∈B++R,b∈M0∨b∈N)
  (q:∀x H' M' R,(∀b u,H b=some u->b∉a::M0->H' b=some u)->(∀W',Evo H H' W W'->Rep G H' W' (.lst .own I) (.ref a) M'/\Rep G H' W' res x R)->(M'++R).Nodup->(∀b∈M'++R,b∈a::M0∨b∈N∨H b=none)->clean (.lst .own I)=true->clean res=true->Q x H'):Q x (upd H a (.lst O)):=by
 have a0:=(by simpa[clean]using kr:aA res=true/\az res=true);refine q x _ (a::B) R (λb u U n=>by rw[aR (show b≠a from λz=>n (by rw[z];simp))];exact U) (λW' J=>⟨?_,?_⟩) ?_ (λb U=>?_) (tQ k1 k2) kr
 .rw[Rep]
  exact⟨a,O,B,rfl,Ha Z k1 k2 (λz=>Y (Ye _ z)) J,aW,rfl⟩
 .exact rr.mono J (.inl a0.1) (.inl a0.2) λc F u hu=>by rw[aR (show c≠a from λz=>Y (X7 _ (z▸F)))];exact hu
 .rw[Yv]
  exact Yy.mpr ⟨Y,nd⟩
 .rw[Yv]at U
  rcases Yj.mp U with z|z
  .exact .inl (by simp[z])
  .exact(sub b z).imp (λz=>YJ _ z) .inl
theorem jk(h:aC ds=true):∀d∈ds,aA d=true:=λd hd=>let⟨i,hi⟩:=adP hd;jo h hi
theorem jq(h:aD ds=true):∀d∈ds,az d=true:=λd hd=>let⟨i,hi⟩:=adP hd;jn h hi
theorem fD:∀{ds:List D},(∀d∈ds,aA d=true)->aC ds=true
 |[],_=>rfl
 |d::r,h=>by rw[aC,h d (by simp),fD λe Y=>h e (by simp[Y])];rfl
theorem fj:∀{ds:List D},(∀d∈ds,az d=true)->aD ds=true
 |[],_=>rfl
 |d::r,h=>by rw[aD,h d (by simp),fj λe Y=>h e (by simp[Y])];rfl
theorem aM.revL:∀{ds:List D}{xs:List V}{L:List Addr},aM G H W ds xs L->∃M,aM G H W ds.reverse xs.reverse M/\ab1 M L
 |[],xs,L,r=>by obtain⟨rfl,rfl⟩:=r.inv0;exact⟨[],.nil,.refl _⟩
 |d::t,xs,L,r=>by
  obtain⟨x,ys,M,M',rfl,rfl,h1,h2⟩:=r.inv;obtain⟨N,q,pm⟩:=aM.revL h2;refine⟨N++M,?_,(pm.append_right M).trans aa9⟩;rw[abH,abH];exact q.append (.one h1)
def mj:D->List D->Option (D×D)
 |.lst .own ds,[.int i]=>if ds.length<1000000 then(ixN ds.length i).bind λk=>(ds[k]?).map λe=>(.lst .own (ds.eraseIdx k),e)else none
 |_,_=>none
theorem aM.erase(h:aM G H W ds xs L)(e:ds[j]? =some d):∃x M N,xs[j]? =some x/\Rep G H W d x M/\aM G H W (ds.eraseIdx j) (xs.eraseIdx j) N/\ab1 (N++M) L:=by
 obtain⟨A,B,x,ys,zs,z,M,I,rfl,q,rfl,Z,rfl,h1,h2,F⟩:=h.at e;refine⟨x,M,z++I,by rw[Za (by omega),Z,aag];rfl,h2,?_,?_⟩
 .have e1:(A++d::B).eraseIdx j=A++B:=by rw[abM (by omega),q,aag];rfl
  have e2:(ys++x::zs).eraseIdx j=ys++zs:=by rw[abM (by omega),Z,aag];rfl
  rw[e1,e2];exact h1.append F
 .rw[aah]
  exact adA z aa9
theorem yd(h:d∈ds.eraseIdx k):d∈ds:=(List.eraseIdx_sublist ds k).subset h
theorem J0{ys:List V}{e:D}{M0 N:List Addr}(Z:aM G H W ds ys M0)(nd:((a::M0)++N).Nodup)(F:clean (.lst .own ds)=true)(J:ds[k]? =some e)
  (q:∀x H' M' R,(∀b u,H b=some u->b∉a::M0->H' b=some u)->(∀W',Evo H H' W W'->Rep G H' W' (.lst .own (ds.eraseIdx k)) (.ref a) M'/\Rep G H' W' e x R)->(M'++R).Nodup->(∀b∈M'++R,b∈a::M0∨b∈N∨H b=none)->clean (.lst .own (ds.eraseIdx k))=true->clean e=true->Q x H'):∃y,ys[k]? =some y/\Q y (upd H a (.lst (ys.eraseIdx k))):=by
 obtain⟨k1,k2⟩:=lH F;obtain⟨x,M,L,B,rx,O,pm⟩:=Z.erase J;have Y:=Yr.mp nd;have I:=Yy.mp Y.1;refine⟨x,B,Bu (M0:=M0) (N:=N) O rx (fD λd hd=>jk k1 d (yd hd)) (fj λd hd=>jq k2 d (yd hd)) (by simp[clean,jo k1 J,jn k2 J]) (λz=>I.1 (pm.mem_iff.mp z)) (pm.nodup_iff.mpr I.2) (λb U=>.inl (pm.mem_iff.mp U)) q⟩
theorem HR:MuV G J8 mj:=λd es d' res h v xs H W M N r U nd hM F O c2 Q q=>by
 unfold mj at h;split at h
 .rename_i ds i
  split at h
  .rename_i hl
   cases h1:ixN ds.length i with
   |none=>simp[h1]at h
   |some k=>
    cases h2:ds[k]? with
    |none=>simp[h1,h2]at h
    |some e=>
     obtain⟨rfl,rfl⟩:D.lst .own (ds.eraseIdx k)=d'/\e=res:=by simpa[h1,h2]using h
     rw[Rep]at r;obtain⟨a,ys,M0,rfl,Z,Y,rfl⟩:=r;obtain⟨x,rfl,B⟩:=U.inv1;obtain⟨rfl,rfl⟩:=bw B;obtain⟨J,g2,V,g4⟩:=zT h1;obtain⟨y,I,z⟩:=J0 Z nd F h2 q;exact⟨a,ys,i,k,y,rfl,rfl,Y,by omega,by omega,by rw[←Z.length];exact J,I,z⟩
  .cases h
 .cases h
variable{X:ι->Cx}
theorem Iz:MuB X G "list" "list.pop" mj:=⟨_,λc=>Mh,HR,DK rfl λd es q e=>by
 unfold mj at e;split at e
 .exact⟨_,_,rfl⟩
 .cases e⟩
def lN:D->List D->Option (D×D)
 |.lst .own ds,[.int i,e]=>if ds.length<1000000/\-(2 ^ 63)<=i/\i<2 ^ 63 then some (.lst .own (ds.take (wN ds.length i)++e::ds.drop (wN ds.length i)),.non)else none
 |_,_=>none
theorem aM.takeDrop(h:aM G H W ds xs L)(k:Nat):∃A B,aM G H W (ds.take k) (xs.take k) A/\aM G H W (ds.drop k) (xs.drop k) B/\L=A++B:=by
 rw[←abZ k ds]at h;obtain⟨ys,zs,A,B,rfl,rfl,h1,h2⟩:=h.split;have Z:=h1.length;by_cases J:k<=ds.length
 .have hk':ys.length=k:=by rw[←Z,YX];omega
  refine⟨A,B,?_,?_,rfl⟩
  .rw[←hk',List.take_left,hk'];exact h1
  .rw[←hk',List.drop_left,hk'];exact h2
 .have e1:ds.take k=ds:=Zq (by omega)
  have e2:ds.drop k=[]:=adn (by omega);rw[e1]at h1 Z;rw[e2]at h2;obtain⟨rfl,rfl⟩:=h2.inv0;refine⟨A,[],?_,?_,by simp⟩
  .rw[e1,Yz,Zq (by omega)];exact h1
  .rw[e2,Yz,adn (by omega)];exact .nil
theorem Eo:MuV G Gm lN:=λd es d' res h v xs H W M N r D nd hM F O c2 Q q=>by
 unfold lN at h;split at h
 .rename_i ds i e
  split at h
  .rename_i hl
   cases h;rw[Rep]at r;obtain⟨a,ys,M0,rfl,Z,Y,rfl⟩:=r;obtain⟨x,y,N1,N2,rfl,rfl,hx,hy⟩:=D.inv2;obtain⟨rfl,rfl⟩:=bw hx;rw[List.nil_append]at nd q;obtain⟨V,k2⟩:=lH F;obtain⟨A,B,h1,h2,rfl⟩:=Z.takeDrop (wN ds.length i);have J:=Yr.mp nd;have I:=Yy.mp J.1;have a0:a∉N2:=λz=>J.2.2 a (by simp) a z rfl;simp![aC,aD,Yp]at O c2;have a1:=h1.append (.cons hy h2);have pm:ab1 (A++(N2++B)) ((A++B)++N2):=by
    rw[aah];exact adA A aa9
   refine⟨a,ys,i,y,rfl,rfl,Y,hl.2.1,hl.2.2,yS (by rw[←Z.length];exact hl.1),?_⟩;rw[←Z.length];refine Bu (M0:=A++B) (N:=N2) (R:=[]) a1 oW ?_ ?_ rfl (λz=>?_) ?_ (λb U=>?_) q
   .refine fD λd hd=>?_
    rcases List.mem_append.mp hd with z|z
    .exact jk V d (Zz z)
    .rcases Yj.mp z with z|z
     .rw[z];exact O.2.1
     .exact jk V d (abf z)
   .refine fj λd hd=>?_
    rcases List.mem_append.mp hd with z|z
    .exact jq k2 d (Zz z)
    .rcases Yj.mp z with z|z
     .rw[z];exact c2.2.1
     .exact jq k2 d (abf z)
   .rw[Yz]at z
    rcases List.mem_append.mp (pm.mem_iff.mp z)with z|z
    .exact I.1 z
    .exact a0 z
   .rw[Yz]
    refine pm.nodup_iff.mpr (fK I.2 J.2.1 λb h1 h2=>J.2.2 b (YJ _ h1) b h2 rfl)
   .rw[Yz]at U
    exact List.mem_append.mp (pm.mem_iff.mp U)
  .cases h
 .cases h
theorem FJ:MuB X G "list" "list.insert" lN:=⟨_,λc=>Iv,Eo,DK rfl λd es q e=>by
 unfold lN at e;split at e
 .exact⟨_,_,rfl⟩
 .cases e⟩
def di:List Key->List D->List (Key×D)->List Key×List D
 |ks,ds,[]=>(ks,ds)
 |ks,ds,p::r=>di (gO ks ds p.1 p.2).1 (gO ks ds p.1 p.2).2 r
variable{k:Key}
theorem Ow{N:List Addr}(Z:aM G H W ds (List.map (·.2) kvs) M)(I:(List.map (·.1) kvs).Nodup)(hx:Rep G H W d x N)(nd:(M++N).Nodup) :
  (List.map (·.1) (putK kvs k x)=(gO (List.map (·.1) kvs) ds k d).1/\(List.map (·.1) (putK kvs k x)).Nodup)/\(putK kvs k x).length<=kvs.length+1/\∃M',aM G H W (gO (List.map (·.1) kvs) ds k d).2 (List.map (·.2) (putK kvs k x)) M'/\M'.Nodup/\∀a∈M',a∈M∨a∈N:=by
 have J:=Yr.mp nd;cases O:dU (kvs.map (·.1)) k with
 |some j=>
  have a1:j<ds.length:=by rw[Z.length];simpa using yt O
  obtain⟨A,M1,B,a0,q⟩:=Z.set (X5 a1) hx;obtain⟨p1,p2⟩:=Bm (v:=x) O I;have F:ZP (A++B) M:=by rw[a0];exact(aaA A).append (Zf M1 B)
  have n3:=Yr.mp (F.nodup J.1);have U:∀z∈N,z∉A++B:=λz h1 h2=>J.2.2 z (F.subset h2) z h1 rfl;simp![gO,O];refine⟨⟨p1,by rw[p1];exact I⟩,?_,A++(N++B),by rw[p2];exact q,fK n3.1 (fK J.2.1 n3.2.1 λz h1 h2=>U z h1 (by simp[h2])) λz h1 h2=>?_,λa Y=>?_⟩
  .have:(putK kvs k x).length=kvs.length:=by have:=congrArg aad p1;simpa using this
   omega
  .rcases List.mem_append.mp h2 with y|y
   .exact U z y (by simp[h1])
   .exact n3.2.2 z h1 z y rfl
  .simp![Zy]at Y
   rcases Y with z|z|z
   .exact .inl (F.subset (by simp[z]))
   .exact .inr z
   .exact .inl (F.subset (by simp[z]))
 |none=>
  simp![gO,O];have e:putK kvs k x=kvs++[(k,x)]:=nP O;rw[e];refine⟨⟨by simp,?_⟩,by simp,M++N,by rw[Zi];exact Z.append (.one hx),nd,λa Y=>List.mem_append.mp Y⟩;rw[Zi];exact List.nodup_append.mpr ⟨I,by simp,λa h1 b h2 z=>by
   obtain rfl:b=k:=by simpa using h2
   exact BL O (z▸h1)⟩
theorem vz{H:Hp}{W:Wn}:∀{es:List (Key×D)}{prs kvs:List (Key×V)}{ds:List D}{M N:List Addr},List.map (·.1) es=List.map (·.1) prs->aM G H W (List.map (·.2) es) (List.map (·.2) prs) N->aM G H W ds (List.map (·.2) kvs) M->(List.map (·.1) kvs).Nodup->(M++N).Nodup->
  (List.map (·.1) (putAll kvs prs)=(di (List.map (·.1) kvs) ds es).1/\(List.map (·.1) (putAll kvs prs)).Nodup)/\∃M',aM G H W (di (List.map (·.1) kvs) ds es).2 (List.map (·.2) (putAll kvs prs)) M'/\M'.Nodup/\∀a∈M',a∈M∨a∈N
 |[],prs,kvs,ds,M,N,hk,h1,h2,hn,nd=>by
  have:prs=[]:=by cases prs with
   |nil=>rfl
   |cons p r=>cases hk
  subst this;exact⟨⟨rfl,hn⟩,M,h2,(Yr.mp nd).1,λa Y=>.inl Y⟩
 |e::es,prs,kvs,ds,M,N,hk,h1,h2,hn,nd=>by
  cases prs with
  |nil=>cases hk
  |cons p prs=>
   obtain⟨x,ys,N1,N2,a2,rfl,B,a6⟩:=aM.inv h1;simp![X8,List.cons.injEq]at hk a2;obtain⟨rfl,rfl⟩:=a2;have a0:=Yr.mp nd;have a1:=Yr.mp a0.2.1;have a4:(M++N1).Nodup:=fK a0.1 a1.1 λa z1 I=>a0.2.2 a z1 a (by simp[I]) rfl;obtain⟨⟨q1,q2⟩,q3,M1,q4,Z,q6⟩:=Ow (k:=p.1) h2 hn B a4;have a5:(M1++N2).Nodup:=fK Z a1.2.1 λa z1 I=>by
    rcases q6 a z1 with z|z
    .exact a0.2.2 a z a (by simp[I]) rfl
    .exact a1.2.2 a z a I rfl
   rw[←hk.1]at q1 q2 q4;have J:=vz (es:=es) (prs:=prs) (kvs:=putK kvs e.1 p.2) hk.2 a6 q4 q2 a5;rw[q1]at J;obtain⟨⟨F,O⟩,M',U,q,r5⟩:=J;have a3:putAll kvs (p::prs)=putAll (putK kvs e.1 p.2) prs:=by rw[hk.1];rfl
   rw[a3];refine⟨⟨F,O⟩,M',U,q,λa Y=>?_⟩;rcases r5 a Y with z|z
   .exact(q6 a z).imp id λz=>by simp[z]
   .exact .inr (by simp[z])
theorem nQ(P:D->Prop):∀{es:List (Key×D)}{ks:List Key}{ds:List D},(∀d∈ds,P d)->(∀p∈es,P p.2)->∀d∈(di ks ds es).2,P d
 |[],ks,ds,h1,h2=>h1
 |p::r,ks,ds,h1,h2=>by
  rw[di];refine nQ P (λd hd=>?_) λq B=>h2 q (by simp[B]);unfold gO at hd;split at hd
  .rcases List.mem_or_eq_of_mem_set hd with z|z
   .exact h1 d z
   .rw[z];exact h2 p (by simp)
  .rcases List.mem_append.mp hd with z|z
   .exact h1 d z
   .obtain rfl:d=p.2:=by simpa using z
    exact h2 p (by simp)
def vD:List D->Option (List (Key×D))
 |[]=>some []
 |.tup [k,v]::r=>(dG k).bind λk=>(vD r).map λt=>(k,v)::t
 |_::_=>none
theorem Dq:∀{ds:List D}{es:List (Key×D)},vD ds=some es->∀p∈es,∃k,dG k=some p.1/\D.tup [k,p.2]∈ds
 |[],es,h,p,hp=>by cases h;cases hp
 |d::r,es,h,p,hp=>by
  unfold vD at h;split at h
  .rename_i e;cases e
  .rename_i k v t e
   cases e;cases h1:dG k with
   |none=>simp[h1]at h
   |some O=>
    cases h2:vD r with
    |none=>simp[h1,h2]at h
    |some w=>
     obtain rfl:(O,v)::w=es:=by simpa[h1,h2]using h
     rcases Yj.mp hp with z|z
     .subst z;exact⟨k,h1,by simp⟩
     .obtain⟨k2,g1,g2⟩:=Dq h2 p z
      exact⟨k2,g1,by simp[g2]⟩
  .cases h
theorem La{k:D}{F:Key}(h:dG k=some F)(r:Rep G H W k x L):L=[]:=by
 cases k<;>simp[dG]at h<;>rw[Rep]at r<;>exact r.2
theorem Ay{H:Hp}{W:Wn}:∀{ds:List D}{es:List (Key×D)}{ys:List V}{N:List Addr},vD ds=some es->aM G H W ds ys N->∃prs:List (Key×V),List.map (·.1) es=List.map (·.1) prs/\aM G H W (List.map (·.2) es) (List.map (·.2) prs) N/\prs.length=ys.length/\∀(j:Nat)(k:Key)(v:V),prs[j]? =some (k,v)->∃p:Addr,ys[j]? =some (V.ref p)/\H p=some (.tup [kV k,v])
 |[],es,ys,N,h,r=>by
  cases h;obtain⟨rfl,rfl⟩:=r.inv0;exact⟨[],rfl,.nil,rfl,λj k v e=>by simp at e⟩
 |d::r,es,ys,N,h,rr=>by
  unfold vD at h;split at h
  .rename_i e;cases e
  .rename_i k v t e
   cases e;cases h1:dG k with
   |none=>simp[h1]at h
   |some O=>
    cases h2:vD r with
    |none=>simp[h1,h2]at h
    |some w=>
     obtain rfl:(O,v)::w=es:=by simpa[h1,h2]using h
     obtain⟨x,zs,J,z,rfl,rfl,hx,hz⟩:=rr.inv;obtain⟨prs,q,F,g3,Z⟩:=Ay h2 hz;rw[Rep]at hx;obtain⟨a,xs,rfl,U,a1⟩:=hx;obtain⟨y1,I,A,B,rfl,rfl,Y,a0⟩:=a1.inv2;have hA:=La h1 Y;subst hA;have:=iY Y h1;subst this;refine⟨(O,I)::prs,by simp[q],.cons a0 F,by simp[g3],λj k v e=>?_⟩;cases j with
     |zero=>
      simp at e;obtain⟨rfl,rfl⟩:=e;exact⟨a,rfl,U⟩
     |succ j=>exact Z j k v (by simpa using e)
  .cases h
theorem dN.at2(h:dN B H W a o m L M)(V:(m== .scr)=false):H a=some o:=h.at (by intro z;rw[z]at V;cases V)
def fY:D->List D->Option (D×D)
 |.dct .own ks ds,[.lst m es]=>if(m== .scr)=false/\ks.length+es.length<=50000 then(vD es).map λps=>(.dct .own (di ks ds ps).1 (di ks ds ps).2,.non)else none
 |.dct .own ks ds,[.dct m ks2 es]=>if(m== .scr)=false/\ks.length+ks2.length<=50000 then some (.dct .own (di ks ds (ks2.zip es)).1 (di ks ds (ks2.zip es)).2,.non)else none
 |_,_=>none
theorem JG(h1:aC ds=true)(h2:aD ds=true):clean (.dct .own ks ds)=true:=by simp[clean,aA,az,h1,h2]
theorem BJ{es:List (Key×D)}{M0 N N0:List Addr}(J:List.map (·.1) es=List.map (·.1) prs)(h1:aM G H W (List.map (·.2) es) (List.map (·.2) prs) N)(O:∀b∈N,b∈N0)(Z:aM G H W ds (List.map (·.2) kvs) M0)(I:(List.map (·.1) kvs).Nodup)(a4:N.Nodup)(nd:((a::M0)++N0).Nodup)
  (F:aC ds=true/\aD ds=true) (ce:∀p∈es,aA p.2=true/\az p.2=true)
  (q:∀x H' M' R,(∀b u,H b=some u->b∉a::M0->H' b=some u)->(∀W',Evo H H' W W'->Rep G H' W' (.dct .own (di (List.map (·.1) kvs) ds es).1 (di (List.map (·.1) kvs) ds es).2) (.ref a) M'/\Rep G H' W' .non x R)->(M'++R).Nodup->(∀b∈M'++R,b∈a::M0∨b∈N0∨H b=none)->clean (.dct .own (di (List.map (·.1) kvs) ds es).1 (di (List.map (·.1) kvs) ds es).2)=true->clean .non=true->Q x H'):Q .non (upd H a (.dK (putAll kvs prs))):=by
 have a0:=Yr.mp nd;have a1:=Yy.mp a0.1;have a3:(M0++N).Nodup:=fK a1.2 a4 λb Y z2=>a0.2.2 b (YJ _ Y) b (O b z2) rfl;obtain⟨⟨p1,p2⟩,M',B,p4,p5⟩:=vz J h1 Z I a3;have a2:a∉M':=λz=>(p5 a z).elim a1.1 λz=>a0.2.2 a (by simp) a (O a z) rfl;have k1:aC (di (List.map (·.1) kvs) ds es).2=true:=fD (nQ (λd=>aA d=true) (jk F.1) λp hp=>(ce p hp).1);have k2:aD (di (List.map (·.1) kvs) ds es).2=true:=fj (nQ (λd=>az d=true) (jq F.2) λp hp=>(ce p hp).2);refine q .non _ (a::M') [] (λb u U n=>by rw[aR (show b≠a from λz=>n (by rw[z];simp))];exact U) (λW' ev=>⟨?_,oW⟩) (by rw[Yz];exact Yy.mpr ⟨a2,p4⟩) (λb U=>?_) (JG k1 k2) rfl
 .rw[Rep]
  refine⟨a,putAll kvs prs,M',rfl,⟨p1,p1▸p2⟩,B.mono ev (.inl k1) (.inl k2) λc F u hu=>?_,aW,rfl⟩;rw[aR (show c≠a from λz=>a2 (z▸F))];exact hu
 .rw[Yz]at U
  rcases Yj.mp U with z|z
  .exact .inl (by simp[z])
  .exact(p5 b z).imp (λz=>YJ _ z) λz=>.inl (O b z)
theorem PL(h:ks.length=ds.length):List.map (·.1) (ks.zip ds)=ks:=aeK (by omega)
theorem Qq(h:ks.length=ds.length):List.map (·.2) (ks.zip ds)=ds:=aeL (by omega)
theorem Fd:MuV G Hf fY:=λd es d' res h v xs H W M N r re nd hM F c1 B Q q=>by
 unfold fY at h;split at h
 .rename_i ks ds m es
  split at h
  .rename_i hm
   cases h1:vD es with
   |none=>simp[h1]at h
   |some ps=>
    obtain⟨rfl,rfl⟩:D.dct .own (di ks ds ps).1 (di ks ds ps).2=d'/\D.non=res:=by simpa[h1]using h
    rw[Rep]at r;obtain⟨a,kvs,M0,rfl,⟨rfl,a1⟩,Z,Y,rfl⟩:=r;obtain⟨x,rfl,rx⟩:=re.inv1;rw[Rep]at rx;obtain⟨b,ys,N1,rfl,I,O⟩:=rx;obtain⟨prs,g1,g2,V,g4⟩:=Ay h1 I;have kc:aC ds=true/\aD ds=true:=by simp[clean,aA,az]at F;exact F
    have ke:aC es=true/\aD es=true:=by simp[aC,aD,aA,az]at c1 B;exact⟨c1.2,B.2⟩
    have a0:=Yr.mp nd;refine⟨a,kvs,rfl,Y,.inl ⟨b,ys,prs,rfl,O.at2 hm.1,V,by rw[V,←I.length];simpa using hm.2,g4,BJ g1 g2 (λc F=>O.sub.subset F) Z a1 (O.sub.nodup a0.2.1) nd kc (λp hp=>?_) q⟩⟩;obtain⟨k,_,J⟩:=Dq h1 p hp;have z1:=jk ke.1 _ J;have z2:=jq ke.2 _ J;simp[aA,az,aC,aD]at z1 z2;exact⟨z1.2,z2.2⟩
  .cases h
 .rename_i ks ds m ks2 es
  split at h
  .rename_i hm
   cases h;rw[Rep]at r;obtain⟨a,kvs,M0,rfl,⟨rfl,a1⟩,Z,Y,rfl⟩:=r;obtain⟨x,rfl,rx⟩:=re.inv1;rw[Rep]at rx;obtain⟨b,more,N1,rfl,⟨rfl,a4⟩,I,O⟩:=rx;have kc:aC ds=true/\aD ds=true:=by simp[clean,aA,az]at F;exact F
   have ke:aC es=true/\aD es=true:=by simp[aC,aD,aA,az]at c1 B;exact⟨c1.2,B.2⟩
   have a2:(List.map (·.1) more).length=es.length:=by rw[I.length];simp
   have U:H b=some (.dK more):=O.at2 hm.1;have a0:=Yr.mp nd;have a3:b≠a:=by
    cases m with
    |own=>exact λz=>a0.2.2 a (by simp) a (by rw[O.2,z];simp) rfl
    |frz=>exact λz=>hM a (by simp) (z▸O.2.1)
    |brw=>simp[aC,aA]at c1
    |bro=>simp[aD,az]at B
    |scr=>exact absurd hm.1 (by decide)
   refine⟨a,kvs,rfl,Y,.inr ⟨b,more,rfl,a3,U,by simpa using hm.2,BJ (es:=(List.map (·.1) more).zip es) (PL a2) (by rw[Qq a2];exact I) (λc F=>O.sub.subset F) Z a1 (O.sub.nodup a0.2.1) nd kc (λp hp=>?_) q⟩⟩;have J:=(ab7 hp).2;exact⟨jk ke.1 _ J,jq ke.2 _ J⟩
  .cases h
 .cases h
theorem RV{op:D->List D->Option (D×D)}(I:T="dict")(h:∀d es q,op d es=some q->∃ks ds,d= .dct .own ks ds):HS G T op:=λd es q e v H W L r=>by
 obtain⟨ks,ds,rfl⟩:=h d es q e;rw[Rep]at r;obtain⟨a,xs,M,rfl,J,Z,O⟩:=r;exact .inr (.inr (.inl ⟨I,.inl ⟨_,O.1⟩⟩))
theorem qF(F:∀c,(X c).calm=true):MuB X G "dict" "dict.update" fY:=⟨_,λc=>Ip (F c),Fd,RV rfl λd es q e=>by
 unfold fY at e;split at e
 .exact⟨_,_,rfl⟩
 .exact⟨_,_,rfl⟩
 .cases e⟩
def eMt(g:D->List D->Option D)(q:En->Option D)(f:En->Option (List D)):En->Option D:=λρ=>(q ρ).bind λx=>(f ρ).bind λds=>g x ds
theorem BZ{id:String}{F:Str}{g:D->List D->Option D}{o:Expr}{Z:En->Option D}{f:En->Option (List D)}(m:MtB X G T id g)(pa:adJ T)(slot:Slot T F id)(B:typeOf (.builtin id)=pure (.type "method_descriptor"))(J:PV X G ob o Z)(Y:PVA X G ob (e::es) f)(z:∀c,aaw o F (X c).env (eval o (X c).env)=eval o (X c).env:=by intro _;rfl)(V:∀c,((Zx cpos (Yh (e::es) (X c).env)).all (λx=>!x.1)&&(abR cpos (aaU [] (X c).env)).all (λx=>x.1.isSome)
  &&decide ((e::es).length+([]:List aam).length+(if([]:List aam).isEmpty then 0 else 1)<30))=true:=by intro _;rfl) (I:(apos.endLine==cpos.line)=true:=by rfl) (O:∀c,Yh (e::es) (X c).env=(false,eval e (X c).env)::Yh es (X c).env:=by intro _;rfl) (U:∀c,(Zx cpos (Yh es (X c).env)).any (·.1)=false:=by intro _;rfl) (q:∀c,(X c).K=G.K:=by intro _;rfl) :
 PV X G ob (.Call (.Attribute o F apos) (e::es) [] cpos) (eMt g Z f):=let⟨r,m1,m2,m3⟩:=m.ex;let⟨t,a1,a2⟩:=J.ex;let⟨u,b1,b2⟩:=Y.ex;⟨_,λc=>(by rw[←q c];exact Az pa slot B (m1 c) (a1 c) (b1 c) (z c) (V c) I (O c) (U c)),Wv m2 m3 a2 b2⟩
def yw(a b:Str):Option (List Str):=
 if(decide (a.length<b.length)||decide (abq a<abq b))=false/\(b.length==0)=false/\(Zd a b 0 a.length (a.length+1)).isEmpty=false/\a.length<=Yc/\(aby a (Zd a b 0 a.length (a.length+1)) b.length).length<=Yc
 then some (aby a (Zd a b 0 a.length (a.length+1)) b.length)else none
def vH:D->List D->Option D
 |.str a,[.str b]=>(yw a b).map λl=>.lst .own (l.map D.str)
 |_,_=>none
theorem BV:∀l:List Str,aM G H W (l.map D.str) (l.map V.str) []
 |[]=>.nil
 |x::r=>aM.cons (M:=[]) (M':=[]) (by rw[Rep];exact⟨rfl,rfl⟩) (BV r)
theorem Ig:MtB X G "str" "str.split" vH:=⟨_,λc=>JP,λdx ds d e x xs H W B F rx r nd I w Q q=>(by
 unfold vH at e;split at e
 .rename_i a b
  cases h1:yw a b with
  |none=>simp[h1]at e
  |some l=>
   obtain rfl:D.lst .own (l.map D.str)=d:=by simpa[h1]using e
   obtain⟨y,rfl,U⟩:=r.inv1;obtain⟨rfl,rfl⟩:=c7 rx;obtain⟨rfl,rfl⟩:=c7 U;unfold yw at h1;split at h1
   .rename_i hh
    cases h1;refine⟨a,b,_,rfl,rfl,hh.1,hh.2.1,hh.2.2.1,hh.2.2.2.1,rfl,hh.2.2.2.2,λp O=>?_⟩;refine q (.ref p) _ [p] (Same.new O) ?_ (λa Y=>.inr (by rw[show a=p by simpa using Y];exact O)) (by simp);rw[Rep];exact⟨p,_,[],rfl,BV _,aW,rfl⟩
   .cases h1
 .cases e),λdx ds d e x H W B rx=>by
 unfold vH at e;split at e
 .obtain⟨rfl,rfl⟩:=c7 rx
  exact rfl
 .cases e⟩
def tO:D->List D->Option D
 |.dct m ks ds,[k]=>if m= .scr then none else(dG k).bind λk=>match dU ks k with
  |some j=>ds[j]?
  |none=>some .non
 |.dct m ks ds,[k,x]=>if m= .scr then none else(dG k).bind λk=>match dU ks k with
  |some j=>ds[j]?
  |none=>some x
 |_,_=>none
def WK:V->List V->Hp->VK->Prop:=λx B H Q=>∃a o y,x= .ref a/\oE H a y o/\(B=[y]/\Q (o.getD .non) H∨∃z,B=[y,z]/\Q (o.getD z) H)
theorem Nr(F:Y.A.units+1<cLine):MtR Y "dict.get" WK:=λpins s σ H x B v us Q I rx O h=>by
 obtain⟨a,o,y,rfl,g,h⟩:=h;cases rx;rcases h with⟨rfl,q⟩|⟨z,rfl,q⟩
 .obtain⟨u,rfl,D⟩:=vals1 O
  exact S_ F I g D λZ s3 I3 J=>⟨_,H,I3,J,q⟩
 .cases O with
  |cons U O=>
   obtain⟨u,rfl,D⟩:=vals1 O;exact Tu F I g U D λZ s4 V J=>⟨_,H,V,J,q⟩
theorem uR(F:∀c,(X c).A.units+1<cLine):MtB X G "dict" "dict.get" tO:=⟨_,λc=>Nr (F c),λdx ds d e x xs H W Lx L0 rx r nd I w Q q=>(by
 have a0:∀{m:Mk}{ks:List Key}{es:List D}{k:D}{kk:Key}{y:V}{Ly:List Addr},m≠.scr->Rep G H W (.dct m ks es) x Lx->dG k=some kk->Rep G H W k y Ly->∃a kvs M,x= .ref a/\H a=some (.dK kvs)/\oE H a y (jr kvs kk)/\List.map (·.1) kvs=ks/\aM G H W es (List.map (·.2) kvs) M/\ZP M Lx:=λ{m ks es k kk y Ly} hm rx J U=>by
  rw[Rep]at rx;obtain⟨a,kvs,M,rfl,⟨rfl,a1⟩,Z,O⟩:=rx;have:=iY U J;subst this;exact⟨a,kvs,M,rfl,O.at hm,.inl ⟨kvs,kk,O.rdD,rfl,rfl⟩,rfl,Z,O.sub⟩
 unfold tO at e;split at e
 .rename_i m ks es k
  split at e
  .cases e
  .rename_i hm
   cases J:dG k with
   |none=>simp[J]at e
   |some kk=>
    obtain⟨y,rfl,U⟩:=r.inv1;obtain⟨a,kvs,M,rfl,Y,g,rfl,Z,sub⟩:=a0 hm rx J U;refine⟨a,_,y,rfl,g,.inl ⟨rfl,?_⟩⟩;simp![J,gD]at e;cases hj:dU (List.map (·.1) kvs) kk with
    |none=>
     simp![hj]at e;cases e;rw[jX hj];exact q.scal λ_=>oW
    |some j=>
     simp![hj]at e;obtain⟨v,M',h1,h2,h3⟩:=Z.get e;rw[ik hj,h1];exact g8 h2 (h3.trans (sub.trans (ZG _ _))) nd I q
 .rename_i m ks es k x0
  split at e
  .cases e
  .rename_i hm
   cases J:dG k with
   |none=>simp[J]at e
   |some kk=>
    obtain⟨y,z,A,B,rfl,rfl,U,rz⟩:=r.inv2;obtain⟨a,kvs,M,rfl,Y,g,rfl,Z,sub⟩:=a0 hm rx J U;refine⟨a,_,y,rfl,g,.inr ⟨z,rfl,?_⟩⟩;simp![J,gD]at e;cases hj:dU (List.map (·.1) kvs) kk with
    |none=>
     simp![hj]at e;cases e;rw[jX hj];exact g8 rz ((Zf _ _).trans (Zf _ _)) nd I q
    |some j=>
     simp![hj]at e;obtain⟨v,M',h1,h2,h3⟩:=Z.get e;rw[ik hj,h1];exact g8 h2 (h3.trans (sub.trans (ZG _ _))) nd I q
 .cases e),λdx ds d e x H W Lx rx=>by
 have a0:∀{m:Mk}{ks:List Key}{es:List D},m≠.scr->Rep G H W (.dct m ks es) x Lx->tyV G.K "dict" x H:=λ{m ks es} hm rx=>by
  rw[Rep]at rx;obtain⟨a,kvs,M,rfl,J,Z,O⟩:=rx;exact .inr (.inr (.inl ⟨rfl,.inl ⟨_,O.at hm⟩⟩))
 unfold tO at e;split at e
 .split at e
  .cases e
  .exact a0 ‹_› rx
 .split at e
  .cases e
  .exact a0 ‹_› rx
 .cases e⟩
def RfO(G:Gc)(ob:Nat->Bool)(t:TO)(f:En->Option (Option Int)):Prop:=∀(ρ:En)(o:Option Int),f ρ=some o->∀(σ:L2.St)(H:Hp)(W:Wn),Rel G H W ob ρ σ->WOk H W->∀Q:Option Int->Hp->Prop,(∀H',Same H H'->Q o H')->t σ H Q
structure PVO{ι:Type}(X:ι->Cx)(G:Gc)(ob:Nat->Bool)(e:Option Expr)(f:En->Option (Option Int)):Prop where
 mk::(ex:∃t,(∀c,PO (X c) e t)/\RfO G ob t f)
def j6:En->Option (Option Int):=λ_=>some none
def jQ(f:En->Option D):En->Option (Option Int):=λρ=>(f ρ).bind λd=>match d with
 |.int i=>some (some i)
 |_=>none
theorem gH:PVO X G ob none j6:=⟨_,λc=>Qo,λρ o e σ H W O w Q q=>by cases e;exact q H (Same.refl H)⟩
variable{f:En->Option D}
theorem gK(h:PV X G ob e f):PVO X G ob (some e) (jQ f):=let⟨t,a1,a2⟩:=h.ex;⟨_,λc=>Ql (a1 c),λρ o e σ H W O w Q q=>by
 unfold jQ at e;cases h1:f ρ with
 |none=>simp[h1]at e
 |some d=>
  rw[h1]at e;simp![gD]at e;split at e
  .cases e
   refine a2 ρ _ h1 σ H W O w _ λv H' L s r I nd=>?_;obtain⟨rfl,rfl⟩:=bw r;exact⟨_,rfl,q H' s⟩
  .cases e⟩
def SlV(G:Gc)(r:V->Option Int->Option Int->Hp->VK->Prop)(g:D->Option Int->Option Int->Option D):Prop:=∀(dx:D)(lo hi:Option Int)(d:D),g dx lo hi=some d->∀(x:V)(H:Hp)(W:Wn)(B:List Addr),Rep G H W dx x B->B.Nodup->(∀a∈B,W.tmp a)->WOk H W->∀Q:VK,Done G H W B d Q->r x lo hi H Q
structure SlB{ι:Type}(X:ι->Cx)(G:Gc)(g:D->Option Int->Option Int->Option D):Prop where
 ex:∃r,(∀c,SlR (X c) r)/\SlV G r g
def J3(g:D->Option Int->Option Int->Option D)(f:En->Option D)(fl z:En->Option (Option Int)):En->Option D:=λρ=>(f ρ).bind λx=>(fl ρ).bind λl=>(z ρ).bind λh=>g x l h
def Gh(g:D->Option Int->Option Int->Option D)(f:En->Option (D×En))(fl z:En->Option (Option Int)):En->Option (D×En):=λρ=>(f ρ).bind λp=>(fl p.2).bind λl=>(z p.2).bind λh=>(g p.1 l h).map λd=>(d,p.2)
variable{g:D->Option Int->Option Int->Option D}
theorem V5{r:V->Option Int->Option Int->Hp->VK->Prop}{tl th:TO}{fl fh:En->Option (Option Int)}(J:SlV G r g)(h:RfE G ob te f)(hl:RfO G ob tl fl)(hh:RfO G ob th fh):RfE G ob (tSl r te tl th) (J3 g f fl fh):=λρ d e σ H W O w Q q=>by
 unfold J3 at e;cases h1:f ρ with
 |none=>simp[h1]at e
 |some x=>
  cases h2:fl ρ with
  |none=>simp[h1,h2]at e
  |some l=>
   cases h3:fh ρ with
   |none=>simp[h1,h2,h3]at e
   |some u=>
    have e:g x l u=some d:=by simpa[h1,h2,h3]using e
    refine h ρ x h1 σ H W O w _ λv H1 L Z F I nd=>?_;have u1:Up H H1 W (W.add L):=.add Z I;have w1:WOk H1 (W.add L):=w.add Z F.dom;refine hl ρ l h2 σ H1 _ (O.up u1) w1 _ λH2 B=>?_;have u2:Up H1 H2 (W.add L) (W.add L):=.same B;have w2:WOk H2 (W.add L):=λa Y=>let⟨o,J,hm⟩:=w1 a Y;⟨o,B a o J,hm⟩;refine hh ρ u h3 σ H2 _ ((O.up u1).up u2) w2 _ λH3 s3=>?_;have u3:Up H2 H3 (W.add L) (W.add L):=.same s3;have w3:WOk H3 (W.add L):=λa Y=>let⟨o,J,hm⟩:=w2 a Y;⟨o,s3 a o J,hm⟩;have ss:=(Z.trans B).trans s3;refine J x l u d e v H3 _ L ((F.up u2).up u3) nd (w.tmp I) w3 Q λv' H4 L4 s4 r4 f4 n4=>?_;refine q v' H4 L4 (ss.trans s4) ?_ (λa Y=>(f4 a Y).elim (I a) λz=>ss.none' z) n4;exact r4.up ⟨Same.refl _,λb u U f=>⟨λz=>z.elim (λz=>f.1 (.inl z)) λz=>f.1 (.inr ⟨.inr z,WOk.new w I z⟩),f.2⟩,λ_ _ _ f=>f⟩
def cutD(ds:List D)(lo hi:Option Int):List D:=(ds.drop (HT.sIx ds.length 0 lo)).take (HT.sIx ds.length ds.length hi-HT.sIx ds.length 0 lo)
def gSl:D->Option Int->Option Int->Option D
 |.lst _ ds,lo,hi=>some (.lst .own (cutD ds lo hi))
 |.tup ds,lo,hi=>some (.tup (cutD ds lo hi))
 |_,_,_=>none
theorem aM.cut(h:aM G H W ds xs L)(lo hi:Option Int):∃M,aM G H W (cutD ds lo hi) (vP xs lo hi) M/\ZP M L:=by
 unfold cutD vP;rw[h.length];obtain⟨A,B,_,h2,rfl⟩:=h.takeDrop (HT.sIx xs.length 0 lo);obtain⟨z,q,F,_,rfl⟩:=h2.takeDrop (HT.sIx xs.length xs.length hi-HT.sIx xs.length 0 lo);exact⟨z,F,(ZG z q).trans (Zf A _)⟩
theorem slb(F:∀c,(X c).K=G.K:=by intro _;rfl):SlB X G gSl:=⟨λx lo hi H Q=>V9 G.K x lo hi H Q∨WF G.K x lo hi H Q,λc=>by rw[←F c];exact SlR.or Qw SM,λdx lo hi d e x H W B rx nd I w Q q=>by
 unfold gSl at e;split at e
 .cases e
  rw[Rep]at rx;obtain⟨a,xs,M,rfl,Z,O⟩:=rx;obtain⟨M',h1,h2⟩:=Z.cut lo hi;exact .inl ⟨a,xs,rfl,O.sq,λp D=>sO h1 (h2.trans O.sub) nd I D q⟩
 .rename_i ds
  cases e;have V:=rx;rw[Rep]at rx;obtain⟨a,xs,rfl,U,Z⟩:=rx;obtain⟨M',h1,h2⟩:=Z.cut lo hi;refine .inr ⟨a,xs,rfl,SqT.of U,λz=>?_,λp D=>wX h1 h2 nd I D q⟩;rw[z]at h1;refine g8 (d:=.tup (cutD ds lo hi)) (x:=.ref a) (M:=M') ?_ h2 nd I q;rw[Rep];exact⟨a,xs,rfl,U,h1⟩
 .cases e⟩
def eSl:=J3 gSl
def XR:=Gh gSl
theorem gJ{lo hi:Option Expr}{fl z:En->Option (Option Int)}(o:SlB X G gSl)(h:PV X G ob e f)(Z:PVO X G ob lo fl)(U:PVO X G ob hi z):PV X G ob (.Subscript e (.Slice lo hi none p2) pos) (eSl f fl z):=let⟨r,o1,o2⟩:=o.ex;let⟨t,a1,a2⟩:=h.ex;let⟨u,b1,b2⟩:=Z.ex;let⟨v,c1,c2⟩:=U.ex;⟨_,λc=>Nh (o1 c) (a1 c) (b1 c) (c1 c),V5 o2 a2 b2 c2⟩
def inK(S:List Key)(k:Key):Bool:=S.any λx=>decide (x=k)
def jJ(S:List Key)(k:Key):List Key:=if inK S k then S else S++[k]
def tY(ks:List Key):List Key:=ks.foldl jJ []
variable{S:List Key}
theorem qT:inK S k=true↔k∈S:=by
 unfold inK;rw[abe];constructor
 .rintro⟨x,h1,h2⟩
  rw[←of_decide_eq_true h2];exact h1
 .exact λh=>⟨k,h,by simp⟩
theorem Gs{x:Key}:inK (jJ S k) x=(inK S x||decide (x=k)):=by
 rw[Z6,aeR,qT,qT,Z1];unfold jJ;split
 .rename_i h
  rw[qT]at h;exact⟨.inl,λz=>z.elim id λz=>by rw[z];exact h⟩
 .simp
theorem m6:(jJ S k).length=if inK S k then S.length else S.length+1:=by
 unfold jJ;split<;>simp
theorem CZ{P:Yu}{w:World}(r:RelV (kV k) u):u.scannable=true:=by
 cases k with
 |inl i=>obtain⟨t,rfl⟩:=r;rfl
 |inr x=>obtain⟨t,rfl⟩:=r;rfl
variable{A:Y0}{l:Addr}
theorem Nk{S it:Addr}(hh:A.handled=none)(Z:ks.length=its.length)(hk:∀(j:Nat)(k:Key)(v:Value),ks[j]? =some k->its[j]? =some v->RelV (kV k) v)(U:its.length+1<abA)(nS:S≠it)(nl:l≠it)(a6:l≠S):∀(m i:Nat)(acc:List Key)(s:X4),its.length-i=m->i<=its.length->s.heap.IsList l its.toArray->s.heap.IsListIter it l i->s.heap.SetOf (bA prog w) S (inK acc) acc.length->acc.length<=i->
  (∀h' tk,(∀b o,b≠S->b≠it->s.heap.get? b=some o->h'.get? b=some o)->h'.SetOf (bA prog w) S (inK ((ks.drop i).foldl jJ acc)) ((ks.drop i).foldl jJ acc).length->R (.ok (.ret .none)) {s with heap:=h',toks:=tk})->
  abm (model prog w) A (.builtin "set.update.loop" ⟨[.ref S,.ref it],[]⟩) R s:=by
 intro m
 induction m with
 |zero=>
  intro i acc s V hi pl q hS Y k;have e:i=its.length:=by omega
  subst e;refine ZZ aaO ?_;rw[ZL Z2 _];unfold Builtin.«set.update.loop»;dsimp only;refine X3 (abW (show A.in1.handled=none from hh) q pl (by simp) λh' D=>?_);dsimp only;refine Yg (k h' _ (λb o _ b2 e=>D b o b2 e) ?_);rw[←Z,ZM];obtain⟨o,es,ep,t,J,rest⟩:=hS;exact⟨o,es,ep,t,D S _ nS J,rest⟩
 |succ m ih=>
  intro i acc s V hi pl q hS Y k;have z:i<its.length:=by omega
  have I:i<ks.length:=by omega
  refine ZZ aaO ?_;rw[ZL Z2 _];unfold Builtin.«set.update.loop»;dsimp only;refine X3 (abJ q pl (x:=its[i]) (by simp[z]) λh1 a1 a0=>?_);dsimp only;have a4:h1.SetOf (bA prog w) S (inK acc) acc.length:=by
   obtain⟨o,es,ep,t,J,rest⟩:=hS;exact⟨o,es,ep,t,(a0.2 S nS).trans J,rest⟩
  have rk:=hk i ks[i] its[i] (X5 I) (X5 z);refine X3 (ZF ?_);unfold setAdd;refine ZF ?_;refine X3 ((bA prog w).pyHash (k:=ks[i]) (lr rk) ?_);refine adB (knd:=bA prog w) (lr rk) (CZ (P:=prog) (w:=w) rk) a4 (by omega) λh2 B a2=>?_;refine Yg ⟨abP Z2 _,?_⟩;have a5:h2.SetOf (bA prog w) S (inK (jJ acc ks[i])) (jJ acc ks[i]).length:=by
   have e1:(λO=>inK acc O||decide (O=ks[i]))=inK (jJ acc ks[i]):=funext λO=>Gs.symm;rw[←e1,m6];exact a2
  refine ih (i+1) (jJ acc ks[i]) _ (by omega) z ?_ ?_ a5 ?_ λh' tk kp a3=>k h' tk (λb o b1 b2 e=>kp b o b1 b2 ((B.2 b b1).trans ((a0.2 b b2).trans e))) ?_
  .obtain⟨o,h1',h2'⟩:=pl
   exact⟨o,(B.2 l a6).trans ((a0.2 l nl).trans h1'),h2'⟩
  .exact a1.extBut B.extBut (Zr nS)
  .rw[m6]
   split<;>omega
  .rw[Z0 I]
   exact a3
abbrev iK(led:Bool):Obj:={cls:=.type "set",dict:=none,data:=.set #[] 0 (.fresh 0 0 led)}
def rT(prog:Yu)(w:World)(s:X4)(ks:List Key)(B:X4):Prop:=∃h' tk,B={s with heap:=h',toks:=tk}/\h'.SetOf (bA prog w) s.heap.objs.size (inK (tY ks)) (tY ks).length/\∀b o,s.heap.get? b=some o->h'.get? b=some o
variable{E:Value->X4->Prop}
theorem Kw(hh:A.handled=none)(Z:ks.length=its.length)(J:∀(j:Nat)(k:Key)(v:Value),ks[j]? =some k->its[j]? =some v->RelV (kV k) v)(U:its.length+1<abA)(pl:s.heap.IsList l its.toArray){R:aeZ->X4->Prop}
  (V:∀B,rT prog w s ks B->R (.done (.ret .none)) B):wpAny (model prog w) A (Builtin.«set.__init__» ⟨[.ref s.heap.objs.size,.ref l],[]⟩) R E {s with heap:=s.heap.push (iK led)}:=by
 obtain⟨ol,a3,D,nl,Y⟩:=pl;obtain⟨a9,a1,a6,a0⟩:=ol;simp only at D Y;subst D Y;have hS:(s.heap.push (iK led)).get? s.heap.objs.size=some (iK led):=Ym _ rfl;have I:acC {s with heap:=s.heap.push (iK led)} (.ref s.heap.objs.size) "set":=⟨_,hS,rfl⟩;have a2:(s.heap.push (iK led)).get? l=some {cls:=.type "list",dict:=a1,data:=.seq its.toArray nl,slots:=a0}:=X6 _ a3;have b0:=F.sub_list_set;have a8:=F.sub_list_frozenset;have q:(aaB "list"==aaB "dict")=false:=by decide
 have O:(s.heap.push (iK led)).IsList l its.toArray:=⟨_,a2,rfl,nl,rfl⟩;unfold Builtin.«set.__init__» noKeywords acg;generalize a7:acQ=PI
 wp_walk
 subst a7;refine aaZ O ?_;refine X3 (adC ?_);have a4:l<s.heap.objs.size:=Yk a3;refine Nk (prog:=prog) (w:=w) (its:=its) (ks:=ks) (A:=A) (S:=s.heap.objs.size) (l:=l) hh Z J U ?_ ?_ (Yw a4) (its.length-0) 0 [] _ rfl (aaV _) ?_ ?_ ?_ (Nat.le_refl _) λh' tk kp z=>?_
 .show s.heap.objs.size≠(s.heap.push (iK led)).objs.size
  rw[aan];exact Yw (abd _)
 .show l≠(s.heap.push (iK led)).objs.size
  rw[aan];exact Yw (aax a4)
 .exact O.push _
 .exact⟨_,Ym _ rfl,rfl,rfl⟩
 .have hget:((s.heap.push (iK led)).push {cls:=.type "list_iterator",data:=.fields #[.ref l,.int 0 0]}).get? s.heap.objs.size=some (iK led):=X6 _ hS
  letI:BEq Key:=instBEqOfDecidableEq
  haveI:LawfulBEq Key:=inferInstance
  have e0:(λ_:Key=>false)=inK []:=funext λ_=>rfl;rw[←e0];exact(acq (knd:=bA prog w) led).setOf hget (by unfold abA;omega)
 .refine Yg ?_
  show wpAny _ _ (ret aba) _ _ _;refine Yg (V _ ⟨h',tk,rfl,by rw[acf]at z;exact z,λb o e=>?_⟩);have a5:b<s.heap.objs.size:=Yk e;refine kp b o (Yw a5) ?_ (X6 _ (X6 _ e));show b≠(s.heap.push (iK led)).objs.size;rw[aan];exact Yw (aax a5)
variable{Q:Value->X4->Prop}
theorem JF(hh:A.handled=none)(a2:ks.length=its.length)(J:∀(j:Nat)(k:Key)(v:Value),ks[j]? =some k->its[j]? =some v->RelV (kV k) v)(U:its.length+1<abA)(pl:s.heap.IsList l its.toArray)
  (h:∀B,rT prog w s ks B->Q (.ref s.heap.objs.size) B):wpAny (model prog w) A (call (.type "set") [.ref l]) Q E s:=by
 obtain⟨c,tl,a4⟩:=Zu.mro;have a1:=Zu.made;have a3:=Zu.sub;refine wpAny_call (codeAny_of_tree ?_);show wpAny _ _ (callAny (.type "set") _) _ _ _;refine Yg ⟨aej _ (by decide +kernel),ZZ aex ?_⟩;rw[aek (adD "set" [.ref l] []) rfl];have h1:=Zu.notType;have h2:=Zu.canCreate;have a6:=F.typeCall_set_1 (.ref l)
 repeat(any_goals(first|assumption|wp_step))
 refine aaG (code_set_new_1 (.ref l) (E:=E) (Q₁:=λobj a0=>∃led:Bool,obj= .ref s.heap.objs.size/\a0={s with heap:=s.heap.push (iK led)}) λled=>⟨led,rfl,rfl⟩) λr a0 Z=>?_;cases r with
 |error e=>exact Z
 |ok fl=>
  cases fl with
  |ret obj=>
   obtain⟨led,rfl,rfl⟩:=Z;have hS:(s.heap.push (iK led)).get? s.heap.objs.size=some (iK led):=Ym _ rfl;have I:acC {s with heap:=s.heap.push (iK led)} (.ref s.heap.objs.size) "set":=⟨_,hS,rfl⟩;have z:=Zu.init.lookup;have a5:=Zu.init.bind (.ref s.heap.objs.size)
   repeat(any_goals(first|assumption|wp_step))
   refine aaG (ab9 (R:=wants (λr V=>r= .none/\rT prog w s ks V) E) Zu.init.plain F.entry_set_init (check_set_init_1 I ?_)) λY V q=>?_
   .exact Kw (led:=led) (by simp[hh]) a2 J U pl λB O=>⟨rfl,O⟩
   .cases Y with
    |error e=>exact q
    |ok D=>
     cases D with
     |ret r=>
      obtain⟨rfl,O⟩:=q
      repeat(any_goals(first|assumption|wp_step))
      exact h _ O
     |_=>exact q.elim
  |_=>exact Z.elim
theorem Ij{S it:Addr}(hh:A.handled=none)(Z:ks.length=its.length)(hk:∀(j:Nat)(k:Key)(v:Value),ks[j]? =some k->its[j]? =some v->RelV (kV k) v)(U:its.length+1<abA)(nS:S≠it)(nl:l≠it)(a6:l≠S):∀(m i:Nat)(acc:List Key)(s:X4),its.length-i=m->i<=its.length->s.heap.IsTuple l its.toArray->s.heap.IsTupleIter it l i->s.heap.SetOf (bA prog w) S (inK acc) acc.length->acc.length<=i->
  (∀h' tk,(∀b o,b≠S->b≠it->s.heap.get? b=some o->h'.get? b=some o)->h'.SetOf (bA prog w) S (inK ((ks.drop i).foldl jJ acc)) ((ks.drop i).foldl jJ acc).length->R (.ok (.ret .none)) {s with heap:=h',toks:=tk})->
  abm (model prog w) A (.builtin "set.update.loop" ⟨[.ref S,.ref it],[]⟩) R s:=by
 intro m
 induction m with
 |zero=>
  intro i acc s V hi pl q hS Y k;have e:i=its.length:=by omega
  subst e;refine ZZ aaO ?_;rw[ZL Z2 _];unfold Builtin.«set.update.loop»;dsimp only;refine X3 (ade (show A.in1.handled=none from hh) q pl (by simp) λh' D=>?_);dsimp only;refine Yg (k h' _ (λb o _ b2 e=>D b o b2 e) ?_);rw[←Z,ZM];obtain⟨o,es,ep,t,J,rest⟩:=hS;exact⟨o,es,ep,t,D S _ nS J,rest⟩
 |succ m ih=>
  intro i acc s V hi pl q hS Y k;have z:i<its.length:=by omega
  have I:i<ks.length:=by omega
  refine ZZ aaO ?_;rw[ZL Z2 _];unfold Builtin.«set.update.loop»;dsimp only;refine X3 (ac4 q pl (x:=its[i]) (by simp[z]) λh1 a1 a0=>?_);dsimp only;have a4:h1.SetOf (bA prog w) S (inK acc) acc.length:=by
   obtain⟨o,es,ep,t,J,rest⟩:=hS;exact⟨o,es,ep,t,(a0.2 S nS).trans J,rest⟩
  have rk:=hk i ks[i] its[i] (X5 I) (X5 z);refine X3 (ZF ?_);unfold setAdd;refine ZF ?_;refine X3 ((bA prog w).pyHash (k:=ks[i]) (lr rk) ?_);refine adB (knd:=bA prog w) (lr rk) (CZ (P:=prog) (w:=w) rk) a4 (by omega) λh2 B a2=>?_;refine Yg ⟨abP Z2 _,?_⟩;have a5:h2.SetOf (bA prog w) S (inK (jJ acc ks[i])) (jJ acc ks[i]).length:=by
   have e1:(λO=>inK acc O||decide (O=ks[i]))=inK (jJ acc ks[i]):=funext λO=>Gs.symm;rw[←e1,m6];exact a2
  refine ih (i+1) (jJ acc ks[i]) _ (by omega) z ?_ ?_ a5 ?_ λh' tk kp a3=>k h' tk (λb o b1 b2 e=>kp b o b1 b2 ((B.2 b b1).trans ((a0.2 b b2).trans e))) ?_
  .obtain⟨o,h1',h2'⟩:=pl
   exact⟨o,(B.2 l a6).trans ((a0.2 l nl).trans h1'),h2'⟩
  .exact a1.extBut B.extBut (Zr nS)
  .rw[m6]
   split<;>omega
  .rw[Z0 I]
   exact a3
theorem Im(hh:A.handled=none)(Z:ks.length=its.length)(J:∀(j:Nat)(k:Key)(v:Value),ks[j]? =some k->its[j]? =some v->RelV (kV k) v)(U:its.length+1<abA)(pl:s.heap.IsTuple l its.toArray){R:aeZ->X4->Prop}
  (V:∀B,rT prog w s ks B->R (.done (.ret .none)) B):wpAny (model prog w) A (Builtin.«set.__init__» ⟨[.ref s.heap.objs.size,.ref l],[]⟩) R E {s with heap:=s.heap.push (iK led)}:=by
 obtain⟨ol,a3,D,nl,Y⟩:=pl;obtain⟨a9,a1,a6,a0⟩:=ol;simp only at D Y;subst D Y;have hS:(s.heap.push (iK led)).get? s.heap.objs.size=some (iK led):=Ym _ rfl;have I:acC {s with heap:=s.heap.push (iK led)} (.ref s.heap.objs.size) "set":=⟨_,hS,rfl⟩;have a2:(s.heap.push (iK led)).get? l=some {cls:=.type "tuple",dict:=a1,data:=.seq its.toArray nl,slots:=a0}:=X6 _ a3;have b0:=F.sub_tuple_set;have a8:=F.sub_tuple_frozenset;have q:(aaB "tuple"==aaB "dict")=false:=by decide
 have O:(s.heap.push (iK led)).IsTuple l its.toArray:=⟨_,a2,rfl,nl,rfl⟩;unfold Builtin.«set.__init__» noKeywords acg;generalize a7:acQ=PI
 wp_walk
 subst a7;refine wpAny_pyIter_tuple O ?_;refine X3 (adC ?_);have a4:l<s.heap.objs.size:=Yk a3;refine Ij (prog:=prog) (w:=w) (its:=its) (ks:=ks) (A:=A) (S:=s.heap.objs.size) (l:=l) hh Z J U ?_ ?_ (Yw a4) (its.length-0) 0 [] _ rfl (aaV _) ?_ ?_ ?_ (Nat.le_refl _) λh' tk kp z=>?_
 .show s.heap.objs.size≠(s.heap.push (iK led)).objs.size
  rw[aan];exact Yw (abd _)
 .show l≠(s.heap.push (iK led)).objs.size
  rw[aan];exact Yw (aax a4)
 .exact O.push _
 .exact⟨_,Ym _ rfl,rfl,rfl⟩
 .have hget:((s.heap.push (iK led)).push {cls:=.type "tuple_iterator",data:=.fields #[.ref l,.int 0 0]}).get? s.heap.objs.size=some (iK led):=X6 _ hS
  letI:BEq Key:=instBEqOfDecidableEq
  haveI:LawfulBEq Key:=inferInstance
  have e0:(λ_:Key=>false)=inK []:=funext λ_=>rfl;rw[←e0];exact(acq (knd:=bA prog w) led).setOf hget (by unfold abA;omega)
 .refine Yg ?_
  show wpAny _ _ (ret aba) _ _ _;refine Yg (V _ ⟨h',tk,rfl,by rw[acf]at z;exact z,λb o e=>?_⟩);have a5:b<s.heap.objs.size:=Yk e;refine kp b o (Yw a5) ?_ (X6 _ (X6 _ e));show b≠(s.heap.push (iK led)).objs.size;rw[aan];exact Yw (aax a5)
theorem Es(hh:A.handled=none)(a2:ks.length=its.length)(J:∀(j:Nat)(k:Key)(v:Value),ks[j]? =some k->its[j]? =some v->RelV (kV k) v)(U:its.length+1<abA)(pl:s.heap.IsTuple l its.toArray)
  (h:∀B,rT prog w s ks B->Q (.ref s.heap.objs.size) B):wpAny (model prog w) A (call (.type "set") [.ref l]) Q E s:=by
 obtain⟨c,tl,a4⟩:=Zu.mro;have a1:=Zu.made;have a3:=Zu.sub;refine wpAny_call (codeAny_of_tree ?_);show wpAny _ _ (callAny (.type "set") _) _ _ _;refine Yg ⟨aej _ (by decide +kernel),ZZ aex ?_⟩;rw[aek (adD "set" [.ref l] []) rfl];have h1:=Zu.notType;have h2:=Zu.canCreate;have a6:=F.typeCall_set_1 (.ref l)
 repeat(any_goals(first|assumption|wp_step))
 refine aaG (code_set_new_1 (.ref l) (E:=E) (Q₁:=λobj a0=>∃led:Bool,obj= .ref s.heap.objs.size/\a0={s with heap:=s.heap.push (iK led)}) λled=>⟨led,rfl,rfl⟩) λr a0 Z=>?_;cases r with
 |error e=>exact Z
 |ok fl=>
  cases fl with
  |ret obj=>
   obtain⟨led,rfl,rfl⟩:=Z;have hS:(s.heap.push (iK led)).get? s.heap.objs.size=some (iK led):=Ym _ rfl;have I:acC {s with heap:=s.heap.push (iK led)} (.ref s.heap.objs.size) "set":=⟨_,hS,rfl⟩;have z:=Zu.init.lookup;have a5:=Zu.init.bind (.ref s.heap.objs.size)
   repeat(any_goals(first|assumption|wp_step))
   refine aaG (ab9 (R:=wants (λr V=>r= .none/\rT prog w s ks V) E) Zu.init.plain F.entry_set_init (check_set_init_1 I ?_)) λY V q=>?_
   .exact Im (led:=led) (by simp[hh]) a2 J U pl λB O=>⟨rfl,O⟩
   .cases Y with
    |error e=>exact q
    |ok D=>
     cases D with
     |ret r=>
      obtain⟨rfl,O⟩:=q
      repeat(any_goals(first|assumption|wp_step))
      exact h _ O
     |_=>exact q.elim
  |_=>exact Z.elim
def Oz(K:Yb)(t:TA):TE:=λσ H Q=>t σ H λB H1=>∃a ks,B=[.ref a]/\(SqL K H1 a (List.map kV ks)∨SqT K H1 a (List.map kV ks))/\aad ks<4000/\Q (.int (tY ks).length) H1
theorem Cv(ks:List Key):(tY ks).length<=ks.length:=by
 have:∀(ks acc:List Key),(ks.foldl jJ acc).length<=acc.length+ks.length:=by
  intro ks
  induction ks with
  |nil=>intro acc;simp
  |cons k r J=>
   intro acc;have h1:=J (jJ acc k);have h2:(jJ acc k).length<=acc.length+1:=by rw[m6];split<;>omega
   simp![aeS,Yd];omega
 have:=this ks [];rw[Yt,aar]at this;exact this
variable{X:Cx}{t:TA}{p1 q1 q2:Pos}
theorem Jh(hg:Gl X "len")(V:X.mg "len"=none)(a6:X.mg "set"=none)(Y:PA X [e] t)(a7:Gl X "set":=by rfl)(O:Yh [e] X.env=[(false,eval e X.env)]:=by rfl)(F:X.calm=true:=by rfl) :
  PE X (.Call (.Name "len" p1) [.Call (.Name "set" p2) [e] [] q2] [] q1) (Oz X.K t):=by
 intro pins s σ H Q I h;refine aaR (nR I hg V Y_ ?_);refine abL rfl (ab8 ?_);show wpAny _ _ (spliced ((false,eval (.Call (.Name "set" p2) [e] [] q2) X.env)::Zx q1 (Yh [] X.env))) _ _ s;refine aeb ?_;refine aaR (nR I a7 a6 boot_set ?_);refine Z5 (thn (Y q2 pins s σ H _ I h) λus Z ⟨B,H1,I1,r1,a5⟩=>?_) O rfl;obtain⟨a,ks,ev,D,hz,q⟩:=a5;subst ev;obtain⟨u,rfl,ru⟩:=vals1 r1;cases ru;have hh:X.A.handled=none:=I1.ok.hd F;rcases D with D|D
 .obtain⟨its,rv,pl,hz2⟩:=I1.list D
  have z:=rv.length;rw[X_]at z;refine JF (its:=its) (ks:=ks) hh z (λj k v e1 e2=>?_) (by show its.length+1<4096;omega) pl.isList λs2 a1=>?_
  .have:(List.map kV ks)[j]? =some (kV k):=by rw[List.getElem?_map,e1];rfl
   obtain⟨w',h1,h2⟩:=rv.get this;rw[e2]at h1;cases h1;exact h2
  .refine acF ?_
   obtain⟨h',tk,rfl,hS,a0⟩:=a1;have I2:Inv X pins σ H1 {Z with heap:=h',toks:=tk}:=I1.kept (t':=tk) a0;obtain⟨o,es,ep,tb,J,a2,hd,a8,a3,U,hf,hn⟩:=hS;have a4:=Cv ks;refine call_len_set J a2 hd hf (by rw[hn];omega) ?_;rw[hn];exact⟨.int (tY ks).length,H1,I2.tok _,⟨_,rfl⟩,q⟩
 .obtain⟨its,rv,pl,hz2⟩:=I1.tuple D
  have z:=rv.length;rw[X_]at z;refine Es (its:=its) (ks:=ks) hh z (λj k v e1 e2=>?_) (by show its.length+1<4096;omega) pl λs2 a1=>?_
  .have:(List.map kV ks)[j]? =some (kV k):=by rw[List.getElem?_map,e1];rfl
   obtain⟨w',h1,h2⟩:=rv.get this;rw[e2]at h1;cases h1;exact h2
  .refine acF ?_
   obtain⟨h',tk,rfl,hS,a0⟩:=a1;have I2:Inv X pins σ H1 {Z with heap:=h',toks:=tk}:=I1.kept (t':=tk) a0;obtain⟨o,es,ep,tb,J,a2,hd,a8,a3,U,hf,hn⟩:=hS;have a4:=Cv ks;refine call_len_set J a2 hd hf (by rw[hn];omega) ?_;rw[hn];exact⟨.int (tY ks).length,H1,I2.tok _,⟨_,rfl⟩,q⟩
variable{bs:List Bool}
theorem range_all:((Y9 bs.length).all λi=>bs.getD i true)=bs.all id:=by
 induction bs with
 |nil=>rfl
 |cons b r J=>
  rw[Yd,aaX,abk,abz,abk,←J];rfl
theorem range_any:((Y9 bs.length).any λi=>bs.getD i true)=bs.any id:=by
 induction bs with
 |nil=>rfl
 |cons b r J=>
  rw[Yd,aaX,aaP,acY,aaP,←J];rfl
variable{i:Nat}
theorem Rv(O:Vals (bs.map V.bl) its){v:Value}(h:its.toArray[i]? =some v):v= .bool (bs.getD i true):=by
 have h:its[i]? =some v:=by simpa using h
 have Z:=O.length;rw[X_]at Z;have hi:i<bs.length:=by rw[Z];exact(List.getElem?_eq_some_iff.mp h).1
 obtain⟨u,h1,h2⟩:=O.get (show(bs.map V.bl)[i]? =some (V.bl bs[i])by rw[List.getElem?_map,X5 hi];rfl);rw[h]at h1;cases h1;cases h2;simp[List.getD,hi]
theorem xF{xs:List V}(I:Inv X pins σ H s)(pl:s.heap.IsList a its.toArray) :
  a≠s.heap.objs.size:=by
 obtain⟨o,h,_⟩:=pl;exact Yw (Yk h)
theorem JB(F:X.calm=true):gQ X (.builtin "all") (λxs H Q=>∃a bs,xs=[.ref a]/\SqL X.K H a (List.map V.bl bs)/\Q (.bl (List.all bs id)) H):=by
 intro pins s σ H xs us Q I r h;obtain⟨a,bs,rfl,D,q⟩:=h;obtain⟨u,rfl,ru⟩:=vals1 r;cases ru;obtain⟨its,O,pl,hz⟩:=I.list D;have U:X.A.handled=none:=I.ok.hd F;have Y:a≠s.heap.objs.size:=xF (xs:=[]) I pl.isList;have Z:=O.length;rw[X_]at Z;refine call_all_walk (aaZ pl.isList ⟨s.heap.objs.size,[s.heap.objs.size,a],[s.heap.objs.size],its.toArray.size,_,_,λi=>bs.getD i true,rfl,Walks.list (show X.A.in1.handled=none from U) s.heap.objs.size a Y its.toArray,⟨⟨_,Ym _ rfl,rfl,rfl⟩,pl.isList.push _⟩,λi v B Q2 z J hQ=>?_,λh' tk kp=>?_⟩)
 .rw[Rv O J]
  exact Z4 hQ
 .rw[List.size_toArray,←Z,range_all]
  exact⟨.bl _,H,I.kept (t':=tk) λb o e=>kp b o (by simp;exact Yw (Yk e)) (X6 _ e),rfl,q⟩
theorem Jx(F:X.calm=true):gQ X (.builtin "any") (λxs H Q=>∃a bs,xs=[.ref a]/\SqL X.K H a (List.map V.bl bs)/\Q (.bl (List.any bs id)) H):=by
 intro pins s σ H xs us Q I r h;obtain⟨a,bs,rfl,D,q⟩:=h;obtain⟨u,rfl,ru⟩:=vals1 r;cases ru;obtain⟨its,O,pl,hz⟩:=I.list D;have U:X.A.handled=none:=I.ok.hd F;have Y:a≠s.heap.objs.size:=xF (xs:=[]) I pl.isList;have Z:=O.length;rw[X_]at Z;refine call_any_walk (aaZ pl.isList ⟨s.heap.objs.size,[s.heap.objs.size,a],[s.heap.objs.size],its.toArray.size,_,_,λi=>bs.getD i true,rfl,Walks.list (show X.A.in1.handled=none from U) s.heap.objs.size a Y its.toArray,⟨⟨_,Ym _ rfl,rfl,rfl⟩,pl.isList.push _⟩,λi v B Q2 z J hQ=>?_,λh' tk kp=>?_⟩)
 .rw[Rv O J]
  exact Z4 hQ
 .rw[List.size_toArray,←Z,range_any]
  exact⟨.bl _,H,I.kept (t':=tk) λb o e=>kp b o (by simp;exact Yw (Yk e)) (X6 _ e),rfl,q⟩
def Kl(K:Yb):R2:=λx y H Q=>WQ K x y H Q∨∃a xs,x= .ref a/\SqL K H a xs/\y= .int (-1)/\∀p,H p=none->Q (.ref p) (upd H p (.lst xs.reverse))
variable{es:Expr}{ts:TE}
theorem J1(Y:PE X e te)(O:PE X es ts):PE X (.Subscript e (.Slice none none (some es) p2) pos) (tOp (Kl X.K) te ts):=by
 intro pins s σ H Q I h;refine Subscript_ (thn (Y pins s σ H _ I h) λv Z ⟨x,H1,J,r1,q1⟩=>?_);refine wpAny_Slice ?_;rw[adV];refine Yg (Yg (wpAny_evalPart_some (thn (O pins Z σ H1 _ J q1) λB s2 ⟨y,H2,V,r2,q2⟩=>?_)));rcases q2 with q2|⟨a,xs,rfl,hx,rfl,q⟩
 .have I4:Inv X pins σ H2 {s2 with heap:=s2.heap.push {cls:=.type "slice",data:=.fields #[.none,.none,B]}}:=V.kept (t':=s2.toks) λb ob q=>X6 _ q
  have D:aeW (s2.heap.push {cls:=.type "slice",data:=.fields #[.none,.none,B]}) s2.heap.objs.size .none .none B:=acp ..;obtain⟨a,xs,rfl,hx,q⟩:=q2;cases r1;obtain⟨its,r,U,hz⟩:=I4.tuple hx;have z:=r.length;show wpAny (model X.prog X.w) X.A (acz e (.Slice none none (some es) p2) (.ref a) (.ref s2.heap.objs.size)) (EP X pins σ Q) X.xe {s2 with heap:=s2.heap.push {cls:=.type "slice",data:=.fields #[.none,.none,B]}};refine adI (ops:=[.ref a,.ref s2.heap.objs.size]) U.typeIs Y7.lookup ?_ (by with_unfolding_all rfl);rcases q with⟨rfl,q⟩|⟨rfl,q⟩
  .obtain⟨t,rfl⟩:=r2
   have e1:Y6 none none ((some (1:Int)).getD 1) (its.length:Int)=(0,(its.length:Int)):=rfl;have e2:YS 0 (its.length:Int) ((some (1:Int)).getD 1)=its.length:=by
    show YS ((0:Nat):Int) (its.length:Int) 1=its.length;rw[HT.places_gen];omega
   refine ji (items:=its) (st:=some 1) U D .none .none (.int 1 t) (by decide) e1 e2 (λ_=>⟨.ref a,H2,I4,rfl,q⟩) (λF=>absurd ⟨rfl,rfl,rfl⟩ F) ?_;exact Y4 (wu _ _ _ _) (by omega)
  .obtain⟨t,rfl⟩:=r2
   have e1:Y6 none none ((some (-1:Int)).getD 1) (its.length:Int)=((its.length:Int)-1,-1):=rfl;have e2:YS ((its.length:Int)-1) (-1) ((some (-1:Int)).getD 1)=its.length:=by
    show(if(-1:Int)>0 then _ else(if(its.length:Int)-1> -1 then((its.length:Int)-1-(-1)-1) / (- (-1))+1 else 0)).toNat=its.length;rw[YB (by decide),show(- (-1:Int))=1 by decide,Int.ediv_one];split<;>omega
   refine ji (items:=its) (st:=some (-1)) U D .none .none (.int (-1) t) (by decide) e1 e2 (λF=>absurd F.2.1 (by decide)) (λ_=>?_) ?_
   .show EP X pins σ Q (.ref _) {s2 with heap:=Heap.push _ {cls:=.type "tuple",data:=.seq (nG its ((its.length:Int)-1) (-1) its.length).toArray}}
    rw[Lr];refine⟨.ref _,_,I4.laid (t':=s2.toks) (o:=.tup xs.reverse) (λb ob q=>X6 _ q) (Nat.le_refl _) ?_,rfl,q _ (I4.hok.fresh (Nat.le_refl _))⟩;exact⟨by rw[aaM];exact hz,_,r.reverse,mq.new _ _⟩
   .exact Y4 (wu _ _ _ _) (by omega)
 .have I4:Inv X pins σ H2 {s2 with heap:=s2.heap.push {cls:=.type "slice",data:=.fields #[.none,.none,B]}}:=V.kept (t':=s2.toks) λb ob q=>X6 _ q
  have D:aeW (s2.heap.push {cls:=.type "slice",data:=.fields #[.none,.none,B]}) s2.heap.objs.size .none .none B:=acp ..;cases r1;obtain⟨t,rfl⟩:=r2;obtain⟨its,r,U,hz⟩:=I4.list hx;have z:=r.length;show wpAny (model X.prog X.w) X.A (acz e (.Slice none none (some es) p2) (.ref a) (.ref s2.heap.objs.size)) (EP X pins σ Q) X.xe {s2 with heap:=s2.heap.push {cls:=.type "slice",data:=.fields #[.none,.none,.int (-1) t]}};refine adI (ops:=[.ref a,.ref s2.heap.objs.size]) U.isList.typeIs acG.lookup ?_ (by with_unfolding_all rfl);refine acT U.isList D .none .none (.int (-1) t) (by decide) ?_ (by rw[List.size_toArray];omega);rw[PySem.W.krv_pick];refine⟨.ref _,_,I4.laid (t':=s2.toks) (o:=.lst xs.reverse) (λb ob q=>X6 _ q) (Nat.le_refl _) ?_,rfl,q _ (I4.hok.fresh (Nat.le_refl _))⟩;exact⟨by rw[aaM];exact hz,_,0,r.reverse,Ym _ rfl⟩
def qW:D->D->Option D
 |.lst _ ds,.int i=>if i= -1 then some (.lst .own ds.reverse)else none
 |.tup ds,.int i=>if i= -1 then some (.tup ds.reverse)else if i=1 then some (.tup ds)else none
 |_,_=>none
theorem JX:OpV G (Kl G.K) qW:=λdx dy d e x y H W Lx Ly rx ry nd I w Q q=>by
 unfold qW at e;split at e
 .split at e
  .rename_i hi
   subst hi;cases e;obtain⟨rfl,rfl⟩:=bw ry;rw[Rep]at rx;obtain⟨a,xs,M,rfl,Z,O⟩:=rx;obtain⟨M',h1,pm⟩:=Z.revL;refine .inr ⟨a,xs,rfl,O.sq,rfl,λp hp=>?_⟩;have B:Same H (upd H p (.lst xs.reverse)):=Same.new hp;have F:∀a∈M',a∈Lx++[]:=λa Y=>by rw[Yz];exact O.sub.subset (pm.mem_iff.mp Y)
   have np:p∉M':=λz=>by obtain⟨o,J,_⟩:=h1.dom p z;rw[hp]at J;cases J
   have D:M'.Nodup:=pm.nodup_iff.mpr (O.sub.nodup (Yr.mp nd).1);refine q (.ref p) _ (p::M') B ?_ (λa Y=>(Yj.mp Y).elim (λz=>.inr (by rw[z];exact hp)) λz=>.inl (F a z)) (Yy.mpr ⟨np,D⟩);rw[Rep];exact⟨p,_,M',rfl,h1.up ⟨B,λb u U f=>⟨λz=>z.elim (λz=>(Yj.mp z).elim (λz=>by rw[z,hp]at U;cases U) λz=>f.1 (I b (F b z)).1) λz=>f.1 z.1,f.2⟩,λ_ _ _ f=>f⟩,aW,rfl⟩
  .cases e
 .obtain⟨rfl,rfl⟩:=bw ry
  have V:=rx;rw[Rep]at rx;obtain⟨a,xs,rfl,ht,Z⟩:=rx;split at e
  .rename_i hi
   subst hi;cases e;obtain⟨M',h1,pm⟩:=Z.revL;refine .inl ⟨a,xs,rfl,SqT.of ht,.inr ⟨rfl,λp hp=>?_⟩⟩;have B:Same H (upd H p (.tup xs.reverse)):=Same.new hp;have F:∀a∈M',a∈Lx++[]:=λa Y=>by rw[Yz];exact pm.mem_iff.mp Y
   have D:M'.Nodup:=pm.nodup_iff.mpr (Yr.mp nd).1;refine q (.ref p) _ M' B ?_ (λa Y=>.inl (F a Y)) D;rw[Rep];exact⟨p,_,rfl,aW,h1.up ⟨B,λb u U f=>⟨λz=>z.elim (λz=>f.1 (I b (F b z)).1) λz=>f.1 z.1,f.2⟩,λ_ _ _ f=>f⟩⟩
  .split at e
   .rename_i hi
    subst hi;cases e;exact .inl ⟨a,xs,rfl,SqT.of ht,.inl ⟨rfl,g8 V (ZG _ _) nd I q⟩⟩
   .cases e
 .cases e
variable{X:ι->Cx}
theorem O8{g:En->Option D}(Y:PV X G ob e f)(U:PV X G ob es g)(q:∀c,(X c).K=G.K:=by intro _;rfl):PV X G ob (.Subscript e (.Slice none none (some es) p2) pos) (e2 qW f g):=let⟨t,a1,a2⟩:=Y.ex;let⟨u,b1,b2⟩:=U.ex;⟨_,λc=>(by rw[←q c];exact J1 (a1 c) (b1 c)),CT JX a2 b2⟩
def jE:List D->Option (List Key)
 |[]=>some []
 |d::r=>(dG d).bind λk=>(jE r).map λt=>k::t
theorem sJ:∀{ds:List D}{ks:List Key}{xs:List V}{L:List Addr},jE ds=some ks->aM G H W ds xs L->xs=ks.map kV
 |[],ks,xs,L,h,r=>by cases h;exact r.inv0.1
 |d::t,ks,xs,L,h,r=>by
  obtain⟨x,ys,M,M',rfl,rfl,h1,h2⟩:=r.inv;cases e1:dG d with
  |none=>simp[jE,e1]at h
  |some k=>
   cases e2:jE t with
   |none=>simp[jE,e1,e2]at h
   |some w=>
    obtain rfl:k::w=ks:=by simpa[jE,e1,e2]using h
    rw[sJ e2 h2,iY h1 e1];rfl
def k_:List D->Option D
 |[.lst _ ds]=>if ds.length<4000 then(jE ds).map λks=>.int (tY ks).length else none
 |[.tup ds]=>if ds.length<4000 then(jE ds).map λks=>.int (tY ks).length else none
 |_=>none
theorem tL:∀{ds:List D}{ks:List Key},jE ds=some ks->ks.length=ds.length
 |[],ks,h=>by cases h;rfl
 |d::t,ks,h=>by
  cases e1:dG d with
  |none=>simp[jE,e1]at h
  |some k=>
   cases e2:jE t with
   |none=>simp[jE,e1,e2]at h
   |some w=>
    obtain rfl:k::w=ks:=by simpa[jE,e1,e2]using h
    simp[tL e2]
theorem Ec:CaV G (λB H Q=>∃a ks,B=[.ref a]/\(SqL G.K H a (List.map kV ks)∨SqT G.K H a (List.map kV ks))/\aad ks<4000/\Q (.int (tY ks).length) H) k_:=λds d e xs H W F r nd I w Q q=>by
 unfold k_ at e;split at e
 .split at e
  .rename_i m ds hl
   cases h1:jE ds with
   |none=>simp[h1]at e
   |some ks=>
    obtain rfl:D.int (tY ks).length=d:=by simpa[h1]using e
    obtain⟨x,rfl,rx⟩:=r.inv1;rw[Rep]at rx;obtain⟨a,ys,M,rfl,Z,O⟩:=rx;have:=sJ h1 Z;subst this;exact⟨a,ks,rfl,.inl O.sq,by rw[tL h1];exact hl,q.scal λ_=>dY⟩
  .cases e
 .split at e
  .rename_i ds hl
   cases h1:jE ds with
   |none=>simp[h1]at e
   |some ks=>
    obtain rfl:D.int (tY ks).length=d:=by simpa[h1]using e
    obtain⟨x,rfl,rx⟩:=r.inv1;rw[Rep]at rx;obtain⟨a,ys,rfl,U,Z⟩:=rx;have:=sJ h1 Z;subst this;exact⟨a,ks,rfl,.inr (SqT.of U),by rw[tL h1];exact hl,q.scal λ_=>dY⟩
  .cases e
 .cases e
theorem xm{f:En->Option (List D)}(B:∀c,Gl (X c) "len")(V:∀c,(X c).mg "len"=none)(z:∀c,(X c).mg "set"=none)(Y:PVA X G ob [e] f)(I:∀c,Gl (X c) "set":=by intro _;rfl)(O:∀c,Yh [e] (X c).env=[(false,eval e (X c).env)]:=by intro _;rfl)(F:∀c,(X c).calm=true:=by intro _;rfl)(q:∀c,(X c).K=G.K:=by intro _;rfl) :
 PV X G ob (.Call (.Name "len" p1) [.Call (.Name "set" p2) [e] [] q2] [] q1) (eAp k_ f):=let⟨t,a1,a2⟩:=Y.ex;⟨_,λc=>(by rw[←q c];exact Jh (B c) (V c) (z c) (a1 c) (I c) (O c) (F c)),wg Ec a2⟩
def zp:List D->Option (List Bool)
 |[]=>some []
 |.bl b::r=>(zp r).map λt=>b::t
 |_::_=>none
theorem vK:∀{ds:List D}{bs:List Bool}{xs:List V}{L:List Addr},zp ds=some bs->aM G H W ds xs L->xs=bs.map V.bl
 |[],ks,xs,L,h,r=>by cases h;exact r.inv0.1
 |d::t,ks,xs,L,h,r=>by
  obtain⟨x,ys,M,M',rfl,rfl,h1,h2⟩:=r.inv;cases d<;>simp[zp]at h;obtain⟨w,q,rfl⟩:=h;rw[Rep]at h1;rw[vK q h2,h1.1];rfl
def p6:List D->Option D
 |[.lst _ ds]=>(zp ds).map λbs=>.bl (bs.all id)
 |_=>none
def Cq:List D->Option D
 |[.lst _ ds]=>(zp ds).map λbs=>.bl (bs.any id)
 |_=>none
theorem rJ(F:∀c,(X c).calm=true)(z:∀c,(X c).K=G.K:=by intro _;rfl):CaB X G (.builtin "all") p6:=⟨λxs H Q=>∃a bs,xs=[.ref a]/\SqL G.K H a (List.map V.bl bs)/\Q (.bl (List.all bs id)) H,λc=>by rw[←z c];exact JB (F c),λds d e xs H W B r nd I w Q q=>by
 unfold p6 at e;split at e
 .rename_i m ds
  cases h1:zp ds with
  |none=>simp[h1]at e
  |some ks=>
   obtain rfl:D.bl (ks.all id)=d:=by simpa[h1]using e
   obtain⟨x,rfl,rx⟩:=r.inv1;rw[Rep]at rx;obtain⟨a,ys,M,rfl,Z,O⟩:=rx;have:=vK h1 Z;subst this;exact⟨a,ks,rfl,O.sq,q.scal λ_=>fH⟩
 .cases e⟩
theorem Hc(F:∀c,(X c).calm=true)(z:∀c,(X c).K=G.K:=by intro _;rfl):CaB X G (.builtin "any") Cq:=⟨λxs H Q=>∃a bs,xs=[.ref a]/\SqL G.K H a (List.map V.bl bs)/\Q (.bl (List.any bs id)) H,λc=>by rw[←z c];exact Jx (F c),λds d e xs H W B r nd I w Q q=>by
 unfold Cq at e;split at e
 .rename_i m ds
  cases h1:zp ds with
  |none=>simp[h1]at e
  |some ks=>
   obtain rfl:D.bl (ks.any id)=d:=by simpa[h1]using e
   obtain⟨x,rfl,rx⟩:=r.inv1;rw[Rep]at rx;obtain⟨a,ys,M,rfl,Z,O⟩:=rx;have:=vK h1 Z;subst this;exact⟨a,ks,rfl,O.sq,q.scal λ_=>fH⟩
 .cases e⟩
def Kh:List D->Option D
 |[.non]=>some (.str "None")
 |[.bl b]=>some (.str (if b then "True" else "False"))
 |[.int i]=>if i.natAbs.log2<1920 then some (.str (toString i))else none
 |[.str x]=>some (.str x)
 |[d]=>if iM d=true/\(pyD (dt d)).depth<=50/\(pyD (dt d)).showable=true/\(pyD (dt d)).shown.length<=Yc then some (.str (pyD (dt d)).shown)else none
 |_=>none
theorem JZ{x:Str}:Rep G H W (.str x) (.str x) []:=by rw[Rep];exact⟨rfl,rfl⟩
def U3:D->Bool
 |.non=>true
 |.bl _=>true
 |.int _=>true
 |.str _=>true
 |_=>false
theorem Um(h:U3 d=true)(r:Rep G H W d v L):L=[]/\∀H' W',Rep G H' W' d v []:=by
 cases d<;>simp[U3]at h<;>rw[Rep]at r<;>obtain⟨rfl,rfl⟩:=r<;>exact⟨rfl,λ_ _=>by rw[Rep];exact⟨rfl,rfl⟩⟩
def kE(g g':D->D->Option D)(fa fb fc:En->Option D):En->Option D:=λρ=>(fa ρ).bind λx=>(fb ρ).bind λy=>if U3 y then(g x y).bind λr=>match r with
 |.bl true=>(fc ρ).bind λz=>g' y z
 |.bl false=>some (.bl false)
 |_=>none else none
theorem J5{r Z:R2}{g g':D->D->Option D}{tb tc:TE}{fa fb fc:En->Option D}(J:OpV G r g)(a0:OpV G Z g')(Y:RfE G ob ta fa)(U:RfE G ob tb fb)(F:RfE G ob tc fc):RfE G ob (M4 r Z ta tb tc) (kE g g' fa fb fc):=λρ d e σ H W rl w Q q=>by
 unfold kE at e;cases h1:fa ρ with
 |none=>simp[h1]at e
 |some dx=>
  cases h2:fb ρ with
  |none=>simp[h1,h2]at e
  |some dy=>
   rw[h1,h2]at e;simp![gD]at e;split at e
   .rename_i hsc
    cases V:g dx dy with
    |none=>simp[V]at e
    |some dr=>
     rw[V]at e;simp![gD]at e;refine RfE.two Y U h1 h2 rl w λx y H' L M s rx ry I nd w'=>?_;obtain⟨rfl,hy⟩:=Um hsc ry;refine J dx dy dr V x y H' _ L [] rx ry nd (w.tmp I) w' _ λv H2 L2 B O f2 n2=>?_;split at e
     .obtain⟨rfl,rfl⟩:=mH O
      refine⟨true,rfl,tK ?_⟩;cases h4:fc ρ with
      |none=>simp[h4]at e
      |some dz=>
       have e:g' dy dz=some d:=by simpa[h4]using e
       have u2:Up H H2 W W:=.same (s.trans B);have w2:WOk H2 W:=λa Y=>let⟨o,J,hm⟩:=w a Y;⟨o,(s.trans B) a o J,hm⟩;refine F ρ dz h4 σ H2 W (rl.up u2) w2 _ λz H3 L3 s3 r3 f3 n3=>?_;refine a0 dy dz d e y z H3 (W.add L3) [] L3 (hy _ _) r3 (by simpa using n3) (w2.tmp f3) (w2.add s3 r3.dom) Q λv' H4 L4 s4 r4 f4 n4=>?_;refine q v' H4 L4 (((s.trans B).trans s3).trans s4) ?_ (λa Y=>(f4 a Y).elim (λz=>(s.trans B).none' (f3 a z)) λz=>((s.trans B).trans s3).none' z) n4;exact r4.up ⟨Same.refl _,λb u U f=>⟨λz=>z.elim (λz=>f.1 (.inl z)) λz=>f.1 (.inr ⟨.inr z,WOk.new w2 f3 z⟩),f.2⟩,λ_ _ _ f=>f⟩
     .cases e
      obtain⟨rfl,rfl⟩:=mH O;exact⟨false,rfl,wH (q (.bl false) H2 [] (s.trans B) fH (by simp) List.nodup_nil)⟩
     .cases e
   .cases e
variable{a b c:Expr}
theorem wZ{q:CmpOp}{g g':D->D->Option D}{fa fb fc:En->Option D}(o:OpB X G (YG op) g)(o':OpB X G (YG q) g')(Y:PV X G ob a fa)(U:PV X G ob b fb)(F:PV X G ob c fc)(V:lastMarks [op,q] [b,c]=false:=by with_unfolding_all rfl):PVT X G ob (.Compare a [op,q] [b,c] pos) (eB (kE g g' fa fb fc)):=
 let⟨r,o1,o2⟩:=o.ex;let⟨r',p1,p2⟩:=o'.ex;let⟨t,a1,a2⟩:=Y.ex;let⟨u,b1,b2⟩:=U.ex;let⟨v,c1,c2⟩:=F.ex;⟨_,λc=>Kf (o1 c) (p1 c) (a1 c) (b1 c) (c1 c) V,V1 (J5 o2 p2 a2 b2 c2)⟩
def Xz(g:Int->Int->Int)(i:Nat)(f:En->Option D):En->Option Fl:=λρ=>match ρ[i]? with
 |some (some (.int m))=>(f ρ).bind λd=>match d with
  |.int n=>some (.nx (ρ.set i (some (.int (g m n)))))
  |_=>none
 |_=>none
def TQ(G:Gc)(ob:Nat->Bool)(wi:TI)(f:En->Option (List D×En)):Prop:=∀(ρ:En)(items:List D)(I:En),f ρ=some (items,I)->∀(σ:L2.St)(H:Hp)(S:Ad)(Fr:Addr->Prop),Sta G H ob ρ σ S Fr->∀R:It->Hp->Prop,
 (∀J H' S',Sta G H' ob I σ S' Fr->Eff ob H H' S S' []->Wk G J (LtB true H' (wn ob S' Fr)) items->R J H')->wi σ H R
structure Wa{ι:Type}(X:ι->Cx)(G:Gc)(ob:Nat->Bool)(tg it:Expr)(f:En->Option (List D×En)):Prop where
 mk::(ex:∃t,(∀c,PI (X c) tg it t)/\TQ G ob t f)
def pI(f:En->Option (List D×En)):En->Option (List D×En):=λρ=>(f ρ).bind λp=>match p.1 with
 |[.int j]=>if -(2 ^ 62)<=j/\j<2 ^ 62 then some (lD 0 j.toNat,p.2)else none
 |_=>none
variable{f:En->Option (List D×En)}
theorem Qy(h:Dp G ob t f):TQ G ob (Kg t) (pI f):=λρ items I e σ H S Fr s R q=>by
 unfold pI at e;cases h1:f ρ with
 |none=>simp[h1]at e
 |some p=>
  obtain⟨ds,ρ1⟩:=p;rw[h1]at e;simp![gD]at e;split at e
  .rename_i j
   split at e
   .rename_i hj
    obtain⟨rfl,rfl⟩:lD 0 j.toNat=items/\ρ1=I:=by simpa using e
    refine h ρ _ _ h1 σ H S Fr s _ λxs H' L S' s' rx nd U=>?_;obtain⟨x,rfl,V⟩:=rx.inv1;obtain⟨rfl,rfl⟩:=bw V;rw[kW]at s';exact⟨j,rfl,by omega,by omega,q _ H' S' s' U Nf⟩
   .cases e
  .cases e
def pK(it:En->Option (List D×En))(tg:D->En->Option En)(body:En->Option Fl):En->Option Fl:=λρ=>(it ρ).bind λp=>forL tg body p.1 p.2
variable{it:En->Option (List D×En)}
theorem K6{g:TG}(hi:TQ G ob wi it)(hg:RfG G ob P g tg)(U:RfS G ob P tb body):RfS G ob P (Qm wi g tb) (pK it tg body):=λρ0 r e σ H0 S0 Fr s0 E q=>by
 unfold pK at e;cases h1:it ρ0 with
 |none=>simp[h1]at e
 |some p=>
  obtain⟨items,ρ⟩:=p;have e:forL tg body items ρ=some r:=by simpa[h1]using e
  refine hi ρ0 items ρ h1 σ H0 S0 Fr s0 _ λJ H1 S Z ef wk=>?_;have m1:Mv P H0 H1 σ σ S0 S []:=ef.mv;have q1:=q.from m1;have a1:∀{ρ2:En}{σ2:L2.St}{H2:Hp}{S2:Ad},Mv P H1 H2 σ σ2 S S2 []->LtB true H1 (wn ob S Fr) H2 (wn ob S2 Fr):=λm=>tK (DW Z m);refine⟨λi m σ2 H2=>i+m=items.length/\∃ρ2 S2,Sta G H2 ob ρ2 σ2 S2 Fr/\Mv P H1 H2 σ σ2 S S2 []/\forL tg body (items.drop i) ρ2=some r,⟨items.length,by omega,ρ,S,Z,.refl,e⟩,?_⟩;rintro i m σ2 H2 ⟨a7,ρ2,S2,B,m2,e2⟩;by_cases a4:i<items.length
  .refine .inr ⟨wk.go i items[i] (by simp[a4]) H2 _ (a1 (ρ2:=ρ2) m2),λO H'=>(i+1)+(m-1)=items.length/\∃ρ2 S2,Sta G H' ob ρ2 O S2 Fr/\Mv P H1 H' σ O S S2 []/\forL tg body (items.drop (i+1)) ρ2=some r,λO H' h=>⟨m-1,by omega,h⟩,λx F I=>?_⟩
   obtain⟨s3,rx⟩:=wk.yld i items[i] (by simp[a4]) H2 _ (a1 (ρ2:=ρ2) m2) x F I;rw[←ZS a4,forL]at e2;cases V:tg items[i] ρ2 with
   |none=>simp[V]at e2
   |some a3=>
    rw[V]at e2;simp![gD]at e2;have a6:Sta G F ob ρ2 σ2 S2 Fr:=B.grow s3 λa z=>.inl z;refine hg items[i] ρ2 a3 V x σ2 F S2 [] Fr (by rw[kW];exact a6) (by rw[kW];exact rx) List.nodup_nil (by simp) _ λa5 H4 S4 s4 m4=>?_;have a2:Mv P H1 H4 σ a5 S S4 []:=(m2.trans (S2:=S2) ⟨λb u h _ _=>s3 b u h,λi a z=>.inl ⟨i,z⟩,.refl⟩).trans m4;cases Y:body a3 with
    |none=>rw[Y]at e2;cases e2
    |some fl=>
     rw[Y]at e2;refine U a3 fl Y a5 H4 S4 Fr s4 _ ?_;cases fl with
     |nx a0=>exact λO H' S' s' m'=>⟨by omega,a0,S',s',a2.trans m',e2⟩
     |cnt a0=>exact λO H' S' s' m'=>⟨by omega,a0,S',s',a2.trans m',e2⟩
     |brk a0=>cases e2;exact λO H' S' s' m'=>q1 O H' S' s' (a2.trans m')
     |ret d a0=>cases e2;exact q1.from a2
  .have hl:i=items.length:=by omega
   rw[hl,ZM,forL]at e2;cases e2;subst hl;exact .inl ⟨wk.stop H2 _ (a1 (ρ2:=ρ2) m2),q1 σ2 H2 S2 B m2⟩
theorem vM{tg iter:Expr}{body:List Stmt}{g:D->En->Option En}{f:En->Option Fl}(q:∀c,acn (model (X c).prog (X c).w) (X c).A (X c).env (X c).xe)(F:∀c,(X c).calm=true)(hi:Wa X G ob tg iter it)(B:PVG X G ob P tg g)(U:pA X G ob P body f)(O:∀c,∀x,ZD iter (X c).env x=pure x:=by intro _;intro _;rfl):PVS X G ob P (.For tg iter body [] pos) (pK it g f):=let⟨v,c1,c2⟩:=hi.ex;let⟨t,a1,a2⟩:=B.ex;let⟨u,b1,b2⟩:=U.ex;⟨_,λc=>Fx (q c) (F c) (c1 c) (a1 c) (b1 c) (O c),K6 c2 a2 b2⟩
theorem yP{tg:Expr}{p:Pos}(B:∀c,Gl (X c) "range")(V:∀c,(X c).mg "range"=none)(Y:wF X G ob [a] f)(O:∀c,Yh [a] (X c).env=[(false,eval a (X c).env)]:=by intro _;rfl):Wa X G ob tg (.Call (.Name "range" p) [a] [] pos) (pI f):=let⟨t,a1,a2⟩:=Y.ex;⟨_,λc=>xn (B c) (V c) (a1 c) (O c),Qy a2⟩
def V0(own:Nat->Bool)(cap:List (Option Nat)):Bool:=(Y9 cap.length).all λi=>!own i||(match cap[i]? with
 |some none=>true
 |_=>false)
theorem gw{own:Nat->Bool}{cap:List (Option Nat)}(h:V0 own cap=true):∀i:Nat,own i=true->cap[i]?≠none->cap[i]? =some none:=λi J I=>by
 have hi:i<cap.length:=by
  by_cases z:i<cap.length
  .exact z
  .exact absurd (aac (by omega)) I
 have:=abg.mp h i (aa1.mpr hi);rw[J]at this;simp![acA,Bool.false_or]at this;split at this
 .assumption
 .cases this
def Qu(cap:List (Option Nat)):Bool:=(Y9 cap.length).all λi=>(Y9 cap.length).all λk=>match cap[i]?,cap[k]? with
 |some (some a),some (some b)=>!(a==b)||i==k
 |_,_=>true
theorem O3{cap:List (Option Nat)}(h:Qu cap=true):qD cap:=λi k j h1 h2=>by
 have hi:i<cap.length:=(List.getElem?_eq_some_iff.mp h1).1;have J:k<cap.length:=(List.getElem?_eq_some_iff.mp h2).1;have:=abg.mp (abg.mp h i (aa1.mpr hi)) k (aa1.mpr J);rw[h1,h2]at this;simpa using this
def KpS(i:Nat)(f:En->Option (α×En)):Prop:=∀ρ q,f ρ=some q->q.2[i]? =ρ[i]?
theorem JS{f:En->Option D}:KpS i (eUp f):=λρ q h=>by
 unfold eUp at h;cases e:f ρ with
 |none=>simp[e]at h
 |some d=>
  obtain rfl:(d,ρ)=q:=by simpa[e]using h
  rfl
theorem G8{f:En->Option (List D)}:KpS i (cG f):=λρ q h=>by
 unfold cG at h;cases e:f ρ with
 |none=>simp[e]at h
 |some d=>
  obtain rfl:(d,ρ)=q:=by simpa[e]using h
  rfl
theorem Cj{f:En->Option (D×En)}{g:En->Option (List D×En)}(h1:KpS i f)(h2:KpS i g):KpS i (cH f g):=λρ q h=>by
 unfold cH at h;cases e1:f ρ with
 |none=>simp[e1]at h
 |some p=>
  cases e2:g p.2 with
  |none=>simp[e1,e2]at h
  |some r=>
   rw[e1]at h;simp![gD,e2]at h;split at h
   .cases h
    exact(h2 _ _ e2).trans (h1 _ _ e1)
   .cases h
theorem JR{g:List D->Option D}(h1:KpS i f):KpS i (sW g f):=λρ q h=>by
 unfold sW at h;cases e1:f ρ with
 |none=>simp[e1]at h
 |some p=>
  cases e2:g p.1 with
  |none=>simp[e1,e2]at h
  |some r=>
   obtain rfl:(r,p.2)=q:=by simpa[e1,e2]using h
   exact h1 ρ p e1
theorem Rk{g:D->D->Option D}{f z:En->Option (D×En)}(h1:KpS i f)(h2:KpS i z):KpS i (ee2 g f z):=λρ q h=>by
 unfold ee2 at h;cases e1:f ρ with
 |none=>simp[e1]at h
 |some p=>
  cases e2:z p.2 with
  |none=>simp[e1,e2]at h
  |some r=>
   rw[e1]at h;simp![gD,e2]at h;split at h
   .cases e3:g p.1 r.1 with
    |none=>simp[e3]at h
    |some d=>
     obtain rfl:(d,r.2)=q:=by simpa[e3]using h
     exact(h2 _ _ e2).trans (h1 _ _ e1)
   .cases h
theorem Ra{g:D->Option D}{f:En->Option (D×En)}(h1:KpS i f):KpS i (ee1 g f):=λρ q h=>by
 unfold ee1 at h;cases e1:f ρ with
 |none=>simp[e1]at h
 |some p=>
  cases e2:g p.1 with
  |none=>simp[e1,e2]at h
  |some r=>
   obtain rfl:(r,p.2)=q:=by simpa[e1,e2]using h
   exact h1 ρ p e1
theorem Ob{F:List D->Option (D×List D)}(O:js.contains i=false)(h1:KpS i f):KpS i (eIo F js f):=λρ q h=>by
 unfold eIo at h;split at h
 .cases e1:f ρ with
  |none=>simp[e1]at h
  |some p=>
   cases e2:objs js p.2 with
   |none=>simp[e1,e2]at h
   |some os=>
    rw[e1]at h;simp![gD,e2]at h;split at h
    .cases e3:F (os++fzL p.1)with
     |none=>simp[e3]at h
     |some r=>
      rw[e3]at h;simp![gD]at h;split at h
      .cases h
       exact(nU λz=>by simp[z]at O).trans (h1 _ _ e1)
      .cases h
    .cases h
 .cases h
theorem K_{f:En->Option (D×En)}{fl z:En->Option (Option Int)}(h1:KpS i f):KpS i (Gh g f fl z):=λρ q h=>by
 unfold Gh at h;cases e1:f ρ with
 |none=>simp[e1]at h
 |some p=>
  cases e2:fl p.2 with
  |none=>simp[e1,e2]at h
  |some a=>
   cases Y:z p.2 with
   |none=>simp[e1,e2,Y]at h
   |some b=>
    cases B:g p.1 a b with
    |none=>simp[e1,e2,Y,B]at h
    |some d=>
     obtain rfl:(d,p.2)=q:=by simpa[e1,e2,Y,B]using h
     exact h1 ρ p e1
def Wp(o:Option α)(Q:α->Prop):Prop:=∃a,o=some a/\Q a
variable{Q:α->Prop}
theorem aH{a:α}:Wp (some a) Q↔Q a:=⟨λ⟨b,e,q⟩=>by cases e;exact q,λq=>⟨a,rfl,q⟩⟩
theorem nH:Wp (none:Option α) Q↔False:=⟨λ⟨b,e,q⟩=>(by cases e),λz=>z.elim⟩
variable{R:β->Prop}{o:Option α}
theorem aN{f:α->Option β}:Wp (o.bind f) R↔Wp o λa=>Wp (f a) R:=by
 cases o with
 |none=>simp[nH]
 |some a=>simp[aH]
variable{f:α->β}
theorem bR:Wp (o.map f) R↔Wp o λa=>R (f a):=by
 cases o with
 |none=>simp[nH]
 |some a=>simp[aH]
theorem w_ite{c:Prop}[Decidable c]{a b:Option α}:Wp (if c then a else b) Q↔(if c then Wp a Q else Wp b Q):=by
 split<;>exact Iff.rfl
theorem Wp.mono{z:α->Prop}(h:Wp o Q)(k:∀a,Q a->z a):Wp o z:=let⟨a,e,q⟩:=h;⟨a,e,k a q⟩
variable{Q:Fl->Prop}
theorem vC{f g:En->Option Fl}:Wp (bc f g ρ) Q↔Wp (f ρ) λr=>match r with
 |.nx I=>Wp (g I) Q
 |.ret d I=>Q (.ret d I)
 |.brk I=>Q (.brk I)
 |.cnt I=>Q (.cnt I):=by
 unfold bc;cases f ρ with
 |none=>simp[nH]
 |some r=>cases r<;>simp[aH]
theorem Rw(I:Nat->En->Prop):∀{items:List D}{ρ:En}{k:Nat},I k ρ->
  (∀(i:Nat)(d:D)(ρ:En),items[i]? =some d->I (k+i) ρ->Wp (tg d ρ) λρ1=>Wp (body ρ1) λr=>match r with
   |.nx ρ2=>I (k+i+1) ρ2
   |.cnt ρ2=>I (k+i+1) ρ2
   |.brk ρ2=>Q (.nx ρ2)
   |.ret d ρ2=>Q (.ret d ρ2))->
  (∀ρ,I (k+items.length) ρ->Q (.nx ρ))->Wp (forL tg body items ρ) Q
 |[],ρ,k,h0,_,h=>by rw[forL];exact aH.mpr (h ρ h0)
 |d::r,ρ,k,h0,hs,h=>by
  rw[forL];obtain⟨ρ1,e1,w⟩:=hs 0 d ρ rfl h0;obtain⟨fl,e2,w⟩:=w;rw[e1,gD,e2];have J:∀{ρ2:En},I (k+1) ρ2->Wp (forL tg body r ρ2) Q:=λB=>Rw I B (λi d ρ hi B=>by
   have:=hs (i+1) d ρ (by simpa using hi) (by rw[show k+(i+1)=k+1+i by omega];exact B);rw[show k+(i+1)+1=k+1+i+1 by omega]at this;exact this) λρ B=>h ρ (by rw[Yd,show k+(r.length+1)=k+1+r.length by omega];exact B)
  cases fl with
  |nx ρ2=>exact J w
  |cnt ρ2=>exact J w
  |brk ρ2=>exact aH.mpr w
  |ret d ρ2=>exact aH.mpr w
variable{c:En->Option Bool}
theorem fG{tg:D->En->Option En}{c:En->Option Bool}{e:En->Option D}{ρ0:En}{p:D->Bool}{f:D->D}:∀{items:List D},(∀d∈items,Wp (tg d ρ0) λρ1=>c ρ1=some (p d)/\(p d=true->e ρ1=some (f d)))->il tg c e ρ0 items=some ((items.filter p).map f)
 |[],_=>rfl
 |d::r,h=>by
  obtain⟨ρ1,e1,h1,h2⟩:=h d (by simp);have J:=fG (tg:=tg) (c:=c) (e:=e) (ρ0:=ρ0) (p:=p) (f:=f) (items:=r) λx B=>h x (by simp[B]);rw[il];cases O:p d with
  |false=>simp[e1,h1,O,J]
  |true=>simp[e1,h1,O,h2 O,J]
variable{e:En->Option (D×En)}{Q:List D×En->Prop}
theorem Hs{cap:List (Option Nat)}(I:Nat->List D->En->Prop):∀{items:List D}{ρ:En}{k:Nat}{acc:List D},I k acc ρ->
  (∀(i:Nat)(d:D)(acc:List D)(ρ:En),items[i]? =some d->I (k+i) acc ρ->Wp (tg d (gf cap ρ)) λρ1=>Wp (c ρ1) λb=>if b=true then Wp (e ρ1) λp=>clean p.1=true/\I (k+i+1) (acc++[p.1]) (jg cap p.2 ρ)else I (k+i+1) acc ρ)->
  (∀ys ρ,I (k+items.length) ys ρ->Q (ys,ρ))->Wp (lg cap tg c e items ρ) λt=>Q (acc++t.1,t.2)
 |[],ρ,k,acc,h0,_,h=>by rw[lg];exact aH.mpr (by rw[Yz];exact h acc ρ h0)
 |d::r,ρ,k,acc,h0,hs,h=>by
  rw[lg];obtain⟨ρ1,e1,b,e2,w⟩:=hs 0 d acc ρ rfl h0;rw[e1,gD,e2,gD];have J:∀{ρ2:En}{acc:List D},I (k+1) acc ρ2->Wp (lg cap tg c e r ρ2) λt=>Q (acc++t.1,t.2):=λB=>Hs I B (λi d acc ρ hi B=>by
   have:=hs (i+1) d acc ρ (by simpa using hi) (by rw[show k+(i+1)=k+1+i by omega];exact B);rw[show k+(i+1)+1=k+1+i+1 by omega]at this;exact this) λys ρ B=>h ys ρ (by rw[Yd,show k+(r.length+1)=k+1+r.length by omega];exact B)
  cases b with
  |false=>
   simp![Zb,aaa]at w⊢;exact J w
  |true=>
   simp![Yx]at w⊢;obtain⟨p,Y,F,B⟩:=w;rw[Y,gD,Yi F];rw[bR];refine(J B).mono λt U=>?_;simpa using U
theorem cR(l:List Str):aC (l.map D.str)=true:=fD λd hd=>by obtain⟨x,_,rfl⟩:=List.mem_map.mp hd;rfl
theorem cB(l:List Str):aD (l.map D.str)=true:=fj λd hd=>by obtain⟨x,_,rfl⟩:=List.mem_map.mp hd;rfl
theorem cu(b:Bool)(l:List Str):fU b (l.map D.str)=l.map D.str:=by rw[jh,Yq];rfl
theorem jU(l:List Str):fzL (l.map D.str)=l.map D.str:=by rw[lq,Yq];rfl
theorem uO(l:List Str):iQ (l.map D.str)=l.map D.str:=by rw[nM,Yq];rfl
theorem mF{β:Type}{f:α->β}{l:List α}{i:Int}(z:0<=i)(h1:i<l.length):∃x,x∈l/\l[i.toNat]? =some x/\atI (l.map f) i=some (f x):=by
 have:i.toNat<l.length:=by omega
 refine⟨l[i.toNat],aao _,by simp[this],?_⟩;unfold atI ixN;rw[Yi z,Yi (by simpa using h1)];simp[this]
theorem rA{lo:Int}:(lD lo n).length=n:=by simp[lD]
theorem filter_tt(l:List α):l.filter (λ_=>true)=l:=by simp
theorem oY(h:(lD 0 n)[i]? =some d):i<n/\d= .int (i:Int):=by
 have hi:i<n:=by have:=(List.getElem?_eq_some_iff.mp h).1;simpa[lD]using this
 refine⟨hi,?_⟩;unfold lD at h;rw[List.getElem?_map,ad4 hi]at h;simpa using h.symm
abbrev Jt:=Str×Str×Int
def jD(j:Jt):D:=.tup [.str j.1,.str j.2.1,.int j.2.2]
theorem mK(l:List Jt):aC (l.map jD)=true:=fD λd hd=>by obtain⟨x,_,rfl⟩:=List.mem_map.mp hd;rfl
theorem kZ(l:List Jt):aD (l.map jD)=true:=fj λd hd=>by obtain⟨x,_,rfl⟩:=List.mem_map.mp hd;rfl
theorem mO(b:Bool)(l:List Jt):fU b (l.map jD)=l.map jD:=by rw[jh,Yq];rfl
theorem mR(l:List Jt):fzL (l.map jD)=l.map jD:=by rw[lq,Yq];rfl
theorem B_(l:List Jt):iQ (l.map jD)=l.map jD:=by rw[nM,Yq];rfl
theorem Gp:∀l:List Jt,iJ (l.map jD)=true
 |[]=>rfl
 |j::r=>by simp[iJ,jD,iM,Gp r]
theorem rW:∀l:List Str,iJ (l.map D.str)=true
 |[]=>rfl
 |j::r=>by simp[iJ,iM,rW r]
theorem eq_int{i j:Int}:gEq (.int i) (.int j)=some (.bl (decide (i=j))):=by
 unfold gEq;rw[Yi ⟨rfl,rfl,.sc (.int i j)⟩];simp[dt,eqD];exact Z6.mpr (by simp)
variable{items:List D}
theorem K3{cap:List (Option Nat)}(I:Nat->List D->En->Prop)(z:I 0 [] ρ)
  (O:∀(i:Nat)(d:D)(acc:List D)(ρ:En),items[i]? =some d->I i acc ρ->Wp (tg d (gf cap ρ)) λρ1=>Wp (c ρ1) λb=>if b=true then Wp (e ρ1) λp=>clean p.1=true/\I (i+1) (acc++[p.1]) (jg cap p.2 ρ)else I (i+1) acc ρ)
  (h:∀ys ρ,I items.length ys ρ->Q (ys,ρ)):Wp (lg cap tg c e items ρ) Q:=by
 have:=Hs (cap:=cap) (tg:=tg) (c:=c) (e:=e) (Q:=Q) I (items:=items) (ρ:=ρ) (k:=0) (acc:=[]) z (λi d acc ρ hi B=>by
  rw[aar]at B⊢;exact O i d acc ρ hi B) λys ρ B=>h ys ρ (by rw[aar]at B;exact B)
 simpa using this
variable{Q:Fl->Prop}
theorem iB(I:Nat->En->Prop)(z:I 0 ρ)
  (O:∀(i:Nat)(d:D)(ρ:En),items[i]? =some d->I i ρ->Wp (tg d ρ) λρ1=>Wp (body ρ1) λr=>match r with
   |.nx ρ2=>I (i+1) ρ2
   |.cnt ρ2=>I (i+1) ρ2
   |.brk ρ2=>Q (.nx ρ2)
   |.ret d ρ2=>Q (.ret d ρ2))
  (h:∀ρ,I items.length ρ->Q (.nx ρ)):Wp (forL tg body items ρ) Q:=
 Rw (k:=0) I z (λi d ρ hi B=>by
  rw[aar]at B⊢;exact O i d ρ hi B) λρ B=>h ρ (by rw[aar]at B;exact B)
theorem aY{f g:En->Option Fl}(P:En->Prop)(h1:∀z:Fl->Prop,(∀I,P I->z (.nx I))->Wp (f ρ) z)(h2:∀I,P I->Wp (g I) Q):Wp (bc f g ρ) Q:=by
 rw[vC];exact h1 _ λI h=>h2 I h
theorem vL{f g:En->Option Fl}(P:En->Prop)(R:D->Prop)(h1:∀z:Fl->Prop,(∀I,P I->z (.nx I))->(∀d I,R d->z (.ret d I))->Wp (f ρ) z)(h2:∀I,P I->Wp (g I) Q)(V:∀d I,R d->Q (.ret d I)):Wp (bc f g ρ) Q:=by
 rw[vC];exact h1 _ (λI h=>h2 I h) λd I h=>V d I h
theorem XN(j:Jt):aA (jD j)=true:=rfl
theorem Xh(j:Jt):az (jD j)=true:=rfl
theorem Wi(j:Jt):gSl (jD j) none (some 2)=some (.tup [.str j.1,.str j.2.1]):=rfl
open PySem PySem.W PyProof.Rows
section
variable(ρ:Nat->Int)
abbrev bk:Nat->Nat->Bool:=λi j=>decide (ρ i<ρ j)
end
variable{A:Around}{s:Shared}{E:Value->Shared->Prop}
theorem JK{x:Value}{Q:Value->X4->Prop}(F:∀q (z:List Value->X4->Prop),(∀B Z,wpAny (model prog w) A.in1 (newList B >>=λl=>abl [l] (call (.builtin "list.sort") [l] []) >>=λ_=>ret l) (λD s'=>∃v,D= .done (.ret v)/\Q v s') q Z->z B Z)->wpAny (model prog w) A.in1 (collect x) z q s) :
  wpAny (model prog w) A (call (.builtin "sorted") [x]) Q E s:=by
 refine Calls.call_function_entry kind_sorted plain_sorted entry_sorted (args_sorted1 _) ?_;unfold Builtin.«sorted»;refine X3 (m:=checkCount "sorted" 1 1 _) (Yg ?_);exact X3 (F _ _ λB Z h=>h)
theorem Ef{F:List Addr}{Q:VK}(Z:aM G H W ds xs M)(s:∀a∈M,a∈F)(nd:M.Nodup)(I:∀a∈F,W.tmp a)(O:H p=none)(q:Done G H W F (.lst .own ds) Q):Q (.ref p) (upd H p (.lst xs)):=by
 have B:Same H (upd H p (.lst xs)):=Same.new O;have np:p∉M:=λz=>by obtain⟨o,J,_⟩:=Z.dom p z;rw[O]at J;cases J
 refine q (.ref p) _ (p::M) B ?_ (λa Y=>(Yj.mp Y).elim (λz=>.inr (by rw[z];exact O)) λz=>.inl (s a z)) (Yy.mpr ⟨np,nd⟩);rw[Rep];exact⟨p,xs,M,rfl,Z.up ⟨B,λb u U f=>⟨λz=>z.elim (λz=>(Yj.mp z).elim (λz=>by rw[z,O]at U;cases U) λz=>f.1 (I b (s b z)).1) λz=>f.1 z.1,f.2⟩,λ_ _ _ f=>f⟩,aW,rfl⟩
def uy:List D->Option D
 |[]=>some (.dct .own [] [])
 |_=>none
theorem Oo:CaV G (λxs H Q=>∀p,H p=none->Q (.ref p) (upd H p (.dK []))) uy:=λds d e xs H W F r nd I w Q q=>by
 unfold uy at e;split at e
 .cases e
  intro p O;have B:Same H (upd H p (.dK [])):=Same.new O;refine q (.ref p) _ [p] B ?_ (λa Y=>.inr (by rw[List.mem_singleton.mp Y];exact O)) (Yy.mpr ⟨by simp,List.nodup_nil⟩);rw[Rep];exact⟨p,[],[],rfl,⟨rfl,List.nodup_nil⟩,.nil,aW,rfl⟩
 .cases e
theorem uP:PV X G ob (.Dict [] [] pos) (eAp uy aB):=⟨_,λc=>M7,wg Oo Ko⟩
def ug:List Key->Option (List Str)
 |[]=>some []
 |.inr x::r=>(ug r).map (x::·)
 |_=>none
theorem BX:∀{ks:List Key}{ys:List Str},ug ks=some ys->ks=ys.map Yl
 |[],ys,h=>by cases h;rfl
 |.inr x::r,ys,h=>by
  simp![ug,adk]at h;obtain⟨t,h1,rfl⟩:=h;rw[BX h1];rfl
 |.inl _::r,ys,h=>by simp[ug]at h
theorem Di:∀ys:List Str,aM G H W (ys.map D.str) (ys.map V.str) []
 |[]=>.nil
 |x::r=>aM.cons (M:=[]) (M':=[]) uQ (Di r)
def uf(es:List (Key×D)):Option D:=if(es.map (·.1)).Nodup then some (.dct .own (es.map (·.1)) (es.map (·.2)))else none
theorem oU(h:k∉ks):dU ks k=none:=Zg.mpr λx B=>by
 have:x≠k:=λz=>h (z▸B);simpa using this
theorem Py(e:dG d=some k)(r:Rep G H W d x L):x=kV k/\L=[]:=by
 cases d with
 |int i=>cases e;rw[Rep]at r;exact r
 |str i=>cases e;rw[Rep]at r;exact r
 |_=>cases e
def pL:En->Option (List (Key×D)):=λ_=>some []
def jN(z q:En->Option D)(I:En->Option (List (Key×D))):En->Option (List (Key×D)):=λρ=>((z ρ).bind dG).bind λk=>(q ρ).bind λx=>(I ρ).map λr=>(k,x)::r
def oF(f:En->Option (List (Key×D))):En->Option D:=λρ=>(f ρ).bind λes=>if es.length<=15/\aC (es.map (·.2))=true/\aD (es.map (·.2))=true then uf es else none
def JV(G:Gc)(ob:Nat->Bool)(t:List (TE×TE))(f:En->Option (List (Key×D))):Prop:=∀(ρ:En)(es:List (Key×D)),f ρ=some es->∀(σ:L2.St)(H:Hp)(W:Wn),Rel G H W ob ρ σ->WOk H W->∀Q:List (V×V)->Hp->Prop,
 (∀(B:List V) H' L,B.length=es.length->Same H H'->aM G H' (W.add L) (es.map (·.2)) B L->(∀a∈L,H a=none)->L.Nodup->Q ((acZ (es.map (·.1)) B).map λkv=>(kV kv.1,kv.2)) H')->zZ t σ H Q
structure PX{ι:Type}(X:ι->Cx)(G:Gc)(ob:Nat->Bool)(pos:Pos)(ks:List (Option Expr))(vs:List Expr)(f:En->Option (List (Key×D))):Prop where
 mk::(ex:∃t,(∀c,PPs (X c) pos ks vs t)/\JV G ob t f)
theorem QJ:JV G ob [] pL:=λρ es e σ H W O w Q q=>by
 cases e;exact q [] H [] rfl (Same.refl H) .nil (by simp) List.nodup_nil
variable{t:List (TE×TE)}{I:En->Option (List (Key×D))}
theorem Ky{tk tv:TE}{fk fv:En->Option D}(hk:RfE G ob tk fk)(hv:RfE G ob tv fv)(Z:JV G ob t I):JV G ob ((tk,tv)::t) (jN fk fv I):=λρ es e σ H W O w Q q=>by
 unfold jN at e;cases h1:fk ρ with
 |none=>simp[h1]at e
 |some dk=>
 cases h2:dG dk with
 |none=>simp[h1,h2]at e
 |some k=>
 cases V:fv ρ with
 |none=>simp[h1,h2,V]at e
 |some dv=>
 cases F:I ρ with
 |none=>simp[h1,h2,V,F]at e
 |some rs=>
  obtain rfl:(k,dv)::rs=es:=by simpa[h1,h2,V,F]using e
  refine hk ρ dk h1 σ H W O w _ λxk H0 L0 s0 rk a1 nk=>?_;obtain⟨rfl,rfl⟩:=Py h2 rk;refine hv ρ dv V σ H0 W (O.up (Up.same s0)) (w.up s0) _ λx H1 L s1 rx fx nx=>?_;have u1:Up H0 H1 W (W.add L):=.add s1 fx;have w1:WOk H1 (W.add L):=(w.up s0).add s1 rx.dom;refine Z ρ rs F σ H1 (W.add L) ((O.up (Up.same s0)).up u1) w1 _ λys H2 M hl B ry fy ny=>?_;have a0:∀a∈L,a∉M:=λa h1 h2=>by
   obtain⟨o,J,_⟩:=rx.dom a h1;rw[fy a h2]at J;cases J
  have u2:Up H1 H2 (W.add L) (W.add (L++M)):=⟨B,λb u U f=>⟨λz=>z.elim (λz=>(List.mem_append.mp z).elim (λz=>f.1 (.inl z)) λz=>by rw[fy b z]at U;cases U) λz=>f.1 (.inr z),f.2⟩,λ_ _ _ f=>f⟩;refine q (x::ys) H2 (L++M) (by simp[hl]) ((s0.trans s1).trans B) (.cons (rx.up u2) (ry.up ⟨Same.refl _,λb u U f=>⟨λz=>?_,f.2⟩,λ_ _ _ f=>f⟩)) (λa Y=>?_) (fK nx ny a0)
  .rcases z with z|z
   .exact(List.mem_append.mp z).elim (λz=>f.1 (.inr (.inl z))) λz=>f.1 (.inl z)
   .exact f.1 (.inr (.inr z))
  .rcases List.mem_append.mp Y with z|z
   .exact s0.none' (fx a z)
   .exact(s0.trans s1).none' (fy a z)
theorem qe:∀{more kvs:List (Key×V)},(List.map (·.1) (kvs++more)).Nodup->m7 kvs more=kvs++more
 |[],kvs,h=>by simp[m7]
 |p::r,kvs,h=>by
  have h1:putK kvs p.1 p.2=kvs++[p]:=nP (oU λz=>by
   rw[Zi]at h;exact(Yr.mp h).2.2 p.1 z p.1 (by simp) rfl)
  have:=qe (more:=r) (kvs:=kvs++[p]) (by simpa using h);show m7 (putK kvs p.1 p.2) r=_;rw[h1,this];simp
variable{f:En->Option (List (Key×D))}
theorem O5(h:JV G ob t f):RfE G ob (Kr t) (oF f):=λρ d e σ H W rl w Q q=>by
 unfold oF at e;cases h1:f ρ with
 |none=>simp[h1]at e
 |some es=>
  rw[h1]at e;simp![gD]at e;split at e
  .rename_i hc
   unfold uf at e;split at e
   .rename_i hnd
    cases e;intro p O;have sm:Same H (upd H p (.dK [])):=Same.new O;have u0:Up H (upd H p (.dK [])) W (W.add [p]):=.add sm (by simpa using O);have w0:WOk (upd H p (.dK [])) (W.add [p]):=w.add sm λa Y=>by
     obtain rfl:a=p:=by simpa using Y
     exact⟨_,aW,rfl⟩
    refine h ρ es h1 σ _ _ (rl.up u0) w0 _ λB H2 L Z s2 r2 J n2=>?_;have V:H2 p=some (.dK []):=s2 p _ aW;have a0:List.map (·.1) (acZ (es.map (·.1)) B)=es.map (·.1):=aeK (by simp[Z]);have a5:List.map (·.2) (acZ (es.map (·.1)) B)=B:=aeL (by simp[Z]);refine⟨V,acZ (es.map (·.1)) B,rfl,by simp[Z];exact hc.1,?_⟩;rw[qe (by simpa[a0]using hnd),List.nil_append];have a1:p∉L:=λz=>by have:=J p z;rw[aW]at this;cases this
    have a4:Same H (upd H2 p (.dK (acZ (es.map (·.1)) B))):=λb u U=>by
     have a2:b≠p:=λz=>by rw[z,O]at U;cases U
     rw[aR a2];exact s2 b u (by rw[aR a2];exact U)
    refine q (.ref p) _ (p::L) a4 ?_ (λa Y=>?_) (Yy.mpr ⟨a1,n2⟩)
    .rw[Rep]
     refine⟨p,_,L,rfl,⟨a0,hnd⟩,?_,aW,rfl⟩;rw[a5];have ev:Evo H2 (upd H2 p (.dK (acZ (es.map (·.1)) B))) ((W.add [p]).add L) (W.add (p::L)):=⟨λb u U I=>⟨by rw[aR λz=>I.1 (.inr (.inl (by simp[z])))];exact U,λz=>by
      rcases z with z|z
      .rcases Yj.mp z with z|z
       .exact I.1 (.inr (.inl (by simp[z])))
       .exact I.1 (.inl z)
      .exact I.1 (.inr (.inr z)),I.2⟩,λb xs U=>by rw[aR λz=>by rw[z,V]at U;cases U];exact U⟩
     exact r2.mono ev (.inl hc.2.1) (.inl hc.2.2) λc a6 u F=>by
      have a3:c≠p:=λz=>a1 (by rw[←z];exact a6);rw[aR a3];exact F
    .rcases Yj.mp Y with z|z
     .rw[z];exact O
     .have:=J a z
      by_cases U:a=p
      .rw[U];exact O
      .rwa[aR U]at this
   .cases e
  .cases e
theorem rM:PX X G ob pos [] [] pL:=⟨_,λc=>Hl,QJ⟩
theorem lK{k v:Expr}{ks:List (Option Expr)}{B:List Expr}{z q:En->Option D}(J:PV X G ob k z)(F:PV X G ob v q)(Z:PX X G ob pos ks B I):PX X G ob pos (some k::ks) (v::B) (jN z q I):=
 let⟨_,a1,a2⟩:=J.ex;let⟨_,b1,b2⟩:=F.ex;let⟨_,c1,c2⟩:=Z.ex;⟨_,λc=>uX (a1 c) (b1 c) (c1 c),Ky a2 b2 c2⟩
theorem uU{F:List Expr}(h:PX X G ob pos U F f)(O:U.all (·.isSome)=true:=by rfl)(Z:U.length=F.length:=by rfl)(z:U≠[]:=by simp)(q:U.length<=15:=by decide):PV X G ob (.Dict U F pos) (oF f):=
 let⟨_,a1,a2⟩:=h.ex;⟨_,λc=>Hh (a1 c) O Z z q,O5 a2⟩
def Vy:D->Bool
 |.lst _ _=>true
 |_=>false
theorem Kv{b:Bool}{es:List D}(w:WOk H W)(s:Same H H')(r:Rep G H' (W.add L) d v M)(q:∀a∈M,a∈L)(I:∀a∈L,H a=none)(e:gU d=some (b,es))(B:Vy d=true) :
  ∃a xs,v= .ref a/\Parts G H' W b es xs/\∀H2 J,LtB b H' W H2 J->SqL G.K H2 a xs:=by
 have free:∀a∈M,W.free a:=λa Y=>⟨λz=>?_,λz=>?_,λz=>?_⟩
 .have les:Les H' (W.add L) W M:=⟨λa f=>⟨λz=>f.1 (.inr z),f.2⟩,free⟩
  cases d with
  |lst m ds=>
   simp![gU,aaz,adX]at e;obtain⟨rfl,rfl⟩:=e;rw[Rep]at r;obtain⟨a,xs,M,rfl,Z,O⟩:=r;refine⟨a,xs,rfl,⟨aM.fzo (W:=W.add L) (W':=W) (λ_ z=>z) Z (les.sub λc F=>O.sub.subset F),λz=>?_⟩,λH2 J l=>Rm (xr O les (λz=>z) (λz=>?_) l)⟩
   .simp[clean,aA,az]at z
    exact⟨gn z.1.2,gF z.2.2⟩
   .simp[clean,aA,az]at z
    exact⟨z.1.1,z.2.1⟩
  |_=>cases B
 .obtain⟨o,ho,_⟩:=w a (.inl z);rw[I a (q a Y)]at ho;cases ho
 .obtain⟨o,ho,_⟩:=w a (.inr (.inl z));rw[I a (q a Y)]at ho;cases ho
 .obtain⟨o,ho,_⟩:=w a (.inr (.inr z));rw[I a (q a Y)]at ho;cases ho
end Jb
namespace PySem
open PySem.Builtin PySem.Builtin.SmallTypes PyProof.Rows
namespace F
theorem rC:Manifest.owners.lookup (String.ofList ['d','e','s','r','e','v','e','r'].reverse)=some Manifest.sig_reversed:=by kernel_rfl
theorem jb_lk_tup_rev:adH (.type "tuple") "__reversed__"=pure none:=by rw[aaS,aab];kernel_rfl
theorem jb_sub_tup_dict:isSubtype (.type "tuple") (.type "dict")=pure false:=by rw[aa7];kernel_rfl
theorem jb_slot_rev_next:Slot "reversed" "__next__" "reversed.__next__" :=
 .of (owner:="reversed") (n:="__next__") (by rw[aaS,aab];kernel_rfl) (by decide +kernel) (by decide +kernel) (by decide +kernel)
  (by first|exact .inl (by decide +kernel)|exact .inr (by decide +kernel)) (by rw[aa7];kernel_rfl)
theorem jb_entry_rev_next:entryFor table "reversed.__next__"=some Builtin.«reversed.__next__»:=entryFor_of_tree (by kernel_rfl)
theorem jb_args_rev_next(a:Value):argsOk "reversed.__next__" ⟨[a],[]⟩:=by
 unfold argsOk;rw[signature?_of (id:="reversed.__next__") (n:=['_','_','t','x','e','n','_','_']) (o:=['d','e','s','r','e','v','e','r']) (by kernel_rfl) rC];kernel_rfl
theorem jb_slot_rev_iter:Slot "reversed" "__iter__" "reversed.__iter__" :=
 .of (owner:="reversed") (n:="__iter__") (by rw[aaS,aab];kernel_rfl) (by decide +kernel) (by decide +kernel) (by decide +kernel)
  (by first|exact .inl (by decide +kernel)|exact .inr (by decide +kernel)) (by rw[aa7];kernel_rfl)
theorem jb_args_rev_iter(a:Value):argsOk "reversed.__iter__" ⟨[a],[]⟩:=by
 unfold argsOk;rw[signature?_of (id:="reversed.__iter__") (n:=['_','_','r','e','t','i','_','_']) (o:=['d','e','s','r','e','v','e','r']) (by kernel_rfl) rC];kernel_rfl
theorem jb_entry_rev_iter:entryFor table "reversed.__iter__"=some Builtin.«dict_keyiterator.__iter__»:=
 entryFor_alias (id':="dict_keyiterator.__iter__") (by kernel_rfl) (by first|rfl|decide +kernel|(unfold String.splitOn;simp +decide [String.splitOnAux])) (by decide +kernel) (by kernel_rfl)
theorem sV:Slot "reversed" "__init__" "object.__init__" :=
 .of (owner:="object") (n:="__init__") (by rw[aaS,aab];kernel_rfl) (by decide +kernel) (by decide +kernel) (by decide +kernel)
  (by first|exact .inl (by decide +kernel)|exact .inr (by decide +kernel)) (by rw[aa7];kernel_rfl)
theorem jb_called_rev:TypeCalled "reversed" "reversed.__new__" "object.__init__" :=
 ⟨by decide +kernel,by decide +kernel,⟨_,_,mro_reversed⟩,madeBy_type mro_reversed lookup_reversed_new (by decide +kernel),by decide +kernel,by rw[aa7];kernel_rfl,sV⟩
end F
section
variable{prog:Program}{w:World}{A:Around}{E:Value->Shared->Prop}{it t:Addr}{items:Array Value}{h:Heap}{g:Array GenState}{d:Drawn}{tk:Nat}{os:OsState}
def RvO(t:Addr)(i:Int):Obj:={cls:=.type "reversed",data:=.fields #[.ref t,adt i]}
theorem wQ{Q:aeZ->X4->Prop}(O:h.IsTuple t items)(Y:(items.size:Int)<2 ^ 63)
  (D:Q (.done (.ret (.ref h.objs.size))) ⟨h.push (RvO t ((items.size:Int)-1)),g,d,tk+1+1,os⟩):wpAny (model prog w) A (Builtin.«reversed.__new__» ⟨[.type "reversed",.ref t],[]⟩) Q E ⟨h,g,d,tk,os⟩:=by
 have z:(⟨h,g,d,tk,os⟩:X4).TypeIs (.ref t) "tuple":=O.typeIs;have I:=F.sub_reversed_self;have J:=F.jb_lk_tup_rev;have Z:=F.jb_sub_tup_dict;have q:=Y7.lookup;have U:IsTup (⟨h,g,d,tk,os⟩:X4).heap t items:=O
 repeat(any_goals(first|assumption|(with_reducible refine X3 (PyProof.Rows.len_tuple U Y ?_))|wp_step))
theorem pD{Q:Value->X4->Prop}(O:h.IsTuple t items)(Y:(items.size:Int)<2 ^ 63)
  (D:Q (.ref h.objs.size) ⟨h.push (RvO t ((items.size:Int)-1)),g,d,tk+1+1,os⟩) :
  wpAny (model prog w) A (call (.type "reversed") [.ref t]) Q E ⟨h,g,d,tk,os⟩:=by
 refine callType_newIn F.jb_called_rev (by decide) (F.typeCall_reversed_1 _) (F.newCall_reversed_1 _) (λobj=>F.args_object_init_2 _ _) F.entry_reversed_new (S:=λz R s'=>s'=⟨h,g,d,tk,os⟩/\R (.ok (.ret (.ref h.objs.size))) ⟨h.push (RvO t ((items.size:Int)-1)),g,d,tk+1+1,os⟩) ?_ ⟨rfl,⟨⟨_,Ym _ rfl,rfl⟩,D⟩⟩;rintro z R s' ⟨rfl,V⟩;exact wQ O Y V
theorem JD{Q:Option Value->X4->Prop}{i:Nat}{x:Value}(J:h.get? it=some (RvO t (i:Int)))(O:h.IsTuple t items)(Z:t≠it)(B:items[i]? =some x)(Y:(items.size:Int)<2 ^ 63)
  (q:∀h',h'.get? it=some (RvO t ((i:Int)-1))->aa3 it h h'->Q (some x) ⟨h',g,d,tk+1,os⟩):wpAny (model prog w) A (adq (.ref it)) Q E ⟨h,g,d,tk,os⟩:=by
 have I:(⟨h,g,d,tk,os⟩:X4).TypeIs (.ref it) "reversed":=⟨_,J,rfl⟩;have D:(⟨h,g,d,tk,os⟩:X4).TypeIs (.ref t) "tuple":=O.typeIs;unfold adq;refine X3 (acB (aaN (name:=Z8 "__next__") I F.jb_slot_rev_next
  (aaI F.jb_slot_rev_next I F.jb_entry_rev_next ?_ (F.jb_args_rev_next _))))
 unfold Builtin.«reversed.__next__»;refine X3 (adl (a:=(Y8 it,[])) rfl ?_)
 try dsimp only
 refine X3 (aap J rfl (x:=.ref t) rfl ?_);refine X3 (aap J rfl (x:=adt (i:Int)) rfl ?_);show wpAny _ _ (if(i:Int)<0 then _ else _) _ _ _;rw[YB (by omega)];show wpAny _ _ (specialOf (.ref t) "__getitem__" >>=_) _ _ _;refine X3 (wpAny_specialOf D slot_tuple_getitem.lookup ?_);rw[YB (by decide)];have U:IsTup h t items:=O;have z:i<items.size:=(Array.getElem?_eq_some_iff.mp B).1;have V:aed (i:Int) items.size=some i:=adg (by omega) (by simpa using z);refine X3 (wpAny_mkInt ?_);refine X3 (acB (PyProof.Rows.getItem_tuple U (by omega) (by omega) V B ?_))
 repeat(any_goals(first|assumption|wp_step))
 refine⟨x,rfl,Yg (q _ ?_ (ad5 ..))⟩;exact aa5 _ J rfl
theorem MT{Q:Option Value->X4->Prop}(B:A.handled=none)(J:h.get? it=some (RvO t (-1)))
  (q:∀h',(∀b o,b≠it->h.get? b=some o->h'.get? b=some o)->Q none ⟨h',g,d,tk,os⟩):wpAny (model prog w) A (adq (.ref it)) Q E ⟨h,g,d,tk,os⟩:=by
 have I:(⟨h,g,d,tk,os⟩:X4).TypeIs (.ref it) "reversed":=⟨_,J,rfl⟩;unfold adq;refine X3 (acB (aaN (name:=Z8 "__next__") I F.jb_slot_rev_next
  (aaI F.jb_slot_rev_next I F.jb_entry_rev_next ?_ (F.jb_args_rev_next _))))
 unfold Builtin.«reversed.__next__»;refine X3 (adl (a:=(Y8 it,[])) rfl ?_)
 try dsimp only
 refine X3 (aap J rfl (x:=.ref t) rfl ?_);refine X3 (aap J rfl (x:=adt (-1)) rfl ?_);show wpAny _ _ (if(-1:Int)<0 then _ else _) _ _ _;rw[Yi (by decide)];have z:A.in1.handled=none:=B
 repeat(any_goals(first|assumption|wp_step))
 simp![raiseNew];refine X3 (wpAny_handled ?_);rw[z];refine X3 (Yg (adm ?_));refine X3 (abS (T:="StopIteration") (b:=true) ⟨_,Ym _ rfl,rfl⟩ isSubtype_stop ?_);refine Yg (q _ λb o U e=>?_);exact X6 _ (X6 _ ((Z9 _ _ (Zr U)).trans ((Z9 _ _ (Zr U)).trans e)))
theorem yh{Q:Value->X4->Prop}{i:Int}(J:h.get? it=some (RvO t i))(D:Q (.ref it) ⟨h,g,d,tk,os⟩):wpAny (model prog w) A (acQ (.ref it)) Q E ⟨h,g,d,tk,os⟩:=by
 have I:(⟨h,g,d,tk,os⟩:X4).TypeIs (.ref it) "reversed":=⟨_,J,rfl⟩;refine wpAny_pyIter_slot I F.jb_slot_rev_iter (aaI F.jb_slot_rev_iter I F.jb_entry_rev_iter ?_ (F.jb_args_rev_iter _));show wpAny _ _ (ret (.ref it)) _ _ _;exact Yg ⟨_,rfl,"reversed",_,I,F.jb_slot_rev_next.lookup,D⟩
end
end PySem
namespace Jb
open PySem PySem.Spec PyProof.Rows L2
def W0(K:Yb)(a:Addr)(n:Nat):It:=
 ⟨λi H=>∃xs x,SqT K H a xs/\xs.length=n/\i<n/\xs[n-1-i]? =some x,λi H x H'=>H'=H/\∀xs,SqT K H a xs->xs[n-1-i]? =some x,λi H=>∃xs,SqT K H a xs/\xs.length=n/\n<=i⟩
theorem HX{P:Yu}{K:Yb}(a it:Addr)(n:Nat)(a1:a≠it) :
  Turn P w K tg (W0 K a n) [it] it (λi h=>i<=n/\h.get? it=some (RvO a ((n:Int)-1-(i:Int))))where
 mem:=by simp
 obj:=λi h st b U=>by
  obtain rfl:b=it:=by simpa using U
  exact⟨_,st.2,λv z=>by cases z⟩
 keep:=λi h h' st k=>⟨st.1,k it (by simp) _ st.2⟩
 item:=by
  intro X hP V q F i pins s σ H E I Y st hg;subst hP V q;obtain⟨xs,x,D,hn,hi,B⟩:=hg;obtain⟨its,O,p,hz⟩:=I.tuple D;obtain⟨u,hu,ru⟩:=O.get B;obtain⟨f0,f1,f2,f3,f4,f5⟩:=Y it (by simp);obtain⟨h0,g,d,tk,os⟩:=s;obtain⟨a3,J⟩:=st;have e:(n:Int)-1-(i:Int)=((n-1-i:Nat):Int):=by omega
  rw[e]at J;have Z:=O.length;have a2:(its.toArray.size:Int)<2 ^ 63:=by
   have:Yc<2 ^ 63:=by decide
   simp;omega
  refine JD (items:=its.toArray) (x:=u) J p a1 (by simpa using hu) a2 λh' a0 sb=>?_;have I1:Inv X pins σ H ⟨h',g,d,tk+1,os⟩:=I.turned (t':=tk+1) (λb o U e=>(sb.2 b U).trans e) f0 f1 f3 f4 f5;refine⟨u,rfl,x_ (s:=⟨h',g,d,tk+1,os⟩) a0 rfl rfl (by decide) ⟨x,H,I1,ru,⟨rfl,λys hy=>by rw[I.tuple_inj hy D];exact B⟩,⟨by omega,?_⟩,λb U=>(Y b U).1⟩⟩;have e2:(n:Int)-1-((i+1:Nat):Int)=((n-1-i:Nat):Int)-1:=by omega
  rw[e2];exact a0
 done:=by
  intro X hP V q F i pins s σ H E I Y st hg;subst hP V q;obtain⟨xs,D,hn,hi⟩:=hg;obtain⟨f0,f1,f2,f3,f4,f5⟩:=Y it (by simp);obtain⟨h0,g,d,tk,os⟩:=s;obtain⟨a3,J⟩:=st;have e:(n:Int)-1-(i:Int)= -1:=by omega
  rw[e]at J;exact MT (I.ok.hd F) J λh' eb=>⟨rfl,I.turned (t':=tk) (λb o U e=>eb b o U e) f0 f1 f3 f4 f5⟩
 self:=λA i s Q E st h=>yh st.2 h
def Rg(K:Yb)(ta:TA):TI:=λσ H R=>ta σ H λB H1=>∃a xs,B=[.ref a]/\SqT K H1 a xs/\R (W0 K a xs.length) H1
variable{X:Cx}{ta:TA}{p:Pos}
theorem O7(hg:Gl X "reversed")(V:X.mg "reversed"=none)(Y:PA X [e] ta)(O:Yh [e] X.env=[(false,eval e X.env)]:=by rfl):PI X tg (.Call (.Name "reversed" p) [e] [] pos) (Rg X.K ta):=by
 intro pins s σ H R I h;refine Call_ (nR I hg V boot_reversed (Z5 (thn (Y pos pins s σ H _ I h) λus Z ⟨B,H1,J,r1,q1⟩=>?_) O rfl));obtain⟨a,xs,ev,D,q⟩:=q1;subst ev;obtain⟨u,rfl,ru⟩:=vals1 r1;cases ru;obtain⟨its,rv,pl,hz⟩:=J.tuple D;obtain⟨z,g,d,tk,os⟩:=Z;have hl:=rv.length;have U:(its.toArray.size:Int)<2 ^ 63:=by
  have:Yc<2 ^ 63:=by decide
  simp;omega
 refine pD (items:=its.toArray) pl U ?_;refine yh (Ym _ rfl) ?_;have I2:Inv X pins σ H1 ⟨z.push (RvO a ((its.toArray.size:Int)-1)),g,d,tk+1+1,os⟩:=J.kept (t':=tk+1+1) (λb o e=>X6 _ e);have a0:a<z.objs.size:=let⟨_,h1,_⟩:=pl;Yk h1;refine⟨z.objs.size,[z.objs.size],_,_,H1,rfl,I2,HX a _ xs.length (Yw a0),⟨aaV _,?_⟩,λc F=>?_,q⟩
 .have e3:(xs.length:Int)-1-((0:Nat):Int)=(its.toArray.size:Int)-1:=by simp;omega
  rw[e3];exact Ym _ rfl
 .have hb2:z.objs.size<=c:=by rw[List.mem_singleton.mp F];exact Nat.le_refl _
  exact J.fpOk hb2 (J.hok.fresh hb2)
def Ed(f:En->Option (List D)):En->Option (Bool×List D):=λρ=>(f ρ).bind λds=>match ds with
 |[.tup es]=>some (clean (.tup es),(iQ es).reverse)
 |_=>none
variable{G:Gc}{H H':Hp}{W:Wn}
theorem Mi{v:V}{ds:List D}(w:WOk H W)(s:Same H H')(r:Rep G H' (W.add L) (.tup ds) v M)(F:∀a∈M,a∈L)(I:∀a∈L,H a=none) :
  ∃a xs,v= .ref a/\Parts G H' W (clean (.tup ds)) (iQ ds) xs/\∀H2 J,LtB (clean (.tup ds)) H' W H2 J->SqT G.K H2 a xs:=by
 have free:∀a∈M,W.free a:=λa Y=>⟨λz=>?_,λz=>?_,λz=>?_⟩
 .have les:Les H' (W.add L) W M:=⟨λa f=>⟨λz=>f.1 (.inr z),f.2⟩,free⟩
  rw[Rep]at r;obtain⟨a,xs,rfl,U,Z⟩:=r;refine⟨a,xs,rfl,⟨aM.fzo (W:=W.add L) (W':=W) (λ_ z=>z) Z les,λz=>?_⟩,λH2 J l=>l.tup U⟩;simp[clean,aA,az]at z;exact⟨gn z.1,gF z.2⟩
 .obtain⟨o,ho,_⟩:=w a (.inl z);rw[I a (F a Y)]at ho;cases ho
 .obtain⟨o,ho,_⟩:=w a (.inr (.inl z));rw[I a (F a Y)]at ho;cases ho
 .obtain⟨o,ho,_⟩:=w a (.inr (.inr z));rw[I a (F a Y)]at ho;cases ho
theorem GJ{l:List α}{d:α}(e:l.reverse[i]? =some d):i<l.length/\l[l.length-1-i]? =some d:=by
 have hi:i<l.length:=by have:=(List.getElem?_eq_some_iff.mp e).1;rwa[aaM]at this
 rw[adx hi]at e;exact⟨hi,e⟩
variable{f:En->Option (List D)}
theorem KH{t:TA}(h:RfA G ob t f):RfI G ob (Rg G.K t) (Ed f):=λρ b items e σ H W V w R q=>by
 unfold Ed at e;cases h1:f ρ with
 |none=>simp[h1]at e
 |some ds=>
  rw[h1]at e;simp![gD]at e;split at e
  .rename_i es
   cases e;refine h ρ _ h1 σ H W V w _ λB H' L s r I nd=>?_;obtain⟨v,ys,M,M',rfl,rfl,J,hy⟩:=r.inv;obtain⟨rfl,rfl⟩:=hy.inv0;rw[Yz]at J I;obtain⟨a,xs,rfl,p,O⟩:=Mi w s J (λa Y=>Y) I;have Z:=p.r.length;refine⟨a,xs,rfl,O H' W (LtB.up Up.refl),q _ H' s ⟨λi d e H2 z l=>?_,λi d e H2 z l x F y=>?_,λH2 z l=>?_⟩⟩
   .obtain⟨hi,e⟩:=GJ e
    rw[Z]at hi e;obtain⟨x,U⟩:=p.r.getV e;exact⟨xs,x,O H2 z l,rfl,hi,U⟩
   .obtain⟨rfl,y⟩:=y
    obtain⟨hi,e⟩:=GJ e;rw[Z]at e;exact⟨Same.refl _,p.at l e (y xs (O _ z l))⟩
   .exact⟨xs,O H2 z l,rfl,by rw[aaM,Z];exact Nat.le_refl _⟩
  .cases e
variable{X:ι->Cx}
theorem JN{a:Expr}(B:∀c,Gl (X c) "reversed")(V:∀c,(X c).mg "reversed"=none)(Y:PVA X G ob [a] f)(O:∀c,Yh [a] (X c).env=[(false,eval a (X c).env)]:=by intro _;rfl)(q:∀c,(X c).K=G.K:=by intro _;rfl) :
  PVI X G ob tg (.Call (.Name "reversed" p) [a] [] pos) (Ed f):=
 let⟨t,a1,a2⟩:=Y.ex;⟨_,λc=>(by rw[←q c];exact O7 (B c) (V c) (a1 c) (O c)),KH a2⟩
variable{X:Cx}{σ:L2.St}{s:X4}{kvs:List (Key×V)}
theorem yg{ob:Obj}(I:Inv X pins σ H s)(e:H a=some (.frz ob (.dK kvs)))(D:∀o u,X.H₀ a≠some (.frz o u)):Inv X pins σ (upd H a (.dK kvs)) s where
 ok:=I.ok
 os:=I.os
 bare:=I.bare
 base:=⟨I.base.keep,I.base.slot,λb o g n B=>by rw[aR (λz=>by have:=I.base.free b o g n B;rw[z,e]at this;cases this)];exact I.base.free b o g n B,I.base.there,
  λb xs g=>by rw[aR (jP (I.base.tups b xs g) e (by intro z;cases z))];exact I.base.tups b xs g,λb o u g=>by rw[aR (λz=>by subst z;exact D o u g)];exact I.base.frzs b o u g,
  λb ps g=>let⟨more,z⟩:=I.base.tbls b ps g;⟨more,by rw[aR (jP z e (by intro z;cases z))];exact z⟩⟩
 loc:=I.loc
 cell:=I.cell
 free:=by rw[aR (λz=>by have:=I.free;rw[z,e]at this;cases this)];exact I.free
 freeC:=λx c g=>by rw[aR (λz=>by have:=I.freeC x c g;rw[z,e]at this;cases this)];exact I.freeC x c g
 pin:=λp O=>let⟨h1,h2,h3⟩:=I.pin p O;⟨h1,by rw[aR (λz=>by rw[z,e]at h2;cases h2)];exact h2,h3⟩
 hok:=λb u g=>by
  by_cases U:b=a
  .subst U
   rw[aW]at g;cases g;obtain⟨_,q⟩:=(show cN X.prog X.w H s.heap b (.frz ob (.dK kvs))from I.hok b _ e);exact q
  .rw[aR U]at g
   exact(I.hok b u g).stay (λc v _ q=>q) (λc q=>by rw[aR (jP q e (by intro z;cases z))];exact q) λc xs q=>by rw[aR (jP q e (by intro z;cases z))];exact q
 len:=I.len
theorem yf(I:Inv X pins σ H s)(Y:H a=some (.dK kvs)):∃ob,Inv X pins σ (upd H a (.frz ob (.dK kvs))) s/\∀o u,X.H₀ a≠some (.frz o u):=by
 obtain⟨z,hd,B,rel,D⟩:=v4 I.hok Y;obtain⟨ep,ob,es,g,x,d,F,O,U⟩:=D.dictAt;refine⟨ob,mJ (t':=s.toks) I (by rw[Y];exact Zn) ⟨rfl,λ_ _=>rfl⟩ ⟨ob,g⟩ ⟨g,z,hd,B,rel,D⟩,λo u g=>?_⟩;have:=I.base.frzs a o u g;rw[Y]at this;cases this
def Eb(tl:TE):TI:=λσ H R=>tl σ H λx H1=>∃a ob kvs,x= .ref a/\H1 a=some (.frz ob (.dK kvs))/\R (Itd a ob kvs) H1
variable{te:TE}
theorem Bo(hl:PE X e te):PI X tg e (Eb te):=by
 intro pins s σ H R I h;refine thn (hl pins s σ H _ I h) λv Z ⟨x,H1,J,F,q1⟩=>?_;obtain⟨a,ob,kvs,ex,Y,q⟩:=q1;subst ex;cases F;obtain⟨h1,z,hd,B,rel,D⟩:=(show cN X.prog X.w H1 Z.heap a (.frz ob (.dK kvs))from J.hok a _ Y);obtain⟨ep,V,es,g,x,d,F,O,r3⟩:=D.dictAt;have e0:V=ob:=by rw[h1]at g;exact(Ze g).symm
 subst e0;have a0:Z.heap.DictAt (bA X.prog X.w) a B ep:=⟨V,es,g,x,d,F,O,r3⟩;refine wpAny_pyIter_dict hd a0 ?_;refine⟨Z.heap.objs.size,[Z.heap.objs.size],_,_,_,rfl,J.kept (t':=Z.toks) λb o e=>X6 _ e,Ia a _ V kvs,⟨es,ep,d,_,Ym _ rfl,rfl,by rw[show kvs.length=B.length from rel.length];rfl⟩,λb U=>?_,q⟩;have e:b=Z.heap.objs.size:=by simpa using U
 subst e;exact J.fpOk (Nat.le_refl _) (J.hok.fresh (Nat.le_refl _))
def tGh(j:Nat)(te:TE):TE:=λσ H Q=>∃a kvs,σ[j]? =some (some (.ref a))/\H a=some (.dK kvs)/\∀ob,te σ (upd H a (.frz ob (.dK kvs))) λv H'=>H' a=some (.frz ob (.dK kvs))/\Q v (upd H' a (.dK kvs))
mutual
noncomputable def BR:D->Bool
 |.tup ds=>uh ds
 |.lst _ ds=>uh ds
 |.dct m _ ds=>(m== .scr)&&uh ds
 |.ins _ _ _ ds=>uh ds
 |_=>true
noncomputable def uh:List D->Bool
 |[]=>true
 |d::r=>BR d&&uh r
end
def Xr(o:HO):Prop:=∀ob u,o≠.frz ob u
structure Chg(fd:Bool)(H H':Hp):Prop where
 l:∀b xs,H b=some (.lst xs)->H' b=some (.lst xs)
 t:∀b xs,H b=some (.tup xs)->H' b=some (.tup xs)
 i:∀b C dx kv,H b=some (.ins C dx kv)->H' b=some (.ins C dx kv)
 d:fd=false->∀b kvs,H b=some (.dK kvs)->H' b=some (.dK kvs)
 r:∀b o,Xr o->Rd H b o->Rd H' b o
theorem dN.chg{B:Addr->HO->Prop}{o:HO}{m:Mk}(Z:Rd H a o->Rd H' a o)(h:dN B H W a o m L M)(J:m≠.scr->H a=some o->H' a=some o):dN B H' W a o m L M:=by
 cases m with
 |own=>exact⟨J (by intro z;cases z) h.1,h.2⟩
 |frz=>exact⟨J (by intro z;cases z) h.1,h.2⟩
 |brw=>exact⟨J (by intro z;cases z) h.1,h.2⟩
 |bro=>exact⟨J (by intro z;cases z) h.1,h.2⟩
 |scr=>exact⟨h.1.imp (λz=>⟨Z z.1,z.2⟩) id,h.2⟩
variable{fd:Bool}
mutual
theorem Rep.chg(c:Chg fd H H'):∀{d:D}{v:V}{L:List Addr},Rep G H W d v L->(fd=true->BR d=true)->Rep G H' W d v L
 |.non,v,L,h,_=>by rw[Rep]at h⊢;exact h
 |.bl _,v,L,h,_=>by rw[Rep]at h⊢;exact h
 |.int _,v,L,h,_=>by rw[Rep]at h⊢;exact h
 |.str _,v,L,h,_=>by rw[Rep]at h⊢;exact h
 |.ty _,v,L,h,_=>by rw[Rep]at h⊢;exact h
 |.tup ds,v,L,h,n=>by
  rw[Rep]at h⊢;obtain⟨a,xs,rfl,U,Z⟩:=h;exact⟨a,xs,rfl,c.t a xs U,aM.chg c Z λz=>by simpa[BR]using n z⟩
 |.lst m ds,v,L,h,n=>by
  rw[Rep]at h⊢;obtain⟨a,xs,M,rfl,Z,O⟩:=h;exact⟨a,xs,M,rfl,aM.chg c Z λz=>by simpa[BR]using n z,O.chg (c.r a _ (λ_ _ z=>by cases z)) λ_=>c.l a xs⟩
 |.dct m ks ds,v,L,h,n=>by
  rw[Rep]at h⊢;obtain⟨a,xs,M,rfl,J,Z,O⟩:=h;refine⟨a,xs,M,rfl,J,aM.chg c Z λz=>?_,O.chg (c.r a _ (λ_ _ z=>by cases z)) λF=>?_⟩
  .have:=n z
   rw[BR,Yp]at this;exact this.2
  .cases fd with
   |false=>exact c.d rfl a xs
   |true=>
    have:=n rfl;rw[BR,Yp]at this;cases m<;>first|exact absurd rfl F|(have q:=this.1;cases q)
 |.ins m cc fs ds,v,L,h,n=>by
  rw[Rep]at h⊢;obtain⟨a,C,dx,xs,M,rfl,B,J,Z,O⟩:=h;exact⟨a,C,dx,xs,M,rfl,B,J,aM.chg c Z λz=>by simpa[BR]using n z,O.chg (c.r a _ (λ_ _ z=>by cases z)) λ_=>c.i a C dx xs⟩
theorem aM.chg(c:Chg fd H H'):∀{ds:List D}{B:List V}{L:List Addr},aM G H W ds B L->(fd=true->uh ds=true)->aM G H' W ds B L
 |[],B,L,h,_=>by rw[aM]at h⊢;exact h
 |d::r,B,L,h,n=>by
  obtain⟨x,ys,M,M',rfl,rfl,h1,h2⟩:=h.inv;have F:fd=true->BR d=true/\uh r=true:=λz=>by have:=n z;rwa[uh,Yp]at this
  exact .cons (Rep.chg c h1 λz=>(F z).1) (aM.chg c h2 λz=>(F z).2)
end
theorem jm{ob:Obj}(Y:H a=some (.dK kvs)):Chg true H (upd H a (.frz ob (.dK kvs)))where
 l:=λb xs e=>by rw[aR (jP e Y (by intro z;cases z))];exact e
 t:=λb xs e=>by rw[aR (jP e Y (by intro z;cases z))];exact e
 i:=λb C dx kv e=>by rw[aR (jP e Y (by intro z;cases z))];exact e
 d:=λz=>by cases z
 r:=λb o n h=>by
  by_cases U:b=a
  .subst U
   rcases h with h|⟨u,h⟩
   .rw[Y]at h;cases h;exact .inr ⟨ob,aW⟩
   .rw[Y]at h;cases h
  .rcases h with h|⟨u,h⟩
   .exact .inl (by rw[aR U];exact h)
   .exact .inr ⟨u,by rw[aR U];exact h⟩
theorem Bj{ob:Obj}(Y:H a=some (.frz ob (.dK kvs))):Chg false H (upd H a (.dK kvs))where
 l:=λb xs e=>by rw[aR (jP e Y (by intro z;cases z))];exact e
 t:=λb xs e=>by rw[aR (jP e Y (by intro z;cases z))];exact e
 i:=λb C dx kv e=>by rw[aR (jP e Y (by intro z;cases z))];exact e
 d:=λ_ b kv e=>by rw[aR (jP e Y (by intro z;cases z))];exact e
 r:=λb o n h=>by
  by_cases U:b=a
  .subst U
   rcases h with h|⟨u,h⟩
   .rw[Y]at h;cases h;exact absurd rfl (n _ _)
   .rw[Y]at h;cases h;exact .inl aW
  .rcases h with h|⟨u,h⟩
   .exact .inl (by rw[aR U];exact h)
   .exact .inr ⟨u,by rw[aR U];exact h⟩
def kD:Key->D
 |.inl i=>.int i
 |.inr x=>.str x
def wiF(a:Addr)(ob:Obj)(kvs:List (Key×V)):TI:=λ_ H R=>H a=some (.frz ob (.dK kvs))->R (Itd a ob kvs) H
theorem H9:RfI G ob (wiF a o kvs) (λ_=>some (false,(kvs.map (·.1)).map kD)):=λρ b items e σ H W O w R q B=>by
 cases e;refine q _ H (Same.refl _) ⟨λi d e H2 J l=>?_,λi d e H2 J l x F y=>?_,λH2 J l=>?_⟩
 .have u:Up H H2 W J:=by simpa[LtB]using l
  exact⟨u.s a _ B,by have:=(List.getElem?_eq_some_iff.mp e).1;simpa using this⟩
 .obtain⟨rfl,p,hp,rfl⟩:=y
  have:kD p.1=d:=by simpa[hp]using e
  subst this;refine⟨Same.refl _,?_⟩;obtain⟨k,_⟩:=p;cases k<;>· show Rep _ _ _ (kD _) (kV _) _;simp![kD,kV];rw[Rep];exact⟨rfl,rfl⟩
 .have u:Up H H2 W J:=by simpa[LtB]using l
  exact⟨u.s a _ B,by simp⟩
end Jb
namespace PySem
def gA(ps:List Nat):Obj:={cls:=.type "tuple",data:=.seq (ps.map λ(i:Nat)=>adt i).toArray}
end PySem
namespace Jb
open PySem PyProof.Rows
def vl(x:Keyed):Int:=numOf x.1
variable{l:List Keyed}
theorem rd(h:n<=l.length):l.reverse.drop (l.length-n)=(l.take n).reverse:=by
 rw[List.drop_reverse,show l.length-(l.length-n)=n by omega]
variable{k:Nat}
theorem rt(h:n<=l.length)(J:k<=n):(l.reverse.drop (l.length-n)).take (n-k)=((l.take n).drop k).reverse:=by
 rw[rd h,List.take_reverse,YX,show min n l.length-(n-k)=k by omega]
end Jb
namespace PySem
open PySem.W
variable{r d:Addr}{P:Nat->Value->Prop}{OK:Heap->Prop}
theorem collect_src{Q:List Value->X4->Prop}(K:KdlSrc prog w T r d n P OK)(hh:A.handled=none)(hok:OK s.heap)(I:n<=Yc)
  (q:∀h' tk acc,(∀b o,s.heap.get? b=some o->h'.get? b=some o)->ItemsOf P acc n->Q acc.toList {s with heap:=h',toks:=tk}):wpAny (model prog w) A (collect (.ref r)) Q E s:=by
 unfold collect;refine X3 (adC (ZZ F.entry_proto_collect ?_));rw[ZL F.plain_proto_collect _];show wpAny _ A.in1 (newList [] >>=λl=>again (.builtin "list.__iadd__" ⟨[l,.ref r],[]⟩)) _ _ s;refine X3 (ZC ?_);refine Yg ⟨abP aey _,ZZ F.entry_list_iadd ?_⟩;rw[ZL aey _];show wpAny _ A.in1 (Builtin.List.listExtendWith (.ref s.heap.objs.size) (.ref r) (.ref s.heap.objs.size)) _ _ _;have U:(s.heap.push {cls:=.type "list",data:=.seq ([]:List Value).toArray}).get? s.heap.objs.size=some {cls:=.type "list",data:=.seq #[] 0}:=Ym _ rfl;have z:=K.there _ hok;have V:∀s',(∃h' tk acc c,s'={s with heap:=h',toks:=tk}/\(∀b o,s.heap.get? b=some o->h'.get? b=some o)/\h'.get? s.heap.objs.size=some {cls:=.type "list",dict:=none,data:=.seq acc c,slots:=#[]}/\ItemsOf P acc n)->wpAny (model prog w) A (match Y8 s.heap.objs.size with
   |Y8 a=>do
    match(←load a).data with
     |Data.seq xs _=>pure xs.toList
     |_=>unsupported "internal:collect"
   |_=>unsupported "internal:collect") Q E s':=by
  rintro s' ⟨h',tk,acc,c,rfl,J,a0,Y⟩;show wpAny _ A (load s.heap.objs.size >>=_) _ _ _;refine X3 (adG a0 ?_);exact Yg (q h' tk acc J Y)
 refine aaC (kdl_extend (A:=A) (R:=λr s'=>r= .ok (.ret (.ref s.heap.objs.size))/\∃h' tk acc c,s'={s with heap:=h',toks:=tk}/\(∀b o,s.heap.get? b=some o->h'.get? b=some o)/\h'.get? s.heap.objs.size=some {cls:=.type "list",dict:=none,data:=.seq acc c,slots:=#[]}/\ItemsOf P acc n)
  (s:={s with heap:=s.heap.push {cls:=.type "list",data:=.seq ([]:List Value).toArray}}) K hh (K.keep _ _ hok λb _ o e=>X6 _ e) s.heap.objs.size (ab5 z.1) (ab5 z.2) _ 0 U (λh' tk acc c J a0 Y=>⟨rfl,h',tk,acc,c,rfl,λb o e=>J b o (Yw (Yk e)) (X6 _ e),a0,Y⟩) I) (λB s' h=>?_) (λe s' h=>?_)
 .cases B with
  |done f=>
   obtain⟨e,h⟩:=h;cases e;exact V _ h
  |again O=>exact⟨h.1,aaG h.2 λr D Z=>by obtain⟨rfl,h⟩:=Z;exact V _ h⟩
 .exact absurd h.1 (by simp)
end PySem
namespace Jb
open PySem PySem.Spec PyProof.Rows L2
theorem Gq:∀{xs:List V}{us:List Value},us.length=xs.length->(∀(i:Nat)(x:V)(u:Value),xs[i]? =some x->us[i]? =some u->RelV x u)->Vals xs us
 |[],[],_,_=>.nil
 |[],_::_,h,_=>by simp at h
 |_::_,[],h,_=>by simp at h
 |x::xs,u::us,h,hr=>.cons (hr 0 x u rfl rfl) (Gq (by simpa using h) λi y v h1 h2=>hr (i+1) y v (by simpa using h1) (by simpa using h2))
def mkS:Mk->Mk
 |.frz=>.scr
 |m=>m
mutual
noncomputable def toS:D->D
 |.tup ds=>.tup (p_ ds)
 |.lst m ds=>.lst m (p_ ds)
 |.dct m ks ds=>.dct (mkS m) ks (p_ ds)
 |.ins m c fs ds=>.ins m c fs (p_ ds)
 |d=>d
noncomputable def p_:List D->List D
 |[]=>[]
 |d::r=>toS d::p_ r
end
mutual
theorem yo:∀{d:D},aA d=true->aA (toS d)=true
 |.non,_=>rfl|.bl _,_=>rfl|.int _,_=>rfl|.str _,_=>rfl|.ty _,_=>rfl
 |.tup ds,h=>by simp[aA]at h;simp[toS,aA,kJ h]
 |.lst m ds,h=>by simp[aA]at h;simp[toS,aA,kJ h.2,h.1]
 |.dct m _ ds,h=>by simp[aA]at h;cases m<;>simp[toS,aA,kJ h.2,mkS]<;>simp at h
 |.ins m _ _ ds,h=>by simp[aA]at h;simp[toS,aA,kJ h.2,h.1]
theorem kJ:∀{ds:List D},aC ds=true->aC (p_ ds)=true
 |[],_=>rfl
 |d::r,h=>by simp[aC]at h;simp[p_,aC,yo h.1,kJ h.2]
end
mutual
theorem w6:∀{d:D},az d=true->az (toS d)=true
 |.non,_=>rfl|.bl _,_=>rfl|.int _,_=>rfl|.str _,_=>rfl|.ty _,_=>rfl
 |.tup ds,h=>by simp[az]at h;simp[toS,az,j7 h]
 |.lst m ds,h=>by simp[az]at h;simp[toS,az,j7 h.2,h.1]
 |.dct m _ ds,h=>by simp[az]at h;cases m<;>simp[toS,az,j7 h.2,mkS]<;>simp at h
 |.ins m _ _ ds,h=>by simp[az]at h;simp[toS,az,j7 h.2,h.1]
theorem j7:∀{ds:List D},aD ds=true->aD (p_ ds)=true
 |[],_=>rfl
 |d::r,h=>by simp[aD]at h;simp[p_,aD,w6 h.1,j7 h.2]
end
variable{d:D}
theorem HQ(h:clean d=true):clean (toS d)=true:=by
 rw[clean,Yp]at h⊢;exact⟨yo h.1,w6 h.2⟩
variable{G:Gc}{H:Hp}{W:Wn}{kv:List (Key×V)}
mutual
theorem Rep.toS(Y:H a=some (.dK kv)):∀{d:D}{v:V}{L:List Addr},Rep G H W d v L->aA d=true->az d=true->a∉L->Rep G (upd H a (.frz o (.dK kv))) W (toS d) v L
 |.non,v,L,h,_,_,_=>by rw[Rep]at h;simp[Jb.toS,Rep,h]
 |.bl _,v,L,h,_,_,_=>by rw[Rep]at h;simp[Jb.toS,Rep,h]
 |.int _,v,L,h,_,_,_=>by rw[Rep]at h;simp[Jb.toS,Rep,h]
 |.str _,v,L,h,_,_,_=>by rw[Rep]at h;simp[Jb.toS,Rep,h]
 |.ty _,v,L,h,_,_,_=>by rw[Rep]at h;simp[Jb.toS,Rep,h]
 |.tup ds,v,L,h,n,m,q=>by
  rw[Rep]at h;rw[Jb.toS,Rep];obtain⟨b,xs,rfl,U,Z⟩:=h;exact⟨b,xs,rfl,(jm Y).t b xs U,aM.toS Y Z (by simpa[aA]using n) (by simpa[az]using m) q⟩
 |.lst k ds,v,L,h,n,m,q=>by
  rw[Rep]at h;rw[Jb.toS,Rep];obtain⟨b,xs,M,rfl,Z,O⟩:=h;simp[aA]at n;simp[az]at m;exact⟨b,xs,M,rfl,aM.toS Y Z n.2 m.2 λz=>q (O.sub.subset z),O.chg ((jm Y).r b _ (λ_ _ z=>by cases z)) λ_=>(jm Y).l b xs⟩
 |.dct k ks ds,v,L,h,n,m,q=>by
  rw[Rep]at h;rw[Jb.toS,Rep];obtain⟨b,xs,M,rfl,J,Z,O⟩:=h;simp[aA]at n;simp[az]at m;refine⟨b,xs,M,rfl,J,aM.toS Y Z n.2 m.2 λz=>q (O.sub.subset z),?_⟩;have Z:=(jm (ob:=o) Y).r b (.dK xs) (λ_ _ z=>by cases z);cases k with
  |own=>exact⟨by rw[aR (λz=>q (by rw[O.2,z];simp))];exact O.1,O.2⟩
  |frz=>exact⟨.inl ⟨Z (.inl O.1),O.2.1⟩,O.2.2⟩
  |brw=>exact absurd rfl n.1
  |bro=>exact absurd rfl m.1
  |scr=>exact⟨O.1.imp (λz=>⟨Z z.1,z.2⟩) id,O.2⟩
 |.ins k c fs ds,v,L,h,n,m,q=>by
  rw[Rep]at h;rw[Jb.toS,Rep];obtain⟨b,C,dx,xs,M,rfl,B,J,Z,O⟩:=h;simp[aA]at n;simp[az]at m;exact⟨b,C,dx,xs,M,rfl,B,J,aM.toS Y Z n.2 m.2 λz=>q (O.sub.subset z),O.chg ((jm Y).r b _ (λ_ _ z=>by cases z)) λ_=>(jm Y).i b C dx xs⟩
theorem aM.toS(Y:H a=some (.dK kv)):∀{ds:List D}{B:List V}{L:List Addr},aM G H W ds B L->aC ds=true->aD ds=true->a∉L->aM G (upd H a (.frz o (.dK kv))) W (p_ ds) B L
 |[],B,L,h,_,_,_=>by rw[p_];rw[aM]at h⊢;exact h
 |d::r,B,L,h,n,m,q=>by
  obtain⟨x,ys,M,M',rfl,rfl,h1,h2⟩:=h.inv;simp[aC]at n;simp[aD]at m;rw[p_];exact .cons (Rep.toS Y h1 n.1 m.1 λz=>q (Ye _ z)) (aM.toS Y h2 n.2 m.2 λz=>q (X7 _ z))
end
def xV(j:Nat)(tg:D->En->Option En)(body:En->Option Fl):En->Option Fl:=λρ=>match ρ[j]? with
 |some (some (.dct .frz ks _))=>match forL tg body (ks.map kD) (ρ.map (adQ toS))with
  |some (.nx ρ')=>some (.nx ρ')
  |_=>none
 |_=>none
def W3(j:Nat)(ts:TS):TS:=λE σ H=>∃a kvs,σ[j]? =some (some (.ref a))/\H a=some (.dK kvs)/\∀ob,ts {nx:=λO H'=>H' a=some (.frz ob (.dK kvs))/\E.nx O (upd H' a (.dK kvs)),bk:=λ_ _=>False,ct:=λ_ _=>False,rt:=λ_ _=>False} σ (upd H a (.frz ob (.dK kvs)))
theorem Us{X:Cx}{st:Stmt}{ts:TS}(h:PS X st ts):PS X st (W3 j ts):=by
 intro pins s σ H D I U;obtain⟨a,kvs,O,Y,k⟩:=U;obtain⟨ob,V,z⟩:=yf I Y;refine thn (h pins s σ _ _ V (k ob)) λf Z q=>?_;cases f with
 |next=>obtain⟨B,H',F,e,q⟩:=q;exact⟨B,_,yg F e z,q⟩
 |brk=>obtain⟨_,_,_,q⟩:=q;exact q.elim
 |cont=>obtain⟨_,_,_,q⟩:=q;exact q.elim
 |ret u=>obtain⟨_,_,_,_,_,q⟩:=q;exact q.elim
theorem El{kvs:List (Key×V)}:RfI G ob (wiF a o kvs) (λ_=>some (true,(kvs.map (·.1)).map kD)):=λρ b items e σ H W O w R q B=>by
 cases e;have Y:W.free a:=by
  have D:¬(W.n a∨W.s a∨W.o a):=λz=>by
   obtain⟨u,h1,h2⟩:=w a z;rw[B]at h1;cases h1;cases h2
  exact⟨λz=>D (.inl z),λz=>D (.inr (.inl z)),λz=>D (.inr (.inr z))⟩
 refine q _ H (Same.refl _) ⟨λi d e H2 J l=>?_,λi d e H2 J l x F y=>?_,λH2 J l=>?_⟩
 .have u:Evo H H2 W J:=by simpa[LtB]using l
  exact⟨(u.k a _ B Y).1,by have:=(List.getElem?_eq_some_iff.mp e).1;simpa using this⟩
 .obtain⟨rfl,p,hp,rfl⟩:=y
  have:kD p.1=d:=by simpa[hp]using e
  subst this;refine⟨Same.refl _,?_⟩;obtain⟨k,_⟩:=p;cases k<;>· show Rep _ _ _ (kD _) (kV _) _;simp![kD,kV];rw[Rep];exact⟨rfl,rfl⟩
 .have u:Evo H H2 W J:=by simpa[LtB]using l
  exact⟨(u.k a _ B Y).1,by simp⟩
variable{P:Nat->Bool}{g:TG}{body:En->Option Fl}
theorem Ld{tb:TS}{tg:D->En->Option En}(hg:RfG G ob P g tg)(U:RfS G ob P tb body):RfS G ob P (W3 j (Qm (Eb (Dv j)) g tb)) (xV j tg body):=λρ r e σ H S Fr s E q=>by
 unfold xV at e;split at e
 .rename_i ks ds hj
  split at e
  .rename_i ρ' he
   cases e;obtain⟨v,hv,a1,a6⟩:=s.sl j _ hj;rw[Rep]at a1;obtain⟨a,kvs,M,rfl,⟨rfl,a5⟩,Z,Y,F,rfl,a4⟩:=a1;refine⟨a,kvs,hv,Y,λo=>?_⟩;have nS:∀i,a∉S i:=λi z=>by
    cases J:ob i with
    |false=>exact F.2.1 ⟨i,J,z⟩
    |true=>exact F.2.2 ⟨i,J,z⟩
   have s':Sta G (upd H a (.frz o (.dK kvs))) ob (ρ.map (adQ toS)) σ S Fr:={
    len:=by rw[X_];exact s.len
    sl:=λi d e=>by
     rw[List.getElem?_map]at e;cases h5:ρ[i]? with
     |none=>rw[h5]at e;cases e
     |some x=>
      rw[h5]at e;cases x with
      |none=>cases e
      |some d1=>
       cases e;obtain⟨w,h6,h7,h8⟩:=s.sl i d1 h5;have a2:=h8;rw[clean,Yp]at a2;exact⟨w,h6,h7.toS Y a2.1 a2.2 (nS i),HQ h8⟩
    em:=λi h=>s.em i λd z=>h (toS d) (by rw[List.getElem?_map,z];rfl)
    nd:=s.nd
    dj:=s.dj
    fdj:=s.fdj
    fdm:=λb U=>by
     obtain⟨u,h1,h2⟩:=s.fdm b U;exact⟨u,by rw[aR (λz:b=a=>F.1 (by subst z;exact U))];exact h1,h2⟩}
   have a3:=GR (P:=P) (El (G:=G) (ob:=ob) (a:=a) (o:=o) (kvs:=kvs)) hg U (ρ.map (adQ toS)) (.nx ρ') (by unfold iV;simpa using he) σ (upd H a (.frz o (.dK kvs))) S Fr s' {nx:=λO H'=>H' a=some (.frz o (.dK kvs))/\E.nx O (upd H' a (.dK kvs)),bk:=λ_ _=>False,ct:=λ_ _=>False,rt:=λ_ _=>False} (λσ2 H2 S2 B I=>by
    have h9:H2 a=some (.frz o (.dK kvs)):=I.kp a _ aW (λ⟨i,z⟩=>nS i z) (by simp);refine⟨h9,q σ2 _ S2 ?_ ?_⟩
    .exact{
      len:=B.len
      sl:=λi d e=>let⟨w,h6,h7,h8⟩:=B.sl i d e;⟨w,h6,h7.chg (Bj h9) (λz=>by cases z),h8⟩
      em:=B.em
      nd:=B.nd
      dj:=B.dj
      fdj:=B.fdj
      fdm:=λb U=>by
       obtain⟨u,h1,h2⟩:=B.fdm b U;exact⟨u,by rw[aR (λz:b=a=>F.1 (by subst z;exact U))];exact h1,h2⟩}
    .exact{
      kp:=λb u h1 h2 V=>by
       by_cases a0:b=a
       .subst a0;rw[Y]at h1;cases h1;exact aW
       .rw[aR a0];exact I.kp b u (by rw[aR a0];exact h1) h2 V
      gr:=λi b z=>(I.gr i b z).imp id (Or.imp id λz=>by
       by_cases a0:b=a
       .subst a0;rw[aW]at z;cases z
       .rwa[aR a0]at z)
      pr:=I.pr})
   exact⟨.ref a,hv,a,o,kvs,rfl,aW,a3 aW⟩
  .cases e
 .cases e
variable{X:ι->Cx}
theorem Lq(j:Nat){body:List Stmt}{g:D->En->Option En}{f:En->Option Fl}(q:∀c,acn (model (X c).prog (X c).w) (X c).A (X c).env (X c).xe)(F:∀c,(X c).calm=true)(B:PVG X G ob P tg g)(U:pA X G ob P body f)
  (z:∀c,(X c).N[j]? =some y:=by intro _;rfl) (J:∀c,Vis (X c).env.scope y:=by intro _;first|exact ZX rfl|exact Zm (ZX rfl)|exact Zm (Zm rfl)) (hd:(y==("__debug__":Str))=false:=by decide) (I:(y==("__classdict__":Str))=false:=by decide)
  (O:∀c,∀x,ZD (.Name y ypos) (X c).env x=pure x:=by intro _;intro _;rfl):PVS X G ob P (.For tg (.Name y ypos) body [] pos) (xV j g f):=
 let⟨_,a1,a2⟩:=B.ex;let⟨_,b1,b2⟩:=U.ex
 ⟨_,λc=>Us (Fx (q c) (F c) (Bo (vf (z c) (J c) hd I)) (a1 c) (b1 c) (O c)),Ld a2 b2⟩
section
variable{prog:Program}{w:World}{K:Type}[DecidableEq K]{knd:KeyKind prog w K}{A:Around}{E:Value->Shared->Prop}{s:Shared}
theorem Ib{d:Addr}{kvs:List (K×Value)}{k:K}{a1 v:Value}{Q:Value->X4->Prop}(B:knd.is k a1=true)(V:s.heap.DictOf knd d kvs)
  (h1:∀x,aat kvs k=some x->Q x {s with toks:=s.toks+1})
  (h2:aat kvs k=none->∀h',h'.DictOf knd d (stored kvs k v)->aa3 d s.heap h'->Q v {s with heap:=h',toks:=s.toks+1})
  (hsz:kvs.length<=Yc) :
  wpAny (model prog w) A (adE d a1 v) Q E s:=by
 have a4:=V.mapOf;obtain⟨o,es,ep,J,F,hd,hk,O,I⟩:=V;have e1:=O.length;have e2:es.toList.length=es.size:=by simp
 have a2:es.size<=Yc:=by omega
 have hf:∀x,findBy knd.is es x=aat kvs x:=λx=>by
  rw[←O.find x];obtain⟨l⟩:=es;simp[findBy]
 unfold adE
 try with_reducible refine ZF ?_
 refine X3 (knd.pyHash B ?_);refine X3 (wpAny_dictFind_of (s:={s with toks:=s.toks+1}) B J hd hk ?_);have a0:(es.findIdx? λe=>knd.is k e.key)=kvs.findIdx? λkv=>decide (kv.1=k):=by
  rw[←O.findIdx k];obtain⟨l⟩:=es;simp
 cases hi:es.findIdx? λe=>knd.is k e.key with
 |some i=>
  have D:aat kvs k=(es[i]?).map (·.val):=by rw[←hf k,findBy_of_findIdx?,hi]
  refine X3 (wpAny_dictEntries (s:={s with toks:=s.toks+1}) J hd ?_);cases he:es[i]? with
  |none=>
   exfalso;have:=Array.findIdx?_eq_some_iff_findIdx_eq.mp hi;have z:i<es.size:=this.1;rw[Array.getElem?_eq_getElem z]at he;exact nomatch he
  |some e=>
   rw[he]at D;exact X3 (ab4 (Yg (h1 e.val D)))
 |none=>
  have D:aat kvs k=none:=by rw[←hf k,findBy_of_findIdx?,hi]
  have Z:k∉kvs.map (·.1):=not_mem_of_findIdx_none (a0▸hi);have q:¬(kvs.any λkv=>decide (kv.1=k))=true:=by
   rw[abe];rintro⟨kv,a3,he⟩;exact Z (acX.mpr ⟨kv,a3,of_decide_eq_true he⟩)
  refine X3 (ab4 (X3 (wpAny_updateDictKeys (hz:=a2) (s:={s with toks:=s.toks+1}) J hd (Yg (h2 D _ ⟨_,_,ep+1,aa5 _ J (Obj.isFreed_of_dict (adR hd _)),
   F.mapDictKeys _,adR hd _,hk.push B _,?_,?_⟩ (ad5 ..))))))
  .rw[stored,YB q]
   have:=O.append B (knd.hash k) v;obtain⟨l⟩:=es;simpa using this
  .rw[stored,YB q,Zi,Yr]
   refine⟨I,by simp,?_⟩;intro a Y b U;simp![X8,YF,aeg]at U;subst U;exact λe=>Z (e▸Y)
end
def WP:V->List V->Hp->VK->Prop:=λx B H Q=>∃a kvs k y,x= .ref a/\B=[kV k,y]/\H a=some (.dK kvs)/\kvs.length<Yc/\(∀v,jr kvs k=some v->Q v H)/\(jr kvs k=none->Q y (upd H a (.dK (putK kvs k y))))
theorem T_{X:Cx}:MtM X "dict.setdefault" WP:=by
 intro pins s σ H x B v us Q I rx rv h;obtain⟨a,kvs,k,y,rfl,rfl,U,Z,q1,q2⟩:=h;cases rx;obtain⟨u,r,rfl,ru,rr⟩:=rv.two;obtain⟨z,hd,ps,rel,D⟩:=v4 I.hok U;refine aa6 F.slot_dict_setdefault D.typeIs F.entry_dict_setdefault (F.args_dict_setdefault_3 _ _ _) (S:=λA R s'=>A=X.A/\s'=s/\∀v s2,EP X pins σ Q v s2->R (.ok (.ret v)) s2) ?_ ⟨rfl,rfl,λv s2 q=>q⟩;rintro A R s' ⟨rfl,rfl,kk⟩;unfold Builtin.«dict.setdefault»;refine X3 ?_;unfold Builtin.Dict.keyAndDefault;refine X3 (ady D.typeIs ?_);show wpAny _ _ (pure (a,u,some r)) _ _ s';refine Yg ?_;show wpAny _ _ (if(a==ZW)=true then _ else(adE a u r >>=_)) _ _ s';rw[YB (by rw[hd];exact YT)];have hz:ps.length<=Yc:=by rw[←rel.length];exact z
 refine X3 (Ib (hsz:=hz) (lr ru) D (λx hx=>Yg ?_) λhn h' a0 O=>Yg ?_)
 .refine kk _ _ ?_
  cases J:jr kvs k with
  |none=>
   have:=mZ.none_of (o:=aat ps k) (by rw[←J];exact rel.val k);rw[hx]at this;cases this
  |some v0=>
   obtain⟨w',V,a1⟩:=mZ.some_of (v:=v0) (o:=aat ps k) (by rw[←J];exact rel.val k);rw[hx]at V;cases V;exact⟨v0,H,I.tok _,a1,q1 v0 J⟩
 .refine kk _ _ ?_
  have J:jr kvs k=none:=by
   cases J:jr kvs k with
   |none=>rfl
   |some v0=>
    obtain⟨w',V,a1⟩:=mZ.some_of (v:=v0) (o:=aat ps k) (by rw[←J];exact rel.val k);rw[hn]at V;cases V
  have Y:∃q,h'.get? a=some q:=let⟨q,_,_,hq,_⟩:=a0;⟨q,hq⟩;have a2:(putK kvs k y).length<=Yc:=by have:=gW kvs k y;omega
  exact⟨y,_,mJ I (by rw[U];exact Zn) O Y (vp a2 hd (rel.put k rr) a0),rr,q2 J⟩
def DR(i:Nat)(fa:En->Option (List D))(ρ:En):Option (Nat×En):=match ρ[i]? with
 |some (some (.dct .own ks ds))=>match fa ρ with
  |some [kd,.lst .own []]=>match dG kd with
   |some k=>if ks.length<1000000 then(match dU ks k with
    |some j=>some (j,ρ)
    |none=>some (ks.length,ρ.set i (some (.dct .own (ks++[k]) (ds++[.lst .own []])))))else none
   |none=>none
  |_=>none
 |_=>none
def Du(i:Nat)(fa fx:En->Option (List D)):En->Option Fl:=λρ=>(DR i fa ρ).bind λp=>(fx p.2).bind λes=>(upS cJ i [p.1] es p.2).map λq=>.nx q.2
theorem Ba{ks:List Key}{k:Key}(h:dU ks k=none):dU (ks++[k]) k=some ks.length:=by
 unfold dU at *
 rw[List.findIdx?_append,h];simp
theorem Ph{t1 t2:TA}{fa fx:En->Option (List D)}(h1:RfA G ob t1 fa)(h2:RfA G ob t2 fx):RfS G ob P (Gd (tBM G.K "list" rR (tBM G.K "dict" WP (Dv i) t1) t2)) (Du i fa fx):=λρ r e σ H S Fr s E q=>by
 unfold Du at e;cases e1:DR i fa ρ with
 |none=>simp[e1]at e
 |some p=>
  obtain⟨j,ρ1⟩:=p;cases e2:fx ρ1 with
  |none=>simp[e1,e2]at e
  |some es=>
   cases e3:upS cJ i [j] es ρ1 with
   |none=>simp[e1,e2,e3]at e
   |some p=>
    obtain⟨res,I⟩:=p;have:Fl.nx I=r:=by simpa[e1,e2,e3]using e
    subst this;obtain⟨d0,d,d',g1,g2,c1,c2,g3,rfl⟩:=Aj e3;have c0:∀(v:V)(v0:V)(H1:Hp)(S1:Ad)(M:List Addr),Sta G H1 ob ρ1 σ S1 Fr->Mv P H H1 σ σ S S1 []->σ[i]? =some (some v0)->Foc G H1 (wn ob S1 Fr) d0 v0 (S1 i) [j] d v M->
      tyV G.K "list" v H1/\t2 σ H1 (λxs H2=>rR v xs H2 λx H'=>E.nx σ H'):=λv v0 H1 S1 M a4 m1 a0 a8=>by
     refine⟨?_,?_⟩
     .unfold cJ at g3
      split at g3
      .have:=a8.r
       rw[Rep]at this;obtain⟨a,xs,M2,rfl,_,O⟩:=this;exact .inl ⟨rfl,_,SqL.of O.1⟩
      .cases g3
     .refine h2 ρ1 es e2 σ H1 _ a4.rel a4.wok _ λxs H2 N B re fr nd=>?_
      have d7:Sta G H2 ob ρ1 σ S1 (plus N Fr):=a4.grow B λa z=>z.elim (λz=>.inr ⟨fr a z,re.dom a z⟩) .inl;have up:Up H1 H2 (wn ob S1 Fr) (wn ob S1 (plus N Fr)):=Up.add B fr;have c8:=a8.mono (.inr up) up.evo λc _ u F=>B c u F;have hF:∀a∈N,¬Fr a:=λa Y z=>by
       obtain⟨o,J,_⟩:=a4.fdm a z;rw[fr a Y]at J;cases J
      refine nT vA d7 g1 a0 g2 c8 re nd hF c1 c2 g3 λx H' R S' q1 q2 q3 q4 q5 q6 q7 q8=>q σ H' S' (q1.lessF λa z=>.inr z) (m1.trans ⟨λb u U n _=>q8 b u (B b u U) λz=>n ⟨i,z⟩,λk a z=>?_,.refl⟩);by_cases hk:k=i
      .subst hk
       rcases q6 a z with y|y|y
       .exact .inl ⟨k,y⟩
       .exact .inr (.inr (fr a y))
       .exact .inr (.inr (B.none' y))
      .rw[q5 k hk]at z;exact .inl ⟨k,z⟩
    unfold DR at e1;split at e1
    .rename_i ks ds hi
     split at e1
     .rename_i kd hfa
      split at e1
      .rename_i k hk
       split at e1
       .rename_i hl
        obtain⟨v0,a0,c5,e7⟩:=s.sl i _ hi;refine⟨v0,a0,?_,?_⟩
        .have:=c5
         rw[Rep]at this;obtain⟨a,kvs,M0,rfl,_,Z,Y,_⟩:=this;exact .inr (.inr (.inl ⟨rfl,.inl ⟨_,Y⟩⟩))
        .refine h1 ρ _ hfa σ H _ s.rel s.wok _ λxs H1 N s1 re fr nd=>?_
         have a4:Sta G H1 ob ρ σ S (plus N Fr):=s.grow s1 λa z=>z.elim (λz=>.inr ⟨fr a z,re.dom a z⟩) .inl;have a1:=a4.sl i _ hi;obtain⟨v1,b8,a1,_⟩:=a1;rw[a0]at b8;cases b8;have a7:=a1;rw[Rep]at a7;obtain⟨a,kvs,M0,rfl,⟨a6,e6⟩,Z,Y,e0⟩:=a7;obtain⟨x1,zs,N1,N2,rfl,rfl,d4,hz⟩:=re.inv;obtain⟨x2,zs,N3,N4,rfl,rfl,e4,hz⟩:=hz.inv;obtain⟨rfl,rfl⟩:=hz.inv0;have c7:=iY d4 hk;subst c7;have d2:kvs.length<Yc:=yS (by rw[←a6]at hl;simpa using hl);have hF:∀a∈N1++(N3++[]),¬Fr a:=λa Y z=>by
          obtain⟨o,J,_⟩:=s.fdm a z;rw[fr a Y]at J;cases J
         split at e1
         .rename_i j' hj
          cases e1;rw[hi]at g1;cases g1;have c9:Sta G H1 ob ρ σ S Fr:=a4.lessF λa z=>.inr z;obtain⟨v3,b1,b2,b4⟩:=c9.sl i _ hi;rw[a0]at b1;cases b1;have b6:ds[j]? =some d:=by simpa[gV,kids]using g2
          obtain⟨a2,b9,x,M,b7,a9,c3,b3,a8⟩:=Foc.dct b2 b4 b6;cases b7;rw[Y]at a9;cases a9;have a3:=ik (kvs:=kvs) (k:=k) (j:=j) (by rw[a6];exact hj);rw[b3]at a3;refine⟨a,kvs,k,x2,rfl,rfl,Y,d2,λv hv=>?_,λhv=>by rw[a3]at hv;cases hv⟩;rw[a3]at hv;cases hv;exact c0 x _ H1 S M c9 ⟨λb u U _ _=>s1 b u U,λk a z=>.inl ⟨k,z⟩,.refl⟩ a0 a8
         .rename_i hj
          cases e1;have a3:jr kvs k=none:=jX (by rw[a6];exact hj);refine⟨a,kvs,k,x2,rfl,rfl,Y,d2,(λv hv=>by rw[a3]at hv;cases hv),λ_=>?_⟩;have d3:cX (.dct .own ks ds) [kd,.lst .own []]=some (.dct .own (ks++[k]) (ds++[.lst .own []]),.non):=by
           simp![cX,hk,gD,hl,Yx,gO,hj]
          have d8:=nT (ob:=ob) (p:=[]) (d0:=.dct .own ks ds) (Q:=λ_ H'=>∀x,(∃kv,H' a=some (.dK kv)/\jr kv k=some x)->tyV G.K "list" x H'/\t2 σ H' (λxs H2=>rR x xs H2 λx H'=>E.nx σ H')) Hj a4 hi a0 rfl (Foc.nil a1) re nd hF (by cases kd<;>simp[dG]at hk<;>rfl) (by cases kd<;>simp[dG]at hk<;>rfl) d3 (λx H' R S' q1 q2 q3 q4 q5 q6 q7 q8=>?_)
          .obtain⟨i1,v1,he,h5⟩:=d8
           cases he;have c4:jr (putK kvs k x2) k=some x2:=by
            rw[nP (by rw[a6];exact hj)];have hn:dU ((kvs++[(k,x2)]).map (·.1)) k=some ks.length:=by
             rw[Zi,a6];exact Ba hj
            rw[ik hn,Zi,Za (by rw[←a6];simp)];rw[←a6];simp
           rcases h5 with⟨b5,ys,n5,y5,d5,d9,c6,_⟩|⟨a5,H5,e5,g5,h5⟩
           .cases d5
            rw[Y]at c6;cases c6
           .cases e5
            rcases g5 with⟨d6,k5,f1,f2,f3,f4⟩|⟨d6,k5,b5,f1,_⟩
            .rw[Y]at f1
             cases f1;have:k5=k:=by cases k5<;>cases k<;>cases f2<;>rfl
             subst this;subst f4;exact h5 x2 ⟨_,aW,c4⟩
            .rw[Y]at f1;cases f1
          .rintro y ⟨kv,hkv,hy⟩
           rw[ZQ (List.getElem?_eq_some_iff.mp hi).1]at g1;cases g1;have d1:Sta G H' ob (ρ.set i (some (.dct .own (ks++[k]) (ds++[.lst .own []])))) σ S' Fr:=q1.lessF λa z=>.inr z;obtain⟨v3,b1,b2,b4⟩:=d1.sl i _ (ZQ (List.getElem?_eq_some_iff.mp hi).1);rw[a0]at b1;cases b1;have b6:(ds++[.lst .own []])[ks.length]? =some d:=by simpa[gV,kids]using g2
           obtain⟨a2,b9,x',M,b7,a9,c3,b3,a8⟩:=Foc.dct b2 b4 b6;cases b7;rw[hkv]at a9;cases a9;have b0:=ik (kvs:=kv) (k:=k) (j:=ks.length) (by rw[c3.1];exact Ba hj);rw[b3,hy]at b0;cases b0;refine c0 y _ H' S' M d1 ⟨λb u U n _=>q8 b u (s1 b u U) λz=>n ⟨i,z⟩,λk a z=>?_,.refl⟩ a0 a8;by_cases hk:k=i
           .subst hk
            rcases q6 a z with y|y|y
            .exact .inl ⟨k,y⟩
            .exact .inr (.inr (fr a y))
            .exact .inr (.inr (s1.none' y))
           .rw[q5 k hk]at z;exact .inl ⟨k,z⟩
       .cases e1
      .cases e1
     .cases e1
    .cases e1
theorem GX(i:Nat){Z V a3 a0:Pos}{k l x:Expr}{fa fx:En->Option (List D)}(Y:PVA X G ob [k,l] fa)(B:PVA X G ob [x] fx)
  (b3:∀c,(X c).N[i]? =some y:=by intro _;rfl) (J:∀c,Vis (X c).env.scope y:=by intro _;first|exact ZX rfl|exact Zm (ZX rfl)|exact Zm (Zm rfl)) (hd:(y==("__debug__":Str))=false:=by decide) (I:(y==("__classdict__":Str))=false:=by decide)
  (a8:∀c,aaQ (.Call (.Attribute (.Call (.Attribute (.Name y ypos) "setdefault" Z) [k,l] [] V) "append" a3) [x] [] a0) none pos.line (X c).env=pure false:=by intro _;rfl)
  (a5:∀c,aaw (.Name y ypos) "setdefault" (X c).env (eval (.Name y ypos) (X c).env)=eval (.Name y ypos) (X c).env:=by intro _;rfl)
  (a4:∀c,aaw (.Call (.Attribute (.Name y ypos) "setdefault" Z) [k,l] [] V) "append" (X c).env (eval (.Call (.Attribute (.Name y ypos) "setdefault" Z) [k,l] [] V) (X c).env)=eval (.Call (.Attribute (.Name y ypos) "setdefault" Z) [k,l] [] V) (X c).env:=by intro _;rfl)
  (b0:∀c,((Zx V (Yh [k,l] (X c).env)).all (λx=>!x.1)&&(abR V (aaU [] (X c).env)).all (λx=>x.1.isSome)&&decide ([k,l].length+([]:List aam).length+(if([]:List aam).isEmpty then 0 else 1)<30))=true:=by intro _;rfl)
  (a9:∀c,((Zx a0 (Yh [x] (X c).env)).all (λx=>!x.1)&&(abR a0 (aaU [] (X c).env)).all (λx=>x.1.isSome)&&decide ([x].length+([]:List aam).length+(if([]:List aam).isEmpty then 0 else 1)<30))=true:=by intro _;rfl)
  (O:(Z.endLine==V.line)=true:=by rfl) (z:(a3.endLine==a0.line)=true:=by rfl)
  (U:∀c,Yh [k,l] (X c).env=(false,eval k (X c).env)::Yh [l] (X c).env:=by intro _;rfl) (a7:∀c,Yh [x] (X c).env=(false,eval x (X c).env)::Yh [] (X c).env:=by intro _;rfl)
  (a6:∀c,(Zx V (Yh [l] (X c).env)).any (·.1)=false:=by intro _;rfl) (b4:∀c,(Zx a0 (Yh [] (X c).env)).any (·.1)=false:=by intro _;rfl) (q:∀c,(X c).K=G.K:=by intro _;rfl) :
  PVS X G ob P (.Expr (.Call (.Attribute (.Call (.Attribute (.Name y ypos) "setdefault" Z) [k,l] [] V) "append" a3) [x] [] a0) pos) (Du i fa fx):=
 let⟨_,a1,a2⟩:=Y.ex;let⟨_,b1,b2⟩:=B.ex
 ⟨_,λc=>(by rw[←q c];exact Am (Az Z3 aaK aaL w5 (Az Zk PySem.F.slot_dict_setdefault PySem.F.type_dict_setdefault T_ (vf (b3 c) (J c) hd I) (a1 c) (a5 c) (b0 c) O (U c) (a6 c)) (b1 c) (a4 c) (a9 c) z (a7 c) (b4 c)) (a8 c)),Ph a2 b2⟩
theorem K7(l b:Addr)(es B:Array DictEntry)(ep a2:Nat)(D q:Option Addr)(sl V:Array (Option Value))(a1:(l==ZW)=false)(a3:(b==ZW)=false)(z:B.size=0) :
  Meets (Builtin.«dict.__ne__» ⟨[.ref l,.ref b],[]⟩) (λ_ R s=>s.heap.get? l=some {cls:=.type "dict",dict:=D,data:=.dict es ep,slots:=sl}/\s.heap.get? b=some {cls:=.type "dict",dict:=q,data:=.dict B a2,slots:=V}/\R (.ok (.ret (.bool (es.size !=0)))) s):=by
 intro prog w A R s h;obtain⟨O,g,d,tk,os⟩:=s;obtain⟨Z,U,h⟩:=h;have I:¬(l==ZW)=true:=by rw[a1];exact YT
 have J:¬(b==ZW)=true:=by rw[a3];exact YT
 have f3:isSubtype (.type "dict") (.type "dict")=pure true:=PySem.F.sub_dict_dict
 wp_walk using PySem.AutoSeq1.wpAny_loadPart' Z,PySem.AutoSeq1.wpAny_loadPart' U
 by_cases Y:es.size=0
 .rw[Y]at h⊢
  rw[z];simp![ad6,ae2,aag,aar,Nat.add_sub_cancel,Nat.div_one,List.range'_zero,List.forIn_nil]
  wp_walk using PySem.AutoSeq1.wpAny_loadPart' Z,PySem.AutoSeq1.wpAny_loadPart' U
  exact h
 .have hne:(es.size !=B.size)=true:=by rw[z];simpa using Y
  have a0:(es.size !=0)=true:=by simpa using Y
  rw[a0]at h;rw[Yi hne]
  wp_walk using PySem.AutoSeq1.wpAny_loadPart' Z,PySem.AutoSeq1.wpAny_loadPart' U
  exact h
def XD(A:Y0):R2:=λx y H Q=>∃a b kvs,x= .ref a/\y= .ref b/\Rd H a (.dK kvs)/\Rd H b (.dK [])/\A.units<cLine/\Q (.bl (kvs.length !=0)) H
theorem Th{X:Cx}:OpR X (YG .NotEq) (XD X.A):=by
 intro pins s σ H x y v u Q I rx U ⟨a,b,kvs,ex,ey,h1,h2,hu,q⟩;subst ex ey;cases rx;cases U;obtain⟨z,hd,B,rel,o,es,ep,J,hc,a2,hk,O,hn⟩:=mL I.hok h1;obtain⟨z2,a6,b6,a5,o2,a1,a9,a4,b0,a0,b5,b3,b7⟩:=mL I.hok h2;obtain⟨cls,D,data,sl⟩:=o;obtain⟨b4,b1,a8,b2⟩:=o2;have a7:es.size=kvs.length:=by
  have e1:=O.length;have e2:es.toList.length=es.size:=by simp
  have Y:=rel.length;omega
 have a3:a1.size=0:=by
  have e1:=b3.length;have e2:a1.toList.length=a1.size:=by simp
  have Y:=a5.length;simp at Y;omega
 obtain⟨c1,c2,c3⟩:=hc;obtain⟨V,Z,k3⟩:=b0;simp only at c1 c2 c3 V Z k3 a2 a0;subst c1 V a2 a0;refine ado (op:=.NotEq) ⟨_,J,rfl⟩ ⟨_,a4,rfl⟩ F.slot_dict_ne F.entry_dict_ne (F.args_dict_ne_2 _ _) (K7 a b es a1 ep a9 D b1 sl b2 hd a6 a3) ⟨J,a4,?_⟩ hu;rw[a7];exact⟨(λx=>nomatch x),.bl (kvs.length !=0),H,I,rfl,q⟩
def Dr(A:Y0)(s:X4)(y x:Value)(b:Bool):Prop:=
 ∀(prog:Yu)(w:World)(E:Value->X4->Prop)(Q:Value->X4->Prop),Q (.bool b) s->wpAny (model prog w) A (richCompare .Lt y x) Q E s
def o9(e l:Nat->Bool)(z:Bool):List Nat->Bool
 |[]=>z
 |j::r=>if e j then o9 e l z r else l j
theorem FN(l b:Addr)(items q:Array Value)(n n2:Nat)(dd a2:Option Addr)(sl a3:Array (Option Value))(e f:Nat->Bool) :
  Meets (Builtin.«tuple.__lt__» ⟨[.ref l,.ref b],[]⟩)
   (λA R s=>s.heap.get? l=some {cls:=.type "tuple",dict:=dd,data:=.seq items n,slots:=sl}/\s.heap.get? b=some {cls:=.type "tuple",dict:=a2,data:=.seq q n2,slots:=a3}/\
    (∀j (h1:j<items.size)(h2:j<q.size),aeM A.in1 s items[j] q[j] (e j)/\(e j=false->Dr A.in1 s items[j] q[j] (f j)))/\
    R (.ok (.ret (.bool (o9 e f (decide (items.size<q.size)) (Y9 (min items.size q.size)))))) s):=
 .of_wp λprog w A R s h=>by
  obtain⟨O,g,d,tk,os⟩:=s;obtain⟨Z,U,Y,h⟩:=h;have J:=AutoSeq1.sub_tuple_tuple;have hZ:(items.toList.zip q.toList).length=min items.size q.size:=by simp
  wp_walk using PySem.AutoSeq1.wpAny_loadPart' Z,PySem.AutoSeq1.wpAny_loadPart' U,wpAny_forIn_list _ (λrest b s'=>b.1=none/\s'=⟨O,g,d,tk,os⟩/\∃i,rest=(items.toList.zip q.toList).drop i/\
   R (.ok (.ret (.bool (o9 e f (decide (items.size<q.size)) ((Y9 (min items.size q.size)).drop i))))) ⟨O,g,d,tk,os⟩) _
  case turn=>
   rintro⟨y,x⟩ rest b s' ⟨a0,rfl,i,hz,hR⟩;have z:i<(items.toList.zip q.toList).length:=by
    rcases ael i (items.toList.zip q.toList).length with h'|h'
    .exact h'
    .rw[abN h']at hz;cases hz
   have V:i<min items.size q.size:=hZ▸z;have h1:i<items.size:=Ys V (Nat.min_le_left _ _);have h2:i<q.size:=Ys V (aeH _ _);rw[Z0 z]at hz;injection hz with hyx hrest;have I:y=items[i]:=by have:=congrArg Prod.fst hyx;simpa using this
   have B:x=q[i]:=by have:=congrArg Prod.snd hyx;simpa using this
   subst I B;have hd:(Y9 (min items.size q.size)).drop i=i::(Y9 (min items.size q.size)).drop (i+1):=by simp[Z0,V]
   rw[hd,o9]at hR;refine X3 ((Y i h1 h2).1 prog w _ _ ?_);cases I:e i with
   |true=>
    rw[I]at hR
    wp_walk
    exact⟨rfl,rfl,i+1,hrest,by simpa using hR⟩
   |false=>
    rw[I]at hR;have D:∀{E:Value->X4->Prop}{Q:Value->X4->Prop},Q (.bool (f i)) ⟨O,g,d,tk,os⟩->wpAny (model prog w) A.in1 (richCompare .Lt items[i] q[i]) Q E ⟨O,g,d,tk,os⟩:=λ{E Q} h=>(Y i h1 h2).2 I prog w E Q h
    wp_walk using D
    exact⟨_,rfl,by simpa using hR⟩
  case fin=>
   rintro⟨b1,F⟩ s' ⟨a0,rfl,i,hz,hR⟩;simp only at a0;subst a0;have a1:min items.size q.size<=i:=by
    rcases ael i (items.toList.zip q.toList).length with h'|h'
    .rw[Z0 h']at hz;cases hz
    .exact hZ▸h'
   rw[abN (by simpa using a1),o9]at hR
   wp_walk
   exact⟨_,rfl,by simpa[Builtin.Tuple.tupleCompareSizes]using hR⟩
  case h=>
   exact⟨rfl,rfl,0,rfl,by simpa using h⟩
theorem Dr.tuples{A:Y0}{s:X4}{l b:Addr}{q:Array Value}{e f:Nat->Bool}(Z:s.heap.IsTuple l items)(U:s.heap.IsTuple b q)(hu:A.units<cLine)
  (Y:∀j (h1:j<items.size)(h2:j<q.size),aeM A.in1 s items[j] q[j] (e j)/\(e j=false->Dr A.in1 s items[j] q[j] (f j))):Dr A s (.ref l) (.ref b) (o9 e f (decide (items.size<q.size)) (Y9 (min items.size q.size))):=λprog w E Q h=>by
 obtain⟨⟨cls,D,data,sl⟩,J,hc,n,hd⟩:=id Z;obtain⟨⟨a1,a0,B,V⟩,I,z,n2,O⟩:=id U;simp only at hc hd z O;subst hc hd z O;exact ado (op:=.Lt) ⟨_,J,rfl⟩ ⟨_,I,rfl⟩ F.slot_tuple_lt F.entry_tuple_lt (F.args_tuple_lt_2 _ _) (FN l b items q n n2 D a0 sl V e f) ⟨J,I,Y,(λx=>nomatch x),h⟩ hu
def J2(p q:Int×Int):Bool:=decide (p.1<q.1)||(decide (p.1=q.1)&&decide (p.2<q.2))
def ltP:List (Int×Int)->List (Int×Int)->Bool
 |[],[]=>false
 |[],_::_=>true
 |_::_,[]=>false
 |p::r,q::t=>if p=q then ltP r t else J2 p q
def TP(H:Hp)(a:Addr)(ps:List (Int×Int)):Prop:=∃xs,H a=some (.tup xs)/\xs.length=ps.length/\∀(j:Nat)(p:Int×Int),ps[j]? =some p->∃c,xs[j]? =some (.ref c)/\H c=some (.tup [.int p.1,.int p.2])
def eqX(ps qs:List (Int×Int))(j:Nat):Bool:=match ps[j]?,qs[j]? with
 |some p,some q=>decide (p=q)
 |_,_=>false
def ltX(ps qs:List (Int×Int))(j:Nat):Bool:=match ps[j]?,qs[j]? with
 |some p,some q=>J2 p q
 |_,_=>false
theorem C_{e l e' l':Nat->Bool}{z:Bool}(g:Nat->Nat)(h1:∀j,e (g j)=e' j)(h2:∀j,l (g j)=l' j):∀r:List Nat,o9 e l z (r.map g)=o9 e' l' z r
 |[]=>rfl
 |j::r=>by simp![X8,o9,h1,h2,C_ g h1 h2 r]
theorem Cy:∀ps qs:List (Int×Int),o9 (eqX ps qs) (ltX ps qs) (decide (ps.length<qs.length)) (Y9 (min ps.length qs.length))=ltP ps qs
 |[],[]=>rfl
 |[],q::t=>by simp[o9,ltP]
 |p::r,[]=>by simp[o9,ltP]
 |p::r,q::t=>by
  have J:=Cy r t;rw[Yd,Yd,Nat.succ_min_succ,aaX,o9,C_ (e':=eqX r t) (l':=ltX r t) Nat.succ (λj=>rfl) (λj=>rfl),ltP];rw[show decide (r.length+1<t.length+1)=decide (r.length<t.length)by simp,J];by_cases h:p=q
  .simp[eqX,h]
  .simp[eqX,ltX,h]
variable{X:Cx}{σ:L2.St}
theorem Qt(I:Inv X pins σ H s){c B:Addr}{p q:Int×Int}(h1:H c=some (.tup [.int p.1,.int p.2]))(h2:H B=some (.tup [.int q.1,.int q.2]))(hz:A.units<cLine):Dr A s (.ref c) (.ref B) (J2 p q):=by
 obtain⟨J,V,p1,_⟩:=I.tuple (SqT.of h1);obtain⟨D,U,p2,_⟩:=I.tuple (SqT.of h2);obtain⟨u1,u2,rfl,⟨t1,rfl⟩,⟨z,rfl⟩⟩:=V.two;obtain⟨v1,v2,rfl,⟨Z,rfl⟩,⟨F,rfl⟩⟩:=U.two;have:=Dr.tuples (A:=A) (e:=λj=>if j=0 then p.1==q.1 else p.2==q.2) (f:=λj=>if j=0 then decide (p.1<q.1)else decide (p.2<q.2)) p1 p2 hz (λj h1 h2=>by
  have O:j=0∨j=1:=by
   have:j<2:=h1;omega
  rcases O with rfl|rfl
  .exact⟨ac0 _ _ _ _,λ_ prog w E Q h=>lt_int h⟩
  .exact⟨ac0 _ _ _ _,λ_ prog w E Q h=>lt_int h⟩)
 have e:o9 (λj=>if j=0 then p.1==q.1 else p.2==q.2) (λj=>if j=0 then decide (p.1<q.1)else decide (p.2<q.2)) (decide (2<2)) (Y9 (min 2 2))=J2 p q:=by
  show o9 _ _ _ [0,1]=_;simp![o9,J2];by_cases Y:p.1=q.1
  .by_cases hb:p.2=q.2
   .simp[Y,hb]
   .simp[Y,hb]
  .simp[Y]
 rw[←e];exact this
theorem Xd(I:Inv X pins σ H s){b:Addr}{ps qs:List (Int×Int)}(h1:TP H a ps)(h2:TP H b qs)(hz:A.units+1<cLine):Dr A s (.ref a) (.ref b) (ltP ps qs):=by
 obtain⟨xs,Y,Z,B⟩:=h1;obtain⟨ys,U,z,hy⟩:=h2;obtain⟨J,V,p1,_⟩:=I.tuple (SqT.of Y);obtain⟨D,a1,p2,_⟩:=I.tuple (SqT.of U);have l1:=V.length;have l2:=a1.length;rw[←Cy];have:=Dr.tuples (A:=A) (e:=eqX ps qs) (f:=ltX ps qs) p1 p2 (by omega) (λj h1 h2=>by
  rw[List.size_toArray]at h1 h2;obtain⟨c,F,q⟩:=B j ps[j] (by rw[X5]);obtain⟨c',a2,a0⟩:=hy j qs[j] (by rw[X5]);obtain⟨u,hu,ru⟩:=V.get F;obtain⟨u',a3,a4⟩:=a1.get a2;cases ru;cases a4;have e1:J.toArray[j]'(by simpa using h1)= .ref c:=by simpa using(List.getElem?_eq_some_iff.mp hu).2
  have e2:D.toArray[j]'(by simpa using h2)= .ref c':=by simpa using(List.getElem?_eq_some_iff.mp a3).2
  have a5:ps[j]? =some ps[j]:=X5 _;have a6:qs[j]? =some qs[j]:=X5 _;rw[e1,e2];simp![eqX,ltX,a5,a6];refine⟨?_,λ_=>Qt I q a0 (show A.units+1<cLine from hz)⟩;have hB:∀{c:Addr}{p:Int×Int},H c=some (.tup [.int p.1,.int p.2])->Brs X.K H (.tup [.int p.1,.int p.2]) (.ref c):=λ{c p} h=>by
   simp![Brs,je];exact⟨c,_,rfl,SqT.of h,_,_,rfl,rfl,_,_,rfl,rfl,rfl⟩
  have k:=DY (A:=A.in1) I (show A.units+1<cLine from hz) (d:=.tup [.int ps[j].1,.int ps[j].2]) (e:=.tup [.int qs[j].1,.int qs[j].2]) ⟨_,_,rfl,rfl,λp O=>by
   simp at O;rcases O with rfl|rfl
   .exact Sc.int _ _
   .exact Sc.int _ _⟩ (hB q) (hB a0) (v':=.ref c) (u':=.ref c') rfl rfl
  have e3:eqD (.tup [.int ps[j].1,.int ps[j].2]) (.tup [.int qs[j].1,.int qs[j].2])=decide (ps[j]=qs[j]):=by
   simp![eqD,eqL,adY];rw[Z6];simp[Prod.ext_iff]
  rw[←e3];exact k)
 rw[List.size_toArray,List.size_toArray,←l1,←l2,Z,z]at this;exact this
def Xk(A:Y0):R2:=λx y H Q=>∃a b ps qs,x= .ref a/\y= .ref b/\TP H a ps/\TP H b qs/\A.units+1<cLine/\Q (.bl (ltP ps qs)) H
theorem T3:OpR X (YG .Lt) (Xk X.A):=by
 intro pins s σ H x y v u Q I rx U ⟨a,b,ps,qs,ex,Z,h1,h2,F,q⟩;subst ex Z;cases rx;cases U;exact Xd I h1 h2 F _ _ _ _ ⟨.bl (ltP ps qs),H,I,rfl,q⟩
def vR(V Z:Str)(i:Nat)(n:Int):En->Option Fl:=λρ=>match ρ[i]? with
 |some (some d)=>some (.ret (.dct .own [.inr V,.inr Z] [d,.int n]) (ρ.set i none))
 |_=>none
variable{n:Int}
theorem HB{V Z:Str}(hk:V≠Z):RfS G ob P (PP (Kr [(tC (.str V),Dv i),(tC (.str Z),tC (.int n))])) (vR V Z i n):=λρ r e σ H S Fr s E q=>by
 unfold vR at e;split at e
 .rename_i d h1
  cases e;obtain⟨v,a1,a2,F,a4⟩:=s.move h1;have hj:∀k a,a∈ie S i [] k->a∈S k:=λk a z=>(dR z).elim (λz=>by cases z.2) λz=>z.2;have a0:=(by simpa[clean]using a2:aA d=true/\az d=true);intro p O;have D:([Yl V,Yl Z]:List Key).Nodup:=by simp[hk]
  refine⟨v,a1,aW,[(.inr V,v),(.inr Z,.int n)],rfl,(show 2<=15 by decide),?_⟩;rw[qe (by simpa using D),List.nil_append];have a5:p∉S i:=λz=>by obtain⟨o,J,_⟩:=s.mu z;rw[O]at J;cases J
  have B:Same H (upd (upd H p (.dK [])) p (.dK [(.inr V,v),(.inr Z,.int n)])):=λb u U=>by
   have I:b≠p:=λz=>by rw[z,O]at U;cases U
   rw[aR I,aR I];exact U
  refine q (.ref p) σ _ (p::S i) (ie S i []) (F.grow B λa Y=>?_) ?_ ?_ (Yy.mpr ⟨a5,s.nd i⟩) (λa Y=>?_) ⟨λb u h _ _=>B b u h,λk a z=>.inl ⟨k,hj k a z⟩,.refl⟩
  .rcases Y with z|z
   .rcases Yj.mp z with z|z
    .exact .inr ⟨by rw[z];exact O,⟨_,by rw[z];exact aW,rfl⟩⟩
    .exact .inl (.inl z)
   .exact .inl (.inr z)
  .rw[Rep]
   refine⟨p,_,S i,rfl,⟨rfl,D⟩,?_,aW,rfl⟩;have ev:Evo H (upd (upd H p (.dK [])) p (.dK [(.inr V,v),(.inr Z,.int n)])) (wn ob (ie S i []) (plus (S i) Fr)) (wn ob (ie S i []) (plus (p::S i) Fr)):=⟨λb u h f=>⟨B b u h,⟨λz=>by
    rcases z with z|z
    .rcases Yj.mp z with z|z
     .rw[z,O]at h;cases h
     .exact f.1 (.inl z)
    .exact f.1 (.inr z),f.2⟩⟩,λb xs h=>B b _ h⟩
   have:=aM.cons (a4.mono ev (.inl a0.1) (.inl a0.2) λc _ u e=>B c u e) (aM.one (show Rep G _ _ (.int n) (.int n) []by rw[Rep];exact⟨rfl,rfl⟩));rw[Yz]at this;exact this
  .simp[clean,aA,az,aC,aD,a0.1,a0.2]
  .rcases Yj.mp Y with z|z
   .rw[z];exact .inr O
   .exact .inl ⟨i,z⟩
 .cases e
variable{X:ι->Cx}
theorem Jz(i:Nat){V Z:Str}{p1 B D q:Pos}{j1 j2 j3}(J:V≠Z:=by decide)(z:∀c,(X c).N[i]? =some x:=by intro _;rfl)(F:∀c,Vis (X c).env.scope x:=by intro _;first|exact ZX rfl|exact Zm (ZX rfl)|exact Zm (Zm rfl))(hd:(x==("__debug__":Str))=false:=by decide)(I:(x==("__classdict__":Str))=false:=by decide) :
  PVS X G ob P (.Return (some (.Dict [some (.Constant (.str V) j1 p1),some (.Constant (.str Z) j2 p2)] [.Name x B,.Constant (.int n) j3 D] q)) pos) (vR V Z i n):=
 ⟨_,λc=>yR (Hh (uX FW (vf (z c) (F c) hd I) (uX FW Oa Hl)) rfl rfl (by simp) (show 2<=15 by decide)),HB J⟩
def Ku(x y:D):Option D:=match x,y with
 |.dct _ ks _,.dct _ [] _=>some (.bl (ks.length !=0))
 |x,y=>gNe x y
def prD:D->Option (Int×Int)
 |.tup [.int i,.int j]=>some (i,j)
 |_=>none
def wR(x y:D):Option D:=match x,y with
 |.tup a,.tup b=>(match a.mapM prD,b.mapM prD with
  |some ps,some qs=>some (.bl (ltP ps qs))
  |_,_=>none)
 |x,y=>gLt x y
theorem zc:∀{ds:List D}{xs:List V}{L:List Addr}{ps:List (Int×Int)},aM G H W ds xs L->ds.mapM prD=some ps->xs.length=ps.length/\∀(j:Nat)(p:Int×Int),ps[j]? =some p->∃c,xs[j]? =some (.ref c)/\H c=some (.tup [.int p.1,.int p.2])
 |[],xs,L,ps,h,e=>by
  obtain⟨rfl,rfl⟩:=h.inv0;simp at e;subst e;exact⟨rfl,λj p z=>by simp at z⟩
 |d::r,xs,L,ps,h,e=>by
  obtain⟨x,ys,M,M',rfl,rfl,h1,h2⟩:=h.inv;rw[adz]at e;cases O:prD d with
  |none=>rw[O]at e;cases e
  |some p0=>
   cases Z:r.mapM prD with
   |none=>rw[O,Z]at e;cases e
   |some B=>
    rw[O,Z]at e;cases e;obtain⟨l,q⟩:=zc h2 Z;refine⟨by simp[l],λj p z=>?_⟩;cases j with
    |zero=>
     cases z;unfold prD at O;split at O
     .cases O
      rw[Rep]at h1;obtain⟨a,zs,rfl,Y,hz⟩:=h1;obtain⟨z1,zs,J,N2,rfl,_,F,hz⟩:=hz.inv;obtain⟨I,zs,N3,N4,rfl,_,U,hz⟩:=hz.inv;obtain⟨rfl,_⟩:=hz.inv0;rw[Rep]at F U;obtain⟨rfl,_⟩:=F;obtain⟨rfl,_⟩:=U;exact⟨a,rfl,Y⟩
     .cases O
    |succ j=>exact q j p (by simpa using z)
theorem U6(A:Y0)(D:∀c,(X c).A=A)(F:A.units+64<cLine)(hK:∀c,(X c).K=G.K:=by intro _;rfl):OpB X G (YG .NotEq) Ku:=by
 obtain⟨r,h1,h2⟩:=(jR (X:=X) (G:=G) A D F hK).ex;refine⟨_,λc=>OpR.or (h1 c) (by have:=@Th (X c);rw[D c]at this;exact this),λdx dy d e x y H W B Ly rx U nd I w Q q=>?_⟩;unfold Ku at e;split at e
 .cases e
  rw[Rep]at rx U;obtain⟨a,kvs,M,rfl,J,Z,O⟩:=rx;obtain⟨b,a0,M2,rfl,Y,V,a1⟩:=U;have e0:a0=[]:=by simpa using Y.1
  subst e0;refine .inr ⟨a,b,kvs,rfl,rfl,O.rdD,a1.rdD,by omega,?_⟩;have z:=congrArg aad J.1;rw[X_]at z;rw[z];exact q.scal λ_=>fH
 .exact .inl (h2 dx dy d e x y H W B Ly rx U nd I w Q q)
theorem RL(A:Y0)(D:∀c,(X c).A=A)(F:A.units+64<cLine):OpB X G (YG .Lt) wR:=by
 obtain⟨r,h1,h2⟩:=(xX (X:=X) (G:=G)).ex;refine⟨_,λc=>OpR.or (h1 c) (by have:=@T3 (X c);rw[D c]at this;exact this),λdx O d e x y H W B J rx ry nd I w Q q=>?_⟩;unfold wR at e;split at e
 .split at e
  .rename_i ps qs h5 h6
   cases e;rw[Rep]at rx ry;obtain⟨a,xs,rfl,Y,Z⟩:=rx;obtain⟨b,ys,rfl,U,V⟩:=ry;obtain⟨l1,l2⟩:=zc Z h5;obtain⟨z,m2⟩:=zc V h6;exact .inr ⟨a,b,ps,qs,rfl,rfl,⟨xs,Y,l1,l2⟩,⟨ys,U,z,m2⟩,by omega,q.scal λ_=>fH⟩
  .cases e
 .exact .inl (h2 dx O d e x y H W B J rx ry nd I w Q q)
def tyF(x:V)(H:Hp):Prop:=∃p kvs,x= .ref p/\Rd H p (.dK kvs)
def Ws(r:V->List V->Hp->VK->Prop)(to:TE)(t:TA):TE:=λσ H Q=>to σ H λx H1=>tyF x H1/\t σ H1 λxs H2=>r x xs H2 Q
variable{to:TE}{t:TA}{r:V->List V->Hp->VK->Prop}
theorem RW{X:Cx}{o:Expr}{id:String}(slot:Slot "dict" name id)(a3:typeOf (.builtin id)=pure (.type "method_descriptor"))(hm:MtR X id r)(J:PE X o to)(Y:PA X (e::es) t)
  (q:aaw o name X.env (eval o X.env)=eval o X.env)
  (a1:((Zx cpos (Yh (e::es) X.env)).all (λx=>!x.1)&&(abR cpos (aaU [] X.env)).all (λx=>x.1.isSome)
   &&decide ((e::es).length+([]:List aam).length+(if([]:List aam).isEmpty then 0 else 1)<30))=true)
  (a0:(apos.endLine==cpos.line)=true) (O:Yh (e::es) X.env=(false,eval e X.env)::Yh es X.env) (U:(Zx cpos (Yh es X.env)).any (·.1)=false) :
  PE X (.Call (.Attribute o name apos) (e::es) [] cpos) (Ws r to t):=by
 intro pins s σ H Q I h;refine adi q a1 a0 rfl (thn (J pins s σ H _ I h) λv s1 ⟨x,H1,I1,r1,ty,q1⟩=>?_);obtain⟨p,kvs,rfl,Z⟩:=ty;cases r1;obtain⟨z,hd,B,rel,D⟩:=mL I1.hok Z;have a2:=D;obtain⟨ob,_,_,e1,ex,_⟩:=a2;refine⟨"dict",id,Zk,slot,a3,D.typeIs,λa e2=>?_,?_⟩
 .cases e2
  exact⟨ob,e1,ex.2.1⟩
 have hA:=Y cpos pins s1 σ H1 _ I1 q1;rw[O]at hA⊢;refine abL (by show(false||(Zx cpos (Yh es X.env)).any (·.1))=false;rw[U]<;>rfl) (ab8 ?_);exact thn hA λus s2 ⟨ws,H2,I2,r2,q2⟩=>hm pins s2 σ H2 (.ref p) ws (.ref p) us Q I2 rfl r2 q2
def ou:D->List D->Option D
 |.dct _ ks ds,[k,x]=>(dG k).bind λk=>match dU ks k with
  |some j=>ds[j]?
  |none=>some x
 |_,_=>none
theorem J6:MtV G WK ou:=λdx ds d e x xs H W Lx L0 rx r nd I w Q q=>by
 unfold ou at e;split at e
 .rename_i m ks es k x0
  cases J:dG k with
  |none=>simp[J]at e
  |some F=>
   obtain⟨y,z,A,B,rfl,rfl,U,Y⟩:=r.inv2;rw[Rep]at rx;obtain⟨a,kvs,M,rfl,⟨rfl,D⟩,Z,O⟩:=rx;have:=iY U J;subst this;refine⟨a,_,_,rfl,.inl ⟨kvs,F,O.rdD,rfl,rfl⟩,.inr ⟨z,rfl,?_⟩⟩;simp![J,gD]at e;cases hj:dU (List.map (·.1) kvs) F with
   |none=>
    simp![hj]at e;cases e;rw[jX hj];exact g8 Y ((Zf _ _).trans (Zf _ _)) nd I q
   |some j=>
    simp![hj]at e;obtain⟨v,M',h1,h2,V⟩:=Z.get e;rw[ik hj,h1];exact g8 h2 (V.trans (O.sub.trans (ZG _ _))) nd I q
 .cases e
variable{f:En->Option (List D)}
theorem Tg{g:D->List D->Option D}{fo:En->Option D}(J:MtV G r g)(a1:∀dx ds d,g dx ds=some d->∀(x:V)(H:Hp)(W:Wn)(Lx:List Addr),Rep G H W dx x Lx->tyF x H)
  (h0:RfE G ob to fo) (h:RfA G ob t f):RfE G ob (Ws r to t) (λρ=>(fo ρ).bind λx=>(f ρ).bind λds=>g x ds):=λρ d e σ H W O w Q q=>by
 cases h1:fo ρ with
 |none=>simp[h1]at e
 |some dx=>
  cases h2:f ρ with
  |none=>simp[h1,h2]at e
  |some ds=>
   have e:g dx ds=some d:=by simpa[h1,h2]using e
   refine h0 ρ dx h1 σ H W O w _ λx H1 L Z rx fx nx=>⟨a1 dx ds d e x H1 _ L rx,?_⟩;have u1:Up H H1 W (W.add L):=.add Z fx;have w1:WOk H1 (W.add L):=w.add Z rx.dom;refine h ρ ds h2 σ H1 (W.add L) (O.up u1) w1 _ λys H2 M B ry fy ny=>?_;have a0:∀a∈L,a∉M:=λa h1 h2=>by
    obtain⟨o,J,_⟩:=rx.dom a h1;rw[fy a h2]at J;cases J
   have u2:Up H1 H2 (W.add L) (W.add (L++M)):=⟨B,λb u U f=>⟨λz=>z.elim (λz=>(List.mem_append.mp z).elim (λz=>f.1 (.inl z)) λz=>by rw[fy b z]at U;cases U) λz=>f.1 (.inr z),f.2⟩,λ_ _ _ f=>f⟩;have u3:Up H2 H2 ((W.add L).add M) (W.add (L++M)):=⟨Same.refl _,λb u U f=>⟨λz=>by
    rcases z with z|z
    .exact(List.mem_append.mp z).elim (λz=>f.1 (.inr (.inl z))) λz=>f.1 (.inl z)
    .exact f.1 (.inr (.inr z)),f.2⟩,λ_ _ _ f=>f⟩
   have w2:WOk H2 (W.add (L++M)):=w.add (Z.trans B) λa Y=>(List.mem_append.mp Y).elim (λz=>let⟨o,h,m⟩:=rx.dom a z;⟨o,B a o h,m⟩) (ry.dom a);refine J dx ds d e x ys H2 (W.add (L++M)) L M (rx.up u2) (ry.up u3) (fK nx ny a0) (w.tmp λa Y=>(List.mem_append.mp Y).elim (fx a) λz=>Z.none' (fy a z)) w2 Q λv F L3 s3 r3 f3 I=>?_;refine q v F L3 ((Z.trans B).trans s3) ?_ (λa Y=>(f3 a Y).elim (λz=>?_) λz=>(Z.trans B).none' z) I
   .exact r3.up ⟨Same.refl _,λb u U f=>⟨λz=>z.elim (λz=>f.1 (.inl z)) λz=>f.1 (.inr ⟨.inr z,WOk.new w (λa Y=>(List.mem_append.mp Y).elim (fx a) λz=>Z.none' (fy a z)) z⟩),f.2⟩,λ_ _ _ f=>f⟩
   .rcases List.mem_append.mp z with z|z
    .exact fx a z
    .exact Z.none' (fy a z)
theorem QM{o:Expr}{q:En->Option D}(hu:∀c,(X c).A.units+1<cLine)(J:PV X G ob o q)(Y:PVA X G ob (e::es) f)(z:∀c,aaw o "get" (X c).env (eval o (X c).env)=eval o (X c).env:=by intro _;rfl)(V:∀c,((Zx cpos (Yh (e::es) (X c).env)).all (λx=>!x.1)&&(abR cpos (aaU [] (X c).env)).all (λx=>x.1.isSome)
  &&decide ((e::es).length+([]:List aam).length+(if([]:List aam).isEmpty then 0 else 1)<30))=true:=by intro _;rfl) (I:(apos.endLine==cpos.line)=true:=by rfl) (O:∀c,Yh (e::es) (X c).env=(false,eval e (X c).env)::Yh es (X c).env:=by intro _;rfl) (U:∀c,(Zx cpos (Yh es (X c).env)).any (·.1)=false:=by intro _;rfl) :
 PV X G ob (.Call (.Attribute o "get" apos) (e::es) [] cpos) (eMt ou q f):=let⟨t,a1,a2⟩:=J.ex;let⟨u,b1,b2⟩:=Y.ex;⟨_,λc=>RW Zw aau (Nr (hu c)) (a1 c) (b1 c) (z c) (V c) I (O c) (U c),Tg J6 (λdx ds d e x H W B rx=>by
  unfold ou at e;split at e
  .rw[Rep]at rx
   obtain⟨a,kvs,M,rfl,hk,Z,O⟩:=rx;exact⟨a,kvs,rfl,O.rdD⟩
  .cases e) a2 b2⟩
def Its(x:Str):It:=⟨λi _=>i<x.cps.size,λi H y H'=>H'=H/\∃c,x.cps[i]? =some c/\y= .str ⟨#[c]⟩,λi _=>i=x.cps.size⟩
theorem Li{P:Yu}{K:Yb}{t:Tok}(hn:["enumerate","zip","dict_itemiterator","dict_reverseitemiterator","odict_iterator","itertools.zip_longest","itertools.pairwise"].contains T=false)
  (W:∀A:Y0,A.handled=none->Walks P w A it [it] [it] x.cps.size (SignAt x) (λi h=>h.IsStrIter it T x t i)) (W':∀A i s Q E,s.heap.IsStrIter it T x t i->Q (.ref it) s->wpAny (model P w) A (acQ (.ref it)) Q E s):Turn P w K tg (Its x) [it] it (λi h=>h.IsStrIter it T x t i)where
 mem:=by simp
 obj:=λi h st b U=>by
  have e:b=it:=by simpa using U
  subst e;obtain⟨o,e,c,d⟩:=st;exact⟨o,e,λv z=>by rw[d]at z;cases z⟩
 keep:=λi h h' st k=>let⟨o,ho,r⟩:=st;⟨o,k it (by simp) o ho,r⟩
 item:=by
  intro X hP V q F i pins s σ H E I Y st B;subst hP V q;obtain⟨f0,f1,f2,Z,f4,f5⟩:=Y it (by simp);refine(W X.A (I.ok.hd F)).item i s _ E B st λu h' tk hu D kp=>?_;obtain⟨c,tu,a0,rfl⟩:=hu;have J:Inv X pins σ H {s with heap:=h',toks:=tk}:=I.turned (λb o U e=>kp b o (by simpa using U) e) f0 f1 Z f4 f5;obtain⟨o,e,O,d⟩:=id D;exact⟨_,rfl,x_ (s:={s with heap:=h',toks:=tk}) e O d hn ⟨.str ⟨#[c]⟩,H,J,⟨tu,rfl⟩,⟨rfl,c,a0,rfl⟩,D,λb U=>(Y b U).1⟩⟩
 done:=by
  intro X hP V q F i pins s σ H E I Y st B;subst hP V q;obtain⟨f0,f1,f2,Z,f4,f5⟩:=Y it (by simp);subst B;exact(W X.A (I.ok.hd F)).done s _ E st λh' tk kp=>⟨rfl,I.turned (λb o U e=>kp b o (by simpa using U) e) f0 f1 Z f4 f5⟩
 self:=λA i s Q E st h=>W' A i s Q E st h
def Wh(te:TE):TI:=λσ H R=>te σ H λx H1=>∃y,x= .str y/\R (Its y) H1
variable{X:Cx}{te:TE}
theorem Ug(O:PE X e te):PI X tg e (Wh te):=by
 intro pins s σ H R I h;refine thn (O pins s σ H _ I h) λv Z ⟨x,H1,J,F,y,ex,q⟩=>?_;subst ex;obtain⟨t,rfl⟩:=(show ∃t,v=aa_ y t from F);have B:∀(T:String)(o:Obj),["enumerate","zip","dict_itemiterator","dict_reverseitemiterator","odict_iterator","itertools.zip_longest","itertools.pairwise"].contains T=false->(∀A:Y0,A.handled=none->Walks X.prog X.w A Z.heap.objs.size [Z.heap.objs.size] [Z.heap.objs.size] y.cps.size (SignAt y) (λi h=>h.IsStrIter Z.heap.objs.size T y t i))->
   (∀A i s Q E,s.heap.IsStrIter Z.heap.objs.size T y t i->Q (.ref Z.heap.objs.size) s->wpAny (model X.prog X.w) A (acQ (.ref Z.heap.objs.size)) Q E s)->(Z.heap.push o).IsStrIter Z.heap.objs.size T y t 0->PIE X pins σ tg R (.ref Z.heap.objs.size) {Z with heap:=Z.heap.push o}:=λT o V W W' st=>by
  refine⟨Z.heap.objs.size,[Z.heap.objs.size],_,_,H1,rfl,J.kept (t':=Z.toks) λb o e=>X6 _ e,Li V W W',st,λb U=>?_,q⟩;have e:b=Z.heap.objs.size:=by simpa using U
  subst e;exact J.fpOk (Nat.le_refl _) (J.hok.fresh (Nat.le_refl _))
 cases Y:y.cps.all (· <128)
 .exact wpAny_pyIter_wide Y (B _ _ (by decide) (λz D=>Walks.strWide D _ y t) (λA i s Q E st h=>wpAny_pyIter_striter_wide st h) ⟨_,Ym _ rfl,rfl,rfl⟩)
 .exact wpAny_pyIter_ascii Y (B _ _ (by decide) (λz D=>Walks.strAscii D _ y t) (λA i s Q E st h=>wpAny_pyIter_striter_ascii st h) ⟨_,Ym _ rfl,rfl,rfl⟩)
structure Glb(mg:Str->Option Value)(x:Str)(v:V):Prop where
 ex:∃u,mg x=some u/\RelV v u
def pM(fe:En->Option D):En->Option (Bool×List D):=λρ=>match fe ρ with
 |some (.str y)=>some (true,y.cps.toList.map λc=>.str ⟨#[c]⟩)
 |_=>none
variable{X:ι->Cx}{i:Int}
theorem M_(g:Glb G.mg x (.int i))(B:∀c,Gl (X c) x:=by intro _;rfl)(V:∀c,(X c).mg=G.mg:=by intro _;rfl)(hd:(x==("__debug__":Str))=false:=by decide):PV X G ob (.Name x pos) (eC (.int i)):=let⟨u,h1,h2⟩:=g.ex;⟨_,λc=>G5 (B c) (by rw[V c];exact h1) h2 hd,Em λ_ _=>by simp[Rep]⟩
theorem J9(g:Glb G.mg x (.str y))(B:∀c,Gl (X c) x:=by intro _;rfl)(V:∀c,(X c).mg=G.mg:=by intro _;rfl)(hd:(x==("__debug__":Str))=false:=by decide):PV X G ob (.Name x pos) (eC (.str y)):=let⟨u,h1,h2⟩:=g.ex;⟨_,λc=>G5 (B c) (by rw[V c];exact h1) h2 hd,Em λ_ _=>by simp[Rep]⟩
variable{fe:En->Option D}
theorem P_(h:RfE G ob te fe):RfI G ob (Wh te) (pM fe):=λρ b items e σ H W O w R q=>by
 unfold pM at e;split at e
 .rename_i y h1
  cases e;refine h ρ _ h1 σ H W O w _ λv H' L s r I nd=>?_;obtain⟨rfl,rfl⟩:=c7 r;refine⟨y,rfl,q (Its y) H' s ⟨λi d e H2 J _=>?_,λi d e H2 J _ x F B=>?_,λH2 J _=>?_⟩⟩
  .have:=(List.getElem?_eq_some_iff.mp e).1
   show i<y.cps.size;simpa using this
  .obtain⟨rfl,c,hc,rfl⟩:=B
   have:d= .str ⟨#[c]⟩:=by
    have z:y.cps.toList[i]? =some c:=by rw[abY];exact hc
    rw[List.getElem?_map,z]at e;exact(Ze e).symm
   subst this;exact⟨Same.refl _,uQ⟩
  .show(y.cps.toList.map _).length=_
   simp
 .cases e
theorem G9(Y:PV X G ob e fe):PVI X G ob tg e (pM fe):=let⟨_,a1,a2⟩:=Y.ex;⟨_,λc=>Ug (a1 c),P_ a2⟩
mutual
noncomputable def tz:D->Nat
 |.int i=>if i.natAbs<1000000000000000000 then 20 else i.natAbs+2
 |.str x=>(reprText x).length
 |.tup ds=>4+tzL ds
 |.lst _ ds=>4+tzL ds
 |_=>5
noncomputable def tzL:List D->Nat
 |[]=>0
 |d::r=>tz d+2+tzL r
end
mutual
noncomputable def dz:D->Nat
 |.tup ds=>1+dzL ds
 |.lst _ ds=>1+dzL ds
 |_=>0
noncomputable def dzL:List D->Nat
 |[]=>0
 |d::r=>max (dz d) (dzL r)
end
theorem Gk:∀(ts:List Str)(k:Nat)(a:Str),(textFrom k a ts).length<=a.length+(ts.map λt=>t.length+2).sum
 |[],k,a=>by rw[textFrom.eq_1];simp
 |t::ts,k,a=>by
  rw[textFrom.eq_2];have h1:=Gk ts (k+1) (a++Z8 (if k>0 then ", " else "")++t);rw[aa0,aa0]at h1;have V:(Z8 (if k>0 then ", " else "")).length<=2:=by split<;>decide
  rw[X8,adZ];omega
theorem Bv:∀ts:List Str,piled ts=(ts.map λt=>t.length+2).sum
 |[]=>rfl
 |t::r=>by rw[X8,adZ,←Bv r];simp[piled]
theorem O1(ts:List Str):(Str.join ", " ts).length<=(ts.map λt=>t.length+2).sum:=by
 cases ts with
 |nil=>decide
 |cons t r=>
  have:=join_length_add (t::r) (by simp);rw[Bv]at this;omega
theorem HN(h:i.natAbs<1000000000000000000):(Z8 (toString i)).length<=19:=by
 have q:∀n:Nat,n<1000000000000000000->(Nat.repr n).length<=18:=λn I=>by
  have:=toDigits_len_pow (b:=10) (k:=18) (by decide) (by decide) (n:=n) (by simpa using I);simpa[Nat.repr]using this
 rw[ofString_len];cases i with
 |ofNat m=>exact Y4 (q m h) (by decide)
 |negSucc m=>
  have:=q (m+1) h;show("-"++Nat.repr (m+1)).length<=19;rw[String.length_append];have h1:"-".length=1:=by decide
  omega
mutual
theorem Cz:∀{d:D},iM d=true->tz d<=1000000->(pyD (dt d)).shown.length<=tz d/\(pyD (dt d)).showable=true/\(pyD (dt d)).depth<=dz d
 |.non,_,_=>⟨by decide,rfl,by decide⟩
 |.bl b,_,_=>by cases b<;>exact⟨by decide,rfl,by decide⟩
 |.int i,_,h=>by
  rw[tz]at h;by_cases O:i.natAbs<1000000000000000000
  .refine⟨?_,?_,by simp[dt,pyD,PyData.depth]⟩
   .have:=HN O
    simp![dt,pyD,ac1,tz,O,Yx];omega
   .simp![dt,pyD,abu]
    refine ZR ?_;by_cases z:i.natAbs=0
    .rw[z];decide
    .exact(Nat.log2_lt z).mpr (Ys (show i.natAbs<2 ^ 60 by omega) (Nat.pow_le_pow_right (by decide) (by decide)))
  .rw[YB O]at h
   omega
 |.str x,_,_=>⟨by simp[dt,pyD,ac1,tz],by simp[dt,pyD,abu],by simp[dt,pyD,PyData.depth,dz]⟩
 |.tup ds,h,hz=>by
  rw[iM]at h;rw[tz]at hz;obtain⟨h1,h2,V⟩:=tR h (by omega);refine⟨?_,by simpa[dt,pyD,abu]using h2,by simp![dt,pyD,PyData.depth,dz];omega⟩;simp![dt,pyD,ac1,tz];unfold tupleText;rw[aa0,aa0];have F:(Z8 "(").length=1:=by decide
  have Y:(Z8 (if((aaT (pyL (dtL ds))).length==1)=true then ",)" else ")")).length<=2:=by split<;>decide
  have U:=O1 (aaT (pyL (dtL ds)));omega
 |.lst m ds,h,hz=>by
  rw[iM]at h;rw[tz]at hz;obtain⟨h1,h2,V⟩:=tR h (by omega);refine⟨?_,by simpa[dt,pyD,abu]using h2,by simp![dt,pyD,PyData.depth,dz];omega⟩;simp![dt,pyD,ac1,tz];unfold listText;rw[aa0];have F:(Z8 "[").length=1:=by decide
  have Y:(Z8 "]").length=1:=by decide
  have U:=Gk (aaT (pyL (dtL ds))) 0 "[";omega
 |.ty _,h,_=>by simp[iM]at h
 |.dct _ _ _,h,_=>by simp[iM]at h
 |.ins _ _ _ _,h,_=>by simp[iM]at h
theorem tR:∀{ds:List D},iJ ds=true->tzL ds<=1000000->((aaT (pyL (dtL ds))).map λt=>t.length+2).sum<=tzL ds/\acr (pyL (dtL ds))=true/\ada (pyL (dtL ds))<=dzL ds
 |[],_,_=>by simp[dtL,pyL,aaT,acr,ada,tzL,dzL]
 |d::r,h,hz=>by
  rw[iJ,Yp]at h;rw[tzL]at hz;obtain⟨h1,h2,V⟩:=Cz h.1 (by omega);obtain⟨z,Z,q⟩:=tR h.2 (by omega);simp![dtL,pyL,aaT,acr,ada,tzL,dzL,X8,adZ,h2,Z];refine⟨by omega,rfl,?_⟩;omega
end
theorem Sw(h:iM d=true)(hz:tz d<=1000000)(hd:dz d<=50):∃x,Kh [d]=some (.str x):=by
 obtain⟨h1,h2,V⟩:=Cz h hz;have O:(1000000:Nat)<=Yc:=by decide
 cases d with
 |non=>exact⟨_,rfl⟩
 |bl b=>exact⟨_,rfl⟩
 |int i=>
  have F:i.natAbs.log2<1920:=by simpa[dt,pyD,abu]using h2
  exact⟨_,by simp![Kh];rw[Yi F]⟩
 |str x=>exact⟨_,rfl⟩
 |tup ds=>exact⟨_,by simp![Kh];rw[Yi ⟨h,by omega,h2,by omega⟩]⟩
 |lst m ds=>exact⟨_,by simp![Kh];rw[Yi ⟨h,by omega,h2,by omega⟩]⟩
 |ty n=>simp[iM]at h
 |dct m ks ds=>simp[iM]at h
 |ins m c fs ds=>simp[iM]at h
mutual
noncomputable def plD:D->Bool
 |.tup ds=>wV ds
 |.lst _ _=>false
 |.dct _ _ _=>false
 |.ins _ _ _ _=>false
 |_=>true
noncomputable def wV:List D->Bool
 |[]=>true
 |d::r=>plD d&&wV r
end
variable{H':Hp}{W':Wn}
mutual
theorem Rep.pl(U:∀b xs,H b=some (.tup xs)->H' b=some (.tup xs)):∀{d:D}{v:V}{L:List Addr},Rep G H W d v L->plD d=true->Rep G H' W' d v []/\L=[]
 |.non,v,L,h,_=>by rw[Rep]at h⊢;exact⟨⟨h.1,rfl⟩,h.2⟩
 |.bl _,v,L,h,_=>by rw[Rep]at h⊢;exact⟨⟨h.1,rfl⟩,h.2⟩
 |.int _,v,L,h,_=>by rw[Rep]at h⊢;exact⟨⟨h.1,rfl⟩,h.2⟩
 |.str _,v,L,h,_=>by rw[Rep]at h⊢;exact⟨⟨h.1,rfl⟩,h.2⟩
 |.ty _,v,L,h,_=>by rw[Rep]at h⊢;exact⟨⟨h.1,rfl⟩,h.2⟩
 |.tup ds,v,L,h,n=>by
  rw[Rep]at h⊢;obtain⟨b,xs,rfl,h1,Z⟩:=h;have:=aM.pl U Z (by simpa[plD]using n);exact⟨⟨b,xs,rfl,U b xs h1,this.1⟩,this.2⟩
 |.lst _ _,v,L,h,n=>by cases n
 |.dct _ _ _,v,L,h,n=>by cases n
 |.ins _ _ _ _,v,L,h,n=>by cases n
theorem aM.pl(U:∀b xs,H b=some (.tup xs)->H' b=some (.tup xs)):∀{ds:List D}{B:List V}{L:List Addr},aM G H W ds B L->wV ds=true->aM G H' W' ds B []/\L=[]
 |[],B,L,h,_=>by obtain⟨rfl,rfl⟩:=h.inv0;exact⟨.nil,rfl⟩
 |d::r,B,L,h,n=>by
  obtain⟨x,ys,M,M',rfl,rfl,h1,h2⟩:=h.inv;rw[wV,Yp]at n;obtain⟨Y,rfl⟩:=Rep.pl U h1 n.1;obtain⟨z,rfl⟩:=aM.pl U h2 n.2;exact⟨.cons Y z,rfl⟩
end
def ql:Option D->Option D
 |some d=>if plD d=true then some d else none
 |none=>none
def tX(j:Nat)(cap:List (Option Nat))(tg:D->En->Option En)(c:En->Option Bool)(e:En->Option D):En->Option D:=λρ=>match ρ[j]? with
 |some (some (.dct .own ks ds))=>if wV ds=true then(match bT cap (λ_=>some (false,ks.map kD)) tg c e ((ρ.map ql).set j (some (.dct .scr ks ds)))with
  |some (.lst .own es)=>if wV es=true then some (.lst .own es)else none
  |_=>none)else none
 |_=>none
theorem VM{X:Cx}(h:PE X e te):PE X e (tGh j te):=by
 intro pins s σ H Q I U;obtain⟨a,kvs,O,Y,k⟩:=U;obtain⟨ob,V,z⟩:=yf I Y;exact thn (h pins s σ _ _ V (k ob)) λu Z ⟨v,H1,J,F,e1,q1⟩=>⟨v,_,yg J e1 z,F,q1⟩
variable{tg:D->En->Option En}{own:Nat->Bool}
theorem Nu{cap:List (Option Nat)}{tt:TT}{c:En->Option Bool}{e:En->Option D}(a2:∀i:Nat,own i=true->cap[i]?≠none->cap[i]? =some none)(B:Jl G (obC cap ob) own g tg)(ht:RfT G (obC cap ob) tt c)(he:RfE G (obC cap ob) te e) :
  RfE G ob (tGh j (Bk cap (Eb (Dv j)) g tt te)) (tX j cap tg c e):=λρ d ee σ H W rl w Q q=>by
 unfold tX at ee;split at ee
 .rename_i ks ds hj
  split at ee
  .rename_i hfd
   split at ee
   .rename_i es hx
    split at ee
    .rename_i hes
     cases ee;obtain⟨v,L0,J,a1,_⟩:=rl j _ hj;rw[Rep]at a1;obtain⟨a,kvs,M,rfl,⟨rfl,a4⟩,Z,Y,rfl⟩:=a1;refine⟨a,kvs,J,Y,λo=>?_⟩;have kt:=(jm (ob:=o) Y).t;have a7:Rel G (upd H a (.frz o (.dK kvs))) ⟨λb=>W.n b/\b≠a,λb=>W.s b/\b≠a,λb=>W.o b/\b≠a⟩ ob ((ρ.map ql).set j (some (.dct .scr (kvs.map (·.1)) ds))) σ:=λi d' e'=>by
      by_cases a3:i=j
      .subst a3
       rw[ZQ (by rw[X_];exact(List.getElem?_eq_some_iff.mp hj).1)]at e';cases e';refine⟨.ref a,[],J,?_,λ_ c F=>by cases F⟩;rw[Rep];exact⟨a,kvs,[],rfl,⟨rfl,a4⟩,(aM.pl kt Z hfd).1,.inl ⟨.inr ⟨o,aW⟩,λz=>z.2 rfl,λz=>z.2 rfl,λz=>z.2 rfl⟩,rfl,rfl⟩
      .rw[List.getElem?_set_ne (λz=>a3 z.symm),List.getElem?_map]at e'
       cases h5:ρ[i]? with
       |none=>rw[h5]at e';cases e'
       |some x=>
        rw[h5]at e';cases x with
        |none=>cases e'
        |some d1=>
         have e2:ql (some d1)=some d':=by simpa using e'
         unfold ql at e2;simp only at e2;split at e2
         .rename_i hn
          cases e2;obtain⟨v',L',h6,h7,h8⟩:=rl i _ h5;exact⟨v',[],h6,(Rep.pl kt h7 hn).1,λ_ c F=>by cases F⟩
         .cases e2
     have w':WOk (upd H a (.frz o (.dK kvs))) ⟨λb=>W.n b/\b≠a,λb=>W.s b/\b≠a,λb=>W.o b/\b≠a⟩:=λb U=>by
      have a0:b≠a:=by rcases U with h|h|h<;>exact h.2
      obtain⟨u,h6,h7⟩:=w b (U.imp (·.1) (Or.imp (·.1) (·.1)));exact⟨u,by rw[aR a0];exact h6,h7⟩
     have V:=yF (own:=own) a2 (H9 (G:=G) (ob:=ob) (a:=a) (o:=o) (kvs:=kvs)) B ht he _ _ hx σ (upd H a (.frz o (.dK kvs))) _ a7 w' (λv H'=>H' a=some (.frz o (.dK kvs))/\Q v (upd H' a (.dK kvs))) (λv H' L s rx I nd=>by
      have h9:=s a _ aW;rw[Rep]at rx;obtain⟨p,xs,M2,rfl,a5,O,rfl⟩:=rx;obtain⟨a6,rfl⟩:=aM.pl (W':=W.add [p]) (Bj h9).t a5 hes;refine⟨h9,q _ _ [p] (λb u U=>?_) ?_ (λb U=>?_) nd⟩
      .by_cases a0:b=a
       .subst a0;rw[Y]at U;cases U;exact aW
       .rw[aR a0];exact s b u (by rw[aR a0];exact U)
      .rw[Rep]
       exact⟨p,xs,[],rfl,a6,by rw[aR (jP O h9 (by intro z;cases z))];exact O,rfl⟩
      .have:=I b U
       by_cases a0:b=a
       .subst a0;rw[aW]at this;cases this
       .rwa[aR a0]at this)
     exact⟨.ref a,J,a,o,kvs,rfl,aW,V aW⟩
    .cases ee
   .cases ee
  .cases ee
 .cases ee
variable{fc:En->Option Bool}
theorem Kq(j:Nat)(cap:List (Option Nat))(own:Nat->Bool)(B:∀c,(X c).xe=NoX)(F:∀c,(X c).calm=true)(O:∀c,dO (X c).env.scope (X c).N N' scope cap)(q:∀i:Nat,own i=true->cap[i]?≠none->cap[i]? =some none)(V:Iw (InX X N' scope) G (obC cap ob) own target tg)(U:IK (InX X N' scope) G (obC cap ob) ifs fc)(Y:PV (InX X N' scope) G (obC cap ob) elt fe)
  (z:∀c,(X c).N[j]? =some y:=by intro _;rfl) (J:∀c,Vis (X c).env.scope y:=by intro _;first|exact ZX rfl|exact Zm (ZX rfl)|exact Zm (Zm rfl)) (hd:(y==("__debug__":Str))=false:=by decide) (I:(y==("__classdict__":Str))=false:=by decide)
  (D:∀c,∀x,ZD (.Name y ypos) (X c).env x=pure x:=by intro _ _;rfl):PV X G ob (.ListComp elt [⟨target,.Name y ypos,ifs,0⟩] scope pos) (tX j cap tg fc fe):=
 let⟨_,g1,g2⟩:=V.ex;let⟨_,t1,t2⟩:=U.ex;let⟨_,e1,e2⟩:=Y.ex
 ⟨_,λc=>VM (j:=j) (Hr (B c) (F c) (O c) (Bo (vf (z c) (J c) hd I)) (λC s H fp=>g1 (c,C,s,H,fp)) (λC s H fp=>t1 (c,C,s,H,fp)) (λC s H fp=>e1 (c,C,s,H,fp)) (D c)),Nu q g2 t2 e2⟩
def yj:List D->Option D
 |[.lst m ds]=>if iM (.lst m ds)=true/\(pyD (dt (.lst m ds))).depth<=50/\(pyD (dt (.lst m ds))).showable=true/\(pyD (dt (.lst m ds))).shown.length<=Yc then some (.str (pyD (dt (.lst m ds))).shown)else none
 |_=>none
theorem Bl{ι:Type}{X:ι->Cx}(A:Y0)(D:∀c,(X c).A=A)(B:A.guards=some [])(F:A.units+64<cLine)(z:∀c,(X c).K=G.K:=by intro _;rfl):CaB X G (.builtin "repr") yj:=⟨Q9 G.K A,λc=>by rw[←z c,←D c];exact JH,λds d e xs H W J r nd I w Q q=>by
 unfold yj at e;split at e
 .split at e
  .rename_i hd
   cases e;obtain⟨x,rfl,rx⟩:=r.inv1;have U:=rx.brs hd.1;rw[Rep]at rx;obtain⟨a,_,_,rfl,_⟩:=rx;exact⟨a,_,rfl,U,B,by omega,hd.2.2.1,hd.2.2.2,q.scal λ_=>JZ⟩
  .cases e
 .cases e⟩
variable{ds:List D}
theorem Ot{m:Mk}(h:iM (.lst m ds)=true)(hz:tz (.lst m ds)<=1000000)(hd:dz (.lst m ds)<=50):∃x,yj [.lst m ds]=some (.str x):=by
 obtain⟨x,h1⟩:=Sw h hz hd;simp![Kh]at h1;split at h1
 .rename_i hc
  exact⟨_,Yi hc⟩
 .cases h1
theorem pQ:∀{l:List Str},sortedS l=true->l.Pairwise λa b=>a.cps.toList<=b.cps.toList
 |[],_=>.nil
 |[x],_=>by simp
 |x::y::r,h=>by
  have h:risingS x (y::r)=true:=h;rw[risingS,Yp,ltCps_eq]at h;have h1:x.cps.toList<=y.cps.toList:=by simpa using h.1
  have h2:=pQ (l:=y::r) h.2;exact aem.mpr ⟨λz hz=>(Yj.mp hz).elim (λe=>e▸h1) λw=>List.le_trans h1 ((aem.mp h2).1 z w),h2⟩
open Classical in
def yO(ys:List Str):List Str:=if h:∃I:List Str,ab1 I ys/\sortedS I=true then h.choose else ys
theorem QV{I:List Str}(h1:ab1 I ys)(h2:sortedS I=true):I=yO ys:=by
 have h:∃I:List Str,ab1 I ys/\sortedS I=true:=⟨I,h1,h2⟩;rw[yO,dif_pos h];refine List.Perm.eq_of_pairwise (λa b _ _ x y=>?_) (pQ h2) (pQ h.choose_spec.2) (h1.trans h.choose_spec.1.symm);have:=Array.toList_inj.mp (List.le_antisymm x y);cases a;cases b;cases this;rfl
variable{X:Cx}{Q:VK}
theorem HY{s:X4}{E:Value->X4->Prop}(I:Inv X pins σ H s)(O:Vals (ys.map V.str) its)(Z:ys.length<64)
  (q:∀l,H l=none->Q (.ref l) (upd H l (.lst ((yO ys).map V.str)))) :
  wpAny (model X.prog X.w) X.A.in1 (newList its >>=λl=>PySem.holding [l] (call (.builtin "list.sort") [l] []) >>=λ_=>ret l) (λB s'=>∃v,B= .done (.ret v)/\EP X pins σ Q v s') E s:=by
 have U:=wy O;have z:=O.length;rw[X_]at z;refine X3 (wpAny_newList ?_);have F:(s.heap.push (seqObj "list" its.toArray 0)).get? s.heap.objs.size=some (seqObj "list" its.toArray 0):=Ym _ rfl;refine X3 (ZF (aaI slot_list_sort ⟨_,F,rfl⟩ entry_list_sort (list_sort_treeK strKind_oneLt F U.keysOf (λa4 a3 rest e=>keyKind_strs (by rw[←e];exact U)) (by omega) λa0 Y a2=>⟨_,rfl,?_⟩) (args_list_sort _)));obtain⟨ms,h1,h2,h3⟩:=sorted_out_str U Y a2;have J:=h2.length_eq;obtain⟨c,ec⟩:=sortedHeap_at (out:=(arrOf a0).map (·.2)) F;have e:=QV h2 h3;have a5:64<=Yc:=by decide
 refine Yg ⟨_,rfl,.ref s.heap.objs.size,upd H s.heap.objs.size (.lst (ms.map V.str)),I.laid (t':=s.toks) (λb o D=>?_) (Nat.le_refl _) ?_,rfl,by rw[e];exact q _ (I.hok.fresh (Nat.le_refl _))⟩
 .have hlt:=Yk D
  rw[sortedHeap_old (Yw hlt) (by rw[size_push'];exact aax hlt)];exact X6 _ D
 .exact⟨by rw[X_];omega,_,c,vY h1,ec⟩
def N6:List V->Hp->VK->Prop:=λxs H Q=>∃(a:Addr)(kvs:List (Key×V))(ys:List Str),xs=[.ref a]/\Rd H a (.dK kvs)/\kvs.map (·.1)=ys.map Yl/\ys.length<64/\∀l,H l=none->Q (.ref l) (upd H l (.lst ((yO ys).map V.str)))
theorem zO(F:X.calm=true):gQ X (.builtin "sorted") N6:=by
 intro pins s σ H xs us Q I r h;obtain⟨a,kvs,ys,rfl,D,hy,Z,q⟩:=h;obtain⟨u,rfl,ru⟩:=vals1 r;cases ru;obtain⟨hz,hd,B,rel,dd⟩:=mL I.hok D;obtain⟨ep,ob,es,g,x,d,r1,O,U⟩:=dd.dictAt;have a3:s.heap.DictAt (bA X.prog X.w) a B ep:=⟨ob,es,g,x,d,r1,O,U⟩;have a4:kvs.length=B.length:=rel.length;have a5:kvs.length=ys.length:=by have:=congrArg aad hy;simpa using this
 refine JK λE' Q' a2=>PySem.collect_src (PySem.W.kdl_dict (ep:=ep) (kvs:=B) hd) (I.ok.hd F) a3 (by omega) λh' tk acc J Y=>?_;refine a2 _ _ (HY (I.kept (t':=tk) J) (Gq ?_ λi x u h1 h2=>?_) Z q)
 .rw[abp,X_,Y.1];omega
 .rw[List.getElem?_map]at h1
  cases hi:ys[i]? with
  |none=>rw[hi]at h1;cases h1
  |some y=>
   rw[hi]at h1;cases h1;obtain⟨k,v,e1,e2⟩:=Y.2 i u (by rw[←abY];exact h2);have a0:(kvs.map (·.1))[i]? =some (Yl y):=by rw[hy,List.getElem?_map,hi];rfl
   rw[List.getElem?_map]at a0;cases a1:kvs[i]? with
   |none=>rw[a1]at a0;cases a0
   |some kv=>
    rw[a1]at a0;have ek:kv.1=Yl y:=Ze a0;have:=(sU rel a1 e1).1;obtain rfl:k=Yl y:=by rw[←ek];exact this.symm
    have V:uq (Yl y) u=true:=e2;rcases dI V with⟨j,t,z,_⟩|⟨x',t,z,rfl⟩
    .cases z
    .cases z;exact⟨t,rfl⟩
def nO:List D->Option D
 |[.dct m ks _]=>if(m== .scr)=false/\ks.length<64 then(ug ks).map λys=>.lst .own ((yO ys).map D.str)else none
 |_=>none
variable{X:ι->Cx}
theorem Cp{ι:Type}{X:ι->Cx}(F:∀c,(X c).calm=true):CaB X G (.builtin "sorted") nO:=by
 refine⟨N6,λc=>zO (F c),λds d e xs H W B r nd I w Q q=>?_⟩;unfold nO at e;split at e
 .split at e
  .rename_i m ks es hm
   cases O:ug ks with
   |none=>rw[O]at e;cases e
   |some ys=>
    rw[O]at e;cases e;obtain⟨x,rfl,rx⟩:=r.inv1;rw[Rep]at rx;obtain⟨a,kvs,M,rfl,⟨h1,h2⟩,Z,U⟩:=rx;have J:=BX O;refine⟨a,kvs,ys,rfl,.inl (U.at2 hm.1),h1.trans J,by have:=hm.2;rw[J]at this;simpa using this,λl z=>Ef (Di _) (λa Y=>by cases Y) List.nodup_nil I z q⟩
  .cases e
 .cases e
def uA(f:En->Option (List D)):En->Option (Bool×List D):=λρ=>(f ρ).bind λds=>match ds with
 |[.lst m es]=>some (clean (.lst m es),jO 0 (iQ es))
 |_=>none
theorem IV(h:RfA G ob t f):RfI G ob (Rq G.K t) (uA f):=λρ b items e σ H W rl w R q=>by
 unfold uA at e;cases h1:f ρ with
 |none=>simp[h1]at e
 |some ds=>
  rw[h1]at e;simp![gD]at e;split at e
  .rename_i m es
   obtain⟨rfl,rfl⟩:clean (.lst m es)=b/\jO 0 (iQ es)=items:=by simpa using e
   refine h ρ _ h1 σ H W rl w _ λB H' L s r I nd=>?_;obtain⟨v,ys,M,M',rfl,rfl,J,hy⟩:=r.inv;obtain⟨rfl,rfl⟩:=hy.inv0;rw[Yz]at J I;obtain⟨a,xs,rfl,p,O⟩:=Kv w s J (λ_ z=>z) I (b:=clean (.lst m es)) (es:=iQ es) rfl rfl;refine⟨a,rfl,⟨xs,O H' W (LtB.up Up.refl)⟩,q _ H' s ⟨λi d e H2 U l=>?_,λi d e H2 U l x F y=>?_,λH2 U l=>?_⟩⟩
   .rw[jY]at e
    cases V:(iQ es)[i]? with
    |none=>rw[V]at e;cases e
    |some d0=>obtain⟨x,Y⟩:=p.r.getV V;exact⟨xs,x,O H2 U l,Y⟩
   .obtain⟨pa,v,hp,rfl,J,rfl⟩:=y
    have Y:=J xs (O _ U l);rw[jY]at e;cases V:(iQ es)[i]? with
    |none=>rw[V]at e;cases e
    |some d0=>
     rw[V]at e;have e:D.tup [.int (i:Int),d0]=d:=by simpa using e
     subst e;have Z:Same H2 (upd H2 pa (.tup [.int i,v])):=Same.new hp;refine⟨Z,?_⟩;rw[Rep];exact⟨pa,_,rfl,aW,.cons (M:=[]) (M':=[]) (by rw[Rep];exact⟨rfl,rfl⟩) (.one ((p.at l V Y).up (Up.same Z)))⟩
   .exact⟨xs,O H2 U l,by rw[lV,p.r.length];exact Nat.le_refl _⟩
  .cases e
theorem tW{ι:Type}{X:ι->Cx}{a:Expr}{p:Pos}(B:∀c,Gl (X c) "enumerate")(V:∀c,(X c).mg "enumerate"=none)(Y:PVA X G ob [a] f)(O:∀c,Yh [a] (X c).env=[(false,eval a (X c).env)]:=by intro _;rfl)(q:∀c,(X c).K=G.K:=by intro _;rfl):PVI X G ob (.Tuple elts x1 tpos) (.Call (.Name "enumerate" p) [a] [] pos) (uA f):=let⟨t,a1,a2⟩:=Y.ex;⟨_,λc=>(by rw[←q c];exact Px (B c) (V c) (a1 c) (O c)),IV a2⟩
def dq:List D->Option D:=fnP 1 2 ((bc (bI (eAp xf (ao (eSl (ak false 0) j6 (jQ (eC (.int 63)))) aB)) (tgN 1))
 (bc (sIf (eB (e2 gEq (ak false 1) (eAp bL aB))) (bI (eAp bL (ao (eC (.int 7)) aB)) (tgN 1)) bY)
 (vR "cells" "turn" 1 0))))
def aG:List D->Option (D×List D):=fnI (λi=>i==0) 2 7 ((bc (bI (e2 dM (e2 gIx (ak true 0) (eC (.str "turn"))) (eC (.int 1))) (tgN 2))
 (bc (bI (ak false 2) (gh cX 0 (g_ 0) (eC (.str "turn"))))
 (bc (bI (e2 qR (ak false 2) (eAp cL (ao (e2 gIx (ak true 0) (eC (.str "cells"))) aB))) (tgN 3))
 (bc (bI (e2 gIx (e2 gIx (ak true 0) (eC (.str "cells"))) (ak false 3)) (tgN 4))
 (bc (sIf (eB (e2 gGe (ak false 4) (e2 FT (eC (.int 10)) (eC (.int 18))))) (bc (bI (eAp uW (ao (ak false 4) (ao (ak false 1) aB))) (tgT 2 (aP (gh cX 0 (Nj 0 (g_ 0) (eC (.str "cells"))) (ak false 3)) (aP (tgN 5) bM))))
 (jF 5)) bY)
 (bc (bI (e2 qR (e2 lL (e2 dM (e2 dM (e2 qR (ak false 4) (eC (.int 2147483629))) (e2 lL (e2 lL (ak false 2) (ak false 2)) (eC (.int 7919)))) (eC (.int 11))) (eC (.int 48271))) (eC (.int 2147483647))) (tgN 6))
 (bc (bI (e2 qR (e2 lL (ak false 6) (ak false 6)) (eC (.int 2147483587))) (tgN 6))
 (cD (e2 qR (e2 wz (e2 qR (e2 lL (e2 dM (ak false 6) (e2 lL (ak false 2) (eC (.int 104729)))) (eC (.int 39373))) (eC (.int 2147483629))) (eC (.int 64))) (ak false 1)))))))))))
def fZ:List D->Option (D×List D):=fnI (λi=>i==0) 1 4 ((bc (cZ (ee2 gIx (sW bL (cH (eUp (eC (.int 4))) (cH (eUp (eC (.int 5))) (cH (eUp (eC (.int 6))) (cH (eUp (eC (.int 7))) (cH (eUp (eC (.int 8))) (cH (eUp (eC (.int 6))) (cH (ee2 dM (eUp (eC (.int 10))) (eIo aG [0] (cG (ao (eC (.int 5)) aB)))) (cH (eIo aG [0] (cG (ao (eC (.int 3)) aB))) (cG aB)))))))))) (eIo aG [0] (cG (ao (eC (.int 8)) aB)))) (tgN 1))
 (bc (bI (eMt vH (eC (.str "b aa zebra c quartzes ab m knows d mm likes z a ba abcdefgh y")) (ao (eC (.str " ")) aB)) (tgN 2))
 (bc (cZ (eIo aG [0] (cG (ao (eAp cL (ao (ak false 2) aB)) aB))) (tgN 3))
 (cD (eSl (e2 dM (eSl (ak false 2) (jQ (ak false 3)) j6) (eSl (ak false 2) j6 (jQ (ak false 3)))) j6 (jQ (ak false 1))))))))
def dW:List D->Option (D×List D):=fnI (λi=>i==0) 2 11 ((bc (cZ (vh [none,some 0] (itS (ak false 1)) (tgN 0) eTT (ee2 jT (eIo aG [1] (cG (ao (eC (.int 19)) aB))) (eUp (eC (.int 9))))) (tgN 2))
 (bc (yK (eeB (ee2 gEq (eIo aG [0] (cG (ao (eC (.int 6)) aB))) (eUp (eC (.int 0))))) (bI (bT [none] (itS (ak false 2)) (tpN 0) eTT (e2 lL (ak false 0) (eC (.int 50000000021)))) (tgN 2)) bY)
 (bc (bI (eAp bL aB) (tgN 3))
 (bc (pK (pI (cH (eIo aG [0] (cG (ao (e2 dM (e2 lL (eC (.int 2)) (eAp cL (ao (ak false 1) aB))) (eC (.int 1))) aB))) (cG aB))) (tgN 4) (bc (u_ (cH (eIo aG [0] (cG (ao (eAp cL (ao (ak false 1) aB)) aB))) (cH (eIo aG [0] (cG (ao (eAp cL (ao (ak false 1) aB)) aB))) (cG aB))) (aP (tgN 5) (aP (tgN 6) bM)))
 (bc (bI (e2 jT (e2 gIx (ak false 2) (ak false 6)) (e2 gIx (ak false 2) (ak false 5))) (tgN 7))
 (bc (yK (eeB (ee2 gEq (eIo aG [0] (cG (ao (eC (.int 3)) aB))) (eUp (eC (.int 0))))) (cZ (ee2 jT (eIo aG [0] (cG (ao (eC (.int 9)) aB))) (eUp (eC (.int 4)))) (tgN 7)) bY)
 (bc (v8 cJ 3 (g_ 3) (ao (eAp bB (ao (e2 gIx (ak false 1) (ak false 5)) (ao (e2 gIx (ak false 1) (ak false 6)) (ao (ak false 7) aB)))) aB))
 (bc (cZ (eIo aG [0] (cG (ao (eC (.int 12)) aB))) (tgN 8))
 (bc (sIf (eB (e2 gEq (ak false 8) (eC (.int 0)))) (cZ (ee2 gIx (eUp (ak false 3)) (eIo aG [0] (cG (ao (eAp cL (ao (ak false 3) aB)) aB)))) (gh cX 3 (g_ 3) (e1 fW (eC (.int 1))))) bY)
 (sIf (eB (e2 gEq (ak false 8) (eC (.int 1)))) (bc (cZ (ee2 gIx (eUp (ak false 3)) (eIo aG [0] (cG (ao (eAp cL (ao (ak false 3) aB)) aB)))) (tgT 3 (aP (tgN 9) (aP (tgN 10) (aP (tgN 7) bM)))))
 (bI (eAp bB (ao (ak false 10) (ao (ak false 9) (ao (e1 fW (ak false 7)) aB)))) (gh cX 3 (g_ 3) (e1 fW (eC (.int 1)))))) bY))))))))
 (jF 3))))))
def fX:List D->Option (D×List D):=fnI (λi=>i==0) 2 5 ((bc (bI (e2 dM (ak false 1) (eAp bL (ao (eC (.str "lone")) aB))) (tgN 2))
 (bc (cZ (ee2 gIx (eUp (ak false 2)) (eIo aG [0] (cG (ao (eAp cL (ao (ak false 2) aB)) aB)))) (tgN 3))
 (bc (cZ (ee2 gIx (eUp (ak false 2)) (eIo aG [0] (cG (ao (eAp cL (ao (ak false 2) aB)) aB)))) (tgN 4))
 (um (sW bB (cH (eUp (ak false 3)) (cH (ee2 gIx (eUp (eAp bL (ao (ak false 4) (ao (ak false 3) aB)))) (sW Bx (cH (ee2 gEq (eIo aG [0] (cG (ao (eC (.int 8)) aB))) (eUp (eC (.int 0)))) (cG aB)))) (cG aB)))))))))
def cC:List D->Option D:=fnP 2 7 ((bc (bI (oF (jN (ak false 1) (eC (.bl true)) pL)) (tgN 2))
 (bc (bI (eC (.bl true)) (tgN 3))
 (bc (km (uK (i_ (ak false 3))) (bc (bI (eC (.bl false)) (tgN 3))
 (iV (itS (ak false 0)) (tgT 3 (aP (tgN 4) (aP (tgN 5) (aP (tgN 6) bM)))) (sIf (eB (e2 gNe (e2 gIn (ak false 4) (ak false 2)) (e2 gIn (ak false 5) (ak false 2)))) (bc (bI (eC (.bl true)) (gh cX 2 (g_ 2) (ak false 4)))
 (bc (bI (eC (.bl true)) (gh cX 2 (g_ 2) (ak false 5)))
 (bI (eC (.bl true)) (tgN 3)))) bY))) 1000000)
 (jF 2)))))
def dm:List D->Option D:=fnP 3 4 ((bc (sIf (eB (e2 gEq (ak false 1) (ak false 2))) (cD (e1 fW (eC (.int 1)))) bY)
 (bc (iV (rY (ao (eAp cL (ao (ak false 0) aB)) aB)) (tgN 3) (sIf (eB (e2 gIn (ak false 2) (eAp (aX cC) (ao (eSl (ak false 0) j6 (jQ (e2 dM (ak false 3) (eC (.int 1))))) (ao (ak false 1) aB))))) (jF 3) bY))
 (cD (eC .non)))))
def cM:List D->Option D:=fnP 1 9 ((bc (bI (eAp uy aB) (tgN 1))
 (bc (bI (eAp bL aB) (tgN 2))
 (bc (iV (uA (ao (ak false 0) aB)) (tgT 2 (aP (tgN 3) (aP (tgT 3 (aP (tgN 4) (aP (tgN 5) (aP (tgN 6) bM)))) bM))) (bc (bI (eAp bB (ao (eMt tO (ak false 1) (ao (ak false 4) (ao (ak false 4) aB))) (ao (eMt tO (ak false 1) (ao (ak false 5) (ao (ak false 5) aB))) aB))) (tgT 2 (aP (tgN 7) (aP (tgN 8) bM))))
 (sIf (eB (e2 gNe (ak false 7) (ak false 8))) (bc (v8 cJ 2 (g_ 2) (ao (ak false 3) aB))
 (bc (v8 fY 1 (g_ 1) (ao (tX 1 [none,some 7,some 8,some 1] (tpN 0) (eB (e2 gEq (e2 gIx (ak false 3) (ak false 0)) (ak false 2))) (eAp bB (ao (ak false 0) (ao (ak false 1) aB)))) aB))
 (v8 fY 1 (g_ 1) (ao (oF (jN (ak false 4) (ak false 7) (jN (ak false 5) (ak false 7) pL))) aB)))) bY)))
 (jF 2)))))
def cV:List D->Option D:=fnP 1 6 ((bc (bI (eAp uy aB) (tgN 1))
 (bc (iV (uA (ao (ak false 0) aB)) (tgT 2 (aP (tgN 2) (aP (tgT 3 (aP (tgN 3) (aP (tgN 4) (aP (tgN 5) bM)))) bM))) (bc (Du 1 (ao (ak false 3) (ao (eAp bL aB) aB)) (ao (eAp bB (ao (eAp bB (ao (ak false 2) (ao (eC (.int 1)) aB))) (ao (ak false 4) aB))) aB))
 (Du 1 (ao (ak false 4) (ao (eAp bL aB) aB)) (ao (eAp bB (ao (eAp bB (ao (ak false 2) (ao (e1 fW (eC (.int 1))) aB))) (ao (ak false 3) aB))) aB))))
 (jF 1))))
def bN:List D->Option D:=fnP 2 10 ((bc (bI (eAp (aX cV) (ao (ak false 0) aB)) (tgN 2))
 (bc (bI (oF (jN (ak false 1) (eAp bB aB) pL)) (tgN 3))
 (bc (bI (oF (jN (ak false 1) (eAp bB aB) pL)) (tgN 4))
 (bc (km (uK (eB (e2 Ku (ak false 4) (eAp uy aB)))) (bc (bI (eAp uy aB) (tgN 5))
 (bc (sFz 2 (sFz 4 (xV 4 (tgN 6) (iV (itS (eMt ou (ak false 2) (ao (ak false 6) (ao (eAp bL aB) aB)))) (tgT 2 (aP (tgN 7) (aP (tgN 8) bM))) (bc (bI (e2 dM (e2 gIx (ak false 4) (ak false 6)) (eAp bB (ao (ak false 7) aB))) (tgN 9))
 (sIf (lC (eB (e2 e_ (ak false 8) (ak false 3))) (eOr (eB (e2 e_ (ak false 8) (ak false 5))) (eB (e2 wR (ak false 9) (e2 gIx (ak false 5) (ak false 8)))))) (bI (ak false 9) (gh cX 5 (g_ 5) (ak false 8))) bY))))))
 (bc (sFz 5 (v8 fY 3 (g_ 3) (ao (ak false 5) aB)))
 (bI (ak false 5) (tgN 4))))) 1000000)
 (jF 3))))))
def b8:List D->Option D:=fnP 3 5 ((bc (bI (eAp (aX cM) (ao (ak false 0) aB)) (tgN 3))
 (bc (bI (eAp (aX bN) (ao (bT [none,some 0] (itS (ak false 3)) (tpN 0) eTT (e2 gIx (ak false 1) (ak false 0))) (ao (ak false 1) aB))) (tgN 4))
 (cD (eAp jb (ao (bT [none,none,some 3] (itS (eMt tO (ak false 4) (ao (ak false 2) (ao (eAp bB aB) aB)))) (tpT 2 (aP (tpN 0) (aP (tpN 1) bM))) eTT (eAp bB (ao (e2 gIx (ak false 2) (ak false 0)) (ao (ak false 1) aB)))) aB))))))
def b7:List D->Option D:=fnP 1 1 ((cD (pW (eAp cQ (ao (ak false 0) (ao (eC (.ty "int")) aB))) (e1 Dz (eAp cQ (ao (ak false 0) (ao (eC (.ty "bool")) aB)))))))
def bV:List D->Option D:=fnP 1 2 ((bc (sIf (jL (i_ (eAp cQ (ao (ak false 0) (ao (eAp bB (ao (eC (.ty "list")) (ao (eC (.ty "tuple")) aB))) aB))))) (cD (eC (.bl false))) bY)
 (bc (iV (itS (ak false 0)) (tgN 1) (bc (sIf (eOr (jL (i_ (eAp cQ (ao (ak false 1) (ao (eC (.ty "str")) aB))))) (jL (eB (kE gLe gLe (eC (.int 1)) (eAp cL (ao (ak false 1) aB)) (eC (.int 8)))))) (cD (eC (.bl false))) bY)
 (sIf (jL (i_ (eAp p6 (ao (bT [none] (pM (ak false 1)) (tpN 0) eTT (e2 gIn (ak false 0) (eC (.str "abcdefghijklmnopqrstuvwxyz")))) aB)))) (cD (eC (.bl false))) bY)))
 (cD (eC (.bl true))))))
def bH:List D->Option D:=fnP 4 8 ((bc (sIf (jL (i_ (eAp cQ (ao (ak false 3) (ao (eC (.ty "tuple")) aB))))) (cD (eC (.bl false))) bY)
 (bc (bI (eAp bL (ao (ak false 1) aB)) (tgN 4))
 (bc (iV (itS (ak false 3)) (tgN 5) (bc (sIf (eOr (jL (i_ (eAp cQ (ao (ak false 5) (ao (eC (.ty "tuple")) aB))))) (eOr (eB (e2 gNe (eAp cL (ao (ak false 5) aB)) (eC (.int 2)))) (eOr (jL (i_ (eAp (aX b7) (ao (e2 gIx (ak false 5) (eC (.int 0))) aB)))) (jL (i_ (eAp (aX b7) (ao (e2 gIx (ak false 5) (eC (.int 1))) aB))))))) (cD (eC (.bl false))) bY)
 (bc (sIf (eOr (jL (eB (kE gLe gLt (eC (.int 0)) (e2 gIx (ak false 5) (eC (.int 0))) (eAp cL (ao (ak false 0) aB))))) (eB (e2 e_ (e2 gIx (ak false 5) (eC (.int 1))) (eAp bB (ao (eC (.int 1)) (ao (e1 fW (eC (.int 1))) aB)))))) (cD (eC (.bl false))) bY)
 (bc (bI (e2 qW (eSl (e2 gIx (ak false 0) (e2 gIx (ak false 5) (eC (.int 0)))) j6 (jQ (eC (.int 2)))) (e2 gIx (ak false 5) (eC (.int 1)))) (tgT 2 (aP (tgN 6) (aP (tgN 7) bM))))
 (bc (sIf (eOr (eB (e2 gNe (ak false 6) (e2 gIx (ak false 4) (e1 fW (eC (.int 1)))))) (eB (e2 gIn (ak false 7) (ak false 4)))) (cD (eC (.bl false))) bY)
 (v8 cJ 4 (g_ 4) (ao (ak false 7) aB)))))))
 (cD (e2 gEq (e2 gIx (ak false 4) (e1 fW (eC (.int 1)))) (ak false 2)))))))
def bU:List D->Option D:=fnP 6 8 ((bc (sIf (eOr (jL (i_ (eAp (aX b7) (ao (ak false 3) aB)))) (jL (i_ (eAp (aX bV) (ao (ak false 5) aB))))) (cD (eC (.bl false))) bY)
 (bc (sIf (eB (e2 gEq (ak false 3) (e1 fW (eC (.int 1))))) (cD (pW (e2 gEq (ak false 1) (ak false 2)) (pW (e2 gEq (ak false 4) (eAp bB aB)) (e2 gEq (eAp cL (ao (ak false 5) aB)) (eC (.int 0)))))) bY)
 (bc (sIf (eOr (jL (i_ (eAp (aX bH) (ao (ak false 0) (ao (ak false 1) (ao (ak false 2) (ao (ak false 4) aB))))))) (eB (e2 gNe (eAp k_ (ao (ak false 5) aB)) (eAp cL (ao (ak false 5) aB))))) (cD (eC (.bl false))) bY)
 (bc (sIf (eOr (i_ (eAp Cq (ao (bT [none,some 3] (itS (ak false 4)) (tpN 0) eTT (e2 gGt (e2 gIx (ak false 0) (eC (.int 0))) (ak false 1))) aB))) (eOr (eB (e2 e_ (ak false 1) (ak false 5))) (eB (e2 gIn (ak false 2) (ak false 5))))) (cD (eC (.bl false))) bY)
 (bc (iV (uA (ao (ak false 0) aB)) (tgT 2 (aP (tgN 6) (aP (tgN 7) bM))) (sIf (lC (eB (e2 gLt (ak false 6) (ak false 3))) (eB (e2 gNe (e2 gIn (e2 gIx (ak false 7) (eC (.int 0))) (ak false 5)) (e2 gIn (e2 gIx (ak false 7) (eC (.int 1))) (ak false 5))))) (cD (eC (.bl false))) bY))
 (cD (eC (.bl true)))))))))
def cU:List D->Option D:=fnP 1 1 ((cD (e2 gEq (eAp k_ (ao (ak false 0) aB)) (eAp cL (ao (ak false 0) aB)))))
def gG:List D->Option D:=fnP 4 4 ((bc (sIf (eOr (jL (i_ (eAp (aX cU) (ao (ak false 3) aB)))) (eOr (eB (e2 e_ (ak false 1) (ak false 3))) (eB (e2 gIn (ak false 2) (ak false 3))))) (cD (eC (.bl false))) bY)
 (cD (eAp p6 (ao (bT [none,none,none,some 3] (itS (ak false 0)) (tpT 3 (aP (tpN 0) (aP (tpN 1) (aP (tpN 2) bM)))) eTT (e2 gEq (e2 gIn (ak false 0) (ak false 3)) (e2 gIn (ak false 1) (ak false 3)))) aB)))))
def cP:List D->Option D:=fnP 1 1 ((cD (pW (eAp cQ (ao (ak false 0) (ao (eC (.ty "int")) aB))) (e1 Dz (eAp cQ (ao (ak false 0) (ao (eC (.ty "bool")) aB)))))))
def fQ:List D->Option D:=fnP 1 1 ((cD (eAp cQ (ao (ak false 0) (ao (eAp bB (ao (eC (.ty "list")) (ao (eC (.ty "tuple")) aB))) aB)))))
def cW:List D->Option D:=fnP 1 1 ((bc (sIf (jL (i_ (eAp cQ (ao (ak false 0) (ao (eC (.ty "str")) aB))))) (cD (eC (.bl false))) bY)
 (bc (sIf (eOr (eB (e2 gLt (eAp cL (ao (ak false 0) aB)) (eC (.int 1)))) (eB (e2 gGt (eAp cL (ao (ak false 0) aB)) (eC (.int 8))))) (cD (eC (.bl false))) bY)
 (cD (eAp p6 (ao (bT [none] (pM (ak false 0)) (tpN 0) eTT (e2 gIn (ak false 0) (eC (.str "abcdefghijklmnopqrstuvwxyz")))) aB))))))
def dD:List D->Option D:=fnP 1 1 ((cD (pW (eAp (aX fQ) (ao (ak false 0) aB)) (eAp p6 (ao (bT [none] (itS (ak false 0)) (tpN 0) eTT (eAp (aX cW) (ao (ak false 0) aB))) aB)))))
def eE:List D->Option D:=fnP 1 1 ((cD (pW (eAp cQ (ao (ak false 0) (ao (eC (.ty "tuple")) aB))) (e2 gEq (eAp cL (ao (ak false 0) aB)) (eC (.int 2))))))
def cY:List D->Option D:=fnP 1 1 ((cD (pW (eAp (aX eE) (ao (ak false 0) aB)) (pW (eAp (aX cP) (ao (e2 gIx (ak false 0) (eC (.int 0))) aB)) (pW (eAp (aX cP) (ao (e2 gIx (ak false 0) (eC (.int 1))) aB)) (e2 gIn (e2 gIx (ak false 0) (eC (.int 1))) (eAp bB (ao (eC (.int 1)) (ao (e1 fW (eC (.int 1))) aB)))))))))
def gM:List D->Option D:=fnP 1 1 ((cD (pW (eAp cQ (ao (ak false 0) (ao (eC (.ty "tuple")) aB))) (eAp p6 (ao (bT [none] (itS (ak false 0)) (tpN 0) eTT (eAp (aX cY) (ao (ak false 0) aB))) aB)))))
def dH:List D->Option D:=fnP 2 5 ((bc (bI (ak false 0) (tgT 3 (aP (tgN 2) (aP (tgN 3) (aP (tgN 4) bM)))))
 (bc (sIf (eB (e2 gEq (ak false 1) (eC (.int 1)))) (cD (eAp bB (ao (ak false 2) (ao (ak false 3) aB)))) bY)
 (cD (eAp bB (ao (ak false 3) (ao (ak false 2) aB)))))))
def iz:List D->Option D:=fnP 3 8 ((bc (bI (ak false 1) (tgN 3))
 (bc (iV (itS (ak false 2)) (tgT 2 (aP (tgN 4) (aP (tgN 5) bM))) (bc (sIf (eOr (eB (e2 gLt (ak false 4) (eC (.int 0)))) (eB (e2 gGe (ak false 4) (eAp cL (ao (ak false 0) aB))))) (cD (eC .non)) bY)
 (bc (bI (eAp (aX dH) (ao (e2 gIx (ak false 0) (ak false 4)) (ao (ak false 5) aB))) (tgT 2 (aP (tgN 6) (aP (tgN 7) bM))))
 (bc (sIf (eB (e2 gNe (ak false 6) (ak false 3))) (cD (eC .non)) bY)
 (bI (ak false 7) (tgN 3))))))
 (jF 3))))
def d_:List D->Option D:=fnP 2 2 ((cD (bT [none,none,some 0] (itS (ak false 1)) (tpT 2 (aP (tpN 0) (aP (tpN 1) bM))) eTT (e2 gIx (eAp (aX dH) (ao (e2 gIx (ak false 2) (ak false 0)) (ao (ak false 1) aB))) (eC (.int 1))))))
def eF:List D->Option D:=fnP 4 4 ((bc (sIf (eOr (jL (i_ (eAp (aX gM) (ao (ak false 3) aB)))) (eB (e2 gNe (eAp (aX iz) (ao (ak false 0) (ao (ak false 1) (ao (ak false 3) aB)))) (ak false 2)))) (cD (eC (.bl false))) bY)
 (cD (eAp (aX cU) (ao (e2 dM (eAp bL (ao (ak false 1) aB)) (eAp (aX d_) (ao (ak false 0) (ao (ak false 3) aB)))) aB)))))
def cA:List D->Option D:=fnP 6 6 ((bc (sIf (eOr (jL (i_ (eAp (aX cP) (ao (ak false 3) aB)))) (eOr (jL (i_ (eAp (aX dD) (ao (ak false 5) aB)))) (jL (i_ (eAp (aX eF) (ao (ak false 0) (ao (ak false 1) (ao (ak false 2) (ao (ak false 4) aB))))))))) (cD (eC (.bl false))) bY)
 (bc (sIf (eB (e2 gEq (ak false 3) (e1 fW (eC (.int 1))))) (cD (pW (e2 gEq (eAp cL (ao (ak false 4) aB)) (eC (.int 0))) (e2 gEq (eAp cL (ao (ak false 5) aB)) (eC (.int 0))))) bY)
 (bc (sIf (i_ (eAp Cq (ao (bT [none,none,some 3] (itS (ak false 4)) (tpT 2 (aP (tpN 0) (aP (tpN 1) bM))) eTT (e2 gGt (ak false 0) (ak false 2))) aB))) (cD (eC (.bl false))) bY)
 (cD (eAp (aX gG) (ao (eSl (ak false 0) j6 (jQ (ak false 3))) (ao (ak false 1) (ao (ak false 2) (ao (ak false 5) aB))))))))))
def bQ:List D->Option (D×List D):=fnI (λi=>i==0) 3 3 ((um (ee2 gIx (sW bL (cH (eUp (e2 jT (ak false 2) (eC (.int 1)))) (cH (eUp (e2 dM (ak false 2) (eC (.int 1)))) (cH (eUp (e1 fW (eC (.int 1)))) (cH (ee2 jT (eIo aG [0] (cG (ao (e2 dM (eAp cL (ao (ak false 1) aB)) (eC (.int 3))) aB))) (eUp (eC (.int 2)))) (cG (ao (ak false 2) (ao (ak false 2) aB)))))))) (eIo aG [0] (cG (ao (eC (.int 6)) aB))))))
def cz:List D->Option (D×List D):=fnI (λi=>i==0) 5 8 ((bc (cZ (eIo aG [0] (cG (ao (eC (.int 7)) aB))) (tgN 5))
 (bc (cZ (eIo aG [0] (cG (ao (e2 dM (eAp cL (ao (ak false 4) aB)) (eC (.int 1))) aB))) (tgN 6))
 (bc (sIf (eB (e2 gEq (ak false 5) (eC (.int 0)))) (cD (e2 dM (eSl (ak false 4) j6 (jQ (ak false 6))) (eSl (ak false 4) (jQ (e2 dM (ak false 6) (eC (.int 1)))) j6))) bY)
 (bc (sIf (eB (e2 gEq (ak false 5) (eC (.int 1)))) (cD (eAp jb (ao (bT [none,none] (Ed (ao (ak false 4) aB)) (tpT 2 (aP (tpN 0) (aP (tpN 1) bM))) eTT (eAp bB (ao (ak false 0) (ao (e1 fW (ak false 1)) aB)))) aB))) bY)
 (bc (sIf (eB (e2 gEq (ak false 5) (eC (.int 2)))) (bc (cZ (sW bB (cH (ee2 jT (eIo aG [0] (cG (ao (e2 dM (eAp cL (ao (ak false 1) aB)) (eC (.int 2))) aB))) (eUp (eC (.int 1)))) (cH (ee2 jT (eUp (eC (.int 1))) (ee2 lL (eUp (eC (.int 2))) (eIo aG [0] (cG (ao (eC (.int 2)) aB))))) (cG aB)))) (tgN 7))
 (cD (e2 dM (e2 dM (eSl (ak false 4) j6 (jQ (ak false 6))) (eAp bB (ao (ak false 7) aB))) (eSl (ak false 4) (jQ (e2 dM (ak false 6) (eC (.int 1)))) j6)))) bY)
 (bc (sIf (eB (e2 gEq (ak false 5) (eC (.int 3)))) (cD (eMt tO (eAp (aX bN) (ao (ak false 1) (ao (ak false 2) aB))) (ao (ak false 3) (ao (eAp bB aB) aB)))) bY)
 (jF 4))))))))
def bW:List D->Option (D×List D):=fnI (λi=>i==0) 3 6 ((bc (cZ (eIo aG [0] (cG (ao (eC (.int 7)) aB))) (tgN 3))
 (bc (bI (eAp xf (ao (ak false 2) aB)) (tgN 4))
 (bc (sIf (eB (e2 gLt (ak false 3) (eC (.int 3)))) (bc (cZ (ee2 gIx (eUp (e2 dM (ak false 1) (eAp bL (ao (eC (.str "lone")) (ao (eC (.str "No")) (ao (eC (.str "")) aB)))))) (eIo aG [0] (cG (ao (e2 dM (eAp cL (ao (ak false 1) aB)) (eC (.int 3))) aB)))) (tgN 5))
 (v_ lN 4 (g_ 4) (cH (eIo aG [0] (cG (ao (e2 dM (eAp cL (ao (ak false 4) aB)) (eC (.int 1))) aB))) (cG (ao (ak false 5) aB))))) bY)
 (bc (sIf (lC (eB (e2 gEq (ak false 3) (eC (.int 3)))) (eB (e2 gNe (ak false 4) (eAp bL aB)))) (v_ mj 4 (g_ 4) (cH (eIo aG [0] (cG (ao (eAp cL (ao (ak false 4) aB)) aB))) (cG aB))) bY)
 (bc (sIf (eB (e2 gEq (ak false 3) (eC (.int 4)))) (bI (eAp bL aB) (tgN 4)) bY)
 (bc (sIf (lC (eB (e2 gEq (ak false 3) (eC (.int 5)))) (eB (e2 gNe (ak false 4) (eAp bL aB)))) (bI (bT [none,some 4] (itS (ak false 4)) (tpN 0) (eB (e2 gNe (ak false 0) (e2 gIx (ak false 1) (eC (.int 0))))) (ak false 0)) (tgN 4)) bY)
 (jF 4))))))))
def eG:List D->Option (D×List D):=fnI (λi=>i==0) 5 17 ((bc (bI (eAp (aX dm) (ao (ak false 2) (ao (ak false 3) (ao (ak false 4) aB)))) (tgN 5))
 (bc (bI (aU (eB (e2 gIs (ak false 5) (eC .non))) (eAp cL (ao (ak false 2) aB)) (ak false 5)) (tgN 6))
 (bc (bI (eAp (aX b8) (ao (ak false 2) (ao (ak false 3) (ao (ak false 4) aB)))) (tgN 7))
 (bc (bI (eAp bL aB) (tgN 8))
 (bc (sIf (eB (e2 gNe (ak false 3) (ak false 4))) (bI (eAp nO (ao (eAp (aX cC) (ao (eSl (ak false 2) j6 (jQ (eAp Br (ao (eC (.int 0)) (ao (ak false 6) aB))))) (ao (ak false 3) aB))) aB)) (tgN 8)) bY)
 (bc (sFz 8 (iV (rY (ao (eC (.int 6)) aB)) (tgN 9) (bc (bI (eAp bL (ao (ak false 6) (ao (ak false 7) (ao (ak false 8) aB)))) (tgN 10))
 (bc (pK (pI (cH (eIo aG [0] (cG (ao (eC (.int 3)) aB))) (cG aB))) (tgN 11) (bc (cZ (eIo aG [0] (cG (ao (eC (.int 3)) aB))) (tgN 12))
 (bc (sIf (eB (e2 gEq (ak false 12) (eC (.int 0)))) (cZ (eIo bQ [0] (cG (ao (ak false 2) (ao (e2 gIx (ak false 10) (eC (.int 0))) aB)))) (gh cX 10 (g_ 10) (eC (.int 0)))) bY)
 (bc (sIf (eB (e2 gEq (ak false 12) (eC (.int 1)))) (cZ (eIo cz [0] (cG (ao (ak false 2) (ao (ak false 3) (ao (ak false 4) (ao (e2 gIx (ak false 10) (eC (.int 1))) aB)))))) (gh cX 10 (g_ 10) (eC (.int 1)))) bY)
 (sIf (eB (e2 gEq (ak false 12) (eC (.int 2)))) (cZ (eIo bW [0] (cG (ao (ak false 1) (ao (e2 gIx (ak false 10) (eC (.int 2))) aB)))) (gh cX 10 (g_ 10) (eC (.int 2)))) bY)))))
 (bc (sFz 10 (bI (eAp (aX bU) (ao (ak false 2) (ao (ak false 3) (ao (ak false 4) (ao (e2 gIx (ak false 10) (eC (.int 0))) (ao (e2 gIx (ak false 10) (eC (.int 1))) (ao (e2 gIx (ak false 10) (eC (.int 2))) aB))))))) (tgN 13)))
 (bc (cZ (ee2 gIx (eUp (eAp bL (ao (e2 gIx (ak false 10) (eC (.int 2))) (ao (eAp jb (ao (e2 gIx (ak false 10) (eC (.int 2))) aB)) aB)))) (eIo aG [0] (cG (ao (eC (.int 2)) aB)))) (tgN 14))
 (bc (bI (eAp yj (ao (eAp bL (ao (ak false 2) (ao (ak false 10) (ao (ak false 14) aB)))) aB)) (tgN 15))
 (bc (bI (eAp (aX cA) (ao (e2 gIx (eAp bL (ao (ak false 2) (ao (eAp jb (ao (ak false 2) aB)) aB))) (e2 qR (ak false 9) (eC (.int 2)))) (ao (ak false 3) (ao (ak false 4) (ao (e2 gIx (ak false 10) (eC (.int 0))) (ao (e2 gIx (ak false 10) (eC (.int 1))) (ao (ak false 14) aB))))))) (tgN 16))
 (bc (sIf (eOr (jL (i_ (eAp cQ (ao (ak false 16) (ao (eC (.ty "bool")) aB))))) (eOr (eB (e2 gNe (ak false 16) (ak false 13))) (lC (i_ (ak false 13)) (eB (e2 gNe (e2 gIx (ak false 10) (eC (.int 0))) (ak false 5)))))) (cD (eC (.bl false))) bY)
 (sIf (eB (e2 gNe (eAp yj (ao (eAp bL (ao (ak false 2) (ao (ak false 10) (ao (ak false 14) aB)))) aB)) (ak false 15))) (cD (eC (.bl false))) bY))))))))))
 (cD (eC (.bl true))))))))))
def kY:List D->Option D:=fnP 1 8 ((bc (bI (eAp (aX dq) (ao (ak false 0) aB)) (tgN 1))
 (bc (pK (pI (cH (ee2 dM (eUp (eC (.int 1))) (eIo aG [1] (cG (ao (eC (.int 2)) aB)))) (cG aB))) (tgN 2) (bc (cZ (eIo fZ [1] (cG aB)) (tgN 3))
 (bc (cZ (eIo dW [1] (cG (ao (ak false 3) aB))) (tgN 4))
 (sFz 4 (sFz 3 (iV (rY (ao (eC (.int 3)) aB)) (tgN 5) (bc (cZ (eIo fX [1] (cG (ao (ak false 3) aB))) (tgT 2 (aP (tgN 6) (aP (tgN 7) bM))))
 (yK (CQ (Dw (eIo eG [1] (cG (ao (ak false 3) (ao (ak false 4) (ao (ak false 6) (ao (ak false 7) aB)))))))) (cD (eC (.bl false))) bY))))))))
 (cD (eC (.bl true))))))
abbrev sd(z:List Int)(t:Int):D:=.dct .own [.inr "cells",.inr "turn"] [.lst .own (z.map D.int),.int t]
def Sd(n:Int)(d:D):Prop:=∃z t,d=sd z t/\z≠[]/\z.length<=63/\0<=t/\t<=n
theorem kc:dU [.inr "cells",.inr "turn"] (.inr "cells")=some 0:=by decide +kernel
theorem kt:dU [.inr "cells",.inr "turn"] (.inr "turn")=some 1:=by decide +kernel
theorem ju:∀z:List Int,aC (z.map D.int)=true
 |[]=>rfl
 |c::r=>by simp[aC,aA,ju r]
theorem jz:∀z:List Int,aD (z.map D.int)=true
 |[]=>rfl
 |c::r=>by simp[aD,az,jz r]
theorem jV(b:Bool):∀z:List Int,fU b (z.map D.int)=z.map D.int
 |[]=>rfl
 |c::r=>by simp[fU,view,jV b r]
variable{k:Nat}
theorem mC{n:Nat}(h:k<n):ixN n (k:Int)=some k:=by
 unfold ixN;simp;omega
local macro_rules
 |`(tactic|simp_arith[$xs,*])=>do
  let a:=("aH nH aN bR w_ite vC bI cZ u_ sIf yK cD um jF bY iV pK sFz lw v8 Il upS tgN tgT aP bM gh tpN tpT g_ Nj ak eC aB ao eAp eUp uK cG ee2 cH sW e2 e1 eB eeB i_ lC eOr jL Wq pW eTT isB rY itS itE pI gU bT vh eSl XR J3 Gh j6 jQ eMt Xz eIo objs iZ aX gV gA clean aA az aC aD j8 j4 view fU mkV mkF fz fzL fzo iQ mkO fnP fnI en0 outs gf jg obC truth".splitOn " ").toArray.map λx=>Lean.mkNode `Lean.Parser.Tactic.simpLemma #[Lean.mkNullNode,Lean.mkNullNode,Lean.mkIdent (`Jb++x.toName)]
  let b:=Lean.Syntax.TSepArray.mk (sep:=",") (Lean.mkSepArray (a.map (·.raw)++xs.getElems.map (·.raw)) (Lean.mkAtom ","))
  `(tactic|simp[$b,*])
theorem Le(hd:Sd n d)(I:n<1000000)(V:0<m)(Y:m<1000000):Wp (aG [d,.int m]) λq=>∃(r:Int)(d':D),q=(.int r,[d',.int m])/\0<=r/\r<m/\Sd (n+1) d':=by
 obtain⟨z,t,rfl,F,Z,t0,t1⟩:=hd;have a0:0<z.length:=ad7.mpr F;obtain⟨k,J,B⟩:∃k:Nat,(t+1) % (z.length:Int)=(k:Int)/\k<z.length:=by
  have h1:=ab_ (t+1) (show(z.length:Int)≠0 by omega);have h2:=abB (t+1) (show(0:Int)<z.length by omega);exact⟨((t+1) % (z.length:Int)).toNat,by omega,by omega⟩
 have a1:=mC B;simp_arith[aG,sEx,aL,aU,aK,dM,jT,lL,wz,qR,FT,fW,gLt,gGt,gGe,gIx,bL,bB,cL,Om,Bx,Ga,gIs,ur,atI,ixN,cJ,cX,gSl,qW,jb,kc,kt,dG,gO,ju,jz,jV,J,a1,a0,uW,V];refine⟨B,?_⟩;rw[X5 B,aH];by_cases U:(1000000000000000000:Int)<=z[k]
 .rw[Yi U]
  refine⟨by omega,?_⟩;simp[ixP,kc,dG,kids,gV,gA,CV,aH,w_ite,bR,B];refine⟨_,_,⟨rfl,rfl⟩,ab_ _ (by omega),abB _ V,z.set k (z[k] / m),t+1,?_,by simpa using F,by simpa using Z,by omega,by omega⟩;simp![sd,List.map_set]
 .rw[YB U]
  have O:∀x:Int,0<=x % 2147483647/\x % 2147483647<2147483647:=λx=>⟨ab_ _ (by decide),abB _ (by decide)⟩;refine⟨⟨by omega,by omega⟩,⟨by have:=(O ((z[k] % 2147483629+(t+1)*(t+1)*7919+11)*48271)).1;omega,by have:=(O ((z[k] % 2147483629+(t+1)*(t+1)*7919+11)*48271)).2;omega⟩,_,_,⟨rfl,rfl⟩,ab_ _ (by omega),abB _ V,z,t+1,rfl,F,Z,by omega,by omega⟩
theorem dB{Q:D×List D->Prop}(hd:Sd n d)(I:n<1000000)(q:0<m)(Y:m<1000000)(h:∀r d',0<=r->r<m->Sd (n+1) d'->Q (.int r,[d',.int m])):Wp (aG [d,.int m]) Q:=by
 refine(Le hd I q Y).mono ?_;rintro _ ⟨r,d',rfl,h1,h2,V⟩;exact h r d' h1 h2 V
theorem zf(hd:Sd n d)(I:n<1000000)(V:0<m)(Y:m<1000000):∃r d',aG [d,.int m]=some (.int r,[d',.int m])/\0<=r/\r<m/\Sd (n+1) d':=by
 obtain⟨q,e,r,d',rfl,h⟩:=Le hd I V Y;exact⟨r,d',e,h⟩
theorem yl:∀z:List Int,iJ (z.map D.int)=true
 |[]=>rfl
 |c::r=>by simp[iJ,iM,yl r]
variable{m:Mk}
theorem Qk{z:List Int}:gEq (.lst m (z.map D.int)) (.lst .own [])=some (.bl z.isEmpty):=by
 unfold gEq;have h1:=yl z;rw[Yi ⟨by simpa[iM]using h1,rfl,.lst (by simp[dtL])⟩];cases z with
 |nil=>rfl
 |cons j r=>rfl
theorem sr:cutD ds none (some (k:Int))=ds.take k:=by
 unfold cutD;rw[HT.sIx_none,HT.sIx_nat,acf,Nat.sub_zero];rcases Nat.le_total k ds.length with h|h
 .rw[adb h]
 .rw[aeN h,ac2,Zq h]
theorem Bq:cutD ds (some (k:Int)) none=ds.drop k:=by
 unfold cutD;rw[HT.sIx_none,HT.sIx_nat];rcases Nat.le_total k ds.length with h|h
 .rw[adb h,Zq (by simp)]
 .rw[aeN h,ZM,abN h];simp
theorem Oc{ns:List Int}(Z:ns.length<=63):Wp (dq [.lst .scr (ns.map D.int)]) (Sd 0):=by
 have O:cutD (ns.map D.int) none (some 63)=ns.map D.int:=by
  have:=sr (ds:=ns.map D.int) (k:=63);rw[Zq (by simpa using Z)]at this;exact this
 simp_arith[dq,sEx,aL,aU,aK,dM,jT,lL,wz,qR,FT,fW,gLt,gGt,gGe,gIx,bL,bB,cL,Om,Bx,Ga,gIs,ur,atI,ixN,cJ,cX,gSl,qW,jb,xf,ju,jz,jV,vR,O,Qk];cases ns with
 |nil=>exact⟨[7],0,rfl,by simp,by simp,by omega,by omega⟩
 |cons n r=>
  exact⟨n::r,0,rfl,by simp,Z,by omega,by omega⟩
def ph:List Str:=["b","aa","zebra","c","quartzes","ab","m","knows","d","mm","likes","z","a","ba","abcdefgh","y"]
theorem Pj:yw "b aa zebra c quartzes ab m knows d mm likes z a ba abcdefgh y" " "=some ph:=by decide +kernel
theorem XX:ph.Nodup:=by decide +kernel
def Nm(n:Int)(q:D×List D):Prop:=∃(ns:List Str)(d':D),q=(.lst .own (ns.map D.str),[d'])/\(∀x∈ns,x∈ph)/\ns.Nodup/\ns.length<=14/\Sd (n+4) d'
theorem O_(hd:Sd n d)(I:n<900000):Wp (fZ [d]) (Nm n):=by
 obtain⟨F,d1,f1,a6,a5,a1⟩:=zf hd (by omega) (show(0:Int)<5 by decide) (by decide);obtain⟨O,z,J,a9,b1,a0⟩:=zf a1 (by omega) (show(0:Int)<3 by decide) (by decide);obtain⟨U,V,f3,a7,b2,a3⟩:=zf a0 (by omega) (show(0:Int)<8 by decide) (by decide);obtain⟨r4,q,f4,a8,b0,a2⟩:=zf a3 (by omega) (show(0:Int)<16 by decide) (by decide);have Z:((ph.map D.str).length:Int)=16:=rfl;simp_arith[fZ,sEx,aL,aU,aK,vH,Pj,bL,dM,cL,f1,J,f3];obtain⟨mn,a4,m1⟩:∃mn:Nat,gIx (D.lst Mk.own [D.int 4,D.int 5,D.int 6,D.int 7,D.int 8,D.int 6,D.int (10+F),D.int O]) (D.int U)=some (.int (mn:Int))/\mn<=14:=by
  have:U=0∨U=1∨U=2∨U=3∨U=4∨U=5∨U=6∨U=7:=by omega
  rcases this with rfl|rfl|rfl|rfl|rfl|rfl|rfl|rfl
  .exact⟨4,rfl,by omega⟩
  .exact⟨5,rfl,by omega⟩
  .exact⟨6,rfl,by omega⟩
  .exact⟨7,rfl,by omega⟩
  .exact⟨8,rfl,by omega⟩
  .exact⟨6,rfl,by omega⟩
  .exact⟨(10+F).toNat,by rw[show(((10+F).toNat:Nat):Int)=10+F by omega];rfl,by omega⟩
  .exact⟨O.toNat,by rw[show((O.toNat:Nat):Int)=O by omega];rfl,by omega⟩
 obtain⟨k,rfl⟩:∃k:Nat,r4=(k:Int):=⟨r4.toNat,by omega⟩;rw[a4,aH,cu,Z,f4,aH];simp_arith[sEx,aL,aU,aK,cR,cB,cu,gSl,dM,sr,Bq];have Y:((List.drop k (List.map D.str ph)++List.take k (List.map D.str ph)).take mn)=((ph.drop k++ph.take k).take mn).map D.str:=by
  rw[aak,Zi,acD,aak]
 have pm:(ph.drop k++ph.take k).Perm ph:=aa9.trans (by rw[abZ]);rw[Y];refine⟨by show 16-k+min k 16<=1000000;omega,⟨cR _,cB _⟩,_,q,rfl,λx B=>pm.subset (Zz B),?_,by rw[YX];omega,by rw[show n+4=n+1+1+1+1 by omega];exact a2⟩;exact(aev _ _).nodup (pm.nodup_iff.mpr XX)
theorem yH:∀z:List Int,iQ (z.map D.int)=z.map D.int
 |[]=>rfl
 |c::r=>by simp[iQ,fzo,yH r]
theorem Sd.le{m:Int}(h:Sd n d)(q:n<=m):Sd m d:=by
 obtain⟨z,t,h1,h2,V,F,Y⟩:=h;exact⟨z,t,h1,h2,V,F,by omega⟩
theorem Sd.cl(h:Sd n d):aA d=true/\az d=true:=by
 obtain⟨z,t,rfl,_⟩:=h;simp[aA,az,aC,aD,ju,jz]
def Jk(ns:List Str)(j:Jt):Prop:=(j.1∈ns/\j.2.1∈ns)/\j.2.2.natAbs<=10000000000000
def Jo(n:Int)(ns:List Str)(q:D×List D):Prop:=∃(js:List Jt)(d':D),q=(.lst .own (js.map jD),[d',.lst .frz (ns.map D.str)])/\(∀j∈js,Jk ns j)/\js.length<=2*ns.length/\Sd (n+1000) d'
def JoI(n:Int)(ns:List Str)(k:Nat)(acc:List D)(ρ:En):Prop:=∃(sp:List Int)(d':D),acc=sp.map D.int/\sp.length=k/\(∀x∈sp,x.natAbs<=10)/\Sd (n+k) d'/\ρ=[some d',some (D.lst Mk.frz (List.map D.str ns)),none,none,none,none,none,none,none,none,none]
def JoE(ns:List Str)(sp:List Int)(js:List Jt)(d':D)(x4 x5 x6 Y U q z:Option D):En:=[some d',some (D.lst Mk.frz (List.map D.str ns)),some (.lst .own (sp.map D.int)),some (D.lst Mk.own (js.map jD)),x4,x5,x6,Y,U,q,z]
def JoF(n:Int)(ns:List Str)(sp:List Int)(k:Nat)(ρ:En):Prop:=∃(js:List Jt)(d':D)(x4 x5 x6 Y U q z:Option D),ρ=JoE ns sp js d' x4 x5 x6 Y U q z/\(∀j∈js,Jk ns j)/\js.length=k/\Sd (n+30+8*k) d'
variable{j:Jt}{js:List Jt}
theorem Ca{q:Jt}:List.set ((js++[j]).map jD) js.length (jD q)=(js++[q]).map jD:=by
 rw[←List.map_set,aa8 _ _ (Nat.le_refl _),aag];rfl
set_option hygiene false
local macro_rules
 |`(tactic|simp_arith![$x,*])=>`(tactic|simp only[$x,*,en0,Yd,Yt,X8,YF,YK,Yx,aN,Nat.reduceAdd,Nat.reduceSub,Yv,List.nil_append])
set_option hygiene true
theorem Ey(hd:Sd n d)(I:n<900000)(Z:ns.length<=14):Wp (dW [d,.lst .frz (ns.map D.str)]) (Jo n ns):=by
 simp_arith![dW,fnI];refine aY (λρ=>∃(sp:List Int)(d':D),sp.length=ns.length/\(∀x∈sp,x.natAbs<=10)/\Sd (n+14) d'/\ρ=[some d',some (D.lst Mk.frz (List.map D.str ns)),some (.lst .own (sp.map D.int)),none,none,none,none,none,none,none,none]) (λQ hQ=>?_) ?_
 .simp_arith[sEx,aL,aU,aK,cu,uO,cR,cB]
  refine⟨by omega,K3 (JoI n ns) ⟨[],d,rfl,rfl,by simp,by simpa using hd,rfl⟩ ?_ ?_⟩
  .rintro i x acc ρ hi ⟨sp,d2,rfl,a3,a6,s2,rfl⟩
   rw[List.getElem?_map]at hi;have c5:i<ns.length:=by
    rcases ael i ns.length with h|h
    .exact h
    .rw[aac h]at hi;cases hi
   cases B:ns[i]? with
   |none=>simp[B]at hi
   |some y=>
    obtain rfl:D.str y=x:=by simpa[B]using hi
    simp_arith[sEx,aL,aU,aK];refine dB s2 (by omega) (by omega) (by omega) λr3 d3 p3 q3 s3=>?_;simp_arith[sEx,aL,aU,aK,jT];exact⟨sp++[r3-9],d3,by simp,by simp[a3],λx B=>(List.mem_append.mp B).elim (a6 x) λz=>by rw[List.mem_singleton.mp z];omega,s3.le (by push_cast;omega),rfl⟩
  .rintro ys ρ ⟨sp,d2,rfl,a3,a6,s2,rfl⟩
   rw[X_]at a3 s2;refine⟨⟨ju _,jz _⟩,hQ _ ⟨sp,d2,a3,a6,s2.le (by omega),rfl⟩⟩
 rintro _ ⟨sp,d2,a3,a6,s2,rfl⟩;refine aY (λρ=>∃(sp:List Int)(d':D),sp.length=ns.length/\(∀x∈sp,x.natAbs<=1000000000000)/\Sd (n+15) d'/\ρ=[some d',some (D.lst Mk.frz (List.map D.str ns)),some (.lst .own (sp.map D.int)),none,none,none,none,none,none,none,none]) (λQ hQ=>?_) ?_
 .simp_arith[sEx,aL,aU,aK]
  refine dB s2 (by omega) (by omega) (by omega) λr3 d3 p3 q3 s3=>?_;simp_arith[sEx,aL,aU,aK,eq_int,jV,ju,jz];split
  .rw[yH]
   refine⟨by rw[X_,a3];omega,?_⟩;rw[fG (p:=λ_=>true) (f:=λd=>match d with|.int k=>.int (k*50000000021)|_=>.non)]
   .rw[aH,filter_tt]
    have e5:List.map (λd=>match d with|D.int k=>D.int (k*50000000021)|_=>D.non) (sp.map D.int)=(sp.map λk=>k*50000000021).map D.int:=by
     rw[Yq,Yq];rfl
    rw[e5];exact⟨⟨ju _,jz _⟩,hQ _ ⟨_,d3,by simpa using a3,λx B=>by obtain⟨y,hy,rfl⟩:=List.mem_map.mp B;have:=a6 y hy;omega,s3.le (by omega),rfl⟩⟩
   .intro d hd
    obtain⟨k,J,rfl⟩:=List.mem_map.mp hd;simp[tpN,aH,eTT,e2,ak,view,eC,lL]
  .exact hQ _ ⟨sp,d3,a3,λx B=>by have:=a6 x B;omega,s3.le (by omega),rfl⟩
 clear s2 a3 a6;rintro _ ⟨sp,d2,a3,a6,s2,rfl⟩;refine aY (λρ=>ρ=[some d2,some (D.lst Mk.frz (List.map D.str ns)),some (.lst .own (sp.map D.int)),some (.lst .own []),none,none,none,none,none,none,none]) (λQ hQ=>?_) ?_
 .simp_arith[sEx,aL,aU,aK,bL]
  exact hQ _ rfl
 rintro _ rfl;refine aY (λρ=>∃k,k<=2*ns.length/\JoF n ns sp k ρ) (λQ hQ=>?_) ?_
 .simp_arith[sEx,aL,aU,aK,cL,cu,dM,lL]
  refine dB s2 (by omega) (by omega) (by omega) λr5 d5 p5 q5 s5=>?_;simp_arith[sEx,aL,aU,aK];refine⟨by omega,iB (JoF n ns sp) ⟨[],d5,_,_,_,_,_,_,_,rfl,by simp,rfl,s5.le (by omega)⟩ ?_ ?_⟩
  .rintro k x ρ J ⟨js,d6,x4,x5,x6,x7,x8,x9,a4,rfl,a7,b0,s6⟩
   obtain⟨c2,rfl⟩:=oY J;have c4:0<ns.length:=by omega
   simp![tgN,clean,aA,az,Zj,Yx,aH,JoE,YH,YQ];have c3:(ns.map D.str).length=ns.length:=X_ _;have c1:(sp.map D.int).length=ns.length:=by rw[X_,a3]
   refine aY (λρ=>∃(a b:Nat)(d':D),a<ns.length/\b<ns.length/\Sd (n+30+8*k+2) d'/\ρ=JoE ns sp js d' (some (.int k)) (some (.int a)) (some (.int b)) x7 x8 x9 a4) (λQ hQ=>?_) ?_
   .simp_arith[sEx,aL,aU,aK,cL,cu]
    refine dB s6 (by omega) (by omega) (by omega) λr7 d7 p7 q7 s7=>?_;simp_arith[sEx,aL,aU,aK,cL,cu];refine dB s7 (by omega) (by omega) (by omega) λr8 d8 p8 q8 s8=>?_;simp_arith[sEx,aL,aU,aK];refine hQ _ ⟨r7.toNat,r8.toNat,d8,by omega,by omega,s8.le (by omega),?_⟩;rw[show((r7.toNat:Nat):Int)=r7 by omega,show((r8.toNat:Nat):Int)=r8 by omega];rfl
   rintro _ ⟨a,b,d7,Y,U,s7,rfl⟩;have b8:∀c:Nat,c<ns.length->gIx (.lst .brw (sp.map D.int)) (.int (c:Int))=some (.int (sp[c]?.getD 0)):=λc F=>by
    have:c<sp.length:=by omega
    simp![gIx,atI,X_,mC this,gD,List.getElem?_map,X5 this];rfl
   have b5:∀{m:Mk}(c:Nat)(F:c<ns.length),gIx (.lst m (ns.map D.str)) (.int (c:Int))=some (.str ns[c]):=λ{m} c F=>by
    simp![gIx,atI,X_,mC F,gD,List.getElem?_map,X5 F];rfl
   refine aY (λρ=>∃st:Int,st.natAbs<=10000000000000/\ρ=JoE ns sp js d7 (some (.int k)) (some (.int a)) (some (.int b)) (some (.int st)) x8 x9 a4) (λQ hQ=>?_) ?_
   .simp_arith[sEx,aL,aU,aK,JoE,jV,b8 a Y,b8 b U,jT]
    have g0:∀c:Nat,(sp[c]?.getD 0).natAbs<=1000000000000:=λc=>by
     cases F:sp[c]? with
     |none=>simp
     |some x=>exact a6 x (YD F)
    have g1:=g0 a;have g2:=g0 b;exact hQ _ ⟨_,by omega,rfl⟩
   rintro _ ⟨st,a8,rfl⟩;refine aY (λρ=>∃(st:Int)(d':D),st.natAbs<=10000000000000/\Sd (n+30+8*k+4) d'/\ρ=JoE ns sp js d' (some (.int k)) (some (.int a)) (some (.int b)) (some (.int st)) x8 x9 a4) (λQ hQ=>?_) ?_
   .simp_arith[sEx,aL,aU,aK,JoE]
    refine dB s7 (by omega) (by omega) (by omega) λr8 d8 p8 q8 s8=>?_;simp_arith[sEx,aL,aU,aK,eq_int];split
    .refine dB s8 (by omega) (by omega) (by omega) λr9 d9 p9 q9 s9=>?_
     simp_arith[sEx,aL,aU,aK,jT];exact hQ _ ⟨_,d9,by omega,s9.le (by omega),rfl⟩
    .exact hQ _ ⟨_,d8,a8,s8.le (by omega),rfl⟩
   clear s7 d7 a8 st;rintro _ ⟨st,d7,a8,s7,rfl⟩;refine aY (λρ=>ρ=JoE ns sp (js++[(ns[a],ns[b],st)]) d7 (some (.int k)) (some (.int a)) (some (.int b)) (some (.int st)) x8 x9 a4) (λQ hQ=>?_) ?_
   .simp_arith[sEx,aL,aU,aK,JoE,b5 a Y,b5 b U,bB,cu,cJ]
    refine⟨by omega,hQ _ ?_⟩;simp[JoE,jD]
   rintro _ rfl;generalize c0:(ns[a],ns[b],st)=j1;have b1:Jk ns j1:=by subst c0;exact⟨⟨aao Y,aao U⟩,a8⟩
   refine aY (λρ=>∃(w:Int)(d':D),Sd (n+30+8*k+5) d'/\ρ=JoE ns sp (js++[j1]) d' (some (.int k)) (some (.int a)) (some (.int b)) (some (.int st)) (some (.int w)) x9 a4) (λQ hQ=>?_) ?_
   .simp_arith[sEx,aL,aU,aK,JoE]
    refine dB s7 (by omega) (by omega) (by omega) λr8 d8 p8 q8 s8=>?_;simp_arith[sEx,aL,aU,aK];refine hQ _ ⟨r8,d8,s8.le (by omega),?_⟩;simp[JoE]
   clear s7 d7;rintro _ ⟨w,d7,s7,rfl⟩;have a2:∀j∈js++[j1],Jk ns j:=λj O=>(List.mem_append.mp O).elim (a7 j) λz=>by rw[List.mem_singleton.mp z];exact b1
   have a1:(js++[j1]).length=k+1:=by simp[b0]
   obtain⟨a0,a5⟩:∃a0,a0=js++[j1]:=⟨_,rfl⟩;have a9:∀q:Jt,cX (.lst .own (a0.map jD)) [.int (-1),jD q]=some (.lst .own ((js++[q]).map jD),.non):=λq=>by
    have b3:ixN (a0.map jD).length (-1)=some js.length:=by
     unfold ixN;rw[X_,a5,a1];simp;omega
    simp![cX,b3,YM];rw[a5,Ca]
   rw[←a5]at a2 a1⊢;have V:∀{Q:Fl->Prop}{d7:D}{x9 a4:Option D}{st w:Int},Sd (n+30+8*k+5) d7->(∀(j2:Jt)(d':D),Jk ns j2->Sd (n+30+8*k+6) d'->Q (.nx (JoE ns sp (js++[j2]) d' (some (.int k)) (some (.int a)) (some (.int b)) (some (.int st)) (some (.int w)) x9 a4)))->
     Wp (sIf (eB (e2 gEq (ak false 8) (eC (.int 0)))) (cZ (ee2 gIx (eUp (ak false 3)) (eIo aG [0] (cG (ao (eAp cL (ao (ak false 3) aB)) aB)))) (gh cX 3 (g_ 3) (e1 fW (eC (.int 1))))) bY (JoE ns sp a0 d7 (some (.int k)) (some (.int a)) (some (.int b)) (some (.int st)) (some (.int w)) x9 a4)) Q:=by
    intro Q d7 x9 a4 st w s7 hQ;simp_arith[sEx,aL,aU,aK,JoE,eq_int,cL,mO];split
    .rw[a1]
     refine dB s7 (by omega) (by omega) (by omega) λr8 d8 p8 q8 s8=>?_;obtain⟨j,O,_,b4⟩:=mF (f:=jD) (l:=a0) p8 (by rw[a1];exact q8);have hg:gIx (D.lst Mk.brw (List.map jD a0)) (D.int r8)=some (jD j):=b4;simp_arith[sEx,aL,aU,aK,fW,mO,kZ,hg,XN,Xh,a9];have hz:=hQ j d8 (a2 j O) (s8.le (by omega));simpa[JoE]using hz
    .rw[a5]
     exact hQ j1 d7 b1 (s7.le (by omega))
   refine aY (λρ=>∃(j2:Jt)(d':D),Jk ns j2/\Sd (n+30+8*k+6) d'/\ρ=JoE ns sp (js++[j2]) d' (some (.int k)) (some (.int a)) (some (.int b)) (some (.int st)) (some (.int w)) x9 a4) (λQ hQ=>V s7 λj2 d' h1 h2=>hQ _ ⟨j2,d',h1,h2,rfl⟩) ?_;clear V a9 a2 a1 a5 a0;rintro _ ⟨j2,d8,b6,s8,rfl⟩;obtain⟨a0,a5⟩:∃a0,a0=js++[j2]:=⟨_,rfl⟩;have a1:a0.length=k+1:=by rw[a5];simp[b0]
   have a2:∀j∈a0,Jk ns j:=λj O=>by
    rw[a5]at O;exact(List.mem_append.mp O).elim (a7 j) λz=>by rw[List.mem_singleton.mp z];exact b6
   have a9:∀q:Jt,cX (.lst .own (a0.map jD)) [.int (-1),jD q]=some (.lst .own ((js++[q]).map jD),.non):=λq=>by
    have b3:ixN (a0.map jD).length (-1)=some js.length:=by
     unfold ixN;rw[X_,a1];simp;omega
    simp![cX,b3,YM];rw[a5,Ca]
   rw[←a5];simp_arith[sEx,aL,aU,aK,JoE,eq_int,cL,mO];split
   .rw[a1]
    refine dB s8 (by omega) (by omega) (by omega) λr8 d9 p8 q8 s9=>?_;obtain⟨j,O,_,b4⟩:=mF (f:=jD) (l:=a0) p8 (by rw[a1];exact q8);have hg:gIx (D.lst Mk.brw (List.map jD a0)) (D.int r8)=some (jD j):=b4;have b2:=a9 (j.2.1,j.1,-j.2.2);have b9:jD j= .tup [.str j.1,.str j.2.1,.int j.2.2]:=rfl;have b7:jD (j.2.1,j.1,-j.2.2)= .tup [.str j.2.1,.str j.1,.int (-j.2.2)]:=rfl;rw[b7]at b2;simp_arith[sEx,aL,aU,aK,fW,mO,kZ,hg,b9,bB,b2];exact⟨js++[(j.2.1,j.1,-j.2.2)],d9,_,_,_,_,_,_,_,by rw[JoE,Zi];rfl,λq hq=>(List.mem_append.mp hq).elim (a7 q) λz=>by rw[List.mem_singleton.mp z];exact⟨⟨(a2 j O).1.2,(a2 j O).1.1⟩,by have:=(a2 j O).2;simp only;omega⟩,by simp[b0],s9.le (by push_cast;omega)⟩
   .exact⟨a0,d8,_,_,_,_,_,_,_,rfl,a2,a1,s8.le (by push_cast;omega)⟩
  .rintro ρ h
   rw[rA]at h;exact hQ _ ⟨_,by omega,h⟩
 rintro _ ⟨k,J,js,d6,x4,x5,x6,x7,x8,x9,a4,rfl,a7,b0,s6⟩;simp_arith[sEx,aL,aU,aK,JoE];exact⟨js,d6,rfl,a7,by omega,s6.le (by omega)⟩
def Tw(n:Int)(m:Mk)(ns:List Str)(q:D×List D):Prop:=∃(a b:Str)(d':D),q=(.tup [.str a,.str b],[d',.lst m (ns.map D.str)])/\a∈ns++[("lone":Str)]/\b∈ns++[("lone":Str)]/\Sd (n+3) d'
theorem VN(hd:Sd n d)(I:n<900000)(Z:ns.length<=1000):Wp (fX [d,.lst .frz (ns.map D.str)]) (Tw n .frz ns):=by
 have e5:List.map D.str ns++[D.str "lone"]=(ns++[("lone":Str)]).map D.str:=by simp
 have J:∀m:Mk,view false (.lst m (ns.map D.str))= .lst (mkV false m) (ns.map D.str):=λm=>by simp[view,cu]
 simp_arith![fX,fnI];generalize a0:ns++[("lone":Str)]=ns2 at e5;have z:ns2.length=ns.length+1:=by rw[←a0];simp
 refine aY (λρ=>ρ=[some d,some (.lst .frz (ns.map D.str)),some (.lst .own (ns2.map D.str)),none,none]) (λQ q=>?_) ?_
 .simp_arith[sEx,aL,aU,aK,bL,dM,cu]
  rw[e5];refine⟨?_,⟨cR _,cB _⟩,q _ rfl⟩;omega
 rintro _ rfl;refine aY (λρ=>∃(a:Str)(d':D),a∈ns2/\Sd (n+1) d'/\ρ=[some d',some (.lst .frz (ns.map D.str)),some (.lst .own (ns2.map D.str)),some (.str a),none]) (λQ q=>?_) ?_
 .simp_arith[sEx,aL,aU,aK,cL,cu]
  refine dB hd (by omega) (by omega) (by omega) λr8 V p8 O F=>?_;obtain⟨a,Y,_,a1⟩:=mF (f:=D.str) (l:=ns2) p8 O;have B:gIx (D.lst Mk.brw (List.map D.str ns2)) (D.int r8)=some (D.str a):=a1;simp_arith[sEx,aL,aU,aK,B,cB];exact q _ ⟨a,V,Y,F,rfl⟩
 rintro _ ⟨a,V,Y,F,rfl⟩;refine aY (λρ=>∃(b:Str)(d':D),b∈ns2/\Sd (n+2) d'/\ρ=[some d',some (.lst .frz (ns.map D.str)),some (.lst .own (ns2.map D.str)),some (.str a),some (.str b)]) (λQ q=>?_) ?_
 .simp_arith[sEx,aL,aU,aK,cL,cu]
  refine dB F (by omega) (by omega) (by omega) λr8 V p8 O F=>?_;obtain⟨a,Y,_,a1⟩:=mF (f:=D.str) (l:=ns2) p8 O;have B:gIx (D.lst Mk.brw (List.map D.str ns2)) (D.int r8)=some (D.str a):=a1;simp_arith[sEx,aL,aU,aK,B,cB];exact q _ ⟨a,V,Y,F.le (by omega),rfl⟩
 rintro _ ⟨b,d9,U,s9,rfl⟩;simp_arith[sEx,aL,aU,aK,bL];refine dB s9 (by omega) (by omega) (by omega) λr8 V p8 O F=>?_;simp_arith[sEx,aL,aU,aK,eq_int,Bx];rw[←a0]at Y U;by_cases h8:r8=0
 .simp_arith[h8,gIx,atI,ixN,sEx,aL,aU,aK,bB]
  exact⟨a,a,V,rfl,Y,Y,F.le (by omega)⟩
 .simp_arith[h8,gIx,atI,ixN,sEx,aL,aU,aK,bB]
  exact⟨a,b,V,rfl,Y,U,F.le (by omega)⟩
abbrev Pt:=Int×Int
def ptD(p:Pt):D:=.tup [.int p.1,.int p.2]
theorem xx(l:List Pt):aC (l.map ptD)=true:=fD λd hd=>by obtain⟨x,_,rfl⟩:=List.mem_map.mp hd;rfl
theorem xP(l:List Pt):aD (l.map ptD)=true:=fj λd hd=>by obtain⟨x,_,rfl⟩:=List.mem_map.mp hd;rfl
theorem W6(b:Bool)(l:List Pt):fU b (l.map ptD)=l.map ptD:=by rw[jh,Yq];rfl
theorem Ww(l:List Pt):fzL (l.map ptD)=l.map ptD:=by rw[lq,Yq];rfl
theorem Dd(l:List Pt):iQ (l.map ptD)=l.map ptD:=by rw[nM,Yq];rfl
structure JJ(J:D)(js:List Jt):Prop where
 f:fz J=J
 v:∀b,view b J=J
 b:aA J=true
 o:az J=true
 l:cL [J]=some (.int js.length)
 x:∀i,gIx J (.int i)=atI (js.map jD) i
 s:gU J=some (true,js.map jD)
 e:itE (λ_=>some [J]) []=some (true,jO 0 (js.map jD))
theorem JJ.lst(js:List Jt):JJ (.lst .frz (js.map jD)) js:=⟨by simp[fz,mR,mkF],λb=>by cases b<;>simp[view,mO,mkV],by simp[aA,mK],by simp[az,kZ],by simp[cL],λ_=>rfl,by simp[gU,clean,aA,az,mK,kZ,B_],by simp[itE,gU,clean,aA,az,mK,kZ,B_]⟩
theorem JJ.tup(js:List Jt):JJ (.tup (js.map jD)) js:=⟨by simp[fz,mR],λb=>by simp[view,mO],by simp[aA,mK],by simp[az,kZ],by simp[cL],λ_=>rfl,by simp[gU,clean,aA,az,mK,kZ,B_],by simp[itE,gU,clean,aA,az,mK,kZ,B_]⟩
abbrev Tt:=Int×Int×Str
theorem pY[DecidableEq α]:∀{ks ns:List α},ks.Nodup->(∀k∈ks,k∈ns)->ks.length<=ns.length
 |[],_,_,_=>aaV _
 |k::r,ns,h,hs=>by
  have z:=hs k (.head _);have h1:=pY (ks:=r) (ns:=ns.erase k) (Yy.mp h).2 λx B=>(List.mem_erase_of_ne (show x≠k from λe=>(Yy.mp h).1 (by rw[←e];exact B))).mpr (hs x (.tail _ B));rw[List.length_erase_of_mem z]at h1;have:=List.length_pos_of_mem z;simp![Yd];omega
theorem kI:(dU (ys.map Yl) (Yl x)).isSome=decide (x∈ys):=by
 cases e:dU (ys.map Yl) (Yl x)with
 |none=>
  unfold dU at e;rw[Zg]at e;refine(YL λh=>?_).symm;have:=e (Yl x) (acX.mpr ⟨x,h,rfl⟩);simp at this
 |some j=>
  obtain⟨Z,J,_⟩:=Zc.mp e;have h2:(ys.map (Yl:Str->Key))[j]=Yl x:=by simpa using J
  have V:Yl x∈ys.map (Yl:Str->Key):=h2▸aao Z;obtain⟨y,I,F⟩:=List.mem_map.mp V;cases F;exact(ZR I).symm
def upF(f:Str->List Tt)(x:Str)(t:Tt):Str->List Tt:=λy=>if y=x then f y++[t]else f y
theorem jt(B:x∈ns):∃i,dU (ns.map Yl) (Yl x)=some i/\ns[i]? =some x/\i<ns.length:=by
 have h:=kI (ys:=ns) (x:=x);rw[ZR B]at h;obtain⟨i,hi⟩:=acR.mp h;obtain⟨Z,J,_⟩:=Zc.mp hi;have F:i<ns.length:=by simpa using Z
 refine⟨i,hi,?_,F⟩;rw[X5 F];simpa using J
theorem Kc{g g':Str->α}{i:Nat}{a:α}(I:ns.Nodup)(hi:ns[i]? =some x)(Y:g' x=a)(B:∀y,y≠x->g' y=g y):(ns.map g).set i a=ns.map g':=by
 apply aay;intro k;rw[aai];have D:i<ns.length:=(List.getElem?_eq_some_iff.mp hi).1;by_cases e:i=k
 .subst e
  rw[Yi rfl,Yi (by simpa using D),List.getElem?_map,hi,←Y];rfl
 .rw[YB e,List.getElem?_map,List.getElem?_map]
  cases J:ns[k]? with
  |none=>rfl
  |some y=>
   have q:y≠x:=λz=>by
    rw[z]at J;obtain⟨h1,h2⟩:=List.getElem?_eq_some_iff.mp hi;obtain⟨V,F⟩:=List.getElem?_eq_some_iff.mp J;exact e ((acP I).mp (h2.trans F.symm))
   simp[B y q]
variable{f:Str->List Tt}{t:Tt}
theorem zW:(upF f x t y).length<=(f y).length+1:=by unfold upF;split<;>simp
theorem uV{c:En->Option (Bool×En)}{Q:Fl->Prop}(I:Nat->En->Prop)(z:Nat)(O:∀p ρ,I p ρ->Wp (c ρ) λb=>if b.1=true then(p<z/\Wp (body b.2) λr=>match r with
   |.nx ρ2=>I (p+1) ρ2
   |.cnt ρ2=>I (p+1) ρ2
   |.brk ρ2=>Q (.nx ρ2)
   |.ret d ρ2=>Q (.ret d ρ2))else Q (.nx b.2)):∀(q p:Nat)(ρ:En),I p ρ->z-p<q->Wp (km c body q ρ) Q
 |0,p,ρ,_,h=>by omega
 |q+1,p,ρ,hI,h=>by
  obtain⟨⟨b,ρ1⟩,e1,w⟩:=O p ρ hI;rw[km,e1,gD];cases b with
  |false=>
   simp![Zb,aaa]at w⊢;exact aH.mpr w
  |true=>
   simp![Yx]at w⊢;obtain⟨B,r,e2,w⟩:=w;rw[e2];cases r with
   |nx ρ2=>exact uV I z O q (p+1) ρ2 w (by omega)
   |cnt ρ2=>exact uV I z O q (p+1) ρ2 w (by omega)
   |brk ρ2=>exact aH.mpr w
   |ret d ρ2=>exact aH.mpr w
abbrev Uw:=Str×List Pt
def pT(ps:List Pt):D:=.tup (ps.map ptD)
def wM(m:Mk)(us:List Uw):D:=.dct m ((us.map (·.1)).map Yl) (us.map λu=>pT u.2)
theorem iG(ps:List Pt):aA (pT ps)=true/\az (pT ps)=true/\(∀b,view b (pT ps)=pT ps)/\fz (pT ps)=pT ps/\fzo (pT ps)=pT ps:=by
 refine⟨?_,?_,λb=>?_,?_,?_⟩<;>simp[pT,aA,az,xx,xP,view,W6,fz,Ww,fzo,Dd]
theorem CK(b:Bool)(us:List Uw):fU b (us.map λu=>pT u.2)=us.map λu=>pT u.2:=by
 rw[jh,Yq];exact ZV λu _=>(iG u.2).2.2.1 b
theorem Vu(us:List Uw):fzL (us.map λu=>pT u.2)=us.map λu=>pT u.2:=by
 rw[lq,Yq];exact ZV λu _=>(iG u.2).2.2.2.1
theorem Vn(us:List Uw):aC (us.map λu=>pT u.2)=true:=fD λd hd=>by obtain⟨u,_,rfl⟩:=List.mem_map.mp hd;exact(iG u.2).1
theorem V4(us:List Uw):aD (us.map λu=>pT u.2)=true:=fj λd hd=>by obtain⟨u,_,rfl⟩:=List.mem_map.mp hd;exact(iG u.2).2.1
variable{us:List Uw}
theorem Qh:view false (wM .own us)=wM .brw us:=by simp![wM,view,CK];rfl
theorem Vt:view false (wM .frz us)=wM .frz us:=by simp![wM,view,CK];rfl
theorem VL(h:m≠.scr):fz (wM m us)=wM .frz us:=by
 simp![wM,fz,Vu];cases m<;>first|rfl|exact absurd rfl h
theorem Q3(h:m= .own∨m= .frz):aA (wM m us)=true/\az (wM m us)=true:=by
 rcases h with rfl|rfl<;>simp[wM,aA,az,Vn,V4]
theorem Gg:e_ (.str x) (wM m us)=some (.bl (!decide (x∈us.map (·.1)))):=by
 simp![e_,wM,qN,dG,YM,kI]
theorem Rr(B:x∈us.map (·.1)):∃ps,(x,ps)∈us/\gIx (wM m us) (.str x)=some (pT ps):=by
 obtain⟨i,h1,h2,V⟩:=jt B;rw[List.getElem?_map]at h2;cases e:us[i]? with
 |none=>simp[e]at h2
 |some u=>
  have e2:u.1=x:=by simpa[e]using h2
  refine⟨u.2,e2▸YD e,?_⟩;simp![gIx,wM,dG,gD,h1,List.getElem?_map,e,YM]
variable{ps:List Pt}
theorem U4(B:x∉us.map (·.1))(Z:us.length<1000000):cX (wM .own us) [.str x,pT ps]=some (wM .own (us++[(x,ps)]),.non):=by
 have h1:dU ((us.map (·.1)).map Yl) (Yl x)=none:=by
  cases e:dU ((us.map (·.1)).map Yl) (Yl x)with
  |none=>rfl
  |some j=>have:=kI (ys:=us.map (·.1)) (x:=x);rw[e]at this;exact absurd (of_decide_eq_true this.symm) B
 simp![cX,wM,dG,gD,X_,Z,Yx,gO,h1,Zi,X8,YF]
def ky(us:List Uw):List Str:=us.map (·.1)
theorem z_(us:List Uw):(ky us).length=us.length:=by simp[ky]
theorem Vd(us:List Uw)(u:Uw):ky (us++[u])=ky us++[u.1]:=by simp[ky]
theorem call_of{F:List D->Option D}(h:F (fzL ds)=some d)(J:dh d=true):aX F ds=some d:=by
 unfold aX;rw[h,gD,J,Bool.or_true,Yi rfl]
def pr2(t:Tt):Pt:=(t.1,t.2.1)
def Pr(n:Nat)(p:Pt):Prop:=(0<=p.1/\p.1<n)/\(p.2=1∨p.2= -1)
def Gt(ns:List Str)(n:Nat)(t:Tt):Prop:=t.2.2∈ns/\Pr n (pr2 t)
def Gu(ns:List Str)(n d:Nat)(u:Uw):Prop:=u.1∈ns/\u.2.length<=d/\∀p∈u.2,Pr n p
structure By(ns:List Str)(k:Nat)(fs hs:List Uw)(d:Nat):Prop where
 n:(ky fs).Nodup
 w:∀u∈fs,Gu ns k d u
 e:∀u∈hs,Gu ns k d u
 z:hs≠[]->d<fs.length
structure Bz(ns:List Str)(k:Nat)(fs gs:List Uw)(d:Nat):Prop where
 n:(ky gs).Nodup
 f:∀u∈gs,u.1∉ky fs/\Gu ns k (d+1) u
def Er(gs:List Uw)(x:Str)(w:List Pt):List Uw:=gs.map λu=>if u.1=x then(u.1,w)else u
variable{gs:List Uw}
theorem Gw{w:List Pt}:ky (Er gs x w)=ky gs:=by
 unfold ky Er;rw[Yq];refine ZV λu _=>?_;simp![aaj];split<;>rfl
theorem LK{n d:Nat}(h1:(ky us).Nodup)(h2:∀u∈us,Gu ns n d u):us.length<=ns.length:=by
 have:=pY h1 (ns:=ns) λy I=>by
  obtain⟨u,F,rfl⟩:=List.mem_map.mp I;exact(h2 u F).1
 rwa[z_]at this
theorem By.next{n:Nat}{fs O:List Uw}{d:Nat}(a:By ns n fs O d)(b:Bz ns n fs gs d)(q:O≠[]):By ns n (fs++gs) gs (d+1)where
 n:=by
  unfold ky;rw[Zi,Yr];refine⟨a.n,b.n,λy I z hz e=>?_⟩;subst e;obtain⟨u,F,rfl⟩:=List.mem_map.mp hz;exact(b.f u F).1 I
 w:=λu F=>by
  rcases List.mem_append.mp F with z|z
  .obtain⟨h1,h2,h3⟩:=a.w u z
   exact⟨h1,by omega,h3⟩
  .exact(b.f u z).2
 e:=λu F=>(b.f u F).2
 z:=λB=>by
  have h1:=a.z q;have h2:0<gs.length:=ad7.mpr B;rw[YW];omega
def bD(t:Tt):D:=.tup [.tup [.int t.1,.int t.2.1],.str t.2.2]
theorem Rx(l:List Tt):aC (l.map bD)=true:=fD λd hd=>by obtain⟨x,_,rfl⟩:=List.mem_map.mp hd;rfl
theorem Rj(l:List Tt):aD (l.map bD)=true:=fj λd hd=>by obtain⟨x,_,rfl⟩:=List.mem_map.mp hd;rfl
theorem WN(b:Bool)(l:List Tt):fU b (l.map bD)=l.map bD:=by rw[jh,Yq];rfl
theorem Wf(l:List Tt):fzL (l.map bD)=l.map bD:=by rw[lq,Yq];rfl
theorem VH(l:List Tt):iQ (l.map bD)=l.map bD:=by rw[nM,Yq];rfl
def cT(m B:Mk)(ks:List Str)(f:Str->List Tt):D:=.dct m (ks.map Yl) (ks.map λy=>.lst B ((f y).map bD))
structure Bes(ks:List Str)(f:Str->List Tt):Prop where
 n:ks.Nodup
 e:∀y,y∉ks->f y=[]
variable{ρ:En}
theorem Rn{fa fx:En->Option (List D)}(U:Bes ks f)(Z:ks.length<1000000)(a5:(f x).length<1000000)(h1:ρ[1]? =some (some (cT .own .own ks f)))(Y:fa ρ=some [.str x,.lst .own []])(B:∀d,fx (ρ.set 1 d)=some [bD t]) :
  ∃a1,a1.length<=ks.length+1/\Bes a1 (upF f x t)/\Du 1 fa fx ρ=some (.nx (ρ.set 1 (some (cT .own .own a1 (upF f x t))))):=by
 have a4:1<ρ.length:=(List.getElem?_eq_some_iff.mp h1).1;have a0:aC [bD t]=true/\aD [bD t]=true:=⟨rfl,rfl⟩;have a3:ρ.set 1 (some (cT .own .own ks f))=ρ:=by
  refine aay λi=>?_;rw[aai];split
  .rename_i e;subst e;first|rw[h1]|rw[Yi a4,h1]
  .rfl
 by_cases J:x∈ks
 .obtain⟨i,h2,V,h4⟩:=jt J
  refine⟨ks,by omega,⟨U.n,λy I=>by rw[upF,YB (λz=>I (by rw[z];exact J))];exact U.e y I⟩,?_⟩;have e1:DR 1 fa ρ=some (i,ρ):=by
   unfold DR;rw[h1];simp![cT,Y,dG,X_,Yi Z,h2]
  have a8:fx ρ=some [bD t]:=by rw[←a3];exact B _
  have q:gV [i] (cT .own .own ks f)=some (.lst .own ((f x).map bD)):=by
   simp![gV,kids,cT,List.getElem?_map,V,YM,gD]
  have F:cJ (.lst .own ((f x).map bD)) [bD t]=some (.lst .own ((f x++[t]).map bD),.non):=by
   simp[cJ,a5]
  have g3:gA [i] (.lst .own ((f x++[t]).map bD)) (cT .own .own ks f)=cT .own .own ks (upF f x t):=by
   have O:=Kc (g:=λy=>D.lst .own ((f y).map bD)) (g':=λy=>D.lst .own ((upF f x t y).map bD)) (a:=.lst .own ((f x++[t]).map bD)) U.n V (by simp[upF]) (λy I=>by simp[upF,I]);have a2:(ks.map λy=>D.lst .own ((f y).map bD))[i]? =some (.lst .own ((f x).map bD)):=by rw[List.getElem?_map,V];rfl
   rw[gA];simp![kids,cT,a2,gA,CV];rw[O]
  unfold Du;rw[e1,gD,a8,gD];unfold upS;simp![h1,q,gD,a0.1,a0.2,and_self,Yx,F,YM,g3]
 .have h2:dU (ks.map Yl) (Yl x:Key)=none:=by
   unfold dU;rw[Zg];intro y I;obtain⟨z,hz,rfl⟩:=List.mem_map.mp I;exact YL λe=>J (by cases e;exact hz)
  have a7:=U.e x J;refine⟨ks++[x],by simp,⟨?_,λy I=>?_⟩,?_⟩
  .rw[Yr]
   exact⟨U.n,by simp,λy I z hz e=>J (by rw[List.mem_singleton.mp hz]at e;rw[←e];exact I)⟩
  .rw[upF,YB (λz=>I (by rw[z];simp))]
   exact U.e y λz=>I (Ye _ z)
  have e0:D.dct .own (ks.map Yl++[Yl x]) ((ks.map λy=>D.lst .own ((f y).map bD))++[.lst .own []])=cT .own .own (ks++[x]) f:=by
   simp[cT,a7]
  have e1:DR 1 fa ρ=some (ks.length,ρ.set 1 (some (cT .own .own (ks++[x]) f))):=by
   unfold DR;rw[h1];simp![cT,Y,dG,X_,Yi Z,h2];rw[e0];rfl
  have V:(ks++[x])[ks.length]? =some x:=by simp
  have a6:(ks++[x]).Nodup:=by
   rw[Yr];exact⟨U.n,by simp,λy I z hz e=>J (by rw[List.mem_singleton.mp hz]at e;rw[←e];exact I)⟩
  have q:gV [ks.length] (cT .own .own (ks++[x]) f)=some (.lst .own ((f x).map bD)):=by
   simp![gV,kids,cT,List.getElem?_map,V,YM,gD]
  have F:cJ (.lst .own ((f x).map bD)) [bD t]=some (.lst .own ((f x++[t]).map bD),.non):=by
   simp[cJ,a5]
  have g3:gA [ks.length] (.lst .own ((f x++[t]).map bD)) (cT .own .own (ks++[x]) f)=cT .own .own (ks++[x]) (upF f x t):=by
   have O:=Kc (g:=λy=>D.lst .own ((f y).map bD)) (g':=λy=>D.lst .own ((upF f x t y).map bD)) (a:=.lst .own ((f x++[t]).map bD)) a6 V (by simp[upF]) (λy I=>by simp[upF,I]);have a2:((ks++[x]).map λy=>D.lst .own ((f y).map bD))[ks.length]? =some (.lst .own ((f x).map bD)):=by rw[List.getElem?_map,V];rfl
   rw[gA];simp![kids,cT,a2,gA,CV];rw[O]
  unfold Du;rw[e1,gD,B,gD];unfold upS;simp![ZQ a4,q,gD,a0.1,a0.2,and_self,Yx,F,YM,g3,List.set_set]
def BeI(J:D)(ns:List Str)(n k:Nat)(ρ:En):Prop:=∃(ks:List Str)(f:Str->List Tt)(q x3 x4 x5:Option D),ρ=[some J,some (cT .own .own ks f),q,x3,x4,x5]/\Bes ks f/\ks.length<=2*k/\∀y,(f y).length<=2*k/\∀t∈f y,Gt ns n t
theorem Gr{u:Tt}(h:u∈upF f x t y):u∈f y∨u=t:=by
 unfold upF at h;split at h
 .simpa using h
 .exact .inl h
theorem FP{f:En->Option (List D)}(h:f ρ=some [.lst .frz (js.map jD)]):uA f ρ=some (true,jO 0 (js.map jD)):=by
 simp[uA,h,clean,aA,az,mK,kZ,B_]
theorem Lj(O:∀j∈js,j.1∈ns/\j.2.1∈ns)(Z:js.length<=1000):Wp (cV [.lst .frz (js.map jD)]) λd=>∃ks f,d=cT .own .own ks f/\Bes ks f/\∀y,∀t∈f y,Gt ns js.length t:=by
 have hJ:=(JJ.lst js).v;have hE:=λf ρ=>FP (js:=js) (f:=f) (ρ:=ρ);generalize D.lst .frz (js.map jD)=J at hJ hE⊢;simp_arith![cV,fnP];refine aY (BeI J ns js.length 0) (λQ q=>?_) ?_
 .simp_arith[sEx,aL,aU,aK,uy]
  exact q _ ⟨[],λ_=>[],_,_,_,_,rfl,⟨by simp,λy _=>rfl⟩,by simp,by simp⟩
 rintro _ ⟨ks,f,y2,y3,y4,y5,rfl,U,hk,Y⟩;refine aY (BeI J ns js.length js.length) (λQ q=>?_) ?_
 .unfold iV
  rw[hE (ao (ak false 0) aB) _ (by simp[ak,ao,aB,hJ])];simp![aN,aH];refine iB (BeI J ns js.length) ⟨ks,f,y2,y3,y4,y5,rfl,U,hk,Y⟩ ?_ (λρ h=>q _ (by rw[lV]at h;simpa using h));rintro k d ρ hk ⟨ks,f,x2,x3,x4,x5,rfl,U,a6,Y⟩;rw[jY,List.getElem?_map]at hk;cases F:js[k]? with
  |none=>simp[F]at hk
  |some j=>
   obtain rfl:D.tup [.int (k:Int),jD j]=d:=by simpa[F]using hk
   have a5:k<js.length:=(List.getElem?_eq_some_iff.mp F).1;have I:=O j (YD F);simp[jD,tgT,aP,bM,tgN,aC,aD,clean,aA,az,aH];have a1:=(Y j.1).1;have a2:=(Y j.2.1).1;obtain⟨a4,c1,B,c3⟩:=Rn (t:=((k:Int),1,j.2.1)) (x:=j.1) (ρ:=[some J,some (cT .own .own ks f),some (.int k),some (.str j.1),some (.str j.2.1),some (.int j.2.2)]) (fa:=ao (ak false 3) (ao (eAp bL aB) aB)) (fx:=ao (eAp bB (ao (eAp bB (ao (ak false 2) (ao (eC (.int 1)) aB))) (ao (ak false 4) aB))) aB) U (by omega) (by omega) rfl rfl (λd=>rfl);have a3:=zW (f:=f) (x:=j.1) (y:=j.2.1) (t:=((k:Int),1,j.2.1));obtain⟨a0,d1,d2,V⟩:=Rn (t:=((k:Int),-1,j.1)) (x:=j.2.1) (ρ:=[some J,some (cT .own .own a4 (upF f j.1 ((k:Int),1,j.2.1))),some (.int k),some (.str j.1),some (.str j.2.1),some (.int j.2.2)]) (fa:=ao (ak false 4) (ao (eAp bL aB) aB)) (fx:=ao (eAp bB (ao (eAp bB (ao (ak false 2) (ao (e1 fW (eC (.int 1))) aB))) (ao (ak false 3) aB))) aB) B (by omega) (by omega) rfl rfl (λd=>rfl);rw[vC,c3,aH];simp![YH,YQ];rw[V,aH];simp![YH,YQ];refine⟨a0,_,_,_,_,_,rfl,d2,by omega,λy=>⟨?_,λt ht=>?_⟩⟩
   .have b1:=zW (f:=f) (x:=j.1) (y:=y) (t:=((k:Int),1,j.2.1))
    have b2:=zW (f:=upF f j.1 ((k:Int),1,j.2.1)) (x:=j.2.1) (y:=y) (t:=((k:Int),-1,j.1));have:=(Y y).1;omega
   .have hr:(0:Int)<=k/\(k:Int)<js.length:=by omega
    rcases Gr ht with z|rfl
    .rcases Gr z with z|rfl
     .exact(Y y).2 t z
     .exact⟨I.2,hr,.inl rfl⟩
    .exact⟨I.1,hr,.inr rfl⟩
 rintro _ ⟨ks,f,x2,x3,x4,x5,rfl,U,_,Y⟩;simp[jF,aH];exact⟨ks,f,rfl,U,λy _ _ _ h=>(Y y).2 _ h⟩
theorem lO:∀ds:List D,p_ ds=ds.map toS
 |[]=>rfl
 |d::r=>by rw[p_,lO r];rfl
theorem Sy(ps:List Pt):toS (pT ps)=pT ps:=by
 simp![pT,toS,lO,Yq];congr 1
theorem Tq(us:List Uw):p_ (us.map λu=>pT u.2)=us.map λu=>pT u.2:=by
 rw[lO,Yq];exact ZV λu _=>Sy u.2
theorem RM:toS (wM m us)=wM (mkS m) us:=by simp![wM,toS,Tq]
theorem Oh{B:Mk}:toS (cT m B ks f)=cT (mkS m) B ks f:=by
 simp![cT,toS,lO,Yq];congr 1;refine ZV λy _=>?_;simp![aaj,toS,lO,Yq];congr 1
theorem V_(js:List Jt):toS (.lst .frz (js.map jD))= .lst .frz (js.map jD):=by
 simp![toS,lO,Yq];congr 1
theorem Nz{B:Mk}:fz (cT m B ks f)=cT (mkF m) (mkF B) ks f:=by
 simp![cT,fz,lq,Yq];congr 1;refine ZV λy _=>?_;simp![aaj,fz,Wf]
theorem Xb(V:mkV false m=m):view false (cT m .frz ks f)=cT m .frz ks f:=by
 simp![cT,view,jh,Yq,V];congr 1;refine ZV λy _=>?_;simp![aaj,view,WN];rfl
theorem Vp:view false (wM .scr us)=wM .scr us:=by simp![wM,view,CK];rfl
theorem Oj(U:Bes ks f)(x:Str):∃q,(q= .frz∨q= .own)/\ou (cT m .frz ks f) [.str x,.lst .own []]=some (.lst q ((f x).map bD)):=by
 by_cases B:x∈ks
 .obtain⟨i,h1,h2,h3⟩:=jt B
  exact⟨.frz,.inl rfl,by simp![ou,cT,dG,gD,h1,List.getElem?_map,h2,YM]⟩
 .have h2:dU (ks.map Yl) (Yl x:Key)=none:=by
   unfold dU;rw[Zg];intro y I;obtain⟨z,hz,rfl⟩:=List.mem_map.mp I;exact YL λe=>B (by cases e;exact hz)
  exact⟨.own,.inr rfl,by simp![ou,cT,dG,gD,h2,U.e x B,YF]⟩
theorem N7:∀ps:List Pt,(ps.map ptD).mapM prD=some ps
 |[]=>rfl
 |p::r=>by rw[X8,adz,N7 r];rfl
theorem Rf(a b:List Pt):wR (pT a) (pT b)=some (.bl (ltP a b)):=by
 simp![wR,pT,N7]
theorem RB:Ku (wM m us) (.dct .own [] [])=some (.bl (us.length !=0)):=by
 simp![Ku,wM,X_]
theorem QZ{w:List Pt}(I:(ky gs).Nodup)(B:x∈ky gs)(Z:gs.length<1000000):cX (wM .own gs) [.str x,pT w]=some (wM .own (Er gs x w),.non):=by
 obtain⟨i,h1,h2,V⟩:=jt B;have a0:dU ((gs.map (·.1)).map Yl) (Yl x)=some i:=h1;have F:(gs.map λu=>pT u.2).set i (pT w)=(Er gs x w).map λu=>pT u.2:=by
  apply aay;intro k;rw[aai,Er,List.getElem?_map,List.getElem?_map,List.getElem?_map];rw[z_]at V;rw[ky,List.getElem?_map]at h2;by_cases e:i=k
  .subst e
   rw[Yi rfl,Yi (by simpa using V)];rw[X5 V]at h2⊢;have:gs[i].1=x:=by simpa using h2
   simp[this]
  .rw[YB e]
   cases J:gs[k]? with
   |none=>rfl
   |some u=>
    have q:u.1≠x:=λz=>by
     obtain⟨Y,U⟩:=List.getElem?_eq_some_iff.mp J;rw[X5 V]at h2;have D:gs[i].1=x:=by simpa using h2
     have O:(ky gs)[i]'(by rw[z_];exact V)=(ky gs)[k]'(by rw[z_];exact Y):=by
      simp![ky,aeO,D,U,z]
     exact e ((acP I).mp O)
    simp[q]
 have Y:((Er gs x w).map (·.1)).map (Yl:Str->Key)=(gs.map (·.1)).map Yl:=by
  have:=Gw (gs:=gs) (x:=x) (w:=w);unfold ky at this;rw[this]
 simp![cX,wM,dG,gD,X_,Z,Yx,gO,a0,F,Y]
theorem xG:∀(gs fs:List Uw),(ky (fs++gs)).Nodup->di ((fs.map (·.1)).map Yl) (fs.map λu=>pT u.2) (((gs.map (·.1)).map Yl).zip (gs.map λu=>pT u.2))=(((fs++gs).map (·.1)).map Yl,(fs++gs).map λu=>pT u.2)
 |[],fs,_=>by simp[di]
 |g::r,fs,hn=>by
  have q:dU ((fs.map (·.1)).map Yl) (Yl g.1:Key)=none:=by
   unfold dU;rw[Zg];intro y I;obtain⟨z,hz,rfl⟩:=List.mem_map.mp I;refine YL λe=>?_;cases e;unfold ky at hn;rw[Zi,Yr]at hn;exact hn.2.2 _ hz _ (by simp) rfl
  have J:=xG r (fs++[g]) (by rw[aah];exact hn);rw[aah]at J;simp![X8,aen,di,gO,q];have e1:((fs++[g]).map (·.1)).map (Yl:Str->Key)=(fs.map (·.1)).map Yl++[Yl g.1]:=by simp
  have e2:((fs++[g]).map λu=>pT u.2)=(fs.map λu=>pT u.2)++[pT g.2]:=by simp
  rw[e1,e2]at J;rw[J];rfl
theorem UJ{fs:List Uw}(I:(ky (fs++gs)).Nodup)(Z:fs.length+gs.length<=50000):fY (wM .own fs) [wM .frz gs]=some (wM .own (fs++gs),.non):=by
 simp![fY,wM,X_];rw[Yi ⟨rfl,Z⟩,xG gs fs I]
section
variable{js:List Jt}{ns ks:List Str}{h:Str}{ad:Str->List Tt}
def LwE(js:List Jt)(h:Str)(B:D)(fs:List Uw)(m:Mk)(O:List Uw)(x5 x6 Y U q:Option D):En:=[some (.lst .frz (js.map jD)),some (.str h),some B,some (wM .own fs),some (wM m O),x5,x6,Y,U,q]
def LwI(js:List Jt)(ns ks:List Str)(h:Str)(ad:Str->List Tt)(d:Nat)(ρ:En):Prop:=∃(B:D)(m:Mk)(fs O:List Uw)(x5 x6 Y U q:Option D),ρ=LwE js h B fs m O x5 x6 Y U q/\(B=cT .own .own ks ad∨B=cT .scr .frz ks ad)/\(m= .own∨m= .frz)/\By ns js.length fs O d/\d<=ns.length
def LwJ(js:List Jt)(ns ks:List Str)(h:Str)(ad:Str->List Tt)(fs O:List Uw)(d:Nat)(ρ:En):Prop:=∃(gs:List Uw)(x6 Y U q:Option D),ρ=LwE js h (cT .scr .frz ks ad) fs .scr O (some (wM .own gs)) x6 Y U q/\Bz ns js.length fs gs d
def LwK(js:List Jt)(ns ks:List Str)(h:Str)(ad:Str->List Tt)(fs O:List Uw)(x:Str)(d:Nat)(ρ:En):Prop:=∃(gs:List Uw)(Y U q:Option D),ρ=LwE js h (cT .scr .frz ks ad) fs .scr O (some (wM .own gs)) (some (.str x)) Y U q/\Bz ns js.length fs gs d
theorem Pb{fs O:List Uw}{d:Nat}{x:Str}{t:Tt}(hd:By ns js.length fs O d)(Z:ns.length<=1000)(b1:d<=1000)(a6:x∈O.map (·.1))(ht:Gt ns js.length t){ρ:En}(a8:LwK js ns ks h ad fs O x d ρ){Q:Fl->Prop}(q:∀I,LwK js ns ks h ad fs O x d I->Q (.nx I)) :
  Wp (tgT 2 (aP (tgN 7) (aP (tgN 8) bM)) (bD t) ρ) λρ1=>Wp ((bc (bI (e2 dM (e2 gIx (ak false 4) (ak false 6)) (eAp bB (ao (ak false 7) aB))) (tgN 9))
  (sIf (lC (eB (e2 e_ (ak false 8) (ak false 3))) (eOr (eB (e2 e_ (ak false 8) (ak false 5))) (eB (e2 wR (ak false 9) (e2 gIx (ak false 5) (ak false 8)))))) (bI (ak false 9) (gh cX 5 (g_ 5) (ak false 8))) bY)) ρ1) Q:=by
 obtain⟨gs,Y,x8,x9,rfl,U⟩:=a8;have b2:gs.length<=ns.length:=LK U.n λu F=>(U.f u F).2;obtain⟨ps,a9,b0⟩:=Rr (m:=.scr) a6;obtain⟨_,g2,g3⟩:=hd.e _ a9;have a2:dM (pT ps) (.tup [.tup [.int t.1,.int t.2.1]])=some (pT (ps++[pr2 t])):=by
  simp only at g2;simp[pT,dM,ptD,pr2];omega
 have a3:Gu ns js.length (d+1) (t.2.2,ps++[pr2 t]):=⟨ht.1,by simpa using g2,λp hp=>(List.mem_append.mp hp).elim (g3 p) λz=>by rw[List.mem_singleton.mp z];exact ht.2⟩;obtain⟨w,V⟩:∃w,w=ps++[pr2 t]:=⟨_,rfl⟩;rw[←V]at a2 a3;have D:=iG w;simp![LwE,bD,tgT,aP,bM,tgN,aC,aD,clean,aA,az,aH,Yd,Yt,Zj,and_self,Yx,aN,YH,YQ,Nat.reduceAdd];refine aY (λρ=>ρ=LwE js h (cT .scr .frz ks ad) fs .scr O (some (wM .own gs)) (some (.str x)) (some (.tup [.int t.1,.int t.2.1])) (some (.str t.2.2)) (some (pT w))) (λQ q=>?_) ?_
 .simp[bI,e2,ak,Vp,view,fU,b0,eAp,ao,aB,bB,a2,aN,bR,aH,tgN,aC,aD,aA,az,D.1,D.2.1,clean]
  exact q _ rfl
 rintro _ rfl;by_cases J:t.2.2∈fs.map (·.1)
 .simp[LwE,sIf,lC,eB,e2,ak,Qh,view,Gg,isB,aN,aH,w_ite,J,bY]
  exact q _ ⟨gs,_,_,_,rfl,U⟩
 .have ni1:e_ (.str t.2.2) (wM .brw fs)=some (.bl true):=by rw[Gg,YL J];rfl
  by_cases B:t.2.2∈gs.map (·.1)
  .have ni2:e_ (.str t.2.2) (wM .brw gs)=some (.bl false):=by rw[Gg,ZR B];rfl
   obtain⟨w0,b3,a4⟩:=Rr (m:=.brw) B;have a0:=QZ (gs:=gs) (x:=t.2.2) (w:=w) U.n B (by omega);cases a5:ltP w w0 with
   |true=>
    have a1:wR (pT w) (pT w0)=some (.bl true):=by rw[Rf,a5]
    simp[LwE,sIf,lC,eOr,eB,e2,ak,Qh,view,fU,ni1,ni2,a4,D.2.2.1,a1,isB,aN,aH,w_ite,bI,gh,g_,upS,gV,gA,a0,aC,aD,aA,az,D.1,D.2.1,clean,bR];refine q _ ⟨Er gs t.2.2 w,_,_,_,rfl,by rw[Gw];exact U.n,λu F=>?_⟩;obtain⟨u0,a7,rfl⟩:=List.mem_map.mp F;split
    .rename_i e
     exact⟨by rw[e];exact J,by rw[e];exact a3⟩
    .exact U.f u0 a7
   |false=>
    have a1:wR (pT w) (pT w0)=some (.bl false):=by rw[Rf,a5]
    simp[LwE,sIf,lC,eOr,eB,e2,ak,Qh,view,fU,ni1,ni2,a4,D.2.2.1,a1,isB,aN,aH,w_ite,bY];exact q _ ⟨gs,_,_,_,rfl,U⟩
  .have ni2:e_ (.str t.2.2) (wM .brw gs)=some (.bl true):=by rw[Gg,YL B];rfl
   have a0:=U4 (us:=gs) (x:=t.2.2) (ps:=w) B (by omega);simp[LwE,sIf,lC,eOr,eB,e2,ak,Qh,view,fU,ni1,ni2,D.2.2.1,isB,aN,aH,w_ite,bI,gh,g_,upS,gV,gA,a0,aC,aD,aA,az,D.1,D.2.1,clean,bR];refine q _ ⟨gs++[(t.2.2,w)],_,_,_,rfl,?_,λu F=>(List.mem_append.mp F).elim (U.f u) λz=>by rw[List.mem_singleton.mp z];exact⟨J,a3⟩⟩;rw[Vd,Yr];exact⟨U.n,by simp,λy hy z hz e=>B (by rw[List.mem_singleton.mp hz]at e;rw[←show y=t.2.2 from e];exact hy)⟩
theorem Qn(U:Bes ks ad)(hB:cV [.lst .frz (js.map jD)]=some (cT .own .own ks ad))(hh:h∈ns)(c6:∀y,∀t∈ad y,Gt ns js.length t)(Z:ns.length<=1000):Wp (bN [.lst .frz (js.map jD),.str h]) λd=>∃us,d=wM .own us/\∀u∈us,Gu ns js.length ns.length u:=by
 have a4:uf [((Yl h:Key),D.tup [])]=some (wM .own [(h,[])]):=by
  unfold uf;rw[Yi (by simp)];rfl
 have c4:fz (.lst .frz (js.map jD))= .lst .frz (js.map jD):=by simp[fz,mR,mkF]
 have b4:dh (cT .own .own ks ad)=true:=by
  have V:∀l:List Tt,bO (l.map bD)=true:=by
   intro l
   induction l with
   |nil=>rfl
   |cons p r J=>rw[X8,bO,J];rfl
  have h4:∀l:List Str,bO (l.map λy=>D.lst .own ((ad y).map bD))=true:=by
   intro l
   induction l with
   |nil=>rfl
   |cons p r J=>rw[X8,bO,J];simp[dh,V]
  simp[cT,dh,h4]
 have b2:aA (cT .own .own ks ad)=true/\az (cT .own .own ks ad)=true:=by
  constructor
  .simp![cT,aA];rw[fD λd hd=>by obtain⟨y,_,rfl⟩:=List.mem_map.mp hd;simp[aA,Rx]];rfl
  .simp![cT,az];rw[fj λd hd=>by obtain⟨y,_,rfl⟩:=List.mem_map.mp hd;simp[az,Rj]];rfl
 have a8:aX cV [.lst .frz (js.map jD)]=some (cT .own .own ks ad):=call_of (by simpa[fzL,c4]using hB) b4;have c1:view false (.lst .frz (js.map jD))= .lst .frz (js.map jD):=by simp[view,mO,mkV]
 simp_arith![bN,fnP];refine aY (λρ=>ρ=[some (.lst .frz (js.map jD)),some (.str h),some (cT .own .own ks ad),none,none,none,none,none,none,none]) (λQ q=>?_) ?_
 .simp[bI,eAp,ao,aB,ak,c1,a8,aN,bR,aH,tgN,clean,b2.1,b2.2]
  exact q _ rfl
 rintro _ rfl;refine aY (λρ=>ρ=[some (.lst .frz (js.map jD)),some (.str h),some (cT .own .own ks ad),some (wM .own [(h,[])]),none,none,none,none,none,none]) (λQ q=>?_) ?_
 .simp_arith[sEx,aL,aU,aK,dM,jT,lL,wz,qR,FT,fW,gLt,gGt,gGe,gIx,bL,bB,cL,Om,Bx,Ga,gIs,ur,atI,ixN,cJ,cX,gSl,qW,jb,oF,jN,pL,dG,a4]
  exact⟨Q3 (.inl rfl),q _ rfl⟩
 rintro _ rfl;refine aY (λρ=>ρ=LwE js h (cT .own .own ks ad) [(h,[])] .own [(h,[])] none none none none none) (λQ q=>?_) ?_
 .simp_arith[sEx,aL,aU,aK,dM,jT,lL,wz,qR,FT,fW,gLt,gGt,gGe,gIx,bL,bB,cL,Om,Bx,Ga,gIs,ur,atI,ixN,cJ,cX,gSl,qW,jb,oF,jN,pL,dG,a4]
  exact⟨Q3 (.inl rfl),q _ rfl⟩
 rintro _ rfl;refine aY (λρ=>∃(B:D)(m:Mk)(fs:List Uw)(d:Nat)(x5 x6 Y x8 x9:Option D),ρ=LwE js h B fs m [] x5 x6 Y x8 x9/\(By ns js.length fs [] d/\d<=ns.length)) (λQ q=>?_) ?_
 .refine uV (LwI js ns ks h ad) ns.length ?_ 1000000 0 _ ⟨_,_,_,_,_,_,_,_,_,rfl,.inl rfl,.inl rfl,⟨by simp[ky],λu F=>by rw[List.mem_singleton.mp F];exact⟨hh,by simp,by simp⟩,λu F=>by rw[List.mem_singleton.mp F];exact⟨hh,by simp,by simp⟩,λ_=>by simp⟩,aaV _⟩ (by omega)
  rintro d ρ ⟨B,m,fs,O,x5,x6,Y,x8,x9,rfl,b6,hm,hd,a5⟩;have b0:view false (wM m O)=wM (mkV false m) O:=by simp![wM,view,CK]
  by_cases a2:O=[]
  .subst a2
   simp[LwE,uK,eB,e2,ak,b0,eAp,aB,uy,RB,isB,bR,aN,aH];exact q _ ⟨B,m,fs,d,x5,x6,Y,x8,x9,rfl,hd,a5⟩
  .have hlh:(O.length !=0)=true:=by simpa using a2
   have c8:fs.length<=ns.length:=LK hd.n hd.w;have c7:=hd.z a2;simp![LwE,uK,eB,e2,ak,b0,eAp,aB,uy,RB,hlh,isB,bR,aN,aH,Yn,Yo,gD,YM,Yx];refine⟨by omega,?_⟩;refine aY (λρ=>ρ=LwE js h B fs m O (some (wM .own [])) x6 Y x8 x9) (λQ q=>?_) ?_
   .simp[bI,eAp,aB,uy,bR,aN,aH,tgN,clean,aA,az,aC,aD]
    exact q _ rfl
   rintro _ rfl;refine aY (λρ=>∃(gs:List Uw)(x6 Y x8 x9:Option D),ρ=LwE js h (cT .scr .frz ks ad) fs .scr O (some (wM .own gs)) x6 Y x8 x9/\Bz ns js.length fs gs d) (λQ q=>?_) ?_
   .obtain⟨m2,hm2,hfB⟩:∃m2,(m2= .frz∨m2= .scr)/\fz B=cT m2 .frz ks ad:=by
     rcases b6 with rfl|rfl
     .exact⟨.frz,.inl rfl,by rw[Nz];rfl⟩
     .exact⟨.scr,.inr rfl,by rw[Nz];rfl⟩
    have b9:mkS m2= .scr:=by rcases hm2 with rfl|rfl<;>rfl
    have c5:fz (wM m O)=wM .frz O:=VL (by rcases hm with rfl|rfl<;>decide);simp![sFz,lw,LwE,Yn,Yo,gD,hfB,c5,YH,YQ];have c2:∀x:Str,∀y7 y8 y9 gs,itS (eMt ou (ak false 2) (ao (ak false 6) (ao (eAp bL aB) aB))) (LwE js h (cT .scr .frz ks ad) fs .scr O (some (wM .own gs)) (some (.str x)) y7 y8 y9)=some (true,(ad x).map bD):=λx y7 y8 y9 gs=>by
     obtain⟨m',c0,e⟩:=Oj (m:=.scr) U x;simp![itS,eMt,ak,LwE,Yn,Yo,Xb (m:=.scr) rfl,ao,eAp,aB,bL,view,gD];refine(congrArg (λo=>Option.bind o gU) e).trans ?_;rcases c0 with rfl|rfl<;>simp[gU,clean,aA,az,Rx,Rj,VH]
    have b7:Wp (forL (tgN 6) (iV (itS (eMt ou (ak false 2) (ao (ak false 6) (ao (eAp bL aB) aB))))
      (tgT 2 (aP (tgN 7) (aP (tgN 8) bM)))
      (bc
       (bI (e2 dM (e2 gIx (ak false 4) (ak false 6)) (eAp bB (ao (ak false 7) aB))) (tgN 9))
       (sIf
        (lC (eB (e2 e_ (ak false 8) (ak false 3)))
         (eOr (eB (e2 e_ (ak false 8) (ak false 5)))
          (eB (e2 wR (ak false 9) (e2 gIx (ak false 5) (ak false 8))))))
        (bI (ak false 9) (gh cX 5 (g_ 5) (ak false 8))) bY))) ((ky O).map D.str) (LwE js h (cT .scr .frz ks ad) fs .scr O (some (wM .own [])) (x6.map toS) (Y.map toS) (x8.map toS) (x9.map toS))) λr=>∃I,r= .nx I/\LwJ js ns ks h ad fs O d I:=by
     refine iB (λ_=>LwJ js ns ks h ad fs O d) ⟨[],_,_,_,_,rfl,by simp[ky],by simp⟩ ?_ (λρ a9=>⟨ρ,rfl,a9⟩);rintro i dd ρ hi ⟨gs,y6,y7,y8,y9,rfl,a1⟩;rw[List.getElem?_map,ky,List.getElem?_map]at hi;cases a7:O[i]? with
     |none=>rw[a7]at hi;cases hi
     |some v=>
      obtain rfl:D.str v.1=dd:=by rw[a7]at hi;simpa using hi
      have c3:tgN 6 (.str v.1) (LwE js h (cT .scr .frz ks ad) fs .scr O (some (wM .own gs)) y6 y7 y8 y9)=some (LwE js h (cT .scr .frz ks ad) fs .scr O (some (wM .own gs)) (some (.str v.1)) y7 y8 y9):=rfl;rw[c3,aH];simp![iV,c2,aN,aH,Yx];refine iB (λ_=>LwK js ns ks h ad fs O v.1 d) ⟨gs,_,_,_,rfl,a1⟩ ?_ ?_
      .rintro k e ρ hk a9
       rw[List.getElem?_map]at hk;cases a6:(ad v.1)[k]? with
       |none=>rw[a6]at hk;cases hk
       |some t=>
        obtain rfl:bD t=e:=by rw[a6]at hk;simpa using hk
        exact Pb hd Z (by omega) (acX.mpr ⟨v,YD a7,rfl⟩) (c6 _ t (YD a6)) a9 (λI h=>h)
      .rintro ρ ⟨gs2,z7,z8,z9,rfl,hbz2⟩
       exact⟨gs2,_,_,_,_,rfl,hbz2⟩
    obtain⟨r,er,I,rfl,gs,y6,y7,y8,y9,rfl,a1⟩:=b7;have hD:xV 4 (tgN 6) (iV (itS (eMt ou (ak false 2) (ao (ak false 6) (ao (eAp bL aB) aB))))
      (tgT 2 (aP (tgN 7) (aP (tgN 8) bM)))
      (bc
       (bI (e2 dM (e2 gIx (ak false 4) (ak false 6)) (eAp bB (ao (ak false 7) aB))) (tgN 9))
       (sIf
        (lC (eB (e2 e_ (ak false 8) (ak false 3)))
         (eOr (eB (e2 e_ (ak false 8) (ak false 5)))
          (eB (e2 wR (ak false 9) (e2 gIx (ak false 5) (ak false 8))))))
        (bI (ak false 9) (gh cX 5 (g_ 5) (ak false 8))) bY))) [some (.lst .frz (js.map jD)),some (.str h),some (cT m2 .frz ks ad),some (wM .own fs),some (wM .frz O),some (wM .own []),x6,Y,x8,x9]=some (.nx (LwE js h (cT .scr .frz ks ad) fs .scr O (some (wM .own gs)) y6 y7 y8 y9)):=by
     have e1:([some (.lst .frz (js.map jD)),some (.str h),some (cT m2 .frz ks ad),some (wM .own fs),some (wM .frz O),some (wM .own []),x6,Y,x8,x9]:En).map (adQ toS)=LwE js h (cT .scr .frz ks ad) fs .scr O (some (wM .own [])) (x6.map toS) (Y.map toS) (x8.map toS) (x9.map toS):=by
      simp![X8,YF,YM,V_,Oh,b9,RM,LwE];rfl
     have e2:((O.map (·.1)).map (Yl:Str->Key)).map kD=(ky O).map D.str:=by rw[Yq];rfl
     have e3:=er;rw[←e1,←e2]at e3;unfold xV;simp![Yn,Yo,wM];simp![wM]at e3;rw[e3]
    rw[hD,aH];exact q _ ⟨gs,y6,y7,y8,y9,rfl,a1⟩
   rintro _ ⟨gs,y6,y7,y8,y9,rfl,a1⟩;have a0:=hd.next a1 a2;have b8:(fs++gs).length<=ns.length:=LK a0.n a0.w;have b3:=UJ a0.n (by rw[YW]at b8;omega);have b5:fz (wM .own gs)=wM .frz gs:=VL (by decide);have a3:=Q3 (us:=gs) (m:=.frz) (.inr rfl);have b1:view false (wM .frz gs)=wM .frz gs:=Vt;refine aY (λρ=>ρ=LwE js h (cT .scr .frz ks ad) (fs++gs) .scr O (some (wM .frz gs)) y6 y7 y8 y9) (λQ q=>?_) ?_
   .simp[LwE,sFz,lw,b5,v8,Il,g_,ao,aB,ak,b1,upS,gV,gA,b3,aC,aD,a3.1,a3.2,bR,aN,aH]
    exact q _ rfl
   rintro _ rfl;simp[LwE,bI,ak,b1,tgN,clean,a3.1,a3.2,bR,aN,aH];exact⟨_,.frz,fs++gs,gs,_,_,_,_,_,rfl,.inr rfl,.inr rfl,a0,by omega⟩
 rintro _ ⟨B,m,fs,d,x5,x6,Y,x8,x9,rfl,hd,a5⟩;simp[LwE,jF,aH];exact⟨fs,rfl,λx ps F=>let⟨h1,h2,V⟩:=hd.w (x,ps) F;⟨h1,Y4 h2 a5,V⟩⟩
end
theorem xZ{a:Bool}:gNe (.bl a) (.bl b)=some (.bl (!(a==b))):=by
 unfold gNe;rw[Yi ⟨rfl,rfl,.sc (.bl a b)⟩];simp[dt,eqD]
theorem Wo{a:Bool}:gEq (.bl a) (.bl b)=some (.bl (a==b)):=by
 unfold gEq;rw[Yi ⟨rfl,rfl,.sc (.bl a b)⟩];simp[dt,eqD]
variable{a b:Str}
theorem ne_str:gNe (.str a) (.str b)=some (.bl (!decide (a=b))):=by
 unfold gNe;rw[Yi ⟨rfl,rfl,.sc (.str a b)⟩];simp![dt,eqD,aaz,D.bl.injEq];rw[Z6];simp
theorem eq_str:gEq (.str a) (.str b)=some (.bl (decide (a=b))):=by
 unfold gEq;rw[Yi ⟨rfl,rfl,.sc (.str a b)⟩];simp![dt,eqD,aaz,D.bl.injEq];rw[Z6];simp
theorem ne_int{j:Int}:gNe (.int i) (.int j)=some (.bl (!decide (i=j))):=by
 unfold gNe;rw[Yi ⟨rfl,rfl,.sc (.int i j)⟩];simp[dt,eqD]
 try rfl
variable{f:En->Option (List D)}
theorem Xp{j:Int}(h:f ρ=some [.int j])(h1: -(2 ^ 62)<=j)(h2:j<2 ^ 62):rY f ρ=some (true,lD 0 j.toNat):=by
 unfold rY;rw[h,gD];exact Yi ⟨h1,h2⟩
theorem Fw{n:Nat}(h:f ρ=some [.int n])(I:n<=1000):rY f ρ=some (true,lD 0 n):=by
 have h1:(n:Int)<=1000:=by omega
 have:=Xp h (Int.le_trans (by decide) (Int.natCast_nonneg n)) (Int.lt_of_le_of_lt h1 (by decide));rwa[aaY]at this
def kT(m:Mk)(ks:List Str):D:=.dct m (ks.map Yl) (ks.map λ_=>.bl true)
theorem Hv(ks:List Str)(x:Str):gIn (.str x) (kT m ks)=some (.bl (decide (x∈ks))):=by
 simp![gIn,qN,kT,dG,YM];by_cases h:x∈ks
 .obtain⟨i,h1,_⟩:=jt h
  simp[h1,h]
 .rw[oU (by simpa using h)]
  simp[h]
def adK(ks:List Str)(x:Str):List Str:=if x∈ks then ks else ks++[x]
theorem Lb(Z:ks.length<1000000):cX (kT .own ks) [.str x,.bl true]=some (kT .own (adK ks x),.non):=by
 simp![cX,kT,dG,gD,X_,Yi Z,adK];by_cases h:x∈ks
 .obtain⟨i,h1,_⟩:=jt h
  have:(ks.map λ_=>D.bl true).set i (.bl true)=ks.map λ_=>D.bl true:=by
   apply aay;intro k;rw[aai];split
   .subst_vars
    split
    .rename_i h2
     rw[X5 h2,aeO]
    .rename_i h2
     rw[aac (by omega)]
   .rfl
  simp[gO,h1,h,this]
 .simp[gO,oU (ks:=ks.map Yl) (k:=Yl x) (by simpa using h),h]
theorem o6:y∈adK ks x↔y∈ks∨y=x:=by
 unfold adK;split
 .constructor
  .exact .inl
  .rintro(h|rfl)<;>assumption
 .simp
theorem NT(h:ks.Nodup):(adK ks x).Nodup:=by
 unfold adK;split
 .exact h
 .exact List.nodup_append.mpr ⟨h,by simp,λa Y b U=>by rw[List.mem_singleton.mp U];exact λe=>‹¬_› (e▸Y)⟩
theorem DG(ks:List Str):aA (kT .own ks)=true/\az (kT .own ks)=true/\view false (kT .own ks)=kT .brw ks/\dh (kT .own ks)=true:=by
 have h1:∀l:List Str,aC (l.map λ_=>D.bl true)=true/\aD (l.map λ_=>D.bl true)=true/\fU false (l.map λ_=>D.bl true)=(l.map λ_=>D.bl true)/\bO (l.map λ_=>D.bl true)=true:=by
  intro l
  induction l with
  |nil=>exact⟨rfl,rfl,rfl,rfl⟩
  |cons a r J=>simp[aC,aD,fU,bO,aA,az,view,dh,J]
 simp[kT,aA,az,view,dh,h1,mkV]
def Cld(js:List Jt)(C:Str->Prop):Prop:=∀j∈js,C j.1↔C j.2.1
structure Cls(ns:List Str)(js:List Jt)(h:Str)(ks:List Str):Prop where
 n:ks.Nodup
 hm:h∈ks
 i:∀x∈ks,x∈ns
 s:∀C:Str->Prop,Cld js C->C h->∀x∈ks,C x
def ClE(J:D)(h:Str)(ks:List Str)(g:Bool)(x4 x5 x6:Option D):En:=[some J,some (.str h),some (kT .own ks),some (.bl g),x4,x5,x6]
def ClI(J:D)(ns:List Str)(js:List Jt)(h:Str)(p:Nat)(ρ:En):Prop:=∃(ks:List Str)(g:Bool)(x4 x5 x6:Option D),ρ=ClE J h ks g x4 x5 x6/\Cls ns js h ks/\(g=true->p<ks.length)/\(g=false->Cld js (·∈ks))
def ClF(J:D)(ns:List Str)(js:List Jt)(h:Str)(z k:Nat)(ρ:En):Prop:=∃(ks:List Str)(g:Bool)(x4 x5 x6:Option D),ρ=ClE J h ks g x4 x5 x6/\Cls ns js h ks/\z<=ks.length/\(g=true->z<ks.length)/\(g=false->Cld (js.take k) (·∈ks))
variable{h:Str}
theorem Cls.add(c:Cls ns js h ks)(O:j∈js)(I:j.1∈ns/\j.2.1∈ns)(e:decide (j.1∈ks)≠decide (j.2.1∈ks)):Cls ns js h (adK (adK ks j.1) j.2.1)/\(adK (adK ks j.1) j.2.1).length=ks.length+1:=by
 refine⟨⟨NT (NT c.n),o6.mpr (.inl (o6.mpr (.inl c.hm))),λx B=>?_,λC q U x B=>?_⟩,?_⟩
 .rcases o6.mp B with z|rfl
  .rcases o6.mp z with z|rfl
   .exact c.i x z
   .exact I.1
  .exact I.2
 .have h1:=q j O
  have h2:C j.1∨C j.2.1:=by
   by_cases V:j.1∈ks
   .exact .inl (c.s C q U _ V)
   .by_cases h4:j.2.1∈ks
    .exact .inr (c.s C q U _ h4)
    .simp[V,h4]at e
  have V:C j.1/\C j.2.1:=⟨h2.elim id h1.mpr,h2.elim h1.mp id⟩;rcases o6.mp B with z|rfl
  .rcases o6.mp z with z|rfl
   .exact c.s C q U x z
   .exact V.1
  .exact V.2
 .by_cases V:j.1∈ks
  .have h4:j.2.1∉ks:=λz=>by simp[V,z]at e
   simp[adK,V,h4]
  .have h4:j.2.1∈ks:=by
    by_cases z:j.2.1∈ks
    .exact z
    .simp[V,z]at e
   simp[adK,V,h4]
variable{J:D}
theorem O4(Y:JJ J js)(U:h∈ns)(O:∀j∈js,j.1∈ns/\j.2.1∈ns)(Z:ns.length<=1000)(a7:js.length<=1000):∃ks,cC [J,.str h]=some (kT .own ks)/\Cls ns js h ks/\Cld js (·∈ks):=by
 have a1:∀{ks},Cls ns js h ks->ks.length<=1000:=λc=>Y4 (pY c.n c.i) Z;have W:Wp (cC [J,.str h]) λd=>∃ks,d=kT .own ks/\Cls ns js h ks/\Cld js (·∈ks):=by
  simp_arith![cC,fnP];refine aY (λρ=>ρ=[some J,some (.str h),some (kT .own [h]),none,none,none,none]) (λQ q=>?_) ?_
  .have hone:uf [((Yl h:Key),D.bl true)]=some (kT .own [h]):=by
    unfold uf;rw[Yi (by simp)];rfl
   simp_arith[sEx,aL,aU,aK,oF,jN,pL,dG,hone,DG];exact q _ rfl
  rintro _ rfl;refine aY (λρ=>ρ=ClE J h [h] true none none none) (λQ q=>?_) ?_
  .simp[bI,eC,tgN,clean,aA,az,bR,aN,aH]
   exact q _ rfl
  rintro _ rfl;refine aY (λρ=>∃(ks:List Str)(g:Bool)(x4 x5 x6:Option D),ρ=ClE J h ks g x4 x5 x6/\Cls ns js h ks/\Cld js (·∈ks)) (λQ q=>?_) ?_
  .refine uV (ClI J ns js h) 1001 ?_ 1000000 0 _ ⟨[h],true,_,_,_,rfl,⟨by simp,by simp,λx B=>by rw[List.mem_singleton.mp B];exact U,λC _ F x B=>by rw[List.mem_singleton.mp B];exact F⟩,λ_=>by simp,λz=>by cases z⟩ (by omega)
   rintro p ρ ⟨ks,g,x4,x5,x6,rfl,c,hg,a4⟩;cases g with
   |false=>
    simp[ClE,uK,i_,truth,ak,view,bR,aN,aH];exact q _ ⟨ks,false,x4,x5,x6,rfl,c,a4 rfl⟩
   |true=>
    have:=hg rfl;have:=a1 c;simp[ClE,uK,i_,truth,ak,view,bR,aN,aH];refine⟨by omega,?_⟩;refine aY (λρ=>ρ=ClE J h ks false x4 x5 x6) (λQ q=>?_) ?_
    .simp[bI,eC,tgN,clean,aA,az,bR,aN,aH]
     exact q _ rfl
    rintro _ rfl;have a5:itS (ak false 0) (ClE J h ks false x4 x5 x6)=some (true,js.map jD):=by
     simp[itS,ak,ClE,Y.v,Y.s]
    unfold iV;rw[a5];simp![aN,aH];refine iB (ClF J ns js h ks.length) ⟨ks,false,_,_,_,rfl,c,Nat.le_refl _,(λz=>by cases z),λ_ j O=>by simp at O⟩ ?_ ?_
    .rintro k x ρ hk ⟨ks2,g,y4,y5,y6,rfl,c2,hn,hg3,hg4⟩
     rw[List.getElem?_map]at hk;cases a0:js[k]? with
     |none=>rw[a0]at hk;cases hk
     |some j=>
      rw[a0]at hk;cases hk;have I:=YD a0;have a6:=a1 c2;have a3:js.take (k+1)=js.take k++[j]:=by
       rw[aeX,a0];rfl
      simp![jD,tgT,aP,tgN,bM,clean,aA,az,aC,aD,Zj,and_self,Yx,aN,aH,ClE,YH,YQ,Yd,Yt];by_cases e:decide (j.1∈ks2)=decide (j.2.1∈ks2)
      .simp[sIf,eB,e2,ak,view,DG,Hv,xZ,isB,aN,aH,e,bY]
       refine⟨ks2,g,_,_,_,rfl,c2,hn,hg3,λz=>?_⟩;rw[a3];intro j' a2;rcases List.mem_append.mp a2 with z1|z1
       .exact hg4 z j' z1
       .rw[List.mem_singleton.mp z1];simpa using e
      .obtain⟨c3,l3⟩:=c2.add I (O j I) e
       have e':(decide (j.1∈ks2)==decide (j.2.1∈ks2))=false:=by simpa using e
       have l4:(adK ks2 j.1).length<1000000:=by unfold adK;split;omega;simp;omega
       have V:∀ks:List Str,kT Mk.own ks≠kT Mk.own ks->False:=λ_ z=>z rfl;simp![sIf,eB,e2,ak,view,DG,Hv,xZ,isB,aN,aH,e',gD,Yn,Yo,ach,Yx];refine aY (λρ=>ρ=[some J,some (.str h),some (kT .own (adK ks2 j.1)),some (.bl g),some (.str j.1),some (.str j.2.1),some (.int j.2.2)]) (λQ q=>?_) ?_
       .simp_arith[sEx,aL,aU,aK,Lb (show ks2.length<1000000 by omega),DG]
        exact q _ rfl
       rintro _ rfl;refine aY (λρ=>ρ=[some J,some (.str h),some (kT .own (adK (adK ks2 j.1) j.2.1)),some (.bl g),some (.str j.1),some (.str j.2.1),some (.int j.2.2)]) (λQ q=>?_) ?_
       .simp_arith[sEx,aL,aU,aK,Lb l4,DG]
        exact q _ rfl
       rintro _ rfl;simp[bI,eC,tgN,clean,aA,az,bR,aN,aH];exact⟨_,true,_,_,_,rfl,c3,by omega,λ_=>by omega,λz=>by cases z⟩
    .rintro ρ ⟨ks2,g,y4,y5,y6,rfl,c2,hn,hg3,hg4⟩
     rw[X_,ac2]at hg4;exact⟨ks2,g,_,_,_,rfl,c2,λz=>by have:=hg3 z;omega,hg4⟩
  rintro _ ⟨ks,g,x4,x5,x6,rfl,c,F⟩;simp_arith[sEx,aL,aU,aK,ClE,DG];exact⟨ks,rfl,c,F⟩
 obtain⟨_,e,ks,rfl,h1,h2⟩:=W;exact⟨ks,e,h1,h2⟩
def Cn(js:List Jt)(a b:Str):Prop:=∀C:Str->Prop,Cld js C->C a->C b
theorem Cls.iff(c:Cls ns js h ks)(d:Cld js (·∈ks)):x∈ks↔Cn js h x:=⟨λz C B U=>c.s C B U x z,λz=>z _ d c.hm⟩
def Snc(js:List Jt)(a b:Str)(r:D):Prop:=(a=b/\r= .int (-1))∨(a≠b/\((∃k:Nat,k<js.length/\r= .int k/\Cn (js.take (k+1)) a b/\∀i,i<=k->¬Cn (js.take i) a b)∨(r= .non/\¬Cn js a b)))
theorem F_(V:mkF m= .frz)(U:h∈ns)(O:∀j∈js,j.1∈ns/\j.2.1∈ns)(Z:ns.length<=1000)(z:js.length<=1000):∃ks,aX cC [.lst m (js.map jD),.str h]=some (kT .own ks)/\Cls ns js h ks/\∀x,x∈ks↔Cn js h x:=by
 obtain⟨ks,e,c,d⟩:=O4 (JJ.lst js) U O Z z;exact⟨ks,call_of (by simpa[fzL,fz,mR,V]using e) (DG ks).2.2.2,c,λx=>c.iff d⟩
def SnI(J:D)(js:List Jt)(a b:Str)(k:Nat)(ρ:En):Prop:=∃x3:Option D,ρ=[some J,some (.str a),some (.str b),x3]/\∀i,i<=k->¬Cn (js.take i) a b
theorem QD(Y:a∈ns)(O:∀j∈js,j.1∈ns/\j.2.1∈ns)(Z:ns.length<=1000)(a0:js.length<=1000):∃r,dm [.lst .frz (js.map jD),.str a,.str b]=some r/\Snc js a b r:=by
 show Wp _ _;simp_arith![dm,fnP];by_cases e:a=b
 .simp_arith[sEx,aL,aU,aK,eq_str,e,fW]
  exact .inl ⟨rfl,rfl⟩
 refine aY (λρ=>ρ=[some (.lst .frz (js.map jD)),some (.str a),some (.str b),none]) (λQ q=>?_) ?_
 .simp_arith[sEx,aL,aU,aK,eq_str,e]
  exact q _ rfl
 rintro _ rfl;refine vL (λρ=>SnI (.lst .frz (js.map jD)) js a b js.length ρ) (λd=>Snc js a b d) (λQ q V=>?_) ?_ ?_
 .have e1':rY (ao (eAp cL (ao (ak false 0) aB)) aB) [some (.lst .frz (js.map jD)),some (.str a),some (.str b),none]=some (true,lD 0 js.length):=Fw (by simp[ao,eAp,ak,aB,cL,view,mO,mkV]) a0
  unfold iV;rw[e1'];simp![aN,aH];refine iB (SnI (.lst .frz (js.map jD)) js a b) ⟨_,rfl,λi hi=>?_⟩ ?_ ?_
  .have:i=0:=by omega
   subst this;exact λz=>e (z (λx=>a=x) (λj O=>by simp at O) rfl)
  .rintro k x ρ hk ⟨x3,rfl,hn⟩
   obtain⟨B,rfl⟩:=oY hk;obtain⟨ks,F,c,D⟩:=F_ (m:=.own) (js:=js.take (k+1)) rfl Y (λj J=>O j (Zz J)) Z (by rw[YX];omega);have I:cutD (js.map jD) none (some ((k:Int)+1))=(js.map jD).take (k+1):=by
    rw[show((k:Int)+1)=((k+1:Nat):Int)by push_cast;rfl,sr]
   rw[aak]at F;simp![tgN,clean,aA,az,Zj,Yx,aN,aH,YH,YQ];by_cases U:b∈ks
   .simp_arith[sEx,aL,aU,aK,-aX,dM,gSl,mO,I,F,Hv,U]
    exact V _ _ (.inr ⟨e,.inl ⟨k,B,rfl,(D b).mp U,hn⟩⟩)
   .simp_arith[sEx,aL,aU,aK,-aX,dM,gSl,mO,I,F,Hv,U]
    exact⟨_,rfl,λi hi=>if h:i<=k then hn i h else by rw[show i=k+1 by omega];exact λz=>U ((D b).mpr z)⟩
  .intro ρ h
   rw[rA]at h;exact q _ h
 .rintro _ ⟨x3,rfl,hn⟩
  simp_arith[sEx,aL,aU,aK];exact .inr ⟨e,.inr ⟨rfl,by simpa using hn js.length (Nat.le_refl _)⟩⟩
 .intro d ρ' h
  exact⟨d,rfl,h⟩
def mQ(m:Mk)(F I:List Str):D:=.dct m (F.map Yl) (I.map D.str)
structure Mq(ns kk vv:List Str):Prop where
 n:kk.Nodup
 l:kk.length=vv.length
 i:∀x∈kk,x∈ns
theorem Mq.put{F I:List Str}(h:Mq ns F I)(B:x∈ns):∃q J,gO (F.map Yl) (I.map D.str) (Yl x) (.str y)=(q.map Yl,J.map D.str)/\Mq ns q J:=by
 by_cases z:x∈F
 .obtain⟨i,h1,_⟩:=jt z
  exact⟨F,I.set i y,by simp[gO,h1],h.n,by simp[h.l],h.i⟩
 .refine⟨F++[x],I++[y],by simp[gO,oU (ks:=F.map Yl) (k:=Yl x) (by simpa using z)],List.nodup_append.mpr ⟨h.n,by simp,λa Y b U=>by rw[List.mem_singleton.mp U];exact λe=>z (e▸Y)⟩,by simp[h.l],λa Y=>(List.mem_append.mp Y).elim (h.i a) λe=>by rw[List.mem_singleton.mp e];exact B⟩
theorem Mq.putAll{y:Str}:∀(es:List Str){F I:List Str},Mq ns F I->(∀x∈es,x∈ns)->∃q J,di (F.map Yl) (I.map D.str) (es.map λx=>(Yl x,D.str y))=(q.map Yl,J.map D.str)/\Mq ns q J
 |[],F,I,h,_=>⟨F,I,rfl,h⟩
 |e::r,F,I,h,hs=>by
  obtain⟨Y,z,h1,h2⟩:=h.put (x:=e) (y:=y) (hs e (by simp));obtain⟨Z,O,V,U⟩:=Mq.putAll r h2 λx B=>hs x (by simp[B]);exact⟨Z,O,by rw[X8,di];simp![h1];exact V,U⟩
def vq(F I:List Str)(x:Str):Str:=match dU (F.map Yl) (Yl x)with
 |some i=>I[i]?.getD x
 |none=>x
theorem Mq.get{F I:List Str}(h:Mq ns F I)(x:Str):tO (mQ .brw F I) [.str x,.str x]=some (.str (vq F I x)):=by
 simp![tO,mQ,dG,gD,vq];by_cases z:x∈F
 .obtain⟨i,h1,_,h3⟩:=jt z
  simp[h1,X5 (show i<I.length by rw[←h.l];exact h3)]
 .simp[oU (ks:=F.map Yl) (k:=Yl x) (by simpa using z)]
theorem Mq.ix{F I:List Str}(h:Mq ns F I)(z:x∈F):gIx (mQ m F I) (.str x)=some (.str (vq F I x)):=by
 obtain⟨i,h1,_,V⟩:=jt z;simp[gIx,mQ,dG,vq,h1,X5 (show i<I.length by rw[←h.l];exact V)]
theorem Hk:∀l:List Str,wV (l.map D.str)=true
 |[]=>rfl
 |_::r=>by rw[X8,wV,Hk r];rfl
theorem Lk(y:Str):∀l:List Str,wV (l.map λx=>D.tup [.str x,.str y])=true
 |[]=>rfl
 |_::r=>by rw[X8,wV,Lk y r];rfl
theorem RG(y:Str):∀l:List Str,vD (l.map λx=>D.tup [.str x,.str y])=some (l.map λx=>(Yl x,.str y))
 |[]=>rfl
 |_::r=>by rw[X8,vD,RG y r];rfl
theorem T6(F I:List Str):aA (mQ .own F I)=true/\az (mQ .own F I)=true/\view false (mQ .own F I)=mQ .brw F I:=by simp[mQ,aA,az,view,cR,cB,cu,mkV]
theorem WW{F I:List Str}(h:Mq ns F I)(Z:ns.length<=1000){hd:D}{x3 x4 x5 x6:Option D}{mk fu:Str}:∃es:List Str,(∀x∈es,x∈F)/\es.length<=F.length/\
  tX 1 [none,some 7,some 8,some 1] (tpN 0) (eB (e2 gEq (e2 gIx (ak false 3) (ak false 0)) (ak false 2))) (eAp bB (ao (ak false 0) (ao (ak false 1) aB))) [some J,some (mQ .own F I),some hd,x3,x4,x5,x6,some (.str mk),some (.str fu)]=some (.lst .own (es.map λx=>D.tup [.str x,.str mk])):=by
 refine⟨F.filter λx=>decide (vq F I x=fu),λx B=>(ab2.mp B).1,adF _ _,?_⟩;have U:F.length<=1000:=Y4 (pY h.n h.i) Z;have Y:(F.map Yl).map kD=F.map D.str:=by rw[Yq];rfl
 have V:bT [none,some 7,some 8,some 1] (λ_=>some (false,(F.map Yl).map kD)) (tpN 0) (eB (e2 gEq (e2 gIx (ak false 3) (ak false 0)) (ak false 2))) (eAp bB (ao (ak false 0) (ao (ak false 1) aB))) (([some J,some (mQ .own F I),some hd,x3,x4,x5,x6,some (.str mk),some (.str fu)].map ql).set 1 (some (mQ .scr F I)))=some (.lst .own ((F.filter λx=>decide (vq F I x=fu)).map λx=>D.tup [.str x,.str mk])):=by
  have q:il (tpN 0) (eB (e2 gEq (e2 gIx (ak false 3) (ak false 0)) (ak false 2))) (eAp bB (ao (ak false 0) (ao (ak false 1) aB))) [none,some (.str mk),some (.str fu),some (mQ .scr F I)] (F.map D.str)=some (((F.map D.str).filter λd=>match d with|.str x=>decide (vq F I x=fu)|_=>false).map λd=>.tup [d,.str mk]):=by
   refine fG λd hd=>?_;obtain⟨x,B,rfl⟩:=List.mem_map.mp hd;have z:view false (mQ .scr F I)=mQ .scr F I:=by simp[mQ,view,cu,mkV]
   have hi:=h.ix (m:=.scr) B;simp[tpN,aH,eB,e2,ak,eAp,ao,aB,view,z,hi,eq_str,isB,bB,aC,aD,aA,az,clean]
  simp![bT,Y,gD,X_];rw[Yi (by omega)];have O:gf [none,some 7,some 8,some 1] (([some J,some (mQ .own F I),some hd,x3,x4,x5,x6,some (.str mk),some (.str fu)].map ql).set 1 (some (mQ .scr F I)))=[none,some (.str mk),some (.str fu),some (mQ .scr F I)]:=by simp[gf,ql,plD]
  rw[O,q,aeT,Yq];rfl
 unfold tX;simp![Yn,Yo,mQ,Hk,Yx];simp![mQ]at V;rw[V];simp![Lk,Yx]
def HoE(J:D)(F I:List Str)(O:List Int)(x3 x4 x5 x6 Y U:Option D):En:=[some J,some (mQ .own F I),some (.lst .own (O.map D.int)),x3,x4,x5,x6,Y,U]
def HoI(J:D)(ns:List Str)(k:Nat)(ρ:En):Prop:=∃(F I:List Str)(O:List Int)(x3 x4 x5 x6 Y U:Option D),ρ=HoE J F I O x3 x4 x5 x6 Y U/\Mq ns F I/\O.length<=k/\∀i∈O,0<=i/\i<k
theorem Jy(hJ:JJ J js)(hE:∀f ρ,f ρ=some [J]->uA f ρ=some (true,jO 0 (js.map jD)))(hj:∀j∈js,j.1∈ns/\j.2.1∈ns)(Z:ns.length<=1000)(b4:js.length<=1000):∃O:List Int,cM [J]=some (.lst .own (O.map D.int))/\O.length<=js.length/\∀i∈O,0<=i/\i<js.length:=by
 have W:Wp (cM [J]) λd=>∃O:List Int,d= .lst .own (O.map D.int)/\O.length<=js.length/\∀i∈O,0<=i/\i<js.length:=by
  simp_arith![cM,fnP];refine aY (λρ=>ρ=[some J,some (mQ .own [] []),none,none,none,none,none,none,none]) (λQ q=>?_) ?_
  .simp_arith[sEx,aL,aU,aK,uy]
   exact q _ rfl
  rintro _ rfl;refine aY (HoI J ns 0) (λQ q=>?_) ?_
  .simp_arith[sEx,aL,aU,aK,bL]
   exact q _ ⟨[],[],[],_,_,_,_,_,_,rfl,⟨by simp,rfl,by simp⟩,by simp,by simp⟩
  rintro _ h0;refine aY (HoI J ns js.length) (λQ q=>?_) ?_
  .have e1':∀ρ,HoI J ns 0 ρ->uA (ao (ak false 0) aB) ρ=some (true,jO 0 (js.map jD)):=by
    rintro _ ⟨F,I,O,x3,x4,x5,x6,x7,U,rfl,_⟩;exact hE _ _ (by simp[HoE,ak,ao,aB,hJ.v])
   unfold iV;rw[e1' _ h0];simp![aN,aH];refine iB (HoI J ns) h0 ?_ (λρ h=>q _ (by rw[lV]at h;simpa using h));rintro k d ρ hk ⟨F,I,O,x3,x4,x5,x6,x7,U,rfl,hm,a8,a1⟩;rw[jY,List.getElem?_map]at hk;cases a0:js[k]? with
   |none=>simp[a0]at hk
   |some j=>
    obtain rfl:D.tup [.int (k:Int),jD j]=d:=by simpa[a0]using hk
    have b2:k<js.length:=(List.getElem?_eq_some_iff.mp a0).1;have a7:=hj j (YD a0);have b3:F.length<=1000:=Y4 (pY hm.n hm.i) Z;simp![HoE,jD,tgT,aP,bM,tgN,aC,aD,clean,aA,az,Zj,and_self,Yx,aN,aH,YH,YQ,Yd,Yt];refine aY (λρ=>ρ=HoE J F I O (some (.int k)) (some (.str j.1)) (some (.str j.2.1)) (some (.int j.2.2)) (some (.str (vq F I j.1))) (some (.str (vq F I j.2.1)))) (λQ q=>?_) ?_
    .simp_arith[sEx,aL,aU,aK,T6,hm.get,bB]
     exact q _ rfl
    rintro _ rfl;by_cases e:vq F I j.1=vq F I j.2.1
    .simp[sIf,HoE,eB,e2,ak,view,ne_str,e,isB,aN,aH,bY]
     exact⟨F,I,O,_,_,_,_,_,_,rfl,hm,by omega,λi hi=>by have:=a1 i hi;omega⟩
    .have e':decide (vq F I j.1=vq F I j.2.1)=false:=by simpa using e
     simp![sIf,HoE,eB,e2,ak,view,ne_str,e',isB,aN,aH,gD,Yn,Yo,ach,Yx];have a9:j.1≠j.2.1:=λz=>e (by rw[z]);refine aY (λρ=>ρ=HoE J F I (O++[(k:Int)]) (some (.int k)) (some (.str j.1)) (some (.str j.2.1)) (some (.int j.2.2)) (some (.str (vq F I j.1))) (some (.str (vq F I j.2.1)))) (λQ q=>?_) ?_
     .simp_arith[sEx,aL,aU,aK,cJ,jV]
      refine⟨by omega,q _ ?_⟩;simp[HoE]
     rintro _ rfl;obtain⟨es,h1,h2,V⟩:=WW hm Z (J:=J) (hd:=.lst .own ((O++[(k:Int)]).map D.int)) (x3:=some (.int k)) (x4:=some (.str j.1)) (x5:=some (.str j.2.1)) (x6:=some (.int j.2.2)) (mk:=vq F I j.1) (fu:=vq F I j.2.1);obtain⟨a3,a4,h4,Y⟩:=Mq.putAll (y:=vq F I j.1) es hm λx B=>hm.i x (h1 x B);have b1:a3.length<=1000:=Y4 (pY Y.n Y.i) Z;refine aY (λρ=>ρ=HoE J a3 a4 (O++[(k:Int)]) (some (.int k)) (some (.str j.1)) (some (.str j.2.1)) (some (.int j.2.2)) (some (.str (vq F I j.1))) (some (.str (vq F I j.2.1)))) (λQ q=>?_) ?_
     .have h6:fY (mQ .own F I) [.lst .own (es.map λx=>D.tup [.str x,.str (vq F I j.1)])]=some (mQ .own a3 a4,.non):=by
       simp![fY,mQ,X_,RG,YM,h4];rw[Yi ⟨rfl,by omega⟩]
      obtain⟨hd,a2⟩:∃hd,hd=D.lst .own ((O++[(k:Int)]).map D.int):=⟨_,rfl⟩;simp![HoE]at q⊢;rw[←a2]at V q⊢;simp_arith[sEx,aL,aU,aK,V,T6,h6];exact⟨⟨fD λd hd=>by obtain⟨x,_,rfl⟩:=List.mem_map.mp hd;rfl,fj λd hd=>by obtain⟨x,_,rfl⟩:=List.mem_map.mp hd;rfl⟩,q _ rfl⟩
     rintro _ rfl;obtain⟨a6,a5,h7,h8⟩:=Mq.putAll (y:=vq F I j.1) [j.1,j.2.1] Y λx B=>by
      rcases Yj.mp B with rfl|B
      .exact a7.1
      .rw[List.mem_singleton.mp B];exact a7.2
     have h9:fY (mQ .own a3 a4) [.dct .own [Yl j.1,Yl j.2.1] [.str (vq F I j.1),.str (vq F I j.1)]]=some (mQ .own a6 a5,.non):=by
      simp![fY,mQ,X_];rw[Yi ⟨rfl,by simp;omega⟩];simp![aen,List.zip_nil_left];simp![X8,YF]at h7;rw[h7]
     have b0:uf [((Yl j.1:Key),D.str (vq F I j.1)),(Yl j.2.1,.str (vq F I j.1))]=some (.dct .own [Yl j.1,Yl j.2.1] [.str (vq F I j.1),.str (vq F I j.1)]):=by
      unfold uf;rw[Yi (by simp[a9])];rfl
     obtain⟨hd,a2⟩:∃hd,hd=D.lst .own ((O++[(k:Int)]).map D.int):=⟨_,rfl⟩;simp![HoE];rw[←a2];simp_arith[sEx,aL,aU,aK,oF,jN,pL,dG,b0,T6,h9];exact⟨a6,a5,O++[(k:Int)],_,_,_,_,_,_,by rw[HoE,a2],h8,by simp;omega,λi hi=>by
      rcases List.mem_append.mp hi with z|z
      .have:=a1 i z;omega
      .rw[List.mem_singleton.mp z];omega⟩
  rintro _ ⟨F,I,O,x3,x4,x5,x6,x7,U,rfl,hm,a8,a1⟩;simp_arith[sEx,aL,aU,aK,HoE,ju,jz];exact⟨O,rfl,a8,a1⟩
 obtain⟨_,e,O,rfl,h1,h2⟩:=W;exact⟨O,e,h1,h2⟩
theorem U5(V:m≠.scr):∃ps:List Pt,tO (wM m us) [.str x,.tup []]=some (pT ps)/\(ps=[]∨(x,ps)∈us):=by
 simp![tO,wM,dG,gD,YB V];by_cases z:x∈us.map (·.1)
 .obtain⟨i,h1,h2,h3⟩:=jt z
  rw[List.getElem?_map]at h2;cases F:us[i]? with
  |none=>rw[F]at h2;cases h2
  |some u=>
   have:u.1=x:=by simpa[F]using h2
   exact⟨u.2,by rw[h1];simp![List.getElem?_map,F,YM],.inr (by rw[←this];exact YD F)⟩
 .exact⟨[],by rw[oU (by simpa using z)];rfl,.inl rfl⟩
theorem NP(ps:List Pt):dh (pT ps)=true:=by
 have:∀l:List Pt,bO (l.map ptD)=true:=by
  intro l
  induction l with
  |nil=>rfl
  |cons p r J=>rw[X8,bO,J];rfl
 simp[pT,dh,this]
theorem U_(us:List Uw):dh (wM .own us)=true:=by
 have:∀l:List Uw,bO (l.map λu=>pT u.2)=true:=by
  intro l
  induction l with
  |nil=>rfl
  |cons p r J=>rw[X8,bO,J,NP];rfl
 simp[wM,dh,this]
theorem Hg(V:mkF m= .frz)(I:h∈ns)(O:∀j∈js,j.1∈ns/\j.2.1∈ns)(Z:ns.length<=1000)(z:js.length<=1000):∃us,aX bN [.lst m (js.map jD),.str h]=some (wM .own us)/\∀x (B:Mk),B≠.scr->∃ps:List Pt,tO (wM B us) [.str x,.tup []]=some (pT ps)/\(∀p∈ps,Pr js.length p)/\ps.length<=ns.length:=by
 obtain⟨_,J,ks,ad,rfl,U,D⟩:=Lj O z;obtain⟨_,e,us,rfl,F⟩:=Qn U J I D Z;refine⟨us,call_of (by simpa[fzL,fz,mR,V]using e) (U_ us),λx B q=>?_⟩;obtain⟨ps,h1,h2⟩:=U5 (us:=us) (x:=x) q;refine⟨ps,h1,?_⟩;rcases h2 with rfl|h2
 .exact⟨by simp,aaV _⟩
 .exact⟨(F _ h2).2.2,(F _ h2).2.1⟩
theorem S9(Y:a∈ns)(hj:∀j∈js,j.1∈ns/\j.2.1∈ns)(Z:ns.length<=1000)(a8:js.length<=1000):∃ps:List Pt,b8 [.lst .frz (js.map jD),.str a,.str b]=some (pT ps)/\(∀p∈ps,Pr js.length p)/\ps.length<=ns.length:=by
 obtain⟨O,U,a9,a1⟩:=Jy (JJ.lst js) (λ_ _=>FP) hj Z a8;have a0:aX cM [.lst .frz (js.map jD)]=some (.lst .own (O.map D.int)):=call_of (by simpa[fzL,fz,mR,mkF]using U) (by
  have:∀l:List Int,bO (l.map D.int)=true:=by
   intro l
   induction l with
   |nil=>rfl
   |cons p r J=>rw[X8,bO,J];rfl
  simp[dh,this])
 obtain⟨z,I⟩:∃z:List Jt,z=O.map λi=>(js[i.toNat]?).getD ((("":Str),("":Str),(0:Int)):Jt):=⟨_,rfl⟩;have a4:∀i∈O,∃j∈js,js[i.toNat]? =some j:=λi hi=>by
  have:=a1 i hi;have h2:i.toNat<js.length:=by omega
  exact⟨js[i.toNat],aao h2,X5 h2⟩
 have a3:∀j∈z,j.1∈ns/\j.2.1∈ns:=λj a5=>by
  rw[I]at a5;obtain⟨i,hi,rfl⟩:=List.mem_map.mp a5;obtain⟨j,h1,h2⟩:=a4 i hi;rw[h2];exact hj j h1
 have b0:z.length=O.length:=by rw[I];simp
 obtain⟨us,F,B⟩:=Hg (m:=.own) (js:=z) rfl Y a3 Z (by omega);obtain⟨ps,g1,g2,g3⟩:=B b .brw (by decide);obtain⟨qs,a2⟩:∃qs:List Pt,qs=ps.map λp=>((O[p.1.toNat]?).getD 0,p.2):=⟨_,rfl⟩;refine⟨qs,?_,λq hq=>?_,by rw[a2];simpa using g3⟩
 .have W:Wp (b8 [.lst .frz (js.map jD),.str a,.str b]) λd=>d=pT qs:=by
   simp_arith![b8,fnP];refine aY (λρ=>ρ=[some (.lst .frz (js.map jD)),some (.str a),some (.str b),some (.lst .own (O.map D.int)),none]) (λQ hQ=>?_) ?_
   .simp_arith[sEx,aL,aU,aK,-aX,a0,mO,ju,jz]
    exact hQ _ rfl
   rintro _ rfl;refine aY (λρ=>ρ=[some (.lst .frz (js.map jD)),some (.str a),some (.str b),some (.lst .own (O.map D.int)),some (wM .own us)]) (λQ hQ=>?_) ?_
   .have e6:bT [none,some 0] (itS (ak false 3)) (tpN 0) eTT (e2 gIx (ak false 1) (ak false 0)) [some (.lst .frz (js.map jD)),some (.str a),some (.str b),some (.lst .own (O.map D.int)),none]=some (.lst .own (z.map jD)):=by
     have W2:Wp (bT [none,some 0] (itS (ak false 3)) (tpN 0) eTT (e2 gIx (ak false 1) (ak false 0)) [some (.lst .frz (js.map jD)),some (.str a),some (.str b),some (.lst .own (O.map D.int)),none]) λd=>d= .lst .own (z.map jD):=by
      simp_arith[sEx,aL,aU,aK,jV,ju,jz,yH];refine⟨by omega,?_⟩;rw[fG (p:=λ_=>true) (f:=λd=>match d with|.int i=>jD ((js[i.toNat]?).getD ((("":Str),("":Str),(0:Int)):Jt))|_=>.non)]
      .rw[aH,filter_tt,I,Yq,Yq]
       rfl
      .intro d hd
       obtain⟨i,hi,rfl⟩:=List.mem_map.mp hd;obtain⟨j,h1,h2⟩:=a4 i hi;have V:gIx (.lst .frz (js.map jD)) (.int i)=some (jD j):=by
        have:=a1 i hi;obtain⟨n,rfl⟩:∃n:Nat,i=n:=⟨i.toNat,by omega⟩;simp![gIx,atI,X_,mC (show n<js.length by omega),gD,List.getElem?_map];rw[show js[n]? =some j by simpa using h2];rfl
       simp[tpN,aH,eTT,e2,ak,view,mO,mkV,V,h2,clean,aA,az]
     obtain⟨_,e,rfl⟩:=W2;exact e
    have a7:=Q3 (us:=us) (m:=.own) (.inl rfl);simp_arith[sEx,aL,aU,aK,-aX,-bT,e6,F,a7];exact hQ _ rfl
   rintro _ rfl;have W2:Wp (bT [none,none,some 3] (itS (eMt tO (ak false 4) (ao (ak false 2) (ao (eAp bB aB) aB)))) (tpT 2 (aP (tpN 0) (aP (tpN 1) bM))) eTT (eAp bB (ao (e2 gIx (ak false 2) (ak false 0)) (ao (ak false 1) aB))) [some (.lst .frz (js.map jD)),some (.str a),some (.str b),some (.lst .own (O.map D.int)),some (wM .own us)]) λd=>d= .lst .own (qs.map ptD):=by
    have a6:view false (wM .own us)=wM .brw us:=by simp![wM,view,CK];rfl
    simp_arith[sEx,aL,aU,aK,a6,bB,g1,pT,xx,xP,Dd];refine⟨by omega,?_⟩;rw[fG (p:=λ_=>true) (f:=λd=>match d with|.tup [.int i,s]=>.tup [.int ((O[i.toNat]?).getD 0),s]|_=>.non)]
    .rw[aH,filter_tt,a2,Yq,Yq]
     rfl
    .intro d hd
     obtain⟨p,hp,rfl⟩:=List.mem_map.mp hd;have h1:=g2 p hp;have h2:p.1.toNat<O.length:=by have:=h1.1;omega
     have V:gIx (.lst .brw (O.map D.int)) (.int p.1)=some (.int ((O[p.1.toNat]?).getD 0)):=by
      have h5:p.1=(p.1.toNat:Int):=by have:=h1.1;omega
      rw[h5];simp![gIx,atI,X_,mC h2,gD,List.getElem?_map,aaY,X5 h2];rfl
     simp[ptD,tpT,aP,tpN,bM,aH,aN,w_ite,eTT,e2,ak,view,jV,mkV,V,clean,aA,az,aC,aD,eAp,ao,aB,bB]
   obtain⟨_,e9,rfl⟩:=W2;simp_arith[sEx,aL,aU,aK,-bT,e9,jb,pT,xx,xP]
  obtain⟨_,e,rfl⟩:=W;exact e
 .rw[a2]at hq
  obtain⟨p,hp,rfl⟩:=List.mem_map.mp hq;have h1:=g2 p hp;have h2:p.1.toNat<O.length:=by have:=h1.1;omega
  have V:=a1 O[p.1.toNat] (aao h2);rw[X5 h2];exact⟨V,h1.2⟩
theorem tU:∀l:List Str,jE (l.map D.str)=some (l.map Yl)
 |[]=>rfl
 |x::r=>by simp[jE,dG,tU r]
theorem jW:∀ns:List Str,wW (ns.map D.str)=some (ns.map V.str)
 |[]=>rfl
 |x::r=>by simp[wW,scV,jW r]
theorem ni:inV (.str x) (ns.map V.str)=decide (x∈ns):=by
 unfold inV;rw[acY,Z6,abe,Z1];simp![aaj,eqV,beq_iff_eq];exact⟨λ⟨y,h1,h2⟩=>h2▸h1,λh=>⟨x,h,rfl⟩⟩
def dS(l:List Str):Nat:=(tY (l.map Yl)).length
structure SS(S:D)(ss:List Str):Prop where
 f:fz S=S
 v:∀b,view b S=S
 b:aA S=true
 o:az S=true
 l:cL [S]=some (.int ss.length)
 i:∀y,gIn (.str y) S=some (.bl (decide (y∈ss)))
 n:∀y,e_ (.str y) S=some (.bl (!decide (y∈ss)))
 s:gU S=some (true,ss.map D.str)
 k:ss.length<=1000->k_ [S]=some (.int (dS ss))
 t:cQ [S,.tup [.ty "list",.ty "tuple"]]=some (.bl true)
theorem SS.lst(ns:List Str):SS (.lst .frz (ns.map D.str)) ns:=⟨by simp[fz,jU,mkF],λb=>by cases b<;>simp[view,cu,mkV],by simp[aA,cR],by simp[az,cB],by simp[cL],λy=>by simp[gIn,qN,scV,jW,ni],λy=>by simp[e_,qN,scV,jW,ni],by simp[gU,clean,aA,az,cR,cB,uO],λh=>by simp[k_,tU,dS];omega,rfl⟩
theorem SS.tup(ns:List Str):SS (.tup (ns.map D.str)) ns:=⟨by simp[fz,jU],λb=>by simp[view,cu],by simp[aA,cR],by simp[az,cB],by simp[cL],λy=>by simp[gIn,qN,scV,jW,ni],λy=>by simp[e_,qN,scV,jW,ni],by simp[gU,clean,aA,az,cR,cB,uO],λh=>by simp[k_,tU,dS];omega,rfl⟩
def sgB(x:Str):Bool:=x.cps.toList.all λc=>xN ⟨#[c]⟩ "abcdefghijklmnopqrstuvwxyz"
def nmB(x:Str):Bool:=decide (1<=x.length)&&decide (x.length<=8)&&sgB x
theorem my(f:α->Bool):∀ds:List α,zp (ds.map λd=>.bl (f d))=some (ds.map f)
 |[]=>rfl
 |d::r=>by simp[zp,my f r]
theorem VD{i:Nat}(h:ρ[i]? =some (some (.str x)))(Z:x.length<=1000):∃l,bT [none] (pM (ak false i)) (tpN 0) eTT (e2 gIn (ak false 0) (eC (.str "abcdefghijklmnopqrstuvwxyz"))) ρ=some (.lst .own l)/\p6 [.lst .own l]=some (.bl (sgB x)):=by
 have Y:pM (ak false i) ρ=some (true,x.cps.toList.map λc=>.str ⟨#[c]⟩):=by simp[pM,ak,h,view]
 have q:il (tpN 0) eTT (e2 gIn (ak false 0) (eC (.str "abcdefghijklmnopqrstuvwxyz"))) (gf [none] ρ) (x.cps.toList.map λc=>.str ⟨#[c]⟩)=some (((x.cps.toList.map λc=>D.str ⟨#[c]⟩).filter λ_=>true).map λd=>match d with|.str y=>.bl (xN y "abcdefghijklmnopqrstuvwxyz")|_=>.non):=by
  refine fG λd hd=>?_;obtain⟨c,_,rfl⟩:=List.mem_map.mp hd;simp[gf,tpN,aH,eTT,e2,ak,eC,view,gIn,qN,clean,aA,az]
 have z:(x.cps.toList.map λc=>D.str ⟨#[c]⟩).length<=1000000:=by
  rw[X_];have:x.cps.toList.length=x.length:=by simp[Str.length]
  omega
 have O:=my (λc=>xN ⟨#[c]⟩ "abcdefghijklmnopqrstuvwxyz") x.cps.toList;refine⟨x.cps.toList.map λc=>.bl (xN ⟨#[c]⟩ "abcdefghijklmnopqrstuvwxyz"),?_,?_⟩
 .simp![bT,Y,gD]
  rw[Yi z,q,filter_tt,Yq];rfl
 .simp![p6,O,YM,sgB,abz,aaj,id]
  rfl
theorem xU(Z:x.length<=1000):cL [.str x]=some (.int x.length):=by
 have:x.length<=Yc:=Y4 Z (by decide);simp[cL,this]
theorem Q8:cQ [.str x,.ty "str"]=some (.bl true):=rfl
theorem Ke(Z:x.length<=1000):cW [.str x]=some (.bl (nmB x)):=by
 have W:Wp (cW [.str x]) λd=>d= .bl (nmB x):=by
  simp_arith![cW,fnP];refine aY (λρ=>ρ=[some (.str x)]) (λQ q=>?_) ?_
  .simp_arith[sEx,aL,aU,aK,Q8,truth]
   exact q _ rfl
  rintro _ rfl;by_cases h1:x.length<1
  .have h2:(x.length:Int)<1:=by omega
   simp_arith[sEx,aL,aU,aK,xU Z,gLt,gGt,h2,nmB];omega
  .by_cases h3:8<x.length
   .have h2:¬(x.length:Int)<1:=by omega
    have F:(8:Int)<x.length:=by omega
    simp_arith[sEx,aL,aU,aK,xU Z,gLt,gGt,h2,F,nmB];omega
   .have h2:¬(x.length:Int)<1:=by omega
    have F:¬(8:Int)<x.length:=by omega
    obtain⟨l,Y,U⟩:=VD (ρ:=[some (.str x)]) (i:=0) rfl Z;generalize bT [none] (pM (ak false 0)) (tpN 0) eTT (e2 gIn (ak false 0) (eC (.str "abcdefghijklmnopqrstuvwxyz")))=E at Y⊢;simp_arith[sEx,aL,aU,aK,xU Z,gLt,gGt,h2,F,Y,U,nmB];simp[show 1<=x.length by omega,show x.length<=8 by omega]
 obtain⟨_,e,rfl⟩:=W;exact e
variable{S:D}
theorem Qe(U:SS S ss)(Z:ss.length<=1000)(B:∀x∈ss,x.length<=1000):dD [S]=some (.bl (ss.all nmB)):=by
 have J:∀x∈ss,aX cW [.str x]=some (.bl (nmB x)):=λx h=>call_of (by simpa[fzL,fz]using Ke (B x h)) rfl;have q:il (tpN 0) eTT (eAp (aX cW) (ao (ak false 0) aB)) (gf [none] [some S]) (ss.map D.str)=some (((ss.map D.str).filter λ_=>true).map λd=>match d with|.str y=>.bl (nmB y)|_=>.non):=by
  refine fG λd hd=>?_;obtain⟨x,h,rfl⟩:=List.mem_map.mp hd;simp[gf,tpN,aH,eTT,eAp,ao,aB,ak,view,J x h,clean,aA,az]
 have O:=my nmB ss;have I:bT [none] (itS (ak false 0)) (tpN 0) eTT (eAp (aX cW) (ao (ak false 0) aB)) [some S]=some (.lst .own (ss.map λx=>.bl (nmB x))):=by
  simp![bT,itS,ak,Yo,U.v,U.s,gD,X_];rw[Yi (by omega),q,filter_tt,Yq];rfl
 have F:p6 [.lst .own (ss.map λx=>.bl (nmB x))]=some (.bl (ss.all nmB)):=by simp[p6,O,abz]
 have z:aX fQ [S]=some (.bl true):=call_of (by
  simp![fzL,U.f];simp[fQ,fnP,en0,cD,eAp,ao,aB,ak,eC,U.v,bB,U.t,aC,aD,aA,az,clean]) rfl
 have W:Wp (dD [S]) λd=>d= .bl (ss.all nmB):=by
  simp_arith[dD,sEx,aL,aU,aK,-bT,-aX,U.v,z,truth,I,F]
 obtain⟨_,e,rfl⟩:=W;exact e
def LnI(S:D)(ss:List Str)(k:Nat)(ρ:En):Prop:=∃x1,ρ=[some S,x1]/\(ss.take k).all nmB=true
theorem Mp(U:SS S ss)(B:∀x∈ss,x.length<=1000):bV [S]=some (.bl (ss.all nmB)):=by
 have W:Wp (bV [S]) λd=>d= .bl (ss.all nmB):=by
  simp_arith![bV,fnP];refine aY (λρ=>ρ=[some S,none]) (λQ q=>?_) ?_
  .simp_arith[sEx,aL,aU,aK,U.v,bB,U.t,truth]
   exact q _ rfl
  rintro _ rfl;refine vL (LnI S ss ss.length) (λd=>d= .bl (ss.all nmB)) (λQ q V=>?_) ?_ (λd I h=>⟨d,rfl,h⟩)
  .have e1':itS (ak false 0) [some S,none]=some (true,ss.map D.str):=by simp[itS,ak,U.v,U.s]
   unfold iV;rw[e1'];simp![aN,aH];refine iB (LnI S ss) ⟨_,rfl,by simp⟩ ?_ (λρ h=>q _ (by rwa[X_]at h));rintro k d ρ J ⟨x1,rfl,Y⟩;rw[List.getElem?_map]at J;cases F:ss[k]? with
   |none=>rw[F]at J;cases J
   |some x=>
    rw[F]at J;cases J;have a1:=YD F;have Z:=B x a1;have a0:nmB x=false->ss.all nmB=false:=λz=>by
     rw[aez];exact⟨x,a1,by simp[z]⟩
    simp![tgN,clean,aA,az,Zj,Yx,aN,aH,YH,YQ];obtain⟨l,h5,h6⟩:=VD (ρ:=[some S,some (.str x)]) (i:=1) rfl Z;by_cases h1:(1:Int)<=x.length/\(x.length:Int)<=8
    .refine aY (λρ=>ρ=[some S,some (.str x)]) (λQ q=>?_) ?_
     .simp_arith[sEx,aL,aU,aK,Q8,truth,kE,xU Z,gLe,h1.1,h1.2]
      exact⟨rfl,q _ rfl⟩
     rintro _ rfl;generalize bT [none] (pM (ak false 1)) (tpN 0) eTT (e2 gIn (ak false 0) (eC (.str "abcdefghijklmnopqrstuvwxyz")))=E at h5⊢;simp_arith[sEx,aL,aU,aK,h5,h6,truth];have h7:nmB x=sgB x:=by simp[nmB,show 1<=x.length by omega,show x.length<=8 by omega]
     cases O:sgB x with
     |true=>exact⟨_,rfl,by rw[aeX,F,List.all_append,Y];simp[h7,O]⟩
     |false=>exact V _ _ (by rw[a0 (by rw[h7,O])])
    .have h7:nmB x=false:=by
      simp![nmB,Bool.and_eq_false_iff,decide_eq_false_iff_not];omega
     by_cases h9:(1:Int)<=x.length
     .have h10:¬(x.length:Int)<=8:=by omega
      simp_arith[sEx,aL,aU,aK,Q8,truth,kE,xU Z,gLe,h9,h10];exact⟨rfl,V _ _ (by rw[a0 h7])⟩
     .simp_arith[sEx,aL,aU,aK,Q8,truth,kE,xU Z,gLe,h9]
      exact⟨rfl,V _ _ (by rw[a0 h7])⟩
  rintro _ ⟨x1,rfl,h⟩;rw[ac2]at h;simp_arith[sEx,aL,aU,aK,h]
 obtain⟨_,e,rfl⟩:=W;exact e
theorem FQ:∀(l acc:List Key),(l.foldl jJ acc).length<=acc.length+l.length/\((l.foldl jJ acc).length=acc.length+l.length↔(∀x∈l,x∉acc)/\l.Nodup)
 |[],acc=>by simp
 |k::r,acc=>by
  rw[aeS];by_cases h:k∈acc
  .have e:jJ acc k=acc:=by unfold jJ;rw[Yi (qT.mpr h)]
   have:=FQ r acc;rw[e,Yd];refine⟨by omega,⟨λz=>by omega,λz=>absurd h (z.1 k (by simp))⟩⟩
  .have e:jJ acc k=acc++[k]:=by unfold jJ;rw[YB λz=>h (qT.mp z)]
   have:=FQ r (acc++[k]);rw[YW,abX]at this;rw[e,Yd];refine⟨by omega,?_⟩;rw[show acc.length+(r.length+1)=acc.length+1+r.length by omega,this.2,Yy];constructor
   .rintro⟨h1,h2⟩
    exact⟨λx B=>(Yj.mp B).elim (λz=>z▸h) λz y=>h1 x z (Ye _ y),λz=>h1 k z (by simp),h2⟩
   .rintro⟨h1,h2,h3⟩
    refine⟨λx B y=>(List.mem_append.mp y).elim (h1 x (YJ _ B)) λz=>?_,h3⟩;rw[List.mem_singleton.mp z]at B;exact h2 B
theorem Hb:dS l=l.length↔l.Nodup:=by
 have:=(FQ (l.map Yl) []).2;simp![Yt,aar,X_,List.not_mem_nil,not_false_eq_true,implies_true,true_and]at this;unfold dS tY;rw[this];simp[List.Nodup,List.pairwise_map]
def ed(js:List Jt)(p:Pt):Option (Str×Str):=if 0<=p.1 then(js[p.1.toNat]?).map λj=>if p.2=1 then(j.1,j.2.1)else(j.2.1,j.1)else none
def go(js:List Jt):Str->List Pt->Option Str
 |x,[]=>some x
 |x,p::r=>match ed js p with
  |some (b,e)=>if b=x then go js e r else none
  |none=>none
def st(js:List Jt)(b:Str):List Str->Str->List Pt->Bool
 |_,x,[]=>decide (x=b)
 |met,x,p::r=>match ed js p with
  |some (u,v)=>if u=x/\v∉met then st js b (met++[v]) v r else false
  |none=>false
def mt(js:List Jt)(ps:List Pt):List Str:=ps.map λp=>((ed js p).map (·.2)).getD ""
theorem GZ:∀{ps:List Pt}{met:List Str}{x:Str},met.Nodup->(st js b met x ps=true↔go js x ps=some b/\(met++mt js ps).Nodup)
 |[],met,x,h=>by simp[st,go,mt,h]
 |p::r,met,x,h=>by
  rw[st,go];cases B:ed js p with
  |none=>simp
  |some q=>
   obtain⟨u,v⟩:=q;have V:mt js (p::r)=v::mt js r:=by simp[mt,B]
   simp![];by_cases F:u=x
   .by_cases hv:v∈met
    .have:¬(met++v::mt js r).Nodup:=λz=>(Yr.mp z).2.2 v hv v (by simp) rfl
     rw[YB (λz=>z.2 hv),V];simp[this]
    .rw[Yi ⟨F,hv⟩,Yi F,GZ (List.nodup_append.mpr ⟨h,by simp,λa Y b U=>by rw[List.mem_singleton.mp U];exact λe=>hv (e▸Y)⟩),V,aah]
     rfl
   .rw[YB (λz=>F z.1),YB F]
    simp
def Sd1(p:Pt):Prop:=p.2=1∨p.2= -1
variable{p:Pt}
theorem rF(z:0<=p.1)(h1:p.1<js.length):∃j,js[p.1.toNat]? =some j/\ed js p=some (if p.2=1 then(j.1,j.2.1)else(j.2.1,j.1)):=by
 have h2:p.1.toNat<js.length:=by omega
 exact⟨js[p.1.toNat],X5 h2,by rw[ed,Yi z,X5 h2];rfl⟩
theorem zm(h:¬(0<=p.1/\p.1<js.length)):ed js p=none:=by
 unfold ed;split
 .rw[aac (by omega)];rfl
 .rfl
theorem jix(Y:JJ J js)(z:0<=p.1)(h1:p.1<js.length)(O:js[p.1.toNat]? =some j):gIx J (.int p.1)=some (jD j):=by
 obtain⟨x,_,h2,V⟩:=mF (f:=jD) (l:=js) z h1;rw[O]at h2;cases h2;rw[Y.x,V]
theorem JT{s:Int}:aX dH [jD j,.int s]=some (.tup [.str (if s=1 then(j.1,j.2.1)else(j.2.1,j.1)).1,.str (if s=1 then(j.1,j.2.1)else(j.2.1,j.1)).2]):=by
 refine call_of ?_ rfl;have W:Wp (dH (fzL [jD j,.int s])) λd=>d= .tup [.str (if s=1 then(j.1,j.2.1)else(j.2.1,j.1)).1,.str (if s=1 then(j.1,j.2.1)else(j.2.1,j.1)).2]:=by
  by_cases h:s=1
  .simp_arith[dH,sEx,aL,aU,aK,jD,eq_int,h,bB]
  .simp_arith[dH,sEx,aL,aU,aK,jD,eq_int,h,bB]
 obtain⟨_,e,rfl⟩:=W;exact e
def goD:Option Str->D
 |some y=>.str y
 |none=>.non
def LeI(J:D)(js:List Jt)(x:Str)(ps:List Pt)(k:Nat)(ρ:En):Prop:=∃(h:Str)(x4 x5 x6 Y:Option D),ρ=[some J,some (.str x),some (pT ps),some (.str h),x4,x5,x6,Y]/\go js h (ps.drop k)=go js x ps
theorem Wl(Y:JJ J js):iz [J,.str x,pT ps]=some (goD (go js x ps)):=by
 have W:Wp (iz [J,.str x,pT ps]) λd=>d=goD (go js x ps):=by
  have O:=iG ps;simp_arith![iz,fnP];refine aY (LeI J js x ps 0) (λQ q=>?_) ?_
  .simp[bI,ak,view,tgN,clean,aA,az,bR,aN,aH]
   exact q _ ⟨x,_,_,_,_,rfl,rfl⟩
  intro ρ0 z;refine vL (LeI J js x ps ps.length) (λd=>d=goD (go js x ps)) (λQ q V=>?_) ?_ (λd I h=>⟨d,rfl,h⟩)
  .have e1':itS (ak false 2) ρ0=some (true,ps.map ptD):=by
    obtain⟨h,x4,x5,x6,x7,rfl,_⟩:=z;simp![itS,ak,Yn,Yo,O.2.2.1,gD];simp[pT,gU,clean,aA,az,xx,xP,Dd]
   unfold iV;rw[e1'];simp![aN,aH];refine iB (LeI J js x ps) z ?_ (λρ h=>q _ (by rwa[X_]at h));rintro k d ρ hk ⟨h,x4,x5,x6,x7,rfl,B⟩;rw[List.getElem?_map]at hk;cases Z:ps[k]? with
   |none=>rw[Z]at hk;cases hk
   |some p=>
    rw[Z]at hk;cases hk;have a3:k<ps.length:=(List.getElem?_eq_some_iff.mp Z).1;have a2:ps.drop k=p::ps.drop (k+1):=by
     rw[←ZS a3,(List.getElem?_eq_some_iff.mp Z).2]
    rw[a2,go]at B;simp![ptD,tgT,aP,tgN,bM,clean,aA,az,aC,aD,Zj,and_self,Yx,aN,aH,YH,YQ,Yd,Yt];by_cases U:0<=p.1/\p.1<js.length
    .obtain⟨j,hj1,hj2⟩:=rF U.1 U.2
     rw[hj2]at B;refine aY (λρ=>ρ=[some J,some (.str x),some (pT ps),some (.str h),some (.int p.1),some (.int p.2),x6,x7]) (λQ q=>?_) ?_
     .simp[sIf,eOr,eB,e2,ak,eC,view,gLt,gGe,eAp,ao,aB,Y.v,Y.l,isB,aN,aH,bR,w_ite,bY,show ¬p.1<0 by omega,show ¬(js.length:Int)<=p.1 by omega]
      exact q _ rfl
     rintro _ rfl;have a4:=jix Y U.1 U.2 hj1;have a0:=JT (j:=j) (s:=p.2);generalize (if p.2=1 then(j.1,j.2.1)else(j.2.1,j.1))=uv at B a0;obtain⟨u,v⟩:=uv;refine aY (λρ=>ρ=[some J,some (.str x),some (pT ps),some (.str h),some (.int p.1),some (.int p.2),some (.str u),some (.str v)]) (λQ q=>?_) ?_
     .simp_arith[sEx,aL,aU,aK,-aX,Y.v,a4,a0]
      exact q _ rfl
     rintro _ rfl;by_cases F:u=h
     .simp![Yi F]at B
      simp_arith[sEx,aL,aU,aK,ne_str,F];exact⟨v,_,_,_,_,rfl,B⟩
     .simp![YB F]at B
      simp_arith[sEx,aL,aU,aK,ne_str,F];exact V _ _ (by rw[←B];rfl)
    .rw[zm U]at B
     by_cases a1:p.1<0
     .simp[vC,sIf,cD,eOr,eB,e2,ak,eC,view,gLt,gGe,eAp,ao,aB,Y.v,Y.l,isB,aN,aH,bR,w_ite,bY,a1,clean,aA,az]
      exact V _ _ (by rw[←B];rfl)
     .have h1':(js.length:Int)<=p.1:=by omega
      simp[vC,sIf,cD,eOr,eB,e2,ak,eC,view,gLt,gGe,eAp,ao,aB,Y.v,Y.l,isB,aN,aH,bR,w_ite,bY,a1,h1',clean,aA,az];exact V _ _ (by rw[←B];rfl)
  rintro _ ⟨h,x4,x5,x6,x7,rfl,B⟩;rw[ZM,go]at B;simp[jF,aH,←B,goD]
 obtain⟨_,e,rfl⟩:=W;exact e
theorem ne_ns:gNe .non (.str b)=some (.bl true):=by
 unfold gNe;rw[Yi ⟨rfl,rfl,.sc (.ns b)⟩];rfl
theorem Dc:∀{ps:List Pt}{x y:Str},go js x ps=some y->∀p∈ps,0<=p.1/\p.1<js.length
 |[],_,_,_,p,hp=>by simp at hp
 |q::r,x,y,h,p,hp=>by
  rw[go]at h;by_cases U:0<=q.1/\q.1<js.length
  .obtain⟨j,_,h2⟩:=rF U.1 U.2
   generalize (if q.2=1 then(j.1,j.2.1)else(j.2.1,j.1))=uv at h2;obtain⟨u,v⟩:=uv;rw[h2]at h;simp![]at h;split at h
   .rcases Yj.mp hp with rfl|hp
    .exact U
    .exact Dc h p hp
   .cases h
  .rw[zm U]at h
   cases h
theorem M3(ps:List Pt):gU (pT ps)=some (true,ps.map ptD):=by simp[pT,gU,clean,aA,az,xx,xP,Dd]
theorem Xe(Y:JJ J js):aX iz [J,.str x,pT ps]=some (goD (go js x ps)):=by
 have O:=iG ps;refine call_of ?_ (by cases go js x ps<;>rfl);simp![fzL,fz,Y.f,O.2.2.2.1];exact Wl Y
theorem Wy(Y:JJ J js)(Z:ps.length<=1000)(h:∀p∈ps,0<=p.1/\p.1<js.length):aX d_ [J,pT ps]=some (.lst .own ((mt js ps).map D.str)):=by
 have O:=iG ps;refine call_of ?_ (by
  have:∀l:List Str,bO (l.map D.str)=true:=by
   intro l
   induction l with
   |nil=>rfl
   |cons p r ih=>rw[X8,bO,ih];rfl
  simp[dh,this])
 simp![fzL,Y.f,O.2.2.2.1];have e6:il (tpT 2 (aP (tpN 0) (aP (tpN 1) bM))) eTT (e2 gIx (eAp (aX dH) (ao (e2 gIx (ak false 2) (ak false 0)) (ao (ak false 1) aB))) (eC (.int 1))) (gf [none,none,some 0] [some J,some (pT ps)]) (ps.map ptD)=some (((ps.map ptD).filter λ_=>true).map λd=>match d with|.tup [.int i,.int s]=>.str (((ed js (i,s)).map (·.2)).getD "")|_=>.non):=by
  refine fG λd hd=>?_;obtain⟨p,B,rfl⟩:=List.mem_map.mp hd;have U:=h p B;obtain⟨j,z,I⟩:=rF U.1 U.2;have a0:=jix Y U.1 U.2 z;have F:=JT (j:=j) (s:=p.2);have V:ed js (p.1,p.2)=some (if p.2=1 then(j.1,j.2.1)else(j.2.1,j.1)):=I;generalize (if p.2=1 then(j.1,j.2.1)else(j.2.1,j.1))=uv at V F;have q:∀u v:Str,gIx (.tup [.str u,.str v]) (.int 1)=some (.str v):=λu v=>rfl;simp[gf,ptD,tpT,aP,tpN,bM,aH,aN,w_ite,eTT,e2,ak,eC,eAp,ao,aB,view,Y.v,a0,F,V,q,clean,aA,az,aC,aD]
 have W:Wp (d_ [J,pT ps]) λd=>d= .lst .own ((mt js ps).map D.str):=by
  have e8:bT [none,none,some 0] (itS (ak false 1)) (tpT 2 (aP (tpN 0) (aP (tpN 1) bM))) eTT (e2 gIx (eAp (aX dH) (ao (e2 gIx (ak false 2) (ak false 0)) (ao (ak false 1) aB))) (eC (.int 1))) [some J,some (pT ps)]=some (.lst .own ((mt js ps).map D.str)):=by
   simp![bT,itS,ak,Yn,Yo,O.2.2.1,M3,gD,X_];rw[Yi (by omega),e6,filter_tt,Yq,mt,Yq];rfl
  simp_arith![d_,fnP];generalize bT [none,none,some 0] (itS (ak false 1)) (tpT 2 (aP (tpN 0) (aP (tpN 1) bM))) eTT (e2 gIx (eAp (aX dH) (ao (e2 gIx (ak false 2) (ak false 0)) (ao (ak false 1) aB))) (eC (.int 1)))=E at e8⊢;simp[cD,e8,aH,aN,bR,w_ite,clean,aA,az,cR,cB]
 obtain⟨_,e,rfl⟩:=W;exact e
theorem VG:cQ [.int i,.ty "int"]=some (.bl true)/\cQ [.int i,.ty "bool"]=some (.bl false):=⟨rfl,rfl⟩
theorem Xw{l:List D}:cQ [.tup l,.ty "tuple"]=some (.bl true):=rfl
theorem Hn:aX cP [.int i]=some (.bl true):=by
 refine call_of ?_ rfl;have W:Wp (cP (fzL [.int i])) λd=>d= .bl true:=by
  simp_arith[cP,sEx,aL,aU,aK,VG,Dz]
 obtain⟨_,e,rfl⟩:=W;exact e
theorem Sx(h:Sd1 p):aX cY [ptD p]=some (.bl true):=by
 refine call_of ?_ rfl;have F:aX eE [ptD p]=some (.bl true):=by
  refine call_of ?_ rfl;have W:Wp (eE (fzL [ptD p])) λd=>d= .bl true:=by
   simp_arith[eE,sEx,aL,aU,aK,ptD,Xw,cL,eq_int]
  obtain⟨_,e,rfl⟩:=W;exact e
 have z:gIn (.int p.2) (.tup [.int 1,.int (-1)])=some (.bl true):=by
  rcases h with h|h<;>rw[h]<;>rfl
 have J:fz (ptD p)=ptD p:=rfl;have V:view false (ptD p)=ptD p:=rfl;have B:gIx (ptD p) (.int 0)=some (.int p.1):=rfl;have q:gIx (ptD p) (.int 1)=some (.int p.2):=rfl;have W:Wp (cY (fzL [ptD p])) λd=>d= .bl true:=by
  simp_arith[cY,sEx,aL,aU,aK,-aX,J,V,F,B,q,Hn,bB,fW,z]
 obtain⟨_,e,rfl⟩:=W;exact e
theorem W7(Z:ps.length<=1000)(h:∀p∈ps,Sd1 p):aX gM [pT ps]=some (.bl true):=by
 have O:=iG ps;refine call_of ?_ rfl;simp![fzL,O.2.2.2.1];have D:il (tpN 0) eTT (eAp (aX cY) (ao (ak false 0) aB)) (gf [none] [some (pT ps)]) (ps.map ptD)=some (((ps.map ptD).filter λ_=>true).map λd=>.bl true):=by
  refine fG λd hd=>?_;obtain⟨p,B,rfl⟩:=List.mem_map.mp hd;have V:view false (ptD p)=ptD p:=rfl;have z:aA (ptD p)=true/\az (ptD p)=true:=⟨rfl,rfl⟩;simp[gf,tpN,aH,eTT,eAp,ao,aB,ak,V,z,Sx (h p B),clean]
 have W:Wp (gM [pT ps]) λd=>d= .bl true:=by
  have I:bT [none] (itS (ak false 0)) (tpN 0) eTT (eAp (aX cY) (ao (ak false 0) aB)) [some (pT ps)]=some (.lst .own (ps.map λ_=>.bl true)):=by
   simp![bT,itS,ak,Yn,Yo,O.2.2.1,M3,gD,X_];rw[Yi (by omega),D,filter_tt,Yq];rfl
  have F:p6 [.lst .own (ps.map λ_=>.bl true)]=some (.bl true):=by
   have:=my (λ_:Pt=>true) ps;simp[p6,this,abz]
  have q:cQ [pT ps,.ty "tuple"]=some (.bl true):=rfl;simp_arith![gM,fnP];generalize bT [none] (itS (ak false 0)) (tpN 0) eTT (eAp (aX cY) (ao (ak false 0) aB))=E at I⊢;simp_arith[sEx,aL,aU,aK,I,F,O.2.2.1,q]
 obtain⟨_,e,rfl⟩:=W;exact e
theorem Rp(Z:l.length<=1000)(U:SS (fz S) l):aX cU [S]=some (.bl (decide l.Nodup)):=by
 refine call_of ?_ rfl;simp![fzL];have W:Wp (cU [fz S]) λd=>d= .bl (decide l.Nodup):=by
  have:(decide ((dS l:Int)=(l.length:Int)))=decide l.Nodup:=by
   rw[Z6,Z1,Z1,←Hb];omega
  simp_arith[cU,sEx,aL,aU,aK,U.v,U.k Z,U.l,eq_int,this]
 obtain⟨_,e,rfl⟩:=W;exact e
theorem M9(Y:JJ J js)(Z:ps.length<=900)(h:∀p∈ps,Sd1 p):aX eF [J,.str a,.str b,pT ps]=some (.bl (st js b [a] a ps)):=by
 have O:=iG ps;refine call_of ?_ rfl;simp![fzL,fz,Y.f,O.2.2.2.1];have W:Wp (eF [J,.str a,.str b,pT ps]) λd=>d= .bl (st js b [a] a ps):=by
  have V:=W7 (ps:=ps) (by omega) h;have a0:=Xe (x:=a) (ps:=ps) Y;have U:=GZ (js:=js) (b:=b) (ps:=ps) (met:=[a]) (x:=a) (by simp);simp_arith![eF,fnP];by_cases B:go js a ps=some b
  .have hm:=Wy Y (by omega) (Dc B)
   refine aY (λρ=>ρ=[some J,some (.str a),some (.str b),some (pT ps)]) (λQ q=>?_) ?_
   .simp_arith[sEx,aL,aU,aK,-aX,Y.v,O.2.2.1,V,truth,a0,B,goD,ne_str]
    exact q _ rfl
   rintro _ rfl;have F:=Rp (S:=.lst .own ((a::mt js ps).map D.str)) (l:=a::mt js ps) (by simp[mt];omega) (by rw[show fz (.lst .own ((a::mt js ps).map D.str))= .lst .frz ((a::mt js ps).map D.str)by simp![fz,jU];rfl];exact SS.lst _);have I:st js b [a] a ps=decide (a::mt js ps).Nodup:=by
    rw[Z6,U,Z1];exact⟨λz=>z.2,λz=>⟨B,z⟩⟩
   rw[I];rw[X8]at F;simp![cD,eAp,ao,aB,e2,ak,Yn,Yo,view,Y.v,O.2.2.1,hm,gD,bL,dM];simp[aH,aN,bR,w_ite,aC,aD,aA,az,cR,cB,F,clean];intro z;simp[mt]at z;omega
  .have I:st js b [a] a ps=false:=by
    rw[Bool.eq_false_iff];exact λz=>B (U.mp z).1
   rw[I];cases a1:go js a ps with
   |none=>
    simp_arith[sEx,aL,aU,aK,-aX,Y.v,O.2.2.1,V,truth,a0,a1,goD,ne_ns]
   |some y=>
    have a2:¬y=b:=λz=>B (by rw[a1,z]);simp_arith[sEx,aL,aU,aK,-aX,Y.v,O.2.2.1,V,truth,a0,a1,goD,ne_str,a2]
 obtain⟨_,e,rfl⟩:=W;exact e
theorem zK:aX b7 [.int i]=some (.bl true):=by
 refine call_of ?_ rfl;have W:Wp (b7 (fzL [.int i])) λd=>d= .bl true:=by
  simp_arith[b7,sEx,aL,aU,aK,VG,Dz]
 obtain⟨_,e,rfl⟩:=W;exact e
theorem Gj{pre:List Str}:gIx (.lst m ((pre++[x]).map D.str)) (.int (-1))=some (.str x):=by
 have q:ixN ((pre++[x]).map D.str).length (-1)=some pre.length:=by
  unfold ixN;rw[X_,YW,abX];simp;omega
 simp![gIx,atI,q,gD];rw[Zi,Za (by simp)];simp
theorem Xg:gIn (.str x) (.lst m (l.map D.str))=some (.bl (decide (x∈l))):=by simp[gIn,qN,scV,jW,ni]
def LsE(J:D)(a b:Str)(ps:List Pt)(met:List Str)(x5 x6 Y:Option D):En:=[some J,some (.str a),some (.str b),some (pT ps),some (.lst .own (met.map D.str)),x5,x6,Y]
def LsI(J:D)(js:List Jt)(a b:Str)(ps:List Pt)(k:Nat)(ρ:En):Prop:=∃(pre:List Str)(x:Str)(x5 x6 Y:Option D),ρ=LsE J a b ps (pre++[x]) x5 x6 Y/\pre.length<=k/\st js b (pre++[x]) x (ps.drop k)=st js b [a] a ps
theorem D_(Y:JJ J js)(Z:ps.length<=900)(h:∀p∈ps,Sd1 p):bH [J,.str a,.str b,pT ps]=some (.bl (st js b [a] a ps)):=by
 have W:Wp (bH [J,.str a,.str b,pT ps]) λd=>d= .bl (st js b [a] a ps):=by
  have O:=iG ps;simp_arith![bH,fnP];have b5:cQ [pT ps,.ty "tuple"]=some (.bl true):=rfl;refine aY (λρ=>ρ=[some J,some (.str a),some (.str b),some (pT ps),none,none,none,none]) (λQ q=>?_) ?_
  .simp_arith[sEx,aL,aU,aK,O.2.2.1,b5,truth]
   exact q _ rfl
  rintro _ rfl;refine aY (LsI J js a b ps 0) (λQ q=>?_) ?_
  .simp_arith[sEx,aL,aU,aK,bL]
   exact q _ ⟨[],a,_,_,_,rfl,Nat.le_refl _,rfl⟩
  intro ρ0 h0;refine vL (LsI J js a b ps ps.length) (λd=>d= .bl (st js b [a] a ps)) (λQ q hR=>?_) ?_ (λd I h=>⟨d,rfl,h⟩)
  .have e1':itS (ak false 3) ρ0=some (true,ps.map ptD):=by
    obtain⟨pre,x,x5,x6,x7,rfl,_⟩:=h0;simp![LsE,itS,ak,Yn,Yo,O.2.2.1,gD,M3]
   unfold iV;rw[e1'];simp![aN,aH];refine iB (LsI J js a b ps) h0 ?_ (λρ h=>q _ (by rwa[X_]at h));rintro k d ρ hk ⟨pre,x,x5,x6,x7,rfl,b7,B⟩;rw[List.getElem?_map]at hk;cases a3:ps[k]? with
   |none=>rw[a3]at hk;cases hk
   |some p=>
    rw[a3]at hk;cases hk;have b3:k<ps.length:=(List.getElem?_eq_some_iff.mp a3).1;have a9:Sd1 p:=h p (YD a3);have b1:ps.drop k=p::ps.drop (k+1):=by
     rw[←ZS b3,(List.getElem?_eq_some_iff.mp a3).2]
    rw[b1,st]at B;have V:view false (ptD p)=ptD p:=rfl;have i0:gIx (ptD p) (.int 0)=some (.int p.1):=rfl;have i1:gIx (ptD p) (.int 1)=some (.int p.2):=rfl;have a7:aA (ptD p)=true/\az (ptD p)=true:=⟨rfl,rfl⟩;have b0:cQ [ptD p,.ty "tuple"]=some (.bl true):=rfl;have b2:cL [ptD p]=some (.int 2):=rfl;have b4:e_ (.int p.2) (.tup [.int 1,.int (-1)])=some (.bl false):=by
     rcases a9 with z|z<;>rw[z]<;>rfl
    simp![tgN,clean,a7.1,a7.2,Zj,Yx,aN,aH,LsE,YH,YQ];refine aY (λρ=>ρ=LsE J a b ps (pre++[x]) (some (ptD p)) x6 x7) (λQ q=>?_) ?_
    .obtain⟨M,hM⟩:∃M,M=D.lst .own ((pre++[x]).map D.str):=⟨_,rfl⟩
     simp![LsE]at q;rw[←hM]at q⊢;simp_arith[sEx,aL,aU,aK,-aX,V,b0,b2,i0,i1,zK,truth,ne_int];exact q _ rfl
    rintro _ rfl;by_cases U:0<=p.1/\p.1<js.length
    .obtain⟨j,hj1,hj2⟩:=rF U.1 U.2
     rw[hj2]at B;refine aY (λρ=>ρ=LsE J a b ps (pre++[x]) (some (ptD p)) x6 x7) (λQ q=>?_) ?_
     .obtain⟨M,hM⟩:∃M,M=D.lst .own ((pre++[x]).map D.str):=⟨_,rfl⟩
      simp![LsE]at q⊢;rw[←hM]at q⊢;simp_arith[sEx,aL,aU,aK,V,i0,i1,Y.v,Y.l,kE,gLe,gLt,U.1,U.2,bB,fW,b4];exact⟨rfl,q _ rfl⟩
     rintro _ rfl;have b6:=jix Y U.1 U.2 hj1;have a8:qW (.tup [.str j.1,.str j.2.1]) (.int p.2)=some (.tup [.str (if p.2=1 then(j.1,j.2.1)else(j.2.1,j.1)).1,.str (if p.2=1 then(j.1,j.2.1)else(j.2.1,j.1)).2]):=by
      rcases a9 with z|z<;>rw[z]<;>rfl
     generalize (if p.2=1 then(j.1,j.2.1)else(j.2.1,j.1))=uv at B a8;obtain⟨u,v⟩:=uv;refine aY (λρ=>ρ=LsE J a b ps (pre++[x]) (some (ptD p)) (some (.str u)) (some (.str v))) (λQ q=>?_) ?_
     .obtain⟨M,hM⟩:∃M,M=D.lst .own ((pre++[x]).map D.str):=⟨_,rfl⟩
      simp![LsE]at q⊢;rw[←hM]at q⊢;simp_arith[sEx,aL,aU,aK,V,i0,i1,Y.v,b6,Wi,a8];exact q _ rfl
     rintro _ rfl;have a2:=Gj (m:=.brw) (pre:=pre) (x:=x);have a5:=Xg (m:=.brw) (l:=pre++[x]) (x:=v);have a4:view false (.lst .own ((pre++[x]).map D.str))= .lst .brw ((pre++[x]).map D.str):=by simp![view,cu];rfl
     by_cases F:u=x/\v∉pre++[x]
     .simp![Yi F]at B
      refine aY (λρ=>ρ=LsE J a b ps (pre++[x]) (some (ptD p)) (some (.str u)) (some (.str v))) (λQ q=>?_) ?_
      .obtain⟨M,hM⟩:∃M,M=D.lst .own ((pre++[x]).map D.str):=⟨_,rfl⟩
       have a1:view false M= .lst .brw ((pre++[x]).map D.str):=by rw[hM];exact a4
       simp![LsE]at q⊢;rw[←hM]at q⊢;simp![sIf,bY,eOr,eB,e2,e1,eC,fW,ak,Yn,Yo,view,a1,a2,a5,ne_str,isB,gD,aN,aH,ZR F.1,YL F.2,acA,Zb,aaa];exact q _ rfl
      rintro _ rfl;simp_arith[sEx,aL,aU,aK,LsE,cJ];exact⟨by omega,pre++[x],v,some (ptD p),some (.str u),some (.str v),by simp[LsE],by simp;omega,B⟩
     .simp![YB F]at B
      rw[vC];have a0:∀I,Q (.ret (.bl false) I):=λI=>hR _ _ (by rw[←B]);obtain⟨M,hM⟩:∃M,M=D.lst .own ((pre++[x]).map D.str):=⟨_,rfl⟩;have a1:view false M= .lst .brw ((pre++[x]).map D.str):=by rw[hM];exact a4
      simp![LsE];rw[←hM];by_cases a6:u=x
      .have hv:v∈pre++[x]:=Classical.not_not.mp λz=>F ⟨a6,z⟩
       simp![sIf,bY,cD,eOr,eB,e2,e1,eC,fW,ak,Yn,Yo,view,a1,a2,a5,ne_str,isB,gD,aN,aH,ZR a6,ZR hv,acA,Zb,aaa,Yx,clean,aA,az,Zj,bR];exact a0 _
      .simp![sIf,bY,cD,eOr,eB,e2,e1,eC,fW,ak,Yn,Yo,view,a1,a2,a5,ne_str,isB,gD,aN,aH,YL a6,ach,Yx,clean,aA,az,Zj,bR]
       exact a0 _
    .rw[zm U]at B
     have a0:∀I,Q (.ret (.bl false) I):=λI=>hR _ _ (by rw[←B]);obtain⟨M,hM⟩:∃M,M=D.lst .own ((pre++[x]).map D.str):=⟨_,rfl⟩;simp![LsE];rw[←hM];by_cases h1:0<=p.1
     .have h2:¬p.1<js.length:=λz=>U ⟨h1,z⟩
      simp_arith[sEx,aL,aU,aK,V,i0,i1,Y.v,Y.l,kE,gLe,gLt,h1,h2];exact⟨rfl,a0 _⟩
     .simp_arith[sEx,aL,aU,aK,V,i0,i1,Y.v,Y.l,kE,gLe,gLt,h1]
      exact⟨rfl,a0 _⟩
  rintro _ ⟨pre,x,x5,x6,x7,rfl,_,B⟩;rw[ZM,st]at B;have a2:=Gj (m:=.brw) (pre:=pre) (x:=x);have a4:view false (.lst .own ((pre++[x]).map D.str))= .lst .brw ((pre++[x]).map D.str):=by simp![view,cu];rfl
  obtain⟨M,hM⟩:∃M,M=D.lst .own ((pre++[x]).map D.str):=⟨_,rfl⟩;have a1:view false M= .lst .brw ((pre++[x]).map D.str):=by rw[hM];exact a4
  simp![LsE];rw[←hM];simp![cD,e2,e1,eC,fW,ak,Yn,Yo,view,a1,a2,eq_str,gD,aN,aH];simp[aH,bR,aN,w_ite,clean,aA,az,B]
 obtain⟨_,e,rfl⟩:=W;exact e
def oH(ss:List Str)(j:Jt):Bool:=decide (j.1∈ss)==decide (j.2.1∈ss)
def rD(n:Int)(ps:List Pt):Bool:=ps.any λp=>decide (n<p.1)
def lW(js:List Jt)(a b:Str)(ss:List Str):Bool:=decide ss.Nodup&&(decide (a∈ss)&& !decide (b∈ss))&&js.all (oH ss)
def lE(js:List Jt)(a b:Str)(n:Int)(ps:List Pt)(ss:List Str):Bool:=ss.all nmB&&(if n= -1 then decide (a=b)&&(ps.isEmpty&&ss.isEmpty)else st js b [a] a ps&&(!rD n ps&&lW (js.take n.toNat) a b ss))
theorem Ua(js:List Jt)(n:Int):∃q,cutD (js.map jD) none (some n)=q.map jD/\q.length<=js.length/\(0<=n->q=js.take n.toNat):=by
 by_cases h:0<=n
 .obtain⟨k,rfl⟩:∃k:Nat,n=k:=⟨n.toNat,by omega⟩
  exact⟨js.take k,by rw[sr,aak],by rw[YX];omega,λ_=>by simp⟩
 .refine⟨(js.drop (HT.sIx (js.map jD).length 0 none)).take (HT.sIx (js.map jD).length (js.map jD).length (some n)-HT.sIx (js.map jD).length 0 none),?_,by rw[YX,aaH];omega,λz=>absurd z h⟩
  unfold cutD;rw[aak,acD]
theorem XH(Y:J= .lst .frz (js.map jD)∨J= .tup (js.map jD))(n:Int):∃z q,gSl J none (some n)=some z/\JJ (fz z) q/\aA z=true/\az z=true/\q.length<=js.length/\(0<=n->q=js.take n.toNat):=by
 obtain⟨q,h1,h2⟩:=Ua js n;rcases Y with rfl|rfl
 .exact⟨.lst .own (q.map jD),q,by rw[gSl,h1],by simpa[fz,mR,mkF]using JJ.lst q,by simp[aA,mK],by simp[az,kZ],h2⟩
 .exact⟨.tup (q.map jD),q,by rw[gSl,h1],by simpa[fz,mR]using JJ.tup q,by simp[aA,mK],by simp[az,kZ],h2⟩
theorem Oq(Y:JJ (fz J) js)(U:SS S ss)(Z:ss.length<=1000)(z:js.length<=1000):aX gG [J,.str a,.str b,S]=some (.bl (lW js a b ss)):=by
 refine call_of ?_ rfl;simp![fzL,fz,U.f];generalize fz J=J at Y;have F:=Rp (S:=S) (l:=ss) Z (by rw[U.f];exact U);have q:il (tpT 3 (aP (tpN 0) (aP (tpN 1) (aP (tpN 2) bM)))) eTT (e2 gEq (e2 gIn (ak false 0) (ak false 3)) (e2 gIn (ak false 1) (ak false 3))) (gf [none,none,none,some 3] [some J,some (.str a),some (.str b),some S]) (js.map jD)=some (((js.map jD).filter λ_=>true).map λd=>match d with|.tup [.str x,.str y,_]=>.bl (oH ss (x,y,0))|_=>.non):=by
  refine fG λd hd=>?_;obtain⟨j,O,rfl⟩:=List.mem_map.mp hd;simp[gf,jD,tpT,aP,tpN,bM,aH,aN,w_ite,eTT,e2,ak,view,U.v,U.i,Wo,oH,clean,aA,az,aC,aD]
 have I:bT [none,none,none,some 3] (itS (ak false 0)) (tpT 3 (aP (tpN 0) (aP (tpN 1) (aP (tpN 2) bM)))) eTT (e2 gEq (e2 gIn (ak false 0) (ak false 3)) (e2 gIn (ak false 1) (ak false 3))) [some J,some (.str a),some (.str b),some S]=some (.lst .own (js.map λj=>.bl (oH ss j))):=by
  simp![bT,itS,ak,Yn,Yo,Y.v,Y.s,gD,X_];rw[Yi (by omega),q,filter_tt,Yq];rfl
 have B:p6 [.lst .own (js.map λj=>.bl (oH ss j))]=some (.bl (js.all (oH ss))):=by
  have:=my (oH ss) js;simp[p6,this,abz]
 have W:Wp (gG [J,.str a,.str b,S]) λd=>d= .bl (lW js a b ss):=by
  simp_arith![gG,fnP];generalize bT [none,none,none,some 3] (itS (ak false 0)) (tpT 3 (aP (tpN 0) (aP (tpN 1) (aP (tpN 2) bM)))) eTT (e2 gEq (e2 gIn (ak false 0) (ak false 3)) (e2 gIn (ak false 1) (ak false 3)))=E at I⊢;by_cases h1:ss.Nodup<;>by_cases h2:a∈ss<;>by_cases V:b∈ss<;>simp_arith[sEx,aL,aU,aK,-aX,F,U.v,U.n,U.i,truth,h1,h2,V,I,B,lW]
 obtain⟨_,e,rfl⟩:=W;exact e
theorem R_(Z:ps.length<=1000)(F:ρ[4]? =some (some (pT ps)))(V:ρ[3]? =some (some (.int n))):∃l,bT [none,none,some 3] (itS (ak false 4)) (tpT 2 (aP (tpN 0) (aP (tpN 1) bM))) eTT (e2 gGt (ak false 0) (ak false 2)) ρ=some (.lst .own l)/\Cq [.lst .own l]=some (.bl (rD n ps)):=by
 have O:=iG ps;have q:il (tpT 2 (aP (tpN 0) (aP (tpN 1) bM))) eTT (e2 gGt (ak false 0) (ak false 2)) (gf [none,none,some 3] ρ) (ps.map ptD)=some (((ps.map ptD).filter λ_=>true).map λd=>match d with|.tup [.int i,_]=>.bl (decide (n<i))|_=>.non):=by
  refine fG λd hd=>?_;obtain⟨p,B,rfl⟩:=List.mem_map.mp hd;simp[gf,V,ptD,tpT,aP,tpN,bM,aH,aN,w_ite,eTT,e2,ak,view,gGt,clean,aA,az,aC,aD]
 refine⟨ps.map λp=>.bl (decide (n<p.1)),?_,?_⟩
 .simp![bT,itS,ak,F,O.2.2.1,M3,gD,X_]
  rw[Yi (by omega),q,filter_tt,Yq];rfl
 .have:=my (λp:Pt=>decide (n<p.1)) ps
  simp![Cq,this,YM,rD,acY,aaj,id];rfl
theorem Oe(Y:J= .lst .frz (js.map jD)∨J= .tup (js.map jD))(U:SS S ss)(hl:ss.length<=1000)(b1:js.length<=1000)(a9:ps.length<=900)(B:∀x∈ss,x.length<=1000)(a8:∀p∈ps,Sd1 p):cA [J,.str a,.str b,.int n,pT ps,S]=some (.bl (lE js a b n ps ss)):=by
 have a3:JJ J js:=by rcases Y with rfl|rfl;exact JJ.lst js;exact JJ.tup js
 have O:=iG ps;have I:=call_of (F:=dD) (ds:=[S]) (by simp![fzL,U.f];exact Qe U hl B) rfl;have V:=M9 (a:=a) (b:=b) a3 a9 a8;obtain⟨J',a7,Z,s2,s3,s4,s6,s5⟩:=XH Y n;have a6:=Oq (a:=a) (b:=b) s2 U hl (by omega);have a5:cL [pT ps]=some (.int ps.length):=by simp[pT,cL]
 have a1:ps=[]->st js b [a] a ps=decide (a=b):=λz=>by rw[z];rfl
 have W:Wp (cA [J,.str a,.str b,.int n,pT ps,S]) λd=>d= .bl (lE js a b n ps ss):=by
  simp_arith![cA,fnP];cases h1:ss.all nmB with
  |false=>
   rw[h1]at I;simp_arith[sEx,aL,aU,aK,-aX,Hn,I,U.v,truth,lE,h1]
  |true=>
   rw[h1]at I;cases h2:st js b [a] a ps with
   |false=>
    rw[h2]at V;have a2:lE js a b n ps ss=false:=by
     unfold lE;rw[h1,h2];cases ps with
     |nil=>
      have:=a1 rfl;rw[h2]at this;simp[←this]
     |cons p r=>simp
    rw[a2];simp_arith[sEx,aL,aU,aK,-aX,Hn,I,V,U.v,a3.v,O.2.2.1,truth]
   |true=>
    rw[h2]at V;refine aY (λρ=>ρ=[some J,some (.str a),some (.str b),some (.int n),some (pT ps),some S]) (λQ q=>?_) ?_
    .simp_arith[sEx,aL,aU,aK,-aX,Hn,I,V,U.v,a3.v,O.2.2.1,truth]
     exact q _ rfl
    rintro _ rfl;by_cases a0:n= -1
    .have a2:lE js a b n ps ss=(ps.isEmpty&&ss.isEmpty):=by
      unfold lE;rw[h1,Yi a0];cases ps with
      |nil=>
       have:=a1 rfl;rw[h2]at this;simp[←this]
      |cons p r=>simp
     rw[a2];cases ps with
     |nil=>cases ss with
      |nil=>simp_arith[sEx,aL,aU,aK,eq_int,a0,fW,O.2.2.1,a5,U.v,U.l]
      |cons x r=>simp_arith[sEx,aL,aU,aK,eq_int,a0,fW,O.2.2.1,a5,U.v,U.l];omega
     |cons p r=>simp_arith[sEx,aL,aU,aK,eq_int,a0,fW,O.2.2.1,a5,U.v,U.l];omega
    .refine aY (λρ=>ρ=[some J,some (.str a),some (.str b),some (.int n),some (pT ps),some S]) (λQ q=>?_) ?_
     .simp_arith[sEx,aL,aU,aK,eq_int,a0,fW]
      exact q _ rfl
     rintro _ rfl;obtain⟨l,o1,o2⟩:=R_ (ρ:=[some J,some (.str a),some (.str b),some (.int n),some (pT ps),some S]) (n:=n) (ps:=ps) (by omega) rfl rfl;generalize bT [none,none,some 3] (itS (ak false 4)) (tpT 2 (aP (tpN 0) (aP (tpN 1) bM))) eTT (e2 gGt (ak false 0) (ak false 2))=E at o1⊢;cases ho:rD n ps with
     |true=>
      rw[ho]at o2;simp_arith[sEx,aL,aU,aK,o1,o2,truth,lE,a0,ho]
     |false=>
      rw[ho]at o2;have a2:lE js a b n ps ss=lW a7 a b ss:=by
       unfold lE;rw[h1,h2,YB a0,ho];by_cases h0:0<=n
       .rw[s5 h0];simp
       .have hps:ps=[]:=by
         cases ps with
         |nil=>rfl
         |cons p r=>
          have b0:=((GZ (by simp)).mp h2).1;have:=Dc b0 p (by simp);simp[rD]at ho;omega
        have a4:=a1 hps;rw[h2]at a4;have a4:a=b:=by simpa using a4.symm
        simp[lW,a4]
      rw[a2];generalize aX gG=GP at a6⊢;simp_arith[sEx,aL,aU,aK,o1,o2,truth,a3.v,U.v,Z,s3,s4,a6]
 obtain⟨_,e,rfl⟩:=W;exact e
theorem UT:gEq (pT ps) (.tup [])=some (.bl ps.isEmpty):=by
 have hd:iM (pT ps)=true:=by
  have:∀l:List Pt,iJ (l.map ptD)=true:=by
   intro l
   induction l with
   |nil=>rfl
   |cons p r J=>rw[X8,iJ,J];rfl
  rw[pT,iM];exact this ps
 unfold gEq;rw[Yi ⟨hd,rfl,by simp![pT,dt,dtL];exact .tup (by simp)⟩];cases ps with
 |nil=>rfl
 |cons j r=>rfl
theorem Oi(Z:ps.length<=1000)(F:ρ[4]? =some (some (pT ps)))(V:ρ[3]? =some (some (.int n))):∃l,bT [none,some 3] (itS (ak false 4)) (tpN 0) eTT (e2 gGt (e2 gIx (ak false 0) (eC (.int 0))) (ak false 1)) ρ=some (.lst .own l)/\Cq [.lst .own l]=some (.bl (rD n ps)):=by
 have O:=iG ps;have q:il (tpN 0) eTT (e2 gGt (e2 gIx (ak false 0) (eC (.int 0))) (ak false 1)) (gf [none,some 3] ρ) (ps.map ptD)=some (((ps.map ptD).filter λ_=>true).map λd=>match d with|.tup [.int i,_]=>.bl (decide (n<i))|_=>.non):=by
  refine fG λd hd=>?_;obtain⟨p,z,rfl⟩:=List.mem_map.mp hd;have D:view false (ptD p)=ptD p:=rfl;have B:gIx (ptD p) (.int 0)=some (.int p.1):=rfl;have U:aA (ptD p)=true/\az (ptD p)=true:=⟨rfl,rfl⟩;simp[gf,V,tpN,aH,eTT,e2,ak,eC,D,B,view,gGt,clean,U];rfl
 refine⟨ps.map λp=>.bl (decide (n<p.1)),?_,?_⟩
 .simp![bT,itS,ak,F,O.2.2.1,M3,gD,X_]
  rw[Yi (by omega),q,filter_tt,Yq];rfl
 .have:=my (λp:Pt=>decide (n<p.1)) ps
  simp![Cq,this,YM,rD,acY,aaj,id];rfl
def DuE(J:D)(a b:Str)(n:Int)(ps:List Pt)(S:D)(x6 Y:Option D):En:=[some J,some (.str a),some (.str b),some (.int n),some (pT ps),some S,x6,Y]
def DuI(J:D)(js:List Jt)(a b:Str)(n:Int)(ps:List Pt)(S:D)(ss:List Str)(k:Nat)(ρ:En):Prop:=∃x6 Y,ρ=DuE J a b n ps S x6 Y/\∀i j,i<k->js[i]? =some j->(i:Int)<n->oH ss j=true
theorem Xc(hJ:JJ J js)(hE:∀f ρ,f ρ=some [J]->uA f ρ=some (true,jO 0 (js.map jD)))(hS:SS S ss)(Z:ss.length<=1000)(b6:ps.length<=900)(B:∀x∈ss,x.length<=1000)(b4:∀p∈ps,Sd1 p):bU [J,.str a,.str b,.int n,pT ps,S]=some (.bl (lE js a b n ps ss)):=by
 have O:=iG ps;have hn:=call_of (F:=bV) (ds:=[S]) (by simp![fzL,hS.f];exact Mp hS B) rfl;have V:=call_of (F:=bH) (ds:=[J,.str a,.str b,pT ps]) (by simp![fzL,fz,hJ.f,O.2.2.2.1];exact D_ hJ b6 b4) rfl;have b9:(decide ((dS ss:Int)=(ss.length:Int)))=decide ss.Nodup:=by
  rw[Z6,Z1,Z1,←Hb];omega
 have W:Wp (bU [J,.str a,.str b,.int n,pT ps,S]) λd=>d= .bl (lE js a b n ps ss):=by
  simp_arith![bU,fnP];generalize aX bH=GS at V⊢;generalize aX bV=GN at hn⊢;cases h1:ss.all nmB with
  |false=>
   rw[h1]at hn;simp_arith[sEx,aL,aU,aK,-aX,zK,hn,hS.v,truth,lE,h1]
  |true=>
   rw[h1]at hn;refine aY (λρ=>ρ=DuE J a b n ps S none none) (λQ q=>?_) ?_
   .simp_arith[sEx,aL,aU,aK,-aX,zK,hn,hS.v,truth]
    exact q _ rfl
   rintro _ rfl;by_cases a2:n= -1
   .have hdu:lE js a b n ps ss=(decide (a=b)&&(ps.isEmpty&&ss.isEmpty)):=by
     unfold lE;rw[h1,Yi a2,ad0]
    rw[hdu];have b2:decide ((ss.length:Int)=0)=ss.isEmpty:=by cases ss<;>simp;omega
    by_cases a0:a=b<;>cases b8:ps.isEmpty<;>simp_arith[sEx,aL,aU,aK,DuE,eq_int,eq_str,a2,fW,O.2.2.1,bB,UT,hS.v,hS.l,a0,b8,b2]<;>(cases ss<;>simp)
   .have hdu:lE js a b n ps ss=(st js b [a] a ps&&(!rD n ps&&lW (js.take n.toNat) a b ss)):=by
     unfold lE;rw[h1,YB a2,ad0]
    rw[hdu];refine aY (λρ=>ρ=DuE J a b n ps S none none) (λQ q=>?_) ?_
    .simp_arith[sEx,aL,aU,aK,DuE,eq_int,a2,fW]
     exact q _ rfl
    rintro _ rfl;cases h2:st js b [a] a ps with
    |false=>
     rw[h2]at V;simp_arith[sEx,aL,aU,aK,-aX,DuE,V,hJ.v,O.2.2.1,truth]
    |true=>
     rw[h2]at V;by_cases a3:ss.Nodup
     .have hdn:dS ss=ss.length:=Hb.mpr a3
      refine aY (λρ=>ρ=DuE J a b n ps S none none) (λQ q=>?_) ?_
      .simp_arith[sEx,aL,aU,aK,-aX,DuE,V,hJ.v,O.2.2.1,truth,hS.v,hS.k Z,hS.l,ne_int,hdn]
       exact q _ rfl
      rintro _ rfl;obtain⟨l,o1,o2⟩:=Oi (ρ:=DuE J a b n ps S none none) (n:=n) (ps:=ps) (by omega) rfl rfl;simp![DuE]at o1;generalize bT [none,some 3] (itS (ak false 4)) (tpN 0) eTT (e2 gGt (e2 gIx (ak false 0) (eC (.int 0))) (ak false 1))=E at o1⊢;cases ho:rD n ps with
      |true=>
       rw[ho]at o2;simp_arith[sEx,aL,aU,aK,DuE,o1,o2,truth]
      |false=>
       rw[ho]at o2;by_cases a0:a∈ss/\b∉ss
       .refine aY (λρ=>ρ=DuE J a b n ps S none none) (λQ q=>?_) ?_
        .simp_arith[sEx,aL,aU,aK,DuE,o1,o2,truth,hS.v,hS.n,hS.i,a0.1,a0.2]
         exact q _ rfl
        rintro _ rfl;have b3:lW (js.take n.toNat) a b ss=(js.take n.toNat).all (oH ss):=by simp[lW,a3,a0.1,a0.2]
        simp![ach,ad0];rw[b3];refine vL (DuI J js a b n ps S ss js.length) (λd=>d= .bl ((js.take n.toNat).all (oH ss))) (λQ q hR=>?_) ?_ (λd I h=>⟨d,rfl,h⟩)
        .have e1':uA (ao (ak false 0) aB) (DuE J a b n ps S none none)=some (true,jO 0 (js.map jD)):=hE _ _ (by simp[DuE,ak,ao,aB,hJ.v])
         unfold iV;rw[e1'];simp![aN,aH];refine iB (DuI J js a b n ps S ss) ⟨_,_,rfl,λi j hi=>by omega⟩ ?_ (λρ h=>q _ (by rw[lV]at h;simpa using h));rintro k d ρ hk ⟨x6,x7,rfl,Y⟩;rw[jY,List.getElem?_map]at hk;cases a1:js[k]? with
         |none=>simp[a1]at hk
         |some j=>
          obtain rfl:D.tup [.int (k:Int),jD j]=d:=by simpa[a1]using hk
          have a8:view false (jD j)=jD j:=rfl;have a7:aA (jD j)=true/\az (jD j)=true:=⟨rfl,rfl⟩;have j0:gIx (jD j) (.int 0)=some (.str j.1):=rfl;have j1:gIx (jD j) (.int 1)=some (.str j.2.1):=rfl;simp![DuE,tgT,aP,tgN,bM,clean,aA,az,aC,aD,a7.1,a7.2,Zj,and_self,Yx,aN,aH,YH,YQ,Yd,Yt];have b7:∀Q:Prop,(((k:Int)<n->oH ss j=true)->Q)->((k:Int)<n->oH ss j=true)->Q:=λ_ f h=>f h;have b0:((k:Int)<n->oH ss j=true)->DuI J js a b n ps S ss (k+1) [some J,some (.str a),some (.str b),some (.int n),some (pT ps),some S,some (.int k),some (jD j)]:=λh=>⟨_,_,rfl,λi j' hi a4 a9=>by
           by_cases b5:i<k
           .exact Y i j' b5 a4 a9
           .have:i=k:=by omega
            subst this;rw[a1]at a4;cases a4;exact h a9⟩
          by_cases h8:(k:Int)<n
          .cases h9:oH ss j with
           |true=>
            have a5:(!(decide (j.1∈ss)==decide (j.2.1∈ss)))=false:=by rw[show(decide (j.1∈ss)==decide (j.2.1∈ss))=true from h9];rfl
            simp![sIf,bY,lC,eB,e2,eC,ak,Yn,Yo,view,hS.v,a8,j0,j1,hS.i,gLt,xZ,a5,isB,gD,aN,aH,ZR h8,Zb,Yx,aaa];exact b0 λ_=>h9
           |false=>
            have a5:(!(decide (j.1∈ss)==decide (j.2.1∈ss)))=true:=by rw[show(decide (j.1∈ss)==decide (j.2.1∈ss))=false from h9];rfl
            have a6:(js.take n.toNat).all (oH ss)=false:=by
             rw[aez];exact⟨j,YD (i:=k) (by rw[aeo,Yi (by omega),a1]),by simp[h9]⟩
            simp![sIf,bY,cD,lC,eB,e2,eC,ak,Yn,Yo,view,hS.v,a8,j0,j1,hS.i,gLt,xZ,a5,isB,gD,aN,aH,bR,ZR h8,Yx,clean,aA,az,Zj];exact hR _ _ (by rw[a6])
          .simp![sIf,bY,lC,eB,e2,eC,ak,Yn,Yo,view,hS.v,gLt,isB,gD,aN,aH,YL h8,Zb,aaa]
           exact b0 λz=>absurd z h8
        rintro _ ⟨x6,x7,rfl,Y⟩;have a6:(js.take n.toNat).all (oH ss)=true:=by
         rw[abg];intro j hj;obtain⟨i,hi,e⟩:=List.getElem_of_mem hj;rw[List.getElem_take]at e;rw[YX]at hi;exact Y i j (by omega) (by rw[←e];exact X5 (by omega)) (by omega)
        simp_arith[sEx,aL,aU,aK,a6]
       .have:lW (js.take n.toNat) a b ss=false:=by
         simp![lW];by_cases Y:a∈ss<;>by_cases U:b∈ss<;>simp[Y,U]<;>exact absurd ⟨Y,U⟩ a0
        rw[this];by_cases Y:a∈ss<;>by_cases U:b∈ss<;>simp_arith[sEx,aL,aU,aK,DuE,o1,o2,truth,hS.v,hS.n,hS.i,Y,U]<;>exact absurd ⟨Y,U⟩ a0
     .have hdn:¬dS ss=ss.length:=λz=>a3 (Hb.mp z)
      have b1:¬(dS ss:Int)=(ss.length:Int):=by omega
      simp_arith[sEx,aL,aU,aK,-aX,DuE,V,hJ.v,O.2.2.1,truth,hS.v,hS.k Z,hS.l,ne_int,b1,lW,a3]
 obtain⟨_,e,rfl⟩:=W;exact e
variable{C:Str->Prop}
theorem Cld.take{m n:Nat}(h:Cld (js.take n) C)(q:m<=n):Cld (js.take m) C:=λj O=>by
 have:js.take m=(js.take n).take m:=by rw[List.take_take,adb q]
 rw[this]at O;exact h j (Zz O)
theorem DQ{n:Nat}(B:Cld (js.take n) C):∀{ps:List Pt}{x y:Str},(∀p∈ps,p.1<n)->go js x ps=some y->C x->C y
 |[],x,y,_,h,hx=>by rw[go]at h;cases h;exact hx
 |p::r,x,y,hb,h,hx=>by
  have J:=Dc h p (by simp);obtain⟨j,z,I⟩:=rF J.1 J.2;have U:=hb p (by simp);have V:j∈js.take n:=YD (i:=p.1.toNat) (by rw[aeo,Yi (by omega),z]);have F:=B j V;rw[go,I]at h;by_cases O:p.2=1
  .rw[Yi O]at h
   simp![]at h;split at h
   .rename_i e
    exact DQ B (λq D=>hb q (by simp[D])) h (F.mp (e▸hx))
   .cases h
  .rw[YB O]at h
   simp![]at h;split at h
   .rename_i e
    exact DQ B (λq D=>hb q (by simp[D])) h (F.mpr (e▸hx))
   .cases h
variable{r:D}
theorem Jd(hd:lE js a b n ps ss=true)(Z:Snc js a b r):r= .int n:=by
 unfold lE at hd;rw[Yp]at hd;obtain⟨_,hd⟩:=hd;by_cases I:n= -1
 .rw[Yi I]at hd
  have J:a=b:=by simp at hd;exact hd.1
  rcases Z with⟨_,rfl⟩|⟨z,_⟩
  .rw[I]
  .exact absurd J z
 .rw[YB I]at hd
  simp![Yp,aeA]at hd;obtain⟨h1,h2,V⟩:=hd;have a1:=((GZ (by simp)).mp h1).1;simp![lW,Yp,Z1,aeA,decide_eq_false_iff_not]at V;obtain⟨⟨_,Y,U⟩,F⟩:=V;have q:a≠b:=λz=>U (z▸Y);have hC:Cld (js.take n.toNat) (·∈ss):=λj hj=>by
   have:=(abg.mp F) j hj;simp![oH,beq_iff_eq]at this;exact decide_eq_decide.mp this
  have a3:∀p∈ps,p.1<=n:=λp O=>by
   have:=(aes.mp h2) p O;simp at this;exact this
  have a5:0<=n:=by
   cases ps with
   |nil=>rw[go]at a1;cases a1;exact absurd rfl q
   |cons p r=>
    have:=Dc a1 p (by simp);have:=a3 p (by simp);omega
  have a4:∀i,i<=n.toNat->¬Cn (js.take i) a b:=λi hi z=>U (z _ (hC.take hi) Y);have a0:Cn (js.take (n.toNat+1)) a b:=λC a2 B=>DQ (n:=n.toNat+1) a2 (λp O=>by have:=a3 p O;omega) a1 B;rcases Z with⟨z,_⟩|⟨_,Z⟩
  .exact absurd z q
  .rcases Z with⟨k,hk,rfl,h5,h6⟩|⟨_,h5⟩
   .have:k=n.toNat:=by
     rcases Nat.lt_trichotomy k n.toNat with z|z|z
     .exact absurd h5 (a4 (k+1) (by omega))
     .exact z
     .exact absurd a0 (h6 (n.toNat+1) (by omega))
    rw[this];congr;omega
   .exfalso
    by_cases hl:n.toNat<js.length
    .exact h5 λC a2 B=>a0 C (λj hj=>a2 j (Zz hj)) B
    .have e1:js.take n.toNat=js:=Zq (by omega)
     have e2:js.take (n.toNat+1)=js:=Zq (by omega);rw[e2]at a0;exact h5 a0
theorem RK{n:Int}{d J:D}{js:List Jt}{m:Int}(hd:Sd n d)(I:n<900000)(Y:JJ J js)(hl:js.length<=1000)(V:m.natAbs<=10000):Wp (bQ [d,J,.int m]) λq=>∃(m':Int)(d':D),q=(.int m',[d',J,.int m])/\m'.natAbs<=m.natAbs+1002/\Sd (n+2) d':=by
 simp_arith[bQ,sEx,aL,aU,aK,jT,dM,fW,Y.v,Y.l];refine dB hd (by omega) (by omega) (by omega) λF d1 p1 q1 Z=>?_;simp_arith[sEx,aL,aU,aK,jT,bL];refine dB Z (by omega) (by omega) (by omega) λO z p2 q2 s2=>?_;obtain⟨x,B,_,U⟩:=mF (f:=D.int) (l:=[m-1,m+1,-1,F-2,m,m]) p2 (by simpa using q2);have hg:gIx (D.lst Mk.own [D.int (m-1),D.int (m+1),D.int (-1),D.int (F-2),D.int m,D.int m]) (D.int O)=some (.int x):=U;have a0:x.natAbs<=m.natAbs+1002:=by
  simp at B;rcases B with rfl|rfl|rfl|rfl|rfl<;>omega
 simp_arith[sEx,aL,aU,aK,hg];exact⟨x,z,⟨rfl,rfl⟩,a0,s2.le (by omega)⟩
def Pw(p:Pt):Prop:=Sd1 p/\p.1.natAbs<=1000
def OwE(d J:D)(a b:Str)(ps:List Pt)(h k:Int)(Y:Option D):En:=[some d,some J,some (.str a),some (.str b),some (pT ps),some (.int h),some (.int k),Y]
def OwQ(n:Int)(J:D)(a b:Str)(ps:List Pt)(q:D×List D):Prop:=∃(z:List Pt)(d':D),q=(pT z,[d',J,.str a,.str b,pT ps])/\(∀p∈z,Pw p)/\z.length<=ps.length+20/\Sd (n+4) d'
variable{k:Int}
theorem VR(h:0<=k):gSl (pT ps) none (some k)=some (pT (ps.take k.toNat)):=by
 obtain⟨m,rfl⟩:∃m:Nat,k=m:=⟨k.toNat,by omega⟩;simp![pT,gSl,sr,aaY,aak]
theorem Qd(h:0<=k):gSl (pT ps) (some k) none=some (pT (ps.drop k.toNat)):=by
 obtain⟨m,rfl⟩:∃m:Nat,k=m:=⟨k.toNat,by omega⟩;simp![pT,gSl,Bq,aaY,acD]
theorem Ew{qs:List Pt}(h:ps.length+qs.length<=1000):dM (pT ps) (pT qs)=some (pT (ps++qs)):=by
 simp[pT,dM]
 try omega
theorem SQ(hd:Sd n d)(I:n<900000)(Y:a∈ns)(hj:∀j∈js,j.1∈ns/\j.2.1∈ns)(hl:ns.length<=20)(b6:js.length<=900)(b3:ps.length<=500)(O:∀p∈ps,Pw p):Wp (cz [d,.lst .frz (js.map jD),.str a,.str b,pT ps]) (OwQ n (.lst .frz (js.map jD)) a b ps):=by
 have a1:=iG ps;have hJ:=JJ.lst js;have a8:cL [pT ps]=some (.int ps.length):=by simp[pT,cL]
 have a7:=Hg (m:=.frz) rfl Y hj (by omega) (by omega);generalize D.lst .frz (js.map jD)=J at hJ a7⊢;simp_arith![cz,fnI];refine aY (λρ=>∃(h:Int)(d1:D),Sd (n+1) d1/\ρ=[some d1,some J,some (.str a),some (.str b),some (pT ps),some (.int h),none,none]) (λQ hQ=>?_) ?_
 .simp_arith[sEx,aL,aU,aK]
  refine dB hd (by omega) (by omega) (by omega) λr1 d1 p1 q1 Z=>?_;simp_arith[sEx,aL,aU,aK];exact hQ _ ⟨r1,d1,Z,rfl⟩
 rintro _ ⟨h,d1,Z,rfl⟩;refine aY (λρ=>∃(k:Int)(d2:D),Sd (n+2) d2/\0<=k/\k<=ps.length/\ρ=OwE d2 J a b ps h k none) (λQ hQ=>?_) ?_
 .simp_arith[sEx,aL,aU,aK,a1.2.2.1,a8,dM]
  refine dB Z (by omega) (by omega) (by omega) λr1 d2 p1 q1 B=>?_;simp_arith[sEx,aL,aU,aK];exact hQ _ ⟨r1,d2,B.le (by omega),p1,by omega,rfl⟩
 rintro _ ⟨k,d2,B,b0,b2,rfl⟩;have a4:∀i j:Int,dM (.int i) (.int j)=some (.int (i+j)):=λ_ _=>rfl;have hT:=VR (ps:=ps) b0;have hF:=Qd (ps:=ps) (show 0<=k+1 by omega);obtain⟨p1,a2⟩:∃p1,p1=ps.take k.toNat:=⟨_,rfl⟩;obtain⟨p2,a3⟩:∃p2,p2=ps.drop (k+1).toNat:=⟨_,rfl⟩;have l1:p1.length<=ps.length:=by rw[a2,YX];omega
 have l2:p1.length+p2.length<=ps.length:=by rw[a2,a3,YX,aaH];omega
 have m1:∀p∈p1,Pw p:=λp a0=>O p (Zz (a2▸a0));have m2:∀p∈p2,Pw p:=λp a0=>O p (abf (a3▸a0));rw[←a2]at hT;rw[←a3]at hF;clear a2 a3;have F:∀ps,aA (pT ps)=true/\az (pT ps)=true:=λps=>⟨(iG ps).1,(iG ps).2.1⟩;by_cases h0:h=0
 .simp_arith[sEx,aL,aU,aK,OwE,eq_int,h0,a1.2.2.1,a4,hT,hF,Ew (show p1.length+p2.length<=1000 by omega),F]
  exact⟨p1++p2,d2,rfl,λp a0=>(List.mem_append.mp a0).elim (m1 p) (m2 p),by rw[YW];omega,B.le (by omega)⟩
 refine aY (λρ=>ρ=OwE d2 J a b ps h k none) (λQ hQ=>?_) ?_
 .simp_arith[sEx,aL,aU,aK,OwE,eq_int,h0]
  exact hQ _ rfl
 rintro _ rfl;by_cases h1:h=1
 .have e8:bT [none,none] (Ed (ao (ak false 4) aB)) (tpT 2 (aP (tpN 0) (aP (tpN 1) bM))) eTT (eAp bB (ao (ak false 0) (ao (e1 fW (ak false 1)) aB))) (OwE d2 J a b ps h k none)=some (.lst .own ((ps.reverse.map λp=>(p.1,-p.2)).map ptD)):=by
   have e6:il (tpT 2 (aP (tpN 0) (aP (tpN 1) bM))) eTT (eAp bB (ao (ak false 0) (ao (e1 fW (ak false 1)) aB))) (gf [none,none] (OwE d2 J a b ps h k none)) (ps.map ptD).reverse=some (((ps.map ptD).reverse.filter λ_=>true).map λd=>match d with|.tup [.int i,.int j]=>.tup [.int i,.int (-j)]|_=>.non):=by
    refine fG λd hd=>?_;obtain⟨p,b5,rfl⟩:=List.mem_map.mp (aeP.mp hd);simp[gf,ptD,tpT,aP,tpN,bM,aH,aN,w_ite,eTT,eAp,ao,aB,e1,ak,view,fW,bB,clean,aA,az,aC,aD]
   simp![bT,Ed,ao,aB,ak,OwE,Yn,Yo,a1.2.2.1,a1.2.1,gD,YM,Yx];simp![pT,gD,Dd,aaM,X_];rw[Yi (by omega)];rw[show(gf [none,none] [some d2,some J,some (.str a),some (.str b),some (.tup (ps.map ptD)),some (.int h),some (.int k),none])=gf [none,none] (OwE d2 J a b ps h k none)from rfl,e6,filter_tt,←List.map_reverse,Yq,Yq];rfl
  generalize bT [none,none] (Ed (ao (ak false 4) aB)) (tpT 2 (aP (tpN 0) (aP (tpN 1) bM))) eTT (eAp bB (ao (ak false 0) (ao (e1 fW (ak false 1)) aB)))=E at e8⊢;obtain⟨qs,a5⟩:∃qs:List Pt,qs=ps.reverse.map λp=>(p.1,-p.2):=⟨_,rfl⟩;rw[←a5]at e8;have a9:∀q∈qs,Pw q:=λq hq=>by
   rw[a5]at hq;obtain⟨p,a0,rfl⟩:=List.mem_map.mp hq;obtain⟨z1,z2⟩:=O p (aeP.mp a0);exact⟨z1.symm.imp (λz=>by simp only;omega) (λz=>by simp only;omega),z2⟩
  have b4:qs.length=ps.length:=by rw[a5];simp
  have e9:E [some d2,some J,some (.str a),some (.str b),some (pT ps),some (.int h),some (.int k),none]=some (.lst .own (qs.map ptD)):=e8;rw[h1]at e9;simp_arith[sEx,aL,aU,aK,OwE,eq_int,h1,e9,jb,xx,xP];exact⟨qs,d2,rfl,a9,by omega,B.le (by omega)⟩
 refine aY (λρ=>ρ=OwE d2 J a b ps h k none) (λQ hQ=>?_) ?_
 .simp_arith[sEx,aL,aU,aK,OwE,eq_int,h1]
  exact hQ _ rfl
 rintro _ rfl;by_cases h2:h=2
 .simp![OwE,h2]
  simp_arith[sEx,aL,aU,aK,eq_int,hJ.v,hJ.l,a4,jT,lL];refine dB B (by omega) (by omega) (by omega) λU d3 p3 q3 s3=>?_;simp_arith[sEx,aL,aU,aK,jT,lL];refine dB s3 (by omega) (by omega) (by omega) λr4 d4 p4 q4 s4=>?_;have a6:D.tup [D.tup [D.int (U-1),D.int (1-2*r4)]]=pT [(U-1,1-2*r4)]:=rfl;have b1:Pw (U-1,1-2*r4):=⟨by simp![Sd1];omega,by simp only;omega⟩;simp_arith[sEx,aL,aU,aK,jT,lL,bB,a4,a1.2.2.1,hT,hF,a6,Ew (ps:=p1) (qs:=[(U-1,1-2*r4)]) (by simp;omega),Ew (ps:=p1++[(U-1,1-2*r4)]) (qs:=p2) (by simp;omega),F];refine⟨p1++(U-1,1-2*r4)::p2,d4,by simp,λp a0=>?_,by rw[YW,Yd];omega,s4.le (by omega)⟩;rcases List.mem_append.mp a0 with z|z
  .exact m1 p z
  .rcases Yj.mp z with rfl|z
   .exact b1
   .exact m2 p z
 refine aY (λρ=>ρ=OwE d2 J a b ps h k none) (λQ hQ=>?_) ?_
 .simp_arith[sEx,aL,aU,aK,OwE,eq_int,h2]
  exact hQ _ rfl
 rintro _ rfl;by_cases V:h=3
 .obtain⟨us,hu1,hu2⟩:=a7
  obtain⟨qs,g1,g2,g3⟩:=hu2 b .own (by decide);simp![OwE,V];generalize aX bN=GL at hu1⊢;simp_arith[sEx,aL,aU,aK,eq_int,hJ.v,hu1,g1,bB,F];refine⟨qs,d2,rfl,λq hq=>?_,by omega,B.le (by omega)⟩;obtain⟨z1,z2⟩:=g2 q hq;exact⟨z2,by omega⟩
 refine aY (λρ=>ρ=OwE d2 J a b ps h k none) (λQ hQ=>?_) ?_
 .simp_arith[sEx,aL,aU,aK,OwE,eq_int,V]
  exact hQ _ rfl
 rintro _ rfl;simp_arith[sEx,aL,aU,aK,OwE];exact⟨ps,d2,rfl,O,by omega,B.le (by omega)⟩
def lX:List Str:=ph++(["lone","No",""]:List Str)
theorem Ah:∀x∈lX,x.length<=8/\(reprText x).length<=10:=by decide +kernel
def OcE(d N S:D)(h:Int)(ss:List Str)(x5:Option D):En:=[some d,some N,some S,some (.int h),some (.lst .own (ss.map D.str)),x5]
def OcQ(n:Int)(N S:D)(ss:List Str)(q:D×List D):Prop:=∃(z:List Str)(d':D),q=(.lst .own (z.map D.str),[d',N,S])/\(∀x∈z,x∈lX)/\z.length<=ss.length+1/\Sd (n+4) d'
theorem zb:gNe (.lst m (ss.map D.str)) (.lst .own [])=some (.bl (!ss.isEmpty)):=by
 unfold gNe;have h1:iJ (ss.map D.str)=true:=by
  induction ss with
  |nil=>rfl
  |cons a r J=>rw[X8,iJ,J];rfl
 rw[Yi ⟨by simpa[iM]using h1,rfl,.lst (by simp[dtL])⟩];cases ss with
 |nil=>rfl
 |cons j r=>rfl
theorem Ml{f:α->β}:∀{l:List α}{i:Nat},(l.map f).eraseIdx i=(l.eraseIdx i).map f
 |[],_=>rfl
 |_::_,0=>rfl
 |_::r,i+1=>by simp[List.eraseIdx_cons_succ,Ml (l:=r)]
theorem KD(hd:Sd n d)(I:n<900000)(b9:∀x∈ns,x∈ph)(hl:ns.length<=20)(c2:ss.length<=500)(O:∀x∈ss,x∈lX):Wp (bW [d,.lst .frz (ns.map D.str),.lst .frz (ss.map D.str)]) (OcQ n (.lst .frz (ns.map D.str)) (.lst .frz (ss.map D.str)) ss):=by
 have a9:∀i j:Int,dM (.int i) (.int j)=some (.int (i+j)):=λ_ _=>rfl;have a8:xf [.lst .frz (ss.map D.str)]=some (.lst .own (ss.map D.str)):=rfl;have b3:∀b,view b (.lst .frz (ss.map D.str))= .lst .frz (ss.map D.str):=(SS.lst ss).v;have b4:∀b,view b (.lst .frz (ns.map D.str))= .lst .frz (ns.map D.str):=(SS.lst ns).v;have a6:cL [.lst .frz (ns.map D.str)]=some (.int ns.length):=(SS.lst ns).l;obtain⟨n3,a5⟩:∃n3:List Str,n3=ns++(["lone","No",""]:List Str):=⟨_,rfl⟩;have b2:dM (.lst .frz (ns.map D.str)) (.lst .own [.str "lone",.str "No",.str ""])=some (.lst .own (n3.map D.str)):=by
  rw[a5,Zi];simp[dM];omega
 have b0:∀x∈n3,x∈lX:=λx B=>by
  rw[a5]at B;exact(List.mem_append.mp B).elim (λz=>Ye _ (b9 x z)) (λz=>X7 _ z)
 have a7:n3.length=ns.length+3:=by rw[a5];simp
 generalize hN:D.lst .frz (ns.map D.str)=N at b4 a6 b2⊢;generalize U:D.lst .frz (ss.map D.str)=S at b3 a8⊢;simp_arith![bW,fnI];have J:∀ss:List Str,view false (.lst .own (ss.map D.str))= .lst .brw (ss.map D.str):=λss=>by simp[view,cu,mkV]
 have F:∀ss:List Str,aA (.lst .own (ss.map D.str))=true/\az (.lst .own (ss.map D.str))=true:=λss=>⟨by simp[aA,cR],by simp[az,cB]⟩;have b1:∀ss:List Str,cL [.lst .brw (ss.map D.str)]=some (.int ss.length):=λss=>by simp[cL]
 refine aY (λρ=>∃(h:Int)(d1:D),Sd (n+1) d1/\ρ=[some d1,some N,some S,some (.int h),none,none]) (λQ q=>?_) ?_
 .simp_arith[sEx,aL,aU,aK]
  refine dB hd (by omega) (by omega) (by omega) λr1 d1 p1 q1 Z=>?_;simp_arith[sEx,aL,aU,aK];exact q _ ⟨r1,d1,Z,rfl⟩
 rintro _ ⟨h,d1,Z,rfl⟩;refine aY (λρ=>ρ=OcE d1 N S h ss none) (λQ q=>?_) ?_
 .simp[bI,eAp,ao,aB,ak,tgN,clean,bR,aN,aH,w_ite,b3,a8,F]
  exact q _ rfl
 rintro _ rfl;refine aY (λρ=>∃(a0:List Str)(d2:D)(x5:Option D),(∀x∈a0,x∈lX)/\a0.length<=ss.length+1/\Sd (n+3) d2/\ρ=OcE d2 N S h a0 x5) (λQ q=>?_) ?_
 .by_cases V:h<3
  .have hsi:∀(f g:En->Option Fl),sIf (eB (e2 gLt (ak false 3) (eC (.int 3)))) f g (OcE d1 N S h ss none)=f (OcE d1 N S h ss none):=λf g=>by
    simp[sIf,eB,e2,ak,eC,OcE,view,gLt,isB,V]
   rw[hsi];refine aY (λρ=>∃(w:Str)(d2:D),w∈lX/\Sd (n+2) d2/\ρ=OcE d2 N S h ss (some (.str w))) (λQ q=>?_) ?_
   .simp_arith[sEx,aL,aU,aK,OcE,bL,b4,b2,a6,a9]
    refine dB Z (by omega) (by omega) (by omega) λr3 d3 p3 q3 s3=>?_;obtain⟨w,hw,_,b7⟩:=mF (f:=D.str) (l:=n3) p3 (by rw[a7];push_cast;omega);have hg:gIx (D.lst Mk.own (List.map D.str n3)) (D.int r3)=some (D.str w):=b7;simp_arith[sEx,aL,aU,aK,hg,cB];exact q _ ⟨w,d3,b0 w hw,s3.le (by omega),rfl⟩
   rintro _ ⟨w,d2,hw,s2,rfl⟩;simp_arith[sEx,aL,aU,aK,v_,OcE,J,b1,a9,cu];refine dB s2 (by omega) (by omega) (by omega) λr3 d3 p3 q3 s3=>?_;simp_arith[sEx,aL,aU,aK,lN];refine⟨by omega,?_⟩;obtain⟨i,hi⟩:∃i,i=wN ss.length r3:=⟨_,rfl⟩;rw[←hi];have:=q (OcE d3 N S h (ss.take i++w::ss.drop i) (some (.str w))) ⟨_,d3,_,λx B=>?_,?_,s3.le (by omega),rfl⟩
   .simpa[OcE,Zi,aak,acD]using this
   .rcases List.mem_append.mp B with z|z
    .exact O x (Zz z)
    .rcases Yj.mp z with rfl|z
     .exact hw
     .exact O x (abf z)
   .rw[YW,Yd,YX,aaH];omega
  .simp_arith[sEx,aL,aU,aK,OcE,gLt,V]
   exact q _ ⟨ss,d1,none,O,by omega,Z.le (by omega),rfl⟩
 clear Z;rintro _ ⟨Z,d2,x5,a1,a2,t1,rfl⟩;refine aY (λρ=>∃(a0:List Str)(d2:D),(∀x∈a0,x∈lX)/\a0.length<=ss.length+1/\Sd (n+4) d2/\ρ=OcE d2 N S h a0 x5) (λQ q=>?_) ?_
 .have a3:gNe (.lst .brw (Z.map D.str)) (.lst .own [])=some (.bl (!Z.isEmpty)):=zb
  by_cases V:h=3
  .cases he:Z.isEmpty with
   |true=>
    rw[he]at a3;simp_arith[sEx,aL,aU,aK,OcE,eq_int,V,bL,cu,a3];exact q _ ⟨Z,d2,a1,a2,t1.le (by omega),by simp[OcE,V]⟩
   |false=>
    rw[he]at a3;have c0:0<Z.length:=by
     cases Z with
     |nil=>cases he
     |cons _ _=>simp
    simp_arith[sEx,aL,aU,aK,OcE,eq_int,V,bL,cu,a3,v_,b1];refine dB t1 (by omega) (by omega) (by omega) λr3 d3 p3 q3 s3=>?_;obtain⟨i,rfl⟩:∃i:Nat,r3=i:=⟨r3.toNat,by omega⟩;have hi:i<Z.length:=by omega
    have b6:mj (.lst .own (Z.map D.str)) [.int i]=some (.lst .own ((Z.eraseIdx i).map D.str),.str Z[i]):=by
     simp![mj,X_];rw[Yi (by omega),mC hi,gD,List.getElem?_map,X5 hi,Ml];rfl
    simp_arith[sEx,aL,aU,aK,b6];exact q _ ⟨Z.eraseIdx i,d3,λx B=>a1 x (List.mem_of_mem_eraseIdx B),by rw[List.length_eraseIdx];split<;>omega,s3.le (by omega),by simp[OcE,V]⟩
  .simp_arith[sEx,aL,aU,aK,OcE,eq_int,V]
   exact q _ ⟨Z,d2,a1,a2,t1.le (by omega),rfl⟩
 clear t1 a1 a2;rintro _ ⟨Z,d2,a1,a2,t1,rfl⟩;refine aY (λρ=>∃(a0:List Str),(∀x∈a0,x∈lX)/\a0.length<=ss.length+1/\ρ=OcE d2 N S h a0 x5) (λQ q=>?_) ?_
 .by_cases h4:h=4
  .simp_arith[sEx,aL,aU,aK,OcE,eq_int,h4,bL]
   exact q _ ⟨[],by simp,by simp,by simp[OcE,h4]⟩
  .simp_arith[sEx,aL,aU,aK,OcE,eq_int,h4]
   exact q _ ⟨Z,a1,a2,rfl⟩
 clear a1 a2;rintro _ ⟨Z,a1,a2,rfl⟩;refine aY (λρ=>∃(a0:List Str),(∀x∈a0,x∈lX)/\a0.length<=ss.length+1/\ρ=OcE d2 N S h a0 x5) (λQ q=>?_) ?_
 .cases Z with
  |nil=>
   have:gNe (.lst .brw []) (.lst .own [])=some (.bl false):=zb (ss:=[]);by_cases Y:h=5<;>simp_arith[sEx,aL,aU,aK,OcE,eq_int,Y,bL,this]<;>exact q _ ⟨[],by simp,by simp,by simp[OcE,Y]⟩
  |cons y r=>
   by_cases Y:h=5
   .have e8:bT [none,some 4] (itS (ak false 4)) (tpN 0) (eB (e2 gNe (ak false 0) (e2 gIx (ak false 1) (eC (.int 0))))) (ak false 0) (OcE d2 N S h (y::r) x5)=some (.lst .own (((y::r).filter λx=>!decide (x=y)).map D.str)):=by
     have e6:il (tpN 0) (eB (e2 gNe (ak false 0) (e2 gIx (ak false 1) (eC (.int 0))))) (ak false 0) (gf [none,some 4] (OcE d2 N S h (y::r) x5)) ((y::r).map D.str)=some ((((y::r).map D.str).filter λd=>match d with|.str x=>!decide (x=y)|_=>false).map id):=by
      refine fG λd hd=>?_;obtain⟨x,c1,rfl⟩:=List.mem_map.mp hd;have g0:∀m:Mk,gIx (.lst m ((y::r).map D.str)) (.int 0)=some (.str y):=λm=>by
       have:=mC (n:=((y::r).map D.str).length) (k:=0) (by simp);simp![gIx,atI];rw[show(0:Int)=((0:Nat):Int)from rfl,this];rfl
      simp[gf,OcE,tpN,aH,eB,e2,ak,eC,view,cu,mkV,ne_str,isB,clean,aA,az,-List.map_cons,g0]
     simp![bT,itS,ak,OcE,Yn,Yo,J,gD,gU,uO,X_];rw[Yi (by omega)];rw[show gf [none,some 4] [some d2,some N,some S,some (D.int h),some (D.lst Mk.own (List.map D.str (y::r))),x5]=gf [none,some 4] (OcE d2 N S h (y::r) x5)from rfl,e6,List.map_id,aeT];rfl
    obtain⟨l,a4⟩:∃l,l=(y::r).filter λx=>!decide (x=y):=⟨_,rfl⟩;rw[←a4]at e8;have b5:∀x∈l,x∈lX:=λx B=>a1 x (ab2.mp (a4▸B)).1;have b8:l.length<=(y::r).length:=by rw[a4];exact adF _ _
    have a3:gNe (.lst .brw ((y::r).map D.str)) (.lst .own [])=some (.bl true):=zb;generalize bT [none,some 4] (itS (ak false 4)) (tpN 0) (eB (e2 gNe (ak false 0) (e2 gIx (ak false 1) (eC (.int 0))))) (ak false 0)=E at e8⊢;generalize y::r=yr at a3 a4 b8 J a2 a1 e8⊢;simp![OcE,Y]at e8⊢;simp_arith[sEx,aL,aU,aK,eq_int,cu,bL,a3,e8,cR,cB];exact q _ ⟨l,b5,by omega,by simp[OcE,Y]⟩
   .simp_arith[sEx,aL,aU,aK,OcE,eq_int,Y]
    exact q _ ⟨y::r,a1,a2,by simp[OcE]⟩
 clear a1 a2;rintro _ ⟨Z,a1,a2,rfl⟩;simp_arith[sEx,aL,aU,aK,OcE];exact⟨Z,d2,rfl,a1,a2,t1⟩
theorem xg:∀l:List Str,ug (l.map Yl)=some l
 |[]=>rfl
 |x::r=>by simp[ug,xg r]
theorem RN(h:ks.length<64):nO [kT .own ks]=some (.lst .own ((yO ks).map D.str)):=by
 simp![nO,kT,X_,h,xg,YM];rfl
theorem Ik(g:List Str):ab1 (yO g) g:=by
 unfold yO;split
 .rename_i h
  exact h.choose_spec.1
 .exact .refl _
def Pp(m:Int)(ps:List Pt)(k:Mk)(ss:List Str):D:=.lst .own [.int m,pT ps,.lst k (ss.map D.str)]
structure Pg(c:Nat)(m:Int)(ps:List Pt)(k:Mk)(ss:List Str):Prop where
 k:k= .own∨k= .frz
 m:m.natAbs<=100+1002*c
 p:∀p∈ps,Pw p
 pl:ps.length<=20+20*c
 s:∀x∈ss,x∈lX
 sl:ss.length<=20+c
def PpV(m:Int)(ps:List Pt)(k:Mk)(ss:List Str):D:=.lst .brw [.int m,pT ps,.lst k (ss.map D.str)]
variable{k:Mk}{m:Int}
theorem XF(J:k= .own∨k= .frz):∃O,view false (Pp m ps k ss)=PpV m ps O ss/\(O= .brw∨O= .frz):=by
 rcases J with rfl|rfl
 .exact⟨.brw,by simp[Pp,PpV,view,fU,cu,(iG ps).2.2.1,mkV],.inl rfl⟩
 .exact⟨.frz,by simp[Pp,PpV,view,fU,cu,(iG ps).2.2.1,mkV],.inr rfl⟩
theorem Xq(J:k= .own∨k= .frz):aA (Pp m ps k ss)=true/\az (Pp m ps k ss)=true:=by
 have:=iG ps;rcases J with rfl|rfl<;>simp[Pp,aA,az,aC,aD,cR,cB,this]
theorem Xj(h:k= .brw∨k= .frz):fz (.lst k (ss.map D.str))= .lst .frz (ss.map D.str):=by
 rcases h with rfl|rfl<;>simp[fz,jU,mkF]
theorem Bf(l:List Str):bO (l.map D.str)=true:=by
 induction l with
 |nil=>rfl
 |cons p r J=>rw[X8,bO,J];rfl
theorem yZ(h:Sd n d):dh d=true:=by
 obtain⟨z,t,rfl,_⟩:=h;have:∀l:List Int,bO (l.map D.int)=true:=by
  intro l
  induction l with
  |nil=>rfl
  |cons p r J=>rw[X8,bO,J];rfl
 simp[dh,bO,this]
def RtE(d N J:D)(a b:Str)(r:D)(m:Int)(ps:List Pt)(S:D)(q z V Y U O I F:Option D):En:=[some d,some N,some J,some (.str a),some (.str b),some r,some (.int m),some (pT ps),some S,q,z,V,Y,U,O,I,F]
def RiI(n:Int)(N J:D)(a b:Str)(r:D)(Z:Int)(B:List Pt)(z:D)(q U O I F:Option D)(c:Nat)(ρ:En):Prop:=∃(d':D)(m:Int)(ps:List Pt)(k:Mk)(ss:List Str)(V Y:Option D),ρ=RtE d' N J a b r Z B z q (some (Pp m ps k ss)) V Y U O I F/\Pg c m ps k ss/\Sd (n+1+5*c) d'
theorem PB{n:Int}{d:D}{ns:List Str}{js:List Jt}{a b:Str}{r:D}{m0:Int}{a5:List Pt}{S0:D}{x9 b2 b3 a6 a4 a3 a2:Option D}{m:Int}{ps:List Pt}{k:Mk}{ss:List Str}(hd:Sd n d)(I:n<800000)(b9:∀x∈ns,x∈ph)(hl:ns.length<=14)(hj:∀j∈js,j.1∈ns++[("lone":Str)]/\j.2.1∈ns++[("lone":Str)])(c3:js.length<=28)(Y:a∈ns++[("lone":Str)])(O:Pg 0 m ps k ss){Q:Fl->Prop}
  (q:∀ρ,(∃c,c<=2/\RiI n (.lst .frz (ns.map D.str)) (.lst .frz (js.map jD)) a b r m0 a5 S0 x9 a6 a4 a3 a2 c ρ)->Q (.nx ρ)) :
  Wp (pK (pI (cH (eIo aG [0] (cG (ao (eC (.int 3)) aB))) (cG aB))) (tgN 11) (bc (cZ (eIo aG [0] (cG (ao (eC (.int 3)) aB))) (tgN 12))
  (bc (sIf (eB (e2 gEq (ak false 12) (eC (.int 0)))) (cZ (eIo bQ [0] (cG (ao (ak false 2) (ao (e2 gIx (ak false 10) (eC (.int 0))) aB)))) (gh cX 10 (g_ 10) (eC (.int 0)))) bY)
  (bc (sIf (eB (e2 gEq (ak false 12) (eC (.int 1)))) (cZ (eIo cz [0] (cG (ao (ak false 2) (ao (ak false 3) (ao (ak false 4) (ao (e2 gIx (ak false 10) (eC (.int 1))) aB)))))) (gh cX 10 (g_ 10) (eC (.int 1)))) bY)
  (sIf (eB (e2 gEq (ak false 12) (eC (.int 2)))) (cZ (eIo bW [0] (cG (ao (ak false 1) (ao (e2 gIx (ak false 10) (eC (.int 2))) aB)))) (gh cX 10 (g_ 10) (eC (.int 2)))) bY)))) (RtE d (.lst .frz (ns.map D.str)) (.lst .frz (js.map jD)) a b r m0 a5 S0 x9 (some (Pp m ps k ss)) b2 b3 a6 a4 a3 a2)) Q:=by
 have hJ:=JJ.lst js;have hN:=SS.lst ns;have b1:=@RK;have a9:=λ{n:Int}{d:D}{ps:List Pt}(h1:Sd n d)(h2:n<900000)(V:ps.length<=500)(h4:∀p∈ps,Pw p)=>SQ (b:=b) h1 h2 Y hj (by simp;omega) (by omega) V h4;have a8:=λ{n:Int}{d:D}{ss:List Str}(h1:Sd n d)(h2:n<900000)(V:ss.length<=500)(h4:∀x∈ss,x∈lX)=>KD h1 h2 b9 (by omega) V h4;generalize D.lst .frz (ns.map D.str)=N at hN a8 q⊢;generalize D.lst .frz (js.map jD)=J at hJ a9 q⊢;generalize bQ=F1 at b1⊢;generalize cz=F2 at a9⊢;generalize bW=F3 at a8⊢;simp[pK,pI,cH,eIo,cG,ao,eC,aB,RtE,objs,aN,aH,bR,w_ite,aD,az,aC,aA,fzL,fz];refine dB hd (by omega) (by omega) (by omega) λF d1 p1 q1 Z=>?_;simp[iZ,aN,nH,aH,bR,w_ite,aD,az,aC,aA];refine⟨by omega,iB (RiI n N J a b r m0 a5 S0 x9 a6 a4 a3 a2) ⟨d1,m,ps,k,ss,b2,b3,rfl,O,Z.le (by omega)⟩ ?_ ?_⟩
 .rintro c x ρ hc ⟨d2,m,ps,k,ss,b2,b3,rfl,g,s2⟩
  obtain⟨c4,rfl⟩:=oY hc;have c2:c<=1:=by omega
  obtain⟨k',hv,b5⟩:=XF (m:=m) (ps:=ps) (ss:=ss) g.k;have c1:=Xq (m:=m) (ps:=ps) (ss:=ss) g.k;have i0:gIx (PpV m ps k' ss) (.int 0)=some (.int m):=rfl;have i1:gIx (PpV m ps k' ss) (.int 1)=some (pT ps):=rfl;have i2:gIx (PpV m ps k' ss) (.int 2)=some (.lst k' (ss.map D.str)):=rfl;have b6:=λps=>iG ps;simp![tgN,clean,aA,az,Zj,Yx,aN,aH,RtE,YH,YQ];refine aY (λρ=>∃(t:Int)(d':D),Sd (n+1+5*c+1) d'/\ρ=RtE d' N J a b r m0 a5 S0 x9 (some (Pp m ps k ss)) (some (.int c)) (some (.int t)) a6 a4 a3 a2) (λQ q=>?_) ?_
  .simp_arith[sEx,aL,aU,aK]
   refine dB s2 (by omega) (by omega) (by omega) λr3 d3 p3 q3 s3=>?_;simp_arith[sEx,aL,aU,aK];exact q _ ⟨r3,d3,s3,rfl⟩
  rintro _ ⟨t,d3,s3,rfl⟩;refine aY (λρ=>∃(d':D)(B:Int),(t≠0->d'=d3/\B=m)/\B.natAbs<=100+1002*(c+1)/\Sd (n+1+5*(c+1)) d'/\ρ=RtE d' N J a b r m0 a5 S0 x9 (some (Pp B ps k ss)) (some (.int c)) (some (.int t)) a6 a4 a3 a2) (λQ q=>?_) ?_
  .by_cases U:t=0
   .simp[sIf,eB,e2,ak,eC,isB,cZ,eIo,cG,ao,aB,RtE,objs,iZ,view,hv,i0,hJ.v,hJ.o,hJ.b,hJ.f,U,eq_int,aN,aH,bR,w_ite,aD,az,aC,aA,fzL,fz]
    refine(b1 s3 (by omega) hJ (by omega) (m:=m) (by have:=g.m;omega)).mono ?_;rintro _ ⟨B,d',rfl,a1,s4⟩;simp[aN,aH,bR,w_ite,iZ,gh,g_,eC,upS,gV,gA,aC,aD,aA,az,Pp,cX,ixN];exact q _ ⟨d',B,λz=>absurd U z,by have:=g.m;omega,s4.le (by omega),by simp[RtE,Pp,U]⟩
   .simp[sIf,eB,e2,ak,eC,isB,RtE,view,U,eq_int,aN,aH,bY]
    exact q _ ⟨d3,m,λ_=>⟨rfl,rfl⟩,by have:=g.m;omega,s3.le (by omega),rfl⟩
  rintro _ ⟨d4,B,a7,a1,s4,rfl⟩;refine aY (λρ=>∃(d':D)(B:Int)(a0:List Pt),(t=2->d'=d3/\B=m/\a0=ps)/\B.natAbs<=100+1002*(c+1)/\(∀p∈a0,Pw p)/\a0.length<=20+20*(c+1)/\Sd (n+1+5*(c+1)) d'/\ρ=RtE d' N J a b r m0 a5 S0 x9 (some (Pp B a0 k ss)) (some (.int c)) (some (.int t)) a6 a4 a3 a2) (λQ q=>?_) ?_
  .by_cases U:t=1
   .obtain⟨rfl,rfl⟩:=a7 (by omega)
    simp[sIf,eB,e2,ak,eC,isB,cZ,eIo,cG,ao,aB,RtE,objs,iZ,view,hv,i1,hJ.v,hJ.o,hJ.b,hJ.f,U,eq_int,aN,aH,bR,w_ite,aD,az,aC,aA,fzL,fz,b6];refine(a9 s3 (by omega) (by have:=g.pl;omega) g.p).mono ?_;rintro _ ⟨a0,d',rfl,b0,b4,s5⟩;simp[aN,aH,bR,w_ite,iZ,gh,g_,eC,upS,gV,gA,aC,aD,aA,az,Pp,cX,ixN,b6];exact q _ ⟨d',B,a0,λz=>by omega,a1,b0,by have:=g.pl;omega,s5.le (by omega),by simp[RtE,Pp,U]⟩
   .simp[sIf,eB,e2,ak,eC,isB,RtE,view,U,eq_int,aN,aH,bY]
    exact q _ ⟨d4,B,ps,λz=>by obtain⟨h1,h2⟩:=a7 (by omega);exact⟨h1,h2,rfl⟩,a1,g.p,by have:=g.pl;omega,s4,rfl⟩
  clear a7 a1 s4 d4 B;rintro _ ⟨d4,B,a0,a7,a1,b0,b4,s4,rfl⟩;by_cases U:t=2
  .obtain⟨rfl,rfl,rfl⟩:=a7 U
   simp[sIf,eB,e2,ak,eC,isB,cZ,eIo,cG,ao,aB,RtE,objs,iZ,view,hv,i2,hN.v,hN.o,hN.b,hN.f,U,eq_int,aN,nH,aH,bR,w_ite,aD,az,aC,aA,fzL,Xj b5,cB,cR];refine⟨by rcases b5 with rfl|rfl<;>decide,?_⟩;refine(a8 s3 (by omega) (by have:=g.sl;omega) g.s).mono ?_;rintro _ ⟨b7,d',rfl,b8,c0,s5⟩;simp[Bf,yZ s5,aN,nH,aH,bR,w_ite,iZ,gh,g_,eC,upS,gV,gA,aC,aD,aA,az,Pp,cX,ixN,cR,cB];exact⟨.inr ⟨by simp[dh,Bf],by simp[bO,yZ s5]⟩,d',B,a0,.own,b7,_,_,rfl,⟨.inl rfl,a1,b0,b4,b8,by have:=g.sl;omega⟩,s5.le (by push_cast;omega)⟩
  .simp[sIf,eB,e2,ak,eC,isB,RtE,view,U,eq_int,aN,aH,bY]
   exact⟨d4,B,a0,k,ss,_,_,rfl,⟨g.k,a1,b0,b4,g.s,by have:=g.sl;omega⟩,s4.le (by push_cast;omega)⟩
 .rintro ρ h
  rw[rA]at h;exact q _ ⟨_,by omega,h⟩
theorem yX:∀{ds:List D}{m:Nat},(∀e∈ds,tz e<=m)->tzL ds<=ds.length*(m+2)
 |[],m,_=>by simp[tzL]
 |d::r,m,h=>by
  have h1:=h d (by simp);have h2:=yX (ds:=r) λe Y=>h e (by simp[Y]);rw[tzL,Yd,Nat.succ_mul];omega
theorem Ae:∀{ds:List D}{m:Nat},(∀e∈ds,dz e<=m)->dzL ds<=m
 |[],m,_=>by simp[dzL]
 |d::r,m,h=>by
  have h1:=h d (by simp);have h2:=Ae (ds:=r) λe Y=>h e (by simp[Y]);rw[dzL];omega
theorem GQ:∀l:List Pt,iJ (l.map ptD)=true
 |[]=>rfl
 |j::r=>by simp[iJ,ptD,iM,GQ r]
theorem T4(U:S= .lst .frz (ss.map D.str)∨S= .tup (ss.map D.str))(Z:js.length<=28)(O:∀j∈js,(j.1∈lX/\j.2.1∈lX)/\j.2.2.natAbs<=10000000000000)(hm:m.natAbs<=10000)(J:∀p∈ps,Pw p)(z:ps.length<=100)(a2:∀x∈ss,x∈lX)(a4:ss.length<=100):∃x,yj [.lst .own [.lst .frz (js.map jD),.lst .frz [.int m,pT ps,.lst .frz (ss.map D.str)],S]]=some (.str x):=by
 have q:tzL (js.map jD)<=(js.map jD).length*(60+2):=yX λe Y=>by
  obtain⟨j,a0,rfl⟩:=List.mem_map.mp Y;obtain⟨⟨h1,h2⟩,V⟩:=O j a0;have F:=(Ah _ h1).2;have h5:=(Ah _ h2).2;simp![jD,tz,tzL];rw[Yi (by omega)];omega
 have t2:tzL (ps.map ptD)<=(ps.map ptD).length*(60+2):=yX λe Y=>by
  obtain⟨p,B,rfl⟩:=List.mem_map.mp Y;obtain⟨h1,h2⟩:=J p B;simp![ptD,tz,tzL];rw[Yi (by omega),Yi (by rcases h1 with h|h<;>omega)];omega
 have t3:tzL (ss.map D.str)<=(ss.map D.str).length*(60+2):=yX λe Y=>by
  obtain⟨x,a3,rfl⟩:=List.mem_map.mp Y;have F:=(Ah _ (a2 x a3)).2;simp![tz];omega
 have z1:dzL (js.map jD)<=1:=Ae λe Y=>by
  obtain⟨j,a0,rfl⟩:=List.mem_map.mp Y;simp[jD,dz,dzL]
 have I:dzL (ps.map ptD)<=1:=Ae λe Y=>by
  obtain⟨j,a0,rfl⟩:=List.mem_map.mp Y;simp[ptD,dz,dzL]
 have z3:dzL (ss.map D.str)<=1:=Ae λe Y=>by
  obtain⟨j,a0,rfl⟩:=List.mem_map.mp Y;simp[dz]
 rw[X_]at q t2 t3;have a1:tz S=4+tzL (ss.map D.str)/\dz S=1+dzL (ss.map D.str)/\iM S=true:=by
  rcases U with rfl|rfl<;>exact⟨by rw[tz],by rw[dz],by rw[iM];exact rW ss⟩
 refine Ot ?_ ?_ ?_
 .simp[iM,iJ,Gp,pT,GQ,rW,a1]
 .simp![tz,tzL,pT,a1]
  rw[Yi (by omega)];omega
 .simp![dz,dzL,pT,a1]
  omega
def RtQ(n:Int)(N J:D)(a b:Str)(q:D×List D):Prop:=∃d',q=(.bl true,[d',N,J,.str a,.str b])/\Sd (n+100) d'
def RoI(n:Int)(N J:D)(a b:Str)(r:D)(m:Int)(ps:List Pt)(S:D)(k:Nat)(ρ:En):Prop:=∃(d':D)(q z V Y U O I F:Option D),ρ=RtE d' N J a b r m ps S q z V Y U O I F/\Sd (n+15*k) d'
theorem WR(h:Snc js a b r):r= .non∨∃i:Int,r= .int i/\-1<=i/\i<js.length:=by
 rcases h with⟨_,rfl⟩|⟨_,⟨k,h1,rfl,_⟩|⟨rfl,_⟩⟩
 .exact .inr ⟨-1,rfl,by omega,by omega⟩
 .exact .inr ⟨k,rfl,by omega,by omega⟩
 .exact .inl rfl
theorem PQ{n:Int}{d:D}{ns:List Str}{js:List Jt}{a b:Str}(hd:Sd n d)(I:n<700000)(b4:∀x∈ns,x∈ph)(hl:ns.length<=14)(a8:∀j∈js,Jk ns j)(e5:js.length<=28)(Y:a∈ns++[("lone":Str)]):Wp (eG [d,.lst .frz (ns.map D.str),.lst .frz (js.map jD),.str a,.str b]) (RtQ n (.lst .frz (ns.map D.str)) (.lst .frz (js.map jD)) a b):=by
 have hj:∀j∈js,j.1∈ns++[("lone":Str)]/\j.2.1∈ns++[("lone":Str)]:=λj h=>⟨Ye _ (a8 j h).1.1,Ye _ (a8 j h).1.2⟩;have d7:∀j∈js,(j.1∈lX/\j.2.1∈lX)/\j.2.2.natAbs<=10000000000000:=λj h=>⟨⟨Ye _ (b4 _ (a8 j h).1.1),Ye _ (b4 _ (a8 j h).1.2)⟩,(a8 j h).2⟩;have f1:(ns++[("lone":Str)]).length<=15:=by simp;omega
 have f0:∀x∈ns++[("lone":Str)],x∈lX:=λx B=>by
  rcases List.mem_append.mp B with z|z
  .exact Ye _ (b4 x z)
  .rw[List.mem_singleton.mp z];decide +kernel
 have hJ:=JJ.lst js;obtain⟨r,e9,c8⟩:=QD (b:=b) Y hj (by omega) (by omega);have Z:=WR c8;have c7:aX dm [.lst .frz (js.map jD),.str a,.str b]=some r:=call_of (by simpa[fzL,fz,mR,mkF]using e9) (by rcases Z with rfl|⟨i,rfl,_⟩<;>rfl);have e3:aA r=true/\az r=true/\view false r=r:=by rcases Z with rfl|⟨i,rfl,_⟩<;>exact⟨rfl,rfl,rfl⟩
 obtain⟨a0,f8,e4,h5⟩:=S9 (b:=b) Y hj (by omega) (by omega);have b7:aX b8 [.lst .frz (js.map jD),.str a,.str b]=some (pT a0):=call_of (by simpa[fzL,fz,mR,mkF]using f8) (NP a0);have g6:=λc0 (h:∀j∈c0,j.1∈ns++[("lone":Str)]/\j.2.1∈ns++[("lone":Str)])(h2:c0.length<=1000)=>F_ (m:=.own) (js:=c0) rfl Y h (by omega) h2;have d0:=λ{m:Int}{ps:List Pt}{ss:List Str}(h1:ss.length<=1000)(h2:ps.length<=900)(V:∀x∈ss,x.length<=1000)(h4:∀p∈ps,Sd1 p)=>call_of (F:=bU) (ds:=[.lst .frz (js.map jD),.str a,.str b,.int m,pT ps,.lst .frz (ss.map D.str)]) (by
  simp![fzL,fz,mkF,mR,jU,(iG ps).2.2.2.1];exact Xc (a:=a) (b:=b) (n:=m) hJ (λ_ _=>FP) (SS.lst ss) h1 h2 V h4) rfl
 have c1:=λ{J S:D}{m:Int}{ps:List Pt}{ss:List Str}(hJ:J= .lst .frz (js.map jD)∨J= .tup (js.map jD))(U:SS S ss)(h1:ss.length<=1000)(h2:ps.length<=900)(V:∀x∈ss,x.length<=1000)(h4:∀p∈ps,Sd1 p)=>call_of (F:=cA) (ds:=[J,.str a,.str b,.int m,pT ps,S]) (by
  have f4:fz J=J:=by rcases hJ with rfl|rfl;exact(JJ.lst js).f;exact(JJ.tup js).f
  simp![fzL,fz,f4,U.f,(iG ps).2.2.2.1];exact Oe (a:=a) (b:=b) (n:=m) hJ U h1 (by omega) h2 V h4) rfl
 have b6:=@PB;simp_arith![eG,fnI];have a2:=hJ.v;have e0:=hJ.l;have b3:aA (D.lst .frz (js.map jD))=true/\az (D.lst .frz (js.map jD))=true:=⟨hJ.b,hJ.o⟩;obtain⟨J,a3⟩:∃J,J=D.lst .frz (js.map jD):=⟨_,rfl⟩;obtain⟨N,d9⟩:∃N,N=D.lst .frz (ns.map D.str):=⟨_,rfl⟩;rw[←a3,←d9];rw[←a3]at c7 b7 a2 e0 b3;refine aY (λρ=>ρ=[some d,some N,some J,some (.str a),some (.str b),some r,none,none,none,none,none,none,none,none,none,none,none]) (λQ q=>?_) ?_
 .generalize aX dm=GS at c7⊢
  simp[bI,eAp,ao,aB,ak,tgN,clean,bR,aN,aH,w_ite,view,a2,c7,e3];exact q _ rfl
 rintro _ rfl;refine aY (λρ=>∃m:Int,m.natAbs<=100/\ρ=[some d,some N,some J,some (.str a),some (.str b),some r,some (.int m),none,none,none,none,none,none,none,none,none,none]) (λQ q=>?_) ?_
 .rcases Z with rfl|⟨i,rfl,hi1,hi2⟩
  .simp[bI,aU,eB,e2,eC,gIs,ur,isB,eAp,ao,aB,ak,tgN,clean,bR,aN,aH,w_ite,view,a2,e0,aA,az]
   exact q _ ⟨_,by omega,rfl⟩
  .simp[bI,aU,eB,e2,eC,gIs,ur,isB,eAp,ao,aB,ak,tgN,clean,bR,aN,aH,w_ite,view,aA,az]
   exact q _ ⟨_,by omega,rfl⟩
 rintro _ ⟨m0,h0,rfl⟩;refine aY (λρ=>ρ=[some d,some N,some J,some (.str a),some (.str b),some r,some (.int m0),some (pT a0),none,none,none,none,none,none,none,none,none]) (λQ q=>?_) ?_
 .generalize aX b8=GS at b7⊢
  simp[bI,eAp,ao,aB,ak,tgN,clean,bR,aN,aH,w_ite,view,a2,b7,iG a0];exact q _ rfl
 rintro _ rfl;refine aY (λρ=>ρ=RtE d N J a b r m0 a0 (.lst .own (([]:List Str).map D.str)) none none none none none none none none) (λQ q=>?_) ?_
 .simp[bI,eAp,aB,bL,tgN,clean,bR,aN,aH,w_ite,aA,az,aC,aD]
  exact q _ rfl
 rintro _ rfl;refine aY (λρ=>∃ss:List Str,(∀x∈ss,x∈lX)/\ss.length<=20/\ρ=RtE d N J a b r m0 a0 (.lst .own (ss.map D.str)) none none none none none none none none) (λQ q=>?_) ?_
 .by_cases hab:a=b
  .simp[sIf,eB,e2,ak,RtE,view,ne_str,isB,aN,aH,hab,bY]
   exact q _ ⟨[],by simp,by simp,by simp[RtE,hab]⟩
  .obtain⟨k,hk⟩:∃k:Nat,Br [.int 0,.int m0]=some (.int k):=by
    refine⟨(if m0>0 then m0 else 0).toNat,?_⟩;simp![Br];congr 2;split<;>omega
   obtain⟨ks,c4,c2,_⟩:=g6 (js.take k) (λj h=>hj j (Zz h)) (by rw[YX];omega);have d8:gSl J none (some (k:Int))=some (.lst .own ((js.take k).map jD)):=by rw[a3,gSl,sr,aak]
   have f5:ks.length<=15:=Y4 (pY c2.n c2.i) f1;have g4:=RN (ks:=ks) (by omega);have d6:=Ik ks;rw[aak]at c4 d8;generalize aX cC=GC at c4⊢;simp[sIf,bI,eAp,ao,aB,eB,e2,eC,ak,eSl,J3,j6,jQ,RtE,view,ne_str,isB,aN,aH,bR,w_ite,hab,a2,hk,d8,c4,g4,tgN,clean,aA,az,cR,cB,mK,kZ,DG];exact q _ ⟨yO ks,λx B=>f0 x (c2.i x (d6.subset B)),by rw[d6.length_eq];omega,rfl⟩
 rintro _ ⟨s0,f2,g8,rfl⟩;refine aY (λρ=>RoI n N J a b r m0 a0 (.lst .frz (s0.map D.str)) 6 ρ) (λQ q=>?_) ?_
 .have hfz:lw 8 (RtE d N J a b r m0 a0 (.lst .own (s0.map D.str)) none none none none none none none none)=some (RtE d N J a b r m0 a0 (.lst .frz (s0.map D.str)) none none none none none none none none):=by simp[lw,RtE,fz,jU,mkF]
  have f7:rY (ao (eC (.int 6)) aB) (RtE d N J a b r m0 a0 (.lst .frz (s0.map D.str)) none none none none none none none none)=some (true,lD 0 6):=Fw (n:=6) (by simp[ao,eC,aB]) (by omega);unfold sFz iV;rw[hfz,gD,f7];simp![aN,aH];have g7:=(SS.lst s0).v;refine iB (RoI n N J a b r m0 a0 (.lst .frz (s0.map D.str))) ⟨d,_,_,_,_,_,_,_,_,rfl,by simpa using hd⟩ ?_ (λρ h=>q _ (by rwa[rA]at h));rintro k x ρ hk ⟨d2,x9,g2,e1,d5,c5,b5,b0,a5,rfl,s2⟩;obtain⟨f5,rfl⟩:=oY hk;simp![tgN,clean,aA,az,Zj,Yx,aN,aH,RtE,YH,YQ];refine aY (λρ=>ρ=RtE d2 N J a b r m0 a0 (.lst .frz (s0.map D.str)) (some (.int k)) (some (Pp m0 a0 .frz s0)) e1 d5 c5 b5 b0 a5) (λQ q=>?_) ?_
  .simp[bI,eAp,ao,aB,ak,mkV,cu,iG a0,bL,tgN,clean,bR,aN,aH,w_ite,view,aA,az,aC,aD,cR,cB]
   exact q _ rfl
  rintro _ rfl;refine aY (λρ=>∃c,c<=2/\RiI (n+15*k) N J a b r m0 a0 (.lst .frz (s0.map D.str)) (some (.int k)) c5 b5 b0 a5 c ρ) (λQ q=>?_) ?_
  .rw[a3,d9]at q⊢
   exact b6 s2 (by omega) b4 hl hj e5 Y ⟨.inr rfl,by omega,λp O=>⟨(e4 p O).2,by have:=(e4 p O).1;omega⟩,by omega,f2,by omega⟩ q
  clear s2;rintro _ ⟨c,hc,d3,m,ps,kk,ss,a9,b1,rfl,g,s3⟩;have gm:m.natAbs<=10000:=by have:=g.m;omega
  have gp:∀p∈ps,Pw p:=g.p;have f3:ps.length<=100:=by have:=g.pl;omega
  have gs:∀x∈ss,x∈lX:=g.s;have g0:ss.length<=100:=by have:=g.sl;omega
  have gk:=g.k;have e7:∀p∈ps,Sd1 p:=λp O=>(gp p O).1;have e6:∀x∈ss,x.length<=1000:=λx B=>by have:=(Ah x (gs x B)).1;omega
  have f9:=s3.le (show n+15*k+1+5*c<=n+15*k+11 by omega);clear s3 g;obtain⟨P,a4⟩:∃P,P=D.lst .frz [.int m,pT ps,.lst .frz (ss.map D.str)]:=⟨_,rfl⟩;have a6:∀b,view b P=P:=λb=>by
   have:=(SS.lst ss).v b;rw[view]at this;rw[a4];cases b<;>simp[view,fU,mkV,cu,(iG ps).2.2.1]
  have c3:aA P=true/\az P=true:=by rw[a4];simp[aA,az,aC,aD,cR,cB,iG ps]
  have i0:gIx P (.int 0)=some (.int m):=by rw[a4];rfl
  have i1:gIx P (.int 1)=some (pT ps):=by rw[a4];rfl
  have i2:gIx P (.int 2)=some (.lst .frz (ss.map D.str)):=by rw[a4];rfl
  have g1:fz (Pp m ps kk ss)=P:=by rw[a4];rcases gk with rfl|rfl<;>simp[Pp,fz,fzL,jU,mkF,(iG ps).2.2.2.1]
  have c6:=d0 (m:=m) (ps:=ps) (ss:=ss) (by omega) (by omega) e6 e7;obtain⟨du,a7⟩:∃du,du=lE js a b m ps ss:=⟨_,rfl⟩;rw[←a7,←a3]at c6;refine aY (λρ=>ρ=RtE d3 N J a b r m0 a0 (.lst .frz (s0.map D.str)) (some (.int k)) (some P) a9 b1 (some (.bl du)) b5 b0 a5) (λQ q=>?_) ?_
  .generalize aX bU=GD at c6⊢
   simp[sFz,lw,RtE,g1,bI,eAp,ao,aB,e2,eC,ak,a6,i0,i1,i2,a2,view,c6,tgN,clean,bR,aN,aH,w_ite,aA,az,cR,cB,iG ps];exact q _ rfl
  rintro _ rfl;have g9:=(SS.lst ss).v;refine aY (λρ=>∃(S:D)(d4:D),(S= .lst .frz (ss.map D.str)∨S= .tup (ss.map D.str))/\Sd (n+15*k+12) d4/\ρ=RtE d4 N J a b r m0 a0 (.lst .frz (s0.map D.str)) (some (.int k)) (some P) a9 b1 (some (.bl du)) (some S) b0 a5) (λQ q=>?_) ?_
  .simp_arith[sEx,aL,aU,aK,RtE,a6,i2,bL,jb]
   refine dB f9 (by omega) (by omega) (by omega) λr3 d4 p3 q3 s4=>?_;by_cases V:r3=0
   .simp_arith[sEx,aL,aU,aK,V,gIx,atI,ixN,cR,cB]
    exact q _ ⟨_,d4,.inl rfl,s4.le (by omega),rfl⟩
   .have V:r3=1:=by omega
    simp_arith[sEx,aL,aU,aK,V,gIx,atI,ixN,cR,cB];exact q _ ⟨_,d4,.inr rfl,s4.le (by omega),rfl⟩
  rintro _ ⟨S,d4,U,s4,rfl⟩;have a1:SS S ss:=by rcases U with rfl|rfl;exact SS.lst ss;exact SS.tup ss
  obtain⟨kx,b9⟩:=T4 U e5 d7 gm gp f3 gs g0;rw[←a3,←a4]at b9;refine aY (λρ=>ρ=RtE d4 N J a b r m0 a0 (.lst .frz (s0.map D.str)) (some (.int k)) (some P) a9 b1 (some (.bl du)) (some S) (some (.str kx)) a5) (λQ q=>?_) ?_
  .simp[bI,eAp,ao,aB,ak,RtE,a6,a2,a1.v,bL,b9,tgN,clean,bR,aN,aH,w_ite,aA,az,aC,aD,b3,c3,a1.b,a1.o]
   exact q _ rfl
  rintro _ rfl;have b2:=λ{J':D}(h:J'= .lst .frz (js.map jD)∨J'= .tup (js.map jD))=>c1 (m:=m) (ps:=ps) (ss:=ss) h a1 (by omega) (by omega) e6 e7;rw[←a7]at b2;obtain⟨J',g5,d1⟩:∃J',gIx (.lst .own [J,.tup (js.map jD)]) (.int ((k:Int) % 2))=some J'/\(J'= .lst .frz (js.map jD)∨J'= .tup (js.map jD)):=by
   have:(k:Int) % 2=0∨(k:Int) % 2=1:=by omega
   rcases this with z|z<;>rw[z]
   .exact⟨_,rfl,.inl a3⟩
   .exact⟨_,rfl,.inr rfl⟩
  have b2:=b2 d1;have e8:jb [J]=some (.tup (js.map jD)):=by rw[a3];rfl
  have g3:az J'=true:=by rcases d1 with rfl|rfl;exact(JJ.lst js).o;exact(JJ.tup js).o
  refine aY (λρ=>ρ=RtE d4 N J a b r m0 a0 (.lst .frz (s0.map D.str)) (some (.int k)) (some P) a9 b1 (some (.bl du)) (some S) (some (.str kx)) (some (.bl du))) (λQ q=>?_) ?_
  .generalize aX cA=GD at b2⊢
   simp[bI,eAp,ao,aB,e2,eC,ak,RtE,a6,a2,a1.v,view,bL,e8,qR,g5,i0,i1,b2,tgN,clean,bR,aN,aH,w_ite,aA,az,aC,aD,b3,c3,a1.b,a1.o,iG ps,g3,kZ,mK];exact q _ rfl
  rintro _ rfl;have c9:cQ [.bl du,.ty "bool"]=some (.bl true):=rfl;have f6:du=true->gNe (.int m) r=some (.bl false):=λz=>by
   rw[Jd (a7▸z) c8,ne_int];simp
  refine aY (λρ=>ρ=RtE d4 N J a b r m0 a0 (.lst .frz (s0.map D.str)) (some (.int k)) (some P) a9 b1 (some (.bl du)) (some S) (some (.str kx)) (some (.bl du))) (λQ q=>?_) ?_
  .cases du with
   |false=>
    simp[sIf,eOr,jL,lC,i_,eB,e2,eC,ak,eAp,ao,aB,RtE,view,c9,truth,xZ,isB,bR,aN,aH,w_ite,bY,az];exact q _ rfl
   |true=>
    simp[sIf,eOr,jL,lC,i_,eB,e2,eC,ak,eAp,ao,aB,RtE,view,a6,e3,i0,c9,truth,xZ,f6 rfl,isB,bR,aN,aH,w_ite,bY,az];exact q _ rfl
  rintro _ rfl;simp[sIf,eB,e2,eAp,ao,aB,ak,RtE,a6,a2,a1.v,view,bL,b9,ne_str,isB,bR,aN,aH,w_ite,aA,az,aC,aD,b3,c3,a1.b,a1.o,bY];exact⟨d4,_,_,_,_,_,_,_,_,rfl,s4.le (by push_cast;omega)⟩
 rintro _ ⟨d2,x9,g2,e1,d5,c5,b5,b0,a5,rfl,s2⟩;simp[cD,eC,bR,aN,aH,clean,aA,az,w_ite,RtE,outs];exact⟨d2,rfl,s2.le (by omega)⟩
def LgE(s d:D)(q x3 x4 x5 x6 Y:Option D):En:=[some s,some d,q,x3,x4,x5,x6,Y]
def LgI(s:D)(k:Nat)(ρ:En):Prop:=∃(d:D)(q x3 x4 x5 x6 Y:Option D),ρ=LgE s d q x3 x4 x5 x6 Y/\Sd (1+2000*k) d
def LgJ(s:D)(n:Int)(q N J:D)(k:Nat)(ρ:En):Prop:=∃(d:D)(x5 x6 Y:Option D),ρ=LgE s d (some q) (some N) (some J) x5 x6 Y/\Sd (n+200*k) d
theorem U0(l:List Jt):bO (l.map jD)=true:=by
 induction l with
 |nil=>rfl
 |cons p r J=>rw[X8,bO,J];rfl
theorem K9(ns:List Int)(h:ns.length<=63):kY [.lst .scr (ns.map D.int)]=some (.bl true):=by
 obtain⟨d0,a9,s0⟩:=Oc h;have b2:fzL (ns.map D.int)=ns.map D.int:=by rw[lq,Yq];rfl
 have a2:aX dq [.lst .scr (ns.map D.int)]=some d0:=call_of (by simpa[fzL,fz,mkF,b2]using a9) (yZ s0);have a7:view false (D.lst .scr (ns.map D.int))=D.lst .scr (ns.map D.int):=by simp[view,jV,mkV]
 have W:Wp (kY [.lst .scr (ns.map D.int)]) λd=>d= .bl true:=by
  generalize D.lst .scr (ns.map D.int)=S at a2 a7⊢;have a0:=@PQ;simp_arith![kY,fnP];generalize eG=FR at a0⊢;refine aY (λρ=>ρ=LgE S d0 none none none none none none) (λQ hQ=>?_) ?_
  .generalize aX dq=GB at a2⊢
   simp[bI,eAp,ao,aB,ak,a7,a2,tgN,clean,bR,aN,aH,w_ite,s0.cl];exact hQ _ rfl
  rintro _ rfl;refine aY (λρ=>True) (λQ hQ=>?_) ?_
  .simp[pK,pI,cH,ee2,eUp,eIo,cG,ao,eC,aB,LgE,objs,aN,aH,bR,w_ite,aD,az,aC,aA,fzL,fz]
   refine dB s0 (by omega) (by omega) (by omega) λF O p1 q1 Z=>?_;simp[iZ,dM,aN,nH,aH,bR,w_ite,aD,az,aC,aA];refine⟨by omega,iB (LgI S) ⟨O,_,_,_,_,_,_,rfl,Z.le (by omega)⟩ ?_ (λρ h=>hQ _ trivial)⟩;rintro k x ρ hk ⟨d2,x2,x3,x4,x5,x6,x7,rfl,B⟩;obtain⟨b7,rfl⟩:=oY hk;have b9:k<=1:=by omega
   simp![tgN,clean,aA,az,Zj,Yx,aH,LgE,YH,YQ];refine aY (λρ=>∃(I:List Str)(d':D),(∀x∈I,x∈ph)/\I.length<=14/\Sd (1+2000*k+4) d'/\ρ=LgE S d' (some (.int k)) (some (.lst .own (I.map D.str))) x4 x5 x6 x7) (λQ hQ=>?_) ?_
   .simp_arith[sEx,aL,aU,aK]
    refine(O_ B (by omega)).mono ?_;rintro _ ⟨I,d3,rfl,h1,_,V,z⟩;simp_arith[sEx,aL,aU,aK,cR,cB];exact hQ _ ⟨I,d3,h1,V,z,rfl⟩
   rintro _ ⟨I,d3,b1,a8,z,rfl⟩;refine aY (λρ=>∃(js:List Jt)(d':D),(∀j∈js,Jk I j)/\js.length<=28/\Sd (1+2000*k+1004) d'/\ρ=LgE S d' (some (.int k)) (some (.lst .own (I.map D.str))) (some (.lst .own (js.map jD))) x5 x6 x7) (λQ hQ=>?_) ?_
   .simp_arith[sEx,aL,aU,aK,LgE,cu,jU,cB,cR]
    refine(Ey z (by omega) a8).mono ?_;rintro _ ⟨js,d4,rfl,h1,h2,U⟩;simp_arith[sEx,aL,aU,aK,mK,kZ,dh,bO,yZ U,U0];exact hQ _ ⟨js,d4,h1,by omega,U.le (by omega),rfl⟩
   rintro _ ⟨js,d4,b5,b0,U,rfl⟩;have b6:lw 4 (LgE S d4 (some (.int k)) (some (.lst .own (I.map D.str))) (some (.lst .own (js.map jD))) x5 x6 x7)=some (LgE S d4 (some (.int k)) (some (.lst .own (I.map D.str))) (some (.lst .frz (js.map jD))) x5 x6 x7):=by simp[lw,LgE,fz,mR,mkF]
   have b4:lw 3 (LgE S d4 (some (.int k)) (some (.lst .own (I.map D.str))) (some (.lst .frz (js.map jD))) x5 x6 x7)=some (LgE S d4 (some (.int k)) (some (.lst .frz (I.map D.str))) (some (.lst .frz (js.map jD))) x5 x6 x7):=by simp[lw,LgE,fz,jU,mkF]
   have b3:rY (ao (eC (.int 3)) aB) (LgE S d4 (some (.int k)) (some (.lst .frz (I.map D.str))) (some (.lst .frz (js.map jD))) x5 x6 x7)=some (true,lD 0 3):=Fw (n:=3) rfl (by omega);unfold sFz;rw[b6,gD,b4,gD];unfold iV;rw[b3];simp![aN,aH];have a6:=(SS.lst I).v;have a3:=(SS.lst I).f;have a4:aA (.lst .frz (I.map D.str))=true/\az (.lst .frz (I.map D.str))=true:=⟨(SS.lst I).b,(SS.lst I).o⟩;have hJ:=JJ.lst js;refine iB (LgJ S (1+2000*k+1004) (.int k) (.lst .frz (I.map D.str)) (.lst .frz (js.map jD))) ⟨d4,_,_,_,rfl,by simpa using U⟩ ?_ ?_
   .rintro i x ρ hi ⟨d6,y5,y6,y7,rfl,s6⟩
    obtain⟨b8,rfl⟩:=oY hi;have a1:Wp (fX [d6,.lst .frz (I.map D.str)]) (λq=>∃(a b:Str)(d':D),q=(.tup [.str a,.str b],[d',.lst .frz (I.map D.str)])/\a∈I++[("lone":Str)]/\Sd (1+2000*k+1004+200*i+3) d'):=(VN s6 (by omega) (by omega)).mono (by rintro _ ⟨a,b,d',rfl,Y,_,s⟩;exact⟨a,b,d',rfl,Y,s⟩);have a5:=λ{n:Int}{d:D}{a b:Str}(h1:Sd n d)(h2:n<700000)(Y:a∈I++[("lone":Str)])=>a0 (b:=b) h1 h2 b1 a8 b5 b0 Y;generalize D.lst .frz (I.map D.str)=N at a6 a3 a4 a1 a5⊢;generalize D.lst .frz (js.map jD)=J at hJ a5⊢;simp![tgN,clean,aA,az,Zj,Yx,aH,LgE,YH,YQ];refine aY (λρ=>∃(a b:Str)(d':D),a∈I++[("lone":Str)]/\Sd (1+2000*k+1004+200*i+3) d'/\ρ=LgE S d' (some (.int k)) (some N) (some J) (some (.int i)) (some (.str a)) (some (.str b))) (λQ hQ=>?_) ?_
    .simp_arith[sEx,aL,aU,aK,a6,a3,a4]
     refine a1.mono ?_;rintro _ ⟨a,b,d7,rfl,Y,s7⟩;simp_arith[sEx,aL,aU,aK];exact hQ _ ⟨a,b,d7,Y,s7,rfl⟩
    rintro _ ⟨a,b,d7,Y,s7,rfl⟩;simp_arith[sEx,aL,aU,aK,CQ,Dw,LgE,a6,a3,a4,hJ.v,hJ.f,hJ.b,hJ.o];refine(a5 s7 (by omega) Y).mono ?_;rintro _ ⟨d8,rfl,s8⟩;simp_arith[sEx,aL,aU,aK];exact⟨d8,_,_,_,rfl,s8.le (by push_cast;omega)⟩
   .rintro ρ ⟨d6,y5,y6,y7,rfl,s6⟩
    rw[rA]at s6;exact⟨d6,_,_,_,_,_,_,rfl,s6.le (by push_cast;omega)⟩
  rintro ρ _;simp[cD,eC,aN,bR,aH,w_ite,clean,aA,az]
 obtain⟨_,e,rfl⟩:=W;exact e
section
variable{P:Program}{w:World}{K:PySem.W.Frag}{mg:Str->Option Value}{base:Heap}{x qual:Str}{st:Stmt}{f:Addr}{fd:FuncData}{N ps:List Str}{body:En->Option Fl}
theorem qP(k:Nat)(ob:Nat->Bool)(F:Fun K x qual st f fd)(S:bz N ps (aQ st))
 (U:(∀_:Unit,N.Nodup)->∀(cdv:Value)(A:Y0)(outer:List Env)(s:X4)(H:Hp)(E:XK),jM k (A.deeper (abj qual (aQ st) s.heap.objs.size f cdv))->pA (λ_:Unit=>(wU CX0 P w K mg base N qual (aQ st) f cdv A outer s H E).nox) ⟨K,mg⟩ ob (λ_=>false) (iW st) body) :
 dJ P w K mg base CX0 (k+1) f fd ps (spP ⟨K,mg⟩ (fnP ps.length N.length body)):=okP F S (U λ_=>S.nd)
theorem qI(k:Nat)(ob pr:Nat->Bool)(F:Fun K x qual st f fd)(S:bz N ps (aQ st))
 (U:(∀_:Unit,N.Nodup)->∀(cdv:Value)(A:Y0)(outer:List Env)(s:X4)(H:Hp)(E:XK),jM k (A.deeper (abj qual (aQ st) s.heap.objs.size f cdv))->pA (λ_:Unit=>(wU CX0 P w K mg base N qual (aQ st) f cdv A outer s H E).nox) ⟨K,mg⟩ ob pr (iW st) body) :
 dJ P w K mg base CX0 (k+1) f fd ps (spI ⟨K,mg⟩ ob pr (fnI pr ps.length N.length body)):=okI F S (U λ_=>S.nd)
end
def top(i:Nat):Stmt:=ac3.main.body.getD i (.Pass ⟨0,0,0,0⟩)
abbrev sF(n:List (Str×PySem.NameKind)):PySem.Scope:={kind:=.function,names:=n,isGenerator:=false,isCoroutine:=false}
local macro_rules
 |`(tactic|trivial)=>`(tactic|first|exact⟨rfl,by decide +kernel,by decide +kernel,by decide +kernel,rfl,by decide +kernel⟩|exact⟨rfl,rfl,rfl,by decide +kernel,rfl,by decide +kernel,by decide +kernel⟩)
open PySem.W (Frag nsIn fnOf keepIn codeIn mg_of mg_none_of)
abbrev nl0:List Str:=["thing"]
abbrev nl1:List Str:=["_law_script"]
abbrev nl2:List Str:=["_law_thing"]
abbrev nl3:List Str:=["_law_state","_law_names_here"]
abbrev nl4:List Str:=["_law_joinings_here","_law_one","_law_other"]
abbrev nl5:List Str:=["_law_joinings_here"]
abbrev nl6:List Str:=["joinings","one","other","some"]
abbrev nl7:List Str:=["joinings","way"]
abbrev nl8:List Str:=["joinings","one","other","n","way","some"]
abbrev nl9:List Str:=["joinings","one","other","way"]
abbrev QB:List Str:=["_law_state","_law_joinings_here","_law_n"]
abbrev U9:List Str:=["_law_state","_law_many"]
abbrev Vg:List Str:=["_law_state","_law_names_here","_law_spots","_law_found","_law_turn","_law_k","_law_j","_law_step","_law_way","_law_one","_law_other"]
abbrev Ui:List Str:=["_law_joinings_here","_law_name"]
abbrev S6:List Str:=["_law_joinings_here","_law_start"]
abbrev Vf:List Str:=["_law_joinings_here","_law_one","_law_other","_law_held","_law_ways"]
abbrev Tz:List Str:=["_law_joinings_here","_law_one","_law_other","_law_way"]
abbrev R9:List Str:=["_law_joinings_here","_law_one","_law_other","_law_n","_law_way","_law_some"]
abbrev SX:List Str:=["joining","side"]
abbrev RQ:List Str:=["joinings","name","way"]
abbrev UG:List Str:=["_law_state","_law_joinings_here","_law_one","_law_other","_law_way"]
abbrev T9:List Str:=["_law_state","_law_names_here","_law_some"]
abbrev Uo:List Str:=["_law_state","_law_names_here","_law_joinings_here","_law_one","_law_other"]
abbrev Wg:List Str:=["_law_joinings_here","_law_marks","_law_held","_law_number","_law_one","_law_other","_law_step","_law_mark","_law_further"]
abbrev V8:List Str:=["_law_name","_law_mark","_law_further","_law_marks"]
abbrev Vi:List Str:=["_law_number","_law_joinings_here"]
abbrev Vs:List Str:=["_law_place","_law_side","_law_held"]
abbrev Wb:List Str:=["_law_joinings_here","_law_one","_law_other","_law_n","_law_way","_law_some","_law_number","_law_joining"]
abbrev Vr:List Str:=["begin","end","step","some"]
abbrev VF:List Str:=["_law_state","_law_joinings_here","_law_one","_law_other","_law_way","_law_how","_law_at","_law_pair"]
abbrev Wx:List Str:=["_law_state","_law_names_here","_law_some","_law_how","_law_found","_law_word"]
abbrev ob0:Nat->Bool:=λi=>i==0
abbrev gj(P:Yu)(w:World)(K:Frag)(mg:Str->Option Value)(base:Heap):Prop:=Cal P w K mg base 1 "_law_take" U9 (spI ⟨K,mg⟩ ob0 ob0 aG)
abbrev rn(P:Yu)(w:World)(K:Frag)(mg:Str->Option Value)(base:Heap):Prop:=Cal P w K mg base 1 "_law_class" Ui (spP ⟨K,mg⟩ cC)
abbrev wG(P:Yu)(w:World)(K:Frag)(mg:Str->Option Value)(base:Heap):Prop:=Cal P w K mg base 1 "_law_beside" nl5 (spP ⟨K,mg⟩ cV)
abbrev vI(P:Yu)(w:World)(K:Frag)(mg:Str->Option Value)(base:Heap):Prop:=Cal P w K mg base 1 "_law_holding" nl5 (spP ⟨K,mg⟩ cM)
abbrev lu(P:Yu)(w:World)(K:Frag)(mg:Str->Option Value)(base:Heap):Prop:=Cal P w K mg base 2 "_law_least_ways" S6 (spP ⟨K,mg⟩ bN)
abbrev mV(P:Yu)(w:World)(K:Frag)(mg:Str->Option Value)(base:Heap):Prop:=Cal P w K mg base 1 "_law_is_whole" nl2 (spP ⟨K,mg⟩ b7)
abbrev tD(P:Yu)(w:World)(K:Frag)(mg:Str->Option Value)(base:Heap):Prop:=Cal P w K mg base 1 "_law_are_names" nl2 (spP ⟨K,mg⟩ bV)
abbrev qC(P:Yu)(w:World)(K:Frag)(mg:Str->Option Value)(base:Heap):Prop:=Cal P w K mg base 2 "_law_is_straight" Tz (spP ⟨K,mg⟩ bH)
abbrev rm(P:Yu)(w:World)(K:Frag)(mg:Str->Option Value)(base:Heap):Prop:=Cal P w K mg base 1 "are_unlike" ["things"] (spP ⟨K,mg⟩ cU)
abbrev Bd(P:Yu)(w:World)(K:Frag)(mg:Str->Option Value)(base:Heap):Prop:=Cal P w K mg base 1 "is_listed" nl0 (spP ⟨K,mg⟩ fQ)
abbrev Ja(P:Yu)(w:World)(K:Frag)(mg:Str->Option Value)(base:Heap):Prop:=Cal P w K mg base 1 "is_name" nl0 (spP ⟨K,mg⟩ cW)
abbrev Bs(P:Yu)(w:World)(K:Frag)(mg:Str->Option Value)(base:Heap):Prop:=Cal P w K mg base 1 "is_couple" nl0 (spP ⟨K,mg⟩ eE)
abbrev ul(P:Yu)(w:World)(K:Frag)(mg:Str->Option Value)(base:Heap):Prop:=Cal P w K mg base 1 "is_number" nl0 (spP ⟨K,mg⟩ cP)
abbrev Ju(P:Yu)(w:World)(K:Frag)(mg:Str->Option Value)(base:Heap):Prop:=Cal P w K mg base 2 "is_pair" nl0 (spP ⟨K,mg⟩ cY)
abbrev N5(P:Yu)(w:World)(K:Frag)(mg:Str->Option Value)(base:Heap):Prop:=Cal P w K mg base 1 "ends" SX (spP ⟨K,mg⟩ dH)
abbrev Ks(P:Yu)(w:World)(K:Frag)(mg:Str->Option Value)(base:Heap):Prop:=Cal P w K mg base 3 "is_way" nl0 (spP ⟨K,mg⟩ gM)
abbrev Wc(P:Yu)(w:World)(K:Frag)(mg:Str->Option Value)(base:Heap):Prop:=Cal P w K mg base 2 "led" RQ (spP ⟨K,mg⟩ iz)
abbrev Bp(P:Yu)(w:World)(K:Frag)(mg:Str->Option Value)(base:Heap):Prop:=Cal P w K mg base 2 "names_met" nl7 (spP ⟨K,mg⟩ d_)
abbrev Q0(P:Yu)(w:World)(K:Frag)(mg:Str->Option Value)(base:Heap):Prop:=Cal P w K mg base 2 "parts" nl6 (spP ⟨K,mg⟩ gG)
abbrev Bg(P:Yu)(w:World)(K:Frag)(mg:Str->Option Value)(base:Heap):Prop:=Cal P w K mg base 2 "are_names" nl0 (spP ⟨K,mg⟩ dD)
abbrev Dg(P:Yu)(w:World)(K:Frag)(mg:Str->Option Value)(base:Heap):Prop:=Cal P w K mg base 4 "shows_way" nl9 (spP ⟨K,mg⟩ eF)
abbrev yQ(P:Yu)(w:World)(K:Frag)(mg:Str->Option Value)(base:Heap):Prop:=Cal P w K mg base 2 "_law_since" nl4 (spP ⟨K,mg⟩ dm)
abbrev ux(P:Yu)(w:World)(K:Frag)(mg:Str->Option Value)(base:Heap):Prop:=Cal P w K mg base 3 "_law_held_way" nl4 (spP ⟨K,mg⟩ b8)
abbrev t_(P:Yu)(w:World)(K:Frag)(mg:Str->Option Value)(base:Heap):Prop:=Cal P w K mg base 3 "_law_since_due" R9 (spP ⟨K,mg⟩ bU)
abbrev wL(P:Yu)(w:World)(K:Frag)(mg:Str->Option Value)(base:Heap):Prop:=Cal P w K mg base 5 "shows_since" nl8 (spP ⟨K,mg⟩ cA)
abbrev pB(P:Yu)(w:World)(K:Frag)(mg:Str->Option Value)(base:Heap):Prop:=Cal P w K mg base 2 "_law_other_number" QB (spI ⟨K,mg⟩ ob0 ob0 bQ)
abbrev rZ(P:Yu)(w:World)(K:Frag)(mg:Str->Option Value)(base:Heap):Prop:=Cal P w K mg base 3 "_law_other_way" UG (spI ⟨K,mg⟩ ob0 ob0 cz)
abbrev qK(P:Yu)(w:World)(K:Frag)(mg:Str->Option Value)(base:Heap):Prop:=Cal P w K mg base 2 "_law_other_class" T9 (spI ⟨K,mg⟩ ob0 ob0 bW)
abbrev zL(P:Yu)(w:World)(K:Frag)(mg:Str->Option Value)(base:Heap):Prop:=Cal P w K mg base 1 "_law_begin" nl1 (spP ⟨K,mg⟩ dq)
abbrev Ak(P:Yu)(w:World)(K:Frag)(mg:Str->Option Value)(base:Heap):Prop:=Cal P w K mg base 2 "_law_names" ["_law_state"] (spI ⟨K,mg⟩ ob0 ob0 fZ)
abbrev uz(P:Yu)(w:World)(K:Frag)(mg:Str->Option Value)(base:Heap):Prop:=Cal P w K mg base 2 "_law_joinings" nl3 (spI ⟨K,mg⟩ ob0 ob0 dW)
abbrev Fo(P:Yu)(w:World)(K:Frag)(mg:Str->Option Value)(base:Heap):Prop:=Cal P w K mg base 2 "_law_two" nl3 (spI ⟨K,mg⟩ ob0 ob0 fX)
abbrev Al(P:Yu)(w:World)(K:Frag)(mg:Str->Option Value)(base:Heap):Prop:=Cal P w K mg base 6 "_law_right" Uo (spI ⟨K,mg⟩ ob0 ob0 eG)
noncomputable abbrev n6:Stmt:=top 21
noncomputable abbrev pU:Stmt:=top 22
noncomputable abbrev oN:Stmt:=top 23
noncomputable abbrev gZ:Stmt:=top 24
noncomputable abbrev sZ:Stmt:=top 29
noncomputable abbrev nW:Stmt:=top 27
noncomputable abbrev m9:Stmt:=top 36
noncomputable abbrev jA:Stmt:=top 28
noncomputable abbrev mD:Stmt:=top 25
noncomputable abbrev jl:Stmt:=top 26
noncomputable abbrev gY:Stmt:=top 37
noncomputable abbrev j5:Stmt:=top 30
noncomputable abbrev iy:Stmt:=top 32
noncomputable abbrev jc:Stmt:=top 31
noncomputable abbrev iw:Stmt:=top 35
noncomputable abbrev mz:Stmt:=top 13
noncomputable abbrev uN:Stmt:=top 16
noncomputable abbrev nZ:Stmt:=top 8
noncomputable abbrev oM:Stmt:=top 9
noncomputable abbrev o7:Stmt:=top 3
noncomputable abbrev lz:Stmt:=top 18
noncomputable abbrev nA:Stmt:=top 10
noncomputable abbrev tH:Stmt:=top 11
noncomputable abbrev qY:Stmt:=top 12
noncomputable abbrev E_:Stmt:=top 5
noncomputable abbrev M6:Stmt:=top 6
noncomputable abbrev lB:Stmt:=top 14
noncomputable abbrev nJ:Stmt:=top 15
noncomputable abbrev jB:Stmt:=top 19
noncomputable abbrev iD:Stmt:=top 38
noncomputable abbrev ir:Stmt:=top 39
noncomputable abbrev gP:Stmt:=top 40
noncomputable abbrev m8:Stmt:=top 41
noncomputable abbrev MJ:Stmt:=top 42
structure Blt(mg:Str->Option Value):Prop where
 all:mg "all"=none
 any:mg "any"=none
 bool_:mg "bool"=none
 divmod:mg "divmod"=none
 enumerate:mg "enumerate"=none
 int_:mg "int"=none
 isinstance:mg "isinstance"=none
 len:mg "len"=none
 list_:mg "list"=none
 max:mg "max"=none
 range:mg "range"=none
 repr:mg "repr"=none
 reversed:mg "reversed"=none
 set_:mg "set"=none
 sorted:mg "sorted"=none
 str_:mg "str"=none
 tuple:mg "tuple"=none
theorem aO{k:Nat}{A:Y0}(r:jM k A):A.units+1<cLine:=by have:=r.units;omega
section
variable{P:Program}{w:World}{K:Frag}{mg:Str->Option Value}{base:Heap}
theorem Ag:bz ["_law_script","_law_cells"] nl1 (aQ n6):=by trivial
theorem yD{f:Addr}{fd:YC}(F:Fun K "_law_begin" "_law_begin" n6 f fd)(B:Blt mg):dJ P w K mg base CX0 1 f fd nl1 (spP ⟨K,mg⟩ dq):=
 qP 0 (λi=>false) F Ag λnd _ _ _ _ _ _ Z=>(au (bx 1 nd (jZ Bt (λ_=>rfl) (λ_=>B.list_) aep (aa (gJ slb (aj false 0) gH (gK aF)) aq)))
  (au (bG (a_ (cb_eq _ (λ_=>rfl) Z.units) (aj false 1) (fL aq)) (aJ (bx 1 nd (fL (aa aF aq)))) bu)
  (aJ (Jz 1))))
theorem Cg:bz ["_law_state","_law_many","_law_turn","_law_spot","_law_cell","_law_digit","_law_mixed"] U9 (aQ pU):=by trivial
theorem Df{f:Addr}{fd:YC}(F:Fun K "_law_take" "_law_take" pU f fd)(B:Blt mg):dJ P w K mg base CX0 1 f fd U9 (spI ⟨K,mg⟩ ob0 ob0 aG):=
 qI 0 ob0 ob0 F Cg λnd _ _ _ _ _ _ Z=>(au (bx 2 nd (cO dX (cI (ixb (λ_=>aO Z)) (aj true 0) jK) aF))
  (au (jx (aj false 2) (jw (jy (λ_=>aO Z)) (eY 0) jK))
  (au (bx 3 nd (cO pZ (aj false 2) (aV b_ (λ_=>rfl) (λ_=>B.len) Y_ (aa (cI (ixb (λ_=>aO Z)) (aj true 0) jK) aq))))
  (au (bx 4 nd (cI (ixb (λ_=>aO Z)) (cI (ixb (λ_=>aO Z)) (aj true 0) jK) (aj false 3)))
  (au (bG (a_ Rb (aj false 4) (cO Td aF aF)) (au (jx (aV Fy (λ_=>rfl) (λ_=>B.divmod) boot_divmod (aa (aj false 4) (aa (aj false 1) aq))) (gq (λ_=>rfl) (bh (jw (jy (λ_=>aO Z)) (QH (λ_=>aO Z) (eY 0) jK) (aj false 3)) (bh (bf 5 nd) eU))))
  (aJ (ig 5))) bu)
  (au (bx 6 nd (cO pZ (cO mG (cO dX (cO dX (cO pZ (aj false 4) aF) (cO mG (cO mG (aj false 2) (aj false 2)) aF)) aF) aF) aF))
  (au (bx 6 nd (cO pZ (cO mG (aj false 6) (aj false 6)) aF))
  (aJ (aZ (cO pZ (cO OD (cO pZ (cO mG (cO dX (aj false 6) (cO mG (aj false 2) aF)) aF) aF) aF) (aj false 1)))))))))))
theorem yC:bz ["_law_state","_law_many","_law_some","_law_first"] ["_law_state"] (aQ oN):=by trivial
theorem Af{f:Addr}{fd:YC}(F:Fun K "_law_names" "_law_names" oN f fd)(B:Blt mg)(D:gj P w K mg base):dJ P w K mg base CX0 2 f fd ["_law_state"] (spI ⟨K,mg⟩ ob0 ob0 fZ):=
 qI 1 ob0 ob0 F yC λnd _ _ _ _ _ _ Z=>(au (eQ 1 nd (l_ (ixb (λ_=>aO Z)) (G4 (bK (dg aF) (bK (dg aF) (bK (dg aF) (bK (dg aF) (bK (dg aF) (bK (dg aF) (bK (n_ dX (dg aF) (bZ [0] (λ_=>D) (λ_=>Z.mono (by decide)) (bF 0 (bC (bj (aa aF aq)))))) (bK (bZ [0] (λ_=>D) (λ_=>Z.mono (by decide)) (bF 0 (bC (bj (aa aF aq))))) (bj aq)))))))))) (bZ [0] (λ_=>D) (λ_=>Z.mono (by decide)) (bF 0 (bC (bj (aa aF aq)))))))
  (au (bx 2 nd (BZ Ig PySem.F.plainAttrs_str PySem.F.slot_str_split PySem.F.type_str_split jK (aa jK aq)))
  (au (eQ 3 nd (bZ [0] (λ_=>D) (λ_=>Z.mono (by decide)) (bF 0 (bC (bj (aa (aV b_ (λ_=>rfl) (λ_=>B.len) Y_ (aa (aj false 2) aq)) aq))))))
  (aJ (aZ (gJ slb (cO dX (gJ slb (aj false 2) (gK (aj false 3)) gH) (gJ slb (aj false 2) gH (gK (aj false 3)))) gH (gK (aj false 1))))))))
theorem uI:bz Vg nl3 (aQ gZ):=by trivial
def qm:Scope:=sF [(".0",.local),("_law_name",.local),("_law_take",.globalImplicit),("_law_state",.free)]
theorem qZ:(["_law_name","_law_state"]:List Str).Nodup:=by decide +kernel
theorem rG:dO (aQ gZ) Vg ["_law_name","_law_state"] qm [none,some 0]:=by trivial
def pP:Scope:=sF [(".0",.local),("_law_spot",.local)]
theorem rO:(["_law_spot"]:List Str).Nodup:=by decide +kernel
theorem rQ:dO (aQ gZ) Vg ["_law_spot"] pP [none]:=by trivial
theorem uD{f:Addr}{fd:YC}(F:Fun K "_law_joinings" "_law_joinings" gZ f fd)(B:Blt mg)(D:gj P w K mg base):dJ P w K mg base CX0 2 f fd nl3 (spI ⟨K,mg⟩ ob0 ob0 dW):=
 qI 1 ob0 ob0 F uI λnd _ _ _ _ _ _ Z=>(au (Je 2 [none,some 0] ob0 nd (λ_=>rfl) (λ_=>rfl) (λ_=>rG) (O3 rfl) (gw rfl) (fO (aj false 1)) (HJ 0 (λ_=>qZ)) f9 (n_ qu (bZ [1] (λ_=>D) (λ_=>Z.mono (by decide)) (bF 1 (bC (bj (aa aF aq))))) (dg aF)))
  (au (zH (BK (cb_eq _ (λ_=>rfl) Z.units) (bZ [0] (λ_=>D) (λ_=>Z.mono (by decide)) (bF 0 (bC (bj (aa aF aq))))) (dg aF)) (aJ (Mf 2 [none] ob0 nd (λ_=>rfl) (λ_=>rfl) (λ_=>rQ) (gw rfl) (fO (aj false 2)) (cg 0 (λ_=>rO)) f9 (cO mG (aj false 0) aF))) bu)
  (au (bx 3 nd (fL aq))
  (au (vM (λ_=>YZ) (λ_=>rfl) (yP (λ_=>rfl) (λ_=>B.range) (bK (bZ [0] (λ_=>D) (λ_=>Z.mono (by decide)) (bF 0 (bC (bj (aa (cO dX (cO mG aF (aV b_ (λ_=>rfl) (λ_=>B.len) Y_ (aa (aj false 1) aq))) aF) aq))))) (bj aq))) (bf 4 nd) (au (Kd 5 6 (λ_=>rfl) nd (bK (bZ [0] (λ_=>D) (λ_=>Z.mono (by decide)) (bF 0 (bC (bj (aa (aV b_ (λ_=>rfl) (λ_=>B.len) Y_ (aa (aj false 1) aq)) aq))))) (bK (bZ [0] (λ_=>D) (λ_=>Z.mono (by decide)) (bF 0 (bC (bj (aa (aV b_ (λ_=>rfl) (λ_=>B.len) Y_ (aa (aj false 1) aq)) aq))))) (bj aq))))
  (au (bx 7 nd (cO qu (cI (ixb (λ_=>aO Z)) (aj false 2) (aj false 6)) (cI (ixb (λ_=>aO Z)) (aj false 2) (aj false 5))))
  (au (zH (BK (cb_eq _ (λ_=>rfl) Z.units) (bZ [0] (λ_=>D) (λ_=>Z.mono (by decide)) (bF 0 (bC (bj (aa aF aq))))) (dg aF)) (aJ (eQ 7 nd (n_ qu (bZ [0] (λ_=>D) (λ_=>Z.mono (by decide)) (bF 0 (bC (bj (aa aF aq))))) (dg aF)))) bu)
  (au (o4 qt Z3 aaK aaL (eY 3) (aa (eO (aa (cI (ixb (λ_=>aO Z)) (aj false 1) (aj false 5)) (aa (cI (ixb (λ_=>aO Z)) (aj false 1) (aj false 6)) (aa (aj false 7) aq)))) aq))
  (au (eQ 8 nd (bZ [0] (λ_=>D) (λ_=>Z.mono (by decide)) (bF 0 (bC (bj (aa aF aq))))))
  (au (bG (a_ (cb_eq _ (λ_=>rfl) Z.units) (aj false 8) aF) (aJ (lU (l_ (ixb (λ_=>aO Z)) (dg (aj false 3)) (bZ [0] (λ_=>D) (λ_=>Z.mono (by decide)) (bF 0 (bC (bj (aa (aV b_ (λ_=>rfl) (λ_=>B.len) Y_ (aa (aj false 3) aq)) aq)))))) (jw (jy (λ_=>aO Z)) (eY 3) (lJ jj aF)))) bu)
  (aJ (bG (a_ (cb_eq _ (λ_=>rfl) Z.units) (aj false 8) aF) (au (lU (l_ (ixb (λ_=>aO Z)) (dg (aj false 3)) (bZ [0] (λ_=>D) (λ_=>Z.mono (by decide)) (bF 0 (bC (bj (aa (aV b_ (λ_=>rfl) (λ_=>B.len) Y_ (aa (aj false 3) aq)) aq)))))) (gq (λ_=>rfl) (bh (bf 9 nd) (bh (bf 10 nd) (bh (bf 7 nd) eU)))))
  (aJ (jx (eO (aa (aj false 10) (aa (aj false 9) (aa (lJ jj (aj false 7)) aq)))) (jw (jy (λ_=>aO Z)) (eY 3) (lJ jj aF))))) bu)))))))))
  (aJ (ig 3))))))
theorem Ez:bz ["_law_state","_law_names_here","_law_some","_law_one","_law_other"] nl3 (aQ sZ):=by trivial
theorem Ff{f:Addr}{fd:YC}(F:Fun K "_law_two" "_law_two" sZ f fd)(B:Blt mg)(D:gj P w K mg base):dJ P w K mg base CX0 2 f fd nl3 (spI ⟨K,mg⟩ ob0 ob0 fX):=
 qI 1 ob0 ob0 F Ez λnd _ _ _ _ _ _ Z=>(au (bx 2 nd (cO dX (aj false 1) (fL (aa jK aq))))
  (au (eQ 3 nd (l_ (ixb (λ_=>aO Z)) (dg (aj false 2)) (bZ [0] (λ_=>D) (λ_=>Z.mono (by decide)) (bF 0 (bC (bj (aa (aV b_ (λ_=>rfl) (λ_=>B.len) Y_ (aa (aj false 2) aq)) aq)))))))
  (au (eQ 4 nd (l_ (ixb (λ_=>aO Z)) (dg (aj false 2)) (bZ [0] (λ_=>D) (λ_=>Z.mono (by decide)) (bF 0 (bC (bj (aa (aV b_ (λ_=>rfl) (λ_=>B.len) Y_ (aa (aj false 2) aq)) aq)))))))
  (aJ (Bw (Hu (bK (dg (aj false 3)) (bK (l_ (ixb (λ_=>aO Z)) (dg (fL (aa (aj false 4) (aa (aj false 3) aq)))) (EY Pa (λ_=>rfl) (λ_=>B.int_) boot_int (bK (Pn (cb_eq _ (λ_=>rfl) Z.units) (bZ [0] (λ_=>D) (λ_=>Z.mono (by decide)) (bF 0 (bC (bj (aa aF aq))))) (dg aF)) (bj aq)))) (bj aq)))))))))
theorem zr:bz ["_law_joinings_here","_law_name","_law_found","_law_grown","_law_one","_law_other","_law_step"] Ui (aQ nW):=by trivial
theorem yI{f:Addr}{fd:YC}(F:Fun K "_law_class" "_law_class" nW f fd)(B:Blt mg):dJ P w K mg base CX0 1 f fd Ui (spP ⟨K,mg⟩ cC):=
 qP 0 (λi=>false) F zr λnd _ _ _ _ _ _ Z=>(au (bx 2 nd (uU (lK (aj false 1) eZ rM)))
  (au (bx 3 nd eZ)
  (au (xJ 1000000 (λ_=>YZ) (GK (dF (aj false 3))) (au (bx 3 nd eZ)
  (aJ (iU (λ_=>YZ) (λ_=>rfl) (fO (aj false 0)) (gq (λ_=>rfl) (bh (bf 4 nd) (bh (bf 5 nd) (bh (bf 6 nd) eU)))) (aJ (bG (a_ (jR _ (λ_=>rfl) Z.units) (fP (lG (λ_=>aO Z)) (aj false 4) (aj false 2)) (fP (lG (λ_=>aO Z)) (aj false 5) (aj false 2))) (au (jx eZ (jw (jy (λ_=>aO Z)) (eY 2) (aj false 4)))
  (au (jx eZ (jw (jy (λ_=>aO Z)) (eY 2) (aj false 5)))
  (aJ (bx 3 nd eZ)))) bu))))))
  (aJ (ig 2)))))
theorem zE:bz ["_law_joinings_here","_law_one","_law_other","_law_number"] nl4 (aQ m9):=by trivial
theorem An{f:Addr}{fd:YC}(F:Fun K "_law_since" "_law_since" m9 f fd)(B:Blt mg)(Y:rn P w K mg base):dJ P w K mg base CX0 2 f fd nl4 (spP ⟨K,mg⟩ dm):=
 qP 1 (λi=>false) F zE λnd _ _ _ _ _ _ Z=>(au (bG (a_ (cb_eq _ (λ_=>rfl) Z.units) (aj false 1) (aj false 2)) (aJ (aZ (lJ jj aF))) bu)
  (au (iU (λ_=>YZ) (λ_=>rfl) (Ej (λ_=>rfl) (λ_=>B.range) (aa (aV b_ (λ_=>rfl) (λ_=>B.len) Y_ (aa (aj false 0) aq)) aq)) (bf 3 nd) (aJ (bG (a_ (lG (λ_=>aO Z)) (aj false 2) (cF (λ_=>Y) (λ_=>Z.mono (by decide)) (aa (gJ slb (aj false 0) gH (gK (cO dX (aj false 3) aF))) (aa (aj false 1) aq)))) (aJ (ig 3)) bu)))
  (aJ (aZ yu))))
theorem vo:bz Wg nl5 (aQ jA):=by trivial
def qL:Scope:=sF [(".0",.local),("_law_name",.local),("_law_further",.free),("_law_mark",.free),("_law_marks",.free)]
theorem tE:(V8:List Str).Nodup:=by decide +kernel
theorem tZ:dO (aQ jA) Wg V8 qL [none,some 7,some 8,some 1]:=by trivial
theorem vd{f:Addr}{fd:YC}(F:Fun K "_law_holding" "_law_holding" jA f fd)(B:Blt mg):dJ P w K mg base CX0 1 f fd nl5 (spP ⟨K,mg⟩ cM):=
 qP 0 (λi=>false) F vo λnd _ _ _ _ _ _ Z=>(au (bx 1 nd uP)
  (au (bx 2 nd (fL aq))
  (au (iU (λ_=>YZ) (λ_=>rfl) (tW (λ_=>rfl) (λ_=>B.enumerate) (aa (aj false 0) aq)) (gq (λ_=>rfl) (bh (bf 3 nd) (bh (gq (λ_=>rfl) (bh (bf 4 nd) (bh (bf 5 nd) (bh (bf 6 nd) eU)))) eU))) (au (jx (eO (aa (BZ (uR (λ_=>aO Z)) Zk Zw aau (aj false 1) (aa (aj false 4) (aa (aj false 4) aq))) (aa (BZ (uR (λ_=>aO Z)) Zk Zw aau (aj false 1) (aa (aj false 5) (aa (aj false 5) aq))) aq))) (gq (λ_=>rfl) (bh (bf 7 nd) (bh (bf 8 nd) eU))))
  (aJ (bG (a_ (jR _ (λ_=>rfl) Z.units) (aj false 7) (aj false 8)) (au (o4 qt Z3 aaK aaL (eY 2) (aa (aj false 3) aq))
  (au (o4 (qF (λ_=>rfl)) Zk abC abD (eY 1) (aa (Kq 1 [none,some 7,some 8,some 1] ob0 (λ_=>rfl) (λ_=>rfl) (λ_=>tZ) (gw rfl) (cg 0 (λ_=>tE)) (Cw (a_ (cb_eq _ (λ_=>rfl) Z.units) (cI (ixb (λ_=>aO Z)) (aj false 3) (aj false 0)) (aj false 2))) (eO (aa (aj false 0) (aa (aj false 1) aq)))) aq))
  (aJ (o4 (qF (λ_=>rfl)) Zk abC abD (eY 1) (aa (uU (lK (aj false 4) (aj false 7) (lK (aj false 5) (aj false 7) rM))) aq))))) bu))))
  (aJ (ig 2)))))
theorem wI:bz ["_law_joinings_here","_law_found","_law_number","_law_one","_law_other","_law_step"] nl5 (aQ mD):=by trivial
theorem wB{f:Addr}{fd:YC}(F:Fun K "_law_beside" "_law_beside" mD f fd)(B:Blt mg):dJ P w K mg base CX0 1 f fd nl5 (spP ⟨K,mg⟩ cV):=
 qP 0 (λi=>false) F wI λnd _ _ _ _ _ _ Z=>(au (bx 1 nd uP)
  (au (iU (λ_=>YZ) (λ_=>rfl) (tW (λ_=>rfl) (λ_=>B.enumerate) (aa (aj false 0) aq)) (gq (λ_=>rfl) (bh (bf 2 nd) (bh (gq (λ_=>rfl) (bh (bf 3 nd) (bh (bf 4 nd) (bh (bf 5 nd) eU)))) eU))) (au (GX 1 (aa (aj false 3) (aa (fL aq) aq)) (aa (eO (aa (eO (aa (aj false 2) (aa aF aq))) (aa (aj false 4) aq))) aq))
  (aJ (GX 1 (aa (aj false 4) (aa (fL aq) aq)) (aa (eO (aa (eO (aa (aj false 2) (aa (lJ jj aF) aq))) (aa (aj false 3) aq))) aq)))))
  (aJ (ig 1))))
theorem q_:bz ["_law_joinings_here","_law_start","_law_beside_here","_law_found","_law_here","_law_further","_law_name","_law_pair","_law_other","_law_way"] S6 (aQ jl):=by trivial
theorem qX{f:Addr}{fd:YC}(F:Fun K "_law_least_ways" "_law_least_ways" jl f fd)(B:Blt mg)(q:wG P w K mg base):dJ P w K mg base CX0 2 f fd S6 (spP ⟨K,mg⟩ bN):=
 qP 1 (λi=>false) F q_ λnd _ _ _ _ _ _ Z=>(au (bx 2 nd (cF (λ_=>q) (λ_=>Z.mono (by decide)) (aa (aj false 0) aq)))
  (au (bx 3 nd (uU (lK (aj false 1) (eO aq) rM)))
  (au (bx 4 nd (uU (lK (aj false 1) (eO aq) rM)))
  (au (xJ 1000000 (λ_=>YZ) (GK (a_ (U6 _ (λ_=>rfl) Z.units) (aj false 4) uP)) (au (bx 5 nd uP)
  (au (qJ 2 (qJ 4 (Lq 4 (λ_=>YZ) (λ_=>rfl) (bf 6 nd) (aJ (iU (λ_=>YZ) (λ_=>rfl) (fO (QM (λ_=>aO Z) (aj false 2) (aa (aj false 6) (aa (fL aq) aq)))) (gq (λ_=>rfl) (bh (bf 7 nd) (bh (bf 8 nd) eU))) (au (bx 9 nd (cO dX (cI (ixb (λ_=>aO Z)) (aj false 4) (aj false 6)) (eO (aa (aj false 7) aq))))
  (aJ (bG (iT (rP (a_ (oK (λ_=>aO Z)) (aj false 8) (aj false 3)) (oh (iT (fV (a_ (oK (λ_=>aO Z)) (aj false 8) (aj false 5)) (gR (a_ (RL _ (λ_=>rfl) Z.units) (aj false 9) (cI (ixb (λ_=>aO Z)) (aj false 5) (aj false 8))))))))) (aJ (jx (aj false 9) (jw (jy (λ_=>aO Z)) (eY 5) (aj false 8)))) bu))))))))
  (au (qJ 5 (o4 (qF (λ_=>rfl)) Zk abC abD (eY 3) (aa (aj false 5) aq)))
  (aJ (bx 4 nd (aj false 5)))))))
  (aJ (ig 3))))))
theorem uH:bz Vf nl4 (aQ gY):=by trivial
def qG:Scope:=sF [(".0",.local),("_law_number",.local),("_law_joinings_here",.free)]
theorem qO:(Vi:List Str).Nodup:=by decide +kernel
theorem qM:dO (aQ gY) Vf Vi qG [none,some 0]:=by trivial
def qb:Scope:=sF [(".0",.local),("_law_place",.local),("_law_side",.local),("_law_held",.free)]
theorem lA:(Vs:List Str).Nodup:=by decide +kernel
theorem rB:dO (aQ gY) Vf Vs qb [none,none,some 3]:=by trivial
theorem uE{f:Addr}{fd:YC}(F:Fun K "_law_held_way" "_law_held_way" gY f fd)(B:Blt mg)(q:vI P w K mg base)(I:lu P w K mg base):dJ P w K mg base CX0 3 f fd nl4 (spP ⟨K,mg⟩ b8):=
 qP 2 (λi=>false) F uH λnd _ _ _ _ _ _ Z=>(au (bx 3 nd (cF (λ_=>q) (λ_=>Z.mono (by decide)) (aa (aj false 0) aq)))
  (au (bx 4 nd (cF (λ_=>I) (λ_=>Z.mono (by decide)) (aa (iu [none,some 0] ob0 (λ_=>rfl) (λ_=>rfl) (λ_=>qM) (gw rfl) (fO (aj false 3)) (cg 0 (λ_=>qO)) f9 (cI (ixb (λ_=>aO Z)) (aj false 1) (aj false 0))) (aa (aj false 1) aq))))
  (aJ (aZ (jZ oR (λ_=>rfl) (λ_=>B.tuple) aaE (aa (iu [none,none,some 3] (λi=>i==0||i==1) (λ_=>rfl) (λ_=>rfl) (λ_=>rB) (gw rfl) (fO (BZ (uR (λ_=>aO Z)) Zk Zw aau (aj false 4) (aa (aj false 2) (aa (eO aq) aq)))) (nF (λ_=>rfl) (eX (cg 0 (λ_=>lA)) (eX (cg 1 (λ_=>lA)) lF))) f9 (eO (aa (cI (ixb (λ_=>aO Z)) (aj false 2) (aj false 0)) (aa (aj false 1) aq)))) aq))))))
theorem uL:bz nl2 nl2 (aQ j5):=by trivial
theorem uC{f:Addr}{fd:YC}(F:Fun K "_law_is_whole" "_law_is_whole" j5 f fd)(B:Blt mg):dJ P w K mg base CX0 1 f fd nl2 (spP ⟨K,mg⟩ b7):=
 qP 0 (λi=>false) F uL λnd _ _ _ _ _ _ Z=>(aJ (aZ (kO (aV dw (λ_=>rfl) (λ_=>B.isinstance) Zt (aa (aj false 0) (aa (j_ (λ_=>rfl) (λ_=>B.int_) boot_int) aq))) (oG (Ma (aV dw (λ_=>rfl) (λ_=>B.isinstance) Zt (aa (aj false 0) (aa (j_ (λ_=>rfl) (λ_=>B.bool_) boot_bool) aq))))))))
theorem tB:bz ["_law_thing","_law_name"] nl2 (aQ iy):=by trivial
def pF:Scope:=sF [(".0",.local),("_law_sign",.local)]
theorem qy:(["_law_sign"]:List Str).Nodup:=by decide +kernel
theorem qx:dO (aQ iy) ["_law_thing","_law_name"] ["_law_sign"] pF [none]:=by trivial
theorem tG{f:Addr}{fd:YC}(F:Fun K "_law_are_names" "_law_are_names" iy f fd)(B:Blt mg):dJ P w K mg base CX0 1 f fd nl2 (spP ⟨K,mg⟩ bV):=
 qP 0 (λi=>false) F tB λnd _ _ _ _ _ _ Z=>(au (bG (dZ (dF (aV dw (λ_=>rfl) (λ_=>B.isinstance) Zt (aa (aj false 0) (aa (eO (aa (j_ (λ_=>rfl) (λ_=>B.list_) aep) (aa (j_ (λ_=>rfl) (λ_=>B.tuple) aaE) aq))) aq))))) (aJ (aZ eZ)) bu)
  (au (iU (λ_=>YZ) (λ_=>rfl) (fO (aj false 0)) (bf 1 nd) (au (bG (iT (fV (dZ (dF (aV dw (λ_=>rfl) (λ_=>B.isinstance) Zt (aa (aj false 1) (aa (j_ (λ_=>rfl) (λ_=>B.str_) boot_str) aq))))) (gR (dZ (wZ KZ KZ aF (aV b_ (λ_=>rfl) (λ_=>B.len) Y_ (aa (aj false 1) aq)) aF))))) (aJ (aZ eZ)) bu)
  (aJ (bG (dZ (dF (aV (rJ (λ_=>rfl)) (λ_=>rfl) (λ_=>B.all) adS (aa (iu [none] ob0 (λ_=>rfl) (λ_=>rfl) (λ_=>qx) (gw rfl) (G9 (aj false 1)) (cg 0 (λ_=>qy)) f9 (fP (lG (λ_=>aO Z)) (aj false 0) jK)) aq)))) (aJ (aZ eZ)) bu))))
  (aJ (aZ eZ))))
theorem pR:bz ["_law_joinings_here","_law_one","_law_other","_law_way","_law_met","_law_pair","_law_begin_here","_law_end"] Tz (aQ jc):=by trivial
theorem qd{f:Addr}{fd:YC}(F:Fun K "_law_is_straight" "_law_is_straight" jc f fd)(B:Blt mg)(J:mV P w K mg base):dJ P w K mg base CX0 2 f fd Tz (spP ⟨K,mg⟩ bH):=
 qP 1 (λi=>false) F pR λnd _ _ _ _ _ _ Z=>(au (bG (dZ (dF (aV dw (λ_=>rfl) (λ_=>B.isinstance) Zt (aa (aj false 3) (aa (j_ (λ_=>rfl) (λ_=>B.tuple) aaE) aq))))) (aJ (aZ eZ)) bu)
  (au (bx 4 nd (fL (aa (aj false 1) aq)))
  (au (iU (λ_=>YZ) (λ_=>rfl) (fO (aj false 3)) (bf 5 nd) (au (bG (iT (fV (dZ (dF (aV dw (λ_=>rfl) (λ_=>B.isinstance) Zt (aa (aj false 5) (aa (j_ (λ_=>rfl) (λ_=>B.tuple) aaE) aq))))) (fV (a_ (jR _ (λ_=>rfl) Z.units) (aV b_ (λ_=>rfl) (λ_=>B.len) Y_ (aa (aj false 5) aq)) aF) (fV (dZ (dF (cF (λ_=>J) (λ_=>Z.mono (by decide)) (aa (cI (ixb (λ_=>aO Z)) (aj false 5) aF) aq)))) (gR (dZ (dF (cF (λ_=>J) (λ_=>Z.mono (by decide)) (aa (cI (ixb (λ_=>aO Z)) (aj false 5) aF) aq))))))))) (aJ (aZ eZ)) bu)
  (au (bG (iT (fV (dZ (wZ KZ xX aF (cI (ixb (λ_=>aO Z)) (aj false 5) aF) (aV b_ (λ_=>rfl) (λ_=>B.len) Y_ (aa (aj false 0) aq)))) (gR (a_ (oK (λ_=>aO Z)) (cI (ixb (λ_=>aO Z)) (aj false 5) aF) (eO (aa aF (aa (lJ jj aF) aq))))))) (aJ (aZ eZ)) bu)
  (au (jx (O8 (gJ slb (cI (ixb (λ_=>aO Z)) (aj false 0) (cI (ixb (λ_=>aO Z)) (aj false 5) aF)) gH (gK aF)) (cI (ixb (λ_=>aO Z)) (aj false 5) aF)) (gq (λ_=>rfl) (bh (bf 6 nd) (bh (bf 7 nd) eU))))
  (au (bG (iT (fV (a_ (jR _ (λ_=>rfl) Z.units) (aj false 6) (cI (ixb (λ_=>aO Z)) (aj false 4) (lJ jj aF))) (gR (a_ (lG (λ_=>aO Z)) (aj false 7) (aj false 4))))) (aJ (aZ eZ)) bu)
  (aJ (o4 qt Z3 aaK aaL (eY 4) (aa (aj false 7) aq))))))))
  (aJ (aZ (fP (cb_eq _ (λ_=>rfl) Z.units) (cI (ixb (λ_=>aO Z)) (aj false 4) (lJ jj aF)) (aj false 2)))))))
theorem ue:bz Wb R9 (aQ iw):=by trivial
def pq:Scope:=sF [(".0",.local),("_law_pair",.local),("_law_n",.free)]
theorem qw:(["_law_pair","_law_n"]:List Str).Nodup:=by decide +kernel
theorem pO:dO (aQ iw) Wb ["_law_pair","_law_n"] pq [none,some 3]:=by trivial
theorem sI{f:Addr}{fd:YC}(F:Fun K "_law_since_due" "_law_since_due" iw f fd)(B:Blt mg)(J:mV P w K mg base)(z:tD P w K mg base)(q:qC P w K mg base):dJ P w K mg base CX0 3 f fd R9 (spP ⟨K,mg⟩ bU):=
 qP 2 (λi=>false) F ue λnd _ _ _ _ _ _ Z=>(au (bG (iT (fV (dZ (dF (cF (λ_=>J) (λ_=>Z.mono (by decide)) (aa (aj false 3) aq)))) (gR (dZ (dF (cF (λ_=>z) (λ_=>Z.mono (by decide)) (aa (aj false 5) aq))))))) (aJ (aZ eZ)) bu)
  (au (bG (a_ (cb_eq _ (λ_=>rfl) Z.units) (aj false 3) (lJ jj aF)) (aJ (aZ (kO (fP (cb_eq _ (λ_=>rfl) Z.units) (aj false 1) (aj false 2)) (kO (fP (cb_eq _ (λ_=>rfl) Z.units) (aj false 4) (eO aq)) (oG (fP (cb_eq _ (λ_=>rfl) Z.units) (aV b_ (λ_=>rfl) (λ_=>B.len) Y_ (aa (aj false 5) aq)) aF)))))) bu)
  (au (bG (iT (fV (dZ (dF (cF (λ_=>q) (λ_=>Z.mono (by decide)) (aa (aj false 0) (aa (aj false 1) (aa (aj false 2) (aa (aj false 4) aq))))))) (gR (a_ (jR _ (λ_=>rfl) Z.units) (xm (λ_=>rfl) (λ_=>B.len) (λ_=>B.set_) (aa (aj false 5) aq)) (aV b_ (λ_=>rfl) (λ_=>B.len) Y_ (aa (aj false 5) aq)))))) (aJ (aZ eZ)) bu)
  (au (bG (iT (fV (dF (aV (Hc (λ_=>rfl)) (λ_=>rfl) (λ_=>B.any) boot_any (aa (iu [none,some 3] ob0 (λ_=>rfl) (λ_=>rfl) (λ_=>pO) (gw rfl) (fO (aj false 4)) (cg 0 (λ_=>qw)) f9 (fP KY (cI (ixb (λ_=>aO Z)) (aj false 0) aF) (aj false 1))) aq))) (fV (a_ (oK (λ_=>aO Z)) (aj false 1) (aj false 5)) (gR (a_ (lG (λ_=>aO Z)) (aj false 2) (aj false 5)))))) (aJ (aZ eZ)) bu)
  (au (iU (λ_=>YZ) (λ_=>rfl) (tW (λ_=>rfl) (λ_=>B.enumerate) (aa (aj false 0) aq)) (gq (λ_=>rfl) (bh (bf 6 nd) (bh (bf 7 nd) eU))) (aJ (bG (iT (rP (a_ xX (aj false 6) (aj false 3)) (oh (a_ (jR _ (λ_=>rfl) Z.units) (fP (lG (λ_=>aO Z)) (cI (ixb (λ_=>aO Z)) (aj false 7) aF) (aj false 5)) (fP (lG (λ_=>aO Z)) (cI (ixb (λ_=>aO Z)) (aj false 7) aF) (aj false 5)))))) (aJ (aZ eZ)) bu)))
  (aJ (aZ eZ)))))))
theorem wO:bz ["things"] ["things"] (aQ mz):=by trivial
theorem wJ{f:Addr}{fd:YC}(F:Fun K "are_unlike" "are_unlike" mz f fd)(B:Blt mg):dJ P w K mg base CX0 1 f fd ["things"] (spP ⟨K,mg⟩ cU):=
 qP 0 (λi=>false) F wO λnd _ _ _ _ _ _ Z=>(aJ (aZ (fP (cb_eq _ (λ_=>rfl) Z.units) (xm (λ_=>rfl) (λ_=>B.len) (λ_=>B.set_) (aa (aj false 0) aq)) (aV b_ (λ_=>rfl) (λ_=>B.len) Y_ (aa (aj false 0) aq)))))
theorem Ny:bz nl6 nl6 (aQ uN):=by trivial
def Bb:Scope:=sF [(".0",.local),("begin",.local),("end",.local),("step",.local),("some",.free)]
theorem qp:(Vr:List Str).Nodup:=by decide +kernel
theorem Ek:dO (aQ uN) nl6 Vr Bb [none,none,none,some 3]:=by trivial
theorem MP{f:Addr}{fd:YC}(F:Fun K "parts" "parts" uN f fd)(B:Blt mg)(V:rm P w K mg base):dJ P w K mg base CX0 2 f fd nl6 (spP ⟨K,mg⟩ gG):=
 qP 1 (λi=>false) F Ny λnd _ _ _ _ _ _ Z=>(au (bG (iT (fV (dZ (dF (cF (λ_=>V) (λ_=>Z.mono (by decide)) (aa (aj false 3) aq)))) (fV (a_ (oK (λ_=>aO Z)) (aj false 1) (aj false 3)) (gR (a_ (lG (λ_=>aO Z)) (aj false 2) (aj false 3)))))) (aJ (aZ eZ)) bu)
  (aJ (aZ (aV (rJ (λ_=>rfl)) (λ_=>rfl) (λ_=>B.all) adS (aa (iu [none,none,none,some 3] (λi=>i==0||i==1||i==2) (λ_=>rfl) (λ_=>rfl) (λ_=>Ek) (gw rfl) (fO (aj false 0)) (nF (λ_=>rfl) (eX (cg 0 (λ_=>qp)) (eX (cg 1 (λ_=>qp)) (eX (cg 2 (λ_=>qp)) lF)))) f9 (fP (cb_eq _ (λ_=>rfl) Z.units) (fP (lG (λ_=>aO Z)) (aj false 0) (aj false 3)) (fP (lG (λ_=>aO Z)) (aj false 1) (aj false 3)))) aq)))))
theorem zU:bz nl0 nl0 (aQ nZ):=by trivial
theorem yq{f:Addr}{fd:YC}(F:Fun K "is_number" "is_number" nZ f fd)(B:Blt mg):dJ P w K mg base CX0 1 f fd nl0 (spP ⟨K,mg⟩ cP):=
 qP 0 (λi=>false) F zU λnd _ _ _ _ _ _ Z=>(aJ (aZ (kO (aV dw (λ_=>rfl) (λ_=>B.isinstance) Zt (aa (aj false 0) (aa (j_ (λ_=>rfl) (λ_=>B.int_) boot_int) aq))) (oG (Ma (aV dw (λ_=>rfl) (λ_=>B.isinstance) Zt (aa (aj false 0) (aa (j_ (λ_=>rfl) (λ_=>B.bool_) boot_bool) aq))))))))
theorem yU:bz nl0 nl0 (aQ oM):=by trivial
theorem yW{f:Addr}{fd:YC}(F:Fun K "is_listed" "is_listed" oM f fd)(B:Blt mg):dJ P w K mg base CX0 1 f fd nl0 (spP ⟨K,mg⟩ fQ):=
 qP 0 (λi=>false) F yU λnd _ _ _ _ _ _ Z=>(aJ (aZ (aV dw (λ_=>rfl) (λ_=>B.isinstance) Zt (aa (aj false 0) (aa (eO (aa (j_ (λ_=>rfl) (λ_=>B.list_) aep) (aa (j_ (λ_=>rfl) (λ_=>B.tuple) aaE) aq))) aq)))))
theorem Fp:bz nl0 nl0 (aQ o7):=by trivial
def wA:Scope:=sF [(".0",.local),("sign",.local),("LETTERS",.globalImplicit)]
theorem Aa:(["sign"]:List Str).Nodup:=by decide +kernel
theorem zu:dO (aQ o7) nl0 ["sign"] wA [none]:=by trivial
theorem Fg{f:Addr}{fd:YC}(F:Fun K "is_name" "is_name" o7 f fd)(B:Blt mg)(q:Glb mg "LETTERS" (.str "abcdefghijklmnopqrstuvwxyz"))(z:Glb mg "LONGEST" (.int 8)):dJ P w K mg base CX0 1 f fd nl0 (spP ⟨K,mg⟩ cW):=
 qP 0 (λi=>false) F Fp λnd _ _ _ _ _ _ Z=>(au (bG (dZ (dF (aV dw (λ_=>rfl) (λ_=>B.isinstance) Zt (aa (aj false 0) (aa (j_ (λ_=>rfl) (λ_=>B.str_) boot_str) aq))))) (aJ (aZ eZ)) bu)
  (au (bG (iT (fV (a_ xX (aV b_ (λ_=>rfl) (λ_=>B.len) Y_ (aa (aj false 0) aq)) aF) (gR (a_ KY (aV b_ (λ_=>rfl) (λ_=>B.len) Y_ (aa (aj false 0) aq)) (M_ z))))) (aJ (aZ eZ)) bu)
  (aJ (aZ (aV (rJ (λ_=>rfl)) (λ_=>rfl) (λ_=>B.all) adS (aa (iu [none] ob0 (λ_=>rfl) (λ_=>rfl) (λ_=>zu) (gw rfl) (G9 (aj false 0)) (cg 0 (λ_=>Aa)) f9 (fP (lG (λ_=>aO Z)) (aj false 0) (J9 q))) aq))))))
theorem yV:bz nl0 nl0 (aQ lz):=by trivial
def uM:Scope:=sF [(".0",.local),("name",.local),("is_name",.globalImplicit)]
theorem v9:(["name"]:List Str).Nodup:=by decide +kernel
theorem vW:dO (aQ lz) nl0 ["name"] uM [none]:=by trivial
theorem Av{f:Addr}{fd:YC}(F:Fun K "are_names" "are_names" lz f fd)(B:Blt mg)(q:Bd P w K mg base)(z:Ja P w K mg base):dJ P w K mg base CX0 2 f fd nl0 (spP ⟨K,mg⟩ dD):=
 qP 1 (λi=>false) F yV λnd _ _ _ _ _ _ Z=>(aJ (aZ (kO (cF (λ_=>q) (λ_=>Z.mono (by decide)) (aa (aj false 0) aq)) (oG (aV (rJ (λ_=>rfl)) (λ_=>rfl) (λ_=>B.all) adS (aa (iu [none] ob0 (λ_=>rfl) (λ_=>rfl) (λ_=>vW) (gw rfl) (fO (aj false 0)) (cg 0 (λ_=>v9)) f9 (cF (λ_=>z) (λ_=>Z.mono (by decide)) (aa (aj false 0) aq))) aq))))))
theorem zM:bz nl0 nl0 (aQ nA):=by trivial
theorem yE{f:Addr}{fd:YC}(F:Fun K "is_couple" "is_couple" nA f fd)(B:Blt mg):dJ P w K mg base CX0 1 f fd nl0 (spP ⟨K,mg⟩ eE):=
 qP 0 (λi=>false) F zM λnd _ _ _ _ _ _ Z=>(aJ (aZ (kO (aV dw (λ_=>rfl) (λ_=>B.isinstance) Zt (aa (aj false 0) (aa (j_ (λ_=>rfl) (λ_=>B.tuple) aaE) aq))) (oG (fP (cb_eq _ (λ_=>rfl) Z.units) (aV b_ (λ_=>rfl) (λ_=>B.len) Y_ (aa (aj false 0) aq)) aF)))))
theorem Ea:bz nl0 nl0 (aQ tH):=by trivial
theorem DP{f:Addr}{fd:YC}(F:Fun K "is_pair" "is_pair" tH f fd)(B:Blt mg)(q:Bs P w K mg base)(O:ul P w K mg base):dJ P w K mg base CX0 2 f fd nl0 (spP ⟨K,mg⟩ cY):=
 qP 1 (λi=>false) F Ea λnd _ _ _ _ _ _ Z=>(aJ (aZ (kO (cF (λ_=>q) (λ_=>Z.mono (by decide)) (aa (aj false 0) aq)) (kO (cF (λ_=>O) (λ_=>Z.mono (by decide)) (aa (cI (ixb (λ_=>aO Z)) (aj false 0) aF) aq)) (kO (cF (λ_=>O) (λ_=>Z.mono (by decide)) (aa (cI (ixb (λ_=>aO Z)) (aj false 0) aF) aq)) (oG (fP (lG (λ_=>aO Z)) (cI (ixb (λ_=>aO Z)) (aj false 0) aF) (eO (aa aF (aa (lJ jj aF) aq))))))))))
theorem Ji:bz nl0 nl0 (aQ qY):=by trivial
def zg:Scope:=sF [(".0",.local),("pair",.local),("is_pair",.globalImplicit)]
theorem Dm:(["pair"]:List Str).Nodup:=by decide +kernel
theorem Dk:dO (aQ qY) nl0 ["pair"] zg [none]:=by trivial
theorem Ir{f:Addr}{fd:YC}(F:Fun K "is_way" "is_way" qY f fd)(B:Blt mg)(q:Ju P w K mg base):dJ P w K mg base CX0 3 f fd nl0 (spP ⟨K,mg⟩ gM):=
 qP 2 (λi=>false) F Ji λnd _ _ _ _ _ _ Z=>(aJ (aZ (kO (aV dw (λ_=>rfl) (λ_=>B.isinstance) Zt (aa (aj false 0) (aa (j_ (λ_=>rfl) (λ_=>B.tuple) aaE) aq))) (oG (aV (rJ (λ_=>rfl)) (λ_=>rfl) (λ_=>B.all) adS (aa (iu [none] ob0 (λ_=>rfl) (λ_=>rfl) (λ_=>Dk) (gw rfl) (fO (aj false 0)) (cg 0 (λ_=>Dm)) f9 (cF (λ_=>q) (λ_=>Z.mono (by decide)) (aa (aj false 0) aq))) aq))))))
theorem Qz:bz ["joining","side","one","other","step"] SX (aQ E_):=by trivial
theorem Qc{f:Addr}{fd:YC}(F:Fun K "ends" "ends" E_ f fd)(B:Blt mg):dJ P w K mg base CX0 1 f fd SX (spP ⟨K,mg⟩ dH):=
 qP 0 (λi=>false) F Qz λnd _ _ _ _ _ _ Z=>(au (jx (aj false 0) (gq (λ_=>rfl) (bh (bf 2 nd) (bh (bf 3 nd) (bh (bf 4 nd) eU)))))
  (au (bG (a_ (cb_eq _ (λ_=>rfl) Z.units) (aj false 1) aF) (aJ (aZ (eO (aa (aj false 2) (aa (aj false 3) aq))))) bu)
  (aJ (aZ (eO (aa (aj false 3) (aa (aj false 2) aq)))))))
theorem Tn:bz ["joinings","name","way","here","number","side","begin","end"] RQ (aQ M6):=by trivial
theorem R8{f:Addr}{fd:YC}(F:Fun K "led" "led" M6 f fd)(B:Blt mg)(q:N5 P w K mg base):dJ P w K mg base CX0 2 f fd RQ (spP ⟨K,mg⟩ iz):=
 qP 1 (λi=>false) F Tn λnd _ _ _ _ _ _ Z=>(au (bx 3 nd (aj false 1))
  (au (iU (λ_=>YZ) (λ_=>rfl) (fO (aj false 2)) (gq (λ_=>rfl) (bh (bf 4 nd) (bh (bf 5 nd) eU))) (au (bG (iT (fV (a_ xX (aj false 4) aF) (gR (a_ Rb (aj false 4) (aV b_ (λ_=>rfl) (λ_=>B.len) Y_ (aa (aj false 0) aq)))))) (aJ (aZ yu)) bu)
  (au (jx (cF (λ_=>q) (λ_=>Z.mono (by decide)) (aa (cI (ixb (λ_=>aO Z)) (aj false 0) (aj false 4)) (aa (aj false 5) aq))) (gq (λ_=>rfl) (bh (bf 6 nd) (bh (bf 7 nd) eU))))
  (au (bG (a_ (jR _ (λ_=>rfl) Z.units) (aj false 6) (aj false 3)) (aJ (aZ yu)) bu)
  (aJ (bx 3 nd (aj false 7)))))))
  (aJ (ig 3))))
theorem y_:bz nl7 nl7 (aQ lB):=by trivial
def uG:Scope:=sF [(".0",.local),("number",.local),("side",.local),("ends",.globalImplicit),("joinings",.free)]
theorem m_:(["number","side","joinings"]:List Str).Nodup:=by decide +kernel
theorem v7:dO (aQ lB) nl7 ["number","side","joinings"] uG [none,none,some 0]:=by trivial
theorem zz{f:Addr}{fd:YC}(F:Fun K "names_met" "names_met" lB f fd)(B:Blt mg)(q:N5 P w K mg base):dJ P w K mg base CX0 2 f fd nl7 (spP ⟨K,mg⟩ d_):=
 qP 1 (λi=>false) F y_ λnd _ _ _ _ _ _ Z=>(aJ (aZ (iu [none,none,some 0] (λi=>i==0||i==1) (λ_=>rfl) (λ_=>rfl) (λ_=>v7) (gw rfl) (fO (aj false 1)) (nF (λ_=>rfl) (eX (cg 0 (λ_=>m_)) (eX (cg 1 (λ_=>m_)) lF))) f9 (cI (ixb (λ_=>aO Z)) (cF (λ_=>q) (λ_=>Z.mono (by decide)) (aa (cI (ixb (λ_=>aO Z)) (aj false 2) (aj false 0)) (aa (aj false 1) aq))) aF))))
theorem yz:bz nl9 nl9 (aQ nJ):=by trivial
theorem zJ{f:Addr}{fd:YC}(F:Fun K "shows_way" "shows_way" nJ f fd)(B:Blt mg)(V:rm P w K mg base)(z:Ks P w K mg base)(D:Wc P w K mg base)(q:Bp P w K mg base):dJ P w K mg base CX0 4 f fd nl9 (spP ⟨K,mg⟩ eF):=
 qP 3 (λi=>false) F yz λnd _ _ _ _ _ _ Z=>(au (bG (iT (fV (dZ (dF (cF (λ_=>z) (λ_=>Z.mono (by decide)) (aa (aj false 3) aq)))) (gR (a_ (jR _ (λ_=>rfl) Z.units) (cF (λ_=>D) (λ_=>Z.mono (by decide)) (aa (aj false 0) (aa (aj false 1) (aa (aj false 3) aq)))) (aj false 2))))) (aJ (aZ eZ)) bu)
  (aJ (aZ (cF (λ_=>V) (λ_=>Z.mono (by decide)) (aa (cO dX (fL (aa (aj false 1) aq)) (cF (λ_=>q) (λ_=>Z.mono (by decide)) (aa (aj false 0) (aa (aj false 3) aq)))) aq)))))
theorem vg:bz nl8 nl8 (aQ jB):=by trivial
def qQ:Scope:=sF [(".0",.local),("number",.local),("side",.local),("n",.free)]
theorem lM:(["number","side","n"]:List Str).Nodup:=by decide +kernel
theorem sE:dO (aQ jB) nl8 ["number","side","n"] qQ [none,none,some 3]:=by trivial
theorem vm{f:Addr}{fd:YC}(F:Fun K "shows_since" "shows_since" jB f fd)(B:Blt mg)(D:Q0 P w K mg base)(O:ul P w K mg base)(q:Bg P w K mg base)(z:Dg P w K mg base):dJ P w K mg base CX0 5 f fd nl8 (spP ⟨K,mg⟩ cA):=
 qP 4 (λi=>false) F vg λnd _ _ _ _ _ _ Z=>(au (bG (iT (fV (dZ (dF (cF (λ_=>O) (λ_=>Z.mono (by decide)) (aa (aj false 3) aq)))) (fV (dZ (dF (cF (λ_=>q) (λ_=>Z.mono (by decide)) (aa (aj false 5) aq)))) (gR (dZ (dF (cF (λ_=>z) (λ_=>Z.mono (by decide)) (aa (aj false 0) (aa (aj false 1) (aa (aj false 2) (aa (aj false 4) aq))))))))))) (aJ (aZ eZ)) bu)
  (au (bG (a_ (cb_eq _ (λ_=>rfl) Z.units) (aj false 3) (lJ jj aF)) (aJ (aZ (kO (fP (cb_eq _ (λ_=>rfl) Z.units) (aV b_ (λ_=>rfl) (λ_=>B.len) Y_ (aa (aj false 4) aq)) aF) (oG (fP (cb_eq _ (λ_=>rfl) Z.units) (aV b_ (λ_=>rfl) (λ_=>B.len) Y_ (aa (aj false 5) aq)) aF))))) bu)
  (au (bG (dF (aV (Hc (λ_=>rfl)) (λ_=>rfl) (λ_=>B.any) boot_any (aa (iu [none,none,some 3] (λi=>i==0||i==1) (λ_=>rfl) (λ_=>rfl) (λ_=>sE) (gw rfl) (fO (aj false 4)) (nF (λ_=>rfl) (eX (cg 0 (λ_=>lM)) (eX (cg 1 (λ_=>lM)) lF))) f9 (fP KY (aj false 0) (aj false 2))) aq))) (aJ (aZ eZ)) bu)
  (aJ (aZ (cF (λ_=>D) (λ_=>Z.mono (by decide)) (aa (gJ slb (aj false 0) gH (gK (aj false 3))) (aa (aj false 1) (aa (aj false 2) (aa (aj false 5) aq))))))))))
theorem o_:bz QB QB (aQ iD):=by trivial
theorem pG{f:Addr}{fd:YC}(F:Fun K "_law_other_number" "_law_other_number" iD f fd)(B:Blt mg)(D:gj P w K mg base):dJ P w K mg base CX0 2 f fd QB (spI ⟨K,mg⟩ ob0 ob0 bQ):=
 qI 1 ob0 ob0 F o_ λnd _ _ _ _ _ _ Z=>(aJ (Bw (l_ (ixb (λ_=>aO Z)) (G4 (bK (dg (cO qu (aj false 2) aF)) (bK (dg (cO dX (aj false 2) aF)) (bK (dg (lJ jj aF)) (bK (n_ qu (bZ [0] (λ_=>D) (λ_=>Z.mono (by decide)) (bF 0 (bC (bj (aa (cO dX (aV b_ (λ_=>rfl) (λ_=>B.len) Y_ (aa (aj false 1) aq)) aF) aq))))) (dg aF)) (bj (aa (aj false 2) (aa (aj false 2) aq)))))))) (bZ [0] (λ_=>D) (λ_=>Z.mono (by decide)) (bF 0 (bC (bj (aa aF aq))))))))
theorem tV:bz VF UG (aQ ir):=by trivial
def pC:Scope:=sF [(".0",.local),("_law_number",.local),("_law_side",.local)]
theorem j9:(["_law_number","_law_side"]:List Str).Nodup:=by decide +kernel
theorem qg:dO (aQ ir) VF ["_law_number","_law_side"] pC [none,none]:=by trivial
theorem sG{f:Addr}{fd:YC}(F:Fun K "_law_other_way" "_law_other_way" ir f fd)(B:Blt mg)(D:gj P w K mg base)(I:lu P w K mg base):dJ P w K mg base CX0 3 f fd UG (spI ⟨K,mg⟩ ob0 ob0 cz):=
 qI 2 ob0 ob0 F tV λnd _ _ _ _ _ _ Z=>(au (eQ 5 nd (bZ [0] (λ_=>D) (λ_=>Z.mono (by decide)) (bF 0 (bC (bj (aa aF aq))))))
  (au (eQ 6 nd (bZ [0] (λ_=>D) (λ_=>Z.mono (by decide)) (bF 0 (bC (bj (aa (cO dX (aV b_ (λ_=>rfl) (λ_=>B.len) Y_ (aa (aj false 4) aq)) aF) aq))))))
  (au (bG (a_ (cb_eq _ (λ_=>rfl) Z.units) (aj false 5) aF) (aJ (aZ (cO dX (gJ slb (aj false 4) gH (gK (aj false 6))) (gJ slb (aj false 4) (gK (cO dX (aj false 6) aF)) gH)))) bu)
  (au (bG (a_ (cb_eq _ (λ_=>rfl) Z.units) (aj false 5) aF) (aJ (aZ (jZ oR (λ_=>rfl) (λ_=>B.tuple) aaE (aa (iu [none,none] (λi=>i==0||i==1) (λ_=>rfl) (λ_=>rfl) (λ_=>qg) (gw rfl) (JN (λ_=>rfl) (λ_=>B.reversed) (aa (aj false 4) aq)) (nF (λ_=>rfl) (eX (cg 0 (λ_=>j9)) (eX (cg 1 (λ_=>j9)) lF))) f9 (eO (aa (aj false 0) (aa (lJ jj (aj false 1)) aq)))) aq)))) bu)
  (au (bG (a_ (cb_eq _ (λ_=>rfl) Z.units) (aj false 5) aF) (au (eQ 7 nd (Hu (bK (n_ qu (bZ [0] (λ_=>D) (λ_=>Z.mono (by decide)) (bF 0 (bC (bj (aa (cO dX (aV b_ (λ_=>rfl) (λ_=>B.len) Y_ (aa (aj false 1) aq)) aF) aq))))) (dg aF)) (bK (n_ qu (dg aF) (n_ mG (dg aF) (bZ [0] (λ_=>D) (λ_=>Z.mono (by decide)) (bF 0 (bC (bj (aa aF aq))))))) (bj aq)))))
  (aJ (aZ (cO dX (cO dX (gJ slb (aj false 4) gH (gK (aj false 6))) (eO (aa (aj false 7) aq))) (gJ slb (aj false 4) (gK (cO dX (aj false 6) aF)) gH))))) bu)
  (au (bG (a_ (cb_eq _ (λ_=>rfl) Z.units) (aj false 5) aF) (aJ (aZ (BZ (uR (λ_=>aO Z)) Zk Zw aau (cF (λ_=>I) (λ_=>Z.mono (by decide)) (aa (aj false 1) (aa (aj false 2) aq))) (aa (aj false 3) (aa (eO aq) aq))))) bu)
  (aJ (ig 4))))))))
theorem qi:bz Wx T9 (aQ gP):=by trivial
def mY:Scope:=sF [(".0",.local),("_law_name",.local),("_law_found",.free)]
theorem nu:(["_law_name","_law_found"]:List Str).Nodup:=by decide +kernel
theorem oJ:dO (aQ gP) Wx ["_law_name","_law_found"] mY [none,some 4]:=by trivial
theorem pX{f:Addr}{fd:YC}(F:Fun K "_law_other_class" "_law_other_class" gP f fd)(B:Blt mg)(D:gj P w K mg base):dJ P w K mg base CX0 2 f fd T9 (spI ⟨K,mg⟩ ob0 ob0 bW):=
 qI 1 ob0 ob0 F qi λnd _ _ _ _ _ _ Z=>(au (eQ 3 nd (bZ [0] (λ_=>D) (λ_=>Z.mono (by decide)) (bF 0 (bC (bj (aa aF aq))))))
  (au (bx 4 nd (jZ Bt (λ_=>rfl) (λ_=>B.list_) aep (aa (aj false 2) aq)))
  (au (bG (a_ xX (aj false 3) aF) (au (eQ 5 nd (l_ (ixb (λ_=>aO Z)) (dg (cO dX (aj false 1) (fL (aa jK (aa jK (aa jK aq)))))) (bZ [0] (λ_=>D) (λ_=>Z.mono (by decide)) (bF 0 (bC (bj (aa (cO dX (aV b_ (λ_=>rfl) (λ_=>B.len) Y_ (aa (aj false 1) aq)) aF) aq)))))))
  (aJ (Dj FJ Z3 PySem.F.slot_list_insert PySem.F.type_list_insert (eY 4) (bK (bZ [0] (λ_=>D) (λ_=>Z.mono (by decide)) (bF 0 (bC (bj (aa (cO dX (aV b_ (λ_=>rfl) (λ_=>B.len) Y_ (aa (aj false 4) aq)) aF) aq))))) (bj (aa (aj false 5) aq))) (show KpS 4 _ from by repeat first|exact JS|exact G8|apply Cj|apply JR|apply Rk|apply Ra|(apply Ob rfl)|apply K_)))) bu)
  (au (bG (iT (rP (a_ (cb_eq _ (λ_=>rfl) Z.units) (aj false 3) aF) (oh (a_ (jR _ (λ_=>rfl) Z.units) (aj false 4) (fL aq))))) (aJ (Dj Iz Z3 PySem.F.slot_list_pop PySem.F.type_list_pop (eY 4) (bK (bZ [0] (λ_=>D) (λ_=>Z.mono (by decide)) (bF 0 (bC (bj (aa (aV b_ (λ_=>rfl) (λ_=>B.len) Y_ (aa (aj false 4) aq)) aq))))) (bj aq)) (show KpS 4 _ from by repeat first|exact JS|exact G8|apply Cj|apply JR|apply Rk|apply Ra|(apply Ob rfl)|apply K_))) bu)
  (au (bG (a_ (cb_eq _ (λ_=>rfl) Z.units) (aj false 3) aF) (aJ (bx 4 nd (fL aq))) bu)
  (au (bG (iT (rP (a_ (cb_eq _ (λ_=>rfl) Z.units) (aj false 3) aF) (oh (a_ (jR _ (λ_=>rfl) Z.units) (aj false 4) (fL aq))))) (aJ (bx 4 nd (iu [none,some 4] ob0 (λ_=>rfl) (λ_=>rfl) (λ_=>oJ) (gw rfl) (fO (aj false 4)) (cg 0 (λ_=>nu)) (Cw (a_ (jR _ (λ_=>rfl) Z.units) (aj false 0) (cI (ixb (λ_=>aO Z)) (aj false 1) aF))) (aj false 0)))) bu)
  (aJ (ig 4))))))))
theorem Ar:bz ["_law_state","_law_names_here","_law_joinings_here","_law_one","_law_other","_law_since_when","_law_number","_law_way","_law_some","_law_turn","_law_paper","_law_again","_law_part","_law_due","_law_handed","_law_kept","_law_found"] Uo (aQ m8):=by trivial
theorem zX{f:Addr}{fd:YC}(F:Fun K "_law_right" "_law_right" m8 f fd)(B:Blt mg)(V:yQ P w K mg base)(O:ux P w K mg base)(J:t_ P w K mg base)(U:wL P w K mg base)(Y:rn P w K mg base)(D:gj P w K mg base)(q:pB P w K mg base)(I:rZ P w K mg base)(z:qK P w K mg base):dJ P w K mg base CX0 6 f fd Uo (spI ⟨K,mg⟩ ob0 ob0 eG):=
 qI 5 ob0 ob0 F Ar λnd _ _ _ _ _ _ Z=>(au (bx 5 nd (cF (λ_=>V) (λ_=>Z.mono (by decide)) (aa (aj false 2) (aa (aj false 3) (aa (aj false 4) aq)))))
  (au (bx 6 nd (RZ (a_ Wm (aj false 5) yu) (aV b_ (λ_=>rfl) (λ_=>B.len) Y_ (aa (aj false 2) aq)) (aj false 5)))
  (au (bx 7 nd (cF (λ_=>O) (λ_=>Z.mono (by decide)) (aa (aj false 2) (aa (aj false 3) (aa (aj false 4) aq)))))
  (au (bx 8 nd (fL aq))
  (au (bG (a_ (jR _ (λ_=>rfl) Z.units) (aj false 3) (aj false 4)) (aJ (bx 8 nd (aV (Cp (λ_=>rfl)) (λ_=>rfl) (λ_=>B.sorted) boot_sorted (aa (cF (λ_=>Y) (λ_=>Z.mono (by decide)) (aa (gJ slb (aj false 2) gH (gK (aV (Ls (λ_=>rfl)) (λ_=>rfl) (λ_=>B.max) boot_max (aa aF (aa (aj false 6) aq))))) (aa (aj false 3) aq))) aq)))) bu)
  (au (qJ 8 (iU (λ_=>YZ) (λ_=>rfl) (Ej (λ_=>rfl) (λ_=>B.range) (aa aF aq)) (bf 9 nd) (au (bx 10 nd (fL (aa (aj false 6) (aa (aj false 7) (aa (aj false 8) aq)))))
  (au (vM (λ_=>YZ) (λ_=>rfl) (yP (λ_=>rfl) (λ_=>B.range) (bK (bZ [0] (λ_=>D) (λ_=>Z.mono (by decide)) (bF 0 (bC (bj (aa aF aq))))) (bj aq))) (bf 11 nd) (au (eQ 12 nd (bZ [0] (λ_=>D) (λ_=>Z.mono (by decide)) (bF 0 (bC (bj (aa aF aq))))))
  (au (bG (a_ (cb_eq _ (λ_=>rfl) Z.units) (aj false 12) aF) (aJ (lU (bZ [0] (λ_=>q) (λ_=>Z.mono (by decide)) (bF 0 (bC (bj (aa (aj false 2) (aa (cI (ixb (λ_=>aO Z)) (aj false 10) aF) aq)))))) (jw (jy (λ_=>aO Z)) (eY 10) aF))) bu)
  (au (bG (a_ (cb_eq _ (λ_=>rfl) Z.units) (aj false 12) aF) (aJ (lU (bZ [0] (λ_=>I) (λ_=>Z.mono (by decide)) (bF 0 (bC (bj (aa (aj false 2) (aa (aj false 3) (aa (aj false 4) (aa (cI (ixb (λ_=>aO Z)) (aj false 10) aF) aq)))))))) (jw (jy (λ_=>aO Z)) (eY 10) aF))) bu)
  (aJ (bG (a_ (cb_eq _ (λ_=>rfl) Z.units) (aj false 12) aF) (aJ (lU (bZ [0] (λ_=>z) (λ_=>Z.mono (by decide)) (bF 0 (bC (bj (aa (aj false 1) (aa (cI (ixb (λ_=>aO Z)) (aj false 10) aF) aq)))))) (jw (jy (λ_=>aO Z)) (eY 10) aF))) bu))))))
  (au (qJ 10 (bx 13 nd (cF (λ_=>J) (λ_=>Z.mono (by decide)) (aa (aj false 2) (aa (aj false 3) (aa (aj false 4) (aa (cI (ixb (λ_=>aO Z)) (aj false 10) aF) (aa (cI (ixb (λ_=>aO Z)) (aj false 10) aF) (aa (cI (ixb (λ_=>aO Z)) (aj false 10) aF) aq)))))))))
  (au (eQ 14 nd (l_ (ixb (λ_=>aO Z)) (dg (fL (aa (cI (ixb (λ_=>aO Z)) (aj false 10) aF) (aa (jZ oR (λ_=>rfl) (λ_=>B.tuple) aaE (aa (cI (ixb (λ_=>aO Z)) (aj false 10) aF) aq)) aq)))) (bZ [0] (λ_=>D) (λ_=>Z.mono (by decide)) (bF 0 (bC (bj (aa aF aq)))))))
  (au (bx 15 nd (aV (Bl _ (λ_=>rfl) Z.gd Z.units) (λ_=>rfl) (λ_=>B.repr) boot_repr (aa (fL (aa (aj false 2) (aa (aj false 10) (aa (aj false 14) aq)))) aq)))
  (au (bx 16 nd (cF (λ_=>U) (λ_=>Z.mono (by decide)) (aa (cI (ixb (λ_=>aO Z)) (fL (aa (aj false 2) (aa (jZ oR (λ_=>rfl) (λ_=>B.tuple) aaE (aa (aj false 2) aq)) aq))) (cO pZ (aj false 9) aF)) (aa (aj false 3) (aa (aj false 4) (aa (cI (ixb (λ_=>aO Z)) (aj false 10) aF) (aa (cI (ixb (λ_=>aO Z)) (aj false 10) aF) (aa (aj false 14) aq))))))))
  (au (bG (iT (fV (dZ (dF (aV dw (λ_=>rfl) (λ_=>B.isinstance) Zt (aa (aj false 16) (aa (j_ (λ_=>rfl) (λ_=>B.bool_) boot_bool) aq))))) (fV (a_ (jR _ (λ_=>rfl) Z.units) (aj false 16) (aj false 13)) (gR (iT (rP (dF (aj false 13)) (oh (a_ (jR _ (λ_=>rfl) Z.units) (cI (ixb (λ_=>aO Z)) (aj false 10) aF) (aj false 5))))))))) (aJ (aZ eZ)) bu)
  (aJ (bG (a_ (jR _ (λ_=>rfl) Z.units) (aV (Bl _ (λ_=>rfl) Z.gd Z.units) (λ_=>rfl) (λ_=>B.repr) boot_repr (aa (fL (aa (aj false 2) (aa (aj false 10) (aa (aj false 14) aq)))) aq)) (aj false 15)) (aJ (aZ eZ)) bu)))))))))))
  (aJ (aZ eZ))))))))
theorem Tr:bz ["_law_script","_law_state","_law_turn","_law_names_here","_law_joinings_here","_law_again","_law_one","_law_other"] nl1 (aQ MJ):=by trivial
theorem S8{f:Addr}{fd:YC}(F:Fun K "law" "law" MJ f fd)(B:Blt mg)(z:zL P w K mg base)(I:Ak P w K mg base)(q:uz P w K mg base)(D:gj P w K mg base)(O:Fo P w K mg base)(J:Al P w K mg base):dJ P w K mg base CX0 7 f fd nl1 (spP ⟨K,mg⟩ kY):=
 qP 6 (λi=>i==1) F Tr λnd _ _ _ _ _ _ Z=>(au (bx 1 nd (cF (λ_=>z) (λ_=>Z.mono (by decide)) (aa (aj false 0) aq)))
  (au (vM (λ_=>YZ) (λ_=>rfl) (yP (λ_=>rfl) (λ_=>B.range) (bK (n_ dX (dg aF) (bZ [1] (λ_=>D) (λ_=>Z.mono (by decide)) (bF 1 (bC (bj (aa aF aq)))))) (bj aq))) (bf 2 nd) (au (eQ 3 nd (bZ [1] (λ_=>I) (λ_=>Z.mono (by decide)) (bF 1 (bC (bj aq)))))
  (au (eQ 4 nd (bZ [1] (λ_=>q) (λ_=>Z.mono (by decide)) (bF 1 (bC (bj (aa (aj false 3) aq))))))
  (aJ (qJ 4 (qJ 3 (iU (λ_=>YZ) (λ_=>rfl) (Ej (λ_=>rfl) (λ_=>B.range) (aa aF aq)) (bf 5 nd) (au (lU (bZ [1] (λ_=>O) (λ_=>Z.mono (by decide)) (bF 1 (bC (bj (aa (aj false 3) aq))))) (gq (λ_=>rfl) (bh (bf 6 nd) (bh (bf 7 nd) eU))))
  (aJ (zH (Km (Lp (bZ [1] (λ_=>J) (λ_=>Z.mono (by decide)) (bF 1 (bC (bj (aa (aj false 3) (aa (aj false 4) (aa (aj false 6) (aa (aj false 7) aq)))))))))) (aJ (aZ eZ)) bu))))))))))
  (aJ (aZ eZ))))
end
section
variable{K:Frag}{x m qual c:Str}{st:Stmt}{f C:Addr}{oc:Value}{od an:Option Addr}{osl:Array (Option Value)}{kV doc pm cdv ct:Value}{fl:List Str}
structure Tp(K:Frag)(x:Str)(st:Stmt):Prop where
 ex:∃f fd,nsIn K Zo x=some (some (.ref f))/\Fun K x x st f fd
theorem tp_mk(a:nsIn K Zo x=some (some (.ref f)))(l:K.lookup f=some ⟨oc,od,.func (fnOf x x (o8 st) (iW st) (aQ st) .none kV doc pm an cdv ct),osl⟩)(c:codeIn K cdv x=true)(k:keepIn K (.ref f)=true):Tp K x st:=⟨f,_,a,Sv l c k⟩
theorem al_nil{P:Str->Prop}:∀x∈([]:List Str),P x:=λ_ h=>by cases h
theorem al_cons{P:Str->Prop}{a:Str}{l:List Str}(h:P a)(t:∀x∈l,P x):∀x∈a::l,P x:=List.forall_mem_cons.mpr ⟨h,t⟩
end
section
variable(P:Program)(w:World){K:Frag}{mg:Str->Option Value}(base:Heap){h:Heap}(Xi:K.In h)(Gi:h.Ns mainGlobals mg){x m qual c:Str}{st:Stmt}{C:Addr}{fl ps:List Str}{k:Nat}{sp:Sp}
include Xi Gi
theorem W4(t:Tp K x st)(ok:∀{f fd},Fun K x x st f fd->dJ P w K mg base CX0 k f fd ps sp)(U:∀(kV doc pm:Value)(an:Option Addr)(cdv ct:Value)(us:List Value),us.length=ps.length->bindArgs (fnOf x x (o8 st) (iW st) (aQ st) .none kV doc pm an cdv ct) ⟨us,[]⟩=pure (ps.zip us)):Cal P w K mg base k x ps sp:=
 let⟨f,fd,a,F⟩:=t.ex;⟨f,fd,ok F,mg_of Xi Gi a,F.kp,F.binds U⟩
end
variable{h:Heap}
theorem jG{K:Frag}(X:K.In h)(G:h.Ns Zo mg)(z:∀x∈l,nsIn K Zo x=some none)(B:l.contains x=true):mg x=none:=mg_none_of X G (z x (List.contains_iff_mem.mp B))
theorem Ax:∀ns:List Int,aM G H W (ns.map D.int) (ns.map V.int) []
 |[]=>.nil
 |x::r=>aM.cons (M:=[]) (M':=[]) dY (Ax r)
theorem RJ{K:Frag}{a:Addr}{ns:List Int}{E:XK}(Z:ns.length<=63)(U:SqL K H a (ns.map V.int))(q:∀H',Q (.bl true) H'):spP ⟨K,mg⟩ kY [.ref a] H Q E:=by
 refine⟨[.lst .scr (ns.map D.int)],λ_=>False,?_,?_,?_,λ_ z=>z.elim,.bl true,K9 ns Z,λv H' L s r I nd c=>?_⟩
 .refine aM.one (M:=[]) ?_
  rw[Rep];refine⟨a,_,[],rfl,Ax ns,?_,rfl,rfl⟩;rcases U with z|z
  .exact .inl ⟨z,⟨λz=>z,λz=>z,λz=>z⟩⟩
  .exact .inr ⟨_,rfl,z⟩
 .simp[aC,aA,fD (ds:=ns.map D.int) (by simp[aA])]
 .simp[aD,az,fj (ds:=ns.map D.int) (by simp[az])]
 .rw[(mH r).1];exact q H'
variable{P:List Value->Prop}
theorem un1(h:∀q,P [q]):∀us:List Value,us.length=1->P us
 |[q],_=>h q
theorem un2(h:∀q Y,P [q,Y]):∀us:List Value,us.length=2->P us
 |[q,Y],_=>h q Y
theorem un3(h:∀q Y z,P [q,Y,z]):∀us:List Value,us.length=3->P us
 |[q,Y,z],_=>h q Y z
theorem un4(h:∀q Y z F,P [q,Y,z,F]):∀us:List Value,us.length=4->P us
 |[q,Y,z,F],_=>h q Y z F
theorem un5(h:∀q Y z F B,P [q,Y,z,F,B]):∀us:List Value,us.length=5->P us
 |[q,Y,z,F,B],_=>h q Y z F B
theorem un6(h:∀q Y z F B D,P [q,Y,z,F,B,D]):∀us:List Value,us.length=6->P us
 |[q,Y,z,F,B,D],_=>h q Y z F B D
def Ni(K:Frag):Sp:=λB H Q _=>∃(a:Addr)(ns:List Int),B=[.ref a]/\SqL K H a (ns.map V.int)/\ns.length<=63/\∀H',Q (.bl true) H'
variable{l:ac_}
theorem all_mk{K:Frag}{fa:Addr}{d3 f1:Tok}(X:K.In h)(G:h.Ns Zo mg)(c9:mg "law"=some (.ref fa))
  (t1:Tp K "_law_begin" n6)
  (t2:Tp K "_law_take" pU)
  (t3:Tp K "_law_names" oN)
  (t4:Tp K "_law_joinings" gZ)
  (t5:Tp K "_law_two" sZ)
  (t6:Tp K "_law_class" nW)
  (t7:Tp K "_law_since" m9)
  (t8:Tp K "_law_holding" jA)
  (t9:Tp K "_law_beside" mD)
  (e2:Tp K "_law_least_ways" jl)
  (d8:Tp K "_law_held_way" gY)
  (f6:Tp K "_law_is_whole" j5)
  (d0:Tp K "_law_are_names" iy)
  (d2:Tp K "_law_is_straight" jc)
  (e0:Tp K "_law_since_due" iw)
  (d1:Tp K "are_unlike" mz)
  (d9:Tp K "parts" uN)
  (d7:Tp K "is_number" nZ)
  (e8:Tp K "is_listed" oM)
  (f3:Tp K "is_name" o7)
  (f2:Tp K "are_names" lz)
  (f5:Tp K "is_couple" nA)
  (d6:Tp K "is_pair" tH)
  (e5:Tp K "is_way" qY)
  (f0:Tp K "ends" E_)
  (e6:Tp K "led" M6)
  (e1:Tp K "names_met" lB)
  (e7:Tp K "shows_way" nJ)
  (e4:Tp K "shows_since" jB)
  (e3:Tp K "_law_other_number" iD)
  (f4:Tp K "_law_other_way" ir)
  (e9:Tp K "_law_other_class" gP)
  (d4:Tp K "_law_right" m8)
  (d5:Tp K "law" MJ)
  (g1:nsIn K Zo "LETTERS"=some (some (.str "abcdefghijklmnopqrstuvwxyz" d3)))
  (g2:nsIn K Zo "LONGEST"=some (some (.int 8 f1)))
  (z:∀x:Str,x∈(["all","any","bool","divmod","enumerate","int","isinstance","len","list","max","range","repr","reversed","set","sorted","str","tuple"]:List Str)->nsIn K Zo x=some none) :
  ∃fd:YC,(∀(s:X4)(v:Value),adv s fd ⟨[v],[]⟩ [("_law_script",v)])/\∀base:Heap,K.In base->base.Ns Zo mg->dJ l.prog w K mg base CX0 7 fa fd nl1 (Ni K):=by
 obtain⟨f,fd,a,F⟩:=d5.ex;cases c9.symm.trans (mg_of X G a);have B:Blt mg:=⟨jG X G z rfl,jG X G z rfl,jG X G z rfl,jG X G z rfl,jG X G z rfl,jG X G z rfl,jG X G z rfl,jG X G z rfl,jG X G z rfl,jG X G z rfl,jG X G z rfl,jG X G z rfl,jG X G z rfl,jG X G z rfl,jG X G z rfl,jG X G z rfl,jG X G z rfl⟩;have c3:Glb mg "LETTERS" (.str "abcdefghijklmnopqrstuvwxyz"):=⟨_,mg_of X G g1,⟨_,rfl⟩⟩;have c4:Glb mg "LONGEST" (.int 8):=⟨_,mg_of X G g2,⟨_,rfl⟩⟩;refine⟨fd,λs v=>by obtain⟨_,_,_,_,_,_,_,_,_,rfl,_⟩:=F.ex;exact .of_eq rfl,λbase _ _=>?_⟩;have T:=@W4 l.prog w K mg base h X G;have b5:=T t1 (λF=>yD F B) λ_ _ _ _ _ _=>un1 λ_=>rfl;have D:=T t2 (λF=>Df F B) λ_ _ _ _ _ _=>un2 λ_ _=>rfl;have b3:=T t3 (λF=>Af F B D) λ_ _ _ _ _ _=>un1 λ_=>rfl;have a6:=T t4 (λF=>uD F B D) λ_ _ _ _ _ _=>un2 λ_ _=>rfl;have c0:=T t5 (λF=>Ff F B D) λ_ _ _ _ _ _=>un2 λ_ _=>rfl;have Y:=T t6 (λF=>yI F B) λ_ _ _ _ _ _=>un2 λ_ _=>rfl;have b9:=T t7 (λF=>An F B Y) λ_ _ _ _ _ _=>un3 λ_ _ _=>rfl;have a8:=T t8 (λF=>vd F B) λ_ _ _ _ _ _=>un1 λ_=>rfl;have b0:=T t9 (λF=>wB F B) λ_ _ _ _ _ _=>un1 λ_=>rfl;have I:=T e2 (λF=>qX F B b0) λ_ _ _ _ _ _=>un2 λ_ _=>rfl;have a7:=T d8 (λF=>uE F B a8 I) λ_ _ _ _ _ _=>un3 λ_ _ _=>rfl;have J:=T f6 (λF=>uC F B) λ_ _ _ _ _ _=>un1 λ_=>rfl;have a4:=T d0 (λF=>tG F B) λ_ _ _ _ _ _=>un1 λ_=>rfl;have a1:=T d2 (λF=>qd F B J) λ_ _ _ _ _ _=>un4 λ_ _ _ _=>rfl;have a5:=T e0 (λF=>sI F B J a4 a1) λ_ _ _ _ _ _=>un6 λ_ _ _ _ _ _=>rfl;have V:=T d1 (λF=>wJ F B) λ_ _ _ _ _ _=>un1 λ_=>rfl;have c7:=T d9 (λF=>MP F B V) λ_ _ _ _ _ _=>un4 λ_ _ _ _=>rfl;have O:=T d7 (λF=>yq F B) λ_ _ _ _ _ _=>un1 λ_=>rfl;have b8:=T e8 (λF=>yW F B) λ_ _ _ _ _ _=>un1 λ_=>rfl;have c2:=T f3 (λF=>Fg F B c3 c4) λ_ _ _ _ _ _=>un1 λ_=>rfl;have b2:=T f2 (λF=>Av F B b8 c2) λ_ _ _ _ _ _=>un1 λ_=>rfl;have b1:=T f5 (λF=>yE F B) λ_ _ _ _ _ _=>un1 λ_=>rfl;have c1:=T d6 (λF=>DP F B b1 O) λ_ _ _ _ _ _=>un1 λ_=>rfl;have c6:=T e5 (λF=>Ir F B c1) λ_ _ _ _ _ _=>un1 λ_=>rfl;have c5:=T f0 (λF=>Qc F B) λ_ _ _ _ _ _=>un2 λ_ _=>rfl;have c8:=T e6 (λF=>R8 F B c5) λ_ _ _ _ _ _=>un3 λ_ _ _=>rfl;have b7:=T e1 (λF=>zz F B c5) λ_ _ _ _ _ _=>un2 λ_ _=>rfl;have b4:=T e7 (λF=>zJ F B V c6 c8 b7) λ_ _ _ _ _ _=>un4 λ_ _ _ _=>rfl;have a9:=T e4 (λF=>vm F B c7 O b2 b4) λ_ _ _ _ _ _=>un6 λ_ _ _ _ _ _=>rfl;have a0:=T e3 (λF=>pG F B D) λ_ _ _ _ _ _=>un3 λ_ _ _=>rfl;have a3:=T f4 (λF=>sG F B D I) λ_ _ _ _ _ _=>un5 λ_ _ _ _ _=>rfl;have a2:=T e9 (λF=>pX F B D) λ_ _ _ _ _ _=>un3 λ_ _ _=>rfl;have b6:=T d4 (λF=>zX F B b9 a7 a5 a9 Y D a0 a3 a2) λ_ _ _ _ _ _=>un5 λ_ _ _ _ _=>rfl;exact dJ.imp (S8 F B b5 b3 a6 D c0 b6) λvs H Q E ⟨a,ns,e,U,Z,q⟩=>by subst e;exact RJ Z U q
theorem walk{q:Yu}{Y:List Str}{O:(Str->Option Value)->Heap->Prop}{J:World->Heap->Prop}{d:DefRec}{K:Params->Frag}(I:l.most=some 63)(D:d.params.defaults=[])
  (V:∀(w:World)(h:Heap),J w h->(K w.params).In h)
  (F:∀(w:World)(mg:Str->Option Value)(fa:Addr)(h:Heap),(K w.params).In h->h.Ns Zo mg->mg d.name=some (.ref fa)->
   ∃fd:YC,(∀(s:X4)(u:Value),adv s fd ⟨[u],[]⟩ [("_law_script",u)])/\∀base:Heap,(K w.params).In base->base.Ns Zo mg->dJ l.prog w (K w.params) mg base CX0 7 fa fd nl1 (Ni (K w.params))) :
  ae1 q Y O J l.row.toRowW d [] (λf B=>aeQ f B):=
 L2.walk_of (n:=63) (k:=7) (x:="_law_script") (CX:=λ_=>CX0) (sp:=λw=>Ni (K w.params)) I (by decide) D ⟨rfl,by decide,by decide,rfl⟩ V F (λ_ _ a ns Z _ U=>⟨a,ns,rfl,U,Z,λ_=>rfl⟩) λ_ _ _ _ _ z=>z
end Jb
end
namespace PySem.W.Fast
def tw8401457314217292305:=0
def tw17148667467017897258:=0
def tw8414272225527992695:=0
def tw9503967142874402763:=0
def tw2350787907867591122:=0
def tw12671156290308733974:=0
def tw223393343255405476:=0
def tw8462746387354049958:=0
def tw16379942059875707888:=0
def tw6668413353895628972:=0
def tw8085690842099257234:=0
def tw12688477671447948259:=0
def tw12168565460220821782:=0
def tw13205915728912786384:=0
def tw16763206195511873514:=0
def tw921828346456925345:=0
def tw3450826142675027832:=0
def tw16240291061630039885:=0
def tw10396162341570261527:=0
def tw17409823720503093893:=0
def tw6150079121656261460:=0
def tw3680113970007688570:=0
def tw11511439545960533514:=0
def tw7753367429818861558:=0
def tw8909037822935357144:=0
def tw14489432210259194458:=0
def tw1713534578317213310:=0
def tw5833468491259369754:=0
def tw2211414818439928869:=0
def tw389637591708679072:=0
def tw5933397424403833702:=0
def tw2635607106256060971:=0
def tw4714000330363262473:=0
def tw14339257960743979443:=0
def tw2263526092367012533:=0
def tw17276675154500521036:=0
def tw15697560547799983664:=0
def tw14967039802953796701:=0
def tw16228978057338373185:=0
def tw16729207745433553888:=0
def tw635798575244827931:=0
def tw15113501734829556862:=0
def tw10492384055183846393:=0
def tw4306945240273520614:=0
def tw12411805684628635693:=0
def tw9714380721260837561:=0
def tw14951180531072393648:=0
def tw9391697308534787815:=0
def tw10393042730267242070:=0
def tw4049713946934691890:=0
def tw5924087222972386264:=0
def tw9391085640663286544:=0
def tw6187869536111312107:=0
def tw1185767986594462208:=0
def tw11190197416642195408:=0
def tw2502000783954677549:=0
def tw18205641294478694070:=0
def tw12916400370966901719:=0
def tw10380943653294990666:=0
def tw14610514611006181482:=0
def tw17961500279138639624:=0
def tw13124782814379933423:=0
def tw17243367132543958820:=0
def tw15155763572656457123:=0
def tw2536146862411412723:=0
def tw3650059314913449464:=0
def tw9082277833930217803:=0
def tw18082476548728035359:=0
def tw504048313844497419:=0
def tw2062067474969780357:=0
def tw11077673043600930007:=0
def tw4890169272978798834:=0
def tw15592800585883201940:=0
def tw15169984600368027531:=0
def tw1751827102839606263:=0
def tw4823592055463362072:=0
def tw14207750148498336858:=0
def tw7965426341317318061:=0
def tw228224198973707592:=0
def tw9500930024374411347:=0
def tw10705580337628353752:=0
def tw3479701645626797709:=0
def tw6363136733717771687:=0
def tw12056552289368406653:=0
def tw15711006641684073223:=0
def tw10657523884989122587:=0
def tw5369176922298130491:=0
def tw6191790507892175410:=0
def tw14829587522284658225:=0
def tw13691569867494099133:=0
def tw16756524335822497242:=0
def tw6237977768835430149:=0
def tw18070741621695378684:=0
def tw13064816075629029605:=0
def tw16963457831261890049:=0
def tw8464377650084067113:=0
def tw14686219796952227342:=0
def tw8857192083969091366:=0
def tw6976615986388494366:=0
def tw11589154823418648536:=0
def tw3373897792974198793:=0
def tw8014675594449289349:=0
def tw3377827274009427558:=0
def tw6136182920612912507:=0
def tw4757489497287293176:=0
def tw8645145111659985625:=0
def tw13065903848375229539:=0
def tw13083569916048504033:=0
def tw15400773568274414028:=0
def tw9354637541630906144:=0
def tw4354925108984304224:=0
def tw8626603582251105164:=0
def tw4841705052865620713:=0
def tw8983893731967864420:=0
def tw1684872750403319289:=0
def tw15066104696000572245:=0
def tw4772857010384285328:=0
def tw9531719706804820768:=0
def tw7233220203136082326:=0
def tw5930859472113855912:=0
def tw8579426938742994537:=0
def tw8186099018422444135:=0
def tw15064126845763821826:=0
def tw13134688175321556645:=0
def tw56033354356190371:=0
def tw5774837589268112640:=0
def tw6166797027931378719:=0
def tw3595210442336893865:=0
def tw4305604917973565752:=0
def tw6030400405042864018:=0
def tw11848371410815521376:=0
def tw11539361037343499434:=0
def tw16245187015682296184:=0
def tw13089212830182583554:=0
def tw1290495081736450573:=0
def tw1176166687861884550:=0
def tw16457660179327005193:=0
def tw6587945636084581532:=0
def tw8656962306922888001:=0
def tw15826861559507522796:=0
def tw13752318784852697230:=0
def tw1332413564806657417:=0
def tw15463581238438068246:=0
def tw11795624598860030045:=0
def tw14315780175170618429:=0
def tw16956404631155150293:=0
def tw12731010538325305311:=0
def tw7277308860010959610:=0
def tw5031801915116103751:=0
def tw8625889710819614481:=0
def tw684117245408362021:=0
def tw10237829638180253633:=0
def tw15471501340837631438:=0
def tw4384914788388371220:=0
def tw18118362370092262741:=0
def tw3815506294498136166:=0
def tw18389659384895610090:=0
def tw17568832237766876747:=0
def tw2403688001080859545:=0
def tw16430456567718883052:=0
def tw2840291622830882550:=0
def tw11178571018515133336:=0
def tw440554541610430503:=0
def tw16427457334381082172:=0
def tw4589402637726716015:=0
def tw10069865014922137423:=0
def tw12673186703042939558:=0
def tw12598779696875845465:=0
def tw4985736542011646282:=0
def tw17558526789810030847:=0
def tw12223718001261138466:=0
def tw16501535172258050891:=0
def tw3928157053604302912:=0
def tw12153525970140830884:=0
def tw13331630756040876225:=0
def tw9105401205060564227:=0
def tw17735614912822841437:=0
def tw3515139327517259128:=0
def tw9451063503532469879:=0
def tw7125929918377934606:=0
def tw2597520562097017752:=0
def tw4288003636916793803:=0
def tw15012957307470295747:=0
def tw7380819434909949973:=0
def tw10198487046846273176:=0
def tw16944816937832623951:=0
def tw18382664833554051756:=0
def tw886068253955573315:=0
def tw12451534154649197153:=0
def tw8986255577782437332:=0
def tw11098374240335044749:=0
def tw9113632356824924969:=0
def tw9228493489987670879:=0
def tw9925952156761997039:=0
def tw17653696877740457721:=0
def tw1958425459956092511:=0
def tw8613388788069631404:=0
def tw12954874807504003819:=0
def tw11908467882045763161:=0
def tw5385275726203573662:=0
def tw6461652487803500131:=0
def tw18115147427843767315:=0
def tw4212001944179723058:=0
def tw16698048872652676106:=0
def tw4615516317966160656:=0
def tw18372757396170180189:=0
def tw947686629416540295:=0
def tw16093608219712303432:=0
end PySem.W.Fast
open PySem PySem.W PyProof.Rows
set_option maxRecDepth 100000 in
set_option maxHeartbeats 0 in
theorem PySem.Challenge.cw_joinback_k15_papers_of_since_holds : PySem.Challenge.rw_joinback_k15_papers_of_since.Holds := by
 w_on;o_law;k_head;(case hw=>w_witness2)
 k_fill
 refine Jb.walk (l:=PySem.Challenge.rw_joinback_k15_papers_of_since) rfl rfl (λw h Y=>PySem.W.kIn_of Y) ?F
 case F=>
  intro w mg fa h KX G hmg;refine' Jb.all_mk KX G hmg ?_ ?_ ?_ ?_ ?_ ?_ ?_ ?_ ?_ ?_ ?_ ?_ ?_ ?_ ?_ ?_ ?_ ?_ ?_ ?_ ?_ ?_ ?_ ?_ ?_ ?_ ?_ ?_ ?_ ?_ ?_ ?_ ?_ ?_ ?_ ?_ ?_
  all_goals repeat' (first|(refine' Jb.tp_mk ?_ ?_ ?_ ?_)|(refine' Jb.mp_mk ?_ ?_ ?_ ?_ ?_)|(refine' Jb.cp_mk ?_ ?_ ?_ ?_ ?_ ?_ ?_ ?_)|(refine' Jb.al_cons ?_ ?_)|exact Jb.al_nil|k_is)
