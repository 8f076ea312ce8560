import PyProof.Rows.All
import Wide.All
import OpenK.AllK
import Wide.FinOn
import Lean
import PyProof.EqAt
import PyProof.EqKinds
import PyProof.TupleCall
import KE.KDictList
import KE.KSortTup
import PyProof.AttrMissHeap
import PyProof.NeKinds
import PyProof.TupleIter
import PyProof.TupleOfSeq
import PySem.Challenge.RW_joinback_k07_numbers_shown
set_option Elab.async false
set_option linter.all false
set_option compiler.extract_closed false
set_option maxRecDepth 100000
namespace L2
open PySem PySem.Spec PyProof.Rows
abbrev Key:=Sum Int Str
def uE:Key->Value->Bool
 |.inl k,v=>Value.isInt k v
 |.inr x,v=>Value.isStrOf x v
def R1(w:World):Key->Int
 |.inl k=>hashInt k
 |.inr x=>hashStr w x
theorem cR:∀{k:Key}{v:Value},uE k v=true->(∃i t,k=Sum.inl i/\v=Value.int i t)∨(∃x t,k=Sum.inr x/\v=Value.str x t)
 |.inl i,v,h=>by
  obtain⟨t,e⟩:=Value.isInt_shape (k:=i) (v:=v) h;exact .inl ⟨i,t,rfl,e⟩
 |.inr x,v,h=>by
  obtain⟨t,e⟩:=Value.isStrOf_shape (x:=x) (v:=v) h;exact .inr ⟨x,t,rfl,e⟩
theorem DR(i:Int)(t:Tok):uE (.inl i) (.int i t)=true:=by simp[uE,Value.isInt]
theorem Dp(x:Str)(t:Tok):uE (.inr x) (.str x t)=true:=by simp[uE,Value.isStrOf]
theorem PN(a b:Int):decide ((Sum.inl a:Key)=Sum.inl b)=(a==b):=by
 by_cases e:a=b
 .subst e;simp
 .have h:¬(Sum.inl a:Key)=Sum.inl b:=λq=>e (Sum.inl.inj q)
  rw[decide_eq_false h];exact(beq_eq_false_iff_ne.mpr e).symm
theorem Ms(a b:Str):decide ((Sum.inr a:Key)=Sum.inr b)=decide (a=b):=by
 by_cases e:a=b
 .subst e;simp
 .have h:¬(Sum.inr a:Key)=Sum.inr b:=λq=>e (Sum.inr.inj q)
  rw[decide_eq_false h,decide_eq_false e]
theorem N_(a:Int)(b:Str):decide ((Sum.inl a:Key)=Sum.inr b)=false:=decide_eq_false (λq=>nomatch q)
theorem O2(a:Str)(b:Int):decide ((Sum.inr a:Key)=Sum.inl b)=false:=decide_eq_false (λq=>nomatch q)
def dG(prog:Program)(w:World):PySem.KeyKind prog w Key where
 is:=uE
 hash:=R1 w
 inj:=λv a b ha hb=>by
  rcases cR ha with⟨i,t,rfl,rfl⟩|⟨x,t,rfl,rfl⟩
  .rcases cR hb with⟨j,u,rfl,e⟩|⟨y,u,rfl,e⟩
   .injection e with e1 _;rw[e1]
   .exact nomatch e
  .rcases cR hb with⟨j,u,rfl,e⟩|⟨y,u,rfl,e⟩
   .exact nomatch e
   .injection e with e1 _;rw[e1]
 byValue:=λk v h=>by
  rcases cR h with⟨i,t,rfl,rfl⟩|⟨x,t,rfl,rfl⟩<;>rfl
 pyHash:=λhv h=>by
  rcases cR hv with⟨i,t,rfl,rfl⟩|⟨x,t,rfl,rfl⟩
  .exact wpAny_pyHash_int h
  .exact wpAny_pyHash_str h
 eqBool:=λhu hv h=>by
  rcases cR hu with⟨i,t,rfl,rfl⟩|⟨x,t,rfl,rfl⟩
  .rcases cR hv with⟨j,u,rfl,rfl⟩|⟨y,u,rfl,rfl⟩
   .rw[PN]at h;exact wpAny_eqBool_int h
   .rw[N_]at h;exact SeqAt.EqAt.int_str i t y u _ _ _ _ h
  .rcases cR hv with⟨j,u,rfl,rfl⟩|⟨y,u,rfl,rfl⟩
   .rw[O2]at h;exact SeqAt.EqAt.str_int x t j u _ _ _ _ h
   .rw[Ms]at h;exact wpAny_eqBool_str h
 «strs»:=λk x t v h=>by
  rcases cR h with⟨i,u,rfl,e⟩|⟨y,u,rfl,e⟩
  .exact nomatch e
  .injection e with e1 _
   subst e1;cases v<;>rfl
theorem yx(prog:Program)(w:World)(i:Int)(t:Tok):(dG prog w).is (.inl i) (.int i t)=true:=DR i t
theorem zJ(prog:Program)(w:World)(x:Str)(t:Tok):(dG prog w).is (.inr x) (.str x t)=true:=Dp x t
inductive V where
 |non|bl (b:Bool)|int (i:Int)|str (x:Str)|byt (b:Array UInt8)|flt (b:UInt64)|ref (a:Addr)|ty (n:String)
 deriving DecidableEq
def RelV:V->Value->Prop
 |.non,u=>u=Value.none
 |.bl b,u=>u=Value.bool b
 |.int i,u=>∃t,u=Value.int i t
 |.str x,u=>∃t,u=Value.str x t
 |.byt b,u=>∃t,u=Value.bytes b t
 |.flt b,u=>∃t,u=Value.float b t
 |.ref a,u=>u=Value.ref a
 |.ty n,u=>u=Value.type n
abbrev Vals:List V->List Value->Prop:=Paired RelV
theorem Vals.length{xs:List V}{us:List Value}(r:Vals xs us):xs.length=us.length:=Paired.length r
theorem Vals.get:∀{xs:List V}{us:List Value}{i:Nat}{x:V},Vals xs us->xs[i]? =some x->∃u,us[i]? =some u/\RelV x u
 |_,_,_,_,.nil,e=>by simp at e
 |_,_,0,_,.cons r _,e=>by simp at e;subst e;exact⟨_,rfl,r⟩
 |_,_,i+1,x,.cons _ t,e=>by
  obtain⟨u,h1,h2⟩:=Vals.get (i:=i) (x:=x) t (by simpa using e);exact⟨u,by simpa using h1,h2⟩
theorem Vals.set{x:V}{u:Value}(r:RelV x u):∀{xs:List V}{us:List Value}(i:Nat),Vals xs us->Vals (xs.set i x) (us.set i u)
 |_,_,_,.nil=>.nil
 |_,_,0,.cons _ t=>.cons r t
 |_,_,i+1,.cons q t=>.cons q (Vals.set r i t)
theorem Vals.append:∀{xs ys:List V}{us ws:List Value},Vals xs us->Vals ys ws->Vals (xs++ys) (us++ws)
 |_,_,_,_,.nil,s=>s
 |_,_,_,_,.cons r t,s=>.cons r (Vals.append t s)
theorem Vals.take:∀{xs:List V}{us:List Value}(n:Nat),Vals xs us->Vals (xs.take n) (us.take n)
 |_,_,0,_=>.nil
 |_,_,_+1,.nil=>.nil
 |_,_,n+1,.cons r t=>.cons r (Vals.take n t)
theorem Vals.drop:∀{xs:List V}{us:List Value}(n:Nat),Vals xs us->Vals (xs.drop n) (us.drop n)
 |_,_,0,r=>r
 |_,_,_+1,.nil=>.nil
 |_,_,n+1,.cons _ t=>Vals.drop n t
def p_:Option V->Option Value->Prop
 |some v,some u=>RelV v u
 |none,none=>True
 |_,_=>False
def KV{κ:Type}:List (κ×V)->List (κ×Value)->Prop:=Paired λ(p:κ×V)(q:κ×Value)=>p.1=q.1/\RelV p.2 q.2
def kV:Key->V
 |.inl i=>.int i
 |.inr x=>.str x
inductive HO where
 |lst (xs:List V)
 |tup (xs:List V)
 |dK (kvs:List (Key×V))|dT (kvs:List (List Key×V))
 |set (S:Int->Bool) (n:Nat)
 |ins (C dx:Addr) (fs:List (Str×V))
 |own (x:Addr)
 |xd (fs:List (Str×V))
 |met (f x:Addr)
 |rng (lo hi:Int)
 |frz (o:Obj) (u:HO)
 |tbl (ps:Array Value)
 |ext (φ:Heap->Prop)
abbrev Hp:=Addr->Option HO
def upd(H:Hp)(a:Addr)(o:HO):Hp:=λb=>if b=a then some o else H b
theorem bc{H:Hp}{a:Addr}{o:HO}:upd H a o a=some o:=by unfold upd;rw[if_pos rfl]
theorem aP{H:Hp}{a b:Addr}{o:HO}(h:b≠a):upd H a o b=H b:=by unfold upd;rw[if_neg h]
theorem sE{H:Hp}{a:Addr}{o u:HO}:upd (upd H a o) a u=upd H a u:=by
 funext b;unfold upd;split<;>rfl
theorem ux{H:Hp}{a b:Addr}{o u:HO}(h:H a=some o)(h':H b=some u)(d:o≠u):a≠b:=by
 intro e;subst e;rw[h]at h';exact d (Option.some.inj h')
theorem aZ{H:Hp}{a b:Addr}{o:HO}(h:H a=some o)(h':H b=none):a≠b:=by
 intro e;subst e;rw[h]at h';cases h'
def lJ(h:Heap)(a:Addr)(items:Array Value):Prop:=∃o,h.get? a=some o/\o.cls= .type "tuple"/\∃n,o.data= .seq items n/\o.dict=none
theorem lJ.new(h:Heap)(items:Array Value):lJ (h.push {cls:=.type "tuple",data:=.seq items}) h.objs.size items:=⟨_,Heap.get?_push_size _ rfl,rfl,_,rfl,rfl⟩
theorem lJ.t{h:Heap}{a:Addr}{items:Array Value}(x:lJ h a items):IsTup h a items:=let⟨o,e,c,n,d,_⟩:=x;⟨o,e,c,n,d⟩
section
variable(P:Program)(w:World)
def cg(H:Hp)(h:Heap)(a:Addr):HO->Prop
 |.lst xs=>xs.length<=sizeLine/\∃(its:List Value)(n:Nat),Vals xs its/\h.get? a=some {cls:=.type "list",data:=.seq its.toArray n}
 |.tup xs=>xs.length<=sizeLine/\∃its:List Value,Vals xs its/\lJ h a its.toArray
 |.dK kvs=>kvs.length<=sizeLine/\(a==sysModules)=false/\∃vs,KV kvs vs/\h.DictOf (dG P w) a vs
 |.dT kvs=>kvs.length<=sizeLine/\(a==sysModules)=false/\∃xs:List (List Key×Addr×Value),
  Paired (λ(p:List Key×V)(q:List Key×Addr×Value)=>p.1=q.1/\H q.2.1=some (.tup (p.1.map kV))/\RelV p.2 q.2.2) kvs xs/\
  ∃o es ep,h.get? a=some o/\o.ExactDict/\o.data= .dict es ep/\es.toList=xs.map (entryOfKey (tupleKind (dG P w)))/\(xs.map (·.1)).Nodup
 |.set S n=>h.SetOf (intKind P w) a S n
 |.ins C dx fs=>H dx=some (.own a)/\fs.length<=1000/\dx≠a/\h.get? a=some (PySem.W.instObj C dx)/\
  ∃mA,h.Ns1 dx mA/\(∀f,p_ (fs.lookup f) (mA f))/\PySem.Within mA (fs.map (·.1))
 |.own _=>∃o,h.get? a=some o
 |.xd fs=>∃mA,h.Ns1 a mA/\∀f,p_ (fs.lookup f) (mA f)
 |.rng lo hi=>∃t u v,h.get? a=some {cls:=.type "range",data:=.fields #[.int lo t,.int hi u,.int 1 v]}
 |.frz o u=>h.get? a=some o/\cg H h a u
 |.tbl ps=>h.get? a=some {cls:=.none,data:=.fields ps}
 |.met f x=>h.get? a=some (PySem.W.methodObj (.ref f) (.ref x))
 |.ext φ=>φ h/\(∃o,h.get? a=some o)/\∀h1 h2:Heap,φ h1->(∀o,h1.get? a=some o->h2.get? a=some o)->φ h2
def HOk(H:Hp)(h:Heap):Prop:=∀a o,H a=some o->cg P w H h a o
end
section
variable{P:Program}{w:World}{H H':Hp}{h h':Heap}{a:Addr}{o:HO}
theorem cg.lt(x:cg P w H h a o):a<h.objs.size:=by
 cases o with
 |lst xs=>obtain⟨_,_,_,_,e⟩:=x;exact Heap.lt_size e
 |tup xs=>obtain⟨_,_,_,p⟩:=x;exact p.t.lt
 |dK kvs=>obtain⟨_,_,_,_,o,_,_,e,_⟩:=x;exact Heap.lt_size e
 |dT kvs=>obtain⟨_,_,_,_,o,_,_,e,_⟩:=x;exact Heap.lt_size e
 |set S n=>obtain⟨o,_,_,_,e,_⟩:=x;exact Heap.lt_size e
 |ins C dx fs=>obtain⟨_,_,_,e,_⟩:=x;exact Heap.lt_size e
 |own y=>obtain⟨_,e⟩:=x;exact Heap.lt_size e
 |xd fs=>obtain⟨_,⟨_,_,_,e,_⟩,_⟩:=x;exact Heap.lt_size e
 |rng lo hi=>obtain⟨_,_,_,e⟩:=x;exact Heap.lt_size e
 |frz ob u=>obtain⟨e,_⟩:=x;exact Heap.lt_size e
 |tbl ps=>exact Heap.lt_size (show h.get? a=some _ from x)
 |met f y=>exact Heap.lt_size (show h.get? a=some _ from x)
 |ext φ=>obtain⟨_,⟨_,e⟩,_⟩:=x;exact Heap.lt_size e
theorem Paired.mapP{α β:Type}{F G:α->β->Prop}:∀{l₁:List α}{l₂:List β},Paired F l₁ l₂->(∀a b,F a b->G a b)->Paired G l₁ l₂
 |_,_,.nil,_=>.nil
 |_,_,.cons r t,f=>.cons (f _ _ r) (Paired.mapP t f)
theorem cg.stay(x:cg P w H h a o)(k:∀b u,(b=a∨H b=some (.own a))->h.get? b=some u->h'.get? b=some u)
  (ho:∀b,H b=some (.own a)->H' b=some (.own a)) (ht:∀b xs,H b=some (.tup xs)->H' b=some (.tup xs)):cg P w H' h' a o:=by
 induction o with
 |lst xs=>obtain⟨z,its,n,r,e⟩:=x;exact⟨z,its,n,r,k _ _ (.inl rfl) e⟩
 |tup xs=>obtain⟨z,its,r,ob,e,c⟩:=x;exact⟨z,its,r,ob,k _ _ (.inl rfl) e,c⟩
 |dK kvs=>obtain⟨z,y,vs,r,ob,es,ep,e,c⟩:=x;exact⟨z,y,vs,r,ob,es,ep,k _ _ (.inl rfl) e,c⟩
 |dT kvs=>
  obtain⟨z,y,xs,r,ob,es,ep,e,c⟩:=x;exact⟨z,y,xs,Paired.mapP r λp q z=>⟨z.1,ht _ _ z.2.1,z.2.2⟩,ob,es,ep,k _ _ (.inl rfl) e,c⟩
 |set S n=>obtain⟨ob,es,ep,t,e,c⟩:=x;exact⟨ob,es,ep,t,k _ _ (.inl rfl) e,c⟩
 |ins C dx fs=>
  obtain⟨d,z,ne,e,mA,⟨od,es,ep,e2,c⟩,r⟩:=x;exact⟨ho _ d,z,ne,k _ _ (.inl rfl) e,mA,⟨od,es,ep,k _ _ (.inr d) e2,c⟩,r⟩
 |own y=>obtain⟨ob,e⟩:=x;exact⟨ob,k _ _ (.inl rfl) e⟩
 |xd fs=>obtain⟨mA,⟨od,es,ep,e,c⟩,r⟩:=x;exact⟨mA,⟨od,es,ep,k _ _ (.inl rfl) e,c⟩,r⟩
 |rng lo hi=>obtain⟨t,u,v,e⟩:=x;exact⟨t,u,v,k _ _ (.inl rfl) e⟩
 |frz ob u ih=>obtain⟨e,q⟩:=x;exact⟨k _ _ (.inl rfl) e,ih q⟩
 |tbl ps=>
  have e:h.get? a=some {cls:=.none,data:=.fields ps}:=x;show h'.get? a=some {cls:=.none,data:=.fields ps};exact k a _ (.inl rfl) e
 |met f y=>
  have e:h.get? a=some (PySem.W.methodObj (.ref f) (.ref y)):=x;show h'.get? a=some (PySem.W.methodObj (.ref f) (.ref y));exact k a _ (.inl rfl) e
 |ext φ=>obtain⟨p,⟨o,e⟩,st⟩:=x;exact⟨st _ _ p λo q=>k _ _ (.inl rfl) q,⟨o,k _ _ (.inl rfl) e⟩,st⟩
theorem HOk.lt(x:HOk P w H h)(e:H a=some o):a<h.objs.size:=(x a o e).lt
theorem HOk.fresh(x:HOk P w H h)(e:h.objs.size<=a):H a=none:=by
 cases q:H a with
 |none=>rfl
 |some u=>exact absurd (Nat.lt_of_lt_of_le (x.lt q) e) (Nat.lt_irrefl _)
theorem HOk.kept(x:HOk P w H h)(k:∀b u,h.get? b=some u->h'.get? b=some u):HOk P w H h':=λa o e=>
 (x a o e).stay (λb u _ q=>k b u q) (λ_ q=>q) λ_ _ q=>q
theorem HOk.laid(x:HOk P w H h)(k:∀b u,h.get? b=some u->h'.get? b=some u)(hp:h.objs.size<=a)(new:cg P w (upd H a o) h' a o):HOk P w (upd H a o) h':=λb u e=>by
 have hn:=x.fresh hp;by_cases hb:b=a
 .subst hb;rw[bc]at e;cases e;exact new
 .rw[aP hb]at e
  exact(x b u e).stay (λc v _ q=>k c v q) (λc q=>by rw[aP (aZ q hn)];exact q) λc xs q=>by rw[aP (aZ q hn)];exact q
end
def Rd(H:Hp)(a:Addr)(u:HO):Prop:=H a=some u∨∃o,H a=some (.frz o u)
theorem Rd.ok{P:Program}{w:World}{H:Hp}{h:Heap}{a:Addr}{u:HO}(r:Rd H a u)(x:HOk P w H h):cg P w H h a u:=by
 rcases r with r|⟨o,r⟩
 .exact x a u r
 .obtain⟨_,q⟩:=x a _ r
  exact q
def Mut:Option HO->Prop
 |some (.lst _)=>True
 |some (.dK _)=>True
 |some (.dT _)=>True
 |some (.set _ _)=>True
 |some (.ins _ _ _)=>True
 |some (.ext _)=>True
 |_=>False
section
variable{P:Program}{w:World}{H:Hp}{h h':Heap}{x e:Addr}{o':HO}
theorem HOk.write(ok:HOk P w H h)(mu:Mut (H x))(he:e=x∨H e=some (.own x))(k:∀b u,b≠e->h.get? b=some u->h'.get? b=some u)(heo:∃u,h'.get? e=some u)
  (new:cg P w (upd H x o') h' x o'):HOk P w (upd H x o') h':=λb u q=>by
 have nown:∀c y,H c=some (.own y)->c≠x:=λc y r z=>by subst z;rw[r]at mu;exact mu
 have ntup:∀c xs,H c=some (.tup xs)->c≠x:=λc xs r z=>by subst z;rw[r]at mu;exact mu
 by_cases hb:b=x
 .subst hb;rw[bc]at q;cases q;exact new
 .rw[aP hb]at q
  by_cases hbe:b=e
  .have q':H b=some (.own x):=by
    rcases he with z|z
    .exact absurd (hbe.trans z) hb
    .rw[hbe];exact z
   rw[q]at q';cases q';obtain⟨v,hv⟩:=heo;exact⟨v,by rw[hbe];exact hv⟩
  .refine(ok b u q).stay (λc v hc r=>k c v ?_ r) (λc r=>by rw[aP (nown c b r)];exact r) λc xs r=>by rw[aP (ntup c xs r)];exact r
   rcases hc with rfl|hc
   .exact hbe
   .rintro rfl
    rcases he with z|z
    .exact nown c b hc z
    .rw[hc]at z;cases z;exact hb rfl
end
structure Un(fs ex:List Addr)(H H':Hp)(h h':Heap):Prop where
 keep:∀b o,h.get? b=some o->H b=none->b∉fs->b∉ex->h'.get? b=some o
 slot:∀b o,h.get? b=some o->H b=none->b∈fs->b∉ex->∃sl,h'.get? b=some {o with slots:=sl}
 free:∀b o,h.get? b=some o->H b=none->b∉ex->H' b=none
 there:∀b o,h.get? b=some o->b∉ex->∃o',h'.get? b=some o'
 tups:∀b xs,H b=some (.tup xs)->H' b=some (.tup xs)
 frzs:∀b o u,H b=some (.frz o u)->H' b=some (.frz o u)
 tbls:∀b ps,H b=some (.tbl ps)->∃more,H' b=some (.tbl (ps++more))
section
variable{fs fs' ex ex':List Addr}{H H1 H2:Hp}{h h1 h2 h':Heap}{a x e:Addr}{o:HO}
theorem Un.any(u:Un fs ex H H1 h h1){b:Addr}{ob:Obj}(q:h.get? b=some ob)(n:H b=none)(hx:b∉ex):∃sl,h1.get? b=some {ob with slots:=sl}:=by
 by_cases hb:b∈fs
 .exact u.slot b ob q n hb hx
 .exact⟨ob.slots,u.keep b ob q n hb hx⟩
theorem Un.kept(k:∀b u,h.get? b=some u->h'.get? b=some u):Un fs ex H H h h':=
 ⟨λb ob q _ _ _=>k b ob q,λb ob q _ _ _=>⟨ob.slots,k b ob q⟩,λ_ _ _ n _=>n,λb ob q _=>⟨ob,k b ob q⟩,λ_ _ q=>q,λ_ _ _ q=>q,λ_ ps q=>⟨#[],by rw[q];simp⟩⟩
theorem Un.refl:Un fs ex H H h h:=Un.kept λ_ _ q=>q
theorem Un.laid(k:∀b u,h.get? b=some u->h'.get? b=some u)(hp:h.objs.size<=a)(hn:H a=none):Un fs ex H (upd H a o) h h' where
 keep:=λb u q _ _ _=>k b u q
 slot:=λb u q _ _ _=>⟨u.slots,k b u q⟩
 free:=λb u q n _=>by rw[aP (Nat.ne_of_lt (Nat.lt_of_lt_of_le (Heap.lt_size q) hp))];exact n
 there:=λb u q _=>⟨u,k b u q⟩
 tups:=λb xs q=>by rw[aP (aZ q hn)];exact q
 frzs:=λb u xs q=>by rw[aP (aZ q hn)];exact q
 tbls:=λb ps q=>⟨#[],by rw[aP (aZ q hn),q];simp⟩
theorem Un.write(mu:Mut (H x))(he:e=x∨H e=some (.own x))(k:∀b u,b≠e->h.get? b=some u->h'.get? b=some u)(heo:∃u,h'.get? e=some u):Un fs ex H (upd H x o) h h':=by
 have hx:∀b,H b=none->b≠x:=λb n z=>by subst z;rw[n]at mu;exact mu
 have hb:∀b,H b=none->b≠e:=λb n z=>by
  subst z;rcases he with r|r
  .exact hx b n r
  .rw[n]at r;cases r
 have hm:∀b u,H b=some u->¬Mut (some u)->b≠x:=λb u q nm z=>by subst z;rw[q]at mu;exact nm mu
 refine⟨λb u q n _ _=>k b u (hb b n) q,λb u q n _ _=>⟨u.slots,k b u (hb b n) q⟩,λb u q n _=>by rw[aP (hx b n)];exact n,λb u q _=>?_,
  λb xs q=>by rw[aP (hm b _ q λz=>z)];exact q,λb u xs q=>by rw[aP (hm b _ q λz=>z)];exact q,λb ps q=>⟨#[],by rw[aP (hm b _ q λz=>z),q];simp⟩⟩
 by_cases hbe:b=e
 .subst hbe;exact heo
 .exact⟨u,k b u hbe q⟩
end
def trk(h:Heap)(H:Hp):List Addr:=(List.range h.objs.size).filter λa=>(H a).isSome
def xQ(h:Heap)(H:Hp):Heap:=PySem.W.hideAll h (trk h H)
theorem Dl(h:Heap)(H:Hp):(xQ h H).objs.size=h.objs.size:=PySem.W.hideAll_size _ _
theorem Ip{h:Heap}{H:Hp}{b:Addr}{o:Obj}(e:h.get? b=some o)(n:H b=none):(xQ h H).get? b=some o:=
 PySem.W.hideAll_get _ e λhm=>by
  have q:(H b).isSome=true:=(List.mem_filter.mp hm).2;rw[n]at q;simp at q
theorem Kc{h:Heap}{H:Hp}{b:Addr}{o:Obj}(e:(xQ h H).get? b=some o):h.get? b=some o/\H b=none:=by
 have e':h.get? b=some o:=PySem.W.of_hideAll (trk h H) e;refine⟨e',?_⟩;cases q:H b with
 |none=>rfl
 |some x=>
  have hm:b∈trk h H:=List.mem_filter.mpr ⟨List.mem_range.mpr (Heap.lt_size e'),by simp[q]⟩;have z:(xQ h H).get? b=none:=PySem.W.hideAll_none (trk h H) hm;rw[z]at e;cases e
def KQ(g h:Heap)(L:Addr):List (Addr×Obj):=(List.range h.objs.size).filterMap λa=>if a=L∨(g.get? a).isSome=true then none else(h.get? a).map λo=>(a,o)
def rest(g h:Heap)(L d:Addr):List (Addr×Obj):=(KQ g h L).filter λp=>decide (p.1≠d)
structure Mod(K:PySem.W.Frag)(mg:Str->Option Value)(base:Heap):Prop where
 kin:K.In base
 glob:base.Ns mainGlobals mg
 blt:∃mb,base.Ns builtinsNs mb/\∀x:Str,x≠"__name__"->mb x=bootBuiltins x
 nolimit:base.NoLimit
structure Cx where
 prog:Program
 w:World
 K:PySem.W.Frag
 mg:Str->Option Value
 base:Heap
 A:Around
 N:List Str
 s₀:Shared
 H₀:Hp
 env:Env
 outer:List Env
 stack:List Env
 ex:List Addr
 fn:Str->Bool
 calm:Bool
 pn:List (Addr×Obj)
 xe:Value->Shared->Prop
def frs(l:List Env):List Addr:=l.filterMap (·.frame)
abbrev Cx.fs(X:Cx):List Addr:=frs X.outer
def Vis(sc:Scope)(x:Str):Prop:=sc.names.lookup x=some .local∨sc.names.lookup x=some .cell∨sc.names.lookup x=some .free
def Loc(sc:Scope)(x:Str):Prop:=sc.names.lookup x=some .local∨sc.names.lookup x=some .cell
def Look(env:Env)(h:Heap)(m:Str->Option Value)(x:Str)(u:Value):Prop:=
 (env.kindOf x=some .local/\m x=some u)∨((env.kindOf x=some .cell∨env.kindOf x=some .free)/\∃c,env.cells.lookup x=some c/\h.IsCell c (some u))
structure Cx.Ok(X:Cx):Prop where
 mod:Mod X.K X.mg X.base
 kind:X.env.scope.kind= .function
 glob:X.env.globals=mainGlobals
 blt:X.env.builtins=builtinsNs
 above:X.s₀.heap.objs.size<=X.env.locals
 inj:∀x y c,X.env.cells.lookup x=some c->X.env.cells.lookup y=some c->x=y
 has:∀x,(X.env.kindOf x=some .cell∨X.env.kindOf x=some .free)->∃c,X.env.cells.lookup x=some c
 cab:∀x c,X.fn x=true->X.env.cells.lookup x=some c->X.s₀.heap.objs.size<=c
 hd:X.calm=true->X.A.handled=none
 frames:X.A.frames=some X.stack
 stk:X.stack=X.outer∨(X.stack=X.env::X.outer/\X.env.frame=some X.env.locals)
 exf:∀b∈X.ex,b≠X.env.locals/\∀x c,X.env.cells.lookup x=some c->c≠b
 bs:∀b o,X.base.get? b=some o->X.s₀.heap.get? b=some o/\X.H₀ b=none
 bsz:X.base.objs.size<=X.s₀.heap.objs.size
 noex:∀b o,X.base.get? b=some o->b∉X.ex
 exfs:∀b∈X.ex,b∉X.fs
 funs:X.s₀.heap.FunFrames X.base X.outer
 frf:∀b∈X.fs,X.H₀ b=none
structure Inv(X:Cx)(pins:List (Addr×Obj))(σ:List (Option V))(H:Hp)(s:Shared):Prop where
 ok:X.Ok
 os:s.os=X.s₀.os
 bare:AllBare s.gens
 base:Un X.fs X.ex X.H₀ H X.s₀.heap s.heap
 loc:∃m,s.heap.Ns X.env.locals m/\∀(i:Nat)(x:Str)(v:V),X.N[i]? =some x->σ[i]? =some (some v)->Vis X.env.scope x->∃u,RelV v u/\Look X.env s.heap m x u
 cell:∀x c,X.env.cells.lookup x=some c->∃v,s.heap.IsCell c v
 free:H X.env.locals=none
 freeC:∀x c,X.env.cells.lookup x=some c->H c=none
 pin:∀p∈X.pn++pins,s.heap.get? p.1=some p.2/\H p.1=none/\p.1≠X.env.locals/\p.1∉X.fs/\∀v,p.2.data≠.cell v
 hok:HOk X.prog X.w H s.heap
 len:σ.length=X.N.length
section
variable{X:Cx}{pins:List (Addr×Obj)}{σ:List (Option V)}{H H':Hp}{s:Shared}{h':Heap}
theorem Cx.Ok.nofr(ok:X.Ok){b:Addr}{o:Obj}(e:X.base.get? b=some o):b∉X.fs:=λhb=>by
 have:=(ok.funs.mem hb).1;rw[e]at this;cases this
theorem Inv.bs(I:Inv X pins σ H s):∀b o,X.base.get? b=some o->s.heap.get? b=some o/\H b=none:=λb o e=>
 ⟨I.base.keep b o (I.ok.bs b o e).1 (I.ok.bs b o e).2 (I.ok.nofr e) (I.ok.noex b o e),I.base.free b o (I.ok.bs b o e).1 (I.ok.bs b o e).2 (I.ok.noex b o e)⟩
theorem Inv.bk(I:Inv X pins σ H s):∀b o,X.base.get? b=some o->s.heap.get? b=some o:=λb o e=>(I.bs b o e).1
theorem Inv.mod(I:Inv X pins σ H s):Mod X.K X.mg X.base:=I.ok.mod
theorem Inv.kIn(I:Inv X pins σ H s):X.K.In s.heap:=I.ok.mod.kin.keeps I.bk
theorem Inv.fr(I:Inv X pins σ H s):∃m,Fr X.base X.env.locals s.heap m:=
 let⟨m,hn,_⟩:=I.loc
 ⟨m,hn,I.bk,Nat.le_trans I.ok.bsz I.ok.above⟩
theorem Inv.lt(I:Inv X pins σ H s):X.env.locals<s.heap.objs.size:=let⟨_,hn,_⟩:=I.loc;hn.lt
theorem Inv.sz(I:Inv X pins σ H s):X.s₀.heap.objs.size<=s.heap.objs.size:=Nat.le_trans I.ok.above (Nat.le_of_lt I.lt)
theorem Inv.nofs(I:Inv X pins σ H s){a:Addr}(h:s.heap.objs.size<=a):a∉X.fs:=λhb=>by
 obtain⟨_,o,ho,_⟩:=I.ok.funs.mem hb;exact absurd (Nat.lt_of_lt_of_le (Heap.lt_size ho) (Nat.le_trans I.sz h)) (Nat.lt_irrefl _)
theorem Inv.cne(I:Inv X pins σ H s):∀x c,X.env.cells.lookup x=some c->c≠X.env.locals:=λx c e z=>by
 obtain⟨v,o,ho,hd⟩:=I.cell x c e;obtain⟨m,⟨o',es,ep,ho',hd',_⟩,_⟩:=I.loc;rw[z,ho']at ho;cases ho;rw[hd']at hd;cases hd
theorem Inv.funs(I:Inv X pins σ H s):s.heap.FunFrames X.base X.outer:=by
 have all:∀(l:List Env),(∀b∈frs l,b∈X.fs)->X.s₀.heap.FunFrames X.base l->s.heap.FunFrames X.base l:=by
  intro l
  induction l with
  |nil=>intro _ _;trivial
  |cons env r ih=>
   intro hs hl;obtain⟨hk,⟨L,o,hf,hn,ho,hd⟩,hr⟩:=hl;have hL:L∈X.fs:=hs L (by unfold frs;rw[List.filterMap_cons,hf];exact List.mem_cons_self);obtain⟨sl,e⟩:=I.base.slot L o ho (I.ok.frf L hL) hL λz=>I.ok.exfs L z hL;exact⟨hk,⟨L,_,hf,hn,e,hd⟩,ih (λb hb=>hs b (by unfold frs;rw[List.filterMap_cons,hf];exact List.mem_cons_of_mem _ hb)) hr⟩
 exact all X.outer (λ_ hb=>hb) I.ok.funs
theorem Inv.stack(I:Inv X pins σ H s):s.heap.FunFrames X.base X.stack:=by
 rcases I.ok.stk with e|⟨e,hf⟩
 .rw[e];exact I.funs
 .rw[e]
  obtain⟨m,hn,_⟩:=I.loc;refine .cons (by rw[I.ok.kind];decide) hf hn ?_ I.funs;exact Heap.get?_none_of_le (Nat.le_trans I.ok.bsz I.ok.above)
theorem Inv.stkSub(I:Inv X pins σ H s):∀b∈frs X.stack,b∈X.env.locals::X.fs:=λb hb=>by
 rcases I.ok.stk with e|⟨e,hf⟩
 .rw[e]at hb;exact List.mem_cons_of_mem _ hb
 .rw[e]at hb
  unfold frs at hb;rw[List.filterMap_cons,hf]at hb;exact hb
theorem Inv.stkFree(I:Inv X pins σ H s):∀b∈frs X.stack,H b=none:=λb hb=>by
 rcases List.mem_cons.mp (I.stkSub b hb)with e|hb
 .rw[e];exact I.free
 .obtain⟨_,o,ho,_⟩:=I.ok.funs.mem hb
  exact I.base.free b o ho (I.ok.frf b hb) λz=>I.ok.exfs b z hb
theorem Inv.step{g':Array GenState}{t':Nat}{d':Drawn}{ch:List Addr}(I:Inv X pins σ H s)
  (hch:∀b∈ch,(b∈X.ex∨X.s₀.heap.objs.size<=b)/\b≠X.env.locals/\(∀x c,X.env.cells.lookup x=some c->c≠b)/\∀p∈X.pn++pins,p.1≠b)
  (keep:∀b o,b≠X.env.locals->b∉X.fs->b∉ch->s.heap.get? b=some o->H b=none->h'.get? b=some o)
  (slot:∀b o,b≠X.env.locals->b∈X.fs->b∉ch->s.heap.get? b=some o->H b=none->∃sl,h'.get? b=some {o with slots:=sl}) (free:∀b o,b∉ch->s.heap.get? b=some o->H b=none->H' b=none)
  (there:∀b o,b∉ch->s.heap.get? b=some o->∃o',h'.get? b=some o')
  (tups:∀b xs,H b=some (.tup xs)->H' b=some (.tup xs)) (frzs:∀b o u,H b=some (.frz o u)->H' b=some (.frz o u)) (tbls:∀b ps,H b=some (.tbl ps)->∃more,H' b=some (.tbl (ps++more)))
  (ns:∀m,s.heap.Ns X.env.locals m->h'.Ns X.env.locals m) (hok:HOk X.prog X.w H' h') (hg:AllBare g') :
  Inv X pins σ H' {s with heap:=h',gens:=g',drawn:=d',toks:=t'}:=by
 have neL:∀b o,X.s₀.heap.get? b=some o->b≠X.env.locals:=λb o e=>Nat.ne_of_lt (Nat.lt_of_lt_of_le (Heap.lt_size e) I.ok.above);have neC:∀b o,X.s₀.heap.get? b=some o->b∉X.ex->b∉ch:=λb o e hx hb=>by
  rcases(hch b hb).1 with z|z
  .exact hx z
  .exact absurd (Nat.lt_of_lt_of_le (Heap.lt_size e) z) (Nat.lt_irrefl _)
 have cellK:∀x c,X.env.cells.lookup x=some c->∀v,s.heap.IsCell c v->h'.IsCell c v:=λx c e v ⟨o,ho,hd⟩=>by
  have nch:c∉ch:=λz=>(hch c z).2.2.1 x c e rfl;by_cases hc:c∈X.fs
  .obtain⟨sl,q⟩:=slot c o (I.cne x c e) hc nch ho (I.freeC x c e)
   exact⟨_,q,hd⟩
  .exact⟨o,keep c o (I.cne x c e) hc nch ho (I.freeC x c e),hd⟩
 refine⟨I.ok,I.os,hg,⟨λb o e n hb hx=>?_,λb o e n hb hx=>?_,λb o e n hx=>?_,λb o e hx=>?_,λb xs e=>tups b xs (I.base.tups b xs e),λb o xs e=>frzs b o xs (I.base.frzs b o xs e),λb ps e=>?_⟩,?_,λx c e=>?_,?_,λx c e=>?_,λp hp=>?_,hok,I.len⟩
 .exact keep b o (neL b o e) hb (neC b o e hx) (I.base.keep b o e n hb hx) (I.base.free b o e n hx)
 .obtain⟨sl,e1⟩:=I.base.slot b o e n hb hx
  obtain⟨sl',e2⟩:=slot b _ (neL b o e) hb (neC b o e hx) e1 (I.base.free b o e n hx);exact⟨sl',e2⟩
 .obtain⟨o',e1⟩:=I.base.there b o e hx
  exact free b o' (neC b o e hx) e1 (I.base.free b o e n hx)
 .obtain⟨o',e1⟩:=I.base.there b o e hx
  exact there b o' (neC b o e hx) e1
 .obtain⟨m1,e1⟩:=I.base.tbls b ps e
  obtain⟨m2,e2⟩:=tbls b _ e1;exact⟨m1++m2,by rw[e2,Array.append_assoc]⟩
 .obtain⟨m,hn,hl⟩:=I.loc
  refine⟨m,ns m hn,λi x v e1 e2 e3=>?_⟩;obtain⟨u,r,l⟩:=hl i x v e1 e2 e3;refine⟨u,r,?_⟩;rcases l with l|⟨k,c,e,z⟩
  .exact .inl l
  .exact .inr ⟨k,c,e,cellK x c e _ z⟩
 .obtain⟨v,z⟩:=I.cell x c e
  exact⟨v,cellK x c e v z⟩
 .obtain⟨m,⟨o,_,_,ho,_⟩,_⟩:=I.loc
  exact free _ o (λz=>(hch _ z).2.1 rfl) ho I.free
 .obtain⟨v,o,ho,hd⟩:=I.cell x c e
  exact free c o (λz=>(hch c z).2.2.1 x c e rfl) ho (I.freeC x c e)
 .obtain⟨e,n,ne,nf,d⟩:=I.pin p hp
  have nch:p.1∉ch:=λz=>(hch p.1 z).2.2.2 p hp rfl;exact⟨keep p.1 p.2 ne nf nch e n,free p.1 p.2 nch e n,ne,nf,d⟩
theorem Inv.un{t':Nat}(I:Inv X pins σ H s)(u:Un X.fs [] H H' s.heap h')(hok:HOk X.prog X.w H' h'):Inv X pins σ H' {s with heap:=h',toks:=t'}:=by
 obtain⟨m,⟨o,es,ep,ho,r⟩,_⟩:=id I.loc;obtain⟨sl,hL⟩:=u.any ho I.free (by simp);exact I.step (g':=s.gens) (d':=s.drawn) (ch:=[]) (λ_ z=>nomatch z) (λb o _ hb _ e n=>u.keep b o e n hb (by simp)) (λb o _ hb _ e n=>u.slot b o e n hb (by simp)) (λb o _ e n=>u.free b o e n (by simp)) (λb o _ e=>u.there b o e (by simp)) u.tups u.frzs u.tbls (λm' hm=>by
  obtain⟨o',es',ep',ho',r'⟩:=hm;rw[ho]at ho';cases ho';exact⟨_,es',ep',hL,r'⟩) hok I.bare
theorem Inv.call{g':Array GenState}{t':Nat}{d':Drawn}{ch:List Addr}(I:Inv X pins σ H s)(u:Un (frs X.stack) ch H H' s.heap h')(hok:HOk X.prog X.w H' h')(hg:AllBare g')
  (hch:∀b∈ch,(b∈X.ex∨X.s₀.heap.objs.size<=b)/\b≠X.env.locals/\(∀x c,X.env.cells.lookup x=some c->c≠b)/\∀p∈X.pn++pins,p.1≠b) :
  Inv X pins σ H' {s with heap:=h',gens:=g',drawn:=d',toks:=t'}:=by
 obtain⟨m,⟨o,es,ep,ho,r⟩,_⟩:=id I.loc;obtain⟨sl,hL⟩:=u.any ho I.free λz=>(hch _ z).2.1 rfl;exact I.step (ch:=ch) hch (λb o hL hb hc e n=>u.keep b o e n (λz=>(List.mem_cons.mp (I.stkSub b z)).elim hL hb) hc) (λb o _ _ hc e n=>u.any e n hc) (λb o hc e n=>u.free b o e n hc) (λb o hc e=>u.there b o e hc) u.tups u.frzs u.tbls (λm' hm=>by
  obtain⟨o',es',ep',ho',r'⟩:=hm;rw[ho]at ho';cases ho';exact⟨_,es',ep',hL,r'⟩) hok hg
theorem Inv.turned{t':Nat}{it:Addr}(I:Inv X pins σ H s)(k:∀b o,b≠it->s.heap.get? b=some o->h'.get? b=some o)(hn:H it=none)(hL:it≠X.env.locals)
  (h1:it∈X.ex∨X.s₀.heap.objs.size<=it) (h2:∀x c,X.env.cells.lookup x=some c->c≠it) (h3:∀p∈X.pn++pins,p.1≠it):Inv X pins σ H {s with heap:=h',toks:=t'}:=by
 have nit:∀b u,H b=some u->b≠it:=λb u e z=>by rw[z,hn]at e;cases e
 refine I.step (g':=s.gens) (d':=s.drawn) (ch:=[it]) (λb hb=>?_) (λb o _ _ hc e _=>k b o (λz=>hc (by simp[z])) e) (λb o _ _ hc e _=>⟨o.slots,k b o (λz=>hc (by simp[z])) e⟩) (λ_ _ _ _ n=>n)
  (λb o hc e=>⟨o,k b o (λz=>hc (by simp[z])) e⟩) (λ_ _ e=>e) (λ_ _ _ e=>e) (λb ps e=>⟨#[],by rw[e];simp⟩) (λm hm=>?_) (λb u e=>?_) I.bare
 .have e:b=it:=by simpa using hb
  subst e;exact⟨h1,hL,h2,h3⟩
 .obtain⟨o,es,ep,ho,r⟩:=hm
  exact⟨o,es,ep,k _ o (Ne.symm hL) ho,r⟩
 .refine(I.hok b u e).stay (λc v hc q=>k c v ?_ q) (λ_ q=>q) λ_ _ q=>q
  rcases hc with z|z
  .rw[z];exact nit b u e
  .exact nit c _ z
theorem Inv.tok(I:Inv X pins σ H s)(t:Nat):Inv X pins σ H {s with toks:=t}:=I.un (h':=s.heap) (t':=t) Un.refl I.hok
theorem Inv.kept{t':Nat}(I:Inv X pins σ H s)(k:∀b u,s.heap.get? b=some u->h'.get? b=some u):Inv X pins σ H {s with heap:=h',toks:=t'}:=I.un (Un.kept k) (I.hok.kept k)
theorem Inv.laid{a:Addr}{o:HO}{t':Nat}(I:Inv X pins σ H s)(k:∀b u,s.heap.get? b=some u->h'.get? b=some u)(hp:s.heap.objs.size<=a)(new:cg X.prog X.w (upd H a o) h' a o) :
 Inv X pins σ (upd H a o) {s with heap:=h',toks:=t'}:=I.un (Un.laid k hp (I.hok.fresh hp)) (I.hok.laid k hp new)
theorem Inv.write{x e:Addr}{o:HO}{t':Nat}(I:Inv X pins σ H s)(mu:Mut (H x))(he:e=x∨H e=some (.own x))(k:∀b u,b≠e->s.heap.get? b=some u->h'.get? b=some u)(heo:∃u,h'.get? e=some u)
 (new:cg X.prog X.w (upd H x o) h' x o):Inv X pins σ (upd H x o) {s with heap:=h',toks:=t'}:=I.un (Un.write mu he k heo) (I.hok.write mu he k heo new)
theorem Inv.weak{σ':List (Option V)}(I:Inv X pins σ H s)(hl:σ'.length=σ.length)(w:∀(i:Nat) v,σ'[i]? =some (some v)->σ[i]? =some (some v)):Inv X pins σ' H s:=
 ⟨I.ok,I.os,I.bare,I.base,let⟨m,hn,hl'⟩:=I.loc;⟨m,hn,λi x v e1 e2 e3=>hl' i x v e1 (w i v e2) e3⟩,I.cell,I.free,I.freeC,I.pin,I.hok,hl.trans I.len⟩
theorem Inv.pins_of{pins':List (Addr×Obj)}(I:Inv X pins σ H s)(h:∀p∈pins',s.heap.get? p.1=some p.2/\H p.1=none/\p.1≠X.env.locals/\p.1∉X.fs/\∀v,p.2.data≠.cell v):Inv X pins' σ H s:=
 ⟨I.ok,I.os,I.bare,I.base,I.loc,I.cell,I.free,I.freeC,λp hp=>(List.mem_append.mp hp).elim (λz=>I.pin p (List.mem_append_left _ z)) (h p),I.hok,I.len⟩
theorem yh{N:List Str}(hN:N.Nodup){i j:Nat}{x:Str}(a:N[i]? =some x)(b:N[j]? =some x):i=j:=by
 obtain⟨h1,e1⟩:=List.getElem?_eq_some_iff.mp a;obtain⟨h2,e2⟩:=List.getElem?_eq_some_iff.mp b;exact(List.getElem_inj hN).mp (e1.trans e2.symm)
theorem Dz{M:Model}{A:Around}{E:Value->Shared->Prop}{i:Nat}{x:Str}{v:V}{u:Value}{Q:Unit->Shared->Prop}(I:Inv X pins σ H s)(hN:X.N.Nodup)(hi:X.N[i]? =some x)(hx:Loc X.env.scope x)(r:RelV v u)
  (h:∀s',Inv X pins (σ.set i (some v)) H s'->(∃a,Heap.SameBut a s.heap s'.heap/\(a=X.env.locals∨X.env.cells.lookup x=some a))->Q () s') (hf:X.fn x=true∨X.env.scope.names.lookup x=some .local:=by first|exact .inl rfl|exact .inr rfl|assumption):wpAny M A (storeName X.env x u) Q E s:=by
 obtain⟨m,hn,hl⟩:=id I.loc;have hcls:(X.env.scope.kind== .class||(X.env.scope.kind== .module&&X.env.locals !=X.env.globals))=false:=by rw[I.ok.kind];rfl
 have hiσ:i<σ.length:=by rw[I.len];exact(List.getElem?_eq_some_iff.mp hi).1
 have cne:=I.cne;have tracked:∀{a:Addr}{h':Heap},(∃o,s.heap.get? a=some o/\H a=none)->Heap.SameBut a s.heap h'->HOk X.prog X.w H h':=λ{a h'} ha hs b ob e=>by
  obtain⟨_,_,hfree⟩:=ha;refine(I.hok b ob e).stay (λc w' hc q=>(hs.2 c ?_).trans q) (λ_ q=>q) λ_ _ q=>q;rintro rfl;rcases hc with rfl|hc
  .rw[hfree]at e;cases e
  .rw[hfree]at hc;cases hc
 rcases hx with hk|hk
 .refine wpAny_storeName_local hk hn (λh' hn' hs=>?_) hcls
  obtain⟨oL,_,_,hoL,_⟩:=id hn;refine h _ ⟨I.ok,I.os,I.bare,⟨λb o e n hb hx=>?_,λb o e n hb hx=>?_,I.base.free,λb o e hx=>?_,I.base.tups,I.base.frzs,I.base.tbls⟩,⟨_,hn',λj y v' e1 e2 e3=>?_⟩,λy c e=>?_,I.free,I.freeC,λp hp=>?_,tracked ⟨oL,hoL,I.free⟩ hs,by simpa using I.len⟩ ⟨_,hs,.inl rfl⟩
  .exact(hs.2 b (Nat.ne_of_lt (Nat.lt_of_lt_of_le (Heap.lt_size e) I.ok.above))).trans (I.base.keep b o e n hb hx)
  .obtain⟨sl,e1⟩:=I.base.slot b o e n hb hx
   exact⟨sl,(hs.2 b (Nat.ne_of_lt (Nat.lt_of_lt_of_le (Heap.lt_size e) I.ok.above))).trans e1⟩
  .obtain⟨o',e1⟩:=I.base.there b o e hx
   exact⟨o',(hs.2 b (Nat.ne_of_lt (Nat.lt_of_lt_of_le (Heap.lt_size e) I.ok.above))).trans e1⟩
  .by_cases hj:j=i
   .subst hj
    rw[hi]at e1;cases e1;rw[List.getElem?_set_self hiσ]at e2;cases e2;exact⟨u,r,.inl ⟨hk,by simp⟩⟩
   .rw[List.getElem?_set_ne (Ne.symm hj)]at e2
    obtain⟨u',r',q⟩:=hl j y v' e1 e2 e3;refine⟨u',r',?_⟩;rcases q with⟨k,e⟩|⟨k,c,e,z⟩
    .refine .inl ⟨k,?_⟩
     have:y≠x:=λe=>hj (yh hN e1 (e▸hi));simp[this,e]
    .exact .inr ⟨k,c,e,z.sameBut hs (cne y c e)⟩
  .obtain⟨w',z⟩:=I.cell y c e
   exact⟨w',z.sameBut hs (cne y c e)⟩
  .obtain⟨e,n,ne,nf,d⟩:=I.pin p hp
   exact⟨(hs.2 p.1 ne).trans e,n,ne,nf,d⟩
 .have hfn:X.fn x=true:=by
   rcases hf with z|z
   .exact z
   .rw[z]at hk;cases hk
  obtain⟨c,hc⟩:=I.ok.has x (.inl hk);obtain⟨w',z⟩:=I.cell x c hc;refine wpAny_storeName_cell I.ok.kind hk hc z (λh' hc' hs=>?_);obtain⟨oc,hoc,hocd⟩:=id z;refine h {s with heap:=h'} ⟨I.ok,I.os,I.bare,⟨λb o e n hb hx=>?_,λb o e n hb hx=>?_,I.base.free,λb o e hx=>?_,I.base.tups,I.base.frzs,I.base.tbls⟩,⟨m,hn.sameBut hs (Ne.symm (cne x c hc)),λj y v' e1 e2 e3=>?_⟩,λy c' e=>?_,I.free,I.freeC,λp hp=>?_,tracked ⟨oc,hoc,I.freeC x c hc⟩ hs,by simpa using I.len⟩ ⟨c,hs,.inr hc⟩
  .exact(hs.2 b (Nat.ne_of_lt (Nat.lt_of_lt_of_le (Heap.lt_size e) (I.ok.cab x c hfn hc)))).trans (I.base.keep b o e n hb hx)
  .obtain⟨sl,e1⟩:=I.base.slot b o e n hb hx
   exact⟨sl,(hs.2 b (Nat.ne_of_lt (Nat.lt_of_lt_of_le (Heap.lt_size e) (I.ok.cab x c hfn hc)))).trans e1⟩
  .obtain⟨o',e1⟩:=I.base.there b o e hx
   exact⟨o',(hs.2 b (Nat.ne_of_lt (Nat.lt_of_lt_of_le (Heap.lt_size e) (I.ok.cab x c hfn hc)))).trans e1⟩
  .by_cases hj:j=i
   .subst hj
    rw[hi]at e1;cases e1;rw[List.getElem?_set_self hiσ]at e2;cases e2;exact⟨u,r,.inr ⟨.inl hk,c,hc,hc'⟩⟩
   .rw[List.getElem?_set_ne (Ne.symm hj)]at e2
    obtain⟨u',r',q⟩:=hl j y v' e1 e2 e3;refine⟨u',r',?_⟩;rcases q with q|⟨k,c',e,z'⟩
    .exact .inl q
    .refine .inr ⟨k,c',e,z'.sameBut hs ?_⟩
     rintro rfl;exact hj (yh hN e1 (I.ok.inj _ _ _ e hc▸hi))
  .by_cases hcc:c'=c
   .subst hcc;exact⟨_,hc'⟩
   .obtain⟨w2,z2⟩:=I.cell y c' e
    exact⟨w2,z2.sameBut hs hcc⟩
  .obtain⟨e,n,ne,nf,d⟩:=I.pin p hp
   refine⟨(hs.2 p.1 ?_).trans e,n,ne,nf,d⟩;intro q;rw[q,hoc]at e;have q':oc=p.2:=Option.some.inj e;exact d w' (by rw[←q'];exact hocd)
theorem lN{M:Model}{A:Around}{E:Value->Shared->Prop}{i:Nat}{x:Str}{v:V}{u:Value}{Q:Unit->Shared->Prop}(I:Inv X pins σ H s)(hN:X.N.Nodup)(hi:X.N[i]? =some x)(hx:Loc X.env.scope x)(r:RelV v u)
  (h:∀s',Inv X pins (σ.set i (some v)) H s'->Q () s') (hf:X.fn x=true∨X.env.scope.names.lookup x=some .local:=by first|exact .inl rfl|exact .inr rfl|assumption):wpAny M A (storeName X.env x u) Q E s:=
 Dz I hN hi hx r (λs' I' _=>h s' I') hf
theorem Inv.call'{s':Shared}{ch:List Addr}(I:Inv X pins σ H s)(ho:s'.os=s.os)(u:Un (frs X.stack) ch H H' s.heap s'.heap)(hok:HOk X.prog X.w H' s'.heap)(hg:AllBare s'.gens)
  (hch:∀b∈ch,(b∈X.ex∨X.s₀.heap.objs.size<=b)/\b≠X.env.locals/\(∀x c,X.env.cells.lookup x=some c->c≠b)/\∀p∈X.pn++pins,p.1≠b):Inv X pins σ H' s':=by
 obtain⟨h',g',d',t',o'⟩:=s';have e:o'=s.os:=ho;subst e;exact I.call (g':=g') (t':=t') (d':=d') u hok hg hch
end
abbrev XK:=Value->Option Addr->Hp->Prop
abbrev St:=List (Option V)
abbrev VK:=V->Hp->Prop
abbrev TE:=St->Hp->VK->Prop
abbrev TT:=St->Hp->(Bool->Hp->Prop)->Prop
abbrev TA:=St->Hp->(List V->Hp->Prop)->Prop
structure Ends where
 nx:St->Hp->Prop
 rt:VK
 bk:St->Hp->Prop:=λ_ _=>False
 ct:St->Hp->Prop:=λ_ _=>False
abbrev TS:=Ends->St->Hp->Prop
def EP(X:Cx)(pins:List (Addr×Obj))(σ:St)(Q:VK)(u:Value)(s':Shared):Prop:=∃v H',Inv X pins σ H' s'/\RelV v u/\Q v H'
def TP(X:Cx)(pins:List (Addr×Obj))(σ:St)(Q:Bool->Hp->Prop)(b:Bool)(s':Shared):Prop:=∃H',Inv X pins σ H' s'/\Q b H'
def AP(X:Cx)(pins:List (Addr×Obj))(σ:St)(Q:List V->Hp->Prop)(us:List Value)(s':Shared):Prop:=∃vs H',Inv X pins σ H' s'/\Vals vs us/\Q vs H'
def SP(X:Cx)(pins:List (Addr×Obj))(D:Ends)(f:Flow)(s':Shared):Prop:=
 match f with
 |.next=>∃σ' H',Inv X pins σ' H' s'/\D.nx σ' H'
 |.brk=>∃σ' H',Inv X pins σ' H' s'/\D.bk σ' H'
 |.cont=>∃σ' H',Inv X pins σ' H' s'/\D.ct σ' H'
 |.ret u=>∃v σ' H',Inv X pins σ' H' s'/\RelV v u/\D.rt v H'
def PE(X:Cx)(e:Expr)(t:TE):Prop:=
 ∀(pins:List (Addr×Obj))(s:Shared)(σ:St)(H:Hp)(Q:VK),Inv X pins σ H s->t σ H Q->wpAny (model X.prog X.w) X.A (eval e X.env) (EP X pins σ Q) X.xe s
def PT(X:Cx)(e:Expr)(t:TT):Prop:=
 ∀(pins:List (Addr×Obj))(s:Shared)(σ:St)(H:Hp)(Q:Bool->Hp->Prop),Inv X pins σ H s->t σ H Q->wpAny (model X.prog X.w) X.A (isTrue e X.env (eval e X.env)) (TP X pins σ Q) X.xe s
def PW(X:Cx)(e:Expr)(t:TT):Prop:=
 ∀(whole:Sem Value)(pins:List (Addr×Obj))(s:Shared)(σ:St)(H:Hp)(Q:Bool->Hp->Prop),Inv X pins σ H s->t σ H Q->wpAny (model X.prog X.w) X.A (isTrue e X.env whole) (TP X pins σ Q) X.xe s
theorem PW.pt{X:Cx}{e:Expr}{t:TT}(h:PW X e t):PT X e t:=h _
def PA(X:Cx)(es:List Expr)(t:TA):Prop:=
 ∀(pos:Pos)(pins:List (Addr×Obj))(s:Shared)(σ:St)(H:Hp)(Q:List V->Hp->Prop),Inv X pins σ H s->t σ H Q->wpAny (model X.prog X.w) X.A (spliced (backTo pos (starEach es X.env))) (AP X pins σ Q) X.xe s
def PS(X:Cx)(st:Stmt)(t:TS):Prop:=
 ∀(pins:List (Addr×Obj))(s:Shared)(σ:St)(H:Hp)(D:Ends),Inv X pins σ H s->t D σ H->wpAny (model X.prog X.w) X.A (exec st X.env) (SP X pins D) X.xe s
def PSs(X:Cx)(st:List Stmt)(t:TS):Prop:=
 ∀(pins:List (Addr×Obj))(s:Shared)(σ:St)(H:Hp)(D:Ends),Inv X pins σ H s->t D σ H->wpAny (model X.prog X.w) X.A (execs st X.env) (SP X pins D) X.xe s
theorem thn{α:Type}{t:Sem α}{Q Q':α->Shared->Prop}{M:Model}{A:Around}{E:Value->Shared->Prop}{s:Shared}(h:wpAny M A t Q E s)(hQ:∀a s,Q a s->Q' a s):wpAny M A t Q' E s:=wpAny_mono h hQ λ_ _ x=>x
section
variable{X:Cx}
theorem bin{a b:Expr}{ta tb:TE}(ha:PE X a ta)(hb:PE X b tb){pins:List (Addr×Obj)}{s:Shared}{σ:St}{H:Hp}{R:V->V->Hp->Prop}(I:Inv X pins σ H s)(h:ta σ H λx H1=>tb σ H1 λy H2=>R x y H2)
  {α:Type} {Q:α->Shared->Prop} {f:Value->Value->Sem α}
  (hf:∀v u s2 x y H2,Inv X pins σ H2 s2->RelV x v->RelV y u->R x y H2->wpAny (model X.prog X.w) X.A (f v u) Q X.xe s2) :
  wpAny (model X.prog X.w) X.A (eval a X.env) (λv s₁=>wpAny (model X.prog X.w) X.A (eval b X.env) (λu s₂=>wpAny (model X.prog X.w) X.A (f v u) Q X.xe s₂) X.xe s₁) X.xe s:=by
 refine thn (ha pins s σ H _ I h) λv s1 ⟨x,H1,I1,r1,q1⟩=>?_;refine thn (hb pins s1 σ H1 _ I1 q1) λu s2 ⟨y,H2,I2,r2,q2⟩=>?_;exact hf v u s2 x y H2 I2 r1 r2 q2
def JZ(i:Nat):TE:=λσ H Q=>∃v,σ[i]? =some (some v)/\Q v H
def tC(v:V):TE:=λ_ H Q=>Q v H
theorem Mp{i:Nat}{x:Str}{pos:Pos}(hN:X.N[i]? =some x)(hv:Vis X.env.scope x)(hd:(x==("__debug__":Str))=false:=by decide)(hcd:(x==("__classdict__":Str))=false:=by decide):PE X (.Name x pos) (JZ i):=by
 intro pins s σ H Q I h;obtain⟨v,e,h⟩:=h;obtain⟨m,hn,hl⟩:=I.loc;obtain⟨u,r,l⟩:=hl i x v hN e hv;have fin:EP X pins σ Q u s:=⟨v,H,I,r,h⟩;rcases l with⟨hk,hm⟩|⟨hk,c,hc,hcell⟩
 .exact wpAny_Name (wpAny_loadName_local I.ok.kind hk hn hm fin) hd
 .rcases hk with hk|hk
  .exact wpAny_Name (wpAny_loadName_cell I.ok.kind hk hc hcell fin) hd
  .exact wpAny_Name (wpAny_loadName_free I.ok.kind hk hc hcell fin hcd) hd
theorem M6{i j pos}:PE X (.Constant (.int i) j pos) (tC (.int i)):=λ_ _ _ H _ I h=>wpAny_Constant_int ⟨.int i,H,I.tok _,⟨_,rfl⟩,h⟩
theorem Q0{b j pos}:PE X (.Constant (.bool b) j pos) (tC (.bl b)):=λ_ _ _ H _ I h=>Constant_bool ⟨.bl b,H,I,rfl,h⟩
theorem PB{j pos}:PE X (.Constant .none j pos) (tC .non):=λ_ _ _ H _ I h=>Constant_none ⟨.non,H,I,rfl,h⟩
theorem M_{x j pos}:PE X (.Constant (.str x) j pos) (tC (.str x)):=λ_ _ _ H _ I h=>Calls.Constant_str ⟨.str x,H,I.tok _,⟨_,rfl⟩,h⟩
def Gl(X:Cx)(x:Str):Prop:=X.env.kindOf x=some .globalImplicit
theorem J6{E:Value->Shared->Prop}{pins:List (Addr×Obj)}{s:Shared}{σ:St}{H:Hp}{x:Str}{u:Value}{pos:Pos}{Q:Value->Shared->Prop}(I:Inv X pins σ H s)(hg:Gl X x)(hm:X.mg x=some u)(h:Q u s)
  (hd:(x==("__debug__":Str))=false:=by decide):wpAny (model X.prog X.w) X.A (eval (.Name x pos) X.env) Q E s:=
 Calls.Name_function_global I.ok.kind hg (Calls.loadGlobal_global (by rw[I.ok.glob];exact I.mod.glob.keeps I.bk) hm h) hd
theorem xr{E:Value->Shared->Prop}{pins:List (Addr×Obj)}{s:Shared}{σ:St}{H:Hp}{x:Str}{u:Value}{pos:Pos}{Q:Value->Shared->Prop}(I:Inv X pins σ H s)(hg:Gl X x)(hm:X.mg x=none)(hv:bootBuiltins x=some u)(h:Q u s)
  (hn:x≠"__name__":=by decide) (hd:(x==("__debug__":Str))=false:=by decide):wpAny (model X.prog X.w) X.A (eval (.Name x pos) X.env) Q E s:=by
 obtain⟨mb,h1,h2⟩:=I.mod.blt;exact Calls.Name_function_global I.ok.kind hg (Calls.loadGlobal_builtin (by rw[I.ok.glob];exact I.mod.glob.keeps I.bk) hm (by rw[I.ok.blt];exact h1.keeps I.bk) ((h2 x hn).trans hv) h) hd
theorem K3{x:Str}{v:V}{u:Value}{pos:Pos}(hg:Gl X x)(hm:X.mg x=none)(hv:bootBuiltins x=some u)(r:RelV v u)(hn:x≠"__name__":=by decide)(hd:(x==("__debug__":Str))=false:=by decide):PE X (.Name x pos) (tC v):=
 λ_ _ _ H _ I h=>xr I hg hm hv ⟨v,H,I,r,h⟩ hn hd
variable{a b:Expr}{ta tb:TE}{pos:Pos}
variable{tA tB':TT}{rest:List Expr}
def Nz(t u:TT):TT:=λσ H Q=>t σ H λc H1=>if c=true then u σ H1 Q else Q false H1
def tOr(t u:TT):TT:=λσ H Q=>t σ H λc H1=>if c=true then Q true H1 else u σ H1 Q
def Q7(t:TT):TT:=λσ H Q=>t σ H λc H1=>Q (!c) H1
theorem Cw(ha:PT X a tA):PW X (.BoolOp .And [a] pos) tA:=by
 intro wh pins s σ H Q I h;refine isTrue_and (thn (ha pins s σ H Q I h) λc s1 e=>?_);cases c with
 |true=>exact isTrue_and_nil e
 |false=>exact e
theorem Ob(ha:PT X a tA):PW X (.BoolOp .Or [a] pos) tA:=by
 intro wh pins s σ H Q I h;refine isTrue_or (thn (ha pins s σ H Q I h) λc s1 e=>?_);cases c with
 |false=>exact isTrue_or_nil e
 |true=>exact e
theorem Fo(ha:PT X a tA)(hb:PW X (.BoolOp .And (b::rest) pos) tB'):PW X (.BoolOp .And (a::b::rest) pos) (Nz tA tB'):=by
 intro wh pins s σ H Q I h;refine isTrue_and (thn (ha pins s σ H _ I h) λc s1 ⟨H1,I1,q1⟩=>?_);cases c with
 |true=>exact hb wh pins s1 σ H1 Q I1 q1
 |false=>exact⟨H1,I1,q1⟩
theorem Rz(ha:PT X a tA)(hb:PW X (.BoolOp .Or (b::rest) pos) tB'):PW X (.BoolOp .Or (a::b::rest) pos) (tOr tA tB'):=by
 intro wh pins s σ H Q I h;refine isTrue_or (thn (ha pins s σ H _ I h) λc s1 ⟨H1,I1,q1⟩=>?_);cases c with
 |true=>exact⟨H1,I1,q1⟩
 |false=>exact hb wh pins s1 σ H1 Q I1 q1
theorem O5(ha:PT X a tA):PT X (.UnaryOp .Not a pos) (Q7 tA):=by
 intro pins s σ H Q I h;exact isTrue_not (ha pins s σ H (λc H1=>Q (!c) H1) I h)
def Lz(ta tb:TE):TE:=λσ H Q=>ta σ H λx H1=>∃c,x= .bl c/\if c=true then tb σ H1 Q else Q (.bl false) H1
def Lh(ta:TE):TE:=λσ H Q=>ta σ H λx H1=>∃c,x= .bl c/\Q (.bl (!c)) H1
theorem Ni{op}{t:TE}(h:PE X a t):PE X (.BoolOp op [a] pos) t:=λpins s σ H Q I hw=>BoolOp_one (h pins s σ H Q I hw)
theorem Og(ha:PE X a ta)(hb:PE X (.BoolOp .And (b::rest) pos) tb):PE X (.BoolOp .And (a::b::rest) pos) (Lz ta tb):=by
 intro pins s σ H Q I h;refine BoolOp_and (thn (ha pins s σ H _ I h) λv s1 ⟨x,H1,I1,r1,q1⟩=>?_);obtain⟨c,rfl,q1⟩:=q1;cases r1;refine wpAny_truthy_bool ?_;cases c with
 |true=>exact hb pins s1 σ H1 Q I1 q1
 |false=>exact⟨.bl false,H1,I1,rfl,q1⟩
theorem Oi(ha:PE X a ta):PE X (.UnaryOp .Not a pos) (Lh ta):=by
 intro pins s σ H Q I h;refine UnaryOp_ (thn (ha pins s σ H _ I h) λv s1 ⟨x,H1,I1,r1,q1⟩=>?_);obtain⟨c,rfl,q1⟩:=q1;cases r1;exact not_of (wpAny_truthy_bool ⟨.bl (!c),H1,I1,rfl,q1⟩)
end
def SqL(K:PySem.W.Frag)(H:Hp)(a:Addr)(xs:List V):Prop:=
 Rd H a (.lst xs)∨
  ∃(o:Obj)(its:Array Value)(n:Nat),K.lookup a=some o/\o.cls= .type "list"/\o.dict=none/\o.data= .seq its n/\its.size<=sizeLine/\Vals xs its.toList
def SqT(K:PySem.W.Frag)(H:Hp)(a:Addr)(xs:List V):Prop:=
 Rd H a (.tup xs)∨
  ∃(o:Obj)(its:Array Value)(n:Nat),K.lookup a=some o/\o.cls= .type "tuple"/\o.data= .seq its n/\its.size<=sizeLine/\Vals xs its.toList
def Sg:Value->Option V
 |.none=>some .non
 |.bool b=>some (.bl b)
 |.int i _=>some (.int i)
 |.str x _=>some (.str x)
 |.bytes b _=>some (.byt b)
 |.float b _=>some (.flt b)
 |.ref a=>some (.ref a)
 |.type n=>some (.ty n)
 |_=>none
theorem RelV.abs{x:V}{u:Value}(r:RelV x u):Sg u=some x:=by
 cases x with
 |non=>cases r;rfl
 |bl _=>cases r;rfl
 |int _=>obtain⟨t,rfl⟩:=r;rfl
 |str _=>obtain⟨t,rfl⟩:=r;rfl
 |byt _=>obtain⟨t,rfl⟩:=r;rfl
 |flt _=>obtain⟨t,rfl⟩:=r;rfl
 |ref _=>cases r;rfl
 |ty _=>cases r;rfl
theorem RelV.inj{x y:V}{u:Value}(r:RelV x u)(q:RelV y u):x=y:=Option.some.inj (r.abs.symm.trans q.abs)
theorem Vals.inj:∀{xs ys:List V}{us:List Value},Vals xs us->Vals ys us->xs=ys
 |_,_,_,.nil,.nil=>rfl
 |_,_,_,.cons r t,.cons r' t'=>by rw[r.inj r',Vals.inj t t']
section
variable{X:Cx}{pins:List (Addr×Obj)}{σ:St}{H:Hp}{s:Shared}{a:Addr}{xs ys:List V}
theorem SqL.of{K:PySem.W.Frag}(h:H a=some (.lst xs)):SqL K H a xs:=.inl (.inl h)
theorem SqT.of{K:PySem.W.Frag}(h:H a=some (.tup xs)):SqT K H a xs:=.inl (.inl h)
theorem Inv.list(I:Inv X pins σ H s)(h:SqL X.K H a xs):∃its:List Value,Vals xs its/\PlainL s.heap a its.toArray/\xs.length<=sizeLine:=by
 rcases h with h|⟨o,its,n,hk,hc,hd,hs,hz,r⟩
 .obtain⟨z,its,n,r,e⟩:=h.ok I.hok
  exact⟨its,r,⟨_,n,e,rfl,rfl,rfl⟩,z⟩
 .refine⟨its.toList,r,⟨o,n,I.kIn a o hk,hc,hd,by simpa using hs⟩,?_⟩
  have e:=r.length;simp only[Array.length_toList]at e;omega
theorem Inv.tuple(I:Inv X pins σ H s)(h:SqT X.K H a xs):∃its:List Value,Vals xs its/\IsTup s.heap a its.toArray/\xs.length<=sizeLine:=by
 rcases h with h|⟨o,its,n,hk,hc,hs,hz,r⟩
 .obtain⟨z,its,r,p⟩:=h.ok I.hok
  exact⟨its,r,p.t,z⟩
 .refine⟨its.toList,r,⟨o,I.kIn a o hk,hc,n,by simpa using hs⟩,?_⟩
  have e:=r.length;simp only[Array.length_toList]at e;omega
theorem Inv.list_inj(I:Inv X pins σ H s)(h:SqL X.K H a xs)(h':SqL X.K H a ys):xs=ys:=by
 obtain⟨its,r,⟨o,n,e,_,_,d⟩,_⟩:=I.list h;obtain⟨its',r',⟨o',n',e',_,_,d'⟩,_⟩:=I.list h';rw[e]at e';cases e';rw[d]at d';injection d' with d1 _;have:its=its':=by simpa using congrArg Array.toList d1
 subst this;exact r.inj r'
theorem Inv.tuple_inj(I:Inv X pins σ H s)(h:SqT X.K H a xs)(h':SqT X.K H a ys):xs=ys:=by
 obtain⟨its,r,⟨o,e,_,n,d⟩,_⟩:=I.tuple h;obtain⟨its',r',⟨o',e',_,n',d'⟩,_⟩:=I.tuple h';rw[e]at e';cases e';rw[d]at d';injection d' with d1 _;have:its=its':=by simpa using congrArg Array.toList d1
 subst this;exact r.inj r'
end
abbrev Cx.wish(X:Cx)(E:Value->Shared->Prop):Cx:={X with xe:=E}
abbrev Cx.nox(X:Cx):Cx:=X.wish λ_ _=>False
theorem Cx.Ok.wish{X:Cx}(ok:X.Ok)(E:Value->Shared->Prop):(X.wish E).Ok:=
 ⟨ok.mod,ok.kind,ok.glob,ok.blt,ok.above,ok.inj,ok.has,ok.cab,ok.hd,ok.frames,ok.stk,ok.exf,ok.bs,ok.bsz,ok.noex,ok.exfs,ok.funs,ok.frf⟩
theorem Cx.Ok.unwish{X:Cx}{E:Value->Shared->Prop}(ok:(X.wish E).Ok):X.Ok:=
 ⟨ok.mod,ok.kind,ok.glob,ok.blt,ok.above,ok.inj,ok.has,ok.cab,ok.hd,ok.frames,ok.stk,ok.exf,ok.bs,ok.bsz,ok.noex,ok.exfs,ok.funs,ok.frf⟩
section
variable{X:Cx}{pins:List (Addr×Obj)}{σ:St}{H:Hp}{s:Shared}{E:Value->Shared->Prop}
theorem Inv.wish(I:Inv X pins σ H s)(E:Value->Shared->Prop):Inv (X.wish E) pins σ H s:=⟨I.ok.wish E,I.os,I.bare,I.base,I.loc,I.cell,I.free,I.freeC,I.pin,I.hok,I.len⟩
theorem Inv.unwish(I:Inv (X.wish E) pins σ H s):Inv X pins σ H s:=⟨I.ok.unwish,I.os,I.bare,I.base,I.loc,I.cell,I.free,I.freeC,I.pin,I.hok,I.len⟩
theorem SP.unwish{D:Ends}{f:Flow}{s':Shared}(h:SP (X.wish E) pins D f s'):SP X pins D f s':=by
 cases f with
 |next=>obtain⟨σ',H',I,q⟩:=h;exact⟨σ',H',I.unwish,q⟩
 |brk=>obtain⟨σ',H',I,q⟩:=h;exact⟨σ',H',I.unwish,q⟩
 |cont=>obtain⟨σ',H',I,q⟩:=h;exact⟨σ',H',I.unwish,q⟩
 |ret u=>obtain⟨v,σ',H',I,r,q⟩:=h;exact⟨v,σ',H',I.unwish,r,q⟩
theorem PSs.nox{st:List Stmt}{t:TS}(h:PSs X.nox st t):PSs X st t:=λpins s σ H D I hw=>
 wpAny_mono (h pins s σ H D (I.wish _) hw) (λ_ _ q=>q.unwish) λ_ _ z=>False.elim z
end
section
variable{X:Cx}{st:Stmt}{rest:List Stmt}{t u:TS}{e:Expr}{te:TE}{pos:Pos}
def Lf:TS:=λD σ H=>D.nx σ H
def Rr(t u:TS):TS:=λD σ H=>t {D with nx:=u D} σ H
theorem Jq:PSs X [] Lf:=λ_ _ σ H _ I h=>wpAny_execs_nil ⟨σ,H,I,h⟩
theorem G_(h1:PS X st t)(h2:PSs X rest u):PSs X (st::rest) (Rr t u):=by
 intro pins s σ H D I h;refine wpAny_execs_cons (thn (h1 pins s σ H {D with nx:=u D} I h) λf s1 q=>?_);cases f with
 |next=>
  obtain⟨σ',H',I',q⟩:=q;exact h2 pins s1 σ' H' D I' q
 |ret v=>exact q
 |brk=>exact q
 |cont=>exact q
theorem KZ(h1:PS X st t):PSs X [st] t:=by
 intro pins s σ H D I h;refine wpAny_execs_cons (thn (h1 pins s σ H D I h) λf s1 q=>?_);cases f with
 |next=>exact wpAny_execs_nil q
 |ret v=>exact q
 |brk=>exact q
 |cont=>exact q
theorem Inv.quiet{pins:List (Addr×Obj)}{σ:St}{H:Hp}{s:Shared}(I:Inv X pins σ H s):interactive X.env=false:=by simp[interactive,I.ok.kind]
def Fv(te:TE):TS:=λD σ H=>te σ H λ_ H1=>D.nx σ H1
theorem BL(he:PE X e te)(hs:swapsWith e none pos.line X.env=pure false:=by rfl):PS X (.Expr e pos) (Fv te):=by
 intro pins s σ H D I h;exact wpAny_Expr_any (thn (he pins s σ H _ I h) λv s1 ⟨x,H1,I1,r1,q1⟩=>⟨σ,H1,I1,q1⟩) I.quiet hs
def Oa(te:TE):TS:=λD σ H=>te σ H D.rt
theorem zZ(he:PE X e te):PS X (.Return (some e) pos) (Oa te):=by
 intro pins s σ H D I h;exact wpAny_Return_some (thn (he pins s σ H _ I h) λv s1 ⟨x,H1,I1,r1,q1⟩=>⟨x,σ,H1,I1,r1,q1⟩)
def QZ(c:TT)(t u:TS):TS:=λD σ H=>c σ H λb H1=>if b=true then t D σ H1 else u D σ H1
theorem Lr{c:Expr}{a b:List Stmt}{tc:TT}(hc:PT X c tc)(ha:PSs X a t)(hb:PSs X b u):PS X (.If c a b pos) (QZ tc t u):=by
 intro pins s σ H D I h;refine wpAny_If (thn (hc pins s σ H _ I h) λd s1 ⟨H1,I1,q1⟩=>?_);cases d with
 |true=>exact ha pins s1 σ H1 D I1 q1
 |false=>exact hb pins s1 σ H1 D I1 q1
end
abbrev TG:=V->St->Hp->(St->Hp->Prop)->Prop
abbrev TGs:=List V->St->Hp->(St->Hp->Prop)->Prop
def PG(X:Cx)(target:Expr)(t:TG):Prop:=
 ∀(pins:List (Addr×Obj))(s:Shared)(σ:St)(H:Hp)(v:V)(u:Value)(Q:St->Hp->Prop),Inv X pins σ H s->RelV v u->t v σ H Q->
  wpAny (model X.prog X.w) X.A (assign target X.env u) (λ_ s'=>∃σ' H',Inv X pins σ' H' s'/\Q σ' H') X.xe s
def PGs(X:Cx)(ts:List Expr)(t:TGs):Prop:=
 ∀(pins:List (Addr×Obj))(s:Shared)(σ:St)(H:Hp)(vs:List V)(us:List Value)(Q:St->Hp->Prop),Inv X pins σ H s->Vals vs us->t vs σ H Q->
  wpAny (model X.prog X.w) X.A (assignInOrder ((assignEach ts X.env).map (·.2)) us) (λ_ s'=>∃σ' H',Inv X pins σ' H' s'/\Q σ' H') X.xe s
abbrev Dv:=V->V->V->Hp->(Hp->Prop)->Prop
def Kv(X:Cx)(t:Dv):Prop:=
 ∀(pins:List (Addr×Obj))(s:Shared)(σ:St)(H:Hp)(o i v:V)(ov iv u:Value)(Q:Hp->Prop),Inv X pins σ H s->RelV o ov->RelV i iv->RelV v u->t o i v H Q->
  wpAny (model X.prog X.w) X.A (setItem ov iv u) (λ_ s'=>∃H',Inv X pins σ H' s'/\Q H') X.xe s
section
variable{X:Cx}{pos:Pos}
def vI(i:Nat):TG:=λv σ H Q=>Q (σ.set i (some v)) H
theorem xq{i:Nat}{x:Str}(hN:X.N.Nodup)(hi:X.N[i]? =some x)(hx:Loc X.env.scope x)(hf:X.fn x=true∨X.env.scope.names.lookup x=some .local:=by first|exact .inl rfl|exact .inr rfl|assumption):PG X (.Name x pos) (vI i):=by
 intro pins s σ H v u Q I r h;exact wpAny_assign_Name (lN I hN hi hx r (λs' I'=>⟨_,H,I',h⟩) hf)
def Jl:TGs:=λvs σ H Q=>vs=[]/\Q σ H
def Hu(t:TG)(u:TGs):TGs:=λvs σ H Q=>∃v r,vs=v::r/\t v σ H λσ' H'=>u r σ' H' Q
theorem Bx:PGs X [] Jl:=by
 intro pins s σ H vs us Q I r h;obtain⟨e,h⟩:=h;subst e;cases r;exact assignInOrder_nil ⟨σ,H,I,h⟩
theorem yc{e:Expr}{es:List Expr}{t:TG}{u:TGs}(h1:PG X e t)(h2:PGs X es u)
  (hs:(assignEach (e::es) X.env).map (·.2)=assign e X.env::(assignEach es X.env).map (·.2):=by rfl):PGs X (e::es) (Hu t u):=by
 intro pins s σ H vs us Q I r h;obtain⟨v,vr,e1,h⟩:=h;subst e1;cases r with
 |cons r rr=>
  rw[hs];refine assignInOrder_cons (thn (h1 pins s σ H _ _ _ I r h) λ_ s1 ⟨σ1,H1,I1,q1⟩=>?_);exact h2 pins s1 σ1 H1 _ _ Q I1 rr q1
def M4(K:PySem.W.Frag)(n:Nat)(t:TGs):TG:=λv σ H Q=>∃a xs,v= .ref a/\SqT K H a xs/\xs.length=n/\t xs σ H Q
theorem HY{es:List Expr}{k:Nat}{t:TGs}{n:Nat}(hc:X.calm=true)(h:PGs X es t)
  (hn:(assignEach es X.env).length=n:=by rfl) (hst:(assignEach es X.env).findIdx? (·.1)=none:=by rfl):PG X (.Tuple es k pos) (M4 X.K n t):=by
 intro pins s σ H v u Q I r hw;obtain⟨a,xs,e1,hq,hl,hw⟩:=hw;subst e1;cases r;obtain⟨its,rv,ht,hz⟩:=I.tuple hq;refine assign_Tuple_tuple (I.ok.hd hc) ht (by simp[hn,←hl,rv.length]) hst λh' hx=>?_;have I1:Inv X pins σ H {s with heap:=h'}:=I.kept (t':=s.toks) λb o e=>hx b o (Nat.ne_of_lt (Heap.lt_size e)) e;exact h pins _ σ H xs _ Q I1 (by simpa using rv) hw
def i_(to ti:TE)(t:Dv):TG:=λv σ H Q=>to σ H λo H1=>ti σ H1 λi H2=>t o i v H2 λH3=>Q σ H3
theorem NZ{o i:Expr}{to ti:TE}{t:Dv}(ho:PE X o to)(hi:PE X i ti)(hs:Kv X t)
  (ha:∀v,assign (.Subscript o i pos) X.env v=(do
   let ov ←holding [v] (eval o X.env)
   let iv ←holding [v,ov] (eval i X.env)
   standAt pos
   holding [v,ov,iv] (setItem ov iv v)
   release [v,ov,iv] []):=by intro _;rfl):PG X (.Subscript o i pos) (i_ to ti t):=by
 intro pins s σ H v u Q I r h;rw[ha];refine wpAny_bind (wpAny_holding (thn (ho pins s σ H _ I h) λov s1 ⟨x,H1,I1,r1,q1⟩=>?_));refine wpAny_bind (wpAny_holding (thn (hi pins s1 σ H1 _ I1 q1) λiv s2 ⟨y,H2,I2,r2,q2⟩=>?_));refine wpAny_bind (wpAny_standAt (wpAny_bind (wpAny_holding (thn (hs pins s2 σ H2 x y v ov iv u _ I2 r1 r2 r q2) λ_ s3 ⟨H3,I3,q3⟩=>?_))));exact wpAny_release ⟨σ,H3,I3,q3⟩
def JV(te:TE)(g:TG):TS:=λD σ H=>te σ H λx H1=>g x σ H1 D.nx
theorem Ho{tg e:Expr}{te:TE}{g:TG}(he:PE X e te)(hg:PG X tg g)(hs:swapsWithSole [tg] e pos.line X.env=pure false:=by rfl)(hw:swappedStores [tg] e X.env=pure none:=by rfl)
  (h1:(assignEach [tg] X.env).map (·.2)=[assign tg X.env]:=by rfl):PS X (.Assign [tg] e pos) (JV te g):=by
 intro pins s σ H D I h;refine wpAny_Assign_stores (thn (he pins s σ H _ I h) λv s1 ⟨x,H1,I1,r1,q1⟩=>?_) hs hw;rw[h1];exact thn (hg pins s1 σ H1 x v _ I1 r1 q1) λ_ s2 q=>q
theorem Ha{i:Nat}{x:Str}{e:Expr}{te:TE}{pos':Pos}(hN:X.N.Nodup)(hi:X.N[i]? =some x)(hx:Loc X.env.scope x)(he:PE X e te)(hs:swapsWith e (some (.Name x pos')) pos.line X.env=pure false:=by rfl)(hf:X.fn x=true∨X.env.scope.names.lookup x=some .local:=by first|exact .inl rfl|exact .inr rfl|assumption) :
  PS X (.Assign [.Name x pos'] e pos) (JV te (vI i)):=by
 intro pins s σ H D I h;refine wpAny_Assign_Name (thn (he pins s σ H _ I h) λv s1 ⟨y,H1,I1,r1,q1⟩=>?_) hs;exact lN I1 hN hi hx r1 (λs2 I2=>⟨_,H1,I2,q1⟩) hf
def Qt(i j:Nat)(ta:TA):TS:=λD σ H=>ta σ H λvs H1=>∃v w,vs=[v,w]/\D.nx ((σ.set i (some v)).set j (some w)) H1
theorem M7{i j:Nat}{x y:Str}{a b:Expr}{ta:TA}{px py pt:Pos}{kt k2 pt2}(hc:X.calm=true)(hN:X.N.Nodup)(hi:X.N[i]? =some x)(hj:X.N[j]? =some y)(hij:i≠j)
  (hx:X.env.scope.names.lookup x=some .local) (hy:X.env.scope.names.lookup y=some .local) (ha:PA X [a,b] ta)
  (hw:swappedStores [.Tuple [.Name x px,.Name y py] kt pt] (.Tuple [a,b] k2 pt2) X.env=pure (some [x,y]))
  (hs:swapsWithSole [.Tuple [.Name x px,.Name y py] kt pt] (.Tuple [a,b] k2 pt2) pos.line X.env=pure false:=by rfl) :
  PS X (.Assign [.Tuple [.Name x px,.Name y py] kt pt] (.Tuple [a,b] k2 pt2) pos) (Qt i j ta):=by
 intro pins s σ H D I h;rw[exec_Assign_arm];refine wpAny_bind (wpAny_standAt ?_);rw[hs];refine wpAny_bind (wpAny_pure ?_);rw[if_neg (by decide)];refine wpAny_bind (Tuple_ (thn (ha _ pins s σ H _ I h) λus s1 ⟨vs,H1,I1,r1,q1⟩=>?_));obtain⟨v,w,e1,q1⟩:=q1;subst e1;obtain⟨u1,u2,rfl,rv,rw'⟩:∃u1 u2,us=[u1,u2]/\RelV v u1/\RelV w u2:=by
  cases r1 with
  |cons p q=>
   cases q with
   |cons p' q'=>
    cases q';exact⟨_,_,rfl,p,p'⟩
 refine wpAny_newObj_type ?_ (by show 2<=sizeLine;decide);have I2:Inv X pins σ H1 {s1 with heap:=s1.heap.push {cls:=.type "tuple",data:=.seq [u1,u2].toArray}}:=I1.kept (t':=s1.toks) λb o e=>Heap.get?_push_of_some _ e;rw[hw];refine wpAny_bind (wpAny_pure ?_);show wpAny (model X.prog X.w) X.A (do rule "assign.swapped-stores";let items ←unpackItems (.ref s1.heap.objs.size) 2 none;assignInOrder [λv=>bindName X.env y v,λv=>bindName X.env x v] items.reverse;pure Flow.next) _ _ _;refine wpAny_bind (wpAny_rule (wpAny_bind (unpackItems_tuple (items:=#[u1,u2]) (I.ok.hd hc) (IsTup.new s1.heap _) λh' hx'=>?_)));have I3:=I2.kept (h':=h') (t':=s1.toks) λb o e=>hx' b o (Nat.ne_of_lt (Heap.lt_size e)) e;show wpAny _ _ (assignInOrder [λv=>bindName X.env y v,λv=>bindName X.env x v] [u2,u1] >>=λ_=>pure Flow.next) _ _ _;refine wpAny_bind (assignInOrder_cons (wpAny_bindName (lN I3 hN hj (.inl hy) rw' (λs2 I4=>?_) (.inr hy))));refine assignInOrder_cons (wpAny_bindName (lN I4 hN hi (.inl hx) rv (λs3 I5=>assignInOrder_nil (wpAny_pure ?_)) (.inr hx)));rw[List.set_comm _ _ (Ne.symm hij)]at I5;exact⟨_,H1,I5,q1⟩
end
structure It where
 go:Nat->Hp->Prop
 yld:Nat->Hp->V->Hp->Prop
 stop:Nat->Hp->Prop
def j6(X:Cx)(pins:List (Addr×Obj))(H:Hp)(b:Addr):Prop:=
 H b=none/\b≠X.env.locals/\b∉X.fs/\(b∈X.ex∨X.s₀.heap.objs.size<=b)/\(∀x c,X.env.cells.lookup x=some c->c≠b)/\∀p∈X.pn++pins,p.1≠b
theorem Inv.fpOk{X:Cx}{pins:List (Addr×Obj)}{σ:St}{H H':Hp}{s:Shared}{b:Addr}(I:Inv X pins σ H s)(hb:s.heap.objs.size<=b)(hn:H' b=none):j6 X pins H' b:=by
 refine⟨hn,Nat.ne_of_gt (Nat.lt_of_lt_of_le I.lt hb),I.nofs hb,.inr (Nat.le_trans I.sz hb),λx c e z=>?_,λp hp z=>?_⟩
 .obtain⟨v,q⟩:=I.cell x c e
  exact absurd (Nat.lt_of_lt_of_le q.lt (by rw[z];exact hb)) (Nat.lt_irrefl _)
 .exact absurd (Nat.lt_of_lt_of_le (Heap.lt_size (I.pin p hp).1) (by rw[z];exact hb)) (Nat.lt_irrefl _)
structure Turn(P:Program)(w:World)(K:PySem.W.Frag)(tg:Expr)(J:It)(fp:List Addr)(it:Addr)(tn:Nat->Heap->Prop):Prop where
 mem:it∈fp
 obj:∀i h,tn i h->∀b∈fp,∃o,h.get? b=some o/\∀v,o.data≠.cell v
 keep:∀i h h',tn i h->(∀b∈fp,∀o,h.get? b=some o->h'.get? b=some o)->tn i h'
 item:∀(X:Cx),X.prog=P->X.w=w->X.K=K->X.calm=true->∀(i:Nat)(pins:List (Addr×Obj))(s:Shared)(σ:St)(H:Hp)(E:Value->Shared->Prop),Inv X pins σ H s->(∀b∈fp,j6 X pins H b)->tn i s.heap->J.go i H->
  wpAny (model P w) X.A (pyNext (.ref it)) (λr s1=>∃u,r=some u/\
   wpAny (model P w) X.A (letOwnedTupleGo tg (.ref it) u) (λ_ s2=>∃x H',Inv X pins σ H' s2/\RelV x u/\J.yld i H x H'/\tn (i+1) s2.heap/\∀b∈fp,H' b=none) E s1) E s
 done:∀(X:Cx),X.prog=P->X.w=w->X.K=K->X.calm=true->∀(i:Nat)(pins:List (Addr×Obj))(s:Shared)(σ:St)(H:Hp)(E:Value->Shared->Prop),Inv X pins σ H s->(∀b∈fp,j6 X pins H b)->tn i s.heap->J.stop i H->
  wpAny (model P w) X.A (pyNext (.ref it)) (λr s1=>r=none/\Inv X pins σ H s1) E s
 self:∀(A:Around)(i:Nat)(s:Shared)(Q:Value->Shared->Prop)(E:Value->Shared->Prop),tn i s.heap->Q (.ref it) s->wpAny (model P w) A (pyIter (.ref it)) Q E s
abbrev TI:=St->Hp->(It->Hp->Prop)->Prop
def PIE(X:Cx)(pins:List (Addr×Obj))(σ:St)(tg:Expr)(R:It->Hp->Prop)(itv:Value)(s2:Shared):Prop:=
 ∃(it:Addr)(fp:List Addr)(tn:Nat->Heap->Prop)(J:It)(H':Hp),itv= .ref it/\Inv X pins σ H' s2/\Turn X.prog X.w X.K tg J fp it tn/\tn 0 s2.heap/\(∀b∈fp,j6 X pins H' b)/\R J H'
def PI(X:Cx)(tg iter:Expr)(wi:TI):Prop:=
 ∀(pins:List (Addr×Obj))(s:Shared)(σ:St)(H:Hp)(R:It->Hp->Prop),Inv X pins σ H s->wi σ H R->
  wpAny (model X.prog X.w) X.A (eval iter X.env) (λv s1=>wpAny (model X.prog X.w) X.A (pyIter v) (PIE X pins σ tg R) X.xe s1) X.xe s
theorem Hf {M:Model} {A:Around} {E:Value->Shared->Prop} {s:Shared} {tg:Expr} {it:Addr} {u:Value} {o:Obj} {n:String} {vs:Array Value} {Q:Unit->Shared->Prop} (ho:s.heap.get? it=some o) (hc:o.cls = .type n) (hd:o.data = .fields vs)
    (hn:["enumerate", "zip", "dict_itemiterator", "dict_reverseitemiterator", "odict_iterator", "itertools.zip_longest", "itertools.pairwise"].contains n=false) (hQ:Q () s):wpAny M A (letOwnedTupleGo tg (.ref it) u) Q E s:=by
  unfold letOwnedTupleGo
  cases tg <;> first
    | exact wpAny_pure hQ
    | (cases u <;> first
        | exact wpAny_pure hQ
        | (refine wpAny_bind (wpAny_load ho ?_)
           rw [hc,hd]
           show wpAny M A (if (["enumerate", "zip", "dict_itemiterator", "dict_reverseitemiterator", "odict_iterator", "itertools.zip_longest", "itertools.pairwise"].contains n && vs[0]? == some (rawInt _))=true then _ else _) Q E s
           rw [if_neg (by intro h; rw [hn,Bool.false_and] at h; cases h)]
           exact wpAny_pure hQ))
def Itl(K:PySem.W.Frag)(a:Addr):It:=
 ⟨λi H=>∃xs x,SqL K H a xs/\xs[i]? =some x,λi H x H'=>H'=H/\∀xs,SqL K H a xs->xs[i]? =some x,λi H=>∃xs,SqL K H a xs/\xs.length<=i⟩
def Itt(K:PySem.W.Frag)(a:Addr):It:=
 ⟨λi H=>∃xs x,SqT K H a xs/\xs[i]? =some x,λi H x H'=>H'=H/\∀xs,SqT K H a xs->xs[i]? =some x,λi H=>∃xs,SqT K H a xs/\xs.length<=i⟩
def Itr(lo:Int)(n:Nat):It:=⟨λi _=>i<n,λi H x H'=>H'=H/\x= .int (lo+i),λi _=>n<=i⟩
theorem Ej{P:Program}{w:World}{K:PySem.W.Frag}{tg:Expr}(a it:Addr):Turn P w K tg (Itl K a) [it] it (λi h=>h.IsListIter it a i)where
 mem:=by simp
 obj:=λi h st b hb=>by
  have e:b=it:=by simpa using hb
  subst e;obtain⟨o,e,c,d⟩:=st;exact⟨o,e,λv z=>by rw[d]at z;cases z⟩
 keep:=λi h h' st k=>st.at λo e=>k it (by simp) o e
 item:=by
  intro X hP hw hK hc i pins s σ H E I hf st hg;subst hP hw hK;obtain⟨xs,x,hq,hx⟩:=hg;obtain⟨its,rv,p,hz⟩:=I.list hq;obtain⟨u,hu,ru⟩:=rv.get hx;obtain⟨f0,f1,f2,f3,f4,f5⟩:=hf it (by simp);refine wpAny_pyNext_list_item st p.isList (x:=u) (by simpa using hu) λh' st' sb=>?_;have I1:Inv X pins σ H {s with heap:=h'}:=I.turned (t':=s.toks) (λb o hb e=>(sb.2 b hb).trans e) f0 f1 f3 f4 f5;obtain⟨o,e,c,d⟩:=id st';exact⟨u,rfl,Hf (s:={s with heap:=h'}) e c d (by decide) ⟨x,H,I1,ru,⟨rfl,λys hy=>by rw[I.list_inj hy hq];exact hx⟩,st',λb hb=>(hf b hb).1⟩⟩
 done:=by
  intro X hP hw hK hc i pins s σ H E I hf st hg;subst hP hw hK;obtain⟨xs,hq,hx⟩:=hg;obtain⟨its,rv,p,hz⟩:=I.list hq;obtain⟨f0,f1,f2,f3,f4,f5⟩:=hf it (by simp);have hl:=rv.length;exact wpAny_pyNext_list_end (I.ok.hd hc) st p.isList (by simp;omega) λh' eb=>⟨rfl,I.turned (t':=s.toks) (λb o hb e=>eb b o hb e) f0 f1 f3 f4 f5⟩
 self:=λ_ _ _ _ _ st h=>wpAny_pyIter_listiter st h
theorem zX{P:Program}{w:World}{K:PySem.W.Frag}{tg:Expr}(a it:Addr):Turn P w K tg (Itt K a) [it] it (λi h=>h.IsTupleIter it a i)where
 mem:=by simp
 obj:=λi h st b hb=>by
  have e:b=it:=by simpa using hb
  subst e;obtain⟨o,e,c,d⟩:=st;exact⟨o,e,λv z=>by rw[d]at z;cases z⟩
 keep:=λi h h' st k=>st.at λo e=>k it (by simp) o e
 item:=by
  intro X hP hw hK hc i pins s σ H E I hf st hg;subst hP hw hK;obtain⟨xs,x,hq,hx⟩:=hg;obtain⟨its,rv,p,hz⟩:=I.tuple hq;obtain⟨u,hu,ru⟩:=rv.get hx;obtain⟨f0,f1,f2,f3,f4,f5⟩:=hf it (by simp);refine wpAny_pyNext_tuple_item st (show s.heap.IsTuple a its.toArray from p) (x:=u) (by simpa using hu) λh' st' sb=>?_;have I1:Inv X pins σ H {s with heap:=h'}:=I.turned (t':=s.toks) (λb o hb e=>(sb.2 b hb).trans e) f0 f1 f3 f4 f5;obtain⟨o,e,c,d⟩:=id st';exact⟨u,rfl,Hf (s:={s with heap:=h'}) e c d (by decide) ⟨x,H,I1,ru,⟨rfl,λys hy=>by rw[I.tuple_inj hy hq];exact hx⟩,st',λb hb=>(hf b hb).1⟩⟩
 done:=by
  intro X hP hw hK hc i pins s σ H E I hf st hg;subst hP hw hK;obtain⟨xs,hq,hx⟩:=hg;obtain⟨its,rv,p,hz⟩:=I.tuple hq;obtain⟨f0,f1,f2,f3,f4,f5⟩:=hf it (by simp);have hl:=rv.length;exact wpAny_pyNext_tuple_end (I.ok.hd hc) st (show s.heap.IsTuple a its.toArray from p) (by simp;omega) λh' eb=>⟨rfl,I.turned (t':=s.toks) (λb o hb e=>eb b o hb e) f0 f1 f3 f4 f5⟩
 self:=λ_ _ _ _ _ st h=>wpAny_pyIter_tupleiter st h
theorem Bb{P:Program}{w:World}{K:PySem.W.Frag}{tg:Expr}(it:Addr)(lo:Int)(n:Nat):Turn P w K tg (Itr lo n) [it] it (λi h=>IsRangeIter h it (lo+(i:Nat)*1) ((n:Int)-(i:Nat)) 1)where
 mem:=by simp
 obj:=λi h st b hb=>by
  have e:b=it:=by simpa using hb
  subst e;exact⟨_,st,λv z=>by
   have z':Data.fields _=Data.cell v:=z;cases z'⟩
 keep:=λi h h' st k=>k it (by simp) _ st
 item:=by
  intro X hP hw hK hc i pins s σ H E I hf st hg;subst hP hw hK;obtain⟨f0,f1,f2,f3,f4,f5⟩:=hf it (by simp);have W:=Walks.range (prog:=X.prog) (w:=X.w) (I.ok.hd hc) it lo 1 n;refine W.item i s _ _ hg st λv h' tk hv st' kk=>?_;obtain⟨t,rfl⟩:=hv;have I1:Inv X pins σ H {s with heap:=h',toks:=tk}:=I.turned (λb o hb e=>kk b o (by simpa using hb) e) f0 f1 f3 f4 f5;refine⟨_,rfl,Hf (s:={s with heap:=h',toks:=tk}) (n:="range_iterator") st' rfl rfl (by decide) ⟨.int (lo+i),H,I1,⟨t,?_⟩,⟨rfl,rfl⟩,st',λb hb=>(hf b hb).1⟩⟩;rw[Int.mul_one]
 done:=by
  intro X hP hw hK hc i pins s σ H E I hf st hg;subst hP hw hK;obtain⟨f0,f1,f2,f3,f4,f5⟩:=hf it (by simp);exact wpAny_pyNext_range_end (I.ok.hd hc) st (by have:n<=i:=hg;omega) λh' eb=>⟨rfl,I.turned (t':=s.toks) (λb o hb e=>eb b o hb e) f0 f1 f3 f4 f5⟩
 self:=λ_ _ _ _ _ st h=>wpAny_pyIter_rangeiter st h
section
variable{X:Cx}{tg:Expr}
theorem Gx{pins:List (Addr×Obj)}{σ:St}{H:Hp}{s:Shared}{R:It->Hp->Prop}{E:Value->Shared->Prop}{lo hi:Int}{t u v:Tok}{tk:Nat}(I:Inv X pins σ H s)(h1: -(2 ^ 62)<=lo)(h2:lo<2 ^ 62)(h3: -(2 ^ 62)<=hi)(h4:hi<2 ^ 62)
  (q:R (Itr lo (hi-lo).toNat) H):wpAny (model X.prog X.w) X.A (pyIter (.ref s.heap.objs.size)) (PIE X pins σ tg R) E {s with heap:=s.heap.push {cls:=.type "range",data:=.fields #[.int lo t,.int hi u,.int 1 v]},toks:=tk}:=by
 refine wpAny_pyIter_range (IsRange.new ..) (small_one h1 h2 h3 h4) ?_;have I1:Inv X pins σ H {s with heap:=s.heap.push {cls:=.type "range",data:=.fields #[.int lo t,.int hi u,.int 1 v]},toks:=tk}:=I.kept λb o e=>Heap.get?_push_of_some _ e;refine⟨(s.heap.push {cls:=.type "range",data:=.fields #[.int lo t,.int hi u,.int 1 v]}).objs.size,[(s.heap.push {cls:=.type "range",data:=.fields #[.int lo t,.int hi u,.int 1 v]}).objs.size],_,_,H,rfl,
  I1.kept (t':=tk) λb o e=>Heap.get?_push_of_some _ e,Bb _ lo (hi-lo).toNat,?_,λb hb=>?_,q⟩
 .have e1:lo+((0:Nat):Int)*1=lo:=by simp
  have e2:(((hi-lo).toNat:Nat):Int)-((0:Nat):Int)=Builtin.Range.rangeSize lo hi 1:=by rw[rangeSize_one];split<;>omega
  show IsRangeIter _ _ (lo+((0:Nat):Int)*1) ((((hi-lo).toNat:Nat):Int)-((0:Nat):Int)) 1;rw[e1,e2];exact Heap.get?_push_size _ rfl
 .have e:b=(s.heap.push {cls:=.type "range",data:=.fields #[.int lo t,.int hi u,.int 1 v]}).objs.size:=by simpa using hb
  subst e;exact I1.fpOk (Nat.le_refl _) (I1.hok.fresh (Nat.le_refl _))
def Fi(ta:TA):TI:=λσ H R=>ta σ H λvs H1=>∃j:Int,vs=[.int j]/\-(2 ^ 62)<=j/\j<2 ^ 62/\R (Itr 0 j.toNat) H1
theorem u9{a:Expr}{ta:TA}{p pos:Pos}(hg:Gl X "range")(hm:X.mg "range"=none)(ha:PA X [a] ta)(hs:starEach [a] X.env=[(false,eval a X.env)]:=by rfl):PI X tg (.Call (.Name "range" p) [a] [] pos) (Fi ta):=by
 intro pins s σ H R I h;refine Call_ (xr I hg hm boot_range (PyProof.Rows.callWith_type1 (thn (ha pos pins s σ H _ I h) λus s1 ⟨vs,H1,I1,r1,q1⟩=>?_) hs rfl));obtain⟨j,e,q1,q2,q⟩:=q1;subst e;cases r1 with
 |cons r rr=>
  cases rr;obtain⟨t,rfl⟩:=r;exact call_range_1 (Gx I1 (by omega) (by omega) q1 q2 (by simpa using q))
def M8(wi:TI)(g:TG)(tb:TS):TS:=λD σ H=>wi σ H λJ H1=>∃W:Nat->Nat->St->Hp->Prop,(∃m,W 0 m σ H1)/\∀i m σ H,W i m σ H->
 (J.stop i H/\D.nx σ H)∨(J.go i H/\∃N:St->Hp->Prop,(∀σ' H',N σ' H'->∃m',m'<m/\W (i+1) m' σ' H')/\∀x H',J.yld i H x H'->g x σ H' λσ2 H2=>tb {D with nx:=N,ct:=N,bk:=D.nx} σ2 H2)
def nH(fp:List Addr)(h:Heap):List (Addr×Obj):=fp.filterMap λb=>(h.get? b).map λo=>(b,o)
theorem fW{fp:List Addr}{h:Heap}{b:Addr}{o:Obj}(hb:b∈fp)(e:h.get? b=some o):(b,o)∈nH fp h:=List.mem_filterMap.mpr ⟨b,hb,by rw[e];rfl⟩
theorem vJ{fp:List Addr}{h:Heap}{p:Addr×Obj}(hp:p∈nH fp h):p.1∈fp/\h.get? p.1=some p.2:=by
 obtain⟨b,hb,e⟩:=List.mem_filterMap.mp hp;cases q:h.get? b with
 |none=>rw[q]at e;cases e
 |some o=>
  rw[q]at e;have e':(b,o)=p:=Option.some.inj e;subst e';exact⟨hb,q⟩
theorem Inv.pinned{pins:List (Addr×Obj)}{σ:St}{H:Hp}{s:Shared}{fp:List Addr}(I:Inv X pins σ H s)(hf:∀b∈fp,j6 X pins H b)(ho:∀b∈fp,∃o,s.heap.get? b=some o/\∀v,o.data≠.cell v):Inv X (pins++nH fp s.heap) σ H s:=
 I.pins_of λp hp=>(List.mem_append.mp hp).elim (λz=>I.pin p (List.mem_append_right _ z)) λz=>by
  obtain⟨hb,e⟩:=vJ z;obtain⟨f0,f1,f2,_⟩:=hf p.1 hb;obtain⟨o,e',d⟩:=ho p.1 hb;rw[e]at e';cases e';exact⟨e,f0,f1,f2,d⟩
theorem Inv.unpinned{pins pl:List (Addr×Obj)}{σ:St}{H:Hp}{s:Shared}(I:Inv X (pins++pl) σ H s):Inv X pins σ H s:=I.pins_of λp hp=>I.pin p (List.mem_append_right _ (List.mem_append_left _ hp))
theorem Ih{iter:Expr}{body:List Stmt}{wi:TI}{g:TG}{tb:TS}{pos:Pos}(hp:PassesOwn (model X.prog X.w) X.A X.env X.xe)(hc:X.calm=true)(hi:PI X tg iter wi)(hg:PG X tg g)(hb:PSs X body tb)
  (hs:∀x,foldedSetIterable iter X.env x=pure x:=by intro _;rfl):PS X (.For tg iter body [] pos) (M8 wi g tb):=by
 intro pins s σ H D I h;refine wpAny_For (thn (hi pins s σ H _ I h) λv s1 h1=>thn h1 λitv s2 h2=>?_) hs;obtain⟨it,fp,tn,J,H2,e,I2,T,st2,f2,W,⟨m0,w0⟩,turn⟩:=h2;subst e;have stat:∀{H':Hp},(∀b∈fp,H' b=none)->∀b∈fp,j6 X pins H' b:=λhn b hb=>⟨hn b hb,(f2 b hb).2⟩;refine codeAny_forLoop_any (λn s'=>∃i σ' H',Inv X pins σ' H' s'/\tn i s'.heap/\(∀b∈fp,H' b=none)/\W i n σ' H') ?_ m0 ⟨0,σ,H2,I2,st2,λb hb=>(f2 b hb).1,w0⟩;rintro n s3 ⟨i,σ3,H3,I3,st3,fr3,w3⟩;rcases turn i n σ3 H3 w3 with⟨stop,qn⟩|⟨go,N,hN,step⟩
 .refine wpAny_passesOwn hp (thn (T.done X rfl rfl rfl hc i pins s3 σ3 H3 X.xe I3 (stat fr3) st3 stop) λr s4 ⟨hr,I4⟩=>?_)
  subst hr;exact wpAny_execs_nil ⟨σ3,H3,I4,qn⟩
 .refine wpAny_passesOwn hp (thn (T.item X rfl rfl rfl hc i pins s3 σ3 H3 X.xe I3 (stat fr3) st3 go) λr s4 ⟨u,hr,h4⟩=>?_)
  subst hr;refine wpAny_passesOwn hp (thn h4 λ_ s5 ⟨x,H5,I5,r5,y5,st5,fr5⟩=>?_);have I5':=I5.pinned (stat fr5) (T.obj _ _ st5);refine wpAny_passesOwn hp (thn (hg _ s5 σ3 H5 x u _ I5' r5 (step x H5 y5)) λ_ s6 ⟨σ6,H6,I6,q6⟩=>?_);refine wpAny_passesOwn hp (thn (hb _ s6 σ6 H6 _ I6 q6) λf s7 q7=>?_);have again:∀{σ7:St}{H7:Hp},Inv X (pins++nH fp s5.heap) σ7 H7 s7->N σ7 H7->∃m,m<n/\∃i σ' H',Inv X pins σ' H' s7/\tn i s7.heap/\(∀b∈fp,H' b=none)/\W i m σ' H':=λ{σ7 H7} I7 n7=>by
   obtain⟨m',hm,w7⟩:=hN σ7 H7 n7;refine⟨m',hm,i+1,σ7,H7,I7.unpinned,T.keep _ _ _ st5 λb hb o e=>(I7.pin (b,o) (List.mem_append_right _ (List.mem_append_right _ (fW hb e)))).1,λb hb=>?_,w7⟩;obtain⟨o,e,d⟩:=T.obj _ _ st5 b hb;exact(I7.pin (b,o) (List.mem_append_right _ (List.mem_append_right _ (fW hb e)))).2.1
  cases f with
  |next=>obtain⟨σ7,H7,I7,n7⟩:=q7;exact again I7 n7
  |cont=>obtain⟨σ7,H7,I7,n7⟩:=q7;exact again I7 n7
  |brk=>obtain⟨σ7,H7,I7,q7⟩:=q7;exact⟨σ7,H7,I7.unpinned,q7⟩
  |ret v=>obtain⟨x7,σ7,H7,I7,r7,q7⟩:=q7;exact⟨x7,σ7,H7,I7.unpinned,r7,q7⟩
end
abbrev R2:=V->V->Hp->VK->Prop
def OpR(X:Cx)(f:Value->Value->Sem Value)(r:R2):Prop:=
 ∀(pins:List (Addr×Obj))(s:Shared)(σ:St)(H:Hp)(x y:V)(v u:Value)(Q:VK),Inv X pins σ H s->RelV x v->RelV y u->r x y H Q->
  wpAny (model X.prog X.w) X.A (f v u) (EP X pins σ Q) X.xe s
def UnR(X:Cx)(f:Value->Sem Value)(r:V->Hp->VK->Prop):Prop:=
 ∀(pins:List (Addr×Obj))(s:Shared)(σ:St)(H:Hp)(x:V)(v:Value)(Q:VK),Inv X pins σ H s->RelV x v->r x H Q->
  wpAny (model X.prog X.w) X.A (f v) (EP X pins σ Q) X.xe s
def cM(X:Cx)(f:Value)(r:List V->Hp->VK->Prop):Prop:=
 ∀(pins:List (Addr×Obj))(s:Shared)(σ:St)(H:Hp)(xs:List V)(us:List Value)(Q:VK),Inv X pins σ H s->Vals xs us->r xs H Q->
  wpAny (model X.prog X.w) X.A (call f us) (EP X pins σ Q) X.xe s
def R8(X:Cx)(r:V->Hp->(Bool->Hp->Prop)->Prop):Prop:=
 ∀(pins:List (Addr×Obj))(s:Shared)(σ:St)(H:Hp)(x:V)(v:Value)(Q:Bool->Hp->Prop),Inv X pins σ H s->RelV x v->r x H Q->
  wpAny (model X.prog X.w) X.A (truthy v) (TP X pins σ Q) X.xe s
def tOp(r:R2)(ta tb:TE):TE:=λσ H Q=>ta σ H λx H1=>tb σ H1 λy H2=>r x y H2 Q
def tUn(r:V->Hp->VK->Prop)(ta:TE):TE:=λσ H Q=>ta σ H λx H1=>r x H1 Q
def rI(C:Int->Int->Prop)(g:Int->Int->V):R2:=λx y H Q=>∃i j,x= .int i/\y= .int j/\C i j/\Q (g i j) H
def rI0(g:Int->Int->V):R2:=λx y H Q=>∃i j,x= .int i/\y= .int j/\Q (g i j) H
def rU(g:Int->V):V->Hp->VK->Prop:=λx H Q=>∃i,x= .int i/\Q (g i) H
section
variable{X:Cx}{a b c:Expr}{ta tb tc:TE}{pos:Pos}
theorem NT(ha:PE X a ta)(hb:PE X b tb){pins:List (Addr×Obj)}{s:Shared}{σ:St}{H:Hp}{R:V->V->Hp->Prop}(I:Inv X pins σ H s)
  (h:ta σ H λx H1=>tb σ H1 λy H2=>R x y H2) {Q:Value->Shared->Prop} {f:Value->Value->Sem Value}
  (hf:∀v u s2 x y H2,Inv X pins σ H2 s2->RelV x v->RelV y u->R x y H2->wpAny (model X.prog X.w) X.A (f v u) Q X.xe s2) :
  wpAny (model X.prog X.w) X.A (eval a X.env) (λv s₁=>wpAny (model X.prog X.w) X.A (eval b X.env) (λu s₂=>wpAny (model X.prog X.w) X.A (f v u) Q X.xe s₂) X.xe s₁) X.xe s:=by
 refine thn (ha pins s σ H _ I h) λv s1 ⟨x,H1,I1,r1,q1⟩=>?_;refine thn (hb pins s1 σ H1 _ I1 q1) λu s2 ⟨y,H2,I2,r2,q2⟩=>?_;exact hf v u s2 x y H2 I2 r1 r2 q2
theorem Ld{op:Operator}{r:R2}(ho:OpR X (binaryOp op) r)(ha:PE X a ta)(hb:PE X b tb):PE X (.BinOp a op b pos) (tOp r ta tb):=by
 intro pins s σ H Q I h;exact wpAny_BinOp (NT ha hb I h λv u s2 x y H2 I2 rx ry q=>ho pins s2 σ H2 x y v u Q I2 rx ry q)
theorem P0{op:UnaryOp}{r:V->Hp->VK->Prop}(ho:UnR X (unaryOp op) r)(ha:PE X a ta):PE X (.UnaryOp op a pos) (tUn r ta):=by
 intro pins s σ H Q I h;exact UnaryOp_ (thn (ha pins s σ H _ I h) λv s1 ⟨x,H1,I1,r1,q1⟩=>ho pins s1 σ H1 x v Q I1 r1 q1)
theorem opI{f:Value->Value->Sem Value}{C:Int->Int->Prop}{g:Int->Int->Int}
  (rule:∀(i j:Int)(t u:Tok)(s:Shared)(Q:Value->Shared->Prop)(E:Value->Shared->Prop),C i j->Q (.int (g i j) s.toks) {s with toks:=s.toks+1}->wpAny (model X.prog X.w) X.A (f (.int i t) (.int j u)) Q E s) :
  OpR X f (rI C λi j=>.int (g i j)):=by
 intro pins s σ H x y v u Q I rx ry h;obtain⟨i,j,rfl,rfl,hc,q⟩:=h;obtain⟨t,rfl⟩:=rx;obtain⟨t',rfl⟩:=ry;exact rule i j t t' s _ _ hc ⟨.int (g i j),H,I.tok _,⟨_,rfl⟩,q⟩
theorem QV{f:Value->Value->Sem Value}{g:Int->Int->Int}
  (rule:∀(i j:Int)(t u:Tok)(s:Shared)(Q:Value->Shared->Prop)(E:Value->Shared->Prop),Q (.int (g i j) s.toks) {s with toks:=s.toks+1}->wpAny (model X.prog X.w) X.A (f (.int i t) (.int j u)) Q E s) :
  OpR X f (rI0 λi j=>.int (g i j)):=by
 intro pins s σ H x y v u Q I rx ry h;obtain⟨i,j,rfl,rfl,q⟩:=h;obtain⟨t,rfl⟩:=rx;obtain⟨t',rfl⟩:=ry;exact rule i j t t' s _ _ ⟨.int (g i j),H,I.tok _,⟨_,rfl⟩,q⟩
theorem O6{f:Value->Value->Sem Value}{g:Int->Int->Bool}
  (rule:∀(i j:Int)(t u:Tok)(s:Shared)(Q:Value->Shared->Prop)(E:Value->Shared->Prop),Q (.bool (g i j)) s->wpAny (model X.prog X.w) X.A (f (.int i t) (.int j u)) Q E s) :
  OpR X f (rI0 λi j=>.bl (g i j)):=by
 intro pins s σ H x y v u Q I rx ry h;obtain⟨i,j,rfl,rfl,q⟩:=h;obtain⟨t,rfl⟩:=rx;obtain⟨t',rfl⟩:=ry;exact rule i j t t' s _ _ ⟨.bl (g i j),H,I,rfl,q⟩
def RQ(i j:Int):Prop:=0<=j/\j<=1000000/\i.natAbs<2 ^ 64
def Ny(i j:Int):Prop:=(-(2 ^ 64)<i/\i<2 ^ 64)∨(-(2 ^ 64)<j/\j<2 ^ 64)
theorem Ny.ok{i j:Int}(h:Ny i j):IntMulOk i j:=by
 rcases h with⟨h1,h2⟩|⟨h1,h2⟩
 .exact .of_left (intBits_le_64 h1 h2)
 .exact .of_right (intBits_le_64 h1 h2)
theorem Pg:OpR X (binaryOp .Add) (rI0 λi j=>.int (i+j)):=QV λ_ _ _ _ _ _ _ q=>add_int q
theorem Nr:OpR X (binaryOp .Sub) (rI0 λi j=>.int (i-j)):=QV λ_ _ _ _ _ _ _ q=>sub_int q
theorem M3:OpR X (binaryOp .Mult) (rI Ny λi j=>.int (i*j)):=opI λ_ _ _ _ _ _ _ hc q=>mul_int q hc.ok
theorem Oh:OpR X (binaryOp .Mod) (rI (λ_ j=>0<j) λi j=>.int (i % j)):=opI λi j _ _ _ _ _ hc q=>by
 have h1:(0:Int)<j:=hc;exact mod_int' (by omega) (by rw[Int.fmod_eq_emod_of_nonneg i (by omega)];exact q)
theorem N7:OpR X (binaryOp .Pow) (rI RQ λi j=>.int (i ^ j.toNat)):=opI λ_ _ _ _ _ _ _ hc q=>pow_int_small hc.1 hc.2.1 hc.2.2 q
theorem unI{f:Value->Sem Value}{g:Int->Int}
  (rule:∀(i:Int)(t:Tok)(s:Shared)(Q:Value->Shared->Prop)(E:Value->Shared->Prop),Q (.int (g i) s.toks) {s with toks:=s.toks+1}->wpAny (model X.prog X.w) X.A (f (.int i t)) Q E s) :
  UnR X f (rU λi=>.int (g i)):=by
 intro pins s σ H x v Q I rx h;obtain⟨i,rfl,q⟩:=h;obtain⟨t,rfl⟩:=rx;exact rule i t s _ _ ⟨.int (g i),H,I.tok _,⟨_,rfl⟩,q⟩
theorem Oe:UnR X (unaryOp .USub) (rU λi=>.int (-i)):=unI λ_ _ _ _ _ q=>neg_int q
end
section
variable{X:Cx}{a b c:Expr}{ta tb tc:TE}{pos:Pos}
theorem Hl{pins:List (Addr×Obj)}{σ:St}{H:Hp}{s:Shared}{Q:VK}{k k':Bool}(I:Inv X pins σ H s)(q:Q (.bl k) H)(e:k=k'):EP X pins σ Q (.bool k') s:=by
 subst e;exact⟨.bl k,H,I,rfl,q⟩
theorem Ru:OpR X (compareOp .Lt) (rI0 λi j=>.bl (decide (i<j))):=O6 λ_ _ _ _ _ _ _ q=>lt_int q
theorem Qo:OpR X (compareOp .Gt) (rI0 λi j=>.bl (decide (j<i))):=O6 λ_ _ _ _ _ _ _ q=>gt_int q
theorem Qi:OpR X (compareOp .GtE) (rI0 λi j=>.bl (decide (j<=i))):=O6 λ_ _ _ _ _ _ _ q=>ge_int q
theorem Eo:OpR X (compareOp .Lt) (λx y H Q=>∃i j,x= .str i/\y= .str j/\Q (.bl (decide (i.cps.toList<j.cps.toList))) H):=by
 intro pins s σ H x y v u Q I rx ry h;obtain⟨i,j,rfl,rfl,q⟩:=h;obtain⟨t,rfl⟩:=rx;obtain⟨t',rfl⟩:=ry;exact lt_str (Hl I q rfl)
theorem Eb:OpR X (compareOp .In) (λx y H Q=>∃i j,x= .str i/\y= .str j/\Q (.bl (!(Builtin.Str.occurrences j i 0 j.length 1).isEmpty)) H):=by
 intro pins s σ H x y v u Q I rx ry h;obtain⟨i,j,rfl,rfl,q⟩:=h;obtain⟨t,rfl⟩:=rx;obtain⟨t',rfl⟩:=ry;exact in_str (Hl I q rfl)
theorem Bp{op:CmpOp}{r:R2}(ho:OpR X (compareOp op) r)(ha:PE X a ta)(hb:PE X b tb)(hm:behindInMarks op b=false):PE X (.Compare a [op] [b] pos) (tOp r ta tb):=by
 intro pins s σ H Q I h;exact wpAny_Compare1 (NT ha hb I h λv u s2 x y H2 I2 rx ry q=>ho pins s2 σ H2 x y v u Q I2 rx ry q) hm
def GK(t:TE):TT:=λσ H Q=>t σ H λx H'=>∃k,x= .bl k/\Q k H'
theorem CG{op:CmpOp}{r:R2}(ho:OpR X (compareOp op) r)(ha:PE X a ta)(hb:PE X b tb)(hm:behindInMarks op b=false):PT X (.Compare a [op] [b] pos) (GK (tOp r ta tb)):=by
 intro pins s σ H Q I h;refine wpAny_isTrue_Compare1 (thn (ha pins s σ H _ I h) λv s1 ⟨x,H1,I1,r1,q1⟩=>thn (hb pins s1 σ H1 _ I1 q1) λu s2 ⟨y,H2,I2,r2,q2⟩=>
  thn (ho pins s2 σ H2 x y v u _ I2 r1 r2 q2) λc s3 ⟨z,H3,I3,r3,k,e,q3⟩=>?_) hm
 subst e;cases r3;exact wpAny_truthy_bool ⟨H3,I3,q3⟩
def J9(K:PySem.W.Frag)(x:V)(H:Hp)(k:Bool):Prop:=
 match x with
 |.non=>k=false
 |.bl b=>k=b
 |.int i=>k=(i !=0)
 |.str y=>y.length<=sizeLine/\k=((y.length:Int)!=0)
 |.byt y=>y.size<=sizeLine/\k=((y.size:Int)!=0)
 |.ref p=>(∃xs,SqL K H p xs/\k= !xs.isEmpty)∨(∃xs,SqT K H p xs/\k= !xs.isEmpty)∨∃kvs,H p=some (.dK kvs)/\k= !kvs.isEmpty
 |_=>False
theorem zM{κ:Type}{kvs:List (κ×V)}{vs:List (κ×Value)}(r:KV kvs vs):(!vs.isEmpty)= !kvs.isEmpty:=by
 cases r<;>rfl
theorem uc{xs:List V}{its:List Value}(r:Vals xs its):(!its.toArray.isEmpty)= !xs.isEmpty:=by
 cases r<;>simp
theorem nG:(sizeLine:Nat)<2 ^ 63:=by rw[sizeLine_eq];decide
theorem Oc:R8 X (λx H Q=>∃k,J9 X.K x H k/\Q k H):=by
 intro pins s σ H x v Q I rx h;obtain⟨k,e,q⟩:=h;have hl:=nG;have hs:sizeLine=16777216:=sizeLine_eq;cases x with
 |non=>
  cases rx;have e':k=false:=e;subst e';exact truthy_none ⟨H,I,q⟩
 |bl b=>
  cases rx;have e':k=b:=e;subst e';exact wpAny_truthy_bool ⟨H,I,q⟩
 |int i=>
  obtain⟨t,rfl⟩:=rx;have e':k=(i !=0):=e;subst e';exact PySem.P.truthy_int ⟨H,I,q⟩
 |str y=>
  obtain⟨t,rfl⟩:=rx;obtain⟨hy,e'⟩:y.length<=sizeLine/\k=((y.length:Int)!=0):=e;subst e';exact PySem.P.truthy_str (by omega) ⟨H,I.tok _,q⟩
 |byt y=>
  obtain⟨t,rfl⟩:=rx;obtain⟨hy,e'⟩:y.size<=sizeLine/\k=((y.size:Int)!=0):=e;subst e';exact PySem.W.truthy_bytes (by omega) ⟨H,I.tok _,q⟩
 |ref p=>
  cases rx;have e':(∃xs,SqL X.K H p xs/\k= !xs.isEmpty)∨(∃xs,SqT X.K H p xs/\k= !xs.isEmpty)∨∃kvs,H p=some (.dK kvs)/\k= !kvs.isEmpty:=e;rcases e' with⟨xs,hx,e'⟩|⟨xs,hx,e'⟩|⟨kvs,hx,e'⟩
  .subst e'
   obtain⟨its,r,pl,hz⟩:=I.list hx;have hlen:=r.length;exact wpAny_truthy_list pl.isList (by simp only[List.size_toArray];omega) ⟨H,I.tok _,by rw[uc r];exact q⟩
  .subst e'
   obtain⟨its,r,pl,hz⟩:=I.tuple hx;have hlen:=r.length;exact truthy_tuple pl (by simp only[List.size_toArray];omega) ⟨H,I.tok _,by rw[uc r];exact q⟩
  .subst e'
   obtain⟨hz,hS,vs,r,m⟩:kvs.length<=sizeLine/\(p==sysModules)=false/\∃vs,KV kvs vs/\s.heap.DictOf (dG X.prog X.w) p vs:=I.hok p _ hx;have hlen:kvs.length=vs.length:=Paired.length r;exact wpAny_truthy_dict hS m (by omega) ⟨H,I.tok _,by rw[zM r];exact q⟩
 |_=>exact(show False from e).elim
theorem Gd(ha:PE X a ta)(he:∀whole,isTrue a X.env whole=(do let v ←whole;standAt a.pos;holding [v] (truthy v))) :
  PT X a (λσ H Q=>ta σ H λx H'=>∃k,J9 X.K x H' k/\Q k H'):=by
 intro pins s σ H Q I h;exact isTrue_plain (thn (ha pins s σ H _ I h) λv s1 ⟨x,H1,I1,r1,q1⟩=>Oc pins s1 σ H1 x v Q I1 r1 q1) (he _)
theorem zR:OpR X (binaryOp .Add) (λx y H Q=>∃i j,x= .str i/\y= .str j/\i.length+j.length<=sizeLine/\Q (.str (i++j)) H):=by
 intro pins s σ H x y v u Q I rx ry h;obtain⟨i,j,rfl,rfl,hz,q⟩:=h;obtain⟨t,rfl⟩:=rx;obtain⟨t',rfl⟩:=ry;exact add_str (λt' tk=>⟨.str (i++j),H,I.tok _,⟨_,rfl⟩,q⟩) hz
theorem vals1{x:V}{us:List Value}(r:Vals [x] us):∃u,us=[u]/\RelV x u:=by
 cases r with
 |cons r1 r2=>cases r2;exact⟨_,rfl,r1⟩
theorem vals2{x y:V}{us:List Value}(r:Vals [x,y] us):∃u w',us=[u,w']/\RelV x u/\RelV y w':=by
 cases r with
 |cons r1 r2=>
  cases r2 with
  |cons r3 r4=>cases r4;exact⟨_,_,rfl,r1,r3⟩
theorem GD:cM X (.builtin "abs") (λxs H Q=>∃i,xs=[.int i]/\Q (.int (if i<0 then -i else i)) H):=by
 intro pins s σ H xs us Q I r h;obtain⟨i,rfl,q⟩:=h;obtain⟨u,rfl,t,rfl⟩:=vals1 r;exact call_abs_int λu tk=>⟨.int (if i<0 then -i else i),H,I.tok _,⟨_,rfl⟩,q⟩
theorem Dy(hc:X.calm=true):cM X (.builtin "min") (λxs H Q=>∃i j,xs=[.int i,.int j]/\Q (.int (if j<i then j else i)) H):=by
 intro pins s σ H xs us Q I r h;obtain⟨i,j,rfl,q⟩:=h;obtain⟨u,w',rfl,⟨t,rfl⟩,⟨t',rfl⟩⟩:=vals2 r;refine min_two_ints (I.ok.hd hc) λh' tk k=>⟨_,H,I.kept k,?_,q⟩;by_cases hj:j<i
 .rw[if_pos hj,if_pos hj];exact⟨_,rfl⟩
 .rw[if_neg hj,if_neg hj];exact⟨_,rfl⟩
theorem Em:cM X (.type "int") (λxs H Q=>(∃i,xs=[.int i]/\Q (.int i) H)∨∃k,xs=[.bl k]/\Q (.int (if k then 1 else 0)) H):=by
 intro pins s σ H xs us Q I r h;rcases h with⟨i,rfl,q⟩|⟨k,rfl,q⟩
 .obtain⟨u,rfl,t,rfl⟩:=vals1 r
  exact call_int_int ⟨.int i,H,I,⟨_,rfl⟩,q⟩
 .obtain⟨u,rfl,r1⟩:=vals1 r
  cases r1;exact call_int_bool ⟨.int (if k then 1 else 0),H,I.tok _,⟨_,rfl⟩,q⟩
theorem wj:cM X (.type "str") (λxs H Q=>∃i,xs=[.int i]/\i.natAbs.log2<1920/\Q (.str (toString i)) H):=by
 intro pins s σ H xs us Q I r h;obtain⟨i,rfl,hz,q⟩:=h;obtain⟨u,rfl,t,rfl⟩:=vals1 r;exact PySem.P.str_of_int hz ⟨.str _,H,I.tok _,⟨_,rfl⟩,q⟩
end
structure MN(h:Heap)(x dx C:Addr)(mA:Str->Option Value):Prop where
 obj:h.get? x=some (PySem.W.instObj C dx)
 ns:h.Ns1 dx mA
 ne:dx≠x
theorem Ek{h:Heap}{dx:Addr}{mA:Str->Option Value}(n:h.Ns1 dx mA):∃od,h.get? dx=some od/\∀name,PySem.W.lookIn name od=some (mA name):=by
 obtain⟨o,es,ep,ho,hd,hk,_,hm⟩:=n;refine⟨o,ho,λname=>?_⟩;have e:=hm name;unfold nsFind findBy at e;rw[←Array.find?_toList]at e;unfold PySem.W.lookIn;rw[hd];dsimp only;split
 .rename_i y q
  rw[q]at e;exact congrArg some e
 .rename_i q
  rw[q]at e;have a:es.toList.any (·.refKey)=false:=by
   rw[List.any_eq_false];intro y hy;obtain⟨z,t,hkey⟩:=hk y (Array.mem_toList_iff.mp hy);simp[DictEntry.refKey,hkey]
  have a':¬es.toList.any (·.refKey)=true:=by rw[a];exact Bool.false_ne_true
  rw[if_neg a'];exact congrArg some e
theorem MN.look{h:Heap}{x dx C:Addr}{mA:Str->Option Value}(I:MN h x dx C mA):∃od,PySem.W.InstAt h x (PySem.W.instObj C dx) C (some od)/\∀name,PySem.W.lookIn name od=some (mA name):=
 let⟨od,ho,hl⟩:=Ek I.ns
 ⟨od,⟨I.obj,rfl,rfl,ho⟩,hl⟩
theorem p_.some_of{v:V}{o:Option Value}(r:p_ (some v) o):∃u,o=some u/\RelV v u:=by
 cases o with
 |none=>exact(show False from r).elim
 |some u=>exact⟨u,rfl,r⟩
section
variable{P:Program}{w:World}{H H':Hp}{h h':Heap}{a C dx:Addr}{fs fs':List (Str×V)}
theorem Bu(hok:HOk P w H h)(e:H a=some (.ins C dx fs)):∃mA,MN h a dx C mA/\(∀f,p_ (fs.lookup f) (mA f))/\PySem.Within mA (fs.map (·.1))/\fs.length<=1000/\H dx=some (.own a):=by
 obtain⟨d,z,ne,ob,mA,n,r,q⟩:=(show cg P w H h a (.ins C dx fs)from hok a _ e);exact⟨mA,⟨ob,n,ne⟩,r,q,z,d⟩
end
structure Cls(K:PySem.W.Frag)(C:Addr):Prop where
 pg:PySem.W.plainGet K C Str.empty=true
 hd:PySem.W.hasDictIn K C=true
 po:PySem.W.plainOver K C=true
 sa:PySem.W.findIn K (.ref C) "__setattr__"=some (some (.builtin "object.__setattr__"))
theorem Cls.get{K:PySem.W.Frag}{C:Addr}(c:Cls K C)(f:Str):PySem.W.plainGet K C f=true:=c.pg
section
variable{X:Cx}{pins:List (Addr×Obj)}{σ:St}{H:Hp}{s:Shared}{A:Around}{E:Value->Shared->Prop}{Q:Value->Shared->Prop}{c:Value}{b:Bool}
inductive lC(K:PySem.W.Frag)(H:Hp):V->Value->Prop where
 |non:lC K H .non (.type "NoneType")
 |bl (x:Bool):lC K H (.bl x) (.type "bool")
 |int (i:Int):lC K H (.int i) (.type "int")
 |str (x:Str):lC K H (.str x) (.type "str")
 |flt (x:UInt64):lC K H (.flt x) (.type "float")
 |lst {a:Addr} {xs:List V} (e:H a=some (.lst xs)):lC K H (.ref a) (.type "list")
 |frz {a:Addr} {o:Obj} {xs:List V} (e:H a=some (.frz o (.lst xs))):lC K H (.ref a) (.type "list")
 |tup {a:Addr} {xs:List V} (e:H a=some (.tup xs)):lC K H (.ref a) (.type "tuple")
 |dK {a:Addr} {kvs:List (Key×V)} (e:H a=some (.dK kvs)):lC K H (.ref a) (.type "dict")
 |dT {a:Addr} {kvs:List (List Key×V)} (e:H a=some (.dT kvs)):lC K H (.ref a) (.type "dict")
 |ins {a C dx:Addr} {fs:List (Str×V)} (e:H a=some (.ins C dx fs)) (cl:Cls K C) (ha:PySem.W.findIn K (.ref C) "__class__"=some (some (.builtin "object.__class__")))
  (hn:PySem.W.specialIn K (.builtin "object.__class__") "__get__"=some (some (.builtin "getset_descriptor.__get__"))) (htk:PySem.W.takesIn K (.builtin "object.__class__")=some true)
  (hm:PySem.W.mroIn K C (.type "object")=some true):lC K H (.ref a) (.ref C)
theorem Ef{x:V}{u t:Value}(I:Inv X pins σ H s)(rx:RelV x u)(ty:lC X.K H x t)(e:PySem.W.kitOne X.K t c=some b)(h:∀tk,Q (.bool b) {s with toks:=tk}) :
  wpAny (model X.prog X.w) A (call (.builtin "isinstance") [u,c]) Q E s:=by
 cases ty with
 |non=>cases (show u=Value.none from rx);exact PySem.W.kia_one PySem.W.kitx_none I.kIn True.intro e (λz=>nomatch z) h
 |bl y=>cases (show u=Value.bool y from rx);exact PySem.W.kia_one PySem.W.kitx_bool I.kIn True.intro e (λz=>nomatch z) h
 |int i=>obtain⟨t,q⟩:=(show ∃t,u=Value.int i t from rx);cases q;exact PySem.W.kia_one PySem.W.kitx_int I.kIn True.intro e (λz=>nomatch z) h
 |str y=>obtain⟨t,q⟩:=(show ∃t,u=Value.str y t from rx);cases q;exact PySem.W.kia_one PySem.W.kitx_str I.kIn True.intro e (λz=>nomatch z) h
 |flt y=>obtain⟨t,q⟩:=(show ∃t,u=Value.float y t from rx);cases q;exact PySem.W.kia_one PySem.W.kitx_float I.kIn True.intro e (λz=>nomatch z) h
 |@lst a xs ea=>
  cases (show u=Value.ref a from rx);obtain⟨_,_,n,_,h1⟩:=(show cg X.prog X.w H s.heap a (.lst xs)from I.hok a _ ea);exact PySem.W.kia_one PySem.W.kitx_list I.kIn ⟨_,h1,rfl⟩ e (λz=>nomatch z) h
 |@frz a ob xs ea=>
  cases (show u=Value.ref a from rx);obtain⟨_,_,_,n,_,h1⟩:=(show cg X.prog X.w H s.heap a (.frz ob (.lst xs))from I.hok a _ ea);exact PySem.W.kia_one PySem.W.kitx_list I.kIn ⟨_,h1,rfl⟩ e (λz=>nomatch z) h
 |@tup a xs ea=>
  cases (show u=Value.ref a from rx);obtain⟨_,_,_,p⟩:=(show cg X.prog X.w H s.heap a (.tup xs)from I.hok a _ ea);obtain⟨o,h1,h2,_⟩:=p;exact PySem.W.kia_one PySem.W.kitx_tuple I.kIn ⟨o,h1,h2⟩ e (λz=>nomatch z) h
 |@dK a kvs ea=>
  cases (show u=Value.ref a from rx);obtain⟨_,_,vs,_,p⟩:=(show cg X.prog X.w H s.heap a (.dK kvs)from I.hok a _ ea);obtain⟨o,es,ep,h1,h2,_⟩:=p;exact PySem.W.kia_one PySem.W.kitx_dict I.kIn ⟨o,h1,h2.1⟩ e (λz=>nomatch z) h
 |@dT a kvs ea=>
  cases (show u=Value.ref a from rx);obtain⟨_,_,xs,_,o,es,ep,h1,h2,_⟩:=(show cg X.prog X.w H s.heap a (.dT kvs)from I.hok a _ ea);exact PySem.W.kia_one PySem.W.kitx_dict I.kIn ⟨o,h1,h2.1⟩ e (λz=>nomatch z) h
 |@ins a C dx fs ea cl ha hn htk hm=>
  cases (show u=Value.ref a from rx);obtain⟨mA,O,_⟩:=Bu I.hok ea;obtain⟨od,J,_⟩:=O.look;exact PySem.W.kia_one (PySem.W.kitx_own (cl.get _) cl.hd ha hn htk hm) I.kIn J e (λz=>nomatch z) h
end
structure jd(k:Nat)(A:Around):Prop where
 hd:A.handled=none
 dp:A.depth+3*k+5<recursionLimit
 un:A.units+16*k+200<cLine
 gd:A.guards=some []
theorem jd.mono{j k:Nat}{A:Around}(r:jd k A)(h:j<=k):jd j A:=⟨r.hd,by have:=r.dp;omega,by have:=r.un;omega,r.gd⟩
theorem jd.deeper{k:Nat}{A:Around}(r:jd (k+1) A)(env:Env):jd k (A.deeper env):=
 ⟨r.hd,by have:=r.dp;show A.depth+1+3*k+5<_;omega,by have:=r.un;show A.units+3+16*k+200<_;omega,r.gd⟩
theorem jd.depth{k:Nat}{A:Around}(r:jd k A):A.depth<recursionLimit:=by have:=r.dp;omega
theorem jd.units{k:Nat}{A:Around}(r:jd k A):A.units+64<cLine:=by have:=r.un;omega
def Qa:TA:=λ_ H Q=>Q [] H
def HW(ta:TE)(tr:TA):TA:=λσ H Q=>ta σ H λx H1=>tr σ H1 λxs H2=>Q (x::xs) H2
section
variable{X:Cx}{e:Expr}{es:List Expr}{te:TE}{t:TA}{pos:Pos}
theorem Pa:PA X [] Qa:=λ_ _ _ _ H Q I h=>Calls.spliced_nil ⟨[],H,I,.nil,h⟩
theorem wA(ha:PE X e te)(hr:PA X es t)(hs:starEach (e::es) X.env=(false,eval e X.env)::starEach es X.env:=by rfl):PA X (e::es) (HW te t):=by
 intro pos pins s σ H Q I h;rw[hs];show wpAny _ _ (spliced ((false,eval e X.env)::backTo pos (starEach es X.env))) _ _ s;refine Calls.spliced_cons (thn (ha pins s σ H _ I h) λu s1 ⟨x,H1,I1,r1,q1⟩=>?_);exact thn (hr pos pins s1 σ H1 _ I1 q1) λus s2 ⟨xs,H2,I2,r2,q2⟩=>⟨x::xs,H2,I2,.cons r1 r2,q2⟩
def RX(t:TA):TE:=λσ H Q=>t σ H λxs H1=>xs.length<=sizeLine/\∀p,H1 p=none->Q (.ref p) (upd H1 p (.tup xs))
def R4(t:TA):TE:=λσ H Q=>t σ H λxs H1=>xs.length<=sizeLine/\∀p,H1 p=none->Q (.ref p) (upd H1 p (.lst xs))
theorem FP{x1}(h:PA X es t):PE X (.Tuple es x1 pos) (RX t):=by
 intro pins s σ H Q I hq;refine wpAny_Tuple_spliced (thn (h pos pins s σ H _ I hq) λus s1 ⟨xs,H1,I1,r,z,q⟩=>⟨by rw[←r.length];exact z,?_⟩);have hf:H1 s1.heap.objs.size=none:=I1.hok.fresh (Nat.le_refl _);refine⟨.ref s1.heap.objs.size,upd H1 s1.heap.objs.size (.tup xs),I1.laid (t':=s1.toks) (λb u e=>Heap.get?_push_of_some _ e) (Nat.le_refl _) ?_,rfl,q _ hf⟩;exact⟨z,us,r,⟨_,Heap.get?_push_size _ rfl,rfl,_,rfl,rfl⟩⟩
theorem Fx(h:PA X es t):PE X (.List es pos) (R4 t):=by
 intro pins s σ H Q I hq;refine wpAny_List_spliced (thn (h pos pins s σ H _ I hq) λus s1 ⟨xs,H1,I1,r,z,q⟩=>⟨by rw[←r.length];exact z,?_⟩);have hf:H1 s1.heap.objs.size=none:=I1.hok.fresh (Nat.le_refl _);refine⟨.ref s1.heap.objs.size,upd H1 s1.heap.objs.size (.lst xs),I1.laid (t':=s1.toks) (λb u e=>Heap.get?_push_of_some _ e) (Nat.le_refl _) ?_,rfl,q _ hf⟩;exact⟨z,us,0,r,Heap.get?_push_size _ rfl⟩
end
abbrev Sp:=List V->Hp->VK->XK->Prop
abbrev CXT:=List Env->Hp->Shared->XK->Value->Shared->Prop
structure Kh(P:Program)(w:World)(K:PySem.W.Frag)(mg:Str->Option Value)(base:Heap)(A:Around)(outer:List Env)(s:Shared)(H:Hp):Prop where
 frames:A.frames=some outer
 mod:Mod K mg base
 bs:∀b o,base.get? b=some o->s.heap.get? b=some o/\H b=none
 bsz:base.objs.size<=s.heap.objs.size
 funs:s.heap.FunFrames base outer
 frf:∀b∈frs outer,H b=none
 hok:HOk P w H s.heap
 bare:AllBare s.gens
def CE(outer:List Env)(P:Program)(w:World)(H:Hp)(s:Shared)(Q:VK)(u:Value)(s':Shared):Prop:=
 ∃v H',s'.os=s.os/\AllBare s'.gens/\Un (frs outer) [] H H' s.heap s'.heap/\HOk P w H' s'.heap/\RelV v u/\Q v H'
def CR(CX:CXT)(outer:List Env)(P:Program)(w:World)(H:Hp)(s:Shared)(Q:VK)(E:XK)(r:Result)(s':Shared):Prop:=
 match r with
 |.ok (.ret u)=>CE outer P w H s Q u s'
 |.ok _=>False
 |.error e=>CX outer H s E e s'
structure e_(P:Program)(w:World)(K:PySem.W.Frag)(mg:Str->Option Value)(base:Heap)(CX:CXT)(k:Nat)(f:Addr)(fd:FuncData)(ps:List Str)(sp:Sp):Prop where
 len:∀vs H Q E,sp vs H Q E->vs.length=ps.length
 run:∀(A:Around)(outer:List Env)(s:Shared)(H:Hp)(args:Args)(us:List Value)(vs:List V)(Q:VK)(E:XK),jd k A->Kh P w K mg base A outer s H->BindsTo s fd args (ps.zip us)->Vals vs us->sp vs H Q E->
  codeAny (model P w) A (.call (.ref f) args) (CR CX outer P w H s Q E) s
theorem e_.imp{P:Program}{w:World}{K:PySem.W.Frag}{mg:Str->Option Value}{base:Heap}{CX:CXT}{k:Nat}{f:Addr}{fd:FuncData}{ps:List Str}{sp sp':Sp}(F:e_ P w K mg base CX k f fd ps sp)
  (h:∀vs H Q E,sp' vs H Q E->sp vs H Q E):e_ P w K mg base CX k f fd ps sp':=
 ⟨λvs H Q E q=>F.len vs H Q E (h _ _ _ _ q),λA outer s H args us vs Q E hr he hb hv hs=>F.run A outer s H args us vs Q E hr he hb hv (h _ _ _ _ hs)⟩
section
variable{X:Cx}{pins:List (Addr×Obj)}{σ:St}{H:Hp}{s s':Shared}
theorem Inv.env0(I:Inv X pins σ H s):Kh X.prog X.w X.K X.mg X.base X.A X.stack s H:=
 ⟨I.ok.frames,I.ok.mod,I.bs,Nat.le_trans I.ok.bsz I.sz,I.stack,I.stkFree,I.hok,I.bare⟩
theorem Inv.after{Q:VK}{u:Value}(I:Inv X pins σ H s)(h:CE X.stack X.prog X.w H s Q u s'):EP X pins σ Q u s':=by
 obtain⟨v,H',os,bare,un,hok,r,q⟩:=h;obtain⟨hh,g,d,t,os'⟩:=s';obtain rfl:os'=s.os:=os;exact⟨v,H',I.call (h':=hh) (g':=g) (d':=d) (t':=t) (ch:=[]) un hok bare (λb z=>absurd z (by simp)),r,q⟩
end
def Mf(sp:Sp)(dvs:List V)(E:XK)(t:TA):TE:=λσ H Q=>t σ H λvs H1=>sp (vs++dvs) H1 Q E
def Binds(K:PySem.W.Frag)(fd:FuncData)(ps:List Str)(ds:List Value):Prop:=
 ∀(s:Shared)(us:List Value),K.In s.heap->(us++ds).length=ps.length->BindsTo s fd ⟨us,[]⟩ (ps.zip (us++ds))
theorem Binds.all{K:PySem.W.Frag}{fd:FuncData}{ps:List Str}(h:∀us:List Value,us.length=ps.length->bindArgs fd ⟨us,[]⟩=pure (ps.zip us)):Binds K fd ps []:=λs us _ hl=>by
 rw[List.append_nil]at hl⊢;exact .of_eq (h us hl)
def Ay(CX:CXT)(X:Cx)(E:XK):Prop:=∀(pins:List (Addr×Obj))(σ:St)(H:Hp)(s:Shared)(e:Value)(s':Shared),Inv X pins σ H s->CX X.stack H s E e s'->X.xe e s'
section
variable{X:Cx}{CX:CXT}{k:Nat}{f C:Addr}{fd:FuncData}{ps:List Str}{sp:Sp}{dvs:List V}{ds:List Value}{E:XK}{x m:Str}{p pos apos:Pos}{e o:Expr}{es:List Expr}{ta:TE}{t:TA}
theorem MT{pins:List (Addr×Obj)}{σ:St}{H:Hp}{s:Shared}{Q:VK}{us:List Value}{vs:List V}(F:e_ X.prog X.w X.K X.mg X.base CX k f fd ps sp)(hr:jd k X.A)(hb:Binds X.K fd ps ds)(hd:Vals dvs ds)(hx:Ay CX X E)
  (I:Inv X pins σ H s) (r:Vals vs us) (h:sp (vs++dvs) H Q E):wpAny (model X.prog X.w) X.A (call (.ref f) us) (EP X pins σ Q) X.xe s:=by
 have r2:Vals (vs++dvs) (us++ds):=r.append hd;have hl:(us++ds).length=ps.length:=by rw[←r2.length];exact F.len _ _ _ _ h
 refine wpAny_call (codeAny_mono (F.run X.A X.stack s H ⟨us,[]⟩ (us++ds) (vs++dvs) Q E hr I.env0 (hb s us I.kIn hl) r2 h) λr s' hq=>?_);cases r with
 |error e=>exact hx pins σ H s e s' I hq
 |ok fl=>
  cases fl with
  |ret u=>exact I.after hq
  |next=>exact False.elim hq
  |brk=>exact False.elim hq
  |cont=>exact False.elim hq
theorem J4(F:e_ X.prog X.w X.K X.mg X.base CX k f fd ps sp)(hr:jd k X.A)(hg:Gl X x)(hm:X.mg x=some (.ref f))(hk:PySem.W.keepIn X.K (.ref f)=true)(hb:Binds X.K fd ps ds)(hd:Vals dvs ds)(hx:Ay CX X E)
  (ha:PA X (e::es) t) (hdb:(x==("__debug__":Str))=false:=by decide) (he:starEach (e::es) X.env=(false,eval e X.env)::starEach es X.env:=by rfl) (hpl:(backTo pos (starEach es X.env)).any (·.1)=false:=by rfl) :
  PE X (.Call (.Name x p) (e::es) [] pos) (Mf sp dvs E t):=by
 intro pins s σ H Q I h;refine wpAny_Call_Name_kw (J6 I hg hm ?_ hdb);refine PySem.W.callWith_K (h₀:=X.base) I.ok.mod.kin hk (thn (ha pos pins s σ H _ I h) λus s1 ⟨vs,H1,I1,r,q⟩=>⟨I1.kIn,?_⟩) he hpl;exact MT F hr hb hd hx I1 r q
end
structure bF(N P:List Str)(sc:Scope):Prop where
 kind:sc.kind= .function
 co:sc.isCoroutine=false
 gen:sc.isGenerator=false
 nd:N.Nodup
 pre:N.take P.length=P
 par:∀x∈P,sc.names.lookup x=some .local∨sc.names.lookup x=some .cell
 nofree:∀y∈sc.names,y.2≠.free
theorem vz{kindOf:Str->Option NameKind}{x:Str}:∀{binds:List (Str×Value)}{m:Str->Option Value},(∀v,(x,v)∉binds)->bindL kindOf binds m x=m x
 |[],_,_=>rfl
 |(n,v)::r,m,h=>by
  unfold bindL;rw[vz λw hw=>h w (List.mem_cons_of_mem _ hw)];split
  .have:x≠n:=by rintro rfl;exact h v List.mem_cons_self
   simp[this]
  .rfl
theorem vg{kindOf:Str->Option NameKind}{x:Str}:∀{binds:List (Str×Value)}{m:Str->Option Value},(∀v,(x,v)∉binds)->bindC kindOf binds m x=m x
 |[],_,_=>rfl
 |(n,v)::r,m,h=>by
  unfold bindC;rw[vg λw hw=>h w (List.mem_cons_of_mem _ hw)];split
  .rfl
  .have:x≠n:=by rintro rfl;exact h v List.mem_cons_self
   simp[this]
theorem vG{kindOf:Str->Option NameKind}{x:Str}{v:Value}:∀{P:List Str}{vs:List Value}{i:Nat}{m:Str->Option Value},P.Nodup->P[i]? =some x->vs[i]? =some v->kindOf x=some .local->
  bindL kindOf (P.zip vs) m x=some v
 |[],_,_,_,_,h,_,_=>by simp at h
 |_::_,[],_,_,_,_,h,_=>by simp at h
 |p::P,w::vs,0,m,nd,h1,h2,hk=>by
  simp at h1 h2;subst h1;subst h2;show bindL kindOf ((p,w)::P.zip vs) m p=_;unfold bindL;rw[vz λv hv=>(List.nodup_cons.mp nd).1 (List.of_mem_zip hv).1,if_pos hk];simp
 |p::P,w::vs,i+1,m,nd,h1,h2,hk=>by
  show bindL kindOf ((p,w)::P.zip vs) m x=_;unfold bindL;exact vG (i:=i) (List.nodup_cons.mp nd).2 (by simpa using h1) (by simpa using h2) hk
theorem vB{kindOf:Str->Option NameKind}{x:Str}{v:Value}:∀{P:List Str}{vs:List Value}{i:Nat}{m:Str->Option Value},P.Nodup->P[i]? =some x->vs[i]? =some v->kindOf x≠some .local->
  bindC kindOf (P.zip vs) m x=some v
 |[],_,_,_,_,h,_,_=>by simp at h
 |_::_,[],_,_,_,_,h,_=>by simp at h
 |p::P,w::vs,0,m,nd,h1,h2,hk=>by
  simp at h1 h2;subst h1;subst h2;show bindC kindOf ((p,w)::P.zip vs) m p=_;unfold bindC;rw[vg λv hv=>(List.nodup_cons.mp nd).1 (List.of_mem_zip hv).1,if_neg hk];simp
 |p::P,w::vs,i+1,m,nd,h1,h2,hk=>by
  show bindC kindOf ((p,w)::P.zip vs) m x=_;unfold bindC;exact vB (i:=i) (List.nodup_cons.mp nd).2 (by simpa using h1) (by simpa using h2) hk
def start(N:List Str)(vs:List V):St:=vs.map some++List.replicate (N.length-vs.length) none
def xZ(CX:CXT)(P:Program)(w:World)(K:PySem.W.Frag)(mg:Str->Option Value)(base:Heap)(N:List Str)(qual:Str)(scope:Scope)(f:Addr)(cd:Value)(A:Around)(outer:List Env)(s:Shared)(H:Hp)(E:XK):Cx where
 prog:=P
 w:=w
 K:=K
 mg:=mg
 base:=base
 A:=A.deeper (envOfC qual scope s.heap.objs.size f cd)
 N:=N
 s₀:=s
 H₀:=H
 env:=envOfC qual scope s.heap.objs.size f cd
 outer:=outer
 stack:=envOfC qual scope s.heap.objs.size f cd::outer
 ex:=[]
 calm:=true
 fn:=λ_=>true
 pn:=[]
 xe:=λe s'=>wpAny (model P w) (A.deeper (envOfC qual scope s.heap.objs.size f cd)) (leaving (envOfC qual scope s.heap.objs.size f cd) e) (λ_ s''=>CX outer H s E e s'') (λe' s''=>CX outer H s E e' s'') s'
theorem x_{sc:Scope}{n:Nat}{x:Str}(h:sc.names.lookup x=some .cell):∃c,(cellsFrom n sc.names []).lookup x=some c:=by
 have q:=PySem.W.cellsFrom_some sc.names n [] (.inl h);exact Option.isSome_iff_exists.mp q
theorem Ds{CX:CXT}{P:Program}{w:World}{K:PySem.W.Frag}{mg:Str->Option Value}{base:Heap}{N ps:List Str}{qual:Str}{scope:Scope}{f:Addr}{cd:Value}{A:Around}{outer:List Env}{s s1:Shared}{H:Hp}{E:XK}{us:List Value}{vs:List V}
  (S:bF N ps scope) (hd:A.handled=none) (e0:Kh P w K mg base A outer s H) (hl:vs.length=ps.length) (r:Vals vs us)
  (x:InCallC s s.heap.objs.size (bindL (envOfC qual scope s.heap.objs.size f cd).kindOf (ps.zip us) λ_=>none) (cellsFrom (s.heap.objs.size+1) scope.names []) (bindC (envOfC qual scope s.heap.objs.size f cd).kindOf (ps.zip us) λ_=>none) s1) :
  Inv (xZ CX P w K mg base N qual scope f cd A outer s H E) [] (start N vs) H s1:=by
 have hpl:ps.length<=N.length:=by have:=congrArg List.length S.pre;rw[List.length_take]at this;omega
 obtain⟨h1,tk,rfl,hk⟩:=x.done;have noA:∀b:Addr,b∉(xZ CX P w K mg base N qual scope f cd A outer s H E).ex:=λb z=>absurd (show b∈([]:List Addr)from z) (by simp);refine⟨⟨e0.mod,S.kind,rfl,rfl,Nat.le_refl _,λy z c h1 h2=>?_,λy hy=>?_,λy c _ h=>?_,λ_=>hd,Around.frames_deeper e0.frames,.inr ⟨rfl,rfl⟩,λb z=>absurd z (noA b),e0.bs,e0.bsz,λb _ _=>noA b,λb z=>absurd z (noA b),e0.funs,e0.frf⟩,
  rfl,e0.bare,Un.kept hk,⟨_,x.toInCall.ns,λi y v h1 h2 h3=>?_⟩,λy c h=>⟨_,x.cell y c h⟩,e0.hok.fresh (Nat.le_refl _),λy c h=>?_,λp hp=>absurd (show p∈([]:List (Addr×Obj))from hp) (by simp),e0.hok.kept hk,?_⟩
 .exact name_of_addr x.apart (PySem.mem_of_lookup h1) (PySem.mem_of_lookup h2)
 .have hy:scope.names.lookup y=some .cell∨scope.names.lookup y=some .free:=hy
  rcases hy with hy|hy
  .exact x_ hy
  .exact absurd rfl (S.nofree _ (PySem.mem_of_lookup hy))
 .exact Nat.le_of_lt (x.above y c (PySem.mem_of_lookup h))
 .have hi:i<vs.length:=by
   unfold start at h2;by_cases hi:i<vs.length
   .exact hi
   .rw[List.getElem?_append_right (by simpa using hi)]at h2
    rw[List.getElem?_replicate]at h2;split at h2<;>cases h2
  have ha:vs[i]? =some v:=by
   unfold start at h2;rw[List.getElem?_append_left (by simpa using hi),List.getElem?_map]at h2;cases e:vs[i]? with
   |none=>rw[e]at h2;cases h2
   |some a=>rw[e]at h2;cases h2;rfl
  obtain⟨u,hu,rv⟩:=r.get ha;have hp:ps[i]? =some y:=by
   rw[←S.pre,List.getElem?_take_of_lt (by omega)];exact h1
  have ndP:ps.Nodup:=by rw[←S.pre];exact S.nd.sublist (List.take_sublist _ _)
  refine⟨u,rv,?_⟩;rcases S.par y (List.mem_of_getElem? hp)with k|k
  .exact .inl ⟨k,vG ndP hp hu k⟩
  .obtain⟨c,e⟩:=x_ (n:=s.heap.objs.size+1) k
   refine .inr ⟨.inl k,c,e,?_⟩;have q:=x.cell y c e;rw[vB ndP hp hu (by show scope.names.lookup y≠_;rw[k];decide)]at q;exact q
 .exact e0.hok.fresh (Nat.le_of_lt (x.above y c (PySem.mem_of_lookup h)))
 .unfold start
  show _=N.length;rw[List.length_append,List.length_map,List.length_replicate];omega
theorem QG{CX:CXT}{P:Program}{w:World}{K:PySem.W.Frag}{mg:Str->Option Value}{base:Heap}{k:Nat}{f:Addr}{name qual:Str}{params:Arguments}{body:List Stmt}{scope:Scope}{dV kV doc pm cdv ct oc:Value}{an od:Option Addr}
  {osl:Array (Option Value)} {N ps:List Str} {sp:Sp} (lk:K.lookup f=some ⟨oc,od,.func (PySem.W.fnOf name qual params body scope dV kV doc pm an cdv ct),osl⟩) (hcd:PySem.W.codeIn K cdv qual=true) (S:bF N ps scope)
  (len:∀vs H Q E,sp vs H Q E->vs.length=ps.length)
  (hbody:∀(A:Around)(outer:List Env)(s:Shared)(H:Hp)(vs:List V)(Q:VK)(E:XK),jd k (A.deeper (envOfC qual scope s.heap.objs.size f cdv))->sp vs H Q E->
   ∃t,PSs (xZ CX P w K mg base N qual scope f cdv A outer s H E) body t/\t {nx:=λ_ H'=>Q .non H',rt:=Q} (start N vs) H) :
  e_ P w K mg base CX (k+1) f (PySem.W.fnOf name qual params body scope dV kV doc pm an cdv ct) ps sp:=by
 refine⟨len,λA outer s H args us vs Q E hr e0 hb r hsp=>?_⟩;have hl:=len _ _ _ _ hsp;have KX:K.In s.heap:=e0.mod.kin.keeps λb o e=>(e0.bs b o e).1;have lim:s.heap.NoLimit:=e0.mod.nolimit.keeps λb o e=>(e0.bs b o e).1;have hkind:∀y∈ps.zip us,scope.names.lookup y.1=some .local∨(scope.names.lookup y.1=some .cell/\((cellsFrom (s.heap.objs.size+1) scope.names []).lookup y.1).isSome=true):=λ⟨n,v⟩ hy=>by
  rcases S.par n (List.of_mem_zip hy).1 with q|q
  .exact .inl q
  .exact .inr ⟨q,PySem.W.cellsFrom_some _ _ _ (.inl q)⟩
 refine codeAny_call_function hr.depth (KX _ _ lk) rfl S.co S.gen rfl (PySem.W.codeRec_of KX hcd) (hb _ _ _ _ ?_);refine wpAny_newFunctionEnv_cells S.kind hkind λenv he s1 x=>?_;subst he;refine⟨lim.keeps x.toInCall.keep,codeAny_func ?_⟩;obtain⟨t,ht,hq⟩:=hbody A outer s H vs Q E (hr.deeper _) hsp;have I:Inv (xZ CX P w K mg base N qual scope f cdv A outer s H E) [] (start N vs) H s1:=Ds S hr.hd e0 hl r x;refine wpAny_mono (ht [] s1 (start N vs) H _ I hq) (λfl s' hs=>?_) λe s' hs=>hs;have fin:∀{σ':St}{H':Hp}{v:V}{u:Value},Inv (xZ CX P w K mg base N qual scope f cdv A outer s H E) [] σ' H' s'->RelV v u->Q v H'->CE outer P w H s Q u s':=
  λ{σ' H' v u} J rv q=>⟨v,H',J.os,J.bare,J.base,J.hok,rv,q⟩
 cases fl with
 |ret u=>
  obtain⟨v,σ',H',J,rv,q⟩:=hs;exact fin J rv q
 |next=>
  obtain⟨σ',H',J,q⟩:=hs;exact fin (v:=V.non) (u:=Value.none) J rfl q
 |brk=>
  obtain⟨_,_,_,q⟩:=hs;exact False.elim q
 |cont=>
  obtain⟨_,_,_,q⟩:=hs;exact False.elim q
section
variable{X:Cx}{x:Str}{p pos:Pos}{e:Expr}{es:List Expr}{t:TA}{id T:String}{r:List V->Hp->VK->Prop}
def tCB(r:List V->Hp->VK->Prop)(t:TA):TE:=λσ H Q=>t σ H λvs H1=>r vs H1 Q
theorem zK(hc:cM X (.builtin id) r)(hg:Gl X x)(hm:X.mg x=none)(hv:bootBuiltins x=some (.builtin id))(ha:PA X (e::es) t)(hn:x≠"__name__":=by decide)(hdb:(x==("__debug__":Str))=false:=by decide)
  (he:starEach (e::es) X.env=(false,eval e X.env)::starEach es X.env:=by rfl) (hpl:(backTo pos (starEach es X.env)).any (·.1)=false:=by rfl):PE X (.Call (.Name x p) (e::es) [] pos) (tCB r t):=by
 intro pins s σ H Q I h;refine wpAny_Call_Name_kw (xr I hg hm hv ?_ hn hdb);exact PyProof.Rows.callWith_builtin1 (thn (ha pos pins s σ H _ I h) λus s1 ⟨vs,H1,I1,r1,q1⟩=>hc pins s1 σ H1 vs us Q I1 r1 q1) he hpl
theorem vK(hc:cM X (.type T) r)(hg:Gl X x)(hm:X.mg x=none)(hv:bootBuiltins x=some (.type T))(ha:PA X (e::es) t)(hn:x≠"__name__":=by decide)(hdb:(x==("__debug__":Str))=false:=by decide)
  (he:starEach (e::es) X.env=(false,eval e X.env)::starEach es X.env:=by rfl) (hpl:(backTo pos (starEach es X.env)).any (·.1)=false:=by rfl):PE X (.Call (.Name x p) (e::es) [] pos) (tCB r t):=by
 intro pins s σ H Q I h;refine wpAny_Call_Name_kw (xr I hg hm hv ?_ hn hdb);exact PyProof.Rows.callWith_type1 (thn (ha pos pins s σ H _ I h) λus s1 ⟨vs,H1,I1,r1,q1⟩=>hc pins s1 σ H1 vs us Q I1 r1 q1) he hpl
end
end L2
namespace HT
open PySem PyProof.Rows
section
variable{prog:Program}{w:World}{A:Around}{E:Value->Shared->Prop}{s:Shared}
theorem cat_tup{t b:Addr}{vs ws:List Value}{Q:Value->Shared->Prop}(ht:IsTup s.heap t vs.toArray)(hb:IsTup s.heap b ws.toArray)(hv:vs≠[])
  (h1:ws=[]->Q (.ref t) s) (h2:ws≠[]->Q (.ref s.heap.objs.size) {s with heap:=s.heap.push {cls:=.type "tuple",data:=.seq (vs++ws).toArray}})
  (hsz:vs.length+ws.length<=sizeLine):wpAny (model prog w) A (binaryOp .Add (.ref t) (.ref b)) Q E s:=by
 obtain⟨⟨cls,dd,data,sl⟩,ho,hc,n,hd⟩:=id ht;obtain⟨⟨cls2,dd2,data2,sl2⟩,ho2,hc2,n2,hd2⟩:=id hb;simp only at hc hd hc2 hd2;subst hc hd hc2 hd2;have e:vs.toArray++ws.toArray=(vs++ws).toArray:=by simp
 by_cases hw:ws=[]
 .exact concat_meets ⟨_,ho,rfl⟩ ⟨_,ho2,rfl⟩ noFill_tuple_add seq_tuple_add PySem.F.slot_tuple_add PySem.F.entry_tuple_add (PySem.F.args_tuple_add_2 _ _)
   (tuple_addW1 t b vs.toArray ws.toArray n n2 dd dd2 sl sl2 (by simpa using hv) (by simp[hw])) ⟨ho,ho2,h1 hw⟩
 .refine concat_meets ⟨_,ho,rfl⟩ ⟨_,ho2,rfl⟩ noFill_tuple_add seq_tuple_add PySem.F.slot_tuple_add PySem.F.entry_tuple_add (PySem.F.args_tuple_add_2 _ _)
   (tuple_addW2 t b vs.toArray ws.toArray n n2 dd dd2 sl sl2 (by simpa using hv) (by simpa using hw) (by rw[List.size_toArray,List.size_toArray];exact hsz)) ⟨ho,ho2,?_⟩
  rw[e];exact h2 hw
def sIx(n d:Nat):Option Int->Nat
 |none=>d
 |some v=>if v<0 then(v+(n:Int)).toNat else min v.toNat n
theorem PP(n d:Nat)(hd:d<=n)(o:Option Int):sIx n d o<=n:=by
 cases o with
 |none=>exact hd
 |some v=>
  show(if v<0 then(v+(n:Int)).toNat else min v.toNat n)<=n;by_cases hv:v<0
  .rw[if_pos hv];omega
  .rw[if_neg hv];exact Nat.min_le_right _ _
theorem Cy(v:Int)(n d:Nat):(if v<0 then max (v+(n:Int)) 0 else min v (n:Int))=((sIx n d (some v):Nat):Int):=by
 show(if v<0 then max (v+(n:Int)) 0 else min v (n:Int))=(((if v<0 then(v+(n:Int)).toNat else min v.toNat n):Nat):Int);by_cases hv:v<0
 .simp only[if_pos hv];omega
 .simp only[if_neg hv];omega
theorem adjust_gen(lo hi:Option Int)(n:Nat):Builtin.Slice.sliceAdjust lo hi 1 (n:Int)=(((sIx n 0 lo:Nat):Int),((sIx n n hi:Nat):Int)):=by
 have h1:¬((1:Int)<0):=by omega
 unfold Builtin.Slice.sliceAdjust;simp only[h1,if_false];refine Prod.ext ?_ ?_
 .cases lo with
  |none=>rfl
  |some v=>exact Cy v n 0
 .cases hi with
  |none=>rfl
  |some v=>exact Cy v n n
theorem places_gen(i j:Nat):Builtin.Slice.slicePlaces (i:Int) (j:Int) 1=j-i:=by
 unfold Builtin.Slice.slicePlaces;have h1:(1:Int)>0:=by omega
 simp only[h1,if_true,Int.ediv_one];split<;>omega
theorem slicePart_{v:Value}{o:Option Int}{Q:Option Int->Shared->Prop}(p:IsPart v o)(h:Q o s):wpAny (model prog w) A (Builtin.Slice.slicePartIndex v) Q E s:=by
 cases p with
 |none=>exact slicePart_none h
 |int i t=>exact slicePart_int h
theorem qz{sl:Addr}{vl vu:Value}{lo hi:Option Int}{n:Nat}{Q:Int×Int×Nat->Shared->Prop}(hs:s.heap.IsSliceOf sl vl vu .none)(pl:IsPart vl lo)(pu:IsPart vu hi)
  (h:Q (((sIx n 0 lo:Nat):Int),1,sIx n n hi-sIx n 0 lo) s):wpAny (model prog w) A (Builtin.Slice.sliceApplied (.ref sl) (pure (n:Int))) Q E s:=by
 obtain⟨os,hos,hcs,hds⟩:=id hs;unfold Builtin.Slice.sliceApplied Builtin.Slice.sliceFields;refine wpAny_bind (wpAny_bind (wpAny_field hos hds (x:=vl) rfl (wpAny_bind (wpAny_field hos hds (x:=vu) rfl (wpAny_bind (wpAny_field hos hds (x:=.none) rfl (wpAny_pure ?_)))))));refine wpAny_bind (slicePart_none ?_);show wpAny _ _ (if((1:Int)==0)=true then _ else _) _ _ s;rw[if_neg (by decide)];refine wpAny_bind (slicePart_ pl (wpAny_bind (slicePart_ pu (wpAny_bind (wpAny_pure ?_)))));show wpAny _ _ (match Builtin.Slice.sliceAdjust lo hi 1 (n:Int)with|(lo,hi)=>pure (lo,(1:Int),Builtin.Slice.slicePlaces lo hi 1)) _ _ s;rw[adjust_gen lo hi n];show wpAny _ _ (pure (((sIx n 0 lo:Nat):Int),(1:Int),Builtin.Slice.slicePlaces ((sIx n 0 lo:Nat):Int) ((sIx n n hi:Nat):Int) 1)) _ _ s;rw[places_gen];exact wpAny_pure h
theorem Gw(xs:Array Value)(i k:Nat):((List.range k).filterMap λ(m:Nat)=>xs[((i:Int)+(m:Int)*1).toNat]?).toArray=((xs.toList.drop i).take k).toArray:=by
 have e:(λ(m:Nat)=>xs[((i:Int)+(m:Int)*1).toNat]?)=λm=>xs[i+m]?:=by
  funext m;have:((i:Int)+(m:Int)*1).toNat=i+m:=by omega
  rw[this]
 rw[e];have:=pick_run xs i k;rw[List.filterMap_map]at this;have e2:((λx=>xs[x]?)∘λx=>i+x)=λm=>xs[i+m]?:=rfl;rw[e2]at this;rw[this]
theorem getItem_tuple_cut{t sl:Addr}{items:Array Value}{vl vu:Value}{lo hi:Option Int}{Q:Value->Shared->Prop}(ht:IsTup s.heap t items)(hs:s.heap.IsSliceOf sl vl vu .none)(pl:IsPart vl lo)(pu:IsPart vu hi)
  (hw:¬(sIx items.size 0 lo=0/\sIx items.size items.size hi=items.size))
  (h:Q (.ref s.heap.objs.size) {s with heap:=s.heap.push {cls:=.type "tuple",data:=.seq ((items.toList.drop (sIx items.size 0 lo)).take (sIx items.size items.size hi-sIx items.size 0 lo)).toArray}})
  (hsz:items.size<=sizeLine):wpAny (model prog w) A (getItem (.ref t) (.ref sl)) Q E s:=by
 have htake:sizeOk (.seq ((items.toList.drop (sIx items.size 0 lo)).take (sIx items.size items.size hi-sIx items.size 0 lo)).toArray):=by
  show((items.toList.drop (sIx items.size 0 lo)).take (sIx items.size items.size hi-sIx items.size 0 lo)).toArray.size<=sizeLine;rw[List.size_toArray,List.length_take,List.length_drop,Array.length_toList];omega
 have hj:sIx items.size items.size hi<=items.size:=PP _ _ (Nat.le_refl _) hi;obtain⟨os,hos,hcs,hds⟩:=id hs;have hTs:s.TypeIs (.ref sl) "slice":=⟨os,hos,hcs⟩;unfold getItem
 try with_reducible refine wpAny_holding ?_
 first|refine wpAny_bind (wpAny_pure ?_)|skip
 refine wpAny_bind (wpAny_sequenceKey ht.typeIs (by decide) ?_);refine wpAny_bind (wpAny_callSpecial?_slot (name:=Str.ofString "__getitem__") ht.typeIs PyProof.Rows.slot_tuple_getitem
  (wpAny_call_entry PyProof.Rows.slot_tuple_getitem ht.typeIs entry_tuple_getitem ?_ (args_tuple_getitem _ _)))
 show wpAny _ _ (Builtin.Tuple.tupleItemsOf (.ref t) >>=_) _ _ s;refine wpAny_bind (tupleItemsOf_ ht ?_);refine wpAny_bind (wpAny_typeOf hTs ?_);rw[if_pos (by decide)];refine wpAny_bind (qz hs pl pu ?_);have hno:¬((((sIx items.size 0 lo:Nat):Int)==0&&(1:Int)==1&&(sIx items.size items.size hi-sIx items.size 0 lo)==items.size)=true):=by
  intro q;rw[Bool.and_eq_true,Bool.and_eq_true]at q;have q1:((sIx items.size 0 lo:Nat):Int)=0:=eq_of_beq q.1.1;have q2:sIx items.size items.size hi-sIx items.size 0 lo=items.size:=eq_of_beq q.2;exact hw ⟨by omega,by omega⟩
 show wpAny _ _ (if(((sIx items.size 0 lo:Nat):Int)==0&&(1:Int)==1&&(sIx items.size items.size hi-sIx items.size 0 lo)==items.size)=true then _ else _) _ _ s;rw[if_neg hno,Gw]
 first
  |exact wpAny_bind (m:=Builtin.Tuple.tupleExact _) (wpAny_newObj_type (wpAny_pure ⟨_,rfl,wpAny_pure h⟩) htake)
  |exact wpAny_bind (m:=Builtin.Tuple.tupleExact _) (wpAny_newObj_type (wpAny_bind (wpAny_pure (wpAny_pure ⟨_,rfl,wpAny_pure h⟩))) htake)
  |exact wpAny_bind (wpAny_bind (m:=Builtin.Tuple.tupleExact _) (wpAny_newObj_type (wpAny_pure (wpAny_pure ⟨_,rfl,wpAny_pure h⟩)) htake))
  |exact wpAny_bind (wpAny_bind (m:=Builtin.Tuple.tupleExact _) (wpAny_newObj_type (wpAny_pure ⟨_,rfl,wpAny_pure h⟩) htake))
end
end HT
namespace L2
open PySem PySem.Spec PyProof.Rows
abbrev TO:=St->Hp->(Option Int->Hp->Prop)->Prop
def PO(X:Cx)(e:Option Expr)(t:TO):Prop:=
 ∀(pins:List (Addr×Obj))(s:Shared)(σ:St)(H:Hp)(Q:Option Int->Hp->Prop),Inv X pins σ H s->t σ H Q->
  wpAny (model X.prog X.w) X.A (evalPart e X.env) (λu s'=>∃o H',Inv X pins σ H' s'/\IsPart u o/\Q o H') X.xe s
def JR:TO:=λ_ H Q=>Q none H
def QW(t:TE):TO:=λσ H Q=>t σ H λx H1=>∃i,x= .int i/\Q (some i) H1
section
variable{X:Cx}{e:Expr}{te:TE}{lo hi:Option Expr}{tl th:TO}{pos p2:Pos}
theorem Kf:PO X none JR:=by
 intro pins s σ H Q I h;rw[evalPart_none];exact wpAny_pure ⟨none,H,I,.none,h⟩
theorem JM(h:PE X e te):PO X (some e) (QW te):=by
 intro pins s σ H Q I hw;rw[evalPart_some];refine thn (h pins s σ H _ I hw) λu s1 ⟨x,H1,I1,r1,q1⟩=>?_;obtain⟨i,rfl,q⟩:=q1;obtain⟨t,rfl⟩:=r1;exact⟨some i,H1,I1,.int i t,q⟩
def SlR(X:Cx)(r:V->Option Int->Option Int->Hp->VK->Prop):Prop:=
 ∀(pins:List (Addr×Obj))(s:Shared)(σ:St)(H:Hp)(x:V)(v vl vu:Value)(lo hi:Option Int)(sl:Addr)(Q:VK),Inv X pins σ H s->RelV x v->s.heap.IsSliceOf sl vl vu .none->IsPart vl lo->IsPart vu hi->r x lo hi H Q->
  ∃T id,typeLookup (.type T) "__getitem__"=pure (some (.builtin id))/\s.TypeIs v T/\wpAny (model X.prog X.w) X.A (getItem v (.ref sl)) (EP X pins σ Q) X.xe s
theorem SlR.or{r r':V->Option Int->Option Int->Hp->VK->Prop}(h:SlR X r)(h':SlR X r'):SlR X (λx lo hi H Q=>r x lo hi H Q∨r' x lo hi H Q):=by
 intro pins s σ H x v vl vu lo hi sl Q I rx hs pl pu q;rcases q with q|q
 .exact h pins s σ H x v vl vu lo hi sl Q I rx hs pl pu q
 .exact h' pins s σ H x v vl vu lo hi sl Q I rx hs pl pu q
def tSl(r:V->Option Int->Option Int->Hp->VK->Prop)(te:TE)(tl th:TO):TE:=λσ H Q=>te σ H λx H1=>tl σ H1 λl H2=>th σ H2 λu H3=>r x l u H3 Q
theorem zc{r:V->Option Int->Option Int->Hp->VK->Prop}(hr:SlR X r)(he:PE X e te)(hl:PO X lo tl)(hu:PO X hi th):PE X (.Subscript e (.Slice lo hi none p2) pos) (tSl r te tl th):=by
 intro pins s σ H Q I h;refine Subscript_ (thn (he pins s σ H _ I h) λv s1 ⟨x,H1,I1,r1,q1⟩=>?_);refine wpAny_Slice (thn (hl pins s1 σ H1 _ I1 q1) λvl s2 ⟨l,H2,I2,pl,q2⟩=>thn (hu pins s2 σ H2 _ I2 q2) λvu s3 ⟨u,H3,I3,pu,q3⟩=>?_);rw[evalPart_none];refine wpAny_pure ?_;have I4:Inv X pins σ H3 {s3 with heap:=s3.heap.push {cls:=.type "slice",data:=.fields #[vl,vu,.none]}}:=I3.kept (t':=s3.toks) λb ob q=>Heap.get?_push_of_some _ q;obtain⟨T,id,hT,ht,hg⟩:=hr pins {s3 with heap:=s3.heap.push {cls:=.type "slice",data:=.fields #[vl,vu,.none]}} σ H3 x v vl vu l u s3.heap.objs.size Q I4 r1 (Heap.IsSliceOf.new ..) pl pu q3;show wpAny (model X.prog X.w) X.A (subscriptTail e (.Slice lo hi none p2) v (.ref s3.heap.objs.size)) (EP X pins σ Q) X.xe {s3 with heap:=s3.heap.push {cls:=.type "slice",data:=.fields #[vl,vu,.none]}};exact tail_any (ops:=[.ref s3.heap.objs.size,v]) ht hT hg (by with_unfolding_all rfl)
def uF(xs:List V)(lo hi:Option Int):List V:=(xs.drop (HT.sIx xs.length 0 lo)).take (HT.sIx xs.length xs.length hi-HT.sIx xs.length 0 lo)
theorem qO(xs:List V)(lo hi:Option Int):(uF xs lo hi).length<=xs.length:=by
 unfold uF;rw[List.length_take,List.length_drop];omega
def R9(K:PySem.W.Frag):V->Option Int->Option Int->Hp->VK->Prop:=λx lo hi H Q=>∃a xs,x= .ref a/\SqT K H a xs/\
 ¬(HT.sIx xs.length 0 lo=0/\HT.sIx xs.length xs.length hi=xs.length)/\∀p,H p=none->Q (.ref p) (upd H p (.tup (uF xs lo hi)))
theorem NB:SlR X (R9 X.K):=by
 intro pins s σ H x v vl vu lo hi sl Q I rx hs pl pu h;obtain⟨a,xs,rfl,hx,hw,q⟩:=h;cases rx;obtain⟨its,r,ht,hz⟩:=I.tuple hx;have hlen:its.toArray.size=xs.length:=by rw[List.size_toArray];exact r.length.symm
 refine⟨"tuple",_,PyProof.Rows.slot_tuple_getitem.lookup,ht.typeIs,?_⟩;refine HT.getItem_tuple_cut ht hs pl pu (by rw[hlen];exact hw) ?_ (by rw[hlen];exact hz);rw[hlen];refine⟨.ref s.heap.objs.size,_,I.laid (t':=s.toks) (o:=.tup (uF xs lo hi)) (λb ob q=>Heap.get?_push_of_some _ q) (Nat.le_refl _) ?_,rfl,q _ (I.hok.fresh (Nat.le_refl _))⟩;exact⟨Nat.le_trans (qO xs lo hi) hz,_,(r.drop (HT.sIx xs.length 0 lo)).take (HT.sIx xs.length xs.length hi-HT.sIx xs.length 0 lo),lJ.new _ _⟩
def Ry(K:PySem.W.Frag):R2:=λx y H Q=>∃a b xs ys,x= .ref a/\y= .ref b/\SqT K H a xs/\SqT K H b ys/\xs≠[]/\xs.length+ys.length<=sizeLine/\
 (ys=[]->Q (.ref a) H)/\(ys≠[]->∀p,H p=none->Q (.ref p) (upd H p (.tup (xs++ys))))
theorem Vals.nil_iff{xs:List V}{us:List Value}(r:Vals xs us):us=[]↔xs=[]:=by
 cases r with
 |nil=>simp
 |cons _ _=>simp
theorem Jp:OpR X (binaryOp .Add) (Ry X.K):=by
 intro pins s σ H x y v u Q I rx ry h;obtain⟨a,b,xs,ys,rfl,rfl,ha,hb,hx,hz,q1,q2⟩:=h;cases rx;cases ry;obtain⟨its,r1,p1,_⟩:=I.tuple ha;obtain⟨its2,r2,p2,_⟩:=I.tuple hb;refine HT.cat_tup p1 p2 (λz=>hx (r1.nil_iff.mp z)) (λz=>⟨.ref a,H,I,rfl,q1 (r2.nil_iff.mp z)⟩) (λz=>?_) (by rw[←r1.length,←r2.length];exact hz);refine⟨.ref s.heap.objs.size,_,I.laid (t':=s.toks) (o:=.tup (xs++ys)) (λb ob q=>Heap.get?_push_of_some _ q) (Nat.le_refl _) ?_,rfl,q2 (λw=>z (r2.nil_iff.mpr w)) _ (I.hok.fresh (Nat.le_refl _))⟩;exact⟨by rw[List.length_append];exact hz,_,r1.append r2,lJ.new _ _⟩
end
def ixN(n:Nat)(i:Int):Option Nat:=if 0<=i then(if i<n then some i.toNat else none)else if -(n:Int)<=i then some (i+n).toNat else none
def atI{α:Type}(xs:List α)(i:Int):Option α:=(ixN xs.length i).bind λj=>xs[j]?
theorem By{n:Nat}{i:Int}{j:Nat}(h:ixN n i=some j):seqIndex? i n=some j/\j<n/\-(n:Int)<=i/\i<n:=by
 unfold ixN at h;by_cases h0:0<=i
 .rw[if_pos h0]at h
  by_cases h1:i<n
  .rw[if_pos h1]at h
   have e:i.toNat=j:=Option.some.inj h;exact⟨by rw[seqIndex_of h0 h1,e],by omega,by omega,h1⟩
  .rw[if_neg h1]at h;cases h
 .rw[if_neg h0]at h
  by_cases h1: -(n:Int)<=i
  .rw[if_pos h1]at h
   have e:(i+n).toNat=j:=Option.some.inj h;exact⟨by rw[seqIndex_neg (by omega) h1,e],by omega,h1,by omega⟩
  .rw[if_neg h1]at h;cases h
theorem oZ{α:Type}{xs:List α}{i:Int}{v:α}(h:atI xs i=some v):∃j,seqIndex? i xs.length=some j/\xs[j]? =some v/\j<xs.length/\-(xs.length:Int)<=i/\i<xs.length:=by
 unfold atI at h;cases e:ixN xs.length i with
 |none=>rw[e]at h;cases h
 |some j=>
  rw[e]at h;obtain⟨h1,h2,h3,h4⟩:=By e;exact⟨j,h1,h,h2,h3,h4⟩
def wF(b:Expr):Prop:=∀o i,subscripted b false o i=operate [o,i] (getItem o i)
def IxR(X:Cx)(r:R2):Prop:=
 ∀(value slice:Expr)(pins:List (Addr×Obj))(s:Shared)(σ:St)(H:Hp)(x y:V)(v u:Value)(Q:VK),Inv X pins σ H s->RelV x v->RelV y u->r x y H Q->
  subscripted slice false v u=operate [v,u] (getItem v u)->wpAny (model X.prog X.w) X.A (subscriptTail value slice v u) (EP X pins σ Q) X.xe s
def MtR(X:Cx)(id:String)(r:V->List V->Hp->VK->Prop):Prop:=
 ∀(pins:List (Addr×Obj))(s:Shared)(σ:St)(H:Hp)(x:V)(xs:List V)(v:Value)(us:List Value)(Q:VK),Inv X pins σ H s->RelV x v->Vals xs us->r x xs H Q->
  wpAny (model X.prog X.w) X.A (call (.builtin id) (v::us)) (EP X pins σ Q) X.xe s
section
variable{X:Cx}{a b:Expr}{ta tb:TE}{pos:Pos}
theorem IxR.or{r r':R2}(h:IxR X r)(h':IxR X r'):IxR X (λx y H Q=>r x y H Q∨r' x y H Q):=by
 intro value slice pins s σ H x y v u Q I rx ry q hs;rcases q with q|q
 .exact h value slice pins s σ H x y v u Q I rx ry q hs
 .exact h' value slice pins s σ H x y v u Q I rx ry q hs
theorem L_{r:R2}(hr:IxR X r)(ha:PE X a ta)(hb:PE X b tb)(hs:wF b):PE X (.Subscript a b pos) (tOp r ta tb):=by
 intro pins s σ H Q I h;exact Subscript_ (NT ha hb I h λv u s2 x y H2 I2 rx ry q=>hr a b pins s2 σ H2 x y v u Q I2 rx ry q (hs _ _))
def Q8(K:PySem.W.Frag):R2:=λx y H Q=>∃p xs i v,x= .ref p/\y= .int i/\SqL K H p xs/\atI xs i=some v/\Q v H
def Qe(K:PySem.W.Frag):R2:=λx y H Q=>∃p xs i v,x= .ref p/\y= .int i/\SqT K H p xs/\atI xs i=some v/\Q v H
def QJ:R2:=λx y H Q=>∃z i c,x= .str z/\y= .int i/\z.length<=sizeLine/\atI z.cps.toList i=some c/\Q (.str ⟨#[c]⟩) H
theorem K7:IxR X (Q8 X.K):=by
 intro value slice pins s σ H x y v u Q I rx ry h hs;obtain⟨p,xs,i,z,rfl,rfl,hq,he,q⟩:=h;cases rx;obtain⟨t,rfl⟩:=ry;obtain⟨its,r,pl,hz⟩:=I.list hq;obtain⟨j,h1,h2,h3,h4,h5⟩:=oZ he;obtain⟨w,ew,rw'⟩:=r.get h2;have hl:=r.length;have hn:=nG;have fin:EP X pins σ Q w s:=⟨z,H,I,rw',q⟩;by_cases h0:0<=i
 .have hj:i.toNat=j:=by
   rw[seqIndex_of h0 h5]at h1;exact Option.some.inj h1
  exact item_listR pl.isList h0 (by omega) (by rw[hj];simpa using ew) fin hs
 .have hj:(i+(its.toArray.size:Int)).toNat=j:=by
   rw[seqIndex_neg (by omega) h4]at h1;rw[List.size_toArray,←hl];exact Option.some.inj h1
  exact subscriptTail_builtinR (x:=w) pl.isList.typeIs slot_list_getitem.lookup
   (wpAny_getItem_list_neg (Q:=λr s'=>r=w/\EP X pins σ Q r s') pl.isList (by omega) (by rw[List.size_toArray]<;>omega) (by omega) (by rw[hj];simpa using ew) ⟨rfl,fin⟩) hs
theorem OJ:IxR X (Qe X.K):=by
 intro value slice pins s σ H x y v u Q I rx ry h hs;obtain⟨p,xs,i,z,rfl,rfl,hq,he,q⟩:=h;cases rx;obtain⟨t,rfl⟩:=ry;obtain⟨its,r,pl,hz⟩:=I.tuple hq;obtain⟨j,h1,h2,h3,h4,h5⟩:=oZ he;obtain⟨w,ew,rw'⟩:=r.get h2;have hl:=r.length;have hn:=nG;have fin:EP X pins σ Q w s:=⟨z,H,I,rw',q⟩;exact subscriptTail_builtinR (x:=w) pl.typeIs slot_tuple_getitem.lookup
  (getItem_tuple (j:=j) (Q:=λr s'=>r=w/\EP X pins σ Q r s') pl (by omega) (by omega) (by rw[List.size_toArray,←hl];exact h1) (by simpa using ew) ⟨rfl,fin⟩) hs
theorem Mt:IxR X QJ:=by
 intro value slice pins s σ H x y v u Q I rx ry h hs;obtain⟨z,i,c,rfl,rfl,hz,he,q⟩:=h;obtain⟨t,rfl⟩:=rx;obtain⟨t',rfl⟩:=ry;obtain⟨j,h1,h2,h3,h4,h5⟩:=oZ he;have hl:z.cps.toList.length=z.length:=by simp[Str.length]
 rw[hl]at h1 h4 h5;have hn:=nG;exact tail_any (typeIs_str s z t) slot_str_getitem.lookup (getItem_str (c:=c) (by
  have e1:decide (i< -(2 ^ 63:Int))=false:=decide_eq_false (by omega);have e2:decide (i>=2 ^ 63)=false:=decide_eq_false (by omega);rw[e1,e2,Bool.or_false]) (by rw[h1];simpa using h2) ⟨.str ⟨#[c]⟩,H,I.tok _,⟨_,rfl⟩,q⟩) hs
def rIx(K:PySem.W.Frag):R2:=λx y H Q=>Q8 K x y H Q∨Qe K x y H Q∨QJ x y H Q
theorem NP:IxR X (rIx X.K):=K7.or (OJ.or Mt)
theorem Ac(its:List Value)(n j:Nat)(u:Value):Obj.mapSeq (·.setIfInBounds j u) {cls:=.type "list",data:=.seq its.toArray n}={cls:=.type "list",data:=.seq (its.set j u).toArray n}:=by
 simp[Obj.mapSeq]
theorem Inv.lst{pins:List (Addr×Obj)}{σ:St}{H:Hp}{s:Shared}{p:Addr}{xs:List V}(I:Inv X pins σ H s)(h:H p=some (.lst xs)) :
  ∃(its:List Value)(n:Nat),Vals xs its/\s.heap.get? p=some {cls:=.type "list",data:=.seq its.toArray n}/\xs.length<=sizeLine:=by
 obtain⟨z,its,n,r,e⟩:=I.hok p _ h;exact⟨its,n,r,e,z⟩
theorem Inv.lstUpd{pins:List (Addr×Obj)}{σ:St}{H:Hp}{s:Shared}{p:Addr}{xs ys:List V}{its its':List Value}{n n':Nat}{f:Obj->Obj}(I:Inv X pins σ H s)(h:H p=some (.lst xs))
  (ho:s.heap.get? p=some {cls:=.type "list",data:=.seq its.toArray n}) (hf:f {cls:=.type "list",data:=.seq its.toArray n}={cls:=.type "list",data:=.seq its'.toArray n'}) (r:Vals ys its') (hz:ys.length<=sizeLine) (t:Nat) :
  Inv X pins σ (upd H p (.lst ys)) {s with heap:=s.heap.update p f,toks:=t}:=by
 have e:(s.heap.update p f).get? p=some {cls:=.type "list",data:=.seq its'.toArray n'}:=by
  rw[Heap.get?_update_self f ho (by rw[hf]<;>rfl),hf]
 refine I.write (x:=p) (e:=p) (by rw[h];trivial) (.inl rfl) (λb u hb q=>(Heap.get?_update_other _ _ (Ne.symm hb)).trans q) ⟨_,e⟩ ?_;exact⟨hz,its',n',r,e⟩
def Lj:V->V->V->Hp->(Hp->Prop)->Prop:=λo i v H Q=>∃p xs k j,o= .ref p/\i= .int k/\H p=some (.lst xs)/\ixN xs.length k=some j/\Q (upd H p (.lst (xs.set j v)))
theorem set_list:Kv X Lj:=by
 intro pins s σ H o i v ov iv u Q I ro ri rv h;obtain⟨p,xs,k,j,rfl,rfl,hp,hj,q⟩:=h;cases ro;obtain⟨t,rfl⟩:=ri;obtain⟨its,n,r,ho,hz⟩:=I.lst hp;obtain⟨h1,h2,h3,h4⟩:=By hj;have hl:=r.length;have hn:=nG;have I':Inv X pins σ (upd H p (.lst (xs.set j v))) {s with heap:=s.heap.update p (Obj.mapSeq (·.setIfInBounds j u))}:=
  I.lstUpd hp ho (Ac its n j u) (r.set rv j) (by rw[List.length_set];exact hz) s.toks
 by_cases h0:0<=k
 .have hk:k.toNat=j:=by
   rw[seqIndex_of h0 h4]at h1;exact Option.some.inj h1
  exact PySem.W.ki_setAt ho h0 (by omega) (by rw[List.size_toArray,←hl];exact h4) (by rw[hk];exact⟨_,I',q⟩)
 .have hk:(k+(its.toArray.size:Int)).toNat=j:=by
   rw[seqIndex_neg (by omega) h3]at h1;rw[List.size_toArray,←hl];exact Option.some.inj h1
  exact PySem.W.ki_setBack ho (by omega) (by rw[List.size_toArray,←hl];exact h3) (by omega) (by rw[hk];exact⟨_,I',q⟩)
theorem wy(lo hi:Option Int)(n:Nat):(sliceBounds lo hi none n).1=((HT.sIx n 0 lo:Nat):Int)/\(sliceBounds lo hi none n).2.1=((HT.sIx n n hi:Nat):Int)/\(sliceBounds lo hi none n).2.2=1:=by
 refine⟨?_,?_,rfl⟩
 .cases lo with
  |none=>simp[sliceBounds,HT.sIx]
  |some i=>
   simp only[sliceBounds,HT.sIx,Option.getD_none,show(1:Int)>0 by decide,if_true];by_cases h:i<0
   .simp only[h,if_true]<;>omega
   .simp only[h,if_false]<;>omega
 .cases hi with
  |none=>simp[sliceBounds,HT.sIx]
  |some i=>
   simp only[sliceBounds,HT.sIx,Option.getD_none,show(1:Int)>0 by decide,if_true];by_cases h:i<0
   .simp only[h,if_true]<;>omega
   .simp only[h,if_false]<;>omega
theorem uY(its:List Value)(lo hi:Option Int):slicePick its.toArray lo hi none=((its.drop (HT.sIx its.length 0 lo)).take (HT.sIx its.length its.length hi-HT.sIx its.length 0 lo)).toArray:=by
 obtain⟨h1,h2,h3⟩:=wy lo hi its.toArray.size;unfold slicePick;rw[h1,h2,h3];simp only[sliceRange_one,pick_run,List.size_toArray]<;>rfl
def Qg(K:PySem.W.Frag):V->Option Int->Option Int->Hp->VK->Prop:=λx lo hi H Q=>∃a xs,x= .ref a/\SqL K H a xs/\∀p,H p=none->Q (.ref p) (upd H p (.lst (uF xs lo hi)))
theorem Kw:SlR X (Qg X.K):=by
 intro pins s σ H x v vl vu lo hi sl Q I rx hs pl pu h;obtain⟨a,xs,rfl,hx,q⟩:=h;cases rx;obtain⟨its,r,ht,hz⟩:=I.list hx;have hlen:=r.length;refine⟨"list",_,slot_list_getitem.lookup,ht.isList.typeIs,?_⟩;refine wpAny_getItem_list_slice ht.isList hs pl pu .none (by simp) ?_ (by rw[List.size_toArray]<;>omega);rw[uY,←hlen];refine⟨.ref s.heap.objs.size,_,I.laid (t':=s.toks) (o:=.lst (uF xs lo hi)) (λb ob q=>Heap.get?_push_of_some _ q) (Nat.le_refl _) ?_,rfl,q _ (I.hok.fresh (Nat.le_refl _))⟩;exact⟨Nat.le_trans (qO xs lo hi) hz,_,0,(r.drop (HT.sIx xs.length 0 lo)).take (HT.sIx xs.length xs.length hi-HT.sIx xs.length 0 lo),Heap.get?_push_size _ rfl⟩
def lw:V->Bool
 |.non=>true
 |.bl _=>true
 |.int _=>true
 |.str _=>true
 |_=>false
def eqV:V->V->Bool
 |.non,.non=>true
 |.bl a,.bl b=>a==b
 |.bl a,.int b=>(if a then 1 else 0)==b
 |.int a,.bl b=>a==(if b then 1 else 0)
 |.int a,.int b=>a==b
 |.str a,.str b=>a==b
 |_,_=>false
theorem Mq{A:Around}{s:Shared}{y x:V}{u v:Value}(ry:RelV y u)(rx:RelV x v)(fy:lw y=true)(fx:lw x=true):SeqAt.EqAt A s u v (eqV y x):=by
 cases y with
 |non=>
  cases ry;cases x with
  |non=>cases rx;exact SeqAt.EqAt.same _
  |bl b=>cases rx;exact SeqAt.EqAt.none_bool b
  |int b=>obtain⟨t,rfl⟩:=rx;exact SeqAt.EqAt.none_int b t
  |str b=>obtain⟨t,rfl⟩:=rx;exact SeqAt.EqAt.none_str b t
  |_=>exact absurd (show false=true from fx) Bool.false_ne_true
 |bl a=>
  cases ry;cases x with
  |non=>cases rx;exact SeqAt.EqAt.bool_none a
  |bl b=>cases rx;exact SeqAt.EqAt.bool_bool a b
  |int b=>obtain⟨t,rfl⟩:=rx;exact SeqAt.EqAt.bool_int a b t
  |str b=>obtain⟨t,rfl⟩:=rx;exact SeqAt.EqAt.bool_str a b t
  |_=>exact absurd (show false=true from fx) Bool.false_ne_true
 |int a=>
  obtain⟨t',rfl⟩:=ry;cases x with
  |non=>cases rx;exact SeqAt.EqAt.int_none a t'
  |bl b=>cases rx;exact SeqAt.EqAt.int_bool a t' b
  |int b=>obtain⟨t,rfl⟩:=rx;exact SeqAt.EqAt.int_int a t' b t
  |str b=>obtain⟨t,rfl⟩:=rx;exact SeqAt.EqAt.int_str a t' b t
  |_=>exact absurd (show false=true from fx) Bool.false_ne_true
 |str a=>
  obtain⟨t',rfl⟩:=ry;cases x with
  |non=>cases rx;exact SeqAt.EqAt.str_none a t'
  |bl b=>cases rx;exact SeqAt.EqAt.str_bool a t' b
  |int b=>obtain⟨t,rfl⟩:=rx;exact SeqAt.EqAt.str_int a t' b t
  |str b=>obtain⟨t,rfl⟩:=rx;exact SeqAt.EqAt.str_str a t' b t
  |_=>exact absurd (show false=true from fx) Bool.false_ne_true
 |_=>exact absurd (show false=true from fy) Bool.false_ne_true
def eqU(x:V)(u:Value):Bool:=match u with
 |.none=>eqV .non x
 |.bool b=>eqV (.bl b) x
 |.int i _=>eqV (.int i) x
 |.str z _=>eqV (.str z) x
 |_=>false
theorem HQ{x y:V}{u:Value}(r:RelV y u)(f:lw y=true):eqU x u=eqV y x:=by
 cases y with
 |non=>cases r;rfl
 |bl b=>cases r;rfl
 |int i=>obtain⟨t,rfl⟩:=r;rfl
 |str z=>obtain⟨t,rfl⟩:=r;rfl
 |_=>exact absurd (show false=true from f) Bool.false_ne_true
theorem oU{x:V}:∀{xs:List V}{us:List Value},Vals xs us->xs.all lw=true->us.any (eqU x)=xs.any λy=>eqV y x
 |_,_,.nil,_=>rfl
 |y::xs,u::us,.cons r t,f=>by
  rw[List.all_cons,Bool.and_eq_true]at f;rw[List.any_cons,List.any_cons,HQ r f.1,oU t f.2]
theorem mq{A:Around}{s:Shared}{x:V}{v:Value}(rx:RelV x v)(fx:lw x=true):∀{xs:List V}{us:List Value},Vals xs us->xs.all lw=true->∀u∈us,SeqAt.EqAt A s u v (eqU x u)
 |_,_,.nil,_=>λu hu=>by cases hu
 |y::xs,u::us,.cons r t,f=>λu' hu=>by
  rw[List.all_cons,Bool.and_eq_true]at f;rcases List.mem_cons.mp hu with rfl|hu
  .rw[HQ r f.1];exact Mq r rx f.1 fx
  .exact mq rx fx t f.2 u' hu
def inV(x:V)(xs:List V):Bool:=xs.any λy=>eqV y x
def rIn(K:PySem.W.Frag)(neg:Bool):R2:=λx y H Q=>∃p xs,y= .ref p/\(SqL K H p xs∨SqT K H p xs)/\lw x=true/\xs.all lw=true/\Q (.bl (if neg then !inV x xs else inV x xs)) H
theorem Dh:OpR X (compareOp .In) (rIn X.K false):=by
 intro pins s σ H x y v u Q I rx ry h;obtain⟨p,xs,rfl,hq,fx,fs,q⟩:=h;cases ry;rcases hq with hq|hq
 .obtain⟨its,r,pl,hz⟩:=I.list hq
  refine SeqAt.in_listAt (eqU x) pl.isList (λw hw=>mq rx fx r fs w (by simpa using hw)) ⟨.bl _,H,I,rfl,?_⟩;rw[show its.toArray.any (eqU x)=its.any (eqU x)by simp,oU r fs];exact q
 .obtain⟨its,r,pl,hz⟩:=I.tuple hq
  refine SeqAt.in_tupleAt (eqU x) pl (λw hw=>mq rx fx r fs w (by simpa using hw)) ⟨.bl _,H,I,rfl,?_⟩;rw[show its.toArray.any (eqU x)=its.any (eqU x)by simp,oU r fs];exact q
theorem xK:OpR X (compareOp .NotIn) (rIn X.K true):=by
 intro pins s σ H x y v u Q I rx ry h;obtain⟨p,xs,rfl,hq,fx,fs,q⟩:=h;cases ry;rcases hq with hq|hq
 .obtain⟨its,r,pl,hz⟩:=I.list hq
  refine SeqAt.notIn_listAt (eqU x) pl.isList (λw hw=>mq rx fx r fs w (by simpa using hw)) ⟨.bl _,H,I,rfl,?_⟩;rw[show its.toArray.any (eqU x)=its.any (eqU x)by simp,oU r fs];exact q
 .obtain⟨its,r,pl,hz⟩:=I.tuple hq
  refine SeqAt.notIn_tupleAt (eqU x) pl (λw hw=>mq rx fx r fs w (by simpa using hw)) ⟨.bl _,H,I,rfl,?_⟩;rw[show its.toArray.any (eqU x)=its.any (eqU x)by simp,oU r fs];exact q
theorem wL:OpR X (compareOp .NotIn) (λx y H Q=>∃i j,x= .str i/\y= .str j/\Q (.bl (!(!(Builtin.Str.occurrences j i 0 j.length 1).isEmpty))) H):=by
 intro pins s σ H x y v u Q I rx ry h;obtain⟨i,j,rfl,rfl,q⟩:=h;obtain⟨t,rfl⟩:=rx;obtain⟨t',rfl⟩:=ry;exact notIn_str ⟨.bl _,H,I,rfl,q⟩
theorem xg:cM X (.builtin "len") (λxs H Q=>∃p ys,xs=[.ref p]/\(SqL X.K H p ys∨SqT X.K H p ys)/\Q (.int ys.length) H):=by
 intro pins s σ H xs us Q I r h;obtain⟨p,ys,rfl,hq,q⟩:=h;obtain⟨u,rfl,rx⟩:=vals1 r;cases rx;have hn:=nG;rcases hq with hq|hq
 .obtain⟨its,r',pl,hz⟩:=I.list hq
  have hlen:=r'.length;exact Calls.call_len_list pl.isList (by simp only[List.size_toArray]<;>omega) ⟨.int ys.length,H,I.tok _,⟨s.toks+1,by rw[List.size_toArray,hlen]⟩,q⟩
 .obtain⟨its,r',pl,hz⟩:=I.tuple hq
  have hlen:=r'.length;exact len_tuple pl (by simp only[List.size_toArray]<;>omega) ⟨.int ys.length,H,I.tok _,⟨s.toks+1,by rw[List.size_toArray,hlen]⟩,q⟩
theorem xR:cM X (.builtin "len") (λxs H Q=>∃z,xs=[.str z]/\z.length<=sizeLine/\Q (.int z.length) H):=by
 intro pins s σ H xs us Q I r h;obtain⟨z,rfl,hz,q⟩:=h;obtain⟨u,rfl,t,rfl⟩:=vals1 r;have hn:=nG;exact len_str (by omega) ⟨.int z.length,H,I.tok _,⟨_,rfl⟩,q⟩
theorem uP:cM X (.type "tuple") (λxs H Q=>∃p ys,xs=[.ref p]/\((SqL X.K H p ys/\∀l,H l=none->Q (.ref l) (upd H l (.tup ys)))∨(SqT X.K H p ys/\Q (.ref p) H))):=by
 intro pins s σ H xs us Q I r h;obtain⟨p,ys,rfl,h⟩:=h;obtain⟨u,rfl,rx⟩:=vals1 r;cases rx;rcases h with⟨hq,q⟩|⟨hq,q⟩
 .obtain⟨its,r',pl,hz⟩:=I.list hq
  have hlen:=r'.length;refine call_tuple_list pl.isList (λh' kp=>?_) (by simp only[List.size_toArray]<;>omega);have I1:Inv X pins σ H {s with heap:=h'}:=I.kept (t':=s.toks) kp;have I2:Inv X pins σ (upd H h'.objs.size (.tup ys)) {s with heap:=h'.push {cls:=.type "tuple",data:=.seq its.toArray}}:=
   I1.laid (t':=s.toks) (λb o e=>Heap.get?_push_of_some _ e) (Nat.le_refl _) (show cg X.prog X.w _ _ _ (.tup ys)from⟨hz,its,r',lJ.new _ _⟩)
  exact⟨.ref h'.objs.size,_,I2,rfl,q _ (I1.hok.fresh (Nat.le_refl _))⟩
 .obtain⟨its,r',pl,hz⟩:=I.tuple hq
  exact call_tuple_same pl ⟨.ref p,H,I,rfl,q⟩
def tyV(K:PySem.W.Frag)(T:String)(x:V)(H:Hp):Prop:=match x with
 |.str _=>T="str"
 |.int _=>T="int"
 |.ref p=>(T="list"/\∃xs,SqL K H p xs)∨(T="tuple"/\∃o,K.lookup p=some o/\o.cls= .type "tuple"/\o.dict=none)∨
  (T="dict"/\((∃kvs,H p=some (.dK kvs))∨∃kvs,H p=some (.dT kvs)))∨(T="set"/\∃S n,H p=some (.set S n))
 |_=>False
theorem Ml{pins:List (Addr×Obj)}{σ:St}{H:Hp}{s:Shared}{T:String}{x:V}{v:Value}(I:Inv X pins σ H s)(r:RelV x v)(ty:tyV X.K T x H) :
  s.TypeIs v T/\∀a,v= .ref a->∃ob,s.heap.get? a=some ob/\ob.dict=none:=by
 cases x with
 |str z=>
  obtain⟨t,rfl⟩:=r;cases (show T="str" from ty);exact⟨typeIs_str s z t,λ_ e=>nomatch e⟩
 |int i=>
  obtain⟨t,rfl⟩:=r;cases (show T="int" from ty);exact⟨typeIs_int s i t,λ_ e=>nomatch e⟩
 |ref p=>
  cases r;rcases ty with⟨rfl,xs,hq⟩|⟨rfl,o,hk,hc,hd⟩|⟨rfl,hk⟩|⟨rfl,S,n,hk⟩
  .obtain⟨its,_,pl,_⟩:=I.list hq
   refine⟨pl.isList.typeIs,λa e=>?_⟩;cases e;obtain⟨o,n,e,c,hd,_⟩:=pl;exact⟨o,e,hd⟩
  .refine⟨⟨o,I.kIn p o hk,hc⟩,λa e=>?_⟩
   cases e;exact⟨o,I.kIn _ o hk,hd⟩
  .have z:∃o,s.heap.get? p=some o/\o.ExactDict:=by
    rcases hk with⟨kvs,hk⟩|⟨kvs,hk⟩
    .obtain⟨_,_,_,_,o,_,_,e,ex,_⟩:=I.hok p _ hk
     exact⟨o,e,ex⟩
    .obtain⟨_,_,_,_,o,_,_,e,ex,_⟩:=I.hok p _ hk
     exact⟨o,e,ex⟩
   obtain⟨o,e,ex⟩:=z;refine⟨⟨o,e,ex.1⟩,λa e2=>?_⟩;cases e2;exact⟨o,e,ex.2.1⟩
  .obtain⟨o,_,_,_,e,ex,_⟩:=I.hok p _ hk
   refine⟨⟨o,e,ex.1⟩,λa e2=>?_⟩;cases e2;exact⟨o,e,ex.2.1⟩
 |_=>exact False.elim ty
def tBM(K:PySem.W.Frag)(T:String)(r:V->List V->Hp->VK->Prop)(to:TE)(t:TA):TE:=λσ H Q=>to σ H λx H1=>tyV K T x H1/\t σ H1 λxs H2=>r x xs H2 Q
variable{o e:Expr}{es:List Expr}{to:TE}{t:TA}{name:Str}{apos cpos:Pos}{T id:String}{r:V->List V->Hp->VK->Prop}
theorem Hn(pa:PlainAttrs T)(slot:Slot T name id)(hty:typeOf (.builtin id)=pure (.type "method_descriptor"))(hm:MtR X id r)(ho:PE X o to)(ha:PA X (e::es) t)
  (hbase:attributeBase o name X.env (eval o X.env)=eval o X.env:=by rfl)
  (hfew:((backTo cpos (starEach (e::es) X.env)).all (λx=>!x.1)&&(backToKw cpos (keywordEach [] X.env)).all (λx=>x.1.isSome)
   &&decide ((e::es).length+([]:List Keyword).length+(if([]:List Keyword).isEmpty then 0 else 1)<30))=true:=by rfl)
  (hline:(apos.endLine==cpos.line)=true:=by rfl) (hs:starEach (e::es) X.env=(false,eval e X.env)::starEach es X.env:=by rfl) (hplain:(backTo cpos (starEach es X.env)).any (·.1)=false:=by rfl) :
  PE X (.Call (.Attribute o name apos) (e::es) [] cpos) (tBM X.K T r to t):=by
 intro pins s σ H Q I h;refine wpAny_Call_method_late hbase hfew hline rfl (thn (ho pins s σ H _ I h) λv s1 ⟨x,H1,I1,r1,ty,q1⟩=>?_);obtain⟨h1,h2⟩:=Ml I1 r1 ty;refine⟨T,id,pa,slot,hty,h1,h2,?_⟩;have hA:=ha cpos pins s1 σ H1 _ I1 q1;rw[hs]at hA⊢;refine Calls.callWith_builtin (by show(false||(backTo cpos (starEach es X.env)).any (·.1))=false;rw[hplain]<;>rfl) (Calls.evalArgs_plain ?_);exact thn hA λus s2 ⟨vs,H2,I2,r2,q2⟩=>hm pins s2 σ H2 x vs v us Q I2 r1 r2 q2
end
def MtM(X:Cx)(id:String)(r:V->List V->Hp->VK->Prop):Prop:=
 ∀(pins:List (Addr×Obj))(s:Shared)(σ:St)(H:Hp)(x:V)(xs:List V)(v:Value)(us:List Value)(Q:VK),Inv X pins σ H s->RelV x v->Vals xs us->r x xs H Q->
  wpAny (model X.prog X.w) X.A (call (.builtin id) (v::us)) (EP X pins σ Q) X.xe s
theorem Vals.one:∀{x:V}{us:List Value},Vals [x] us->∃u,us=[u]/\RelV x u
 |_,_,.cons r .nil=>⟨_,rfl,r⟩
section
variable{X:Cx}{pins:List (Addr×Obj)}{σ:St}{H:Hp}{s:Shared}{l b:Addr}{xs ys zs:List V}
theorem Inv.lset{its its':List Value}{n:Nat}{f:Array Value->Array Value}{t':Nat}(I:Inv X pins σ H s)(hH:H l=some (.lst xs))
  (e:s.heap.get? l=some {cls:=.type "list",data:=.seq its.toArray n}) (hf:f its.toArray=its'.toArray) (hv:Vals ys its') (hz:ys.length<=sizeLine) :
  Inv X pins σ (upd H l (.lst ys)) {s with heap:=s.heap.update l (Obj.mapSeq f),toks:=t'}:=by
 have q:=PySem.IsL.update e f;rw[hf]at q;refine I.write (x:=l) (e:=l) (by rw[hH];exact trivial) (.inl rfl) (λb' u hb hu=>(Heap.get?_update_other s.heap (Obj.mapSeq f) (Ne.symm hb)).trans hu) ⟨_,q⟩ ?_;exact⟨hz,its',_,hv,q⟩
theorem Inv.lnew{its:List Value}{t':Nat}(I:Inv X pins σ H s)(hv:Vals ys its)(hz:ys.length<=sizeLine) :
  Inv X pins σ (upd H s.heap.objs.size (.lst ys)) {s with heap:=s.heap.push {cls:=.type "list",data:=.seq its.toArray},toks:=t'}:=
 I.laid (λ_ _ q=>Heap.get?_push_of_some _ q) (Nat.le_refl _) ⟨hz,its,0,hv,Heap.get?_push_size _ rfl⟩
theorem Inv.fresh(I:Inv X pins σ H s):H s.heap.objs.size=none:=I.hok.fresh (Nat.le_refl _)
theorem Inv.lstM(I:Inv X pins σ H s)(hH:H l=some (.lst xs)):xs.length<=sizeLine/\∃(its:List Value)(n:Nat),Vals xs its/\xs.length=its.length/\s.heap.get? l=some {cls:=.type "list",data:=.seq its.toArray n}:=by
 obtain⟨z,its,n,r,e⟩:=I.hok l _ hH;exact⟨z,its,n,r,r.length,e⟩
theorem Ij{n:Nat}(h:n<=sizeLine):Builtin.List.listTooLong n=false:=by
 unfold Builtin.List.listTooLong;exact decide_eq_false (by omega)
end
section
variable{X:Cx}
def B_:V->List V->Hp->VK->Prop:=λx vs H Q=>∃l xs y,x= .ref l/\vs=[y]/\H l=some (.lst xs)/\xs.length<sizeLine/\Q .non (upd H l (.lst (xs++[y])))
theorem DP:MtM X "list.append" B_:=by
 intro pins s σ H x vs v us Q I rx rv h;obtain⟨l,xs,y,rfl,rfl,hH,hz,q⟩:=h;cases rx;obtain⟨u,rfl,ru⟩:=rv.one;obtain⟨z,its,n,r,hl,e⟩:=I.lstM hH;refine call_meets F.slot_list_append ⟨_,e,rfl⟩ F.entry_list_append (F.args_list_append_2 _ _) (PySem.list_append l its.toArray n u (by rw[List.size_toArray];omega)) ⟨e,?_⟩;refine⟨.non,_,I.lset (its':=its++[u]) hH e (by simp) (r.append (.cons ru .nil)) ?_,rfl,q⟩;rw[List.length_append,List.length_singleton];omega
def JP:V->List V->Hp->VK->Prop:=λx vs H Q=>∃l b xs zs,x= .ref l/\vs=[.ref b]/\H l=some (.lst xs)/\H b=some (.lst zs)/\xs.length+zs.length<=sizeLine/\Q .non (upd H l (.lst (xs++zs)))
theorem mt_extend:MtM X "list.extend" JP:=by
 intro pins s σ H x vs v us Q I rx rv h;obtain⟨l,b,xs,zs,rfl,rfl,hH,hB,hz,q⟩:=h;cases rx;obtain⟨u,rfl,ru⟩:=rv.one;cases ru;obtain⟨z,its,n,r,hl,e⟩:=I.lstM hH;obtain⟨z2,its2,n2,r2,hl2,e2⟩:=I.lstM hB;have hsz:its.toArray.size+its2.toArray.size<=sizeLine:=by rw[List.size_toArray,List.size_toArray];omega
 have hlong:¬(!its.toArray.isEmpty&&Builtin.List.listTooLong (its.toArray.size+its2.toArray.size))=true:=by
  rw[Ij hsz,Bool.and_false];exact Bool.false_ne_true
 refine call_meets F.slot_list_extend ⟨_,e,rfl⟩ F.entry_list_extend (F.args_list_extend_2 _ _)
  (AutoSeq1.list_extend_list_list_0 l its.toArray n b its2.toArray n2 hlong (by rw[List.size_toArray];omega) (by omega)) ⟨e,e2,?_⟩
 refine⟨.non,_,I.lset (its':=its++its2) hH e (by simp) (r.append r2) ?_,rfl,q⟩;rw[List.length_append];omega
def Qf:R2:=λx y H Q=>∃l b xs zs,x= .ref l/\y= .ref b/\H l=some (.lst xs)/\H b=some (.lst zs)/\xs.length+zs.length<=sizeLine/\∀p,H p=none->Q (.ref p) (upd H p (.lst (xs++zs)))
theorem Pj:OpR X (binaryOp .Add) Qf:=by
 intro pins s σ H x y v u Q I rx ry h;obtain⟨l,b,xs,zs,rfl,rfl,hH,hB,hz,q⟩:=h;cases rx;cases ry;obtain⟨z,its,n,r,hl,e⟩:=I.lstM hH;obtain⟨z2,its2,n2,r2,hl2,e2⟩:=I.lstM hB;refine PySem.P.add_list e e2 ?_ (by rw[List.size_toArray,List.size_toArray];omega);have ea:its.toArray++its2.toArray=(its++its2).toArray:=by simp
 rw[ea];exact⟨.ref _,_,I.lnew (t':=s.toks) (r.append r2) (by rw[List.length_append];omega),rfl,q _ I.fresh⟩
end
section
variable{κ:Type}[DecidableEq κ]
def kJ(kvs:List (κ×V))(k:κ):Option V:=(kvs.find? λkv=>decide (kv.1=k)).map (·.2)
def putK(kvs:List (κ×V))(k:κ)(v:V):List (κ×V):=
 if(kvs.any λkv=>decide (kv.1=k))=true then kvs.map (λkv=>if kv.1=k then(kv.1,v)else kv)else kvs++[(k,v)]
theorem uq{p:κ×V}{r:List (κ×V)}{k:κ}(e:p.1=k):kJ (p::r) k=some p.2:=by simp[kJ,List.find?_cons,e]
theorem sV{p:κ×V}{r:List (κ×V)}{k:κ}(e:¬p.1=k):kJ (p::r) k=kJ r k:=by simp[kJ,List.find?_cons,e]
theorem tW(k:κ):∀kvs:List (κ×V),(kvs.any λkv=>decide (kv.1=k))=(kJ kvs k).isSome
 |[]=>rfl
 |p::r=>by
  rw[List.any_cons];by_cases e:p.1=k
  .simp only[uq e,decide_eq_true e,Bool.true_or,Option.isSome_some]
  .rw[sV e,decide_eq_false e,Bool.false_or];exact tW k r
theorem gq(kvs:List (κ×V))(k:κ)(v:V):(putK kvs k v).length<=kvs.length+1:=by
 unfold putK;split
 .rw[List.length_map];omega
 .rw[List.length_append,List.length_cons,List.length_nil];omega
theorem sW{kvs:List (κ×V)}{k:κ}(v:V)(h:kJ kvs k=none):putK kvs k v=kvs++[(k,v)]:=by
 unfold putK;rw[tW,h];exact if_neg (by decide)
theorem p_.isSome_eq{o:Option V}{u:Option Value}(r:p_ o u):o.isSome=u.isSome:=by
 cases o with
 |none=>cases u with
  |none=>rfl
  |some _=>exact(show False from r).elim
 |some _=>cases u with
  |none=>exact(show False from r).elim
  |some _=>rfl
theorem p_.getD{o:Option V}{u:Option Value}{d:V}{d':Value}(r:p_ o u)(rd:RelV d d'):RelV (o.getD d) (u.getD d'):=by
 cases o with
 |none=>cases u with
  |none=>exact rd
  |some _=>exact(show False from r).elim
 |some _=>cases u with
  |none=>exact(show False from r).elim
  |some _=>exact r
theorem KV.val{kvs:List (κ×V)}{vs:List (κ×Value)}(r:KV kvs vs)(k:κ):p_ (kJ kvs k) (valueAt vs k):=by
 unfold KV at r
 induction r with
 |nil=>exact True.intro
 |@cons p q ps qs h t ih=>
  obtain⟨h1,h2⟩:=h;by_cases e:p.1=k
  .have e':q.1=k:=h1.symm.trans e
   have b:valueAt (q::qs) k=some q.2:=by simp[valueAt,List.find?_cons,e']
   rw[uq e,b];exact h2
  .have e':¬q.1=k:=λz=>e (h1.trans z)
   have b:valueAt (q::qs) k=valueAt qs k:=by simp[valueAt,List.find?_cons,e']
   rw[sV e,b];exact ih
theorem KV.any{kvs:List (κ×V)}{vs:List (κ×Value)}(r:KV kvs vs)(k:κ):(kvs.any λkv=>decide (kv.1=k))=vs.any λkv=>decide (kv.1=k):=by
 unfold KV at r
 induction r with
 |nil=>rfl
 |cons h t ih=>rw[List.any_cons,List.any_cons,ih,h.1]
theorem KV.repl{kvs:List (κ×V)}{vs:List (κ×Value)}(r:KV kvs vs)(k:κ){y:V}{u:Value}(ry:RelV y u) :
  KV (kvs.map λkv=>if kv.1=k then(kv.1,y)else kv) (vs.map λkv=>if kv.1=k then(kv.1,u)else kv):=by
 unfold KV at r⊢
 induction r with
 |nil=>exact .nil
 |@cons p q ps qs h t ih=>
  rw[List.map_cons,List.map_cons];refine .cons ?_ ih;obtain⟨h1,h2⟩:=h;by_cases e:p.1=k
  .rw[if_pos e,if_pos (h1.symm.trans e)];exact⟨h1,ry⟩
  .rw[if_neg e,if_neg (λz=>e (h1.trans z))];exact⟨h1,h2⟩
theorem KV.put{kvs:List (κ×V)}{vs:List (κ×Value)}(r:KV kvs vs)(k:κ){y:V}{u:Value}(ry:RelV y u):KV (putK kvs k y) (stored vs k u):=by
 unfold putK stored;rw[r.any k];by_cases e:(vs.any λkv=>decide (kv.1=k))=true
 .rw[if_pos e,if_pos e];exact r.repl k ry
 .rw[if_neg e,if_neg e];exact Paired.snoc r ⟨rfl,ry⟩
theorem KV.keys{kvs:List (κ×V)}{vs:List (κ×Value)}(r:KV kvs vs):kvs.map (·.1)=vs.map (·.1):=by
 unfold KV at r
 induction r with
 |nil=>rfl
 |cons h t ih=>rw[List.map_cons,List.map_cons,ih,h.1]
theorem KV.length{kvs:List (κ×V)}{vs:List (κ×Value)}(r:KV kvs vs):kvs.length=vs.length:=Paired.length r
end
theorem tu{P:Program}{w:World}{k:Key}{u:Value}(r:RelV (kV k) u):(dG P w).is k u=true:=by
 cases k with
 |inl i=>obtain⟨t,e⟩:=(show ∃t,u=Value.int i t from r);subst e;exact yx P w i t
 |inr x=>obtain⟨t,e⟩:=(show ∃t,u=Value.str x t from r);subst e;exact zJ P w x t
theorem vP{P:Program}{w:World}:∀{ks:List Key}{us:List Value},Vals (ks.map kV) us->ItemsAre (dG P w) ks us
 |[],_,r=>by rw[List.map_nil]at r;cases r;exact .nil
 |k::ks,_,r=>by
  rw[List.map_cons]at r;cases r with
  |cons h t=>exact .cons (tu h) (vP t)
abbrev KT(H:Hp):List (List Key×V)->List (List Key×Addr×Value)->Prop:=Paired λp q=>p.1=q.1/\H q.2.1=some (.tup (p.1.map kV))/\RelV p.2 q.2.2
theorem KT.val{H:Hp}{kvs:List (List Key×V)}{xs:List (List Key×Addr×Value)}(r:KT H kvs xs)(k:List Key):p_ (kJ kvs k) ((atKey xs k).map (·.2)):=by
 induction r with
 |nil=>exact True.intro
 |@cons p q ps qs h t ih=>
  obtain⟨h1,_,h2⟩:=h;by_cases e:p.1=k
  .have e':q.1=k:=h1.symm.trans e
   have b:atKey (q::qs) k=some q.2:=by simp[atKey,List.find?_cons,e']
   rw[uq e,b];exact h2
  .have e':¬q.1=k:=λz=>e (h1.trans z)
   have b:atKey (q::qs) k=atKey qs k:=by simp[atKey,List.find?_cons,e']
   rw[sV e,b];exact ih
theorem KT.repl{H:Hp}{kvs:List (List Key×V)}{xs:List (List Key×Addr×Value)}(r:KT H kvs xs)(k:List Key){y:V}{u:Value}(ry:RelV y u) :
  KT H (kvs.map λkv=>if kv.1=k then(kv.1,y)else kv) (xs.map (putAt k u)):=by
 induction r with
 |nil=>exact .nil
 |@cons p q ps qs h t ih=>
  rw[List.map_cons,List.map_cons];refine .cons ?_ ih;obtain⟨h1,h2,h3⟩:=h;unfold putAt;by_cases e:p.1=k
  .rw[if_pos e,if_pos (h1.symm.trans e)];exact⟨h1,h2,ry⟩
  .rw[if_neg e,if_neg (λz=>e (h1.trans z))];exact⟨h1,h2,h3⟩
theorem KT.put{H:Hp}{kvs:List (List Key×V)}{xs:List (List Key×Addr×Value)}(r:KT H kvs xs)(k:List Key){b:Addr}{y:V}{u:Value}(hb:H b=some (.tup (k.map kV)))(ry:RelV y u) :
  KT H (putK kvs k y) (storedH xs k b u):=by
 have e:(kvs.any λkv=>decide (kv.1=k))=(atKey xs k).isSome:=by
  rw[tW,(r.val k).isSome_eq,Option.isSome_map]
 unfold putK storedH;rw[e];by_cases q:(atKey xs k).isSome=true
 .rw[if_pos q,if_pos q];exact r.repl k ry
 .rw[if_neg q,if_neg q];exact Paired.snoc r ⟨rfl,hb,ry⟩
theorem KT.keeps{H H':Hp}{kvs:List (List Key×V)}{xs:List (List Key×Addr×Value)}(r:KT H kvs xs)(ht:∀b ys,H b=some (.tup ys)->H' b=some (.tup ys)):KT H' kvs xs:=
 Paired.mapP r λ_ _ z=>⟨z.1,ht _ _ z.2.1,z.2.2⟩
section
variable{P:Program}{w:World}{H:Hp}{h:Heap}{a:Addr}
theorem Lp{u:HO}(ok:HOk P w H h)(e:Rd H a u):cg P w H h a u:=e.ok ok
theorem sZ{kvs:List (Key×V)}(ok:HOk P w H h)(e:Rd H a (.dK kvs)):kvs.length<=sizeLine/\(a==sysModules)=false/\∃vs,KV kvs vs/\h.DictOf (dG P w) a vs:=
 show cg P w H h a (.dK kvs)from Lp ok e
theorem Ia{kvs:List (Key×V)}(ok:HOk P w H h)(e:H a=some (.dK kvs)):kvs.length<=sizeLine/\(a==sysModules)=false/\∃vs,KV kvs vs/\h.DictOf (dG P w) a vs:=sZ ok (.inl e)
theorem ue{ks:List Key}(ok:HOk P w H h)(e:H a=some (.tup (ks.map kV))):(tupleKind (dG P w)).is h ks a:=by
 obtain⟨_,its,r,o,h1,h2,n,h3⟩:=(show cg P w H h a (.tup (ks.map kV))from ok a _ e);exact⟨o,its.toArray,n,h1,h2,h3.1,by simpa using vP r⟩
theorem xU{kvs:List (List Key×V)}(ok:HOk P w H h)(e:Rd H a (.dT kvs)):kvs.length<=sizeLine/\(a==sysModules)=false/\
  ∃xs,KT H kvs xs/\h.DictOfH (tupleKind (dG P w)) a xs:=by
 obtain⟨z,y,xs,r,o,es,ep,h1,h2,h3,h4,h5⟩:=(show cg P w H h a (.dT kvs)from Lp ok e);refine⟨z,y,xs,r,o,es,ep,h1,h2,h3,h4,λx hx=>?_,h5⟩;have all:∀{l:List (List Key×V)}{m:List (List Key×Addr×Value)},KT H l m->∀x∈m,(tupleKind (dG P w)).is h x.1 x.2.1:=by
  intro l m q
  induction q with
  |nil=>intro x hx;exact nomatch hx
  |@cons p q ps qs hq t ih=>
   intro x hx;rcases List.mem_cons.mp hx with e|hx
   .subst e
    exact ue ok (by rw[←hq.1];exact hq.2.1)
   .exact ih x hx
 exact all r x hx
theorem Qz{kvs:List (List Key×V)}(ok:HOk P w H h)(e:H a=some (.dT kvs)):kvs.length<=sizeLine/\(a==sysModules)=false/\
 ∃xs,KT H kvs xs/\h.DictOfH (tupleKind (dG P w)) a xs:=xU ok (.inl e)
end
def o_(H:Hp)(a:Addr)(y:V)(r:Option V):Prop:=
 (∃kvs k,Rd H a (.dK kvs)/\y=kV k/\r=kJ kvs k)∨∃kvs k b,Rd H a (.dT kvs)/\y= .ref b/\H b=some (.tup (k.map kV))/\r=kJ kvs k
def Bl(H:Hp)(a:Addr)(y v:V)(H':Hp):Prop:=
 (∃kvs k,H a=some (.dK kvs)/\y=kV k/\kvs.length<sizeLine/\H'=upd H a (.dK (putK kvs k v)))∨
 ∃kvs k b,H a=some (.dT kvs)/\y= .ref b/\H b=some (.tup (k.map kV))/\kvs.length<sizeLine/\H'=upd H a (.dT (putK kvs k v))
theorem o_.k{H:Hp}{a:Addr}{kvs:List (Key×V)}{k:Key}(e:H a=some (.dK kvs)):o_ H a (kV k) (kJ kvs k):=.inl ⟨kvs,k,.inl e,rfl,rfl⟩
theorem o_.t{H:Hp}{a b:Addr}{kvs:List (List Key×V)}{k:List Key}(e:H a=some (.dT kvs))(eb:H b=some (.tup (k.map kV))):o_ H a (.ref b) (kJ kvs k):=.inr ⟨kvs,k,b,.inl e,rfl,eb,rfl⟩
theorem Bl.k{H:Hp}{a:Addr}{kvs:List (Key×V)}{k:Key}{v:V}(e:H a=some (.dK kvs))(hl:kvs.length<sizeLine):Bl H a (kV k) v (upd H a (.dK (putK kvs k v))):=.inl ⟨kvs,k,e,rfl,hl,rfl⟩
theorem Bl.t{H:Hp}{a b:Addr}{kvs:List (List Key×V)}{k:List Key}{v:V}(e:H a=some (.dT kvs))(eb:H b=some (.tup (k.map kV)))(hl:kvs.length<sizeLine) :
 Bl H a (.ref b) v (upd H a (.dT (putK kvs k v))):=.inr ⟨kvs,k,b,e,rfl,eb,hl,rfl⟩
section
variable{X:Cx}{pins:List (Addr×Obj)}{σ:St}{H:Hp}{s:Shared}{a:Addr}{y v:V}{u r:Value}{o:Option V}{A:Around}{E:Value->Shared->Prop}
theorem Inv.big(I:Inv X pins σ H s):sysModules<s.heap.objs.size:=by
 have h:mainGlobals<s.heap.objs.size:=(I.mod.glob.keeps I.bk).lt;exact Nat.lt_trans (by decide) h
theorem Ew{Q:Value->Shared->Prop}(hu:A.units+1<cLine)(I:Inv X pins σ H s)(g:o_ H a y (some v))(ry:RelV y u)(h:∀w' s',Inv X pins σ H s'->RelV v w'->Q w' s') :
  wpAny (model X.prog X.w) A (getItem (.ref a) u) Q E s:=by
 rcases g with⟨kvs,k,e,ey,l⟩|⟨kvs,k,b,e,ey,eb,l⟩
 .subst ey
  obtain⟨z,hd,vs,rel,dd⟩:=sZ I.hok e;obtain⟨w',hw,rw'⟩:=p_.some_of (v:=v) (o:=valueAt vs k) (by rw[l];exact rel.val k);exact wpAny_getItem_of (tu ry) dd.mapOf hw (h w' _ (I.tok _) rw')
 .subst ey
  cases (show u=Value.ref b from ry);obtain⟨z,hd,xs,rel,dd⟩:=xU I.hok e;obtain⟨w',hw,rw'⟩:=p_.some_of (v:=v) (o:=(atKey xs k).map (·.2)) (by rw[l];exact rel.val k);obtain⟨p,hp,hp2⟩:=Option.map_eq_some_iff.mp hw;refine wpAny_getItem_heap (tupleKind_room_in1 hu) (ue I.hok eb) dd hp ?_;rw[hp2];exact h w' _ (I.tok _) rw'
theorem RK{Q:Value->Shared->Prop}(hu:A.units+1<cLine)(I:Inv X pins σ H s)(g:o_ H a y o)(ry:RelV y u)(h:∀s',Inv X pins σ H s'->Q (.bool o.isSome) s') :
  wpAny (model X.prog X.w) A (compareOp .In u (.ref a)) Q E s:=by
 rcases g with⟨kvs,k,e,ey,l⟩|⟨kvs,k,b,e,ey,eb,l⟩
 .subst ey
  obtain⟨z,hd,vs,rel,dd⟩:=sZ I.hok e;refine wpAny_in_of (tu ry) hd dd.mapOf ?_;rw[←(rel.val k).isSome_eq,←l];exact h _ (I.tok _)
 .subst ey
  cases (show u=Value.ref b from ry);obtain⟨z,hd,xs,rel,dd⟩:=xU I.hok e;refine wpAny_in_heap (tupleKind_room_in1 hu) (ue I.hok eb) hd dd ?_;have q:=(rel.val k).isSome_eq;rw[Option.isSome_map]at q;rw[←q,←l];exact h _ (I.tok _)
theorem J1{Q:Value->Shared->Prop}(hu:A.units+1<cLine)(I:Inv X pins σ H s)(g:o_ H a y o)(ry:RelV y u)(h:∀s',Inv X pins σ H s'->Q (.bool (!o.isSome)) s') :
  wpAny (model X.prog X.w) A (compareOp .NotIn u (.ref a)) Q E s:=by
 rcases g with⟨kvs,k,e,ey,l⟩|⟨kvs,k,b,e,ey,eb,l⟩
 .subst ey
  obtain⟨z,hd,vs,rel,dd⟩:=sZ I.hok e;refine wpAny_notIn_of (tu ry) hd dd.mapOf ?_;rw[←(rel.val k).isSome_eq,←l];exact h _ (I.tok _)
 .subst ey
  cases (show u=Value.ref b from ry);obtain⟨z,hd,xs,rel,dd⟩:=xU I.hok e;refine wpAny_notIn_heap (tupleKind_room_in1 hu) (ue I.hok eb) hd dd ?_;have q:=(rel.val k).isSome_eq;rw[Option.isSome_map]at q;rw[←q,←l];exact h _ (I.tok _)
theorem sG{h':Heap}{t':Nat}{ob:HO}(I:Inv X pins σ H s)(mu:Mut (H a))(hs:Heap.SameBut a s.heap h')(he:∃q,h'.get? a=some q)(new:cg X.prog X.w (upd H a ob) h' a ob) :
  Inv X pins σ (upd H a ob) {s with heap:=h',toks:=t'}:=
 I.write (x:=a) (e:=a) mu (.inl rfl) (λb q hb z=>(hs.2 b hb).trans z) he new
theorem A_{P:Program}{w:World}{H':Hp}{h':Heap}{kvs:List (Key×V)}{vs:List (Key×Value)}(z:kvs.length<=sizeLine)(hd:(a==sysModules)=false)(rel:KV kvs vs)(dd:h'.DictOf (dG P w) a vs) :
 cg P w H' h' a (.dK kvs):=⟨z,hd,vs,rel,dd⟩
theorem Ex{H':Hp}{Q:Unit->Shared->Prop}(hu:A.units+1<cLine)(I:Inv X pins σ H s)(g:Bl H a y v H')(ry:RelV y u)(rv:RelV v r)(h:∀s',Inv X pins σ H' s'->Q () s') :
  wpAny (model X.prog X.w) A (setItem (.ref a) u r) Q E s:=by
 rcases g with⟨kvs,k,e,ey,l,eH⟩|⟨kvs,k,b,e,ey,eb,l,eH⟩
 .subst ey eH
  obtain⟨z,hd,vs,rel,dd⟩:=Ia I.hok e;have hz:vs.length<=sizeLine:=by rw[←rel.length];exact z
  have hl:(putK kvs k v).length<=sizeLine:=by have:=gq kvs k v;omega
  refine wpAny_setItem_pairs (hsz:=hz) (tu ry) dd λh' dd' hs=>h _ ?_;have he:∃q,h'.get? a=some q:=let⟨q,_,_,hq,_⟩:=dd';⟨q,hq⟩;exact sG I (by rw[e];exact True.intro) hs he (A_ hl hd (rel.put k rv) dd')
 .subst ey eH
  cases (show u=Value.ref b from ry);obtain⟨z,hd,xs,rel,dd⟩:=Qz I.hok e;have hz:xs.length<=sizeLine:=by rw[←Paired.length rel];exact z
  have hl:(putK kvs k v).length<=sizeLine:=by have:=gq kvs k v;omega
  refine wpAny_setItem_heap (hsz:=hz) (tupleKind_room_in1 hu) (ue I.hok eb) dd λh' dd' hs=>h _ ?_;obtain⟨q,es,ep,hq,h2,h3,h4,_,h5⟩:=dd';refine sG I (by rw[e];exact True.intro) hs ⟨q,hq⟩ ⟨hl,hd,_,(rel.put k eb rv).keeps λc ys ec=>?_,q,es,ep,hq,h2,h3,h4,h5⟩;rw[aP (ux ec e (λz=>nomatch z))];exact ec
end
section
variable{X:Cx}{pins:List (Addr×Obj)}{σ:St}{H:Hp}{s:Shared}{a:Addr}{kvs:List (Key×V)}{k:Key}{u:Value}{A:Around}{E:Value->Shared->Prop}
theorem Rc{Q:Value->Shared->Prop}(I:Inv X pins σ H s)(e:Rd H a (.dK kvs))(h:∀t s',Inv X pins σ H s'->Q (.int kvs.length t) s'):wpAny (model X.prog X.w) A (call (.builtin "len") [.ref a]) Q E s:=by
 obtain⟨z,hd,vs,rel,dd⟩:=sZ I.hok e;refine call_len_dict hd dd (by rw[←rel.length];rw[sizeLine_eq]at z;omega) ?_;rw[←rel.length];exact h _ _ (I.tok _)
end
theorem yu{X:Cx}{pins:List (Addr×Obj)}{σ:St}{H:Hp}{s:Shared}{a:Addr}{y:V}{o:Option V}(I:Inv X pins σ H s)(g:o_ H a y o):s.TypeIs (.ref a) "dict":=by
 rcases g with⟨kvs,k,e,_,_⟩|⟨kvs,k,b,e,_,_,_⟩
 .obtain⟨_,_,vs,_,dd⟩:=sZ I.hok e
  exact dd.typeIs
 .obtain⟨_,_,xs,_,dd⟩:=xU I.hok e
  exact dd.typeIs
theorem uo{P:Program}{w:World}{H:Hp}(h:Heap)(hb:sysModules<h.objs.size):cg P w H (h.push {cls:=.type "dict",data:=.dict #[]}) h.objs.size (.dK []):=
 ⟨Nat.zero_le _,beq_eq_false_iff_ne.mpr (Ne.symm (Nat.ne_of_lt hb)),[],.nil,Heap.DictOf.new h⟩
def MJ:TE:=λ_ H Q=>∀p,H p=none->Q (.ref p) (upd H p (.dK []))
section
variable{X:Cx}{pos:Pos}
theorem GR:PE X (.Dict [] [] pos) MJ:=λpins s σ H Q I h=>
 wpAny_Dict_empty ⟨.ref s.heap.objs.size,_,I.laid (a:=s.heap.objs.size) (o:=.dK []) (t':=s.toks) (λ_ _ q=>Heap.get?_push_of_some _ q) (Nat.le_refl _) (uo s.heap I.big),rfl,h _ (I.hok.fresh (Nat.le_refl _))⟩
end
end L2
namespace Att
open PySem PySem.W PySem.Calls PyProof.Rows
theorem rJ{P:Params}{h:Heap}:∀(ns:List Int)(vs:List Value),WellAll P h vs (ns.map WData.int)->IntsAre vs ns:=by
 intro ns
 induction ns with
 |nil=>
  intro vs w;rw[List.map_nil]at w;cases w;exact .nil
 |cons n ns ih=>
  intro vs w;rw[List.map_cons]at w;cases w with
  |cons a b=>
   cases a;exact .cons _ _ (ih _ b)
theorem Ep{l:OpenLaw}{n:Nat}(hn:l.most=some n){P:Params}{h:Heap}{args:List WData}{vals:List Value}
  (hpre:l.row.toRowW.claim.pre args=true) (hwl:WellAll P h vals args) :
  ∃a vs ns,vals=[Value.ref a]/\args=[WData.list (ns.map WData.int)]/\h.get? a=some {cls:=.type "list",data:=.seq vs.toArray}/\IntsAre vs ns/\ns.length<=n:=by
 have hsh:WShape.hasAll [] args [.list .int]=true:=(pre_splitW hpre).1;have hc:l.pre.holds [] {args:=args}=true:=(pre_splitW hpre).2;obtain⟨d,r,rfl,h1,h2⟩:=hasAllW_cons hsh;obtain rfl:=hasAllW_nil h2;obtain⟨xs,rfl,h3⟩:=hasW_list h1;obtain⟨ns,rfl⟩:=items_int h3;have hlen:ns.length<=n:=by
  unfold OpenLaw.pre at hc;have h4:(WTm.not (.lt (.lit (.int (n:Int))) (.len (.arg 0)))).holds [] {args:=[.list (ns.map .int)]}=true:=by
   have h4:=(holds_andW hc).1;rw[hn]at h4;exact h4
  have h5:=condW_of h4 (w_not (w_lt w_lit (w_len_list (w_arg rfl))));rw[List.length_map]at h5;refine Nat.le_of_not_lt λq=>?_;have q':(n:Int)<((ns.length:Nat):Int):=by omega
  first
   |(rw[decide_eq_true q']at h5;exact absurd h5 (by decide))
   |(simp at h5;omega)
 cases hwl with
 |cons w1 w2=>
  cases w2;cases w1 with
  |list ho hall=>exact⟨_,_,ns,rfl,rfl,ho,rJ ns _ hall,hlen⟩
theorem DX(l:OpenLaw)(args:List WData):l.row.toRowW.claim.post args (.bool true) args=true:=
 postW_of (r:=l.row.toRowW) (X:=(true==true))
  (show WShape.has [] (.bool true) .bool=true by first|rfl|decide|simp[WShape.has,WShape.arms,WShape.armsAll])
  (show(WTm.eq .res (.lit (.bool true))).value [] {args:=args,res:=some (.bool true),after:=args}=some (.bool (true==true))from w_eq_bool (w_res rfl) w_lit) rfl
theorem attach_call{l:OpenLaw}{n:Nat}{q:Program}{loose:List Str}{XP:(Str->Option Value)->Heap->Prop}{YP:World->Heap->Prop}{d:DefRec}
  (hn:l.most=some n) (hdf:d.params.defaults=[])
  (call:∀(w:World)(s₀ s₁:Shared)(mg mb:Str->Option Value)(fa:Addr)(o:Obj)(pm cd doc:Value)(a:Addr)(vs:List Value)(ns:List Int),
   Ground q loose [] XP w s₀ mg mb s₁.heap->YP w s₁.heap->
   s₁.heap.get? fa=some o->o.data= .func (docDef d.name d.params d.body d.scope pm cd doc)->s₁.heap.CodeRec cd d.name->mg d.name=some (.ref fa)->
   s₁.heap.get? a=some {cls:=.type "list",data:=.seq vs.toArray}->IntsAre vs ns->ns.length<=n->s₁.gens= #[]->
   codeAny (model l.prog w) callerA (.call (.ref fa) ⟨[.ref a],[]⟩) (λr s'=>r= .ok (.ret (.bool true))/\OldK s₁.heap s'.heap/\s'.os=s₁.os/\AllBare s'.gens) s₁) :
  WalkO q loose XP YP l.row.toRowW d [] (λf vs=>PySem.call f vs):=by
 intro w s₀ s₁ mg mb G Y fa o pm cd doc dV kV ho hd hcd hD hmg hg args vals as hpre hlay hrd hwl hlo;obtain rfl:dV= .none:=Dflts.none hD hdf;obtain rfl:kV= .none:=Dflts.noKw hD;obtain⟨a,vs,ns,rfl,rfl,hobj,hints,hlen⟩:=Ep hn hpre hwl;refine enter_call (codeAny_mono (call w s₀ s₁ mg mb fa o pm cd doc a vs ns G Y ho (fd_plain hd) hcd hmg hobj hints hlen hg) λr s' hq=>?_);obtain⟨rfl,h2,h3,h4⟩:=hq;exact⟨.inl ⟨.bool true,.bool true,[],rfl,λ_=>rfl,.bool true,DX l _,λ_=>⟨List.Pairwise.nil,λ_ hm=>(nomatch hm)⟩⟩,h2,h3,h4⟩
end Att
namespace L2
open PySem PySem.Spec PyProof.Rows
theorem vV:∀{vs:List Value}{ns:List Int},IntsAre vs ns->Vals (ns.map V.int) vs
 |_,_,.nil=>.nil
 |_,_,.cons n t h=>.cons ⟨t,rfl⟩ (vV h)
def Only(H:Hp):Prop:=∀b,H b=none∨∃o xs,H b=some (.frz o (.lst xs))
theorem Gv{P:Program}{w:World}{K:PySem.W.Frag}{mg mb:Str->Option Value}{CX:CXT}{k:Nat}{fa a:Addr}{fd:FuncData}{x:Str}{sp:Sp}{s₁:Shared}{vs:List Value}{ns:List Int}
  (KX:K.In s₁.heap) (hns:s₁.heap.Ns mainGlobals mg) (hb:s₁.heap.Ns builtinsNs mb) (hbb:∀x:Str,x≠"__name__"->mb x=bootBuiltins x) (hlim:s₁.heap.NoLimit) (hg:s₁.gens= #[])
  (ha:s₁.heap.get? a=some {cls:=.type "list",data:=.seq vs.toArray}) (hi:IntsAre vs ns) (hl:ns.length<=sizeLine) (hr:jd k callerA)
  (F:∀base:Heap,K.In base->base.Ns mainGlobals mg->e_ P w K mg base CX k fa fd [x] sp) (hbind:∀(s:Shared)(u:Value),BindsTo s fd ⟨[u],[]⟩ [(x,u)])
  (hsp:∀H:Hp,Only H->SqL K H a (ns.map V.int)->sp [.ref a] H (λv _=>v= .bl true) λ_ _ _=>False)
  (hCX:∀H e s',CX [] H s₁ (λ_ _ _=>False) e s'->False) :
  codeAny (model P w) callerA (.call (.ref fa) ⟨[.ref a],[]⟩) (λr s'=>r= .ok (.ret (.bool true))/\OldK s₁.heap s'.heap/\s'.os=s₁.os/\AllBare s'.gens) s₁:=by
 have rv:=vV hi;have lenV:=hi.length;have core:∀H:Hp,Only H->SqL K H a (ns.map V.int)->HOk P w H s₁.heap->(∀b,H b≠none->b=a)->(H a≠none->K.lookup a=none)->
   codeAny (model P w) callerA (.call (.ref fa) ⟨[.ref a],[]⟩) (λr s'=>r= .ok (.ret (.bool true))/\OldK s₁.heap s'.heap/\s'.os=s₁.os/\AllBare s'.gens) s₁:=by
  intro H hO hS hok hA hK;have base_of:∀{b:Addr}{o:Obj},s₁.heap.get? b=some o->H b=none->(xQ s₁.heap H).get? b=some o:=λe n=>Ip e n;have noA:∀{b:Addr}{o:Obj}{es:Array DictEntry}{ep:Nat},s₁.heap.get? b=some o->o.data= .dict es ep->H b=none:=λ{b o es ep} e d=>by
   cases q:H b with
   |none=>rfl
   |some u=>
    have e':b=a:=hA b (by rw[q];simp);subst e';rw[ha]at e;cases e;have d':Data.seq vs.toArray _=Data.dict es ep:=d;cases d'
  have nsK:∀{b:Addr}{m:Str->Option Value},s₁.heap.Ns b m->(xQ s₁.heap H).Ns b m:=λ{b m}⟨o,es,ep,e,d,r⟩=>⟨o,es,ep,base_of e (noA e d),d,r⟩;have hKb:K.In (xQ s₁.heap H):=λb o e=>base_of (KX b o e) (by
   cases q:H b with
   |none=>rfl
   |some u=>
    have e':b=a:=hA b (by rw[q];simp);subst e';rw[hK (by rw[q];simp)]at e;cases e)
  have hM:Mod K mg (xQ s₁.heap H):=⟨hKb,nsK hns,⟨mb,nsK hb,hbb⟩,let⟨mc,h1,h2⟩:=hlim;⟨mc,nsK h1,h2⟩⟩;have e0:Kh P w K mg (xQ s₁.heap H) callerA [] s₁ H:=⟨rfl,hM,λb o e=>Kc e,Nat.le_of_eq (Dl _ _),trivial,λb hb=>absurd (show b∈([]:List Addr)from hb) (by simp),hok,.of_eq hg⟩;refine codeAny_mono ((F _ hKb (nsK hns)).run callerA [] s₁ H ⟨[.ref a],[]⟩ [.ref a] [.ref a] _ _ hr e0 (hbind s₁ (.ref a)) (.cons rfl .nil) (hsp H hO hS)) λr s' h=>?_;cases r with
  |error e=>exact(hCX H e s' h).elim
  |ok fl=>
   cases fl with
   |next=>exact False.elim h
   |brk=>exact False.elim h
   |cont=>exact False.elim h
   |ret u=>
    obtain⟨v,H',os,bare,un,hok',r',q⟩:=h;have q':v= .bl true:=q;subst q';obtain rfl:u=Value.bool true:=r';refine⟨rfl,OldK.of_keep λb o e=>?_,os,bare⟩;cases q:H b with
    |none=>exact un.keep b o e q (by intro z;exact absurd (show b∈([]:List Addr)from z) (by simp)) (by simp)
    |some u=>
     rcases hO b with z|⟨ob,xs,z⟩
     .rw[q]at z;cases z
     .have z2:=un.frzs b ob _ z
      obtain⟨e1,_⟩:=hok b _ z;obtain⟨e2,_⟩:=hok' b _ z2;rw[e]at e1;cases e1;exact e2
 cases hk:K.lookup a with
 |some o=>
  have e:=KX a o hk;rw[ha]at e;cases e;refine core (λ_=>none) (λ_=>.inl rfl) (.inr ⟨_,vs.toArray,_,hk,rfl,rfl,rfl,by rw[List.size_toArray,lenV];exact hl,by simpa using rv⟩) (λb u z=>by have z':(none:Option HO)=some u:=z;cases z') (λb z=>absurd rfl z) λz=>absurd rfl z
 |none=>
  refine core (λb=>if b=a then some (.frz {cls:=.type "list",data:=.seq vs.toArray} (.lst (ns.map V.int)))else none) (λb=>?_) (.inl (.inr ⟨{cls:=.type "list",data:=.seq vs.toArray},if_pos rfl⟩)) (λb u z=>?_) (λb z=>?_) λ_=>hk
  .by_cases hb:b=a
   .exact .inr ⟨_,_,if_pos hb⟩
   .exact .inl (if_neg hb)
  .by_cases hb:b=a
   .have z':=(if_pos hb).symm.trans z
    cases z';subst hb;exact⟨ha,by rw[List.length_map];exact hl,vs,_,rv,ha⟩
   .have z':=(if_neg hb).symm.trans z
    cases z'
  .by_cases hb:b=a
   .exact hb
   .exact absurd (if_neg hb) z
theorem walk_of{l:PySem.W.OpenLaw}{n k:Nat}{q:Program}{loose:List Str}{XP:(Str->Option Value)->Heap->Prop}{YP:World->Heap->Prop}{d:DefRec}{K:Params->PySem.W.Frag}{CX:World->CXT}{sp:World->Sp}{x:Str}
  (hn:l.most=some n) (hn2:n<=sizeLine) (hdf:d.params.defaults=[]) (hr:jd k callerA)
  (hY:∀(w:World)(h:Heap),YP w h->(K w.params).In h)
  (F:∀(w:World)(mg:Str->Option Value)(fa:Addr)(h:Heap),(K w.params).In h->h.Ns mainGlobals mg->mg d.name=some (.ref fa)->
   ∃fd:FuncData,(∀(s:Shared)(u:Value),BindsTo s fd ⟨[u],[]⟩ [(x,u)])/\
    ∀base:Heap,(K w.params).In base->base.Ns mainGlobals mg->e_ l.prog w (K w.params) mg base (CX w) k fa fd [x] (sp w))
  (hsp:∀(w:World)(H:Hp)(a:Addr)(ns:List Int),ns.length<=n->Only H->SqL (K w.params) H a (ns.map V.int)->sp w [.ref a] H (λv _=>v= .bl true) λ_ _ _=>False)
  (hCX:∀(w:World)(H:Hp)(s:Shared)(e:Value)(s':Shared),CX w [] H s (λ_ _ _=>False) e s'->False) :
  PySem.W.WalkO q loose XP YP l.row.toRowW d [] (λf vs=>PySem.call f vs):=by
 refine Att.attach_call hn hdf λw s₀ s₁ mg mb fa o pm cd doc a vs ns G Y ho hd hcd hmg hobj hints hlen hg=>?_;have KX:=hY w _ Y;obtain⟨fd,hb,hF⟩:=F w mg fa _ KX G.T.g hmg;exact Gv KX G.T.g G.T.b G.T.builtins G.T.nolimit hg hobj hints (Nat.le_trans hlen hn2) hr hF hb (λH hO hS=>hsp w H a ns hlen hO hS) λH e s'=>hCX w H s₁ e s'
def bC(s:Stmt):Arguments:=match s with
 |.FunctionDef _ a _ _ _ _ _ _ _ _=>a
 |_=>{posonlyargs:=[],args:=[],vararg:=none,kwonlyargs:=[],kw_defaults:=[],kwarg:=none,defaults:=[]}
def bu(s:Stmt):List Stmt:=match s with
 |.FunctionDef _ _ b _ _ _ _ _ _ _=>b
 |_=>[]
def aA(s:Stmt):Scope:=match s with
 |.FunctionDef _ _ _ _ _ _ sc _ _ _=>sc
 |_=>{kind:=.function,names:=[],isGenerator:=false,isCoroutine:=false}
abbrev CX0:CXT:=λ_ _ _ _ _ _=>False
abbrev E0:XK:=λ_ _ _=>False
theorem QQ{X:Cx}:Ay CX0 X E0:=λ_ _ _ _ _ _ _ h=>h.elim
structure Fun(K:PySem.W.Frag)(x qual:Str)(st:Stmt)(f:Addr)(fd:FuncData):Prop where
 ex:∃(oc:Value)(od:Option Addr)(kV doc pm:Value)(an:Option Addr)(cdv ct:Value)(osl:Array (Option Value)),
  fd=PySem.W.fnOf x qual (bC st) (bu st) (aA st) .none kV doc pm an cdv ct/\K.lookup f=some ⟨oc,od,.func fd,osl⟩/\PySem.W.codeIn K cdv qual=true
 kp:PySem.W.keepIn K (.ref f)=true
section
variable{P:Program}{w:World}{K:PySem.W.Frag}{mg:Str->Option Value}{base:Heap}
theorem Fun.ok{x qual:Str}{st:Stmt}{f:Addr}{fd:FuncData}{N ps:List Str}{k:Nat}{sp:Sp}(F:Fun K x qual st f fd)(S:bF N ps (aA st))(len:∀vs H Q E,sp vs H Q E->vs.length=ps.length)
  (hbody:∀(cdv:Value)(A:Around)(outer:List Env)(s:Shared)(H:Hp)(vs:List V)(Q:VK)(E:XK),jd k (A.deeper (envOfC qual (aA st) s.heap.objs.size f cdv))->sp vs H Q E->
   ∃t,PSs (xZ CX0 P w K mg base N qual (aA st) f cdv A outer s H E).nox (bu st) t/\t {nx:=λ_ H'=>Q .non H',rt:=Q} (start N vs) H):e_ P w K mg base CX0 (k+1) f fd ps sp:=by
 obtain⟨oc,od,kV,doc,pm,an,cdv,ct,osl,rfl,lk,hcd⟩:=F.ex;refine QG lk hcd S len λA outer s H vs Q E hr hsp=>?_;obtain⟨t,h,q⟩:=hbody cdv A outer s H vs Q E hr hsp;exact⟨t,h.nox,q⟩
theorem Fun.binds{x qual:Str}{st:Stmt}{f:Addr}{fd:FuncData}{ps:List Str}(F:Fun K x qual st f fd)
  (h:∀(kV doc pm:Value)(an:Option Addr)(cdv ct:Value)(us:List Value),us.length=ps.length->bindArgs (PySem.W.fnOf x qual (bC st) (bu st) (aA st) .none kV doc pm an cdv ct) ⟨us,[]⟩=pure (ps.zip us)):Binds K fd ps []:=by
 obtain⟨oc,od,kV,doc,pm,an,cdv,ct,osl,rfl,lk,hcd⟩:=F.ex;exact .all (h kV doc pm an cdv ct)
theorem dJ{x qual:Str}{st:Stmt}{f:Addr}{oc:Value}{od an:Option Addr}{osl:Array (Option Value)}{kV doc pm cdv ct:Value}(l:K.lookup f=some ⟨oc,od,.func (PySem.W.fnOf x qual (bC st) (bu st) (aA st) .none kV doc pm an cdv ct),osl⟩)
 (c:PySem.W.codeIn K cdv qual=true) (k:PySem.W.keepIn K (.ref f)=true):Fun K x qual st f (PySem.W.fnOf x qual (bC st) (bu st) (aA st) .none kV doc pm an cdv ct):=⟨⟨oc,od,kV,doc,pm,an,cdv,ct,osl,rfl,l,c⟩,k⟩
end
section
variable{X:Cx}
theorem pv(i:Nat){x:Str}{pos:Pos}(hN:X.N[i]? =some x:=by rfl)(hv:Vis X.env.scope x:=by first|exact Or.inl rfl|exact Or.inr (Or.inl rfl)|exact Or.inr (Or.inr rfl))(hd:(x==("__debug__":Str))=false:=by decide)
 (hcd:(x==("__classdict__":Str))=false:=by decide):PE X (.Name x pos) (JZ i):=Mp hN hv hd hcd
end
theorem zF{A B:Prop}(h:B):if false=true then A else B:=by
 rw[if_neg Bool.false_ne_true];exact h
theorem ur{A B:Prop}(h:A):if true=true then A else B:=by
 rw[if_pos rfl];exact h
def Same(H H':Hp):Prop:=∀b o,H b=some o->H' b=some o
theorem Same.refl(H:Hp):Same H H:=λ_ _ h=>h
theorem Same.trans{H H1 H2:Hp}(a:Same H H1)(b:Same H1 H2):Same H H2:=λc o h=>b c o (a c o h)
theorem Same.free{H H':Hp}(e:Same H H'){l:Addr}(h:H' l=Option.none):H l=Option.none:=by
 cases q:H l with
 |none=>rfl
 |some o=>
  rw[e l o q]at h;cases h
section
variable{X:Cx}
theorem Es:cM X (.builtin "len") (λxs H Q=>∃a kvs,xs=[V.ref a]/\H a=some (.dK kvs)/\Q (.int kvs.length) H):=by
 intro pins s σ H xs us Q I r h;obtain⟨a,kvs,rfl,ha,q⟩:=h;obtain⟨u,rfl,ru⟩:=vals1 r;cases ru;exact Rc I (.inl ha) λt s' I'=>⟨.int kvs.length,H,I',⟨t,rfl⟩,q⟩
end
end L2
set_option maxHeartbeats 4000000
namespace Jb
open PySem PySem.Spec PyProof.Rows L2
structure Cal(P:Program)(w:World)(K:PySem.W.Frag)(mg:Str->Option Value)(base:Heap)(k:Nat)(x:Str)(ps:List Str)(sp:Sp):Prop where
 ex:∃f fd,e_ P w K mg base CX0 k f fd ps sp/\mg x=some (.ref f)/\PySem.W.keepIn K (.ref f)=true/\Binds K fd ps []
section
variable{X:Cx}{e:Expr}{es:List Expr}{t:TA}{p pos:Pos}{a b:Expr}{ta tb:TE}
theorem Gn{k:Nat}{x:Str}{ps:List Str}{sp:Sp}(C:Cal X.prog X.w X.K X.mg X.base k x ps sp)(hr:jd k X.A)(hg:Gl X x)(ha:PA X (e::es) t)
  (hdb:(x==("__debug__":Str))=false:=by decide) (he:starEach (e::es) X.env=(false,eval e X.env)::starEach es X.env:=by rfl) (hpl:(backTo pos (starEach es X.env)).any (·.1)=false:=by rfl) :
  PE X (.Call (.Name x p) (e::es) [] pos) (Mf sp [] E0 t):=by
 obtain⟨f,fd,F,hm,hk,hb⟩:=C.ex;exact J4 F hr hg hm hk hb .nil QQ ha hdb he hpl
theorem RD{x:Str}{n:String}(hg:Gl X x)(hm:X.mg x=none)(hv:bootBuiltins x=some (.type n))(hn:x≠"__name__":=by decide)(hd:(x==("__debug__":Str))=false:=by decide):PE X (.Name x pos) (tC (.ty n)):=
 K3 hg hm hv rfl hn hd
def Qs(_ j:Int):Prop:=0<j/\j<18446744073709551616
theorem Iu:OpR X (binaryOp .FloorDiv) (rI Qs λi j=>.int (i / j)):=opI λi j _ _ _ _ _ hc q=>by
 have h1:(0:Int)<j:=hc.1;have h2:j<18446744073709551616:=hc.2;have h3:j.natAbs<2 ^ 64:=by omega
 have h4:j.natAbs≠0:=by omega
 have h5:j.natAbs.log2<64:=(Nat.log2_lt h4).mpr h3;exact floordiv_int (by omega) (by rw[Int.fdiv_eq_ediv_of_nonneg i (by omega)];exact q) (.inl (PyProof.noPylong_of_log2 (by omega)))
theorem yP:cM X (.builtin "isinstance") (λxs H Q=>∃x n t b,xs=[x,.ty n]/\lC X.K H x t/\PySem.W.kitOne X.K t (.type n)=some b/\Q (.bl b) H):=by
 intro pins s σ H xs us Q I r h;obtain⟨x,n,t,b,rfl,ty,e,q⟩:=h;obtain⟨u,w',rfl,r1,r2⟩:=vals2 r;cases r2;exact Ef I r1 ty e λtk=>⟨.bl b,H,I.tok tk,rfl,q⟩
end
theorem Same.new{q:Addr}{H:Hp}{o:HO}(h:H q=none):Same H (L2.upd H q o):=λb u e=>by rw[aP (aZ e h)];exact e
theorem Aa{α β:Type}{l:List α}{f:α->β->Sem (ForInStep β)}(g:β->α->β):∀(init:β),(∀x∈l,∀c,f x c=pure (.yield (g c x)))->forIn l init f=pure (l.foldl g init):=by
 induction l with
 |nil=>intro init _;rfl
 |cons x r ih=>
  intro init h;rw[List.forIn_cons,h x List.mem_cons_self init];show(pure (ForInStep.yield (g init x)) >>=_)=_;rw[pure_bind];exact ih (g init x) λy hy c=>h y (List.mem_cons_of_mem _ hy) c
def mZ(env:Env)(cs:List (Str×Addr))(y:Str×NameKind):List (Str×Addr):=if y.2== .free then(y.1,(env.cells.lookup y.1).getD 0)::cs else cs
def ud(scope:Scope)(env:Env):List (Str×Addr):=scope.names.foldl (mZ env) []
theorem m7{scope:Scope}{env:Env}(h:∀y∈scope.names,y.2= .free->∃c,env.cells.lookup y.1=some c):closureFor scope env=pure (ud scope env):=by
 unfold closureFor;dsimp only;rw[Aa (mZ env) [] λy hy c=>?_]
 .rw[pure_bind]
  rfl
 .obtain⟨n,k⟩:=y
  unfold mZ;dsimp only;by_cases hk:(k==NameKind.free)=true
  .rw[if_pos hk,if_pos hk]
   obtain⟨a,ha⟩:=h (n,k) hy (by simpa using hk);have ha:env.cells.lookup n=some a:=ha;unfold cellOf;rw[ha];rfl
  .rw[if_neg hk,if_neg hk]
theorem vM{env:Env}(R:Str->Addr->Prop):∀(l:List (Str×NameKind))(acc:List (Str×Addr)),(∀x c,acc.lookup x=some c->R x c)->(∀y∈l,y.2= .free->R y.1 ((env.cells.lookup y.1).getD 0))->
  ∀x c,(l.foldl (mZ env) acc).lookup x=some c->R x c
 |[],acc,h,_=>h
 |y::r,acc,h,hy=>by
  refine vM R r (mZ env acc y) (λx c e=>?_) λz hz=>hy z (List.mem_cons_of_mem _ hz);unfold mZ at e;split at e
  .rename_i hk
   rw[List.lookup_cons]at e;cases hx:(x==y.1)with
   |true=>
    rw[hx]at e;have ex:x=y.1:=by simpa using hx
    cases e;rw[ex];exact hy y List.mem_cons_self (by simpa using hk)
   |false=>
    rw[hx]at e;exact h x c e
  .exact h x c e
theorem pQ{env:Env}:∀(l:List (Str×NameKind))(acc:List (Str×Addr))(x:Str),((∃c,acc.lookup x=some c)∨(x,NameKind.free)∈l)->∃c,(l.foldl (mZ env) acc).lookup x=some c
 |[],acc,x,h=>by
  rcases h with h|h
  .exact h
  .cases h
 |y::r,acc,x,h=>by
  refine pQ r (mZ env acc y) x ?_;rcases h with⟨c,h⟩|h
  .left
   unfold mZ;split
   .rw[List.lookup_cons]
    cases hx:(x==y.1)with
    |true=>exact⟨_,rfl⟩
    |false=>exact⟨c,h⟩
   .exact⟨c,h⟩
  .rcases List.mem_cons.mp h with e|e
   .left
    unfold mZ;subst e;rw[if_pos (by rfl),List.lookup_cons,show(x==x)=true by simp];exact⟨_,rfl⟩
   .exact .inr e
def cV(X:Cx)(N':List Str)(scope:Scope)(C:Addr)(s₂:Shared)(H₂:Hp)(fp:List Addr):Cx:=
 {X with N:=N',s₀:=s₂,H₀:=H₂,env:=compEnvC scope (ud scope X.env) C X.env,outer:=X.stack,stack:=X.stack,ex:=fp,fn:=λ_=>false,pn:=[],xe:=λ_ _=>False}
def ie(cap:List (Option Nat))(σ:L2.St):L2.St:=cap.map λo=>o.bind λj=>(σ[j]?).bind id
structure cQ(sc:Scope)(N N':List Str)(scope:Scope)(cap:List (Option Nat)):Prop where
 kind:scope.kind= .function
 nocell:∀y∈scope.names,y.2≠.cell
 nm:∀y∈scope.names,y.2= .local->scope.names.lookup y.1=some .local
 free:∀y∈scope.names,y.2= .free->sc.names.lookup y.1=some .cell∨sc.names.lookup y.1=some .free
 len:cap.length=N'.length
 cap:∀i∈List.range cap.length,∀j∈List.range N.length,cap[i]? =some (some j)->N[j]? =N'[i]?/\∀x∈N'[i]?,scope.names.lookup x=some .free
theorem lG{α:Type}{l:List (Str×α)}{x:Str}{k:α}(h:l.lookup x=some k):(x,k)∈l:=PySem.mem_of_lookup h
theorem pq{scope:Scope}{env:Env}{x:Str}{k:NameKind}(hk:(relabel scope env).names.lookup x=some k)(hk2:k= .cell∨k= .free)(hnc:∀y∈scope.names,y.2≠.cell):(x,NameKind.free)∈scope.names:=by
 have h:=lG hk;obtain⟨⟨n,q⟩,hm,e⟩:=List.mem_map.mp h;dsimp only at e;split at e
 .rename_i hc
  cases e;have:q= .free:=by
   have:=(Bool.and_eq_true_iff.mp (Bool.and_eq_true_iff.mp hc).1).1;simpa using this
  subst this;exact hm
 .cases e
  rcases hk2 with z|z
  .subst z;exact absurd rfl (hnc _ hm)
  .subst z;exact hm
section
variable{X:Cx}{pins:List (Addr×Obj)}{σ:L2.St}{H:Hp}{s:Shared}{scope:Scope}{N':List Str}{cap:List (Option Nat)}{fp:List Addr}{C:Addr}
theorem jo(I:Inv X pins σ H s)(O:cQ X.env.scope X.N N' scope cap){x:Str}{c:Addr}(h:(ud scope X.env).lookup x=some c):X.env.cells.lookup x=some c:=by
 refine vM (λx c=>X.env.cells.lookup x=some c) scope.names [] (λx c e=>by simp at e) (λy hy hk=>?_) x c h;obtain⟨c,e⟩:=I.ok.has y.1 (O.free y hy hk);rw[e];rfl
theorem JK(I:Inv X pins σ H s)(O:cQ X.env.scope X.N N' scope cap)(hf:∀b∈fp,j6 X pins H b)(hlt:∀b∈fp,b<s.heap.objs.size)(hC:s.heap.objs.size<=C):(cV X N' scope C s H fp).Ok where
 mod:=I.ok.mod
 kind:=O.kind
 glob:=I.ok.glob
 blt:=I.ok.blt
 above:=hC
 inj:=λx y c h1 h2=>I.ok.inj x y c (jo I O h1) (jo I O h2)
 has:=λx h=>by
  refine pQ scope.names [] x (.inr ?_);rcases h with h|h
  .exact pq h (.inl rfl) O.nocell
  .exact pq h (.inr rfl) O.nocell
 cab:=λx c h _=>by cases h
 hd:=I.ok.hd
 frames:=I.ok.frames
 stk:=.inl rfl
 exf:=λb hb=>⟨Nat.ne_of_lt (Nat.lt_of_lt_of_le (hlt b hb) hC),λx c e=>(hf b hb).2.2.2.2.1 x c (jo I O e)⟩
 bs:=I.bs
 bsz:=Nat.le_trans I.ok.bsz I.sz
 noex:=λb o e hb=>by
  rcases(hf b hb).2.2.2.1 with z|z
  .exact I.ok.noex b o e z
  .exact absurd (Nat.lt_of_lt_of_le (Heap.lt_size (I.ok.bs b o e).1) z) (Nat.lt_irrefl _)
 exfs:=λb hb z=>by
  rcases List.mem_cons.mp (I.stkSub b z)with q|q
  .exact(hf b hb).2.1 q
  .exact(hf b hb).2.2.1 q
 funs:=I.stack
 frf:=I.stkFree
theorem Hx{h₁:Heap}{tk:Nat}{D:Addr}{o:Obj}(I:Inv X pins σ H s)(O:cQ X.env.scope X.N N' scope cap)(hf:∀b∈fp,j6 X pins H b)(hlt:∀b∈fp,b<s.heap.objs.size)
  (hC:s.heap.objs.size<=C) (hD:s.heap.objs.size<=D) (hDC:D≠C) (old:∀b u,s.heap.get? b=some u->h₁.get? b=some u) {m:Str->Option Value} (hns:h₁.Ns C m) (hDo:h₁.get? D=some o) (hoc:∀v,o.data≠.cell v) :
  Inv (cV X N' scope C s H fp) [(D,o)] (ie cap σ) H {s with heap:=h₁,toks:=tk}where
 ok:=JK I O hf hlt hC
 os:=rfl
 bare:=I.bare
 base:=Un.kept old
 loc:=by
  refine⟨m,hns,λi x v e1 e2 e3=>?_⟩;have e1:N'[i]? =some x:=e1;unfold ie at e2;rw[List.getElem?_map]at e2;cases hc:cap[i]? with
  |none=>rw[hc]at e2;cases e2
  |some q=>
   rw[hc]at e2;cases q with
   |none=>cases e2
   |some j=>
    have e2:(σ[j]?).bind id=some v:=Option.some.inj e2;have e2':σ[j]? =some (some v):=by
     cases z:σ[j]? with
     |none=>rw[z]at e2;cases e2
     |some y=>
      rw[z]at e2;have:y=some v:=e2;rw[this]
    have hi:i<cap.length:=(List.getElem?_eq_some_iff.mp hc).1;have hj:j<X.N.length:=by
     have:=(List.getElem?_eq_some_iff.mp e2').1;rw[I.len]at this;exact this
    obtain⟨c1,c2⟩:=O.cap i (List.mem_range.mpr hi) j (List.mem_range.mpr hj) hc;have hfr:scope.names.lookup x=some .free:=c2 x (by rw[e1];rfl);have hN:X.N[j]? =some x:=c1.trans e1;have hfm:=lG hfr;have hvis:Vis X.env.scope x:=(O.free _ hfm rfl).elim (λz=>.inr (.inl z)) λz=>.inr (.inr z);obtain⟨m0,_,hl⟩:=I.loc;obtain⟨u,r,lk⟩:=hl j x v hN e2' hvis;refine⟨u,r,?_⟩;rcases lk with⟨k,_⟩|⟨_,c,ec,hcell⟩
    .have k:X.env.scope.names.lookup x=some .local:=k
     rcases O.free _ hfm rfl with z|z
     .rw[k]at z;cases z
     .rw[k]at z;cases z
    .right
     obtain⟨c',ec'⟩:=pQ (env:=X.env) scope.names [] x (.inr hfm);have e3':=jo I O ec';rw[ec]at e3';cases e3';refine⟨?_,c,ec',?_⟩
     .have e3:Vis (relabel scope X.env) x:=e3
      rcases e3 with e3|e3|e3
      .exfalso
       have hm:=lG e3;obtain⟨⟨n,q⟩,hm',e⟩:=List.mem_map.mp hm;dsimp only at e;split at e
       .cases e
       .cases e
        have:=O.nm _ hm' rfl;rw[hfr]at this;cases this
      .exact .inl e3
      .exact .inr e3
     .obtain⟨oc,h1,h2⟩:=hcell
      exact⟨oc,old _ _ h1,h2⟩
 cell:=λx c e=>by
  obtain⟨v,oc,h1,h2⟩:=I.cell x c (jo I O e);exact⟨v,oc,old _ _ h1,h2⟩
 free:=I.hok.fresh hC
 freeC:=λx c e=>I.freeC x c (jo I O e)
 pin:=λp hp=>by
  have e:p=(D,o):=by simpa[cV]using hp
  subst e;refine⟨hDo,I.hok.fresh hD,hDC,λz=>?_,hoc⟩;obtain⟨b,hb,e⟩:=List.mem_filterMap.mp z;have hz:D∈X.env.locals::X.fs:=I.stkSub D z;rcases List.mem_cons.mp hz with q|q
  .exact absurd (Nat.lt_of_lt_of_le (by rw[q];exact I.lt) hD) (Nat.lt_irrefl _)
  .exact I.nofs hD q
 hok:=I.hok.kept old
 len:=by
  unfold ie;rw[List.length_map];exact O.len
end
abbrev NoX:Value->Shared->Prop:=λ_ _=>False
section
variable{prog:Program}{w:World}{A:Around}{R:Result->Shared->Prop}{s:Shared}
theorem wN{elt target iter:Expr}{ifs:List Expr}{scope:Scope}{pos:Pos}{it acc:Value}{env:Env}(I:Nat->Shared->Prop)
  (turn:∀n s,I n s->wpAny (model prog w) A (pyNext it) (λr s₁=>match r with
   |none=>R (.ok .next) s₁
   |some v=>wpAny (model prog w) A (letOwnedTupleGo target it v) (λ_ s₁'=>wpAny (model prog w) A (assign target env v) (λ_ s₂=>
    wpAny (model prog w) A (forIn ifs true λc r=>if r=true then do let ok ←isTrue c env (eval c env);pure (ForInStep.yield ok)else pure (ForInStep.yield r)) (λok s₃=>
     if ok=true then wpAny (model prog w) A (eval elt env) (λx s₄=>wpAny (model prog w) A (call (.builtin "list.append") [acc,x]) (λ_ s₅=>∃m,m<n/\I m s₅) NoX s₄) NoX s₃
     else ∃m,m<n/\I m s₃) NoX s₂) NoX s₁') NoX s₁) NoX s)
  (n:Nat) (h:I n s):codeAny (model prog w) A (.compLoop (.ListComp elt [⟨target,iter,ifs,0⟩] scope pos) 0 it acc env) R s:=by
 refine codeAny_loop rfl I (λn s hI=>?_) n h;show wpAny _ A ((compTurn (.ListComp elt [⟨target,iter,ifs,0⟩] scope pos) 0 it acc env).onRaise (λx=>do noteFrame x env;theTreesLotGoes x)) _ _ s;refine wpAny_noted ?_;rw[compTurn_list];refine wpAny_bind (wpAny_standAt (wpAny_bind (wpAny_mono (turn n s hI) (λr s₁ h₁=>?_) λ_ _ h'=>h'.elim)));cases r with
 |none=>exact wpAny_pure h₁
 |some v=>
  refine wpAny_bind (wpAny_mono h₁ (λ_ s₁' h₁'=>?_) λ_ _ h'=>h'.elim);refine wpAny_bind (wpAny_mono h₁' (λ_ s₂ h₂=>wpAny_bind (wpAny_mono h₂ (λok s₃ h₃=>?_) λ_ _ h'=>h'.elim)) λ_ _ h'=>h'.elim);cases ok with
  |false=>exact wpAny_pure ⟨rfl,h₃⟩
  |true=>
   exact wpAny_bind (wpAny_bind (wpAny_mono h₃ (λx s₄ h₄=>wpAny_bind (wpAny_mono h₄ (λ_ s₅ h₅=>wpAny_pure (wpAny_pure ⟨rfl,h₅⟩)) λ_ _ h'=>h'.elim)) λ_ _ h'=>h'.elim))
end
def PTs(X:Cx)(ifs:List Expr)(t:TT):Prop:=
 ∀(pins:List (Addr×Obj))(s:Shared)(σ:L2.St)(H:Hp)(Q:Bool->Hp->Prop),Inv X pins σ H s->t σ H Q->
  wpAny (model X.prog X.w) X.A (forIn ifs true λc r=>if r=true then do let ok ←isTrue c X.env (eval c X.env);pure (ForInStep.yield ok)else pure (ForInStep.yield r)) (TP X pins σ Q) X.xe s
def Qn:TT:=λ_ H Q=>Q true H
theorem J_{X:Cx}:PTs X [] Qn:=λ_ _ _ H _ I h=>wpAny_tests_nil ⟨H,I,h⟩
theorem KD{X:Cx}{c:Expr}{t:TT}(h:PT X c t):PTs X [c] t:=λpins s σ H Q I q=>wpAny_tests_one (h pins s σ H Q I q)
def Kp(σ τ:L2.St):Prop:=∀(i:Nat) v,σ[i]? =some (some v)->τ[i]? =some (some v)
theorem Kp.nil:Kp [] []:=λi v h=>h
theorem Kp.none{σ τ:L2.St}{a:Option V}(h:Kp σ τ):Kp (Option.none::σ) (a::τ):=λi v e=>by
 cases i with
 |zero=>cases e
 |succ i=>exact h i v e
theorem Kp.cons{σ τ:L2.St}{a:Option V}(h:Kp σ τ):Kp (a::σ) (a::τ):=λi v e=>by
 cases i with
 |zero=>exact e
 |succ i=>exact h i v e
def Mi(J:It)(H:Hp)(g:TG)(tt:TT)(te:TE)(σ:L2.St)(Q:List V->Hp->Prop):Prop:=
 ∃W:Nat->Nat->List V->Hp->Prop,(∃m,W 0 m [] H)/\∀i m ys H,W i m ys H->
  (J.stop i H/\Q ys H)∨(J.go i H/\ys.length<sizeLine/\∃N:List V->Hp->Prop,(∀ys' H',N ys' H'->∃m',m'<m/\W (i+1) m' ys' H')/\
   ∀x H',J.yld i H x H'->g x σ H' λσ2 H2=>Kp σ σ2/\tt σ2 H2 λb H3=>if b=true then te σ2 H3 λv H4=>N (ys++[v]) H4 else N ys H3)
def Bo(cap:List (Option Nat))(wi:TI)(g:TG)(tt:TT)(te:TE):TE:=λσ H Q=>wi σ H λJ H1=>
 Mi J H1 g tt te (ie cap σ) λys H2=>ys.length<=sizeLine/\∀D,H2 D=none->Q (.ref D) (upd H2 D (.lst ys))
section
variable{X:Cx}{elt target iter:Expr}{ifs:List Expr}{scope:Scope}{pos:Pos}{N':List Str}{cap:List (Option Nat)}{wi:TI}{g:TG}{tt:TT}{te:TE}
def lobj(its:List Value)(n:Nat):Obj:={cls:=.type "list",data:=.seq its.toArray n}
theorem ul{pins:List (Addr×Obj)}{σ:L2.St}{H:Hp}{s₂:Shared}{it:Addr}{fp:List Addr}{tn:Nat->Heap->Prop}{J:It}{Q:List V->Hp->Prop}{RR:Value->Addr->Result->Shared->Prop}{E:Value->Shared->Prop}
  (hc:X.calm=true) (O:cQ X.env.scope X.N N' scope cap) (I:Inv X pins σ H s₂) (T:Turn X.prog X.w X.K target J fp it tn) (st:tn 0 s₂.heap) (f2:∀b∈fp,j6 X pins H b)
  (hg:∀C,PG (cV X N' scope C s₂ H fp) target g) (ht:∀C,PTs (cV X N' scope C s₂ H fp) ifs tt) (he:∀C,PE (cV X N' scope C s₂ H fp) elt te) (cw:Mi J H g tt te (ie cap σ) Q)
  (hRR:∀(D C:Addr)(s':Shared)(H':Hp)(ys:List V)(its:List Value)(n:Nat)(σ':L2.St),s₂.heap.objs.size<=D->s₂.heap.objs.size<=C->D≠C->Inv (cV X N' scope C s₂ H fp) [(D,lobj its n)] σ' H' s'->Vals ys its->Q ys H'->
   RR (.ref D) C (.ok .next) s') :
  wpAny (model X.prog X.w) X.A (newList []) (λacc s₃=>wpAny (model X.prog X.w) X.A (newFunctionEnv scope X.env.globals (ud scope X.env) [] X.env.qual none .none (some X.env)) (λcenv s₄=>
   codeAny (model X.prog X.w) X.A (.compStart (.ListComp elt [⟨target,iter,ifs,0⟩] scope pos) 0 (.ref it) acc {cenv with scope:=relabel scope X.env}) (RR acc cenv.locals) s₄) E s₃) E s₂:=by
 refine wpAny_newObj_type (wpAny_newFunctionEnv O.nocell (by intro y hy;simp at hy) (λh₁ hns₁ hsb₁=>?_) O.kind);dsimp only at hns₁ hsb₁⊢;generalize hH2:s₂.heap.push {cls:=.type "list",dict:=none,data:=.seq ([]:List Value).toArray}=H2 at hns₁ hsb₁⊢;have hC:H2.objs.size=s₂.heap.objs.size+1:=by rw[←hH2,Heap.size_push]
 have hDC:s₂.heap.objs.size≠H2.objs.size:=by rw[hC];exact Nat.ne_of_lt (Nat.lt_succ_self _)
 have hCle:s₂.heap.objs.size<=H2.objs.size:=by rw[hC];exact Nat.le_succ _
 have old:∀b o,s₂.heap.get? b=some o->h₁.get? b=some o:=λb o e=>hsb₁.extBut b o (by rw[hC];exact Nat.ne_of_lt (Nat.lt_succ_of_lt (Heap.lt_size e))) (Heap.get?_push_of_some _ (hH2▸Heap.get?_push_of_some _ e));have hacc:h₁.get? s₂.heap.objs.size=some (lobj [] 0):=hsb₁.extBut _ _ hDC (Heap.get?_push_of_some _ (hH2▸Heap.get?_push_size _ rfl));have hlt:∀b∈fp,b<s₂.heap.objs.size:=λb hb=>by
  obtain⟨o,e,_⟩:=T.obj 0 _ st b hb;exact Heap.lt_size e
 have I1:=Hx (tk:=s₂.toks+([]:List (Str×Value)).length) I O f2 hlt hCle (Nat.le_refl _) hDC old hns₁ hacc (λv z=>by cases z);have st1:tn 0 h₁:=T.keep _ _ _ st λb _ o e=>old b o e;obtain⟨W,⟨m0,w0⟩,turn⟩:=cw;generalize hD:s₂.heap.objs.size=D at *
 generalize hCC:H2.objs.size=C at *
 have stat:∀{H':Hp}{o:Obj},(∀b∈fp,H' b=none)->∀b∈fp,j6 (cV X N' scope C s₂ H fp) [(D,o)] H' b:=λ{H' o} hn b hb=>by
  refine⟨hn b hb,Nat.ne_of_lt (Nat.lt_of_lt_of_le (hlt b hb) hCle),I1.ok.exfs b hb,.inl hb,(I1.ok.exf b hb).2,λp hp=>?_⟩;have e:p=(D,o):=by simpa[cV]using hp
  subst e;exact Nat.ne_of_gt (hlt b hb)
 have loop:codeAny (model X.prog X.w) X.A (.compLoop (.ListComp elt [⟨target,iter,ifs,0⟩] scope pos) 0 (.ref it) (.ref D) (compEnvC scope (ud scope X.env) C X.env)) (RR (.ref D) C) {s₂ with heap:=h₁,toks:=s₂.toks+([]:List (Str×Value)).length}:=by
  refine wN (λn s'=>∃i ys its k H',Inv (cV X N' scope C s₂ H fp) [(D,lobj its k)] (ie cap σ) H' s'/\Vals ys its/\tn i s'.heap/\(∀b∈fp,H' b=none)/\W i n ys H') ?_ m0 ⟨0,[],[],0,H,I1,.nil,st1,λb hb=>(f2 b hb).1,w0⟩;rintro n s3 ⟨i,ys,its,k,H3,I3,rv,st3,fr3,w3⟩;rcases turn i n ys H3 w3 with⟨stop,qn⟩|⟨go,hsz,N,hN,step⟩
  .refine thn (T.done (cV X N' scope C s₂ H fp) rfl rfl rfl hc i _ s3 _ H3 NoX I3 (stat fr3) st3 stop) λr s4 ⟨hr,I4⟩=>?_
   subst hr;exact hRR D C s4 H3 ys its k _ (Nat.le_refl _) hCle hDC I4 rv qn
  .refine thn (T.item (cV X N' scope C s₂ H fp) rfl rfl rfl hc i _ s3 _ H3 NoX I3 (stat fr3) st3 go) λr s4 ⟨u,hr,h4⟩=>?_
   subst hr;refine thn h4 λ_ s5 ⟨x,H5,I5,r5,y5,st5,fr5⟩=>?_;have I5':=I5.pinned (stat fr5) (T.obj _ _ st5);refine thn (hg C _ s5 _ H5 x u _ I5' r5 (step x H5 y5)) λ_ s6 ⟨σ6,H6,I6,kp6,q6⟩=>?_;refine thn (ht C _ s6 σ6 H6 _ I6 q6) λok s7 ⟨H7,I7,q7⟩=>?_;have keepT:∀{s':Shared}{H':Hp}{σ':L2.St},Inv (cV X N' scope C s₂ H fp) ([(D,lobj its k)]++nH fp s5.heap) σ' H' s'->tn (i+1) s'.heap/\∀b∈fp,H' b=none:=λ{s' H' σ'} Ix=>by
    refine⟨T.keep _ _ _ st5 λb hb o e=>(Ix.pin (b,o) (List.mem_append_right _ (List.mem_append_right _ (fW hb e)))).1,λb hb=>?_⟩;obtain⟨o,e,d⟩:=T.obj _ _ st5 b hb;exact(Ix.pin (b,o) (List.mem_append_right _ (List.mem_append_right _ (fW hb e)))).2.1
   have ln6:(ie cap σ).length=σ6.length:=by rw[I6.len,I1.len]
   cases ok with
   |false=>
    have n7:N ys H7:=by simpa using q7
    obtain⟨m',hm,w7⟩:=hN _ _ n7;exact⟨m',hm,i+1,ys,its,k,H7,I7.unpinned.weak ln6 kp6,rv,(keepT I7).1,(keepT I7).2,w7⟩
   |true=>
    have q7:te σ6 H7 λv H4=>N (ys++[v]) H4:=by simpa using q7
    refine thn (he C _ s7 σ6 H7 _ I7 q7) λu8 s8 ⟨v,H8,I8,r8,n8⟩=>?_;obtain⟨eD,nD,_,nfD,_⟩:=I8.pin (D,lobj its k) (List.mem_append_right _ (List.mem_append_left _ List.mem_cons_self));have lv:=rv.length;refine call_meets F.slot_list_append ⟨_,eD,rfl⟩ F.entry_list_append (F.args_list_append_2 _ _) (PySem.list_append D its.toArray k u8 (by rw[List.size_toArray];omega)) ⟨eD,?_⟩;obtain⟨m',hm,w8⟩:=hN _ _ n8;obtain⟨k',eN⟩:∃k',(s8.heap.update D (Obj.mapSeq (·.push u8))).get? D=some (lobj (its++[u8]) k'):=by
     have q:=PySem.IsL.update eD (·.push u8);dsimp only at q;rw[List.push_toArray]at q;exact⟨_,q⟩
    have I9:Inv (cV X N' scope C s₂ H fp) (nH fp s5.heap) σ6 H8 {s8 with heap:=s8.heap.update D (Obj.mapSeq (·.push u8))}:=by
     refine Inv.turned (it:=D) (t':=s8.toks) (I8.pins_of λp hp=>I8.pin p (List.mem_append_right _ (List.mem_append_right _ hp))) (λb o hb e=>(Heap.get?_update_other s8.heap (Obj.mapSeq _) (Ne.symm hb)).trans e) nD hDC (.inr (by rw[←hD];exact Nat.le_refl _)) (λx c e z=>?_) (λp hp z=>?_)
     .obtain⟨vc,oc,h1,_⟩:=I.cell x c (jo I O e)
      have hh:=Heap.lt_size h1;rw[z,hD]at hh;exact Nat.lt_irrefl _ hh
     .have hp:p∈nH fp s5.heap:=hp
      have hh:=hlt p.1 (vJ hp).1;rw[z]at hh;exact Nat.lt_irrefl _ hh
    refine⟨m',hm,i+1,ys++[v],its++[u8],k',H8,(I9.weak ln6 kp6).pins_of (λp hp=>?_),rv.append (.cons r8 .nil),?_,λb hb=>?_,w8⟩
    .have e:p=(D,lobj (its++[u8]) k'):=List.mem_singleton.mp hp
     rw[e];exact⟨eN,nD,hDC,nfD,λv z=>by cases z⟩
    .exact T.keep _ _ _ st5 λb hb o e=>(I9.pin (b,o) (List.mem_append_right _ (fW hb e))).1
    .obtain⟨o,e,d⟩:=T.obj _ _ st5 b hb
     exact(I9.pin (b,o) (List.mem_append_right _ (fW hb e))).2.1
 exact codeAny_compStart_list loop (T.self _ 0 _ _ _ st1 loop)
theorem Cg(hx:X.xe=NoX)(hc:X.calm=true)(O:cQ X.env.scope X.N N' scope cap)(hi:PI X target iter wi)
  (hg:∀C s₂ H fp,PG (cV X N' scope C s₂ H fp) target g) (ht:∀C s₂ H fp,PTs (cV X N' scope C s₂ H fp) ifs tt) (he:∀C s₂ H fp,PE (cV X N' scope C s₂ H fp) elt te)
  (hs:∀x,foldedSetIterable iter X.env x=pure x:=by intro _;rfl):PE X (.ListComp elt [⟨target,iter,ifs,0⟩] scope pos) (Bo cap wi g tt te):=by
 intro pins s σ H Q I h;rw[eval_ListComp];refine wpAny_comprehension_free (use:=none) rfl hs (m7 λy hy hk=>I.ok.has y.1 (O.free y hy hk)) O.kind O.nm (thn (hi pins s σ H _ I h) λv s1 h1=>thn h1 λitv s2 h2=>?_);obtain⟨it,fp,tn,J,H2,e,I2,T,st2,f2,cw⟩:=h2;subst e;refine ul (RR:=λacc C=>compPost (model X.prog X.w) X.A X.xe none (EP X pins σ Q) acc C) hc O I2 T st2 f2 (λC=>hg C _ _ _) (λC=>ht C _ _ _) (λC=>he C _ _ _) cw ?_;intro D C s' H' ys its n σ' hD hC hDC I' rv q;obtain⟨hz,q⟩:=q;obtain⟨m,hns,_⟩:=I'.loc;refine⟨m,hns,λh' sb=>?_⟩;obtain⟨eD,nD,_,nfD,_⟩:=I'.pin (D,lobj its n) (List.mem_append_right _ List.mem_cons_self);have I'':Inv X pins σ (upd H' D (.lst ys)) {s' with heap:=h'}:=by
  refine I2.call' (ch:=fp) I'.os ?_ ?_ I'.bare (λb hb=>⟨(f2 b hb).2.2.2.1,(f2 b hb).2.1,(f2 b hb).2.2.2.2.1,(f2 b hb).2.2.2.2.2⟩)
  .have ne:∀b o,s2.heap.get? b=some o->b≠C/\b≠D:=λb o e=>⟨Nat.ne_of_lt (Nat.lt_of_lt_of_le (Heap.lt_size e) hC),Nat.ne_of_lt (Nat.lt_of_lt_of_le (Heap.lt_size e) hD)⟩
   refine⟨λb o e n hb he=>sb.extBut b o (ne b o e).1 (I'.base.keep b o e n hb he),λb o e n hb he=>?_,λb o e n he=>?_,λb o e he=>?_,λb xs e=>?_,λb o u e=>?_,λb ps e=>?_⟩
   .obtain⟨sl,e1⟩:=I'.base.slot b o e n hb he
    exact⟨sl,sb.extBut b _ (ne b o e).1 e1⟩
   .rw[aP (ne b o e).2]
    exact I'.base.free b o e n he
   .obtain⟨o',e1⟩:=I'.base.there b o e he
    exact⟨o',sb.extBut b _ (ne b o e).1 e1⟩
   .have e1:=I'.base.tups b xs e
    rw[aP (aZ e1 nD)];exact e1
   .have e1:=I'.base.frzs b o u e
    rw[aP (aZ e1 nD)];exact e1
   .obtain⟨more,e1⟩:=I'.base.tbls b ps e
    refine⟨more,?_⟩;rw[aP (aZ e1 nD)];exact e1
  .intro b u e
   by_cases hb:b=D
   .subst hb
    rw[bc]at e;cases e;exact⟨hz,its,n,rv,sb.extBut _ _ hDC eD⟩
   .rw[aP hb]at e
    have nC:∀b u,H' b=some u->b≠C:=λb u e z=>by
     have hf:H' C=none:=I'.free;rw[z,hf]at e;cases e
    refine(I'.hok b u e).stay (λc v hc q=>sb.extBut c v ?_ q) (λc q=>by rw[aP (aZ q nD)];exact q) λc xs q=>by rw[aP (aZ q nD)];exact q
    rcases hc with z|z
    .rw[z]
     exact nC b u e
    .exact nC c _ z
 exact⟨.ref D,_,I'',rfl,q D nD⟩
end
section
variable{X:Cx}{pins:List (Addr×Obj)}{σ:L2.St}{H:Hp}{s:Shared}
theorem O9{x:V}{u t:Value}(I:Inv X pins σ H s)(rx:RelV x u)(ty:lC X.K H x t):∃Hq,PySem.W.KitX X.K u t Hq/\Hq s.heap/\u≠.builtin "__main__.__loader__#opaque":=by
 cases ty with
 |non=>cases (show u=Value.none from rx);exact⟨_,PySem.W.kitx_none,True.intro,λz=>nomatch z⟩
 |bl y=>cases (show u=Value.bool y from rx);exact⟨_,PySem.W.kitx_bool,True.intro,λz=>nomatch z⟩
 |int i=>obtain⟨t,q⟩:=(show ∃t,u=Value.int i t from rx);cases q;exact⟨_,PySem.W.kitx_int,True.intro,λz=>nomatch z⟩
 |str y=>obtain⟨t,q⟩:=(show ∃t,u=Value.str y t from rx);cases q;exact⟨_,PySem.W.kitx_str,True.intro,λz=>nomatch z⟩
 |flt y=>obtain⟨t,q⟩:=(show ∃t,u=Value.float y t from rx);cases q;exact⟨_,PySem.W.kitx_float,True.intro,λz=>nomatch z⟩
 |@lst a xs ea=>
  cases (show u=Value.ref a from rx);obtain⟨_,_,n,_,h1⟩:=(show cg X.prog X.w H s.heap a (.lst xs)from I.hok a _ ea);exact⟨_,PySem.W.kitx_list,⟨_,h1,rfl⟩,λz=>nomatch z⟩
 |@frz a ob xs ea=>
  cases (show u=Value.ref a from rx);obtain⟨_,_,_,n,_,h1⟩:=(show cg X.prog X.w H s.heap a (.frz ob (.lst xs))from I.hok a _ ea);exact⟨_,PySem.W.kitx_list,⟨_,h1,rfl⟩,λz=>nomatch z⟩
 |@tup a xs ea=>
  cases (show u=Value.ref a from rx);obtain⟨_,_,_,p⟩:=(show cg X.prog X.w H s.heap a (.tup xs)from I.hok a _ ea);obtain⟨o,h1,h2,_⟩:=p;exact⟨_,PySem.W.kitx_tuple,⟨o,h1,h2⟩,λz=>nomatch z⟩
 |@dK a kvs ea=>
  cases (show u=Value.ref a from rx);obtain⟨_,_,vs,_,p⟩:=(show cg X.prog X.w H s.heap a (.dK kvs)from I.hok a _ ea);obtain⟨o,es,ep,h1,h2,_⟩:=p;exact⟨_,PySem.W.kitx_dict,⟨o,h1,h2.1⟩,λz=>nomatch z⟩
 |@dT a kvs ea=>
  cases (show u=Value.ref a from rx);obtain⟨_,_,xs,_,o,es,ep,h1,h2,_⟩:=(show cg X.prog X.w H s.heap a (.dT kvs)from I.hok a _ ea);exact⟨_,PySem.W.kitx_dict,⟨o,h1,h2.1⟩,λz=>nomatch z⟩
 |@ins a C dx fs ea cl ha hn htk hm=>
  cases (show u=Value.ref a from rx);obtain⟨mA,O,_⟩:=Bu I.hok ea;obtain⟨od,J,_⟩:=O.look;exact⟨_,PySem.W.kitx_own (cl.get _) cl.hd ha hn htk hm,J,λz=>nomatch z⟩
theorem Df:∀{tys:List String}{us:List Value},Vals (tys.map V.ty) us->us=tys.map Value.type
 |[],_,.nil=>rfl
 |t::r,_,.cons h q=>by cases (show _=Value.type t from h);rw[Df q];rfl
theorem xP:cM X (.builtin "isinstance") (λxs H Q=>∃x tp tys t b,xs=[x,.ref tp]/\H tp=some (.tup (List.map V.ty tys))/\lC X.K H x t/\PySem.W.kitAny X.K t (tys.map Value.type)=some b/\Q (.bl b) H):=by
 intro pins s σ H xs us Q I r h;obtain⟨x,tp,tys,t,b,rfl,htp,ty,e,q⟩:=h;obtain⟨u,w',rfl,r1,r2⟩:=vals2 r;cases r2;obtain⟨Hq,Z,hz,hn⟩:=O9 I r1 ty;obtain⟨_,its,rv,o,h1,h2,n,h3,_⟩:=(show cg X.prog X.w H s.heap tp (.tup (tys.map V.ty))from I.hok tp _ htp);rw[Df rv]at h3;obtain⟨cls,dd,data,sl⟩:=o;cases h2;cases h3;exact PySem.W.kia_tup Z I.kIn hz h1 e hn λtk=>⟨.bl b,H,I.tok tk,rfl,q⟩
theorem vd:∀(tk:Nat)(l:List Str),Vals (l.map V.str) (strsFrom tk l)
 |_,[]=>.nil
 |tk,x::r=>.cons ⟨_,rfl⟩ (vd (tk+1) r)
def Mr:V->List V->Hp->VK->Prop:=λx vs H Q=>∃(a b:Str)(l:List Str),x= .str a/\vs=[.str b]/\(decide (a.length<b.length)||decide (Builtin.Str.strKind a<Builtin.Str.strKind b))=false/\(b.length==0)=false/\
 (Builtin.Str.occurrences a b 0 a.length (a.length+1)).isEmpty=false/\a.length<=sizeLine/\Builtin.Str.partsBetween a (Builtin.Str.occurrences a b 0 a.length (a.length+1)) b.length=l/\l.length<=sizeLine/\
 ∀p,H p=none->Q (.ref p) (upd H p (.lst (l.map V.str)))
theorem Hy:MtR X "str.split" Mr:=by
 intro pins s σ H x vs v us Q I rx rv h;obtain⟨a,b,l,rfl,rfl,c1,c2,c3,c4,rfl,c5,q⟩:=h;obtain⟨t,rfl⟩:=rx;obtain⟨u,rfl,t',rfl⟩:=rv.one;refine call_meets F.slot_str_split (typeIs_str s a t) F.entry_str_split (F.args_str_split_2 _ _) (meets_str_split_sep a b t t' c1 c2 c3 c4 c5) ?_;exact⟨.ref s.heap.objs.size,_,I.lnew (vd _ _) (by rw[List.length_map];exact c5),rfl,q _ I.fresh⟩
end
inductive Dt where
 |non|bl (b:Bool)|int (i:Int)|str (x:Str)|lst (ds:List Dt)|tup (ds:List Dt)
mutual
def eqD:Dt->Dt->Bool
 |.non,.non=>true
 |.bl a,.bl b=>a==b
 |.int a,.int b=>a==b
 |.bl a,.int b=>(if a then 1 else 0)==b
 |.int a,.bl b=>a==(if b then 1 else 0)
 |.str a,.str b=>a==b
 |.lst a,.lst b=>eqL a b
 |.tup a,.tup b=>eqL a b
 |_,_=>false
def eqL:List Dt->List Dt->Bool
 |[],[]=>true
 |a::r,b::q=>eqD a b&&eqL r q
 |_,_=>false
end
mutual
def dp:Dt->Nat
 |.lst ds=>dpL ds+1
 |.tup ds=>dpL ds+1
 |_=>0
def dpL:List Dt->Nat
 |[]=>0
 |d::r=>max (dp d) (dpL r)
end
mutual
def Brs(K:PySem.W.Frag)(H:Hp):Dt->V->Prop
 |.non,v=>v= .non
 |.bl b,v=>v= .bl b
 |.int i,v=>v= .int i
 |.str x,v=>v= .str x
 |.lst ds,v=>∃a xs,v= .ref a/\SqL K H a xs/\h_ K H ds xs
 |.tup ds,v=>∃a xs,v= .ref a/\SqT K H a xs/\h_ K H ds xs
def h_(K:PySem.W.Frag)(H:Hp):List Dt->List V->Prop
 |[],xs=>xs=[]
 |d::r,xs=>∃x ys,xs=x::ys/\Brs K H d x/\h_ K H r ys
end
mutual
theorem uh:∀d:Dt,eqD d d=true
 |.non=>by simp[eqD]
 |.bl _=>by simp[eqD]
 |.int _=>by simp[eqD]
 |.str _=>by simp[eqD]
 |.lst ds=>by simp[eqD,sU ds]
 |.tup ds=>by simp[eqD,sU ds]
theorem sU:∀ds:List Dt,eqL ds ds=true
 |[]=>by simp[eqL]
 |d::r=>by simp[eqL,uh d,sU r]
end
theorem h_.length{K:PySem.W.Frag}{H:Hp}:∀{ds:List Dt}{xs:List V},h_ K H ds xs->ds.length=xs.length
 |[],xs,h=>by
  have h:xs=[]:=by simpa[h_]using h
  rw[h];rfl
 |d::r,xs,h=>by
  obtain⟨x,ys,rfl,_,h⟩:=(by simpa[h_]using h:∃x ys,xs=x::ys/\Brs K H d x/\h_ K H r ys);simp[h_.length h]
theorem kj:∀{ds es:List Dt},ds.length≠es.length->eqL ds es=false
 |[],[],h=>absurd rfl h
 |[],_::_,_=>by simp[eqL]
 |_::_,[],_=>by simp[eqL]
 |d::r,e::q,h=>by
  have:r.length≠q.length:=by simpa using h
  simp[eqL,kj this]
def eqJ(ds es:List Dt)(j:Nat):Bool:=eqD (ds.getD j .non) (es.getD j .non)
theorem kO:∀{ds es:List Dt},ds.length=es.length->(List.range ds.length).all (eqJ ds es)=eqL ds es
 |[],[],_=>by simp[eqL]
 |[],_::_,h=>by simp at h
 |_::_,[],h=>by simp at h
 |d::r,e::q,h=>by
  have h':r.length=q.length:=by simpa using h
  have ih:=kO h';rw[List.length_cons,List.range_succ_eq_map,List.all_cons,List.all_map,eqL];congr 1
section
variable{X:Cx}{pins:List (Addr×Obj)}{σ:L2.St}{H:Hp}{s:Shared}
theorem zg(I:Inv X pins σ H s){a:Addr}{xs ys:List V}(h1:SqL X.K H a xs)(h2:SqT X.K H a ys):False:=by
 obtain⟨its,_,p,_⟩:=I.list h1;obtain⟨jts,_,q,_⟩:=I.tuple h2;obtain⟨o,e1,c1,_⟩:=p.isList;obtain⟨o',e2,c2,_⟩:=q;rw[e1]at e2;cases e2;rw[c1]at c2;injection c2 with z;exact absurd z (by decide)
mutual
theorem v_(I:Inv X pins σ H s):∀(d e:Dt){v:V},Brs X.K H d v->Brs X.K H e v->d=e
 |.non,e,v,h,h'=>by
  simp only[Brs]at h;subst h;cases e<;>simp[Brs]at h'<;>rfl
 |.bl b,e,v,h,h'=>by
  simp only[Brs]at h;subst h;cases e<;>simp[Brs]at h'<;>simp[h']
 |.int b,e,v,h,h'=>by
  simp only[Brs]at h;subst h;cases e<;>simp[Brs]at h'<;>simp[h']
 |.str b,e,v,h,h'=>by
  simp only[Brs]at h;subst h;cases e<;>simp[Brs]at h'<;>simp[h']
 |.lst ds,e,v,h,h'=>by
  simp only[Brs]at h;obtain⟨a,xs,rfl,hq,hb⟩:=h;cases e with
  |lst es=>
   simp only[Brs]at h';obtain⟨a',ys,e1,hq',hb'⟩:=h';cases e1;have:=I.list_inj hq hq';subst this;rw[ug I ds es hb hb']
  |tup es=>
   simp only[Brs]at h';obtain⟨a',ys,e1,hq',hb'⟩:=h';cases e1;exact(zg I hq hq').elim
  |_=>simp[Brs]at h'
 |.tup ds,e,v,h,h'=>by
  simp only[Brs]at h;obtain⟨a,xs,rfl,hq,hb⟩:=h;cases e with
  |tup es=>
   simp only[Brs]at h';obtain⟨a',ys,e1,hq',hb'⟩:=h';cases e1;have:=I.tuple_inj hq hq';subst this;rw[ug I ds es hb hb']
  |lst es=>
   simp only[Brs]at h';obtain⟨a',ys,e1,hq',hb'⟩:=h';cases e1;exact(zg I hq' hq).elim
  |_=>simp[Brs]at h'
theorem ug(I:Inv X pins σ H s):∀(ds es:List Dt){xs:List V},h_ X.K H ds xs->h_ X.K H es xs->ds=es
 |[],es,xs,h,h'=>by
  simp only[h_]at h;subst h;cases es with
  |nil=>rfl
  |cons e r=>simp[h_]at h'
 |d::r,es,xs,h,h'=>by
  simp only[h_]at h;obtain⟨x,ys,rfl,hd,hr⟩:=h;cases es with
  |nil=>simp[h_]at h'
  |cons e q=>
   simp only[h_]at h';obtain⟨x',ys',e1,he,hq⟩:=h';cases e1;rw[v_ I d e hd he,ug I r q hr hq]
end
open PySem.SeqAt in
mutual
theorem QC(I:Inv X pins σ H s):∀(d e:Dt){A:Around}{v u:V}{v' u':Value},Brs X.K H d v->Brs X.K H e u->RelV v v'->RelV u u'->A.units+dp d<cLine->A.units+dp e<cLine->EqAt A s v' u' (eqD d e)
 |.non,e,A,v,u,v',u',h,h',r,r',hu,hu'=>by
  have hz:A.units<cLine:=by omega
  simp only[Brs]at h;subst h;cases (show v'=Value.none from r);cases e with
  |non=>simp only[Brs]at h';subst h';cases (show u'=Value.none from r');exact EqAt.same _
  |bl b=>simp only[Brs]at h';subst h';cases (show u'=Value.bool b from r');exact EqAt.none_bool b
  |int b=>simp only[Brs]at h';subst h';obtain⟨t,q⟩:=(show ∃t,u'=Value.int b t from r');cases q;exact EqAt.none_int b t
  |str b=>simp only[Brs]at h';subst h';obtain⟨t,q⟩:=(show ∃t,u'=Value.str b t from r');cases q;exact EqAt.none_str b t
  |lst es=>simp only[Brs]at h';obtain⟨a,xs,rfl,hq,_⟩:=h';cases (show u'=Value.ref a from r');obtain⟨its,_,p,_⟩:=I.list hq;exact EqAt.none_list p.isList hz
  |tup es=>simp only[Brs]at h';obtain⟨a,xs,rfl,hq,_⟩:=h';cases (show u'=Value.ref a from r');obtain⟨its,_,p,_⟩:=I.tuple hq;exact EqAt.none_tuple p hz
 |.bl c,e,A,v,u,v',u',h,h',r,r',hu,hu'=>by
  have hz:A.units<cLine:=by omega
  simp only[Brs]at h;subst h;cases (show v'=Value.bool c from r);cases e with
  |non=>simp only[Brs]at h';subst h';cases (show u'=Value.none from r');exact EqAt.bool_none c
  |bl b=>simp only[Brs]at h';subst h';cases (show u'=Value.bool b from r');exact EqAt.bool_bool c b
  |int b=>simp only[Brs]at h';subst h';obtain⟨t,q⟩:=(show ∃t,u'=Value.int b t from r');cases q;exact EqAt.bool_int c b t
  |str b=>simp only[Brs]at h';subst h';obtain⟨t,q⟩:=(show ∃t,u'=Value.str b t from r');cases q;exact EqAt.bool_str c b t
  |lst es=>simp only[Brs]at h';obtain⟨a,xs,rfl,hq,_⟩:=h';cases (show u'=Value.ref a from r');obtain⟨its,_,p,_⟩:=I.list hq;exact EqAt.bool_list c p.isList hz
  |tup es=>simp only[Brs]at h';obtain⟨a,xs,rfl,hq,_⟩:=h';cases (show u'=Value.ref a from r');obtain⟨its,_,p,_⟩:=I.tuple hq;exact EqAt.bool_tuple c p hz
 |.int c,e,A,v,u,v',u',h,h',r,r',hu,hu'=>by
  have hz:A.units<cLine:=by omega
  simp only[Brs]at h;subst h;obtain⟨tc,q⟩:=(show ∃t,v'=Value.int c t from r);cases q;cases e with
  |non=>simp only[Brs]at h';subst h';cases (show u'=Value.none from r');exact EqAt.int_none c tc
  |bl b=>simp only[Brs]at h';subst h';cases (show u'=Value.bool b from r');exact EqAt.int_bool c tc b
  |int b=>simp only[Brs]at h';subst h';obtain⟨t,q⟩:=(show ∃t,u'=Value.int b t from r');cases q;exact EqAt.int_int c tc b t
  |str b=>simp only[Brs]at h';subst h';obtain⟨t,q⟩:=(show ∃t,u'=Value.str b t from r');cases q;exact EqAt.int_str c tc b t
  |lst es=>simp only[Brs]at h';obtain⟨a,xs,rfl,hq,_⟩:=h';cases (show u'=Value.ref a from r');obtain⟨its,_,p,_⟩:=I.list hq;exact EqAt.int_list c tc p.isList hz
  |tup es=>simp only[Brs]at h';obtain⟨a,xs,rfl,hq,_⟩:=h';cases (show u'=Value.ref a from r');obtain⟨its,_,p,_⟩:=I.tuple hq;exact EqAt.int_tuple c tc p hz
 |.str c,e,A,v,u,v',u',h,h',r,r',hu,hu'=>by
  have hz:A.units<cLine:=by omega
  simp only[Brs]at h;subst h;obtain⟨tc,q⟩:=(show ∃t,v'=Value.str c t from r);cases q;cases e with
  |non=>simp only[Brs]at h';subst h';cases (show u'=Value.none from r');exact EqAt.str_none c tc
  |bl b=>simp only[Brs]at h';subst h';cases (show u'=Value.bool b from r');exact EqAt.str_bool c tc b
  |int b=>simp only[Brs]at h';subst h';obtain⟨t,q⟩:=(show ∃t,u'=Value.int b t from r');cases q;exact EqAt.str_int c tc b t
  |str b=>simp only[Brs]at h';subst h';obtain⟨t,q⟩:=(show ∃t,u'=Value.str b t from r');cases q;exact EqAt.str_str c tc b t
  |lst es=>simp only[Brs]at h';obtain⟨a,xs,rfl,hq,_⟩:=h';cases (show u'=Value.ref a from r');obtain⟨its,_,p,_⟩:=I.list hq;exact EqAt.str_list c tc p.isList hz
  |tup es=>simp only[Brs]at h';obtain⟨a,xs,rfl,hq,_⟩:=h';cases (show u'=Value.ref a from r');obtain⟨its,_,p,_⟩:=I.tuple hq;exact EqAt.str_tuple c tc p hz
 |.lst ds,e,A,v,u,v',u',h,h',r,r',hu,hu'=>by
  have hz:A.units<cLine:=by omega
  have hd:A.in1.units+dpL ds<cLine:=by
   have:dp (.lst ds)=dpL ds+1:=by simp[dp]
   show A.units+1+dpL ds<cLine;omega
  have h0:=h;simp only[Brs]at h;obtain⟨b,ys,rfl,hp,hb⟩:=h;cases (show v'=Value.ref b from r);obtain⟨jts,rw',pw,_⟩:=I.list hp;cases e with
  |non=>simp only[Brs]at h';subst h';cases (show u'=Value.none from r');exact EqAt.list_none pw.isList hz
  |bl c=>simp only[Brs]at h';subst h';cases (show u'=Value.bool c from r');exact EqAt.list_bool c pw.isList hz
  |int c=>simp only[Brs]at h';subst h';obtain⟨t,q⟩:=(show ∃t,u'=Value.int c t from r');cases q;exact EqAt.list_int c t pw.isList hz
  |str c=>simp only[Brs]at h';subst h';obtain⟨t,q⟩:=(show ∃t,u'=Value.str c t from r');cases q;exact EqAt.list_str c t pw.isList hz
  |tup es=>simp only[Brs]at h';obtain⟨a,xs,rfl,hq,_⟩:=h';cases (show u'=Value.ref a from r');obtain⟨its,_,p,_⟩:=I.tuple hq;exact EqAt.list_tuple pw.isList p hz
  |lst es=>
   have h0':=h';simp only[Brs]at h';obtain⟨a,xs,rfl,hq,hb'⟩:=h';cases (show u'=Value.ref a from r');obtain⟨its,rv,p,_⟩:=I.list hq;have he:A.in1.units+dpL es<cLine:=by
    have:dp (.lst es)=dpL es+1:=by simp[dp]
    show A.units+1+dpL es<cLine;omega
   by_cases hab:b=a
   .subst hab
    rw[v_ I _ _ h0 h0',uh];exact EqAt.same _
   .refine EqAt.of_refs hab ?_
    have l1:=hb.length;have l2:=hb'.length;have l3:=rw'.length;have l4:=rv.length;rw[show eqD (.lst ds) (.lst es)=eqL ds es by simp[eqD]];by_cases hl:ds.length=es.length
    .rw[←kO hl,show ds.length=jts.toArray.size by rw[List.size_toArray];omega]
     exact RcAt.lists pw.isList p.isList (by rw[List.size_toArray,List.size_toArray];omega) hz (m_ I ds es hb hb' rw' rv hd he)
    .rw[kj hl]
     exact RcAt.lists_lengths pw.isList p.isList (by rw[List.size_toArray,List.size_toArray];exact bne_iff_ne.mpr (by omega)) hz
 |.tup ds,e,A,v,u,v',u',h,h',r,r',hu,hu'=>by
  have hz:A.units<cLine:=by omega
  have hd:A.in1.units+dpL ds<cLine:=by
   have:dp (.tup ds)=dpL ds+1:=by simp[dp]
   show A.units+1+dpL ds<cLine;omega
  have h0:=h;simp only[Brs]at h;obtain⟨b,ys,rfl,hp,hb⟩:=h;cases (show v'=Value.ref b from r);obtain⟨jts,rw',pw,_⟩:=I.tuple hp;cases e with
  |non=>simp only[Brs]at h';subst h';cases (show u'=Value.none from r');exact EqAt.tuple_none pw hz
  |bl c=>simp only[Brs]at h';subst h';cases (show u'=Value.bool c from r');exact EqAt.tuple_bool c pw hz
  |int c=>simp only[Brs]at h';subst h';obtain⟨t,q⟩:=(show ∃t,u'=Value.int c t from r');cases q;exact EqAt.tuple_int c t pw hz
  |str c=>simp only[Brs]at h';subst h';obtain⟨t,q⟩:=(show ∃t,u'=Value.str c t from r');cases q;exact EqAt.tuple_str c t pw hz
  |lst es=>simp only[Brs]at h';obtain⟨a,xs,rfl,hq,_⟩:=h';cases (show u'=Value.ref a from r');obtain⟨its,_,p,_⟩:=I.list hq;exact EqAt.tuple_list pw p.isList hz
  |tup es=>
   have h0':=h';simp only[Brs]at h';obtain⟨a,xs,rfl,hq,hb'⟩:=h';cases (show u'=Value.ref a from r');obtain⟨its,rv,p,_⟩:=I.tuple hq;have he:A.in1.units+dpL es<cLine:=by
    have:dp (.tup es)=dpL es+1:=by simp[dp]
    show A.units+1+dpL es<cLine;omega
   by_cases hab:b=a
   .subst hab
    rw[v_ I _ _ h0 h0',uh];exact EqAt.same _
   .refine EqAt.of_refs hab ?_
    have l1:=hb.length;have l2:=hb'.length;have l3:=rw'.length;have l4:=rv.length;rw[show eqD (.tup ds) (.tup es)=((List.range (min jts.toArray.size its.toArray.size)).all (eqJ ds es)&&jts.toArray.size==its.toArray.size)from ?_]
    .exact RcAt.tuples pw p hz (m_ I ds es hb hb' rw' rv hd he)
    .rw[show eqD (.tup ds) (.tup es)=eqL ds es by simp[eqD],List.size_toArray,List.size_toArray]
     by_cases hl:ds.length=es.length
     .rw[show min jts.length its.length=ds.length by omega,kO hl,show(jts.length==its.length)=true by simp;omega,Bool.and_true]
     .rw[kj hl,show(jts.length==its.length)=false by simp;omega,Bool.and_false]
theorem m_(I:Inv X pins σ H s):∀(ds es:List Dt){A:Around}{ys xs:List V}{jts its:List Value},h_ X.K H ds ys->h_ X.K H es xs->Vals ys jts->Vals xs its->A.units+dpL ds<cLine->A.units+dpL es<cLine->
  ∀j (h1:j<jts.toArray.size)(h2:j<its.toArray.size),EqAt A s jts.toArray[j] its.toArray[j] (eqJ ds es j)
 |[],es,A,ys,xs,jts,its,h,h',r,r',hu,hu',j,h1,h2=>by
  simp only[h_]at h;subst h;cases r;simp at h1
 |d::ds,es,A,ys,xs,jts,its,h,h',r,r',hu,hu',j,h1,h2=>by
  simp only[h_]at h;obtain⟨y,ys',rfl,hd,hr⟩:=h;cases r with
  |cons ra rb=>
   cases es with
   |nil=>
    simp only[h_]at h';subst h';cases r';simp at h2
   |cons e es=>
    simp only[h_]at h';obtain⟨x,xs',rfl,hd',hr'⟩:=h';cases r' with
    |cons ra' rb'=>
     have m1:dpL (d::ds)=max (dp d) (dpL ds):=by simp[dpL]
     have m2:dpL (e::es)=max (dp e) (dpL es):=by simp[dpL]
     cases j with
     |zero=>exact QC I d e hd hd' ra ra' (by omega) (by omega)
     |succ j=>exact m_ I ds es hr hr' rb rb' (by omega) (by omega) j (by simpa using h1) (by simpa using h2)
end
open PySem.SeqAt in
theorem Ro(I:Inv X pins σ H s)(d e:Dt){A:Around}{v u:V}{v' u':Value}(h1:Brs X.K H d v)(h2:Brs X.K H e u)(r1:RelV v v')(r2:RelV u u')(hu:A.units+dp d<cLine)(hu':A.units+dp e<cLine):RcAt A s v' u' (eqD d e):=by
 have hz:A.units<cLine:=by omega
 cases d with
 |non=>
  simp only[Brs]at h1;subst h1;cases (show _=Value.none from r1);cases e with
  |non=>(simp only[Brs]at h2;subst h2;cases (show _=Value.none from r2));exact RcAt.none_none
  |bl c2=>(simp only[Brs]at h2;subst h2;cases (show _=Value.bool c2 from r2));exact RcAt.none_bool c2
  |int c2=>(simp only[Brs]at h2;subst h2;obtain⟨t2,q2⟩:=(show ∃t,_=Value.int c2 t from r2);cases q2);exact RcAt.none_int c2 t2
  |str c2=>(simp only[Brs]at h2;subst h2;obtain⟨t2,q2⟩:=(show ∃t,_=Value.str c2 t from r2);cases q2);exact RcAt.none_str c2 t2
  |lst es=>(simp only[Brs]at h2;obtain⟨a2,xs2,rfl,hq2,hb2⟩:=h2;cases (show _=Value.ref a2 from r2);obtain⟨its2,rv2,p2,_⟩:=I.list hq2);exact RcAt.none_list p2.isList hz
  |tup es=>(simp only[Brs]at h2;obtain⟨a2,xs2,rfl,hq2,hb2⟩:=h2;cases (show _=Value.ref a2 from r2);obtain⟨its2,rv2,p2,_⟩:=I.tuple hq2);exact RcAt.none_tuple p2 hz
 |bl c1=>
  simp only[Brs]at h1;subst h1;cases (show _=Value.bool c1 from r1);cases e with
  |non=>(simp only[Brs]at h2;subst h2;cases (show _=Value.none from r2));exact RcAt.bool_none c1
  |bl c2=>(simp only[Brs]at h2;subst h2;cases (show _=Value.bool c2 from r2));exact RcAt.bool_bool c1 c2
  |int c2=>(simp only[Brs]at h2;subst h2;obtain⟨t2,q2⟩:=(show ∃t,_=Value.int c2 t from r2);cases q2);exact RcAt.bool_int c1 c2 t2
  |str c2=>(simp only[Brs]at h2;subst h2;obtain⟨t2,q2⟩:=(show ∃t,_=Value.str c2 t from r2);cases q2);exact RcAt.bool_str c1 c2 t2
  |lst es=>(simp only[Brs]at h2;obtain⟨a2,xs2,rfl,hq2,hb2⟩:=h2;cases (show _=Value.ref a2 from r2);obtain⟨its2,rv2,p2,_⟩:=I.list hq2);exact RcAt.bool_list c1 p2.isList hz
  |tup es=>(simp only[Brs]at h2;obtain⟨a2,xs2,rfl,hq2,hb2⟩:=h2;cases (show _=Value.ref a2 from r2);obtain⟨its2,rv2,p2,_⟩:=I.tuple hq2);exact RcAt.bool_tuple c1 p2 hz
 |int c1=>
  simp only[Brs]at h1;subst h1;obtain⟨t1,q1⟩:=(show ∃t,_=Value.int c1 t from r1);cases q1;cases e with
  |non=>(simp only[Brs]at h2;subst h2;cases (show _=Value.none from r2));exact RcAt.int_none c1 t1
  |bl c2=>(simp only[Brs]at h2;subst h2;cases (show _=Value.bool c2 from r2));exact RcAt.int_bool c1 t1 c2
  |int c2=>(simp only[Brs]at h2;subst h2;obtain⟨t2,q2⟩:=(show ∃t,_=Value.int c2 t from r2);cases q2);exact RcAt.int_int c1 t1 c2 t2
  |str c2=>(simp only[Brs]at h2;subst h2;obtain⟨t2,q2⟩:=(show ∃t,_=Value.str c2 t from r2);cases q2);exact RcAt.int_str c1 t1 c2 t2
  |lst es=>(simp only[Brs]at h2;obtain⟨a2,xs2,rfl,hq2,hb2⟩:=h2;cases (show _=Value.ref a2 from r2);obtain⟨its2,rv2,p2,_⟩:=I.list hq2);exact RcAt.int_list c1 t1 p2.isList hz
  |tup es=>(simp only[Brs]at h2;obtain⟨a2,xs2,rfl,hq2,hb2⟩:=h2;cases (show _=Value.ref a2 from r2);obtain⟨its2,rv2,p2,_⟩:=I.tuple hq2);exact RcAt.int_tuple c1 t1 p2 hz
 |str c1=>
  simp only[Brs]at h1;subst h1;obtain⟨t1,q1⟩:=(show ∃t,_=Value.str c1 t from r1);cases q1;cases e with
  |non=>(simp only[Brs]at h2;subst h2;cases (show _=Value.none from r2));exact RcAt.str_none c1 t1
  |bl c2=>(simp only[Brs]at h2;subst h2;cases (show _=Value.bool c2 from r2));exact RcAt.str_bool c1 t1 c2
  |int c2=>(simp only[Brs]at h2;subst h2;obtain⟨t2,q2⟩:=(show ∃t,_=Value.int c2 t from r2);cases q2);exact RcAt.str_int c1 t1 c2 t2
  |str c2=>(simp only[Brs]at h2;subst h2;obtain⟨t2,q2⟩:=(show ∃t,_=Value.str c2 t from r2);cases q2);exact RcAt.str_str c1 t1 c2 t2
  |lst es=>(simp only[Brs]at h2;obtain⟨a2,xs2,rfl,hq2,hb2⟩:=h2;cases (show _=Value.ref a2 from r2);obtain⟨its2,rv2,p2,_⟩:=I.list hq2);exact RcAt.str_list c1 t1 p2.isList hz
  |tup es=>(simp only[Brs]at h2;obtain⟨a2,xs2,rfl,hq2,hb2⟩:=h2;cases (show _=Value.ref a2 from r2);obtain⟨its2,rv2,p2,_⟩:=I.tuple hq2);exact RcAt.str_tuple c1 t1 p2 hz
 |lst ds=>
  simp only[Brs]at h1;obtain⟨a1,xs1,rfl,hq1,hb1⟩:=h1;cases (show _=Value.ref a1 from r1);obtain⟨its1,rv1,p1,_⟩:=I.list hq1;cases e with
  |non=>(simp only[Brs]at h2;subst h2;cases (show _=Value.none from r2));exact RcAt.list_none p1.isList hz
  |bl c2=>(simp only[Brs]at h2;subst h2;cases (show _=Value.bool c2 from r2));exact RcAt.list_bool c2 p1.isList hz
  |int c2=>(simp only[Brs]at h2;subst h2;obtain⟨t2,q2⟩:=(show ∃t,_=Value.int c2 t from r2);cases q2);exact RcAt.list_int c2 t2 p1.isList hz
  |str c2=>(simp only[Brs]at h2;subst h2;obtain⟨t2,q2⟩:=(show ∃t,_=Value.str c2 t from r2);cases q2);exact RcAt.list_str c2 t2 p1.isList hz
  |lst es=>
   simp only[Brs]at h2;obtain⟨a2,xs2,rfl,hq2,hb2⟩:=h2;cases (show _=Value.ref a2 from r2);obtain⟨its2,rv2,p2,_⟩:=I.list hq2;have hd:A.in1.units+dpL ds<cLine:=by
    have:dp (.lst ds)=dpL ds+1:=by simp[dp]
    show A.units+1+dpL ds<cLine;omega
   have he:A.in1.units+dpL es<cLine:=by
    have:dp (.lst es)=dpL es+1:=by simp[dp]
    show A.units+1+dpL es<cLine;omega
   have l1:=hb1.length;have l2:=hb2.length;have l3:=rv1.length;have l4:=rv2.length;rw[show eqD (.lst ds) (.lst es)=eqL ds es by simp[eqD]];by_cases hl:ds.length=es.length
   .rw[←kO hl,show ds.length=its1.toArray.size by rw[List.size_toArray];omega]
    exact RcAt.lists p1.isList p2.isList (by rw[List.size_toArray,List.size_toArray];omega) hz (m_ I ds es hb1 hb2 rv1 rv2 hd he)
   .rw[kj hl]
    exact RcAt.lists_lengths p1.isList p2.isList (by rw[List.size_toArray,List.size_toArray];exact bne_iff_ne.mpr (by omega)) hz
  |tup es=>(simp only[Brs]at h2;obtain⟨a2,xs2,rfl,hq2,hb2⟩:=h2;cases (show _=Value.ref a2 from r2);obtain⟨its2,rv2,p2,_⟩:=I.tuple hq2);exact RcAt.list_tuple p1.isList p2 hz
 |tup ds=>
  simp only[Brs]at h1;obtain⟨a1,xs1,rfl,hq1,hb1⟩:=h1;cases (show _=Value.ref a1 from r1);obtain⟨its1,rv1,p1,_⟩:=I.tuple hq1;cases e with
  |non=>(simp only[Brs]at h2;subst h2;cases (show _=Value.none from r2));exact RcAt.tuple_none p1 hz
  |bl c2=>(simp only[Brs]at h2;subst h2;cases (show _=Value.bool c2 from r2));exact RcAt.tuple_bool c2 p1 hz
  |int c2=>(simp only[Brs]at h2;subst h2;obtain⟨t2,q2⟩:=(show ∃t,_=Value.int c2 t from r2);cases q2);exact RcAt.tuple_int c2 t2 p1 hz
  |str c2=>(simp only[Brs]at h2;subst h2;obtain⟨t2,q2⟩:=(show ∃t,_=Value.str c2 t from r2);cases q2);exact RcAt.tuple_str c2 t2 p1 hz
  |lst es=>(simp only[Brs]at h2;obtain⟨a2,xs2,rfl,hq2,hb2⟩:=h2;cases (show _=Value.ref a2 from r2);obtain⟨its2,rv2,p2,_⟩:=I.list hq2);exact RcAt.tuple_list p1 p2.isList hz
  |tup es=>
   simp only[Brs]at h2;obtain⟨a2,xs2,rfl,hq2,hb2⟩:=h2;cases (show _=Value.ref a2 from r2);obtain⟨its2,rv2,p2,_⟩:=I.tuple hq2;have hd:A.in1.units+dpL ds<cLine:=by
    have:dp (.tup ds)=dpL ds+1:=by simp[dp]
    show A.units+1+dpL ds<cLine;omega
   have he:A.in1.units+dpL es<cLine:=by
    have:dp (.tup es)=dpL es+1:=by simp[dp]
    show A.units+1+dpL es<cLine;omega
   have l1:=hb1.length;have l2:=hb2.length;have l3:=rv1.length;have l4:=rv2.length;rw[show eqD (.tup ds) (.tup es)=((List.range (min its1.toArray.size its2.toArray.size)).all (eqJ ds es)&&its1.toArray.size==its2.toArray.size)from ?_]
   .exact RcAt.tuples p1 p2 hz (m_ I ds es hb1 hb2 rv1 rv2 hd he)
   .rw[show eqD (.tup ds) (.tup es)=eqL ds es by simp[eqD],List.size_toArray,List.size_toArray]
    by_cases hl:ds.length=es.length
    .rw[show min its1.length its2.length=ds.length by omega,kO hl,show(its1.length==its2.length)=true by simp;omega,Bool.and_true]
    .rw[kj hl,show(its1.length==its2.length)=false by simp;omega,Bool.and_false]
open PySem.SeqAt in
theorem Jj(I:Inv X pins σ H s)(d e:Dt){A:Around}{v u:V}{v' u':Value}(h1:Brs X.K H d v)(h2:Brs X.K H e u)(r1:RelV v v')(r2:RelV u u')(hu:A.units+dp d<cLine)(hu':A.units+dp e<cLine):RcNeAt A s v' u' (!eqD d e):=by
 have hz:A.units<cLine:=by omega
 cases d with
 |non=>
  simp only[Brs]at h1;subst h1;cases (show _=Value.none from r1);cases e with
  |non=>(simp only[Brs]at h2;subst h2;cases (show _=Value.none from r2));exact RcNeAt.none_none
  |bl c2=>(simp only[Brs]at h2;subst h2;cases (show _=Value.bool c2 from r2));exact RcNeAt.none_bool c2
  |int c2=>(simp only[Brs]at h2;subst h2;obtain⟨t2,q2⟩:=(show ∃t,_=Value.int c2 t from r2);cases q2);exact RcNeAt.none_int c2 t2
  |str c2=>(simp only[Brs]at h2;subst h2;obtain⟨t2,q2⟩:=(show ∃t,_=Value.str c2 t from r2);cases q2);exact RcNeAt.none_str c2 t2
  |lst es=>(simp only[Brs]at h2;obtain⟨a2,xs2,rfl,hq2,hb2⟩:=h2;cases (show _=Value.ref a2 from r2);obtain⟨its2,rv2,p2,_⟩:=I.list hq2);exact RcNeAt.none_list p2.isList hz
  |tup es=>(simp only[Brs]at h2;obtain⟨a2,xs2,rfl,hq2,hb2⟩:=h2;cases (show _=Value.ref a2 from r2);obtain⟨its2,rv2,p2,_⟩:=I.tuple hq2);exact RcNeAt.none_tuple p2 hz
 |bl c1=>
  simp only[Brs]at h1;subst h1;cases (show _=Value.bool c1 from r1);cases e with
  |non=>(simp only[Brs]at h2;subst h2;cases (show _=Value.none from r2));exact RcNeAt.bool_none c1
  |bl c2=>(simp only[Brs]at h2;subst h2;cases (show _=Value.bool c2 from r2));exact RcNeAt.bool_bool c1 c2
  |int c2=>(simp only[Brs]at h2;subst h2;obtain⟨t2,q2⟩:=(show ∃t,_=Value.int c2 t from r2);cases q2);exact RcNeAt.bool_int c1 c2 t2
  |str c2=>(simp only[Brs]at h2;subst h2;obtain⟨t2,q2⟩:=(show ∃t,_=Value.str c2 t from r2);cases q2);exact RcNeAt.bool_str c1 c2 t2
  |lst es=>(simp only[Brs]at h2;obtain⟨a2,xs2,rfl,hq2,hb2⟩:=h2;cases (show _=Value.ref a2 from r2);obtain⟨its2,rv2,p2,_⟩:=I.list hq2);exact RcNeAt.bool_list c1 p2.isList hz
  |tup es=>(simp only[Brs]at h2;obtain⟨a2,xs2,rfl,hq2,hb2⟩:=h2;cases (show _=Value.ref a2 from r2);obtain⟨its2,rv2,p2,_⟩:=I.tuple hq2);exact RcNeAt.bool_tuple c1 p2 hz
 |int c1=>
  simp only[Brs]at h1;subst h1;obtain⟨t1,q1⟩:=(show ∃t,_=Value.int c1 t from r1);cases q1;cases e with
  |non=>(simp only[Brs]at h2;subst h2;cases (show _=Value.none from r2));exact RcNeAt.int_none c1 t1
  |bl c2=>(simp only[Brs]at h2;subst h2;cases (show _=Value.bool c2 from r2));exact RcNeAt.int_bool c1 t1 c2
  |int c2=>(simp only[Brs]at h2;subst h2;obtain⟨t2,q2⟩:=(show ∃t,_=Value.int c2 t from r2);cases q2);exact RcNeAt.int_int c1 t1 c2 t2
  |str c2=>(simp only[Brs]at h2;subst h2;obtain⟨t2,q2⟩:=(show ∃t,_=Value.str c2 t from r2);cases q2);exact RcNeAt.int_str c1 t1 c2 t2
  |lst es=>(simp only[Brs]at h2;obtain⟨a2,xs2,rfl,hq2,hb2⟩:=h2;cases (show _=Value.ref a2 from r2);obtain⟨its2,rv2,p2,_⟩:=I.list hq2);exact RcNeAt.int_list c1 t1 p2.isList hz
  |tup es=>(simp only[Brs]at h2;obtain⟨a2,xs2,rfl,hq2,hb2⟩:=h2;cases (show _=Value.ref a2 from r2);obtain⟨its2,rv2,p2,_⟩:=I.tuple hq2);exact RcNeAt.int_tuple c1 t1 p2 hz
 |str c1=>
  simp only[Brs]at h1;subst h1;obtain⟨t1,q1⟩:=(show ∃t,_=Value.str c1 t from r1);cases q1;cases e with
  |non=>(simp only[Brs]at h2;subst h2;cases (show _=Value.none from r2));exact RcNeAt.str_none c1 t1
  |bl c2=>(simp only[Brs]at h2;subst h2;cases (show _=Value.bool c2 from r2));exact RcNeAt.str_bool c1 t1 c2
  |int c2=>(simp only[Brs]at h2;subst h2;obtain⟨t2,q2⟩:=(show ∃t,_=Value.int c2 t from r2);cases q2);exact RcNeAt.str_int c1 t1 c2 t2
  |str c2=>(simp only[Brs]at h2;subst h2;obtain⟨t2,q2⟩:=(show ∃t,_=Value.str c2 t from r2);cases q2);exact RcNeAt.str_str c1 t1 c2 t2
  |lst es=>(simp only[Brs]at h2;obtain⟨a2,xs2,rfl,hq2,hb2⟩:=h2;cases (show _=Value.ref a2 from r2);obtain⟨its2,rv2,p2,_⟩:=I.list hq2);exact RcNeAt.str_list c1 t1 p2.isList hz
  |tup es=>(simp only[Brs]at h2;obtain⟨a2,xs2,rfl,hq2,hb2⟩:=h2;cases (show _=Value.ref a2 from r2);obtain⟨its2,rv2,p2,_⟩:=I.tuple hq2);exact RcNeAt.str_tuple c1 t1 p2 hz
 |lst ds=>
  simp only[Brs]at h1;obtain⟨a1,xs1,rfl,hq1,hb1⟩:=h1;cases (show _=Value.ref a1 from r1);obtain⟨its1,rv1,p1,_⟩:=I.list hq1;cases e with
  |non=>(simp only[Brs]at h2;subst h2;cases (show _=Value.none from r2));exact RcNeAt.list_none p1.isList hz
  |bl c2=>(simp only[Brs]at h2;subst h2;cases (show _=Value.bool c2 from r2));exact RcNeAt.list_bool c2 p1.isList hz
  |int c2=>(simp only[Brs]at h2;subst h2;obtain⟨t2,q2⟩:=(show ∃t,_=Value.int c2 t from r2);cases q2);exact RcNeAt.list_int c2 t2 p1.isList hz
  |str c2=>(simp only[Brs]at h2;subst h2;obtain⟨t2,q2⟩:=(show ∃t,_=Value.str c2 t from r2);cases q2);exact RcNeAt.list_str c2 t2 p1.isList hz
  |lst es=>
   simp only[Brs]at h2;obtain⟨a2,xs2,rfl,hq2,hb2⟩:=h2;cases (show _=Value.ref a2 from r2);obtain⟨its2,rv2,p2,_⟩:=I.list hq2;have hd:A.in1.units+dpL ds<cLine:=by
    have:dp (.lst ds)=dpL ds+1:=by simp[dp]
    show A.units+1+dpL ds<cLine;omega
   have he:A.in1.units+dpL es<cLine:=by
    have:dp (.lst es)=dpL es+1:=by simp[dp]
    show A.units+1+dpL es<cLine;omega
   have l1:=hb1.length;have l2:=hb2.length;have l3:=rv1.length;have l4:=rv2.length;rw[show eqD (.lst ds) (.lst es)=eqL ds es by simp[eqD]];by_cases hl:ds.length=es.length
   .rw[←kO hl,show ds.length=its1.toArray.size by rw[List.size_toArray];omega]
    exact RcNeAt.lists p1.isList p2.isList (by rw[List.size_toArray,List.size_toArray];omega) hz (m_ I ds es hb1 hb2 rv1 rv2 hd he)
   .rw[kj hl]
    exact RcNeAt.lists_lengths p1.isList p2.isList (by rw[List.size_toArray,List.size_toArray];exact bne_iff_ne.mpr (by omega)) hz
  |tup es=>(simp only[Brs]at h2;obtain⟨a2,xs2,rfl,hq2,hb2⟩:=h2;cases (show _=Value.ref a2 from r2);obtain⟨its2,rv2,p2,_⟩:=I.tuple hq2);exact RcNeAt.list_tuple p1.isList p2 hz
 |tup ds=>
  simp only[Brs]at h1;obtain⟨a1,xs1,rfl,hq1,hb1⟩:=h1;cases (show _=Value.ref a1 from r1);obtain⟨its1,rv1,p1,_⟩:=I.tuple hq1;cases e with
  |non=>(simp only[Brs]at h2;subst h2;cases (show _=Value.none from r2));exact RcNeAt.tuple_none p1 hz
  |bl c2=>(simp only[Brs]at h2;subst h2;cases (show _=Value.bool c2 from r2));exact RcNeAt.tuple_bool c2 p1 hz
  |int c2=>(simp only[Brs]at h2;subst h2;obtain⟨t2,q2⟩:=(show ∃t,_=Value.int c2 t from r2);cases q2);exact RcNeAt.tuple_int c2 t2 p1 hz
  |str c2=>(simp only[Brs]at h2;subst h2;obtain⟨t2,q2⟩:=(show ∃t,_=Value.str c2 t from r2);cases q2);exact RcNeAt.tuple_str c2 t2 p1 hz
  |lst es=>(simp only[Brs]at h2;obtain⟨a2,xs2,rfl,hq2,hb2⟩:=h2;cases (show _=Value.ref a2 from r2);obtain⟨its2,rv2,p2,_⟩:=I.list hq2);exact RcNeAt.tuple_list p1 p2.isList hz
  |tup es=>
   simp only[Brs]at h2;obtain⟨a2,xs2,rfl,hq2,hb2⟩:=h2;cases (show _=Value.ref a2 from r2);obtain⟨its2,rv2,p2,_⟩:=I.tuple hq2;have hd:A.in1.units+dpL ds<cLine:=by
    have:dp (.tup ds)=dpL ds+1:=by simp[dp]
    show A.units+1+dpL ds<cLine;omega
   have he:A.in1.units+dpL es<cLine:=by
    have:dp (.tup es)=dpL es+1:=by simp[dp]
    show A.units+1+dpL es<cLine;omega
   have l1:=hb1.length;have l2:=hb2.length;have l3:=rv1.length;have l4:=rv2.length;rw[show eqD (.tup ds) (.tup es)=((List.range (min its1.toArray.size its2.toArray.size)).all (eqJ ds es)&&its1.toArray.size==its2.toArray.size)from ?_]
   .exact RcNeAt.tuples p1 p2 hz (m_ I ds es hb1 hb2 rv1 rv2 hd he)
   .rw[show eqD (.tup ds) (.tup es)=eqL ds es by simp[eqD],List.size_toArray,List.size_toArray]
    by_cases hl:ds.length=es.length
    .rw[show min its1.length its2.length=ds.length by omega,kO hl,show(its1.length==its2.length)=true by simp;omega,Bool.and_true]
    .rw[kj hl,show(its1.length==its2.length)=false by simp;omega,Bool.and_false]
def QK(K:PySem.W.Frag)(A:Around):R2:=λx y H Q=>∃d e,Brs K H d x/\Brs K H e y/\A.units+dp d<cLine/\A.units+dp e<cLine/\Q (.bl (eqD d e)) H
def Qd(K:PySem.W.Frag)(A:Around):R2:=λx y H Q=>∃d e,Brs K H d x/\Brs K H e y/\A.units+dp d<cLine/\A.units+dp e<cLine/\Q (.bl (!eqD d e)) H
theorem Oj:OpR X (compareOp .Eq) (QK X.K X.A):=by
 intro pins s σ H x y v u Q I rx ry h;obtain⟨d,e,h1,h2,hu,hu',q⟩:=h;exact Ro I d e h1 h2 rx ry hu hu' _ _ _ _ ⟨.bl (eqD d e),H,I,rfl,q⟩
theorem Pb:OpR X (compareOp .NotEq) (Qd X.K X.A):=by
 intro pins s σ H x y v u Q I rx ry h;obtain⟨d,e,h1,h2,hu,hu',q⟩:=h;exact Jj I d e h1 h2 rx ry hu hu' _ _ _ _ ⟨.bl (!eqD d e),H,I,rfl,q⟩
end
section
variable{prog:Program}{w:World}{A:Around}{E:Value->Shared->Prop}{s:Shared}
theorem rP{sl:Addr}{vl vu vs:Value}{lo hi st:Option Int}{n:Nat}{Q:Int×Int×Nat->Shared->Prop}(hs:s.heap.IsSliceOf sl vl vu vs)(pl:IsPart vl lo)(pu:IsPart vu hi)(ps:IsPart vs st)(h0:st.getD 1≠0)
  (h:Q ((Builtin.Slice.sliceAdjust lo hi (st.getD 1) (n:Int)).1,st.getD 1,Builtin.Slice.slicePlaces (Builtin.Slice.sliceAdjust lo hi (st.getD 1) (n:Int)).1 (Builtin.Slice.sliceAdjust lo hi (st.getD 1) (n:Int)).2 (st.getD 1)) s) :
  wpAny (model prog w) A (Builtin.Slice.sliceApplied (.ref sl) (pure (n:Int))) Q E s:=by
 obtain⟨os,hos,hcs,hds⟩:=id hs;unfold Builtin.Slice.sliceApplied;refine wpAny_bind (wpAny_bind (wpAny_field hos hds (x:=vl) rfl (wpAny_bind (wpAny_field hos hds (x:=vu) rfl (wpAny_bind (wpAny_field hos hds (x:=vs) rfl (wpAny_pure ?_)))))));refine wpAny_bind (HT.slicePart_ ps ?_);have h1:(st.getD 1==0)=false:=by simpa using h0
 simp only[h1,Bool.false_eq_true,if_false,pure_bind];exact wpAny_bind (HT.slicePart_ pl (wpAny_bind (HT.slicePart_ pu (wpAny_pure h))))
def qI{α:Type}(xs:List α)(l st:Int)(k:Nat):List α:=(List.range k).filterMap λ(m:Nat)=>xs[(l+(m:Int)*st).toNat]?
theorem pG{t sl:Addr}{items:List Value}{vl vu vs:Value}{lo hi st:Option Int}{Q:Value->Shared->Prop}(ht:IsTup s.heap t items.toArray)(hs:s.heap.IsSliceOf sl vl vu vs)(pl:IsPart vl lo)(pu:IsPart vu hi)(ps:IsPart vs st)(h0:st.getD 1≠0)
  {l h':Int} (ea:Builtin.Slice.sliceAdjust lo hi (st.getD 1) (items.length:Int)=(l,h')) {k:Nat} (ek:Builtin.Slice.slicePlaces l h' (st.getD 1)=k)
  (hw:(l=0/\st.getD 1=1/\k=items.length)->Q (.ref t) s)
  (hn:¬(l=0/\st.getD 1=1/\k=items.length)->Q (.ref s.heap.objs.size) {s with heap:=s.heap.push {cls:=.type "tuple",data:=.seq (qI items l (st.getD 1) k).toArray}})
  (hsz:(qI items l (st.getD 1) k).length<=sizeLine):wpAny (model prog w) A (getItem (.ref t) (.ref sl)) Q E s:=by
 have htake:sizeOk (.seq (qI items l (st.getD 1) k).toArray):=by
  show(qI items l (st.getD 1) k).toArray.size<=sizeLine;rw[List.size_toArray];exact hsz
 obtain⟨os,hos,hcs,hds⟩:=id hs;have hTs:s.TypeIs (.ref sl) "slice":=⟨os,hos,hcs⟩;unfold getItem
 try with_reducible refine wpAny_holding ?_
 first|refine wpAny_bind (wpAny_pure ?_)|skip
 refine wpAny_bind (wpAny_sequenceKey ht.typeIs (by decide) ?_);refine wpAny_bind (wpAny_callSpecial?_slot (name:=Str.ofString "__getitem__") ht.typeIs PyProof.Rows.slot_tuple_getitem
  (wpAny_call_entry PyProof.Rows.slot_tuple_getitem ht.typeIs entry_tuple_getitem ?_ (args_tuple_getitem _ _)))
 show wpAny _ _ (Builtin.Tuple.tupleItemsOf (.ref t) >>=_) _ _ s;refine wpAny_bind (tupleItemsOf_ ht ?_);refine wpAny_bind (wpAny_typeOf hTs ?_);rw[if_pos (by decide)];rw[List.size_toArray];refine wpAny_bind (rP hs pl pu ps h0 ?_);rw[ea,ek];dsimp only;by_cases hc:(l=0/\st.getD 1=1/\k=items.length)
 .rw[if_pos (by simp[hc])]
  refine wpAny_bind ?_;unfold Builtin.Tuple.tupleIsExact;refine wpAny_bind (wpAny_typeOf ht.typeIs (wpAny_pure ?_));rw[if_pos (by decide)];exact wpAny_bind (wpAny_rule (wpAny_pure ⟨_,rfl,wpAny_pure (hw hc)⟩))
 .rw[if_neg (by simpa using hc)]
  have e:(List.filterMap (λ(k:Nat)=>items.toArray[(l+(k:Int)*st.getD 1).toNat]?) (List.range k)).toArray=(qI items l (st.getD 1) k).toArray:=by
   unfold qI;simp
  rw[e];exact wpAny_bind (m:=Builtin.Tuple.tupleExact _) (wpAny_newObj_type (wpAny_pure ⟨_,rfl,wpAny_pure (hn hc)⟩) htake)
end
theorem Il{α:Type}(xs:List α)(l st:Int)(k:Nat):(qI xs l st k).length<=k:=by
 unfold qI;have:=List.length_filterMap_le (λ(m:Nat)=>xs[(l+(m:Int)*st).toNat]?) (List.range k);rw[List.length_range]at this;exact this
section
variable{X:Cx}{e:Expr}{te:TE}{p2 pos:Pos}
def QT(K:PySem.W.Frag):V->Option Int->Option Int->Hp->VK->Prop:=λx lo hi H Q=>∃a xs,x= .ref a/\SqT K H a xs/\(uF xs lo hi=xs->Q (.ref a) H)/\∀p,H p=none->Q (.ref p) (upd H p (.tup (uF xs lo hi)))
theorem Pk:SlR X (QT X.K):=by
 intro pins s σ H x v vl vu lo hi sl Q I rx hs pl pu h;obtain⟨a,xs,rfl,hx,q1,q2⟩:=h;by_cases hw:(HT.sIx xs.length 0 lo=0/\HT.sIx xs.length xs.length hi=xs.length)
 .have rx0:=rx
  cases rx;obtain⟨its,r,ht,hz⟩:=I.tuple hx;have hlen:=r.length;refine⟨"tuple",_,PyProof.Rows.slot_tuple_getitem.lookup,ht.typeIs,?_⟩;have e1:Builtin.Slice.sliceAdjust lo hi ((none:Option Int).getD 1) (its.length:Int)=(((0:Nat):Int),((xs.length:Nat):Int)):=by
   have e1:=HT.adjust_gen lo hi its.length;rw[←hlen,hw.1,hw.2]at e1;rw[←hlen];exact e1
  refine pG (items:=its) (st:=none) ht hs pl pu .none (by decide) e1 rfl (λ_=>?_) (λhc=>?_) ?_
  .refine⟨.ref a,H,I,rfl,q1 ?_⟩
   unfold uF;rw[hw.1,hw.2];simp
  .refine absurd ⟨rfl,rfl,?_⟩ hc
   show Builtin.Slice.slicePlaces ((0:Nat):Int) ((xs.length:Nat):Int) 1=its.length;rw[HT.places_gen];omega
  .refine Nat.le_trans (Il _ _ _ _) ?_
   show Builtin.Slice.slicePlaces ((0:Nat):Int) ((xs.length:Nat):Int) 1<=sizeLine;rw[HT.places_gen];omega
 .exact NB pins s σ H _ v vl vu lo hi sl Q I rx hs pl pu ⟨a,xs,rfl,hx,hw,q2⟩
def F_(K:PySem.W.Frag):R2:=λx y H Q=>∃a b xs ys,x= .ref a/\y= .ref b/\SqT K H a xs/\SqT K H b ys/\xs.length+ys.length<=sizeLine/\
 (xs=[]->Q (.ref b) H)/\(xs≠[]->ys=[]->Q (.ref a) H)/\(xs≠[]->ys≠[]->∀p,H p=none->Q (.ref p) (upd H p (.tup (xs++ys))))
theorem Ff:OpR X (binaryOp .Add) (F_ X.K):=by
 intro pins s σ H x y v u Q I rx ry h;obtain⟨a,b,xs,ys,rfl,rfl,ha,hb,hz,q0,q1,q2⟩:=h;by_cases hx:xs=[]
 .cases rx
  cases ry;obtain⟨its,r1,p1,_⟩:=I.tuple ha;obtain⟨its2,r2,p2,_⟩:=I.tuple hb;obtain⟨⟨cls,dd,data,sl⟩,ho,hc,n,hd⟩:=id p1;obtain⟨⟨cls2,dd2,data2,sl2⟩,ho2,hc2,n2,hd2⟩:=id p2;simp only at hc hd hc2 hd2;subst hc hd hc2 hd2;exact concat_meets ⟨_,ho,rfl⟩ ⟨_,ho2,rfl⟩ noFill_tuple_add seq_tuple_add PySem.F.slot_tuple_add PySem.F.entry_tuple_add (PySem.F.args_tuple_add_2 _ _)
   (tuple_addW0 a b its.toArray its2.toArray n n2 dd dd2 sl sl2 (by rw[r1.nil_iff.mpr hx];rfl)) ⟨ho,ho2,⟨.ref b,H,I,rfl,q0 hx⟩⟩
 .exact Jp pins s σ H _ _ v u Q I rx ry ⟨a,b,xs,ys,rfl,rfl,ha,hb,hx,hz,q1 hx,q2 hx⟩
end
section
variable{X:Cx}{pins:List (Addr×Obj)}{σ:L2.St}{H:Hp}{s:Shared}{h':Heap}
theorem mK{fp:List Addr}{t':Nat}(I:Inv X pins σ H s)(hf:∀b∈fp,j6 X pins H b)(keep:∀b u,b∉fp->s.heap.get? b=some u->h'.get? b=some u):Inv X pins σ H {s with heap:=h',toks:=t'}:=by
 have nf:∀b u,H b=some u->b∉fp:=λb u e hb=>by rw[(hf b hb).1]at e;cases e
 refine I.step (g':=s.gens) (d':=s.drawn) (ch:=fp) (λb hb=>⟨(hf b hb).2.2.2.1,(hf b hb).2.1,(hf b hb).2.2.2.2.1,(hf b hb).2.2.2.2.2⟩) (λb u _ _ hc e _=>keep b u hc e) (λb u _ _ hc e _=>⟨u.slots,keep b u hc e⟩)
  (λb u _ e n=>n) (λb u hc e=>⟨u,keep b u hc e⟩) (λb xs e=>e) (λb ob u e=>e) (λb ps e=>⟨#[],by rw[e];simp⟩) (λm hm=>?_) (λb u e=>?_) I.bare
 .obtain⟨ob,es,ep,ho,r⟩:=hm
  exact⟨ob,es,ep,keep _ ob (λz=>(hf _ z).2.1 rfl) ho,r⟩
 .refine(I.hok b u e).stay (λc v hc q=>keep c v ?_ q) (λc q=>q) λc xs q=>q
  rcases hc with z|z
  .rw[z]
   exact nf b u e
  .exact nf c _ z
end
end Jb
namespace PySem
open Sem (wp)
theorem F.first_AttributeError:((Manifest.find? "AttributeError").elim false λt=>t.mro.contains "StopIteration"||t.mro.contains "SystemExit")=false:=by decide +kernel
theorem F.sub_AttributeError:isSubtype (.type "AttributeError") (.type "AttributeError")=pure true:=by rw[isSubtype_type];kernel_rfl
section
variable{prog:Program}{w:World}{A:Around}{E:Value->Shared->Prop}
theorem lA{α:Type}{o:Value}{name msg:Str}{Q:α->Shared->Prop}{h:Heap}{g:Array GenState}{d:Drawn}{t:Nat}{os:OsState}(hh:A.handled=none)(hm:msg.length<=sizeLine)
  (hq:∀h' tk e,(∀b u,h.get? b=some u->h'.get? b=some u)->(∃oe,h'.get? e=some oe/\oe.cls= .type "AttributeError")->E (.ref e) ⟨h',g,d,tk,os⟩):wpAny (model prog w) A (raiseAttrError o name msg:Sem α) Q E ⟨h,g,d,t,os⟩:=by
 unfold raiseAttrError;refine wpAny_bind (wpAny_mkStr (wpAny_bind ?_) hm);unfold newExc newTuple;refine wpAny_bind (wpAny_newObj_type ?_);refine wpAny_bind (m:=firstArgMember _ _) (wpAny_of_eq (a:=Value.none) (by simp only[firstArgMember,F.first_AttributeError];rfl) ?_);refine wpAny_newObj_type ?_;refine wpAny_bind (wpAny_mkText (wpAny_bind ?_));dsimp only;generalize hH1:h.push {cls:=.type "tuple",dict:=none,data:=.seq [Value.str msg t].toArray}=H1;generalize hob:({cls:=.type "AttributeError",dict:=none,data:=.fields (#[.ref h.objs.size,.none,.none,.none,.bool false,.none]++ownMembersOf (.type "AttributeError") [Value.str msg t])}:Obj)=ob;have he:(H1.push ob).get? H1.objs.size=some ob:=Heap.get?_push_size _ (by subst hob;rfl);have hT:(⟨H1.push ob,g,d,t+1+1,os⟩:Shared).TypeIs (.ref H1.objs.size) "AttributeError":=⟨_,he,by subst hob;rfl⟩;have f1:=F.sub_AttributeError;have old:∀b u,h.get? b=some u->(H1.push ob).get? b=some u:=λb u e=>Heap.get?_push_of_some _ (hH1▸Heap.get?_push_of_some _ e);have hcls:ob.cls= .type "AttributeError":=by subst hob;rfl
 obtain⟨vs,hds,hv6,hv7⟩:∃vs,ob.data= .fields vs/\vs[6]? =some unsetMember/\vs[7]? =some unsetMember:=by subst hob;exact⟨_,rfl,rfl,rfl⟩
 unfold noteAttr;dsimp only;refine wpAny_bind ?_;unfold lacksNameAndObj;refine wpAny_bind (wpAny_isInstance hT f1 ?_);simp only[Bool.not_true,Bool.false_eq_true,if_false];refine wpAny_bind (wpAny_load he ?_);rw[hds];dsimp only;rw[hv6,hv7];show wpAny (model prog w) A (pure true) _ _ _;refine wpAny_pure ?_;rw[if_pos rfl];refine wpAny_bind (wpAny_rule (wpAny_bind (wpAny_typeOf hT ?_)));dsimp only;unfold layMembers;refine wpAny_bind (wpAny_load he ?_);rw[hds];dsimp only;refine wpAny_update he ?_;unfold raiseNew;refine wpAny_bind (wpAny_handled ?_);rw[hh];dsimp only;have hlt:h.objs.size<H1.objs.size:=by rw[←hH1,Heap.size_push];exact Nat.lt_succ_self _
 refine wpAny_throw (hq _ _ _ (λb u e=>?_) ⟨_,Heap.get?_update_self _ he (Obj.isFreed_of_fields (Obj.data_mapFields hds _)),(Obj.cls_mapFields ..).trans hcls⟩);exact(Heap.get?_update_other (H1.push ob) _ (Ne.symm (Nat.ne_of_lt (Nat.lt_trans (Heap.lt_size e) hlt)))).trans (old b u e)
theorem F.lk_list_keys:typeLookup (.type "list") "keys"=pure none:=by rw[typeLookup_type,builtinLookup_eq_fast];kernel_rfl
theorem F.lk_list_getattr:typeLookup (.type "list") "__getattr__"=pure none:=by rw[typeLookup_type,builtinLookup_eq_fast];kernel_rfl
variable{h:Heap}{g:Array GenState}{d:Drawn}{t:Nat}{os:OsState}{a:Addr}{items:Array Value}{n:Nat}
def qi(E:Value->Shared->Prop)(h:Heap)(g:Array GenState)(d:Drawn)(os:OsState):Prop:=∀h' tk e,(∀b u,h.get? b=some u->h'.get? b=some u)->(∃oe,h'.get? e=some oe/\oe.cls= .type "AttributeError")->E (.ref e) ⟨h',g,d,tk,os⟩
theorem rQ{tk:Tok}{Q:Fin->Shared->Prop}(hh:A.handled=none)(hx:h.get? a=some {cls:=.type "list",data:=.seq items n})(hq:qi E h g d os) :
  wpAny (model prog w) A (Builtin.«object.__getattribute__» ⟨[.ref a,.str "keys" tk],[]⟩) Q E ⟨h,g,d,t,os⟩:=by
 have hT:(⟨h,g,d,t,os⟩:Shared).TypeIs (.ref a) "list":=⟨_,hx,rfl⟩;have f4:=F.lk_list_keys
 repeat(any_goals(first|assumption|wp_step))
 exact lA hh (by decide +kernel) hq
theorem tG{tk:Tok}{R:Result->Shared->Prop}(hh:A.handled=none)(hx:h.get? a=some {cls:=.type "list",data:=.seq items n})(hq:qi (λe s=>R (.error e) s) h g d os) :
  codeAny (model prog w) A (.call (.builtin "list.__getattribute__") ⟨[.ref a,.str "keys" tk],[]⟩) R ⟨h,g,d,t,os⟩:=
 codeAny_call_builtin F.slot_list_getattribute.plain F.entry_list_ga (F.slot_list_getattribute.check _ _ _ _ _ _ _ _ (show(⟨h,g,d,t,os⟩:Shared).TypeIs (.ref a) "list" from⟨_,hx,rfl⟩) (F.args_list_getattribute_2 _ _) (rQ hh hx hq))
theorem xF{tk:Tok}{Q:Value->Shared->Prop}(hh:A.handled=none)(hx:h.get? a=some {cls:=.type "list",data:=.seq items n})(hq:qi E h g d os):wpAny (model prog w) A (getAttrBy (.ref a) (.str "keys" tk) false) Q E ⟨h,g,d,t,os⟩:=by
 have hT:(⟨h,g,d,t,os⟩:Shared).TypeIs (.ref a) "list":=⟨_,hx,rfl⟩;have f2:=F.slot_list_getattribute.lookup;have f3:=F.slot_list_getattribute.bind (.ref a)
 repeat(any_goals(first|assumption|wp_step))
 refine tG hh hx λh' tk' e old he=>?_;obtain⟨oe,he1,he2⟩:=id he;have hT':(⟨h',g,d,tk',os⟩:Shared).TypeIs (.ref e) "AttributeError":=⟨oe,he1,he2⟩;dsimp only;unfold getattributeRaised;refine wpAny_bind (wpAny_isInstance hT' F.sub_AttributeError ?_);rw[if_pos rfl];refine wpAny_bind (wpAny_of_eq (show hookBehind (.type "list") none=pure none from F.lk_list_getattr) ?_);show wpAny (model prog w) A (attributeErrorLeaves (.ref a) (.str "keys" tk) (.ref e) false false) Q E ⟨h',g,d,tk',os⟩;unfold attributeErrorLeaves;dsimp only;rw[if_pos (show(!false)=true from rfl)]
 first|exact wpAny_throw (hq h' tk' e old he)|exact wpAny_bind (wpAny_throw (hq h' tk' e old he))
theorem tO{Q:Option Value->Shared->Prop}(hh:A.handled=none)(hx:h.get? a=some {cls:=.type "list",data:=.seq items n})
  (hq:∀h' tk,(∀b u,h.get? b=some u->h'.get? b=some u)->Q none ⟨h',g,d,tk,os⟩):wpAny (model prog w) A (getAttr? (.ref a) "keys") Q E ⟨h,g,d,t,os⟩:=by
 unfold getAttr? getAttrBy?;refine wpAny_bind (wpAny_mkText (wpAny_bind (wpAny_attempt (xF hh hx λh' tk' e old he=>?_))));obtain⟨oe,he1,he2⟩:=id he;have hT':(⟨h',g,d,tk',os⟩:Shared).TypeIs (.ref e) "AttributeError":=⟨oe,he1,he2⟩;dsimp only;refine wpAny_bind (wpAny_isInstance hT' F.sub_AttributeError ?_);rw[if_pos rfl];exact wpAny_pure (hq h' tk' old)
end
namespace F
theorem entry_dict_update_loop:entryFor table "dict.update.loop"=some Builtin.«dict.update.loop»:=entryFor_of_tree (by kernel_rfl)
theorem plain_dict_update_loop:plainId "dict.update.loop"=true:=by decide +kernel
end F
end PySem
namespace Jb
open PySem PySem.Spec PyProof.Rows L2
section
variable{X:Cx}{pins:List (Addr×Obj)}{σ:L2.St}{A:Around}
def putAll(kvs:List (Key×V))(prs:List (Key×V)):List (Key×V):=prs.foldl (λacc kv=>putK acc kv.1 kv.2) kvs
theorem DN{D it l:Addr}{xs:List V}{prs:List (Key×V)}{R:Result->Shared->Prop}(hh:A.handled=none)(hlen:prs.length=xs.length):∀(m i:Nat)(kvs:List (Key×V))(H:Hp)(s:Shared),xs.length-i=m->i<=xs.length->
  Inv X pins σ H s->H D=some (.dK kvs)->SqL X.K H l xs->j6 X pins H it->s.heap.IsListIter it l i->(∀(j:Nat)(k:Key)(v:V),prs[j]? =some (k,v)->∃p:Addr,xs[j]? =some (V.ref p)/\H p=some (.tup [kV k,v]))->kvs.length+m<=100000->
  (∀s',Inv X pins σ (upd H D (.dK (putAll kvs (prs.drop i)))) s'->R (.ok (.ret .none)) s')->codeAny (model X.prog X.w) A (.builtin "dict.update.loop" ⟨[.ref D,.ref it,rawInt i,.none],[]⟩) R s:=by
 intro m
 induction m with
 |zero=>
  intro i kvs H s hm hi I hD hq hf hit hp hz k;have e:i=xs.length:=by omega
  subst e;obtain⟨its,rv,p,_⟩:=I.list hq;have hl:=rv.length;refine codeAny_builtin F.entry_dict_update_loop ?_;rw[Around.under_plainId F.plain_dict_update_loop _];unfold Builtin.«dict.update.loop»;dsimp only;refine wpAny_bind (wpAny_pyNext_list_end (show A.in1.handled=none from hh) hit p.isList (by simp;omega) λh' eb=>?_);dsimp only;have I1:Inv X pins σ H {s with heap:=h'}:=mK (fp:=[it]) (t':=s.toks) I (λb hb=>by rw[List.mem_singleton.mp hb];exact hf) λb o hb q=>eb b o (λz=>hb (by simp[z])) q;have e1:prs.drop xs.length=[]:=by rw[←hlen,List.drop_length]
  have k1:=k _ (by
   rw[e1];show Inv X pins σ (upd H D (.dK kvs)) {s with heap:=h'};have:upd H D (.dK kvs)=H:=by
    funext b;unfold upd;split
    .rename_i z
     rw[z,hD]
    .rfl
   rw[this];exact I1)
  show wpAny (model X.prog X.w) A.in1 (Builtin.Dict.addKeywords D [] >>=λ_=>ret .none) _ _ _;exact wpAny_bind (wpAny_pure (wpAny_pure k1))
 |succ m ih=>
  intro i kvs H s hm hi I hD hq hf hit hp hz k;have hlt:i<xs.length:=by omega
  obtain⟨its,rv,p,_⟩:=I.list hq;have hl:=rv.length;have hlp:i<prs.length:=by omega
  obtain⟨t,ht,hT⟩:=hp i prs[i].1 prs[i].2 (by rw[List.getElem?_eq_getElem hlp]);obtain⟨u,hu,ru⟩:=rv.get ht;cases ru;refine codeAny_builtin F.entry_dict_update_loop ?_;rw[Around.under_plainId F.plain_dict_update_loop _];unfold Builtin.«dict.update.loop»;dsimp only;refine wpAny_bind (wpAny_pyNext_list_item hit p.isList (x:=.ref t) (by simpa using hu) λh1 hit1 sb1=>?_);dsimp only;have I1:Inv X pins σ H {s with heap:=h1}:=mK (fp:=[it]) (t':=s.toks) I (λb hb=>by rw[List.mem_singleton.mp hb];exact hf) λb o hb q=>(sb1.2 b (λz=>hb (by simp[z]))).trans q;obtain⟨_,jts,rj,oj,ej,cj,nj,dj,_⟩:=(show cg X.prog X.w H h1 t (.tup [kV prs[i].1,prs[i].2])from I1.hok t _ hT);obtain⟨ku,vu,rfl,rk,rw'⟩:=vals2 rj;have hTT:(({s with heap:=h1}:Shared)).TypeIs (.ref t) "tuple":=⟨oj,ej,cj⟩;refine wpAny_bind (wpAny_holding (wpAny_bind (wpAny_tryCatch ?_)));unfold Builtin.Dict.pairItems;refine wpAny_bind (wpAny_typeOf hTT ?_);rw[if_pos (by decide)];refine wpAny_bind (wpAny_seqItems ej dj (wpAny_pure ?_));show wpAny (model X.prog X.w) A.in1 (holding [ku,vu] (dictSet D ku vu)) _ _ _;obtain⟨z,hd,vs,rel,dd⟩:=Ia I1.hok hD;have hz2:vs.length<=sizeLine:=by rw[←rel.length];exact z
  have hsl:200000<=sizeLine:=by decide
  have hl2:(putK kvs prs[i].1 prs[i].2).length<=sizeLine:=by have:=gq kvs prs[i].1 prs[i].2;omega
  refine wpAny_holding (wpAny_dictSet_pairs (hsz:=hz2) (tu rk) dd λh2 dd2 sb2=>?_);have I2:Inv X pins σ (upd H D (.dK (putK kvs prs[i].1 prs[i].2))) {s with heap:=h2,toks:=s.toks+1}:=by
   have he:∃q,h2.get? D=some q:=let⟨q,_,_,hq,_⟩:=dd2;⟨q,hq⟩;exact sG (s:=({s with heap:=h1}:Shared)) (t':=s.toks+1) I1 (by rw[hD];exact True.intro) sb2 he (A_ hl2 hd (rel.put prs[i].1 rw') dd2)
  have nDt:∀p ys,H p=some (.tup ys)->p≠D:=λp ys e=>ux e hD (by intro z;cases z);have nDi:it≠D:=λz=>by have:=hf.1;rw[z,hD]at this;cases this
  show wpAny (model X.prog X.w) A.in1 (again (.builtin "dict.update.loop" ⟨[.ref D,.ref it,rawInt ((i:Int)+1),.none],[]⟩)) _ _ _;refine wpAny_pure ⟨plainId_quiet F.plain_dict_update_loop _,?_⟩;have ei:((i:Int)+1)=((i+1:Nat):Int):=by omega
  rw[ei];have hlk:=gq kvs prs[i].1 prs[i].2;refine ih (i+1) (putK kvs prs[i].1 prs[i].2) _ _ (by omega) hlt I2 bc ?_ ?_ (hit1.extBut sb2.extBut nDi) ?_ (by omega) (λs' I'=>k s' ?_)
  .rcases hq with(hq|⟨o,hq⟩)|hq
   .exact .inl (.inl (by rw[aP (ux hq hD (by intro z;cases z))];exact hq))
   .exact .inl (.inr ⟨o,by rw[aP (ux hq hD (by intro z;cases z))];exact hq⟩)
   .exact .inr hq
  .exact⟨by rw[aP nDi];exact hf.1,hf.2⟩
  .intro j kk vv e
   obtain⟨p,h1,h2⟩:=hp j kk vv e;exact⟨p,h1,by rw[aP (nDt p _ h2)];exact h2⟩
  .rw[sE]at I'
   rw[List.drop_eq_getElem_cons hlp];exact I'
theorem rG(hc:X.calm=true):cM X (.type "dict") (λxs H Q=>∃l ys prs,xs=[.ref l]/\H l=some (.lst ys)/\List.length prs=List.length ys/\List.length prs<=50000/\
  (∀(j:Nat)(k:Key)(v:V),prs[j]? =some (k,v)->∃p:Addr,ys[j]? =some (V.ref p)/\H p=some (.tup [kV k,v]))/\∀D,H D=none->Q (.ref D) (upd H D (.dK (putAll [] prs)))):=by
 intro pins s σ H xs us Q I r h;obtain⟨l,ys,prs,rfl,hl,hlen,hsz,hp,q⟩:=h;obtain⟨u,rfl,ru⟩:=vals1 r;cases ru;have hh:X.A.handled=none:=I.ok.hd hc;refine callType_codes (Q₁:=λobj s₁=>obj= .ref s.heap.objs.size/\s₁={s with heap:=s.heap.push {cls:=.type "dict",data:=.dict #[]}}) F.kt_called_dict (F.kt_typeCall_dict_1 _) F.entry_dict_init (kt_code_dict_new _ ⟨rfl,rfl⟩) ?_;rintro obj s₁ ⟨rfl,rfl⟩;have hD0:H s.heap.objs.size=none:=I.fresh;have I1:Inv X pins σ (upd H s.heap.objs.size (.dK [])) {s with heap:=s.heap.push {cls:=.type "dict",data:=.dict #[]}}:=I.laid (t':=s.toks) (λ_ _ z=>Heap.get?_push_of_some _ z) (Nat.le_refl _) (uo s.heap I.big);have hnew:(s.heap.push {cls:=.type "dict",data:=.dict #[]}).DictOf (dG X.prog X.w) s.heap.objs.size []:=Heap.DictOf.new s.heap;have nl:l≠s.heap.objs.size:=aZ hl hD0;have hl1:(upd H s.heap.objs.size (.dK [])) l=some (.lst ys):=by rw[aP nl];exact hl
 obtain⟨_,its,n,rv,el⟩:=(show cg X.prog X.w _ _ l (.lst ys)from I1.hok l _ hl1);have hTl:({s with heap:=s.heap.push {cls:=.type "dict",data:=.dict #[]}}:Shared).TypeIs (.ref l) "list":=⟨_,el,rfl⟩;refine⟨hnew.typeIs,F.args_dict_init_2 _ _,?_⟩;unfold Builtin.«dict.__init__»;refine wpAny_bind ?_;unfold Builtin.Dict.selfAndRest;refine wpAny_bind (wpAny_notOrdered_dict hnew.typeIs ?_);show wpAny _ _ (pure (s.heap.objs.size,[Value.ref l])) _ _ _;refine wpAny_pure ?_;show wpAny _ _ (Builtin.Dict.updateFrom "dict.__init__" s.heap.objs.size (.ref l) [] .none) _ _ _;unfold Builtin.Dict.updateFrom;refine wpAny_bind (wpAny_typeOf hTl ?_);rw[if_pos (by decide)];refine wpAny_bind (tO (show X.A.in1.in1.handled=none from hh) el λh2 tk2 old2=>?_);rw[if_pos (by rfl)];have I2:Inv X pins σ (upd H s.heap.objs.size (.dK [])) {s with heap:=h2,toks:=tk2}:=I1.kept (t':=tk2) old2;obtain⟨its2,rv2,p2,_⟩:=I2.list (SqL.of hl1);refine wpAny_bind (wpAny_rule (wpAny_bind (wpAny_pyIter_list p2.isList ?_)));have I3:Inv X pins σ (upd H s.heap.objs.size (.dK [])) {s with heap:=h2.push {cls:=.type "list_iterator",data:=.fields #[.ref l,.int 0 0]},toks:=tk2}:=I2.kept (t':=tk2) λb o e=>Heap.get?_push_of_some _ e;have fit:j6 X pins (upd H s.heap.objs.size (.dK [])) h2.objs.size:=I2.fpOk (Nat.le_refl _) (I2.hok.fresh (Nat.le_refl _));refine wpAny_pure ⟨plainId_quiet F.plain_dict_update_loop _,?_⟩;refine DN (A:=X.A.in1) (l:=l) (xs:=ys) (prs:=prs) hh hlen ys.length 0 [] _ _ rfl (Nat.zero_le _) I3 bc (SqL.of hl1) fit ⟨_,Heap.get?_push_size _ rfl,rfl,rfl⟩ ?_ (by simp;omega) λs' I'=>?_
 .intro j k v e
  obtain⟨p,h1,h2⟩:=hp j k v e;exact⟨p,h1,by rw[aP (aZ h2 hD0)];exact h2⟩
 .rw[sE,List.drop_zero]at I'
  exact⟨rfl,.ref _,_,I',rfl,q _ hD0⟩
end
end Jb
namespace PySem
open Sem (wp)
section
variable{prog:Program}{w:World}{A:Around}{E:Value->Shared->Prop}
theorem F.lk_tuple_keys:typeLookup (.type "tuple") "keys"=pure none:=by rw[typeLookup_type,builtinLookup_eq_fast];kernel_rfl
theorem F.lk_tuple_getattr:typeLookup (.type "tuple") "__getattr__"=pure none:=by rw[typeLookup_type,builtinLookup_eq_fast];kernel_rfl
variable{h:Heap}{g:Array GenState}{d:Drawn}{t:Nat}{os:OsState}{a:Addr}{items:Array Value}{n:Nat}{sl:Array (Option Value)}
theorem pL{tk:Tok}{Q:Fin->Shared->Prop}(hh:A.handled=none)(hx:h.get? a=some {cls:=.type "tuple",dict:=none,data:=.seq items n,slots:=sl})(hq:qi E h g d os) :
  wpAny (model prog w) A (Builtin.«object.__getattribute__» ⟨[.ref a,.str "keys" tk],[]⟩) Q E ⟨h,g,d,t,os⟩:=by
 have hT:(⟨h,g,d,t,os⟩:Shared).TypeIs (.ref a) "tuple":=⟨_,hx,rfl⟩;have f4:=F.lk_tuple_keys
 repeat(any_goals(first|assumption|wp_step))
 exact lA hh (by decide +kernel) hq
theorem rT{tk:Tok}{R:Result->Shared->Prop}(hh:A.handled=none)(hx:h.get? a=some {cls:=.type "tuple",dict:=none,data:=.seq items n,slots:=sl})(hq:qi (λe s=>R (.error e) s) h g d os) :
  codeAny (model prog w) A (.call (.builtin "tuple.__getattribute__") ⟨[.ref a,.str "keys" tk],[]⟩) R ⟨h,g,d,t,os⟩:=
 codeAny_call_builtin F.slot_tuple_getattribute.plain F.entry_tuple_ga (F.slot_tuple_getattribute.check _ _ _ _ _ _ _ _ (show(⟨h,g,d,t,os⟩:Shared).TypeIs (.ref a) "tuple" from⟨_,hx,rfl⟩) (F.args_tuple_getattribute_2 _ _) (pL hh hx hq))
theorem uX{tk:Tok}{Q:Value->Shared->Prop}(hh:A.handled=none)(hx:h.get? a=some {cls:=.type "tuple",dict:=none,data:=.seq items n,slots:=sl})(hq:qi E h g d os):wpAny (model prog w) A (getAttrBy (.ref a) (.str "keys" tk) false) Q E ⟨h,g,d,t,os⟩:=by
 have hT:(⟨h,g,d,t,os⟩:Shared).TypeIs (.ref a) "tuple":=⟨_,hx,rfl⟩;have f2:=F.slot_tuple_getattribute.lookup;have f3:=F.slot_tuple_getattribute.bind (.ref a)
 repeat(any_goals(first|assumption|wp_step))
 refine rT hh hx λh' tk' e old he=>?_;obtain⟨oe,he1,he2⟩:=id he;have hT':(⟨h',g,d,tk',os⟩:Shared).TypeIs (.ref e) "AttributeError":=⟨oe,he1,he2⟩;dsimp only;unfold getattributeRaised;refine wpAny_bind (wpAny_isInstance hT' F.sub_AttributeError ?_);rw[if_pos rfl];refine wpAny_bind (wpAny_of_eq (show hookBehind (.type "tuple") none=pure none from F.lk_tuple_getattr) ?_);show wpAny (model prog w) A (attributeErrorLeaves (.ref a) (.str "keys" tk) (.ref e) false false) Q E ⟨h',g,d,tk',os⟩;unfold attributeErrorLeaves;dsimp only;rw[if_pos (show(!false)=true from rfl)]
 first|exact wpAny_throw (hq h' tk' e old he)|exact wpAny_bind (wpAny_throw (hq h' tk' e old he))
theorem rO{Q:Option Value->Shared->Prop}(hh:A.handled=none)(hx:h.get? a=some {cls:=.type "tuple",dict:=none,data:=.seq items n,slots:=sl})
  (hq:∀h' tk,(∀b u,h.get? b=some u->h'.get? b=some u)->Q none ⟨h',g,d,tk,os⟩):wpAny (model prog w) A (getAttr? (.ref a) "keys") Q E ⟨h,g,d,t,os⟩:=by
 unfold getAttr? getAttrBy?;refine wpAny_bind (wpAny_mkText (wpAny_bind (wpAny_attempt (uX hh hx λh' tk' e old he=>?_))));obtain⟨oe,he1,he2⟩:=id he;have hT':(⟨h',g,d,tk',os⟩:Shared).TypeIs (.ref e) "AttributeError":=⟨oe,he1,he2⟩;dsimp only;refine wpAny_bind (wpAny_isInstance hT' F.sub_AttributeError ?_);rw[if_pos rfl];exact wpAny_pure (hq h' tk' old)
end
end PySem
namespace Jb
open PySem PySem.Spec PyProof.Rows L2
section
variable{X:Cx}{pins:List (Addr×Obj)}{σ:L2.St}{A:Around}
theorem An{D it l:Addr}{xs:List V}{prs:List (Key×V)}{R:Result->Shared->Prop}(hh:A.handled=none)(hlen:prs.length=xs.length):∀(m i:Nat)(kvs:List (Key×V))(H:Hp)(s:Shared),xs.length-i=m->i<=xs.length->
  Inv X pins σ H s->H D=some (.dK kvs)->SqT X.K H l xs->j6 X pins H it->s.heap.IsTupleIter it l i->(∀(j:Nat)(k:Key)(v:V),prs[j]? =some (k,v)->∃p:Addr,xs[j]? =some (V.ref p)/\H p=some (.tup [kV k,v]))->kvs.length+m<=100000->
  (∀s',Inv X pins σ (upd H D (.dK (putAll kvs (prs.drop i)))) s'->R (.ok (.ret .none)) s')->codeAny (model X.prog X.w) A (.builtin "dict.update.loop" ⟨[.ref D,.ref it,rawInt i,.none],[]⟩) R s:=by
 intro m
 induction m with
 |zero=>
  intro i kvs H s hm hi I hD hq hf hit hp hz k;have e:i=xs.length:=by omega
  subst e;obtain⟨its,rv,p,_⟩:=I.tuple hq;have hl:=rv.length;refine codeAny_builtin F.entry_dict_update_loop ?_;rw[Around.under_plainId F.plain_dict_update_loop _];unfold Builtin.«dict.update.loop»;dsimp only;refine wpAny_bind (wpAny_pyNext_tuple_end (show A.in1.handled=none from hh) hit (show s.heap.IsTuple l its.toArray from p) (by simp;omega) λh' eb=>?_);dsimp only;have I1:Inv X pins σ H {s with heap:=h'}:=mK (fp:=[it]) (t':=s.toks) I (λb hb=>by rw[List.mem_singleton.mp hb];exact hf) λb o hb q=>eb b o (λz=>hb (by simp[z])) q;have e1:prs.drop xs.length=[]:=by rw[←hlen,List.drop_length]
  have k1:=k _ (by
   rw[e1];show Inv X pins σ (upd H D (.dK kvs)) {s with heap:=h'};have:upd H D (.dK kvs)=H:=by
    funext b;unfold upd;split
    .rename_i z
     rw[z,hD]
    .rfl
   rw[this];exact I1)
  show wpAny (model X.prog X.w) A.in1 (Builtin.Dict.addKeywords D [] >>=λ_=>ret .none) _ _ _;exact wpAny_bind (wpAny_pure (wpAny_pure k1))
 |succ m ih=>
  intro i kvs H s hm hi I hD hq hf hit hp hz k;have hlt:i<xs.length:=by omega
  obtain⟨its,rv,p,_⟩:=I.tuple hq;have hl:=rv.length;have hlp:i<prs.length:=by omega
  obtain⟨t,ht,hT⟩:=hp i prs[i].1 prs[i].2 (by rw[List.getElem?_eq_getElem hlp]);obtain⟨u,hu,ru⟩:=rv.get ht;cases ru;refine codeAny_builtin F.entry_dict_update_loop ?_;rw[Around.under_plainId F.plain_dict_update_loop _];unfold Builtin.«dict.update.loop»;dsimp only;refine wpAny_bind (wpAny_pyNext_tuple_item hit (show s.heap.IsTuple l its.toArray from p) (x:=.ref t) (by simpa using hu) λh1 hit1 sb1=>?_);dsimp only;have I1:Inv X pins σ H {s with heap:=h1}:=mK (fp:=[it]) (t':=s.toks) I (λb hb=>by rw[List.mem_singleton.mp hb];exact hf) λb o hb q=>(sb1.2 b (λz=>hb (by simp[z]))).trans q;obtain⟨_,jts,rj,oj,ej,cj,nj,dj,_⟩:=(show cg X.prog X.w H h1 t (.tup [kV prs[i].1,prs[i].2])from I1.hok t _ hT);obtain⟨ku,vu,rfl,rk,rw'⟩:=vals2 rj;have hTT:(({s with heap:=h1}:Shared)).TypeIs (.ref t) "tuple":=⟨oj,ej,cj⟩;refine wpAny_bind (wpAny_holding (wpAny_bind (wpAny_tryCatch ?_)));unfold Builtin.Dict.pairItems;refine wpAny_bind (wpAny_typeOf hTT ?_);rw[if_pos (by decide)];refine wpAny_bind (wpAny_seqItems ej dj (wpAny_pure ?_));show wpAny (model X.prog X.w) A.in1 (holding [ku,vu] (dictSet D ku vu)) _ _ _;obtain⟨z,hd,vs,rel,dd⟩:=Ia I1.hok hD;have hz2:vs.length<=sizeLine:=by rw[←rel.length];exact z
  have hsl:200000<=sizeLine:=by decide
  have hl2:(putK kvs prs[i].1 prs[i].2).length<=sizeLine:=by have:=gq kvs prs[i].1 prs[i].2;omega
  refine wpAny_holding (wpAny_dictSet_pairs (hsz:=hz2) (tu rk) dd λh2 dd2 sb2=>?_);have I2:Inv X pins σ (upd H D (.dK (putK kvs prs[i].1 prs[i].2))) {s with heap:=h2,toks:=s.toks+1}:=by
   have he:∃q,h2.get? D=some q:=let⟨q,_,_,hq,_⟩:=dd2;⟨q,hq⟩;exact sG (s:=({s with heap:=h1}:Shared)) (t':=s.toks+1) I1 (by rw[hD];exact True.intro) sb2 he (A_ hl2 hd (rel.put prs[i].1 rw') dd2)
  have nDt:∀p ys,H p=some (.tup ys)->p≠D:=λp ys e=>ux e hD (by intro z;cases z);have nDi:it≠D:=λz=>by have:=hf.1;rw[z,hD]at this;cases this
  show wpAny (model X.prog X.w) A.in1 (again (.builtin "dict.update.loop" ⟨[.ref D,.ref it,rawInt ((i:Int)+1),.none],[]⟩)) _ _ _;refine wpAny_pure ⟨plainId_quiet F.plain_dict_update_loop _,?_⟩;have ei:((i:Int)+1)=((i+1:Nat):Int):=by omega
  rw[ei];have hlk:=gq kvs prs[i].1 prs[i].2;refine ih (i+1) (putK kvs prs[i].1 prs[i].2) _ _ (by omega) hlt I2 bc ?_ ?_ (hit1.extBut sb2.extBut nDi) ?_ (by omega) (λs' I'=>k s' ?_)
  .rcases hq with(hq|⟨o,hq⟩)|hq
   .exact .inl (.inl (by rw[aP (ux hq hD (by intro z;cases z))];exact hq))
   .exact .inl (.inr ⟨o,by rw[aP (ux hq hD (by intro z;cases z))];exact hq⟩)
   .exact .inr hq
  .exact⟨by rw[aP nDi];exact hf.1,hf.2⟩
  .intro j kk vv e
   obtain⟨p,h1,h2⟩:=hp j kk vv e;exact⟨p,h1,by rw[aP (nDt p _ h2)];exact h2⟩
  .rw[sE]at I'
   rw[List.drop_eq_getElem_cons hlp];exact I'
theorem ql(hc:X.calm=true):cM X (.type "dict") (λxs H Q=>∃l ys prs,xs=[.ref l]/\H l=some (.tup ys)/\List.length prs=List.length ys/\List.length prs<=50000/\
  (∀(j:Nat)(k:Key)(v:V),prs[j]? =some (k,v)->∃p:Addr,ys[j]? =some (V.ref p)/\H p=some (.tup [kV k,v]))/\∀D,H D=none->Q (.ref D) (upd H D (.dK (putAll [] prs)))):=by
 intro pins s σ H xs us Q I r h;obtain⟨l,ys,prs,rfl,hl,hlen,hsz,hp,q⟩:=h;obtain⟨u,rfl,ru⟩:=vals1 r;cases ru;have hh:X.A.handled=none:=I.ok.hd hc;refine callType_codes (Q₁:=λobj s₁=>obj= .ref s.heap.objs.size/\s₁={s with heap:=s.heap.push {cls:=.type "dict",data:=.dict #[]}}) F.kt_called_dict (F.kt_typeCall_dict_1 _) F.entry_dict_init (kt_code_dict_new _ ⟨rfl,rfl⟩) ?_;rintro obj s₁ ⟨rfl,rfl⟩;have hD0:H s.heap.objs.size=none:=I.fresh;have I1:Inv X pins σ (upd H s.heap.objs.size (.dK [])) {s with heap:=s.heap.push {cls:=.type "dict",data:=.dict #[]}}:=I.laid (t':=s.toks) (λ_ _ z=>Heap.get?_push_of_some _ z) (Nat.le_refl _) (uo s.heap I.big);have hnew:(s.heap.push {cls:=.type "dict",data:=.dict #[]}).DictOf (dG X.prog X.w) s.heap.objs.size []:=Heap.DictOf.new s.heap;have nl:l≠s.heap.objs.size:=aZ hl hD0;have hl1:(upd H s.heap.objs.size (.dK [])) l=some (.tup ys):=by rw[aP nl];exact hl
 obtain⟨_,its,rv,⟨oc,od,odt,osl⟩,el,ec,n,en,ed⟩:=(show cg X.prog X.w _ _ l (.tup ys)from I1.hok l _ hl1);simp only at ec en ed;subst ec en ed;have hTl:({s with heap:=s.heap.push {cls:=.type "dict",data:=.dict #[]}}:Shared).TypeIs (.ref l) "tuple":=⟨_,el,rfl⟩;refine⟨hnew.typeIs,F.args_dict_init_2 _ _,?_⟩;unfold Builtin.«dict.__init__»;refine wpAny_bind ?_;unfold Builtin.Dict.selfAndRest;refine wpAny_bind (wpAny_notOrdered_dict hnew.typeIs ?_);show wpAny _ _ (pure (s.heap.objs.size,[Value.ref l])) _ _ _;refine wpAny_pure ?_;show wpAny _ _ (Builtin.Dict.updateFrom "dict.__init__" s.heap.objs.size (.ref l) [] .none) _ _ _;unfold Builtin.Dict.updateFrom;refine wpAny_bind (wpAny_typeOf hTl ?_);rw[if_pos (by decide)];refine wpAny_bind (rO (show X.A.in1.in1.handled=none from hh) el λh2 tk2 old2=>?_);rw[if_pos (by rfl)];have I2:Inv X pins σ (upd H s.heap.objs.size (.dK [])) {s with heap:=h2,toks:=tk2}:=I1.kept (t':=tk2) old2;obtain⟨its2,rv2,p2,_⟩:=I2.tuple (SqT.of hl1);refine wpAny_bind (wpAny_rule (wpAny_bind (wpAny_pyIter_tuple (show({s with heap:=h2,toks:=tk2}:Shared).heap.IsTuple l its2.toArray from p2) ?_)));have I3:Inv X pins σ (upd H s.heap.objs.size (.dK [])) {s with heap:=h2.push {cls:=.type "tuple_iterator",data:=.fields #[.ref l,.int 0 0]},toks:=tk2}:=I2.kept (t':=tk2) λb o e=>Heap.get?_push_of_some _ e;have fit:j6 X pins (upd H s.heap.objs.size (.dK [])) h2.objs.size:=I2.fpOk (Nat.le_refl _) (I2.hok.fresh (Nat.le_refl _));refine wpAny_pure ⟨plainId_quiet F.plain_dict_update_loop _,?_⟩;refine An (A:=X.A.in1) (l:=l) (xs:=ys) (prs:=prs) hh hlen ys.length 0 [] _ _ rfl (Nat.zero_le _) I3 bc (SqT.of hl1) fit ⟨_,Heap.get?_push_size _ rfl,rfl,rfl⟩ ?_ (by simp;omega) λs' I'=>?_
 .intro j k v e
  obtain⟨p,h1,h2⟩:=hp j k v e;exact⟨p,h1,by rw[aP (aZ h2 hD0)];exact h2⟩
 .rw[sE,List.drop_zero]at I'
  exact⟨rfl,.ref _,_,I',rfl,q _ hD0⟩
end
theorem vq{α β:Type}{F:α->β->Prop}:∀{xs:List α}{ys:List β},Paired F xs ys->∀{i:Nat}{a:α}{b:β},xs[i]? =some a->ys[i]? =some b->F a b
 |_,_,.nil,i,a,b,h,_=>by simp at h
 |_,_,.cons p r,0,a,b,h1,h2=>by cases h1;cases h2;exact p
 |_,_,.cons p r,i+1,a,b,h1,h2=>vq r (i:=i) (by simpa using h1) (by simpa using h2)
theorem GX{X:Cx}{pins:List (Addr×Obj)}{σ σ':L2.St}{H2 H':Hp}{s2 s':Shared}{fp:List Addr}{N':List Str}{scope:Scope}{D C:Addr}{o:Obj}{ob:HO}(I2:Inv X pins σ H2 s2)(f2:∀b∈fp,j6 X pins H2 b)
  (hD:s2.heap.objs.size<=D) (hC:s2.heap.objs.size<=C) (hDC:D≠C) (I':Inv (cV X N' scope C s2 H2 fp) [(D,o)] σ' H' s') (new:∀h',h'.get? D=some o->cg X.prog X.w (upd H' D ob) h' D ob)
  (h':Heap) (sb:Heap.SameBut C s'.heap h'):Inv X pins σ (upd H' D ob) {s' with heap:=h'}:=by
 obtain⟨eD,nD,_,nfD,_⟩:=I'.pin (D,o) (List.mem_append_right _ List.mem_cons_self);refine I2.call' (ch:=fp) I'.os ?_ ?_ I'.bare (λb hb=>⟨(f2 b hb).2.2.2.1,(f2 b hb).2.1,(f2 b hb).2.2.2.2.1,(f2 b hb).2.2.2.2.2⟩)
 .have ne:∀b o,s2.heap.get? b=some o->b≠C/\b≠D:=λb o e=>⟨Nat.ne_of_lt (Nat.lt_of_lt_of_le (Heap.lt_size e) hC),Nat.ne_of_lt (Nat.lt_of_lt_of_le (Heap.lt_size e) hD)⟩
  refine⟨λb o e n hb he=>sb.extBut b o (ne b o e).1 (I'.base.keep b o e n hb he),λb o e n hb he=>?_,λb o e n he=>?_,λb o e he=>?_,λb xs e=>?_,λb o u e=>?_,λb ps e=>?_⟩
  .obtain⟨sl,e1⟩:=I'.base.slot b o e n hb he
   exact⟨sl,sb.extBut b _ (ne b o e).1 e1⟩
  .rw[aP (ne b o e).2]
   exact I'.base.free b o e n he
  .obtain⟨o',e1⟩:=I'.base.there b o e he
   exact⟨o',sb.extBut b _ (ne b o e).1 e1⟩
  .have e1:=I'.base.tups b xs e
   rw[aP (aZ e1 nD)];exact e1
  .have e1:=I'.base.frzs b o u e
   rw[aP (aZ e1 nD)];exact e1
  .obtain⟨more,e1⟩:=I'.base.tbls b ps e
   refine⟨more,?_⟩;rw[aP (aZ e1 nD)];exact e1
 .intro b u e
  by_cases hb:b=D
  .subst hb
   rw[bc]at e;cases e;exact new h' (sb.extBut _ _ hDC eD)
  .rw[aP hb]at e
   have nC:∀b u,H' b=some u->b≠C:=λb u e z=>by
    have hf:H' C=none:=I'.free;rw[z,hf]at e;cases e
   refine(I'.hok b u e).stay (λc v hc q=>sb.extBut c v ?_ q) (λc q=>by rw[aP (aZ q nD)];exact q) λc xs q=>by rw[aP (aZ q nD)];exact q
   rcases hc with z|z
   .rw[z]
    exact nC b u e
   .exact nC c _ z
section
variable{X:Cx}{elt kx vx target iter:Expr}{ifs:List Expr}{scope:Scope}{pos pos' pos2:Pos}{N':List Str}{cap:List (Option Nat)}{wi:TI}{g:TG}{tt:TT}{te tk tv:TE}
theorem JX{pins:List (Addr×Obj)}{σ σ':L2.St}{H2 H':Hp}{s2 s':Shared}{fp:List Addr}{D C:Addr}{o:Obj}{ob:HO}{i:Nat}{x:Str}{Dn:Ends}(I2:Inv X pins σ H2 s2)(f2:∀b∈fp,j6 X pins H2 b)
  (hD:s2.heap.objs.size<=D) (hC:s2.heap.objs.size<=C) (hDC:D≠C) (I':Inv (cV X N' scope C s2 H2 fp) [(D,o)] σ' H' s') (new:∀h',h'.get? D=some o->cg X.prog X.w (upd H' D ob) h' D ob)
  (hN:X.N.Nodup) (hi:X.N[i]? =some x) (hx:Loc X.env.scope x) (hf:X.fn x=true∨X.env.scope.names.lookup x=some .local) (q:Dn.nx (σ.set i (some (.ref D))) (upd H' D ob)) :
  wpAny (model X.prog X.w) X.A (assignAll (.ref D) ((assignEach [.Name x pos'] X.env).map (·.2))) (λ_ s''=>∃m,s''.heap.Ns C m/\∀h',Heap.SameBut C s''.heap h'->SP X pins Dn .next {s'' with heap:=h'}) X.xe s':=by
 have I3:Inv X pins σ (upd H' D ob) s':=GX I2 f2 hD hC hDC I' new s'.heap ⟨rfl,λ_ _=>rfl⟩;obtain⟨m,hns,_⟩:=I'.loc;obtain⟨nD1,nD,_,nfD,_⟩:=I'.pin (D,o) (List.mem_append_right _ List.mem_cons_self);have hns:s'.heap.Ns C m:=hns;have hC0:upd H' D ob C=none:=by
  rw[aP (Ne.symm hDC)];exact I'.free
 obtain⟨f0,f1,f2',f3,f4,f5⟩:=I2.fpOk hC (I2.hok.fresh hC);have fC:j6 X pins (upd H' D ob) C:=⟨hC0,f1,f2',f3,f4,f5⟩;obtain⟨oC,es,ep,gC,dC,k1,k2⟩:=hns;have I4:=I3.pinned (fp:=[C]) (λb hb=>by rw[List.mem_singleton.mp hb];exact fC) λb hb=>⟨oC,by rw[List.mem_singleton.mp hb];exact gC,λv z=>by rw[dC]at z;cases z⟩;have ea:assignAll (.ref D) ((assignEach [.Name x pos'] X.env).map (·.2))=assign (.Name x pos') X.env (.ref D):=by
  unfold assignAll;simp[assignEach]
 rw[ea];refine wpAny_assign_Name (lN I4 hN hi hx (v:=.ref D) rfl (λs'' I5=>⟨m,?_,λh' sb=>?_⟩) hf)
 .exact⟨oC,es,ep,(I5.pin (C,oC) (List.mem_append_right _ (List.mem_append_right _ (fW (List.mem_singleton.mpr rfl) gC)))).1,dC,k1,k2⟩
 .exact⟨_,_,I5.unpinned.turned (t':=s''.toks) (λb o hb e=>sb.extBut b o hb e) hC0 f1 f3 f4 f5,q⟩
theorem Jm{i:Nat}{x:Str}(hx:X.xe=NoX)(hc:X.calm=true)(hN:X.N.Nodup)(hi:X.N[i]? =some x)(hl:Loc X.env.scope x)(O:cQ X.env.scope X.N N' scope cap)(hit:PI X target iter wi)
  (hg:∀C s₂ H fp,PG (cV X N' scope C s₂ H fp) target g) (ht:∀C s₂ H fp,PTs (cV X N' scope C s₂ H fp) ifs tt) (he:∀C s₂ H fp,PE (cV X N' scope C s₂ H fp) elt te)
  (hw:swapsWith (.ListComp elt [⟨target,iter,ifs,0⟩] scope pos) (some (.Name x pos')) pos2.line X.env=pure true:=by rfl) (hs:∀x,foldedSetIterable iter X.env x=pure x:=by intro _;rfl)
  (hf:X.fn x=true∨X.env.scope.names.lookup x=some .local:=by first|exact .inl rfl|exact .inr rfl|assumption):PS X (.Assign [.Name x pos'] (.ListComp elt [⟨target,iter,ifs,0⟩] scope pos) pos2) (JV (Bo cap wi g tt te) (vI i)):=by
 intro pins s σ H Dn I h;rw[exec_Assign_arm];refine wpAny_bind (wpAny_standAt ?_);rw[show swapsWithSole [.Name x pos'] (.ListComp elt [⟨target,iter,ifs,0⟩] scope pos) pos2.line X.env=pure true from hw];refine wpAny_bind (wpAny_pure ?_);rw[if_pos rfl,arm_evalThenUse_ListComp];refine wpAny_bind (wpAny_bind (wpAny_comprehension_free (use:=some _) rfl hs (m7 λy hy hk=>I.ok.has y.1 (O.free y hy hk)) O.kind O.nm (thn (hit pins s σ H _ I h) λv s1 h1=>thn h1 λitv s2 h2=>?_)));obtain⟨it,fp,tn,J,H2,e,I2,T,st2,f2,cw⟩:=h2;subst e;refine ul (RR:=λacc C=>compPost (model X.prog X.w) X.A X.xe (some _) _ acc C) hc O I2 T st2 f2 (λC=>hg C _ _ _) (λC=>ht C _ _ _) (λC=>he C _ _ _) cw ?_;intro D C s' H' ys its n σ' hD hC hDC I' rv q;obtain⟨hz,q⟩:=q;have nD:=(I'.pin (D,lobj its n) (List.mem_append_right _ List.mem_cons_self)).2.1;refine thn (JX (ob:=.lst ys) (Dn:=Dn) (pos':=pos') I2 f2 hD hC hDC I' (λh' e=>⟨hz,its,n,rv,e⟩) hN hi hl hf (q D nD)) λ_ s'' ⟨m,h1,h2⟩=>⟨m,h1,λh' sb=>wpAny_pure (wpAny_pure (h2 h' sb))⟩
end
mutual
def pyD:Dt->PyData
 |.non=>.none
 |.bl b=>.bool b
 |.int i=>.int i
 |.str x=>.str x
 |.lst ds=>.list (pyL ds)
 |.tup ds=>.tuple (pyL ds)
def pyL:List Dt->List PyData
 |[]=>[]
 |d::r=>pyD d::pyL r
end
mutual
theorem noDict:∀d:Dt,PyData.hasDict (pyD d)=false
 |.non=>by simp[pyD,PyData.hasDict]
 |.bl _=>by simp[pyD,PyData.hasDict]
 |.int _=>by simp[pyD,PyData.hasDict]
 |.str _=>by simp[pyD,PyData.hasDict]
 |.lst ds=>by simp[pyD,PyData.hasDict,wG ds]
 |.tup ds=>by simp[pyD,PyData.hasDict,wG ds]
theorem wG:∀ds:List Dt,PyData.hasDictAll (pyL ds)=false
 |[]=>by simp[pyL,PyData.hasDictAll]
 |d::r=>by simp[pyL,PyData.hasDictAll,noDict d,wG r]
end
mutual
theorem zy{X:Cx}{pins:List (Addr×Obj)}{σ:L2.St}{H:Hp}{s:Shared}(I:Inv X pins σ H s):∀(d:Dt)(x:V)(u:Value),Brs X.K H d x->RelV x u->∃as,Reads s.heap u (pyD d) as
 |.non,x,u,h,r=>by simp only[Brs]at h;subst h;cases (show u=Value.none from r);exact⟨_,.none⟩
 |.bl b,x,u,h,r=>by simp only[Brs]at h;subst h;cases (show u=Value.bool b from r);exact⟨_,.bool b⟩
 |.int i,x,u,h,r=>by simp only[Brs]at h;subst h;obtain⟨t,rfl⟩:=(show ∃t,u=Value.int i t from r);exact⟨_,.int i t⟩
 |.str y,x,u,h,r=>by simp only[Brs]at h;subst h;obtain⟨t,rfl⟩:=(show ∃t,u=Value.str y t from r);exact⟨_,.str y t⟩
 |.lst ds,x,u,h,r=>by
  simp only[Brs]at h;obtain⟨a,xs,rfl,hq,hb⟩:=h;cases (show u=Value.ref a from r);obtain⟨its,rv,p,_⟩:=I.list hq;obtain⟨as,ha⟩:=qp I ds xs its hb rv;obtain⟨o,h1,h2,n,h3⟩:=p.isList;exact⟨_,.list h1 h2 h3 ha⟩
 |.tup ds,x,u,h,r=>by
  simp only[Brs]at h;obtain⟨a,xs,rfl,hq,hb⟩:=h;cases (show u=Value.ref a from r);obtain⟨its,rv,p,_⟩:=I.tuple hq;obtain⟨as,ha⟩:=qp I ds xs its hb rv;obtain⟨o,h1,h2,n,h3⟩:=p;exact⟨_,.tuple h1 h2 h3 ha⟩
theorem qp{X:Cx}{pins:List (Addr×Obj)}{σ:L2.St}{H:Hp}{s:Shared}(I:Inv X pins σ H s):∀(ds:List Dt)(xs:List V)(us:List Value),h_ X.K H ds xs->Vals xs us->∃as,ReadsAll s.heap us (pyL ds) as
 |[],xs,us,h,r=>by simp only[h_]at h;subst h;cases r;exact⟨_,.nil⟩
 |d::ds,xs,us,h,r=>by
  simp only[h_]at h;obtain⟨x,ys,rfl,h1,h2⟩:=h;cases r with
  |cons p q=>
   obtain⟨as,ha⟩:=zy I d x _ h1 p;obtain⟨bs,hb⟩:=qp I ds ys _ h2 q;exact⟨_,.cons ha hb⟩
end
end Jb
namespace PySem
open PySem.Builtin PySem.Builtin.SmallTypes
def xG(id:String):Builtin:=λargs=>do
 let x ←slotArgs "__next__" 0 args
 match x with
 |(self,snd)=>do
  let seq ←field self 0
  let jp:Unit->Sem PySem.Fin:=λ_=>do
   let y ←field self 1
   match y with
   |Value.int i tok=>do
    let z ←seqItems? seq
    match z with
    |some xs=>
     match xs[i.toNat]? with
     |some v=>do
      setField self 1 (rawInt (i+1))
      ret v
     |none=>do
      rule (toString id++toString ".end")
      setField self 0 Value.none
      stopIteration
    |_=>unsupported (toString "internal:"++toString id)
   |_=>unsupported (toString "internal:"++toString id)
  if(seq==Value.none)=true then do
   rule (toString id++toString ".ended")
   let r ←stopIteration
   jp r
  else jp ()
theorem q_:Builtin.«tuple_iterator.__next__»=xG "tuple_iterator.__next__":=rfl
section
variable{prog:Program}{w:World}{A:Around}{E:Value->Shared->Prop}{it t:Addr}{i:Nat}{items:Array Value}{h:Heap}{g:Array GenState}{d:Drawn}{tk:Nat}{os:OsState}
theorem o7{x:Value}{Q:Value->Shared->Prop}(st:h.IsTupleIter it t i)(p:h.IsTuple t items)(hx:items[i]? =some x)
  (hq:∀h',h'.IsTupleIter it t (i+1)->Heap.SameBut it h h'->Q x ⟨h',g,d,tk,os⟩):wpAny (model prog w) A (Builtin.SmallTypes.nextOf (.ref it)) Q E ⟨h,g,d,tk,os⟩:=by
 have hT:(⟨h,g,d,tk,os⟩:Shared).TypeIs (.ref it) "tuple_iterator":=st.typeIs;unfold Builtin.SmallTypes.nextOf;refine wpAny_bind (wpAny_callSpecial?_slot hT F.slot_tuple_iterator_next ?_);obtain⟨o,ho,hc,hd⟩:=st;obtain⟨ot,h1,h2,n,h3⟩:=p
 repeat(any_goals(first|assumption|wp_step))
 refine codeAny_call_builtin F.slot_tuple_iterator_next.plain F.entry_tuple_iterator_next (F.slot_tuple_iterator_next.check _ _ _ _ _ _ _ _ hT (F.args_tuple_iterator_next_1 _) ?_);rw[q_];unfold xG
 repeat(any_goals(first|assumption|wp_step))
 rw[hd];refine wpAny_pure (wpAny_pure ?_);show wpAny _ _ (if(Value.ref t==Value.none)=true then _ else _) _ _ _;rw[show(Value.ref t==Value.none)=false from rfl,if_neg Bool.false_ne_true]
 repeat(any_goals(first|assumption|wp_step))
 rw[hd];refine wpAny_pure (wpAny_pure ?_);show wpAny _ _ (seqItems? (Value.ref t) >>=_) _ _ _;refine wpAny_bind (wpAny_seqItems h1 h3 ?_);dsimp only;have hi:(i:Int).toNat=i:=Int.toNat_natCast i;rw[hi,hx];dsimp only;refine wpAny_bind (wpAny_setField ho hd (by show 1<2;decide) ?_);refine wpAny_pure ?_;dsimp only;refine wpAny_pure (hq _ ?_ ⟨Heap.size_update ..,λb hb=>Heap.get?_update_other h _ (Ne.symm hb)⟩);refine⟨_,Heap.get?_update_self _ ho (Obj.isFreed_of_fields (Obj.data_mapFields hd _)),(Obj.cls_mapFields ..).trans hc,?_⟩;rw[Obj.data_mapFields hd];have e1:(((i+1:Nat)):Int)=(i:Int)+1:=by omega
 rw[e1];rfl
theorem Hc{α:Type}{Q:α->Shared->Prop}(hh:A.handled=none)
  (hq:∀h' e,(∀b o,h.get? b=some o->h'.get? b=some o)->(∃o,h'.get? e=some o/\o.cls= .type "StopIteration")->E (.ref e) ⟨h',g,d,tk,os⟩):wpAny (model prog w) A (stopIteration:Sem α) Q E ⟨h,g,d,tk,os⟩:=by
 unfold stopIteration
 repeat(any_goals(first|assumption|wp_step))
 unfold raiseNew;refine wpAny_bind (wpAny_handled ?_);rw[hh];dsimp only;exact wpAny_throw (hq _ _ (λb o e=>Heap.get?_push_of_some _ (Heap.get?_push_of_some _ e)) ⟨_,Heap.get?_push_size _ rfl,rfl⟩)
theorem pH{Q:Value->Shared->Prop}(hh:A.handled=none)(st:h.IsTupleIter it t i)(p:h.IsTuple t items)(hx:items[i]? =none)
  (hq:∀h' e,Heap.ExtBut it h h'->(∃o,h'.get? e=some o/\o.cls= .type "StopIteration")->E (.ref e) ⟨h',g,d,tk,os⟩):wpAny (model prog w) A (Builtin.SmallTypes.nextOf (.ref it)) Q E ⟨h,g,d,tk,os⟩:=by
 have hT:(⟨h,g,d,tk,os⟩:Shared).TypeIs (.ref it) "tuple_iterator":=st.typeIs;unfold Builtin.SmallTypes.nextOf;refine wpAny_bind (wpAny_callSpecial?_slot hT F.slot_tuple_iterator_next ?_);obtain⟨o,ho,hc,hd⟩:=st;obtain⟨ot,h1,h2,n,h3⟩:=p
 repeat(any_goals(first|assumption|wp_step))
 refine codeAny_call_builtin F.slot_tuple_iterator_next.plain F.entry_tuple_iterator_next (F.slot_tuple_iterator_next.check _ _ _ _ _ _ _ _ hT (F.args_tuple_iterator_next_1 _) ?_);rw[q_];unfold xG
 repeat(any_goals(first|assumption|wp_step))
 rw[hd];refine wpAny_pure (wpAny_pure ?_);show wpAny _ _ (if(Value.ref t==Value.none)=true then _ else _) _ _ _;rw[show(Value.ref t==Value.none)=false from rfl,if_neg Bool.false_ne_true]
 repeat(any_goals(first|assumption|wp_step))
 rw[hd];refine wpAny_pure (wpAny_pure ?_);show wpAny _ _ (seqItems? (Value.ref t) >>=_) _ _ _;refine wpAny_bind (wpAny_seqItems h1 h3 ?_);dsimp only;have hi:(i:Int).toNat=i:=Int.toNat_natCast i;rw[hi,hx];dsimp only;refine wpAny_bind (wpAny_rule ?_);refine wpAny_bind (wpAny_setField ho hd (by show 0<2;decide) ?_);refine Hc (show A.in1.handled=none from hh) λh' e old he=>?_;exact hq h' e (λb ob hb hg=>old b ob ((Heap.get?_update_other h _ (Ne.symm hb)).trans hg)) he
theorem Draws.tuple(hh:A.handled=none)(it t:Addr)(hne:t≠it)(items:Array Value):Draws prog w A it [it,t] items.size (λi v=>items[i]? =some v) λi h=>h.IsTupleIter it t i/\h.IsTuple t items where
 live:=λi h st=>let⟨o,ho,_⟩:=st.1;⟨o,ho⟩
 frame:=λi h h' st k=>⟨st.1.at λo e=>k it (by simp) o e,let⟨o,h1,h2⟩:=st.2;⟨o,k t (by simp) o h1,h2⟩⟩
 item:=λi s Q E hi st k=>by
  obtain⟨h,g,d,tk,os⟩:=s;refine o7 st.1 st.2 (x:=items[i]) (by simp[hi]) λh' st' sb=>k _ h' tk (by simp[hi]) ⟨st',?_⟩ sb;obtain⟨o,h1,h2⟩:=st.2;exact⟨o,(sb.2 t hne).trans h1,h2⟩
 done:=λs Q E st k=>by
  obtain⟨h,g,d,tk,os⟩:=s;exact pH hh st.1 st.2 (by simp) λh' e eb he=>k h' e eb he
end
end PySem
namespace Jb
open PySem PySem.Spec PyProof.Rows L2
section
variable{X:Cx}{elts:List Expr}{x1:Nat}{tpos:Pos}{tg e:Expr}{te:TE}
def Qv(K:PySem.W.Frag)(te:TE):TI:=λσ H R=>te σ H λx H1=>∃a,x= .ref a/\(((∃xs,SqL K H1 a xs)/\R (Itl K a) H1)∨((∃xs,SqT K H1 a xs)/\R (Itt K a) H1))
theorem O7(hl:PE X e te):PI X tg e (Qv X.K te):=by
 intro pins s σ H R I h;refine thn (hl pins s σ H _ I h) λv s1 ⟨x,H1,I1,r1,q1⟩=>?_;obtain⟨a,ex,q⟩:=q1;subst ex;cases r1;have fin:∀b∈[s1.heap.objs.size],j6 X pins H1 b:=λb hb=>by
  rw[List.mem_singleton.mp hb];exact I1.fpOk (Nat.le_refl _) (I1.hok.fresh (Nat.le_refl _))
 rcases q with⟨⟨xs,hq⟩,q⟩|⟨⟨xs,hq⟩,q⟩
 .obtain⟨its,rv,p,hz⟩:=I1.list hq
  refine wpAny_pyIter_list p.isList ?_;exact⟨s1.heap.objs.size,[s1.heap.objs.size],_,_,H1,rfl,I1.kept (t':=s1.toks) λb o e=>Heap.get?_push_of_some _ e,Ej a _,⟨_,Heap.get?_push_size _ rfl,rfl,rfl⟩,fin,q⟩
 .obtain⟨its,rv,p,hz⟩:=I1.tuple hq
  refine wpAny_pyIter_tuple (show s1.heap.IsTuple a its.toArray from p) ?_;exact⟨s1.heap.objs.size,[s1.heap.objs.size],_,_,H1,rfl,I1.kept (t':=s1.toks) λb o e=>Heap.get?_push_of_some _ e,zX a _,⟨_,Heap.get?_push_size _ rfl,rfl,rfl⟩,fin,q⟩
end
section
variable{X:Cx}
def LK(K:PySem.W.Frag)(A:Around):List V->Hp->VK->Prop:=λxs H Q=>∃a d,xs=[.ref a]/\Brs K H d (.ref a)/\A.guards=some []/\A.units+((pyD d).depth+3)<cLine/\(pyD d).showable=true/\(pyD d).shown.length<=sizeLine/\Q (.str (pyD d).shown) H
theorem Dk:cM X (.type "str") (LK X.K X.A):=by
 intro pins s σ H xs us Q I r h;obtain⟨a,d,rfl,hb,hg,hu,hsh,hl,q⟩:=h;obtain⟨u,rfl,ru⟩:=vals1 r;cases ru;obtain⟨as,ha⟩:=zy I d (.ref a) (.ref a) hb rfl;exact str_of_reads ha hsh (λz=>by rw[noDict d]at z;cases z) hg hu (λ_ _ e=>e) (λh' u tk old=>⟨.str _,H,I.kept (t':=tk) old,⟨_,rfl⟩,q⟩) hl
end
section
variable{X:Cx}
def uW(n:Nat)(i:Int):Nat:=if i<0 then(i+(n:Int)).toNat else min i.toNat n
def Dc:V->List V->Hp->VK->Prop:=λx vs H Q=>∃l xs i y,x= .ref l/\vs=[.int i,y]/\H l=some (.lst xs)/\-(2 ^ 63)<=i/\i<2 ^ 63/\List.length xs<sizeLine/\Q .non (upd H l (.lst (xs.take (uW xs.length i)++y::xs.drop (uW xs.length i))))
theorem Dw:MtM X "list.insert" Dc:=by
 intro pins s σ H x vs v us Q I rx rv h;obtain⟨l,xs,i,y,rfl,rfl,hH,h1,h2,hz,q⟩:=h;cases rx;cases rv with
 |cons ri rv=>
  obtain⟨u,rfl,ru⟩:=vals1 rv;obtain⟨t,rfl⟩:=ri;obtain⟨z,its,n,r,hl,e⟩:=I.lstM hH;refine call_meets F.slot_list_insert ⟨_,e,rfl⟩ F.entry_list_insert (F.args_list_insert_3 _ _ _) (AutoSeq1.list_insert_list_int_val_1 l its.toArray n i t u (by simp[fitsIndex_both h1 h2]) (by rw[List.size_toArray];omega)) ⟨e,?_⟩;refine⟨.non,_,I.lset (its':=its.take (uW its.length i)++u::its.drop (uW its.length i)) hH e ?_ ?_ ?_,rfl,q⟩
  .show(its.toArray.extract 0 (uW its.length i)).push u++its.toArray.extract (uW its.length i)=_
   apply Array.ext';simp[List.extract_eq_take_drop];exact List.take_of_length_le (by simp)
  .rw[hl]
   exact(r.take _).append (.cons ru (r.drop _))
  .simp only[List.length_append,List.length_take,List.length_cons,List.length_drop]
   omega
end
def inK(S:List Key)(k:Key):Bool:=S.any λx=>decide (x=k)
def R7(S:List Key)(k:Key):List Key:=if inK S k then S else S++[k]
def Ox(ks:List Key):List Key:=ks.foldl R7 []
section
variable{X:Cx}
theorem range_all{bs:List Bool}:((List.range bs.length).all λi=>bs.getD i true)=bs.all id:=by
 induction bs with
 |nil=>rfl
 |cons b r ih=>
  rw[List.length_cons,List.range_succ_eq_map,List.all_cons,List.all_map,List.all_cons,←ih];rfl
theorem Rt{bs:List Bool}{its:List Value}(rv:Vals (bs.map V.bl) its){i:Nat}{v:Value}(h:its.toArray[i]? =some v):v= .bool (bs.getD i true):=by
 have h:its[i]? =some v:=by simpa using h
 have hl:=rv.length;rw[List.length_map]at hl;have hi:i<bs.length:=by rw[hl];exact(List.getElem?_eq_some_iff.mp h).1
 obtain⟨u,h1,h2⟩:=rv.get (show(bs.map V.bl)[i]? =some (V.bl bs[i])by rw[List.getElem?_map,List.getElem?_eq_getElem hi];rfl);rw[h]at h1;cases h1;cases h2;simp[List.getD,hi]
theorem Eg{pins:List (Addr×Obj)}{σ:L2.St}{H:Hp}{s:Shared}{a:Addr}{xs:List V}(I:Inv X pins σ H s){its:List Value}(pl:s.heap.IsList a its.toArray) :
  a≠s.heap.objs.size:=by
 obtain⟨o,h,_⟩:=pl;exact Nat.ne_of_lt (Heap.lt_size h)
theorem D_(hc:X.calm=true):cM X (.builtin "all") (λxs H Q=>∃a bs,xs=[.ref a]/\SqL X.K H a (List.map V.bl bs)/\Q (.bl (List.all bs id)) H):=by
 intro pins s σ H xs us Q I r h;obtain⟨a,bs,rfl,hq,q⟩:=h;obtain⟨u,rfl,ru⟩:=vals1 r;cases ru;obtain⟨its,rv,pl,hz⟩:=I.list hq;have hh:X.A.handled=none:=I.ok.hd hc;have ne:a≠s.heap.objs.size:=Eg (xs:=[]) I pl.isList;have hl:=rv.length;rw[List.length_map]at hl;refine call_all_walk (wpAny_pyIter_list pl.isList ⟨s.heap.objs.size,[s.heap.objs.size,a],[s.heap.objs.size],its.toArray.size,_,_,λi=>bs.getD i true,rfl,Walks.list (show X.A.in1.handled=none from hh) s.heap.objs.size a ne its.toArray,⟨⟨_,Heap.get?_push_size _ rfl,rfl,rfl⟩,pl.isList.push _⟩,λi v s2 Q2 E2 hP hQ=>?_,λh' tk kp=>?_⟩)
 .rw[Rt rv hP]
  exact wpAny_truthy_bool hQ
 .rw[List.size_toArray,←hl,range_all]
  exact⟨.bl _,H,I.kept (t':=tk) λb o e=>kp b o (by simp;exact Nat.ne_of_lt (Heap.lt_size e)) (Heap.get?_push_of_some _ e),rfl,q⟩
end
inductive Mk where
 |own|frz|brw|bro|scr
 deriving DecidableEq,Repr
inductive D where
 |non|bl (b:Bool)|int (i:Int)|str (x:Str)|ty (n:String)
 |tup (ds:List D)
 |lst (m:Mk) (ds:List D)
 |dct (m:Mk) (ks:List Key) (ds:List D)
 |ins (m:Mk) (c:Str) (fs:List Str) (ds:List D)
structure Gc where
 K:PySem.W.Frag
 mg:Str->Option Value
structure Wn where
 n:Addr->Prop
 s:Addr->Prop
 o:Addr->Prop
def Wn.free(W:Wn)(a:Addr):Prop:=¬W.n a/\¬W.s a/\¬W.o a
def KO(K:PySem.W.Frag)(a:Addr)(o:HO):Prop:=∃xs,o= .lst xs/\∃(ob:Obj)(its:Array Value)(n:Nat),K.lookup a=some ob/\ob.cls= .type "list"/\ob.dict=none/\ob.data= .seq its n/\its.size<=sizeLine/\Vals xs its.toList
def cZ(Kx:Addr->HO->Prop)(H:Hp)(W:Wn)(a:Addr)(o:HO):Mk->List Addr->List Addr->Prop
 |.own,L,M=>H a=some o/\L=a::M
 |.frz,L,M=>H a=some o/\W.free a/\M=[]/\L=[]
 |.brw,L,M=>H a=some o/\W.s a/\M=[]/\L=[]
 |.bro,L,M=>H a=some o/\M=[]/\L=[]
 |.scr,L,M=>((Rd H a o/\W.free a)∨Kx a o)/\M=[]/\L=[]
theorem cZ.sub{Kx:Addr->HO->Prop}{H:Hp}{W:Wn}{a:Addr}{o:HO}{m:Mk}{L M:List Addr}(h:cZ Kx H W a o m L M):List.Sublist M L:=by
 cases m with
 |own=>rw[h.2];exact List.sublist_cons_self a M
 |frz=>rw[h.2.2.1];exact List.nil_sublist L
 |brw=>rw[h.2.2.1];exact List.nil_sublist L
 |bro=>rw[h.2.1];exact List.nil_sublist L
 |scr=>rw[h.2.1];exact List.nil_sublist L
theorem cZ.rx{Kx:Addr->HO->Prop}{H:Hp}{W:Wn}{a:Addr}{o:HO}{m:Mk}{L M:List Addr}(h:cZ Kx H W a o m L M):Rd H a o∨Kx a o:=by
 cases m with
 |own=>exact .inl (.inl h.1)
 |frz=>exact .inl (.inl h.1)
 |brw=>exact .inl (.inl h.1)
 |bro=>exact .inl (.inl h.1)
 |scr=>exact h.1.imp (λz=>z.1) id
theorem cZ.sq{K:PySem.W.Frag}{H:Hp}{W:Wn}{a:Addr}{xs:List V}{m:Mk}{L M:List Addr}(h:cZ (KO K) H W a (.lst xs) m L M):SqL K H a xs:=by
 rcases h.rx with z|⟨ys,e,z⟩
 .exact .inl z
 .cases e
  exact .inr z
theorem cZ.rdD{K:PySem.W.Frag}{H:Hp}{W:Wn}{a:Addr}{kvs:List (Key×V)}{m:Mk}{L M:List Addr}(h:cZ (KO K) H W a (.dK kvs) m L M):Rd H a (.dK kvs):=by
 rcases h.rx with z|⟨ys,e,z⟩
 .exact z
 .cases e
theorem cZ.at{Kx:Addr->HO->Prop}{H:Hp}{W:Wn}{a:Addr}{o:HO}{m:Mk}{L M:List Addr}(h:cZ Kx H W a o m L M)(hm:m≠.scr):H a=some o:=by
 cases m with
 |own=>exact h.1
 |frz=>exact h.1
 |brw=>exact h.1
 |bro=>exact h.1
 |scr=>exact absurd rfl hm
mutual
def Rep(G:Gc)(H:Hp)(W:Wn):D->V->List Addr->Prop
 |.non,v,L=>v= .non/\L=[]
 |.bl b,v,L=>v= .bl b/\L=[]
 |.int i,v,L=>v= .int i/\L=[]
 |.str x,v,L=>v= .str x/\L=[]
 |.ty n,v,L=>v= .ty n/\L=[]
 |.tup ds,v,L=>∃a xs,v= .ref a/\H a=some (.tup xs)/\aF G H W ds xs L
 |.lst m ds,v,L=>∃a xs M,v= .ref a/\aF G H W ds xs M/\cZ (KO G.K) H W a (.lst xs) m L M
 |.dct m ks ds,v,L=>∃a kvs M,v= .ref a/\(List.map (·.1) kvs=ks/\ks.Nodup)/\aF G H W ds (List.map (·.2) kvs) M/\cZ (KO G.K) H W a (.dK kvs) m L M
 |.ins m c fs ds,v,L=>∃a C dx kvs M,v= .ref a/\G.mg c=some (.ref C)/\List.map (·.1) kvs=fs/\aF G H W ds (List.map (·.2) kvs) M/\cZ (KO G.K) H W a (.ins C dx kvs) m L M
def aF(G:Gc)(H:Hp)(W:Wn):List D->List V->List Addr->Prop
 |[],xs,L=>xs=[]/\L=[]
 |d::r,xs,L=>∃x ys M M',xs=x::ys/\L=M++M'/\Rep G H W d x M/\aF G H W r ys M'
end
section
variable{G:Gc}{H:Hp}{W:Wn}
theorem aF.nil:aF G H W [] [] []:=by simp[aF]
theorem aF.cons{d:D}{r:List D}{x:V}{ys:List V}{M M':List Addr}(h:Rep G H W d x M)(t:aF G H W r ys M'):aF G H W (d::r) (x::ys) (M++M'):=by
 rw[aF];exact⟨x,ys,M,M',rfl,rfl,h,t⟩
theorem aF.one{d:D}{x:V}{M:List Addr}(h:Rep G H W d x M):aF G H W [d] [x] M:=by
 have:=aF.cons h aF.nil;rwa[List.append_nil]at this
theorem aF.inv{d:D}{r:List D}{xs:List V}{L:List Addr}(h:aF G H W (d::r) xs L):∃x ys M M',xs=x::ys/\L=M++M'/\Rep G H W d x M/\aF G H W r ys M':=by
 rw[aF]at h;exact h
theorem aF.inv0{xs:List V}{L:List Addr}(h:aF G H W [] xs L):xs=[]/\L=[]:=by
 rw[aF]at h;exact h
theorem aF.length:∀{ds:List D}{xs:List V}{L:List Addr},aF G H W ds xs L->ds.length=xs.length
 |[],xs,L,h=>by rw[h.inv0.1];rfl
 |d::r,xs,L,h=>by
  obtain⟨x,ys,M,M',rfl,_,_,h⟩:=h.inv;simp[aF.length h]
theorem aF.append:∀{ds es:List D}{xs ys:List V}{L M:List Addr},aF G H W ds xs L->aF G H W es ys M->aF G H W (ds++es) (xs++ys) (L++M)
 |[],es,xs,ys,L,M,h,h'=>by obtain⟨rfl,rfl⟩:=h.inv0;exact h'
 |d::r,es,xs,ys,L,M,h,h'=>by
  obtain⟨x,zs,A,B,rfl,rfl,h1,h2⟩:=h.inv;rw[List.append_assoc];exact .cons h1 (aF.append h2 h')
theorem aF.split:∀{ds es:List D}{xs:List V}{L:List Addr},aF G H W (ds++es) xs L->∃ys zs A B,xs=ys++zs/\L=A++B/\aF G H W ds ys A/\aF G H W es zs B
 |[],es,xs,L,h=>⟨[],xs,[],L,rfl,rfl,.nil,h⟩
 |d::r,es,xs,L,h=>by
  obtain⟨x,zs,A,B,rfl,rfl,h1,h2⟩:=aF.inv (r:=r++es) h;obtain⟨ys,ws,A',B',rfl,rfl,h3,h4⟩:=aF.split h2;exact⟨x::ys,ws,A++A',B',rfl,by rw[List.append_assoc],.cons h1 h3,h4⟩
theorem aF.at{ds:List D}{xs:List V}{L:List Addr}{j:Nat}{d:D}(h:aF G H W ds xs L)(e:ds[j]? =some d) :
  ∃A B x ys zs LA M LB,ds=A++d::B/\A.length=j/\xs=ys++x::zs/\ys.length=j/\L=LA++(M++LB)/\aF G H W A ys LA/\Rep G H W d x M/\aF G H W B zs LB:=by
 have hj:j<ds.length:=(List.getElem?_eq_some_iff.mp e).1;have hd:ds=ds.take j++d::ds.drop (j+1):=by
  have:ds[j]=d:=(List.getElem?_eq_some_iff.mp e).2;rw[←this,List.getElem_cons_drop,List.take_append_drop]
 rw[hd]at h;obtain⟨ys,zs,A,B,rfl,rfl,h1,h2⟩:=aF.split h;obtain⟨x,ws,M,M',rfl,rfl,h3,h4⟩:=h2.inv;have hl:(ds.take j).length=j:=by rw[List.length_take];omega
 exact⟨_,_,x,ys,ws,A,M,M',hd,hl,rfl,by rw[←h1.length];exact hl,rfl,h1,h3,h4⟩
theorem aF.get{ds:List D}{xs:List V}{L:List Addr}{j:Nat}{d:D}(h:aF G H W ds xs L)(e:ds[j]? =some d):∃x M,xs[j]? =some x/\Rep G H W d x M/\List.Sublist M L:=by
 obtain⟨A,B,x,ys,zs,LA,M,LB,_,_,rfl,hl,rfl,_,h,_⟩:=h.at e;exact⟨x,M,by rw[List.getElem?_append_right (by omega),hl,Nat.sub_self];rfl,h,(List.sublist_append_left M LB).trans (List.sublist_append_right LA _)⟩
end
def muO:HO->Bool
 |.lst _=>true
 |.dK _=>true
 |.ins _ _ _=>true
 |_=>false
def Mu(H:Hp)(a:Addr):Prop:=∃o,H a=some o/\muO o=true
mutual
def aG:D->Bool
 |.tup ds=>aD ds
 |.lst m ds=>m != .brw&&aD ds
 |.dct m _ ds=>m != .brw&&aD ds
 |.ins m _ _ ds=>m != .brw&&aD ds
 |_=>true
def aD:List D->Bool
 |[]=>true
 |d::r=>aG d&&aD r
end
mutual
def aC:D->Bool
 |.tup ds=>aH ds
 |.lst m ds=>m != .bro&&aH ds
 |.dct m _ ds=>m != .bro&&aH ds
 |.ins m _ _ ds=>m != .bro&&aH ds
 |_=>true
def aH:List D->Bool
 |[]=>true
 |d::r=>aC d&&aH r
end
def clean(d:D):Bool:=aG d&&aC d
structure Evo(H H':Hp)(W W':Wn):Prop where
 k:∀b u,H b=some u->W.free b->H' b=some u/\W'.free b
 t:∀b xs,H b=some (.tup xs)->H' b=some (.tup xs)
def FW(H H':Hp)(W W':Wn):Prop:=∀b u,H b=some u->W.s b->H' b=some u/\W'.s b
theorem Evo.rd{H H':Hp}{W W':Wn}(e:Evo H H' W W'){a:Addr}{o:HO}(h:Rd H a o)(f:W.free a):Rd H' a o/\W'.free a:=by
 rcases h with h|⟨u,h⟩
 .exact⟨.inl (e.k a _ h f).1,(e.k a _ h f).2⟩
 .exact⟨.inr ⟨u,(e.k a _ h f).1⟩,(e.k a _ h f).2⟩
section
variable{G:Gc}{H H':Hp}{W W':Wn}
theorem cZ.mono{Kx:Addr->HO->Prop}{a:Addr}{o:HO}{m:Mk}{L M:List Addr}(e:Evo H H' W W')(h:cZ Kx H W a o m L M)(hb:m≠.brw∨FW H H' W W')(ho:m≠.bro∨Same H H')(hL:∀c∈L,∀u,H c=some u->H' c=some u):cZ Kx H' W' a o m L M:=by
 cases m with
 |own=>exact⟨hL a (by rw[h.2];simp) o h.1,h.2⟩
 |frz=>exact⟨(e.k a o h.1 h.2.1).1,(e.k a o h.1 h.2.1).2,h.2.2⟩
 |brw=>
  have q:=(hb.resolve_left λz=>z rfl) a o h.1 h.2.1;exact⟨q.1,q.2,h.2.2⟩
 |bro=>exact⟨(ho.resolve_left λz=>z rfl) a o h.1,h.2⟩
 |scr=>exact⟨h.1.imp (λz=>e.rd z.1 z.2) id,h.2⟩
theorem Same.rd{H H':Hp}{a:Addr}{o:HO}(s:Same H H')(h:Rd H a o):Rd H' a o:=h.imp (s _ _) λ⟨u,z⟩=>⟨u,s _ _ z⟩
mutual
theorem Rep.mono(e:Evo H H' W W'):∀{d:D}{v:V}{L:List Addr},Rep G H W d v L->(aG d=true∨FW H H' W W')->(aC d=true∨Same H H')->(∀c∈L,∀u,H c=some u->H' c=some u)->Rep G H' W' d v L
 |.non,v,L,h,_,_,_=>by rw[Rep]at h⊢;exact h
 |.bl _,v,L,h,_,_,_=>by rw[Rep]at h⊢;exact h
 |.int _,v,L,h,_,_,_=>by rw[Rep]at h⊢;exact h
 |.str _,v,L,h,_,_,_=>by rw[Rep]at h⊢;exact h
 |.ty _,v,L,h,_,_,_=>by rw[Rep]at h⊢;exact h
 |.tup ds,v,L,h,b,o,hl=>by
  rw[Rep]at h⊢;obtain⟨a,xs,rfl,ht,hr⟩:=h;exact⟨a,xs,rfl,e.t a xs ht,aF.mono e hr (by simpa[aG]using b) (by simpa[aC]using o) hl⟩
 |.lst m ds,v,L,h,b,o,hl=>by
  rw[Rep]at h⊢;obtain⟨a,xs,M,rfl,hr,hs⟩:=h;exact⟨a,xs,M,rfl,aF.mono e hr (b.imp (λz=>by simp[aG]at z;exact z.2) id) (o.imp (λz=>by simp[aC]at z;exact z.2) id) λc hc=>hl c (hs.sub.subset hc),hs.mono e (b.imp (λz=>by simp[aG]at z;exact z.1) id) (o.imp (λz=>by simp[aC]at z;exact z.1) id) hl⟩
 |.dct m ks ds,v,L,h,b,o,hl=>by
  rw[Rep]at h⊢;obtain⟨a,xs,M,rfl,hk,hr,hs⟩:=h;exact⟨a,xs,M,rfl,hk,aF.mono e hr (b.imp (λz=>by simp[aG]at z;exact z.2) id) (o.imp (λz=>by simp[aC]at z;exact z.2) id) λc hc=>hl c (hs.sub.subset hc),hs.mono e (b.imp (λz=>by simp[aG]at z;exact z.1) id) (o.imp (λz=>by simp[aC]at z;exact z.1) id) hl⟩
 |.ins m c fs ds,v,L,h,b,o,hl=>by
  rw[Rep]at h⊢;obtain⟨a,C,dx,xs,M,rfl,hC,hk,hr,hs⟩:=h;exact⟨a,C,dx,xs,M,rfl,hC,hk,aF.mono e hr (b.imp (λz=>by simp[aG]at z;exact z.2) id) (o.imp (λz=>by simp[aC]at z;exact z.2) id) λc hc=>hl c (hs.sub.subset hc),hs.mono e (b.imp (λz=>by simp[aG]at z;exact z.1) id) (o.imp (λz=>by simp[aC]at z;exact z.1) id) hl⟩
theorem aF.mono(e:Evo H H' W W'):∀{ds:List D}{vs:List V}{L:List Addr},aF G H W ds vs L->(aD ds=true∨FW H H' W W')->(aH ds=true∨Same H H')->(∀c∈L,∀u,H c=some u->H' c=some u)->aF G H' W' ds vs L
 |[],vs,L,h,_,_,_=>by rw[aF]at h⊢;exact h
 |d::r,vs,L,h,b,o,hl=>by
  obtain⟨x,ys,M,M',rfl,rfl,h1,h2⟩:=h.inv;exact .cons (Rep.mono e h1 (b.imp (λz=>by simp[aD]at z;exact z.1) id) (o.imp (λz=>by simp[aH]at z;exact z.1) id) λb hb=>hl b (List.mem_append_left _ hb))
   (aF.mono e h2 (b.imp (λz=>by simp[aD]at z;exact z.2) id) (o.imp (λz=>by simp[aH]at z;exact z.2) id) λb hb=>hl b (List.mem_append_right _ hb))
end
structure Up(H H':Hp)(W W':Wn):Prop where
 s:Same H H'
 f:∀b u,H b=some u->W.free b->W'.free b
 n:∀b u,H b=some u->W.s b->W'.s b
theorem Up.evo(u:Up H H' W W'):Evo H H' W W':=⟨λb o h f=>⟨u.s b o h,u.f b o h f⟩,λb xs h=>u.s b _ h⟩
theorem Up.evoN(u:Up H H' W W'):FW H H' W W':=λb o h f=>⟨u.s b o h,u.n b o h f⟩
theorem Up.refl:Up H H W W:=⟨Same.refl H,λ_ _ _ f=>f,λ_ _ _ f=>f⟩
theorem Up.trans{H2:Hp}{W2:Wn}(a:Up H H' W W')(b:Up H' H2 W' W2):Up H H2 W W2:=⟨a.s.trans b.s,λc u h f=>b.f c u (a.s c u h) (a.f c u h f),λc u h f=>b.n c u (a.s c u h) (a.n c u h f)⟩
theorem Rep.up{d:D}{v:V}{L:List Addr}(h:Rep G H W d v L)(u:Up H H' W W'):Rep G H' W' d v L:=h.mono u.evo (.inr u.evoN) (.inr u.s) λc _ o e=>u.s c o e
theorem aF.up{d:List D}{v:List V}{L:List Addr}(h:aF G H W d v L)(u:Up H H' W W'):aF G H' W' d v L:=h.mono u.evo (.inr u.evoN) (.inr u.s) λc _ o e=>u.s c o e
def Wn.add(W:Wn)(L:List Addr):Wn:=⟨λa=>a∈L∨W.n a,W.s,W.o⟩
theorem Up.add{L:List Addr}(s:Same H H')(hL:∀a∈L,H a=none):Up H H' W (W.add L):=⟨s,λb u h f=>⟨λz=>z.elim (λz=>by rw[hL b z]at h;cases h) f.1,f.2⟩,λb u h f=>f⟩
theorem Up.same(s:Same H H'):Up H H' W W:=⟨s,λ_ _ _ f=>f,λ_ _ _ f=>f⟩
end
def mkV(ob:Bool):Mk->Mk
 |.own=>if ob then .bro else .brw
 |m=>m
def mkF:Mk->Mk
 |.scr=>.scr
 |_=>.frz
mutual
def view(ob:Bool):D->D
 |.tup ds=>.tup (ik ob ds)
 |.lst m ds=>.lst (mkV ob m) (ik ob ds)
 |.dct m ks ds=>.dct (mkV ob m) ks (ik ob ds)
 |.ins m c fs ds=>.ins (mkV ob m) c fs (ik ob ds)
 |d=>d
def ik(ob:Bool):List D->List D
 |[]=>[]
 |d::r=>view ob d::ik ob r
end
mutual
def fz:D->D
 |.tup ds=>.tup (fzL ds)
 |.lst m ds=>.lst (mkF m) (fzL ds)
 |.dct m ks ds=>.dct (mkF m) ks (fzL ds)
 |.ins m c fs ds=>.ins (mkF m) c fs (fzL ds)
 |d=>d
def fzL:List D->List D
 |[]=>[]
 |d::r=>fz d::fzL r
end
theorem dX(ob:Bool):∀ds:List D,ik ob ds=ds.map (view ob)
 |[]=>rfl
 |d::r=>by rw[ik,dX ob r];rfl
theorem gH:∀ds:List D,fzL ds=ds.map fz
 |[]=>rfl
 |d::r=>by rw[fzL,gH r];rfl
section
variable{G:Gc}{H:Hp}{W W':Wn}
theorem cZ.view{Kx:Addr->HO->Prop}{ob:Bool}{a:Addr}{o:HO}{m:Mk}{L M:List Addr}(hn:ob=false->∀c∈L,W.s c)(h:cZ Kx H W a o m L M):cZ Kx H W a o (mkV ob m) [] []:=by
 cases m with
 |own=>
  cases ob with
  |false=>exact⟨h.1,hn rfl a (by rw[h.2];simp),rfl,rfl⟩
  |true=>exact⟨h.1,rfl,rfl⟩
 |frz=>exact⟨h.1,h.2.1,rfl,rfl⟩
 |brw=>exact⟨h.1,h.2.1,rfl,rfl⟩
 |bro=>exact⟨h.1,rfl,rfl⟩
 |scr=>exact⟨h.1,rfl,rfl⟩
mutual
theorem Rep.view{ob:Bool}:∀{d:D}{v:V}{L:List Addr},Rep G H W d v L->(ob=false->∀c∈L,W.s c)->Rep G H W (view ob d) v []
 |.non,v,L,h,_=>by rw[Rep]at h;simp[Jb.view,Rep,h]
 |.bl _,v,L,h,_=>by rw[Rep]at h;simp[Jb.view,Rep,h]
 |.int _,v,L,h,_=>by rw[Rep]at h;simp[Jb.view,Rep,h]
 |.str _,v,L,h,_=>by rw[Rep]at h;simp[Jb.view,Rep,h]
 |.ty _,v,L,h,_=>by rw[Rep]at h;simp[Jb.view,Rep,h]
 |.tup ds,v,L,h,hn=>by
  rw[Rep]at h;rw[Jb.view,Rep];obtain⟨a,xs,rfl,ht,hr⟩:=h;exact⟨a,xs,rfl,ht,aF.view hr hn⟩
 |.lst m ds,v,L,h,hn=>by
  rw[Rep]at h;rw[Jb.view,Rep];obtain⟨a,xs,M,rfl,hr,hs⟩:=h;exact⟨a,xs,[],rfl,aF.view hr λz c hc=>hn z c (hs.sub.subset hc),hs.view hn⟩
 |.dct m ks ds,v,L,h,hn=>by
  rw[Rep]at h;rw[Jb.view,Rep];obtain⟨a,xs,M,rfl,hk,hr,hs⟩:=h;exact⟨a,xs,[],rfl,hk,aF.view hr λz c hc=>hn z c (hs.sub.subset hc),hs.view hn⟩
 |.ins m c fs ds,v,L,h,hn=>by
  rw[Rep]at h;rw[Jb.view,Rep];obtain⟨a,C,dx,xs,M,rfl,hC,hk,hr,hs⟩:=h;exact⟨a,C,dx,xs,[],rfl,hC,hk,aF.view hr λz c hc=>hn z c (hs.sub.subset hc),hs.view hn⟩
theorem aF.view{ob:Bool}:∀{ds:List D}{vs:List V}{L:List Addr},aF G H W ds vs L->(ob=false->∀c∈L,W.s c)->aF G H W (ik ob ds) vs []
 |[],vs,L,h,_=>by obtain⟨rfl,_⟩:=h.inv0;rw[ik];exact .nil
 |d::r,vs,L,h,hn=>by
  obtain⟨x,ys,M,M',rfl,rfl,h1,h2⟩:=h.inv;rw[ik];exact .cons (M:=[]) (M':=[]) (Rep.view h1 λz c hc=>hn z c (List.mem_append_left _ hc)) (aF.view h2 λz c hc=>hn z c (List.mem_append_right _ hc))
end
structure Les(H:Hp)(W W':Wn)(L:List Addr):Prop where
 f:∀a,W.free a->W'.free a
 l:∀a∈L,W'.free a
theorem Les.sub{L M:List Addr}(h:Les H W W' L)(s:∀a∈M,a∈L):Les H W W' M:=⟨h.f,λa ha=>h.l a (s a ha)⟩
def mG(W:Wn):Prop:=∀a,W.free a
theorem cZ.fz{Kx:Addr->HO->Prop}{a:Addr}{o:HO}{m:Mk}{L M:List Addr}(hs:Les H W W' L)(hn:(m≠.brw/\m≠.bro)∨mG W')(h:cZ Kx H W a o m L M):cZ Kx H W' a o (mkF m) [] []:=by
 cases m with
 |own=>exact⟨h.1,hs.l a (by rw[h.2];simp),rfl,rfl⟩
 |frz=>exact⟨h.1,hs.f a h.2.1,rfl,rfl⟩
 |brw=>exact⟨h.1,hn.elim (λz=>absurd rfl z.1) λz=>z a,rfl,rfl⟩
 |bro=>exact⟨h.1,hn.elim (λz=>absurd rfl z.2) λz=>z a,rfl,rfl⟩
 |scr=>exact⟨h.1.imp (λz=>⟨z.1,hs.f a z.2⟩) id,rfl,rfl⟩
mutual
theorem Rep.fz:∀{d:D}{v:V}{L:List Addr},Rep G H W d v L->Les H W W' L->(clean d=true∨mG W')->Rep G H W' (fz d) v []
 |.non,v,L,h,_,_=>by rw[Rep]at h;simp[Jb.fz,Rep,h]
 |.bl _,v,L,h,_,_=>by rw[Rep]at h;simp[Jb.fz,Rep,h]
 |.int _,v,L,h,_,_=>by rw[Rep]at h;simp[Jb.fz,Rep,h]
 |.str _,v,L,h,_,_=>by rw[Rep]at h;simp[Jb.fz,Rep,h]
 |.ty _,v,L,h,_,_=>by rw[Rep]at h;simp[Jb.fz,Rep,h]
 |.tup ds,v,L,h,hs,c=>by
  rw[Rep]at h;rw[Jb.fz,Rep];obtain⟨a,xs,rfl,ht,hr⟩:=h;exact⟨a,xs,rfl,ht,aF.fz hr hs (c.imp (λz=>by simpa[clean,aG,aC]using z) id)⟩
 |.lst m ds,v,L,h,he,c=>by
  rw[Rep]at h;rw[Jb.fz,Rep];obtain⟨a,xs,M,rfl,hr,hs⟩:=h;exact⟨a,xs,[],rfl,aF.fz hr (he.sub λc hc=>hs.sub.subset hc) (c.imp (λz=>by simp[clean,aG,aC]at z;exact⟨z.1.2,z.2.2⟩) id),hs.fz he (c.imp (λz=>by simp[clean,aG,aC]at z;exact⟨z.1.1,z.2.1⟩) id)⟩
 |.dct m ks ds,v,L,h,he,c=>by
  rw[Rep]at h;rw[Jb.fz,Rep];obtain⟨a,xs,M,rfl,hk,hr,hs⟩:=h;exact⟨a,xs,[],rfl,hk,aF.fz hr (he.sub λc hc=>hs.sub.subset hc) (c.imp (λz=>by simp[clean,aG,aC]at z;exact⟨z.1.2,z.2.2⟩) id),hs.fz he (c.imp (λz=>by simp[clean,aG,aC]at z;exact⟨z.1.1,z.2.1⟩) id)⟩
 |.ins m c' fs ds,v,L,h,he,c=>by
  rw[Rep]at h;rw[Jb.fz,Rep];obtain⟨a,C,dx,xs,M,rfl,hC,hk,hr,hs⟩:=h;exact⟨a,C,dx,xs,[],rfl,hC,hk,aF.fz hr (he.sub λc hc=>hs.sub.subset hc) (c.imp (λz=>by simp[clean,aG,aC]at z;exact⟨z.1.2,z.2.2⟩) id),hs.fz he (c.imp (λz=>by simp[clean,aG,aC]at z;exact⟨z.1.1,z.2.1⟩) id)⟩
theorem aF.fz:∀{ds:List D}{vs:List V}{L:List Addr},aF G H W ds vs L->Les H W W' L->((aD ds=true/\aH ds=true)∨mG W')->aF G H W' (fzL ds) vs []
 |[],vs,L,h,_,_=>by obtain⟨rfl,_⟩:=h.inv0;rw[fzL];exact .nil
 |d::r,vs,L,h,he,c=>by
  obtain⟨x,ys,M,M',rfl,rfl,h1,h2⟩:=h.inv;rw[fzL];exact .cons (M:=[]) (M':=[]) (Rep.fz h1 (he.sub λc hc=>List.mem_append_left _ hc) (c.imp (λz=>by simp[clean,aD,aH]at z⊢;exact⟨z.1.1,z.2.1⟩) id))
   (aF.fz h2 (he.sub λc hc=>List.mem_append_right _ hc) (c.imp (λz=>by simp[clean,aD,aH]at z⊢;exact⟨z.1.2,z.2.2⟩) id))
end
mutual
theorem yE:∀d:D,aG (Jb.fz d)=true
 |.non=>rfl|.bl _=>rfl|.int _=>rfl|.str _=>rfl|.ty _=>rfl
 |.tup ds=>by simp[Jb.fz,aG,gB ds]
 |.lst m ds=>by cases m<;>simp[Jb.fz,aG,gB ds,mkF]
 |.dct m _ ds=>by cases m<;>simp[Jb.fz,aG,gB ds,mkF]
 |.ins m _ _ ds=>by cases m<;>simp[Jb.fz,aG,gB ds,mkF]
theorem gB:∀ds:List D,aD (fzL ds)=true
 |[]=>rfl
 |d::r=>by simp[fzL,aD,yE d,gB r]
end
mutual
theorem yI:∀d:D,aC (Jb.fz d)=true
 |.non=>rfl|.bl _=>rfl|.int _=>rfl|.str _=>rfl|.ty _=>rfl
 |.tup ds=>by simp[Jb.fz,aC,gA ds]
 |.lst m ds=>by cases m<;>simp[Jb.fz,aC,gA ds,mkF]
 |.dct m _ ds=>by cases m<;>simp[Jb.fz,aC,gA ds,mkF]
 |.ins m _ _ ds=>by cases m<;>simp[Jb.fz,aC,gA ds,mkF]
theorem gA:∀ds:List D,aH (fzL ds)=true
 |[]=>rfl
 |d::r=>by simp[fzL,aH,yI d,gA r]
end
theorem Hz(d:D):clean (Jb.fz d)=true:=by simp[clean,yE,yI]
mutual
theorem Rep.dom:∀{d:D}{v:V}{L:List Addr},Rep G H W d v L->∀a∈L,Mu H a
 |.non,v,L,h=>by rw[Rep]at h;rw[h.2];simp
 |.bl _,v,L,h=>by rw[Rep]at h;rw[h.2];simp
 |.int _,v,L,h=>by rw[Rep]at h;rw[h.2];simp
 |.str _,v,L,h=>by rw[Rep]at h;rw[h.2];simp
 |.ty _,v,L,h=>by rw[Rep]at h;rw[h.2];simp
 |.tup ds,v,L,h=>by
  rw[Rep]at h;obtain⟨a,xs,rfl,ht,hr⟩:=h;exact aF.dom hr
 |.lst m ds,v,L,h=>by
  rw[Rep]at h;obtain⟨a,xs,M,rfl,hr,hs⟩:=h;intro b hb;cases m with
  |own=>
   rw[hs.2]at hb;rcases List.mem_cons.mp hb with z|z
   .rw[z];exact⟨_,hs.1,rfl⟩
   .exact aF.dom hr b z
  |frz=>rw[hs.2.2.2]at hb;cases hb
  |brw=>rw[hs.2.2.2]at hb;cases hb
  |bro=>rw[hs.2.2]at hb;cases hb
  |scr=>rw[hs.2.2]at hb;cases hb
 |.dct m ks ds,v,L,h=>by
  rw[Rep]at h;obtain⟨a,xs,M,rfl,hk,hr,hs⟩:=h;intro b hb;cases m with
  |own=>
   rw[hs.2]at hb;rcases List.mem_cons.mp hb with z|z
   .rw[z];exact⟨_,hs.1,rfl⟩
   .exact aF.dom hr b z
  |frz=>rw[hs.2.2.2]at hb;cases hb
  |brw=>rw[hs.2.2.2]at hb;cases hb
  |bro=>rw[hs.2.2]at hb;cases hb
  |scr=>rw[hs.2.2]at hb;cases hb
 |.ins m c fs ds,v,L,h=>by
  rw[Rep]at h;obtain⟨a,C,dx,xs,M,rfl,hC,hk,hr,hs⟩:=h;intro b hb;cases m with
  |own=>
   rw[hs.2]at hb;rcases List.mem_cons.mp hb with z|z
   .rw[z];exact⟨_,hs.1,rfl⟩
   .exact aF.dom hr b z
  |frz=>rw[hs.2.2.2]at hb;cases hb
  |brw=>rw[hs.2.2.2]at hb;cases hb
  |bro=>rw[hs.2.2]at hb;cases hb
  |scr=>rw[hs.2.2]at hb;cases hb
theorem aF.dom:∀{ds:List D}{vs:List V}{L:List Addr},aF G H W ds vs L->∀a∈L,Mu H a
 |[],vs,L,h=>by rw[h.inv0.2];simp
 |d::r,vs,L,h=>by
  obtain⟨x,ys,M,M',rfl,rfl,h1,h2⟩:=h.inv;intro a ha;rcases List.mem_append.mp ha with z|z
  .exact Rep.dom h1 a z
  .exact aF.dom h2 a z
end
end
abbrev En:=List (Option D)
abbrev Ad:=Nat->List Addr
def Rel(G:Gc)(H:Hp)(W:Wn)(ob:Nat->Bool)(ρ:En)(σ:L2.St):Prop:=∀(i:Nat)(d:D),ρ[i]? =some (some d)->∃v L,σ[i]? =some (some v)/\Rep G H W d v L/\(ob i=false->∀c∈L,W.s c)
def WOk(H:Hp)(W:Wn):Prop:=∀a,W.n a∨W.s a∨W.o a->Mu H a
theorem Rel.up{G:Gc}{H H':Hp}{W W':Wn}{ob:Nat->Bool}{ρ:En}{σ:L2.St}(r:Rel G H W ob ρ σ)(u:Up H H' W W'):Rel G H' W' ob ρ σ:=λi d e=>let⟨v,L,h1,h2,h3⟩:=r i d e;⟨v,L,h1,h2.up u,λz c hc=>let⟨o,ho,_⟩:=h2.dom c hc;u.n c o ho (h3 z c hc)⟩
theorem WOk.add{H H':Hp}{W:Wn}{L:List Addr}(h:WOk H W)(s:Same H H')(hL:∀a∈L,Mu H' a):WOk H' (W.add L):=λa ha=>by
 rcases ha with(z|z)|z
 .exact hL a z
 .obtain⟨o,h1,h2⟩:=h a (.inl z);exact⟨o,s a o h1,h2⟩
 .obtain⟨o,h1,h2⟩:=h a (.inr z);exact⟨o,s a o h1,h2⟩
def wn(ob:Nat->Bool)(S:Ad)(Fr:Addr->Prop):Wn:=⟨Fr,λa=>∃i,ob i=false/\a∈S i,λa=>∃i,ob i=true/\a∈S i⟩
def inS(S:Ad)(a:Addr):Prop:=∃i,a∈S i
def inO(ob:Nat->Bool)(S:Ad)(a:Addr):Prop:=∃i,ob i=true/\a∈S i
def plus(M:List Addr)(Fr:Addr->Prop):Addr->Prop:=λa=>a∈M∨Fr a
structure Sta(G:Gc)(H:Hp)(ob:Nat->Bool)(ρ:En)(σ:L2.St)(S:Ad)(Fr:Addr->Prop):Prop where
 len:ρ.length=σ.length
 sl:∀(i:Nat)(d:D),ρ[i]? =some (some d)->∃v,σ[i]? =some (some v)/\Rep G H (wn ob S Fr) d v (S i)/\clean d=true
 em:∀i,(∀d,ρ[i]?≠some (some d))->S i=[]
 nd:∀i,(S i).Nodup
 dj:∀i j a,a∈S i->a∈S j->i=j
 fdj:∀i a,Fr a->a∉S i
 fdm:∀a,Fr a->Mu H a
section
variable{G:Gc}{H H':Hp}{ob:Nat->Bool}{ρ:En}{σ:L2.St}{S S':Ad}{Fr Fr':Addr->Prop}
theorem Sta.mu(s:Sta G H ob ρ σ S Fr){i:Nat}{a:Addr}(h:a∈S i):Mu H a:=by
 by_cases e:∃d,ρ[i]? =some (some d)
 .obtain⟨d,e⟩:=e
  obtain⟨v,_,r,_⟩:=s.sl i d e;exact r.dom a h
 .rw[s.em i λd z=>e ⟨d,z⟩]at h
  cases h
theorem Sta.wok(s:Sta G H ob ρ σ S Fr):WOk H (wn ob S Fr):=λa ha=>by
 rcases ha with z|⟨i,_,z⟩|⟨i,_,z⟩
 .exact s.fdm a z
 .exact s.mu z
 .exact s.mu z
theorem Sta.rel(s:Sta G H ob ρ σ S Fr):Rel G H (wn ob S Fr) ob ρ σ:=λi d e=>by
 obtain⟨v,h1,h2,_⟩:=s.sl i d e;exact⟨v,S i,h1,h2,λz c hc=>⟨i,z,hc⟩⟩
theorem Sta.grow(s:Sta G H ob ρ σ S Fr)(sm:Same H H')(h1:∀a,Fr' a->Fr a∨(H a=none/\Mu H' a)):Sta G H' ob ρ σ S Fr' where
 len:=s.len
 sl:=λi d e=>by
  obtain⟨v,q1,q2,q3⟩:=s.sl i d e;have hc:aG d=true/\aC d=true:=by simpa[clean]using q3
  have ev:Evo H H' (wn ob S Fr) (wn ob S Fr'):=⟨λb u h f=>⟨sm b u h,⟨λz=>(h1 b z).elim f.1 (λz=>by rw[z.1]at h;cases h),f.2⟩⟩,λb xs h=>sm b _ h⟩;exact⟨v,q1,q2.mono ev (.inl hc.1) (.inl hc.2) λc _ u e=>sm c u e,q3⟩
 em:=s.em
 nd:=s.nd
 dj:=s.dj
 fdj:=λi a h z=>by
  rcases h1 a h with q|q
  .exact s.fdj i a q z
  .obtain⟨o,ho,_⟩:=s.mu z
   rw[q.1]at ho;cases ho
 fdm:=λa h=>by
  rcases h1 a h with q|q
  .obtain⟨o,ho,hm⟩:=s.fdm a q
   exact⟨o,sm a o ho,hm⟩
  .exact q.2
theorem Sta.lessF(s:Sta G H ob ρ σ S Fr)(h1:∀a,Fr' a->Fr a):Sta G H ob ρ σ S Fr':=s.grow (Same.refl H) λa h=>.inl (h1 a h)
end
def RfE(G:Gc)(ob:Nat->Bool)(t:TE)(f:En->Option D):Prop:=∀(ρ:En)(d:D),f ρ=some d->∀(σ:L2.St)(H:Hp)(W:Wn),Rel G H W ob ρ σ->WOk H W->∀Q:VK,
 (∀v H' L,Same H H'->Rep G H' (W.add L) d v L->(∀a∈L,H a=none)->L.Nodup->Q v H')->t σ H Q
def RfT(G:Gc)(ob:Nat->Bool)(t:TT)(f:En->Option Bool):Prop:=∀(ρ:En)(b:Bool),f ρ=some b->∀(σ:L2.St)(H:Hp)(W:Wn),Rel G H W ob ρ σ->WOk H W->∀Q:Bool->Hp->Prop,
 (∀H',Same H H'->Q b H')->t σ H Q
def RfA(G:Gc)(ob:Nat->Bool)(t:TA)(f:En->Option (List D)):Prop:=∀(ρ:En)(ds:List D),f ρ=some ds->∀(σ:L2.St)(H:Hp)(W:Wn),Rel G H W ob ρ σ->WOk H W->∀Q:List V->Hp->Prop,
 (∀vs H' L,Same H H'->aF G H' (W.add L) ds vs L->(∀a∈L,H a=none)->L.Nodup->Q vs H')->t σ H Q
structure Eff(ob:Nat->Bool)(H H':Hp)(S S':Ad)(M:List Addr):Prop where
 kp:∀b u,H b=some u->¬inO ob S b->H' b=some u
 sn:∀i,ob i=false->S' i=S i
 gr:∀i a,ob i=true->a∈S' i->inO ob S a∨H a=none
 fm:∀a∈M,inO ob S a∨H a=none
def j4(G:Gc)(ob:Nat->Bool)(t:TE)(f:En->Option (D×En)):Prop:=∀(ρ:En)(d:D)(ρ':En),f ρ=some (d,ρ')->∀(σ:L2.St)(H:Hp)(S:Ad)(Fr:Addr->Prop),Sta G H ob ρ σ S Fr->∀Q:VK,
 (∀v H' M S',Sta G H' ob ρ' σ S' (plus M Fr)->Rep G H' (wn ob S' (plus M Fr)) d v M->M.Nodup->Eff ob H H' S S' M->Q v H')->t σ H Q
def zj(G:Gc)(ob:Nat->Bool)(t:TT)(f:En->Option (Bool×En)):Prop:=∀(ρ:En)(b:Bool)(ρ':En),f ρ=some (b,ρ')->∀(σ:L2.St)(H:Hp)(S:Ad)(Fr:Addr->Prop),Sta G H ob ρ σ S Fr->∀Q:Bool->Hp->Prop,
 (∀H' S',Sta G H' ob ρ' σ S' Fr->Eff ob H H' S S' []->Q b H')->t σ H Q
def yd(G:Gc)(ob:Nat->Bool)(t:TA)(f:En->Option (List D×En)):Prop:=∀(ρ:En)(ds:List D)(ρ':En),f ρ=some (ds,ρ')->∀(σ:L2.St)(H:Hp)(S:Ad)(Fr:Addr->Prop),Sta G H ob ρ σ S Fr->∀Q:List V->Hp->Prop,
 (∀vs H' M S',Sta G H' ob ρ' σ S' (plus M Fr)->aF G H' (wn ob S' (plus M Fr)) ds vs M->M.Nodup->Eff ob H H' S S' M->Q vs H')->t σ H Q
inductive Fl where
 |nx (ρ:En)|ret (d:D) (ρ:En)|brk (ρ:En)|cnt (ρ:En)
def Af(P:Nat->Bool)(σ σ':L2.St):Prop:=∀i,P i=true->σ'[i]? =σ[i]?
theorem Af.refl{P:Nat->Bool}{σ:L2.St}:Af P σ σ:=λ_ _=>rfl
theorem Af.trans{P:Nat->Bool}{σ σ1 σ2:L2.St}(a:Af P σ σ1)(b:Af P σ1 σ2):Af P σ σ2:=λi h=>(b i h).trans (a i h)
structure Mv(P:Nat->Bool)(H H':Hp)(σ σ':L2.St)(S S':Ad)(M:List Addr):Prop where
 kp:∀b u,H b=some u->¬inS S b->b∉M->H' b=some u
 gr:∀i a,a∈S' i->inS S a∨a∈M∨H a=none
 pr:Af P σ σ'
theorem Mv.trans{P:Nat->Bool}{H H1 H2:Hp}{σ σ1 σ2:L2.St}{S S1 S2:Ad}{M:List Addr}(a:Mv P H H1 σ σ1 S S1 M)(b:Mv P H1 H2 σ1 σ2 S1 S2 []):Mv P H H2 σ σ2 S S2 M where
 kp:=λc u h n m=>b.kp c u (a.kp c u h n m) (λ⟨i,z⟩=>(a.gr i c z).elim n λz=>z.elim m λe=>by rw[h]at e;cases e) (by simp)
 gr:=λi c z=>by
  rcases b.gr i c z with⟨j,q⟩|q|q
  .exact a.gr j c q
  .cases q
  .by_cases h:inS S c
   .exact .inl h
   .by_cases hm:c∈M
    .exact .inr (.inl hm)
    .refine .inr (.inr ?_)
     cases e:H c with
     |none=>rfl
     |some u=>rw[a.kp c u e h hm]at q;cases q
 pr:=a.pr.trans b.pr
theorem Eff.mv{P:Nat->Bool}{ob:Nat->Bool}{H H':Hp}{σ:L2.St}{S S':Ad}{M:List Addr}(e:Eff ob H H' S S' M):Mv P H H' σ σ S S' []where
 kp:=λb u h n _=>e.kp b u h λ⟨i,_,z⟩=>n ⟨i,z⟩
 gr:=λi a z=>by
  cases h:ob i with
  |false=>rw[e.sn i h]at z;exact .inl ⟨i,z⟩
  |true=>exact(e.gr i a h z).imp (λ⟨j,_,q⟩=>⟨j,q⟩) .inr
 pr:=.refl
def Aft(G:Gc)(ob P:Nat->Bool)(H:Hp)(σ:L2.St)(S:Ad)(Fr:Addr->Prop)(E:Ends):Fl->Prop
 |.nx ρ'=>∀σ' H' S',Sta G H' ob ρ' σ' S' Fr->Mv P H H' σ σ' S S' []->E.nx σ' H'
 |.brk ρ'=>∀σ' H' S',Sta G H' ob ρ' σ' S' Fr->Mv P H H' σ σ' S S' []->E.bk σ' H'
 |.cnt ρ'=>∀σ' H' S',Sta G H' ob ρ' σ' S' Fr->Mv P H H' σ σ' S S' []->E.ct σ' H'
 |.ret d ρ'=>∀v σ' H' M S',Sta G H' ob ρ' σ' S' (plus M Fr)->Rep G H' (wn ob S' (plus M Fr)) d v M->clean d=true->M.Nodup->(∀a∈M,inS S a∨H a=none)->Mv P H H' σ σ' S S' []->E.rt v H'
def RfS(G:Gc)(ob P:Nat->Bool)(t:TS)(f:En->Option Fl):Prop:=∀(ρ:En)(r:Fl),f ρ=some r->∀(σ:L2.St)(H:Hp)(S:Ad)(Fr:Addr->Prop),Sta G H ob ρ σ S Fr->∀E:Ends,Aft G ob P H σ S Fr E r->t E σ H
def RfG(G:Gc)(ob P:Nat->Bool)(g:TG)(f:D->En->Option En):Prop:=∀(d:D)(ρ ρ':En),f d ρ=some ρ'->∀(v:V)(σ:L2.St)(H:Hp)(S:Ad)(M:List Addr)(Fr:Addr->Prop),Sta G H ob ρ σ S (plus M Fr)->Rep G H (wn ob S (plus M Fr)) d v M->M.Nodup->(∀a∈M,¬Fr a)->
 ∀Q:L2.St->Hp->Prop,(∀σ' H' S',Sta G H' ob ρ' σ' S' Fr->Mv P H H' σ σ' S S' M->Q σ' H')->g v σ H Q
def Sd(G:Gc)(ob P:Nat->Bool)(g:TGs)(f:List D->En->Option En):Prop:=∀(ds:List D)(ρ ρ':En),f ds ρ=some ρ'->∀(vs:List V)(σ:L2.St)(H:Hp)(S:Ad)(M:List Addr)(Fr:Addr->Prop),Sta G H ob ρ σ S (plus M Fr)->aF G H (wn ob S (plus M Fr)) ds vs M->M.Nodup->(∀a∈M,¬Fr a)->
 ∀Q:L2.St->Hp->Prop,(∀σ' H' S',Sta G H' ob ρ' σ' S' Fr->Mv P H H' σ σ' S S' M->Q σ' H')->g vs σ H Q
structure PV{ι:Type}(X:ι->Cx)(G:Gc)(ob:Nat->Bool)(e:Expr)(f:En->Option D):Prop where
 mk::(ex:∃t,(∀c,PE (X c) e t)/\RfE G ob t f)
structure PVT{ι:Type}(X:ι->Cx)(G:Gc)(ob:Nat->Bool)(e:Expr)(f:En->Option Bool):Prop where
 mk::(ex:∃t,(∀c,PT (X c) e t)/\RfT G ob t f)
structure PVW{ι:Type}(X:ι->Cx)(G:Gc)(ob:Nat->Bool)(e:Expr)(f:En->Option Bool):Prop where
 mk::(ex:∃t,(∀c,PW (X c) e t)/\RfT G ob t f)
structure PVA{ι:Type}(X:ι->Cx)(G:Gc)(ob:Nat->Bool)(es:List Expr)(f:En->Option (List D)):Prop where
 mk::(ex:∃t,(∀c,PA (X c) es t)/\RfA G ob t f)
structure PVe{ι:Type}(X:ι->Cx)(G:Gc)(ob:Nat->Bool)(e:Expr)(f:En->Option (D×En)):Prop where
 mk::(ex:∃t,(∀c,PE (X c) e t)/\j4 G ob t f)
structure DY{ι:Type}(X:ι->Cx)(G:Gc)(ob:Nat->Bool)(e:Expr)(f:En->Option (Bool×En)):Prop where
 mk::(ex:∃t,(∀c,PT (X c) e t)/\zj G ob t f)
structure Kz{ι:Type}(X:ι->Cx)(G:Gc)(ob:Nat->Bool)(e:Expr)(f:En->Option (Bool×En)):Prop where
 mk::(ex:∃t,(∀c,PW (X c) e t)/\zj G ob t f)
structure tE{ι:Type}(X:ι->Cx)(G:Gc)(ob:Nat->Bool)(es:List Expr)(f:En->Option (List D×En)):Prop where
 mk::(ex:∃t,(∀c,PA (X c) es t)/\yd G ob t f)
structure PVS{ι:Type}(X:ι->Cx)(G:Gc)(ob P:Nat->Bool)(st:Stmt)(f:En->Option Fl):Prop where
 mk::(ex:∃t,(∀c,PS (X c) st t)/\RfS G ob P t f)
structure rN{ι:Type}(X:ι->Cx)(G:Gc)(ob P:Nat->Bool)(st:List Stmt)(f:En->Option Fl):Prop where
 mk::(ex:∃t,(∀c,PSs (X c) st t)/\RfS G ob P t f)
structure PVG{ι:Type}(X:ι->Cx)(G:Gc)(ob P:Nat->Bool)(tg:Expr)(f:D->En->Option En):Prop where
 mk::(ex:∃t,(∀c,PG (X c) tg t)/\RfG G ob P t f)
theorem dY{L M:List Addr}(h1:L.Nodup)(h2:M.Nodup)(h3:∀a∈L,a∉M):(L++M).Nodup:=List.nodup_append.mpr ⟨h1,h2,λa ha b hb e=>h3 a ha (e▸hb)⟩
def Wn.drop(W:Wn)(L:List Addr):Wn:=⟨λa=>W.n a/\a∉L,W.s,W.o⟩
def Wn.tmp(W:Wn)(a:Addr):Prop:=W.n a/\¬W.s a/\¬W.o a
theorem WOk.tmp{H:Hp}{W:Wn}{L:List Addr}(w:WOk H W)(fr:∀a∈L,H a=none):∀a∈L,(W.add L).tmp a:=λa ha=>by
 refine⟨.inl ha,λz=>?_,λz=>?_⟩
 .obtain⟨o,ho,_⟩:=w a (.inr (.inl z));rw[fr a ha]at ho;cases ho
 .obtain⟨o,ho,_⟩:=w a (.inr (.inr z));rw[fr a ha]at ho;cases ho
def Done(G:Gc)(H:Hp)(W:Wn)(L0:List Addr)(d:D)(Q:VK):Prop:=∀v H' L,Same H H'->Rep G H' ((W.drop L0).add L) d v L->(∀a∈L,a∈L0∨H a=none)->L.Nodup->Q v H'
def OpV(G:Gc)(r:R2)(g:D->D->Option D):Prop:=∀(dx dy d:D),g dx dy=some d->∀(x y:V)(H:Hp)(W:Wn)(Lx Ly:List Addr),Rep G H W dx x Lx->Rep G H W dy y Ly->(Lx++Ly).Nodup->(∀a∈Lx++Ly,W.tmp a)->WOk H W->∀Q:VK,Done G H W (Lx++Ly) d Q->r x y H Q
def UnV(G:Gc)(r:V->Hp->VK->Prop)(g:D->Option D):Prop:=∀(dx d:D),g dx=some d->∀(x:V)(H:Hp)(W:Wn)(Lx:List Addr),Rep G H W dx x Lx->Lx.Nodup->(∀a∈Lx,W.tmp a)->WOk H W->∀Q:VK,Done G H W Lx d Q->r x H Q
def CaV(G:Gc)(r:List V->Hp->VK->Prop)(g:List D->Option D):Prop:=∀(ds:List D)(d:D),g ds=some d->∀(xs:List V)(H:Hp)(W:Wn)(L0:List Addr),aF G H W ds xs L0->L0.Nodup->(∀a∈L0,W.tmp a)->WOk H W->∀Q:VK,Done G H W L0 d Q->r xs H Q
def MtV(G:Gc)(r:V->List V->Hp->VK->Prop)(g:D->List D->Option D):Prop:=∀(dx:D)(ds:List D)(d:D),g dx ds=some d->∀(x:V)(xs:List V)(H:Hp)(W:Wn)(Lx L0:List Addr),Rep G H W dx x Lx->aF G H W ds xs L0->(Lx++L0).Nodup->(∀a∈Lx++L0,W.tmp a)->WOk H W->∀Q:VK,Done G H W (Lx++L0) d Q->r x xs H Q
theorem WOk.new{H:Hp}{W:Wn}{L:List Addr}(w:WOk H W)(fr:∀a∈L,H a=none){a:Addr}(h:W.n a):a∉L:=λz=>by
 obtain⟨o,ho,_⟩:=w a (.inl h);rw[fr a z]at ho;cases ho
theorem Done.scal{G:Gc}{H:Hp}{W:Wn}{L0:List Addr}{d:D}{Q:VK}{v:V}(h:Done G H W L0 d Q)(r:∀W,Rep G H W d v []):Q v H:=h v H [] (Same.refl H) (r _) (by simp) List.nodup_nil
section
variable{G:Gc}{ob:Nat->Bool}{ta tb:TE}
theorem _root_.L2.Same.none'{H H':Hp}(s:Same H H'){a:Addr}(h:H' a=none):H a=none:=Same.free s h
theorem RfE.two{fa fb:En->Option D}(ha:RfE G ob ta fa)(hb:RfE G ob tb fb){ρ:En}{dx dy:D}(e1:fa ρ=some dx)(e2:fb ρ=some dy){σ:L2.St}{H:Hp}{W:Wn}(r:Rel G H W ob ρ σ)(w:WOk H W){R:V->V->Hp->Prop}
  (h:∀x y H' L M,Same H H'->Rep G H' (W.add (L++M)) dx x L->Rep G H' (W.add (L++M)) dy y M->(∀a∈L++M,H a=none)->(L++M).Nodup->WOk H' (W.add (L++M))->R x y H'):ta σ H λx H1=>tb σ H1 λy H2=>R x y H2:=by
 refine ha ρ dx e1 σ H W r w _ λx H1 L s1 rx fx nx=>?_;have u1:Up H H1 W (W.add L):=.add s1 fx;have w1:WOk H1 (W.add L):=w.add s1 rx.dom;refine hb ρ dy e2 σ H1 (W.add L) (r.up u1) w1 _ λy H2 M s2 ry fy ny=>?_;have hLM:∀a∈L,a∉M:=λa h1 h2=>by
  obtain⟨o,ho,_⟩:=rx.dom a h1;rw[fy a h2]at ho;cases ho
 have eW:∀a,((W.add L).add M).n a↔(W.add (L++M)).n a:=λa=>by
  show(a∈M∨a∈L∨W.n a)↔(a∈L++M∨W.n a);rw[List.mem_append];constructor
  .rintro(z|z|z)
   .exact .inl (.inr z)
   .exact .inl (.inl z)
   .exact .inr z
  .rintro((z|z)|z)
   .exact .inr (.inl z)
   .exact .inl z
   .exact .inr (.inr z)
 have eW':(W.add L).add M=W.add (L++M):=by
  show Wn.mk _ _ _=Wn.mk _ _ _;congr 1;funext a;exact propext (eW a)
 have u2:Up H1 H2 (W.add L) (W.add (L++M)):=by rw[←eW'];exact .add s2 fy
 rw[eW']at ry;refine h x y H2 L M (s1.trans s2) (rx.up u2) ry (λa ha=>?_) (dY nx ny hLM) ?_
 .rcases List.mem_append.mp ha with z|z
  .exact fx a z
  .exact s1.none' (fy a z)
 .rw[←eW']
  exact w1.add s2 ry.dom
end
def aq(b:Bool)(i:Nat):En->Option D:=λρ=>match ρ[i]? with
 |some (some d)=>some (view b d)
 |_=>none
def eC(d:D):En->Option D:=λ_=>some d
section
variable{ι:Type}{X:ι->Cx}{G:Gc}{ob:Nat->Bool}
theorem vD(W:Wn):W.add []=W:=by
 cases W;simp[Wn.add]
theorem N8{i:Nat}:RfE G ob (JZ i) (aq (ob i) i):=λρ d e σ H W r w Q q=>by
 unfold aq at e;split at e
 .rename_i d0 e0
  cases e;obtain⟨v,L,h1,h2,h3⟩:=r i d0 e0;refine⟨v,h1,q v H [] (Same.refl H) ?_ (by simp) List.nodup_nil⟩;rw[vD];exact h2.view h3
 .cases e
theorem aj(b:Bool)(i:Nat){x:Str}{pos:Pos}(hb:ob i=b:=by rfl)(hN:∀c,(X c).N[i]? =some x:=by intro _;rfl)(hv:∀c,Vis (X c).env.scope x:=by intro _;first|exact Or.inl rfl|exact Or.inr (Or.inl rfl)|exact Or.inr (Or.inr rfl))(hd:(x==("__debug__":Str))=false:=by decide)(hcd:(x==("__classdict__":Str))=false:=by decide):PV X G ob (.Name x pos) (aq b i):=⟨_,λc=>pv i (hN c) (hv c) hd hcd,by rw[←hb];exact N8⟩
theorem G4{d:D}{v:V}(h:∀H W,Rep G H W d v []):RfE G ob (tC v) (eC d):=λρ d' e σ H W r w Q q=>by
 cases e;exact q v H [] (Same.refl H) (h _ _) (by simp) List.nodup_nil
theorem au{i j pos}:PV X G ob (.Constant (.int i) j pos) (eC (.int i)):=⟨_,λc=>M6,G4 λ_ _=>by simp[Rep]⟩
theorem lE{b j pos}:PV X G ob (.Constant (.bool b) j pos) (eC (.bl b)):=⟨_,λc=>Q0,G4 λ_ _=>by simp[Rep]⟩
theorem Bj{j pos}:PV X G ob (.Constant .none j pos) (eC .non):=⟨_,λc=>PB,G4 λ_ _=>by simp[Rep]⟩
theorem jJ{x j pos}:PV X G ob (.Constant (.str x) j pos) (eC (.str x)):=⟨_,λc=>M_,G4 λ_ _=>by simp[Rep]⟩
theorem jT{x:Str}{n:String}{pos:Pos}(hg:∀c,Gl (X c) x)(hm:∀c,(X c).mg x=none)(hv:bootBuiltins x=some (.type n))(hn:x≠"__name__":=by decide)(hd:(x==("__debug__":Str))=false:=by decide):PV X G ob (.Name x pos) (eC (.ty n)):=⟨_,λc=>RD (hg c) (hm c) hv hn hd,G4 λ_ _=>by simp[Rep]⟩
structure OpB{ι:Type}(X:ι->Cx)(G:Gc)(f:Value->Value->Sem Value)(g:D->D->Option D):Prop where
 ex:∃r,(∀c,OpR (X c) f r)/\OpV G r g
structure UnB{ι:Type}(X:ι->Cx)(G:Gc)(f:Value->Sem Value)(g:D->Option D):Prop where
 ex:∃r,(∀c,UnR (X c) f r)/\UnV G r g
structure IxB{ι:Type}(X:ι->Cx)(G:Gc)(g:D->D->Option D):Prop where
 ex:∃r,(∀c,IxR (X c) r)/\OpV G r g
structure CaB{ι:Type}(X:ι->Cx)(G:Gc)(f:Value)(g:List D->Option D):Prop where
 ex:∃r,(∀c,cM (X c) f r)/\CaV G r g
structure MtB{ι:Type}(X:ι->Cx)(G:Gc)(T id:String)(g:D->List D->Option D):Prop where
 ex:∃r,(∀c,MtR (X c) id r)/\MtV G r g/\∀dx ds d,g dx ds=some d->∀(x:V)(H:Hp)(W:Wn)(Lx:List Addr),Rep G H W dx x Lx->tyV G.K T x H
def e2(g:D->D->Option D)(fa fb:En->Option D):En->Option D:=λρ=>(fa ρ).bind λx=>(fb ρ).bind λy=>g x y
def e1(g:D->Option D)(fa:En->Option D):En->Option D:=λρ=>(fa ρ).bind g
theorem Dd{r:R2}{g:D->D->Option D}{ta tb:TE}{fa fb:En->Option D}(ho:OpV G r g)(ha:RfE G ob ta fa)(hb:RfE G ob tb fb):RfE G ob (tOp r ta tb) (e2 g fa fb):=λρ d e σ H W rl w Q q=>by
 unfold e2 at e;cases h1:fa ρ with
 |none=>rw[h1]at e;cases e
 |some dx=>
  rw[h1]at e;cases h2:fb ρ with
  |none=>simp[h2]at e
  |some dy=>
   have e:g dx dy=some d:=by simpa[h2]using e
   refine RfE.two ha hb h1 h2 rl w λx y H' L M s rx ry fr nd w'=>?_;refine ho dx dy d e x y H' _ L M rx ry nd (w.tmp fr) w' Q λv H2 L2 s2 r2 f2 n2=>?_;refine q v H2 L2 (s.trans s2) ?_ (λa ha=>(f2 a ha).elim (fr a) λz=>s.none' z) n2;exact r2.up ⟨Same.refl _,λb u hb f=>⟨λz=>z.elim (λz=>f.1 (.inl z)) λz=>f.1 (.inr ⟨.inr z,WOk.new w fr z⟩),f.2⟩,λ_ _ _ f=>f⟩
theorem Rb{r:V->Hp->VK->Prop}{g:D->Option D}{ta:TE}{fa:En->Option D}(ho:UnV G r g)(ha:RfE G ob ta fa):RfE G ob (tUn r ta) (e1 g fa):=λρ d e σ H W rl w Q q=>by
 unfold e1 at e;cases h1:fa ρ with
 |none=>rw[h1]at e;cases e
 |some dx=>
  rw[h1]at e;have e:g dx=some d:=by simpa using e
  refine ha ρ dx h1 σ H W rl w _ λx H' L s rx fr nd=>?_;refine ho dx d e x H' _ L rx nd (w.tmp fr) (w.add s rx.dom) Q λv H2 L2 s2 r2 f2 n2=>?_;refine q v H2 L2 (s.trans s2) ?_ (λa ha=>(f2 a ha).elim (fr a) λz=>s.none' z) n2;exact r2.up ⟨Same.refl _,λb u hb f=>⟨λz=>z.elim (λz=>f.1 (.inl z)) λz=>f.1 (.inr ⟨.inr z,WOk.new w fr z⟩),f.2⟩,λ_ _ _ f=>f⟩
def aJ:En->Option (List D):=λ_=>some []
def ak(fa:En->Option D)(fr:En->Option (List D)):En->Option (List D):=λρ=>(fa ρ).bind λx=>(fr ρ).bind λxs=>some (x::xs)
theorem Ik:RfA G ob Qa aJ:=λρ ds e σ H W rl w Q q=>by
 cases e;exact q [] H [] (Same.refl H) .nil (by simp) List.nodup_nil
theorem KC{ta:TE}{t:TA}{fa:En->Option D}{fr:En->Option (List D)}(ha:RfE G ob ta fa)(hr:RfA G ob t fr):RfA G ob (HW ta t) (ak fa fr):=λρ ds e σ H W rl w Q q=>by
 unfold ak at e;cases h1:fa ρ with
 |none=>rw[h1]at e;cases e
 |some dx=>
  rw[h1]at e;cases h2:fr ρ with
  |none=>simp[h2]at e
  |some es=>
   have e:dx::es=ds:=by simpa[h2]using e
   subst e;refine ha ρ dx h1 σ H W rl w _ λx H1 L s1 rx fx nx=>?_;have u1:Up H H1 W (W.add L):=.add s1 fx;have w1:WOk H1 (W.add L):=w.add s1 rx.dom;refine hr ρ es h2 σ H1 (W.add L) (rl.up u1) w1 _ λys H2 M s2 ry fy ny=>?_;have hLM:∀a∈L,a∉M:=λa h1 h2=>by
    obtain⟨o,ho,_⟩:=rx.dom a h1;rw[fy a h2]at ho;cases ho
   have u2:Up H1 H2 (W.add L) (W.add (L++M)):=⟨s2,λb u hb f=>⟨λz=>z.elim (λz=>(List.mem_append.mp z).elim (λz=>f.1 (.inl z)) λz=>by rw[fy b z]at hb;cases hb) λz=>f.1 (.inr z),f.2⟩,λ_ _ _ f=>f⟩;refine q (x::ys) H2 (L++M) (s1.trans s2) (.cons (rx.up u2) (ry.up ⟨Same.refl _,λb u hb f=>⟨λz=>?_,f.2⟩,λ_ _ _ f=>f⟩)) (λa ha=>?_) (dY nx ny hLM)
   .rcases z with z|z
    .exact(List.mem_append.mp z).elim (λz=>f.1 (.inr (.inl z))) λz=>f.1 (.inl z)
    .exact f.1 (.inr (.inr z))
   .rcases List.mem_append.mp ha with z|z
    .exact fx a z
    .exact s1.none' (fy a z)
theorem vy{r:List V->Hp->VK->Prop}{g:List D->Option D}{t:TA}{f:En->Option (List D)}(ho:CaV G r g)(h:RfA G ob t f):RfE G ob (λσ H Q=>t σ H λvs H1=>r vs H1 Q) (λρ=>(f ρ).bind g):=λρ d e σ H W rl w Q q=>by
 cases h1:f ρ with
 |none=>simp[h1]at e
 |some ds=>
  have e:g ds=some d:=by simpa[h1]using e
  refine h ρ ds h1 σ H W rl w _ λxs H' L s rx fr nd=>?_;refine ho ds d e xs H' _ L rx nd (w.tmp fr) (w.add s rx.dom) Q λv H2 L2 s2 r2 f2 n2=>?_;refine q v H2 L2 (s.trans s2) ?_ (λa ha=>(f2 a ha).elim (fr a) λz=>s.none' z) n2;exact r2.up ⟨Same.refl _,λb u hb f=>⟨λz=>z.elim (λz=>f.1 (.inl z)) λz=>f.1 (.inr ⟨.inr z,WOk.new w fr z⟩),f.2⟩,λ_ _ _ f=>f⟩
def eAp(g:List D->Option D)(f:En->Option (List D)):En->Option D:=λρ=>(f ρ).bind g
theorem Rj{r:V->List V->Hp->VK->Prop}{g:D->List D->Option D}{T:String}{to:TE}{t:TA}{fo:En->Option D}{f:En->Option (List D)}(ho:MtV G r g)(hty:∀dx ds d,g dx ds=some d->∀(x:V)(H:Hp)(W:Wn)(Lx:List Addr),Rep G H W dx x Lx->tyV G.K T x H)
  (h0:RfE G ob to fo) (h:RfA G ob t f):RfE G ob (tBM G.K T r to t) (λρ=>(fo ρ).bind λx=>(f ρ).bind λds=>g x ds):=λρ d e σ H W rl w Q q=>by
 cases h1:fo ρ with
 |none=>simp[h1]at e
 |some dx=>
  cases h2:f ρ with
  |none=>simp[h1,h2]at e
  |some ds=>
   have e:g dx ds=some d:=by simpa[h1,h2]using e
   refine h0 ρ dx h1 σ H W rl w _ λx H1 L s1 rx fx nx=>⟨hty dx ds d e x H1 _ L rx,?_⟩;have u1:Up H H1 W (W.add L):=.add s1 fx;have w1:WOk H1 (W.add L):=w.add s1 rx.dom;refine h ρ ds h2 σ H1 (W.add L) (rl.up u1) w1 _ λys H2 M s2 ry fy ny=>?_;have hLM:∀a∈L,a∉M:=λa h1 h2=>by
    obtain⟨o,ho,_⟩:=rx.dom a h1;rw[fy a h2]at ho;cases ho
   have u2:Up H1 H2 (W.add L) (W.add (L++M)):=⟨s2,λb u hb f=>⟨λz=>z.elim (λz=>(List.mem_append.mp z).elim (λz=>f.1 (.inl z)) λz=>by rw[fy b z]at hb;cases hb) λz=>f.1 (.inr z),f.2⟩,λ_ _ _ f=>f⟩;have u3:Up H2 H2 ((W.add L).add M) (W.add (L++M)):=⟨Same.refl _,λb u hb f=>⟨λz=>by
    rcases z with z|z
    .exact(List.mem_append.mp z).elim (λz=>f.1 (.inr (.inl z))) λz=>f.1 (.inl z)
    .exact f.1 (.inr (.inr z)),f.2⟩,λ_ _ _ f=>f⟩
   have w2:WOk H2 (W.add (L++M)):=w.add (s1.trans s2) λa ha=>(List.mem_append.mp ha).elim (λz=>let⟨o,h,m⟩:=rx.dom a z;⟨o,s2 a o h,m⟩) (ry.dom a);refine ho dx ds d e x ys H2 (W.add (L++M)) L M (rx.up u2) (ry.up u3) (dY nx ny hLM) (w.tmp λa ha=>(List.mem_append.mp ha).elim (fx a) λz=>s1.none' (fy a z)) w2 Q λv H3 L3 s3 r3 f3 n3=>?_;refine q v H3 L3 ((s1.trans s2).trans s3) ?_ (λa ha=>(f3 a ha).elim (λz=>?_) λz=>(s1.trans s2).none' z) n3
   .exact r3.up ⟨Same.refl _,λb u hb f=>⟨λz=>z.elim (λz=>f.1 (.inl z)) λz=>f.1 (.inr ⟨.inr z,WOk.new w (λa ha=>(List.mem_append.mp ha).elim (fx a) λz=>s1.none' (fy a z)) z⟩),f.2⟩,λ_ _ _ f=>f⟩
   .rcases List.mem_append.mp z with z|z
    .exact fx a z
    .exact s1.none' (fy a z)
variable{a b:Expr}{fa fb:En->Option D}{pos:Pos}
theorem aY{op:Operator}{g:D->D->Option D}(o:OpB X G (binaryOp op) g)(ha:PV X G ob a fa)(hb:PV X G ob b fb):PV X G ob (.BinOp a op b pos) (e2 g fa fb):=let⟨r,o1,o2⟩:=o.ex;let⟨t,a1,a2⟩:=ha.ex;let⟨u,b1,b2⟩:=hb.ex;⟨_,λc=>Ld (o1 c) (a1 c) (b1 c),Dd o2 a2 b2⟩
theorem qj{op:CmpOp}{g:D->D->Option D}(o:OpB X G (compareOp op) g)(ha:PV X G ob a fa)(hb:PV X G ob b fb)(hm:behindInMarks op b=false:=by with_unfolding_all rfl):PV X G ob (.Compare a [op] [b] pos) (e2 g fa fb):=let⟨r,o1,o2⟩:=o.ex;let⟨t,a1,a2⟩:=ha.ex;let⟨u,b1,b2⟩:=hb.ex;⟨_,λc=>Bp (o1 c) (a1 c) (b1 c) hm,Dd o2 a2 b2⟩
theorem Cu{op:UnaryOp}{g:D->Option D}(o:UnB X G (unaryOp op) g)(ha:PV X G ob a fa):PV X G ob (.UnaryOp op a pos) (e1 g fa):=let⟨r,o1,o2⟩:=o.ex;let⟨t,a1,a2⟩:=ha.ex;⟨_,λc=>P0 (o1 c) (a1 c),Rb o2 a2⟩
theorem d8{g:D->D->Option D}(o:IxB X G g)(ha:PV X G ob a fa)(hb:PV X G ob b fb)(hs:wF b:=by exact λ_ _=>rfl):PV X G ob (.Subscript a b pos) (e2 g fa fb):=let⟨r,o1,o2⟩:=o.ex;let⟨t,a1,a2⟩:=ha.ex;let⟨u,b1,b2⟩:=hb.ex;⟨_,λc=>L_ (o1 c) (a1 c) (b1 c) hs,Dd o2 a2 b2⟩
theorem ao:PVA X G ob [] aJ:=⟨_,λc=>Pa,Ik⟩
theorem aa{e:Expr}{es:List Expr}{f:En->Option D}{fr:En->Option (List D)}(ha:PV X G ob e f)(hr:PVA X G ob es fr)(hs:∀c,starEach (e::es) (X c).env=(false,eval e (X c).env)::starEach es (X c).env:=by intro _;rfl):PVA X G ob (e::es) (ak f fr):=let⟨t,a1,a2⟩:=ha.ex;let⟨u,b1,b2⟩:=hr.ex;⟨_,λc=>wA (a1 c) (b1 c) (hs c),KC a2 b2⟩
section
variable{e:Expr}{es:List Expr}{f:En->Option (List D)}{p:Pos}{x:Str}
theorem aN{id:String}{g:List D->Option D}(o:CaB X G (.builtin id) g)(hg:∀c,Gl (X c) x)(hm:∀c,(X c).mg x=none)(hv:bootBuiltins x=some (.builtin id))(ha:PVA X G ob (e::es) f)(hn:x≠"__name__":=by decide)(hdb:(x==("__debug__":Str))=false:=by decide)(he:∀c,starEach (e::es) (X c).env=(false,eval e (X c).env)::starEach es (X c).env:=by intro _;rfl)(hpl:∀c,(backTo pos (starEach es (X c).env)).any (·.1)=false:=by intro _;rfl):PV X G ob (.Call (.Name x p) (e::es) [] pos) (eAp g f):=let⟨r,o1,o2⟩:=o.ex;let⟨t,a1,a2⟩:=ha.ex;⟨_,λc=>zK (o1 c) (hg c) (hm c) hv (a1 c) hn hdb (he c) (hpl c),vy o2 a2⟩
theorem iu{T:String}{g:List D->Option D}(o:CaB X G (.type T) g)(hg:∀c,Gl (X c) x)(hm:∀c,(X c).mg x=none)(hv:bootBuiltins x=some (.type T))(ha:PVA X G ob (e::es) f)(hn:x≠"__name__":=by decide)(hdb:(x==("__debug__":Str))=false:=by decide)(he:∀c,starEach (e::es) (X c).env=(false,eval e (X c).env)::starEach es (X c).env:=by intro _;rfl)(hpl:∀c,(backTo pos (starEach es (X c).env)).any (·.1)=false:=by intro _;rfl):PV X G ob (.Call (.Name x p) (e::es) [] pos) (eAp g f):=let⟨r,o1,o2⟩:=o.ex;let⟨t,a1,a2⟩:=ha.ex;⟨_,λc=>vK (o1 c) (hg c) (hm c) hv (a1 c) hn hdb (he c) (hpl c),vy o2 a2⟩
end
def bU(ds:List D):Option D:=if ds.length<=1000 then some (.tup ds)else none
def a_(ds:List D):Option D:=if ds.length<=1000 then some (.lst .own ds)else none
theorem y_{n:Nat}(h:n<=1000):n<=sizeLine:=Nat.le_trans h (by decide)
theorem Cv:CaV G (λxs H Q=>xs.length<=sizeLine/\∀p,H p=none->Q (.ref p) (upd H p (.tup xs))) bU:=λds d e xs H W L0 r nd hn w Q q=>by
 unfold bU at e;split at e
 .rename_i hl
  cases e;refine⟨y_ (by rw[←r.length];exact hl),λp hp=>?_⟩;have sm:Same H (upd H p (.tup xs)):=Same.new hp;refine q (.ref p) _ L0 sm ?_ (λa ha=>.inl ha) nd;rw[Rep];exact⟨p,xs,rfl,bc,r.up ⟨sm,λb u hb f=>⟨λz=>z.elim (λz=>f.1 (hn b z).1) λz=>f.1 z.1,f.2⟩,λ_ _ _ f=>f⟩⟩
 .cases e
theorem BZ:CaV G (λxs H Q=>xs.length<=sizeLine/\∀p,H p=none->Q (.ref p) (upd H p (.lst xs))) a_:=λds d e xs H W L0 r nd hn w Q q=>by
 unfold a_ at e;split at e
 .rename_i hl
  cases e;refine⟨y_ (by rw[←r.length];exact hl),λp hp=>?_⟩;have sm:Same H (upd H p (.lst xs)):=Same.new hp;refine q (.ref p) _ (p::L0) sm ?_ (λa ha=>(List.mem_cons.mp ha).elim (λz=>.inr (by rw[z];exact hp)) .inl) (List.nodup_cons.mpr ⟨λz=>?_,nd⟩)
  .rw[Rep]
   exact⟨p,xs,L0,rfl,r.up ⟨sm,λb u hb f=>⟨λz=>z.elim (λz=>(List.mem_cons.mp z).elim (λz=>by rw[z,hp]at hb;cases hb) λz=>f.1 (hn b z).1) λz=>f.1 z.1,f.2⟩,λ_ _ _ f=>f⟩,bc,rfl⟩
  .obtain⟨o,ho,_⟩:=r.dom p z
   rw[hp]at ho;cases ho
 .cases e
theorem dI{es:List Expr}{k:Nat}{f:En->Option (List D)}(h:PVA X G ob es f):PV X G ob (.Tuple es k pos) (eAp bU f):=let⟨t,a1,a2⟩:=h.ex;⟨_,λc=>FP (a1 c),vy Cv a2⟩
theorem cL{es:List Expr}{f:En->Option (List D)}(h:PVA X G ob es f):PV X G ob (.List es pos) (eAp a_ f):=let⟨t,a1,a2⟩:=h.ex;⟨_,λc=>Fx (a1 c),vy BZ a2⟩
end
section
variable{G:Gc}{ob:Nat->Bool}{H H1 H2:Hp}{S S1 S2:Ad}{L M:List Addr}{ρ ρ1:En}{σ:L2.St}{Fr:Addr->Prop}
theorem Eff.refl:Eff ob H H S S []:=⟨λ_ _ h _=>h,λ_ _=>rfl,λi a h z=>.inl ⟨i,h,z⟩,by simp⟩
theorem Eff.back(e:Eff ob H H1 S S1 L){a:Addr}(h:H1 a=none):inO ob S a∨H a=none:=by
 by_cases z:inO ob S a
 .exact .inl z
 .refine .inr ?_
  cases q:H a with
  |none=>rfl
  |some u=>rw[e.kp a u q z]at h;cases h
theorem Eff.inO(e:Eff ob H H1 S S1 L){a:Addr}(h:inO ob S1 a):inO ob S a∨H a=none:=let⟨i,h1,h2⟩:=h;e.gr i a h1 h2
theorem Eff.notO(e:Eff ob H H1 S S1 L){a:Addr}{u:HO}(h:H a=some u)(n:¬Jb.inO ob S a):¬Jb.inO ob S1 a:=λz=>(e.inO z).elim n λz=>by rw[h]at z;cases z
theorem Eff.trans(a:Eff ob H H1 S S1 L)(b:Eff ob H1 H2 S1 S2 M):Eff ob H H2 S S2 (L++M)where
 kp:=λc u h n=>b.kp c u (a.kp c u h n) (a.notO h n)
 sn:=λi h=>(b.sn i h).trans (a.sn i h)
 gr:=λi c h z=>(b.gr i c h z).elim a.inO a.back
 fm:=λc hc=>(List.mem_append.mp hc).elim (a.fm c) λz=>(b.fm c z).elim a.inO a.back
theorem Eff.same(a:Eff ob H H1 S S1 L)(s:Same H1 H2)(h:∀c∈M,c∈L∨H1 c=none):Eff ob H H2 S S1 M where
 kp:=λc u hc n=>s c u (a.kp c u hc n)
 sn:=a.sn
 gr:=a.gr
 fm:=λc hc=>(h c hc).elim (a.fm c) a.back
theorem Sta.notO(s:Sta G H ob ρ σ S Fr){a:Addr}(h:Fr a):¬inO ob S a:=λ⟨i,_,z⟩=>s.fdj i a h z
theorem Sta.tmp(s:Sta G H ob ρ σ S Fr){a:Addr}(h:Fr a):(wn ob S Fr).tmp a:=⟨h,λ⟨i,_,z⟩=>s.fdj i a h z,λ⟨i,_,z⟩=>s.fdj i a h z⟩
theorem Eff.evo(s:Sta G H ob ρ σ S Fr)(e:Eff ob H H1 S S1 M):Evo H H1 (wn ob S Fr) (wn ob S1 (plus M Fr))where
 k:=λb u h f=>⟨e.kp b u h f.2.2,λz=>z.elim (λz=>(e.fm b z).elim f.2.2 λq=>by rw[h]at q;cases q) f.1,λ⟨i,h1,h2⟩=>f.2.1 ⟨i,h1,by rw[←e.sn i h1];exact h2⟩,e.notO h f.2.2⟩
 t:=λb xs h=>by
  have no:∀u,H b=some u->muO u=false->H1 b=some u:=λu hu m=>e.kp b u hu λ⟨i,_,z⟩=>by
   obtain⟨o,ho,hm⟩:=s.mu z;rw[hu]at ho;cases ho;rw[m]at hm;cases hm
  exact no _ h rfl
theorem Eff.evoN(s:Sta G H ob ρ σ S Fr)(e:Eff ob H H1 S S1 M):FW H H1 (wn ob S Fr) (wn ob S1 (plus M Fr)):=λb u h ⟨i,h1,h2⟩=>
 ⟨e.kp b u h (λ⟨j,q1,q2⟩=>by rw[s.dj i j b h2 q2,q1]at h1;cases h1),⟨i,h1,by rw[e.sn i h1];exact h2⟩⟩
theorem Eff.keepsF(s:Sta G H ob ρ σ S Fr)(e:Eff ob H H1 S S1 M){a:Addr}(h:Fr a):∀u,H a=some u->H1 a=some u:=λu hu=>e.kp a u hu (s.notO h)
theorem mz{L M:List Addr}:plus M (plus L Fr)=plus (L++M) Fr:=by
 funext a;simp only[plus,List.mem_append,eq_iff_iff];constructor
 .rintro(z|z|z)
  .exact .inl (.inr z)
  .exact .inl (.inl z)
  .exact .inr z
 .rintro((z|z)|z)
  .exact .inr (.inl z)
  .exact .inl z
  .exact .inr (.inr z)
theorem Ir{L3:List Addr}{d:D}{v:V}(s:Sta G H1 ob ρ1 σ S1 (plus L Fr))(e:Eff ob H H1 S S1 L)(sm:Same H1 H2)(r:Rep G H2 (((wn ob S1 (plus L Fr)).drop L).add L3) d v L3)(f:∀a∈L3,a∈L∨H1 a=none)(s0:Sta G H ob ρ σ S Fr) :
  Sta G H2 ob ρ1 σ S1 (plus L3 Fr)/\Rep G H2 (wn ob S1 (plus L3 Fr)) d v L3/\Eff ob H H2 S S1 L3:=by
 refine⟨s.grow sm λa h=>?_,r.up ⟨Same.refl _,λb u hb q=>⟨λz=>?_,q.2⟩,λ_ _ _ q=>q⟩,e.same sm f⟩
 .rcases h with h|h
  .exact(f a h).imp .inl λz=>⟨z,r.dom a h⟩
  .exact .inl (.inr h)
 .rcases z with z|z
  .exact q.1 (.inl z)
  .refine q.1 (.inr ⟨.inr z,λh=>?_⟩)
   rcases e.fm b h with y|y
   .exact s0.notO z y
   .obtain⟨o,ho,_⟩:=s0.fdm b z
    rw[y]at ho;cases ho
end
section
variable{ι:Type}{X:ι->Cx}{G:Gc}{ob:Nat->Bool}{ta tb:TE}
def eUp(f:En->Option D):En->Option (D×En):=λρ=>(f ρ).map λd=>(d,ρ)
theorem yp{f:En->Option D}(h:RfE G ob ta f):j4 G ob ta (eUp f):=λρ d ρ' e σ H S Fr s Q q=>by
 unfold eUp at e;cases h1:f ρ with
 |none=>rw[h1]at e;cases e
 |some d0=>
  rw[h1]at e;cases e;refine h ρ d h1 σ H _ s.rel s.wok Q λv H' L sm r fr nd=>?_;exact q v H' L S (s.grow sm λa z=>z.elim (λz=>.inr ⟨fr a z,r.dom a z⟩) .inl) r nd ⟨λb u hb _=>sm b u hb,λ_ _=>rfl,λi a h z=>.inl ⟨i,h,z⟩,λa ha=>.inr (fr a ha)⟩
def yW(f:En->Option Bool):En->Option (Bool×En):=λρ=>(f ρ).map λd=>(d,ρ)
theorem Gm{t:TT}{f:En->Option Bool}(h:RfT G ob t f):zj G ob t (yW f):=λρ d ρ' e σ H S Fr s Q q=>by
 unfold yW at e;cases h1:f ρ with
 |none=>rw[h1]at e;cases e
 |some d0=>
  rw[h1]at e;cases e;refine h ρ d h1 σ H _ s.rel s.wok Q λH' sm=>?_;exact q H' S (s.grow sm λa z=>.inl z) ⟨λb u hb _=>sm b u hb,λ_ _=>rfl,λi a h z=>.inl ⟨i,h,z⟩,by simp⟩
def cB(f:En->Option (List D)):En->Option (List D×En):=λρ=>(f ρ).map λd=>(d,ρ)
theorem O4{t:TA}{f:En->Option (List D)}(h:RfA G ob t f):yd G ob t (cB f):=λρ d ρ' e σ H S Fr s Q q=>by
 unfold cB at e;cases h1:f ρ with
 |none=>rw[h1]at e;cases e
 |some d0=>
  rw[h1]at e;cases e;refine h ρ d h1 σ H _ s.rel s.wok Q λv H' L sm r fr nd=>?_;exact q v H' L S (s.grow sm λa z=>z.elim (λz=>.inr ⟨fr a z,r.dom a z⟩) .inl) r nd ⟨λb u hb _=>sm b u hb,λ_ _=>rfl,λi a h z=>.inl ⟨i,h,z⟩,λa ha=>.inr (fr a ha)⟩
theorem bT{e:Expr}{f:En->Option D}(h:PV X G ob e f):PVe X G ob e (eUp f):=let⟨t,a1,a2⟩:=h.ex;⟨t,a1,yp a2⟩
theorem Bs{e:Expr}{f:En->Option Bool}(h:PVT X G ob e f):DY X G ob e (yW f):=let⟨t,a1,a2⟩:=h.ex;⟨t,a1,Gm a2⟩
theorem aO{e:List Expr}{f:En->Option (List D)}(h:PVA X G ob e f):tE X G ob e (cB f):=let⟨t,a1,a2⟩:=h.ex;⟨t,a1,O4 a2⟩
theorem j4.two{fa fb:En->Option (D×En)}(ha:j4 G ob ta fa)(hb:j4 G ob tb fb){ρ ρ1 ρ2:En}{dx dy:D}(e1:fa ρ=some (dx,ρ1))(e2:fb ρ1=some (dy,ρ2))(hx:aC dx=true){σ:L2.St}{H:Hp}{S:Ad}{Fr:Addr->Prop}(s:Sta G H ob ρ σ S Fr){R:V->V->Hp->Prop}
  (h:∀x y H' L M S',Sta G H' ob ρ2 σ S' (plus (L++M) Fr)->Rep G H' (wn ob S' (plus (L++M) Fr)) dx x L->Rep G H' (wn ob S' (plus (L++M) Fr)) dy y M->(L++M).Nodup->Eff ob H H' S S' (L++M)->R x y H'):ta σ H λx H1=>tb σ H1 λy H2=>R x y H2:=by
 refine ha ρ dx ρ1 e1 σ H S Fr s _ λx H1 L S1 s1 rx nx f1=>?_;refine hb ρ1 dy ρ2 e2 σ H1 S1 (plus L Fr) s1 _ λy H2 M S2 s2 ry ny f2=>?_;have rx2:=rx.mono (f2.evo s1) (.inr (f2.evoN s1)) (.inl hx) λc hc u hu=>f2.keepsF s1 (.inl hc) u hu;rw[mz]at s2 ry rx2;refine h x y H2 L M S2 s2 rx2 ry (dY nx ny λa h1 h2=>?_) (f1.trans f2);rcases f2.fm a h2 with z|z
 .exact s1.notO (.inl h1) z
 .obtain⟨o,ho,_⟩:=rx.dom a h1
  rw[z]at ho;cases ho
def ee2(g:D->D->Option D)(fa fb:En->Option (D×En)):En->Option (D×En):=λρ=>(fa ρ).bind λp=>(fb p.2).bind λq=>if aC p.1 then(g p.1 q.1).map λd=>(d,q.2)else none
theorem ww{r:R2}{g:D->D->Option D}{fa fb:En->Option (D×En)}(ho:OpV G r g)(ha:j4 G ob ta fa)(hb:j4 G ob tb fb):j4 G ob (tOp r ta tb) (ee2 g fa fb):=λρ d ρ' e σ H S Fr s Q q=>by
 unfold ee2 at e;cases h1:fa ρ with
 |none=>simp[h1]at e
 |some p=>
  obtain⟨dx,ρ1⟩:=p;cases h2:fb ρ1 with
  |none=>simp[h1,h2]at e
  |some p=>
   obtain⟨dy,ρ2⟩:=p;cases hx:aC dx with
   |false=>simp[h1,h2,hx]at e
   |true=>
    cases h3:g dx dy with
    |none=>simp[h1,h2,hx,h3]at e
    |some d'=>
     obtain⟨rfl,rfl⟩:d'=d/\ρ2=ρ':=by simpa[h1,h2,hx,h3]using e
     refine j4.two ha hb h1 h2 hx s λx y H' L M S' s' rx ry nd ef=>?_;refine ho dx dy _ h3 x y H' _ L M rx ry nd (λa ha=>s'.tmp (.inl ha)) s'.wok Q λv H3 L3 s3 r3 f3 n3=>?_;obtain⟨q1,q2,q3⟩:=Ir s' ef s3 r3 f3 s;exact q v H3 L3 S' q1 q2 n3 q3
def ee1(g:D->Option D)(fa:En->Option (D×En)):En->Option (D×En):=λρ=>(fa ρ).bind λp=>(g p.1).map λd=>(d,p.2)
def cF(fa:En->Option (D×En))(fr:En->Option (List D×En)):En->Option (List D×En):=λρ=>(fa ρ).bind λp=>(fr p.2).bind λq=>if aC p.1 then some (p.1::q.1,q.2)else none
theorem EY{t:TA}{fa:En->Option (D×En)}{fr:En->Option (List D×En)}(ha:j4 G ob ta fa)(hr:yd G ob t fr):yd G ob (HW ta t) (cF fa fr):=λρ ds ρ' e σ H S Fr s Q q=>by
 unfold cF at e;cases h1:fa ρ with
 |none=>simp[h1]at e
 |some p=>
  obtain⟨dx,ρ1⟩:=p;cases h2:fr ρ1 with
  |none=>simp[h1,h2]at e
  |some p=>
   obtain⟨es,ρ2⟩:=p;cases hx:aC dx with
   |false=>simp[h1,h2,hx]at e
   |true=>
    obtain⟨rfl,rfl⟩:dx::es=ds/\ρ2=ρ':=by simpa[h1,h2,hx]using e
    refine ha ρ dx ρ1 h1 σ H S Fr s _ λx H1 L S1 s1 rx nx f1=>?_;refine hr ρ1 es _ h2 σ H1 S1 (plus L Fr) s1 _ λys H2 M S2 s2 ry ny f2=>?_;have rx2:=rx.mono (f2.evo s1) (.inr (f2.evoN s1)) (.inl hx) λc hc u hu=>f2.keepsF s1 (.inl hc) u hu;rw[mz]at s2 ry rx2;refine q (x::ys) H2 (L++M) S2 s2 (.cons rx2 ry) (dY nx ny λa h1 h2=>?_) (f1.trans f2);rcases f2.fm a h2 with z|z
    .exact s1.notO (.inl h1) z
    .obtain⟨o,ho,_⟩:=rx.dom a h1
     rw[z]at ho;cases ho
def mW(g:List D->Option D)(f:En->Option (List D×En)):En->Option (D×En):=λρ=>(f ρ).bind λp=>(g p.1).map λd=>(d,p.2)
theorem xJ{r:List V->Hp->VK->Prop}{g:List D->Option D}{t:TA}{f:En->Option (List D×En)}(ho:CaV G r g)(h:yd G ob t f):j4 G ob (λσ H Q=>t σ H λvs H1=>r vs H1 Q) (mW g f):=λρ d ρ' e σ H S Fr s Q q=>by
 unfold mW at e;cases h1:f ρ with
 |none=>simp[h1]at e
 |some p=>
  obtain⟨ds,ρ1⟩:=p;cases h3:g ds with
  |none=>simp[h1,h3]at e
  |some d'=>
   obtain⟨rfl,rfl⟩:d'=d/\ρ1=ρ':=by simpa[h1,h3]using e
   refine h ρ ds _ h1 σ H S Fr s _ λxs H' L S' s' rx nd ef=>?_;refine ho ds _ h3 xs H' _ L rx nd (λa ha=>s'.tmp (.inl ha)) s'.wok Q λv H3 L3 s3 r3 f3 n3=>?_;obtain⟨q1,q2,q3⟩:=Ir s' ef s3 r3 f3 s;exact q v H3 L3 S' q1 q2 n3 q3
variable{a b:Expr}{fa fb:En->Option (D×En)}{pos:Pos}
theorem jH{op:Operator}{g:D->D->Option D}(o:OpB X G (binaryOp op) g)(ha:PVe X G ob a fa)(hb:PVe X G ob b fb):PVe X G ob (.BinOp a op b pos) (ee2 g fa fb):=let⟨r,o1,o2⟩:=o.ex;let⟨t,a1,a2⟩:=ha.ex;let⟨u,b1,b2⟩:=hb.ex;⟨_,λc=>Ld (o1 c) (a1 c) (b1 c),ww o2 a2 b2⟩
theorem pve_cmp{op:CmpOp}{g:D->D->Option D}(o:OpB X G (compareOp op) g)(ha:PVe X G ob a fa)(hb:PVe X G ob b fb)(hm:behindInMarks op b=false:=by with_unfolding_all rfl):PVe X G ob (.Compare a [op] [b] pos) (ee2 g fa fb):=let⟨r,o1,o2⟩:=o.ex;let⟨t,a1,a2⟩:=ha.ex;let⟨u,b1,b2⟩:=hb.ex;⟨_,λc=>Bp (o1 c) (a1 c) (b1 c) hm,ww o2 a2 b2⟩
theorem gQ{g:D->D->Option D}(o:IxB X G g)(ha:PVe X G ob a fa)(hb:PVe X G ob b fb)(hs:wF b:=by exact λ_ _=>rfl):PVe X G ob (.Subscript a b pos) (ee2 g fa fb):=let⟨r,o1,o2⟩:=o.ex;let⟨t,a1,a2⟩:=ha.ex;let⟨u,b1,b2⟩:=hb.ex;⟨_,λc=>L_ (o1 c) (a1 c) (b1 c) hs,ww o2 a2 b2⟩
theorem bz{e:Expr}{es:List Expr}{f:En->Option (D×En)}{fr:En->Option (List D×En)}(ha:PVe X G ob e f)(hr:tE X G ob es fr)(hs:∀c,starEach (e::es) (X c).env=(false,eval e (X c).env)::starEach es (X c).env:=by intro _;rfl):tE X G ob (e::es) (cF f fr):=let⟨t,a1,a2⟩:=ha.ex;let⟨u,b1,b2⟩:=hr.ex;⟨_,λc=>wA (a1 c) (b1 c) (hs c),EY a2 b2⟩
section
variable{e:Expr}{es:List Expr}{f:En->Option (List D×En)}{p:Pos}{x:Str}
theorem Dq{id:String}{g:List D->Option D}(o:CaB X G (.builtin id) g)(hg:∀c,Gl (X c) x)(hm:∀c,(X c).mg x=none)(hv:bootBuiltins x=some (.builtin id))(ha:tE X G ob (e::es) f)(hn:x≠"__name__":=by decide)(hdb:(x==("__debug__":Str))=false:=by decide)(he:∀c,starEach (e::es) (X c).env=(false,eval e (X c).env)::starEach es (X c).env:=by intro _;rfl)(hpl:∀c,(backTo pos (starEach es (X c).env)).any (·.1)=false:=by intro _;rfl):PVe X G ob (.Call (.Name x p) (e::es) [] pos) (mW g f):=let⟨r,o1,o2⟩:=o.ex;let⟨t,a1,a2⟩:=ha.ex;⟨_,λc=>zK (o1 c) (hg c) (hm c) hv (a1 c) hn hdb (he c) (hpl c),xJ o2 a2⟩
theorem Bd{T:String}{g:List D->Option D}(o:CaB X G (.type T) g)(hg:∀c,Gl (X c) x)(hm:∀c,(X c).mg x=none)(hv:bootBuiltins x=some (.type T))(ha:tE X G ob (e::es) f)(hn:x≠"__name__":=by decide)(hdb:(x==("__debug__":Str))=false:=by decide)(he:∀c,starEach (e::es) (X c).env=(false,eval e (X c).env)::starEach es (X c).env:=by intro _;rfl)(hpl:∀c,(backTo pos (starEach es (X c).env)).any (·.1)=false:=by intro _;rfl):PVe X G ob (.Call (.Name x p) (e::es) [] pos) (mW g f):=let⟨r,o1,o2⟩:=o.ex;let⟨t,a1,a2⟩:=ha.ex;⟨_,λc=>vK (o1 c) (hg c) (hm c) hv (a1 c) hn hdb (he c) (hpl c),xJ o2 a2⟩
end
theorem Ce{es:List Expr}{k:Nat}{f:En->Option (List D×En)}(h:tE X G ob es f):PVe X G ob (.Tuple es k pos) (mW bU f):=let⟨t,a1,a2⟩:=h.ex;⟨_,λc=>FP (a1 c),xJ Cv a2⟩
theorem xH{es:List Expr}{f:En->Option (List D×En)}(h:tE X G ob es f):PVe X G ob (.List es pos) (mW a_ f):=let⟨t,a1,a2⟩:=h.ex;⟨_,λc=>Fx (a1 c),xJ BZ a2⟩
end
def truth:D->Option Bool
 |.non=>some false
 |.bl b=>some b
 |.int i=>some (i !=0)
 |.str y=>if y.length<=sizeLine then some ((y.length:Int)!=0)else none
 |.lst _ ds=>some (!ds.isEmpty)
 |.tup ds=>some (!ds.isEmpty)
 |.dct m _ ds=>if m= .scr then none else some (!ds.isEmpty)
 |_=>none
theorem pM{G:Gc}{H:Hp}{W:Wn}{ds:List D}{xs:List V}{L:List Addr}(r:aF G H W ds xs L):ds.isEmpty=xs.isEmpty:=by
 have:=r.length;cases ds<;>cases xs<;>simp_all
theorem GZ{G:Gc}{H:Hp}{W:Wn}{d:D}{v:V}{L:List Addr}{k:Bool}(r:Rep G H W d v L)(h:truth d=some k):J9 G.K v H k:=by
 cases d with
 |non=>rw[Rep]at r;obtain⟨rfl,_⟩:=r;cases h;rfl
 |bl b=>rw[Rep]at r;obtain⟨rfl,_⟩:=r;cases h;rfl
 |int i=>rw[Rep]at r;obtain⟨rfl,_⟩:=r;cases h;rfl
 |str y=>
  rw[Rep]at r;obtain⟨rfl,_⟩:=r;simp only[truth]at h;split at h
  .cases h;exact⟨‹_›,rfl⟩
  .cases h
 |ty n=>cases h
 |tup ds=>
  rw[Rep]at r;obtain⟨a,xs,rfl,ht,hr⟩:=r;cases h;exact .inr (.inl ⟨xs,SqT.of ht,by rw[pM hr]⟩)
 |lst m ds=>
  rw[Rep]at r;obtain⟨a,xs,M,rfl,hr,hs⟩:=r;cases h;exact .inl ⟨xs,hs.sq,by rw[pM hr]⟩
 |dct m ks ds=>
  rw[Rep]at r;obtain⟨a,kvs,M,rfl,hk,hr,hs⟩:=r;simp only[truth]at h;split at h
  .cases h
  .cases h
   refine .inr (.inr ⟨kvs,hs.at ‹_›,?_⟩);rw[pM hr];cases kvs<;>rfl
 |ins m c fs ds=>cases h
section
variable{ι:Type}{X:ι->Cx}{G:Gc}{ob:Nat->Bool}{a b:Expr}{pos:Pos}
def lD(f:En->Option D):En->Option Bool:=λρ=>(f ρ).bind truth
def PX(f:En->Option (D×En)):En->Option (Bool×En):=λρ=>(f ρ).bind λp=>(truth p.1).map λb=>(b,p.2)
theorem Om{ta:TE}{f:En->Option D}(h:RfE G ob ta f):RfT G ob (λσ H Q=>ta σ H λx H'=>∃k,J9 G.K x H' k/\Q k H') (lD f):=λρ k e σ H W rl w Q q=>by
 unfold lD at e;cases h1:f ρ with
 |none=>simp[h1]at e
 |some d=>
  have e:truth d=some k:=by simpa[h1]using e
  exact h ρ d h1 σ H W rl w _ λx H' L s r fr nd=>⟨k,GZ r e,q H' s⟩
theorem j7{f:En->Option D}(h:PV X G ob a f)(he:∀c,∀whole,isTrue a (X c).env whole=(do let v ←whole;standAt a.pos;holding [v] (truthy v)):=by intro _;intro _;rfl)(hK:∀c,(X c).K=G.K:=by intro _;rfl):PVT X G ob a (lD f):=let⟨t,a1,a2⟩:=h.ex;⟨_,λc=>(by have h:=Gd (a1 c) (he c);rw[hK c]at h;exact h),Om a2⟩
def isB:D->Option Bool
 |.bl b=>some b
 |_=>none
def eB(f:En->Option D):En->Option Bool:=λρ=>(f ρ).bind isB
def eeB(f:En->Option (D×En)):En->Option (Bool×En):=λρ=>(f ρ).bind λp=>(isB p.1).map λb=>(b,p.2)
theorem oY{d:D}{k:Bool}(h:isB d=some k):d= .bl k:=by
 cases d<;>simp[isB]at h;rw[h]
theorem R_{ta:TE}{f:En->Option D}(h:RfE G ob ta f):RfT G ob (GK ta) (eB f):=λρ k e σ H W rl w Q q=>by
 unfold eB at e;cases h1:f ρ with
 |none=>simp[h1]at e
 |some d=>
  have e:isB d=some k:=by simpa[h1]using e
  have:=oY e;subst this;refine h ρ _ h1 σ H W rl w _ λx H' L s r fr nd=>⟨k,?_,q H' s⟩;rw[Rep]at r;exact r.1
theorem Q3{ta:TE}{f:En->Option (D×En)}(h:j4 G ob ta f):zj G ob (GK ta) (eeB f):=λρ k ρ' e σ H S Fr s Q q=>by
 unfold eeB at e;cases h1:f ρ with
 |none=>simp[h1]at e
 |some p=>
  obtain⟨d,ρ1⟩:=p;cases h2:isB d with
  |none=>simp[h1,h2]at e
  |some k'=>
   obtain⟨rfl,rfl⟩:k'=k/\ρ1=ρ':=by simpa[h1,h2]using e
   have:=oY h2;subst this;refine h ρ _ _ h1 σ H S Fr s _ λx H' M S' s' r nd ef=>⟨k',?_,q H' S' (s'.lessF λa z=>.inr z) (ef.same (Same.refl _) (by simp))⟩;rw[Rep]at r;exact r.1
theorem bA{fa fb:En->Option D}{op:CmpOp}{g:D->D->Option D}(o:OpB X G (compareOp op) g)(ha:PV X G ob a fa)(hb:PV X G ob b fb)(hm:behindInMarks op b=false:=by with_unfolding_all rfl):PVT X G ob (.Compare a [op] [b] pos) (eB (e2 g fa fb)):=let⟨r,o1,o2⟩:=o.ex;let⟨t,a1,a2⟩:=ha.ex;let⟨u,b1,b2⟩:=hb.ex;⟨_,λc=>CG (o1 c) (a1 c) (b1 c) hm,R_ (Dd o2 a2 b2)⟩
theorem yH{fa fb:En->Option (D×En)}{op:CmpOp}{g:D->D->Option D}(o:OpB X G (compareOp op) g)(ha:PVe X G ob a fa)(hb:PVe X G ob b fb)(hm:behindInMarks op b=false:=by with_unfolding_all rfl):DY X G ob (.Compare a [op] [b] pos) (eeB (ee2 g fa fb)):=let⟨r,o1,o2⟩:=o.ex;let⟨t,a1,a2⟩:=ha.ex;let⟨u,b1,b2⟩:=hb.ex;⟨_,λc=>CG (o1 c) (a1 c) (b1 c) hm,Q3 (ww o2 a2 b2)⟩
def rF(f g:En->Option Bool):En->Option Bool:=λρ=>(f ρ).bind λc=>if c then g ρ else some false
def eOr(f g:En->Option Bool):En->Option Bool:=λρ=>(f ρ).bind λc=>if c then some true else g ρ
def lZ(f:En->Option Bool):En->Option Bool:=λρ=>(f ρ).map λc=>!c
def vW(f g:En->Option (Bool×En)):En->Option (Bool×En):=λρ=>(f ρ).bind λp=>if p.1 then g p.2 else some (false,p.2)
def RW(f g:En->Option (Bool×En)):En->Option (Bool×En):=λρ=>(f ρ).bind λp=>if p.1 then some (true,p.2)else g p.2
def QR(f:En->Option (Bool×En)):En->Option (Bool×En):=λρ=>(f ρ).map λp=>(!p.1,p.2)
theorem Oo{t u:TT}{f g:En->Option Bool}(h:RfT G ob t f)(h':RfT G ob u g):RfT G ob (Nz t u) (rF f g):=λρ k e σ H W rl w Q q=>by
 unfold rF at e;cases h1:f ρ with
 |none=>simp[h1]at e
 |some c=>
  refine h ρ c h1 σ H W rl w _ λH1 s1=>?_;cases c with
  |false=>
   have:false=k:=by simpa[h1]using e
   subst this;exact zF (q H1 s1)
  |true=>
   have e:g ρ=some k:=by simpa[h1]using e
   exact ur (h' ρ k e σ H1 W (rl.up (Up.same s1)) (λa ha=>let⟨o,z,m⟩:=w a ha;⟨o,s1 a o z,m⟩) Q λH2 s2=>q H2 (s1.trans s2))
theorem QL{t u:TT}{f g:En->Option Bool}(h:RfT G ob t f)(h':RfT G ob u g):RfT G ob (tOr t u) (eOr f g):=λρ k e σ H W rl w Q q=>by
 unfold eOr at e;cases h1:f ρ with
 |none=>simp[h1]at e
 |some c=>
  refine h ρ c h1 σ H W rl w _ λH1 s1=>?_;cases c with
  |true=>
   have:true=k:=by simpa[h1]using e
   subst this;exact ur (q H1 s1)
  |false=>
   have e:g ρ=some k:=by simpa[h1]using e
   exact zF (h' ρ k e σ H1 W (rl.up (Up.same s1)) (λa ha=>let⟨o,z,m⟩:=w a ha;⟨o,s1 a o z,m⟩) Q λH2 s2=>q H2 (s1.trans s2))
theorem Nf{t:TT}{f:En->Option Bool}(h:RfT G ob t f):RfT G ob (Q7 t) (lZ f):=λρ k e σ H W rl w Q q=>by
 unfold lZ at e;cases h1:f ρ with
 |none=>simp[h1]at e
 |some c=>
  have:(!c)=k:=by simpa[h1]using e
  subst this;exact h ρ c h1 σ H W rl w _ λH1 s1=>q H1 s1
theorem JS{t u:TT}{f g:En->Option (Bool×En)}(h:zj G ob t f)(h':zj G ob u g):zj G ob (Nz t u) (vW f g):=λρ k ρ' e σ H S Fr s Q q=>by
 unfold vW at e;cases h1:f ρ with
 |none=>simp[h1]at e
 |some p=>
  obtain⟨c,ρ1⟩:=p;refine h ρ c ρ1 h1 σ H S Fr s _ λH1 S1 s1 f1=>?_;cases c with
  |false=>
   obtain⟨rfl,rfl⟩:false=k/\ρ1=ρ':=by simpa[h1]using e
   exact zF (q H1 S1 s1 f1)
  |true=>
   have e:g ρ1=some (k,ρ'):=by simpa[h1]using e
   exact ur (h' ρ1 k ρ' e σ H1 S1 Fr s1 Q λH2 S2 s2 f2=>q H2 S2 s2 (f1.trans f2))
variable{rest:List Expr}{fa fb:En->Option Bool}{ga gb:En->Option (Bool×En)}
theorem o9(ha:PVT X G ob a fa)(hb:PVW X G ob (.BoolOp .And (b::rest) pos) fb):PVW X G ob (.BoolOp .And (a::b::rest) pos) (rF fa fb):=let⟨t,a1,a2⟩:=ha.ex;let⟨u,b1,b2⟩:=hb.ex;⟨_,λc=>Fo (a1 c) (b1 c),Oo a2 b2⟩
theorem t7(ha:PVT X G ob a fa)(hb:PVW X G ob (.BoolOp .Or (b::rest) pos) fb):PVW X G ob (.BoolOp .Or (a::b::rest) pos) (eOr fa fb):=let⟨t,a1,a2⟩:=ha.ex;let⟨u,b1,b2⟩:=hb.ex;⟨_,λc=>Rz (a1 c) (b1 c),QL a2 b2⟩
theorem lF(ha:PVT X G ob a fa):PVW X G ob (.BoolOp .And [a] pos) fa:=let⟨t,a1,a2⟩:=ha.ex;⟨_,λc=>Cw (a1 c),a2⟩
theorem v9(ha:PVT X G ob a fa):PVW X G ob (.BoolOp .Or [a] pos) fa:=let⟨t,a1,a2⟩:=ha.ex;⟨_,λc=>Ob (a1 c),a2⟩
theorem qX(h:PVW X G ob a fa):PVT X G ob a fa:=let⟨t,a1,a2⟩:=h.ex;⟨_,λc=>PW.pt (a1 c),a2⟩
theorem kE(ha:PVT X G ob a fa):PVT X G ob (.UnaryOp .Not a pos) (lZ fa):=let⟨t,a1,a2⟩:=ha.ex;⟨_,λc=>O5 (a1 c),Nf a2⟩
theorem yf(ha:DY X G ob a ga)(hb:Kz X G ob (.BoolOp .And (b::rest) pos) gb):Kz X G ob (.BoolOp .And (a::b::rest) pos) (vW ga gb):=let⟨t,a1,a2⟩:=ha.ex;let⟨u,b1,b2⟩:=hb.ex;⟨_,λc=>Fo (a1 c) (b1 c),JS a2 b2⟩
theorem vQ(ha:DY X G ob a ga):Kz X G ob (.BoolOp .And [a] pos) ga:=let⟨t,a1,a2⟩:=ha.ex;⟨_,λc=>Cw (a1 c),a2⟩
theorem Iz(h:Kz X G ob a ga):DY X G ob a ga:=let⟨t,a1,a2⟩:=h.ex;⟨_,λc=>PW.pt (a1 c),a2⟩
def tZ(f g:En->Option D):En->Option D:=λρ=>(f ρ).bind λx=>(isB x).bind λc=>if c then g ρ else some (.bl false)
def vOr(f g:En->Option D):En->Option D:=λρ=>(f ρ).bind λx=>(isB x).bind λc=>if c then some (.bl true)else g ρ
def Am(x:D):Option D:=(isB x).map λc=>.bl !c
def RN(c:En->Option Bool)(f g:En->Option D):En->Option D:=λρ=>(c ρ).bind λb=>if b then f ρ else g ρ
def P_(c:En->Option (Bool×En))(f g:En->Option (D×En)):En->Option (D×En):=λρ=>(c ρ).bind λp=>if p.1 then f p.2 else g p.2
theorem WOk.up{H H':Hp}{W:Wn}(w:WOk H W)(s:Same H H'):WOk H' W:=λa ha=>let⟨o,z,m⟩:=w a ha;⟨o,s a o z,m⟩
theorem Jc{G:Gc}{H:Hp}{W:Wn}{b:Bool}:Rep G H W (.bl b) (.bl b) []:=by rw[Rep];exact⟨rfl,rfl⟩
theorem JD{ta tb:TE}{f g:En->Option D}(h:RfE G ob ta f)(h':RfE G ob tb g):RfE G ob (Lz ta tb) (tZ f g):=λρ d e σ H W rl w Q q=>by
 unfold tZ at e;cases h1:f ρ with
 |none=>simp[h1]at e
 |some x=>
  cases h2:isB x with
  |none=>simp[h1,h2]at e
  |some c=>
   have:=oY h2;subst this;refine h ρ _ h1 σ H W rl w _ λv H1 L s1 r fr nd=>?_;rw[Rep]at r;refine⟨c,r.1,?_⟩;cases c with
   |false=>
    have:D.bl false=d:=by simpa[h1,isB]using e
    subst this;exact zF (q _ H1 [] s1 Jc (by simp) List.nodup_nil)
   |true=>
    have e:g ρ=some d:=by simpa[h1,isB]using e
    exact ur (h' ρ d e σ H1 W (rl.up (Up.same s1)) (w.up s1) Q λv H2 L s2 r fr nd=>q v H2 L (s1.trans s2) r (λa ha=>s1.none' (fr a ha)) nd)
theorem J0{ta:TE}{f:En->Option D}(h:RfE G ob ta f):RfE G ob (Lh ta) (e1 Am f):=λρ d e σ H W rl w Q q=>by
 unfold e1 at e;cases h1:f ρ with
 |none=>simp[h1]at e
 |some x=>
  cases h2:isB x with
  |none=>simp[h1,h2,Am]at e
  |some c=>
   have:=oY h2;subst this;have:D.bl (!c)=d:=by simpa[h1,Am,isB]using e
   subst this;refine h ρ _ h1 σ H W rl w _ λv H1 L s1 r fr nd=>?_;rw[Rep]at r;exact⟨c,r.1,q _ H1 [] s1 Jc (by simp) List.nodup_nil⟩
section
variable{c:Expr}{fa fb:En->Option D}{fc:En->Option Bool}
theorem nM(ha:PV X G ob a fa)(hb:PV X G ob (.BoolOp .And (b::rest) pos) fb):PV X G ob (.BoolOp .And (a::b::rest) pos) (tZ fa fb):=let⟨t,a1,a2⟩:=ha.ex;let⟨u,b1,b2⟩:=hb.ex;⟨_,λc=>Og (a1 c) (b1 c),JD a2 b2⟩
theorem t6{op}(ha:PV X G ob a fa):PV X G ob (.BoolOp op [a] pos) fa:=let⟨t,a1,a2⟩:=ha.ex;⟨_,λc=>Ni (a1 c),a2⟩
theorem Hi(ha:PV X G ob a fa):PV X G ob (.UnaryOp .Not a pos) (e1 Am fa):=let⟨t,a1,a2⟩:=ha.ex;⟨_,λc=>Oi (a1 c),J0 a2⟩
end
end
section
variable{G:Gc}{ob P:Nat->Bool}{H H1 H2:Hp}{S S1 S2:Ad}{L M:List Addr}{ρ ρ1:En}{σ:L2.St}{Fr:Addr->Prop}
def gW(S:Ad)(i:Nat)(M:List Addr):Ad:=λj=>if j=i then M else S j
theorem dw{i:Nat}:gW S i M i=M:=if_pos rfl
theorem dH{i j:Nat}(h:j≠i):gW S i M j=S j:=if_neg h
theorem cT{i j:Nat}{a:Addr}(h:a∈gW S i M j):(j=i/\a∈M)∨(j≠i/\a∈S j):=by
 by_cases e:j=i
 .rw[e,dw]at h;exact .inl ⟨e,h⟩
 .rw[dH e]at h;exact .inr ⟨e,h⟩
theorem Mv.refl:Mv P H H σ σ S S M:=⟨λ_ _ h _ _=>h,λi a z=>.inl ⟨i,z⟩,.refl⟩
theorem Sta.store{i:Nat}{d:D}{v:V}(s:Sta G H ob ρ σ S (plus M Fr))(r:Rep G H (wn ob S (plus M Fr)) d v M)(hc:clean d=true)(nd:M.Nodup)(hF:∀a∈M,¬Fr a) :
  ∃S',Sta G H ob (ρ.set i (some d)) (σ.set i (some v)) S' Fr/\∀j a,a∈S' j->inS S a∨a∈M:=by
 by_cases hi:i<ρ.length
 .refine⟨gW S i M,⟨by simp[s.len],λj e he=>?_,λj hj=>?_,λj=>?_,λj k a h1 h2=>?_,λj a h1 h2=>?_,λa h=>s.fdm a (.inr h)⟩,λj a h=>?_⟩
  .have ev:Evo H H (wn ob S (plus M Fr)) (wn ob (gW S i M) Fr):=⟨λb u h f=>⟨h,⟨λz=>f.1 (.inr z),λ⟨k,h1,h2⟩=>?_,λ⟨k,h1,h2⟩=>?_⟩⟩,λ_ _ h=>h⟩
   .by_cases e:j=i
    .subst e
     have:d=e:=by simpa[hi]using he
     have:d=e:=this;subst this;have hl:j<σ.length:=by rw[←s.len];exact hi
     refine⟨v,by simp[hl],?_,hc⟩;rw[dw];have hcc:aG d=true/\aC d=true:=by simpa[clean]using hc
     exact r.mono ev (.inl hcc.1) (.inl hcc.2) λ_ _ _ h=>h
    .rw[List.getElem?_set_ne (Ne.symm e)]at he
     obtain⟨v',h1,h2,h3⟩:=s.sl j _ he;refine⟨v',by rw[List.getElem?_set_ne (Ne.symm e)];exact h1,?_,h3⟩;rw[dH e];have hcc:=(by simpa[clean]using h3:aG _=true/\aC _=true);exact h2.mono ev (.inl hcc.1) (.inl hcc.2) λ_ _ _ h=>h
   .rcases cT h2 with⟨_,z⟩|⟨_,z⟩
    .exact f.1 (.inl z)
    .exact f.2.1 ⟨k,h1,z⟩
   .rcases cT h2 with⟨_,z⟩|⟨_,z⟩
    .exact f.1 (.inl z)
    .exact f.2.2 ⟨k,h1,z⟩
  .by_cases e:j=i
   .subst e
    exact absurd (by simp[hi]) (hj d)
   .rw[dH e]
    exact s.em j λd'=>by have:=hj d';rwa[List.getElem?_set_ne (Ne.symm e)]at this
  .by_cases e:j=i
   .rw[e,dw];exact nd
   .rw[dH e];exact s.nd j
  .rcases cT h1 with⟨e1,z1⟩|⟨e1,z1⟩<;>rcases cT h2 with⟨e2,z2⟩|⟨e2,z2⟩
   .rw[e1,e2]
   .exact absurd z2 (s.fdj k a (.inl z1))
   .exact absurd z1 (s.fdj j a (.inl z2))
   .exact s.dj j k a z1 z2
  .rcases cT h2 with⟨_,z⟩|⟨_,z⟩
   .exact hF a z h1
   .exact s.fdj j a (.inr h1) z
  .rcases cT h with⟨_,z⟩|⟨_,z⟩
   .exact .inr z
   .exact .inl ⟨j,z⟩
 .have h1:ρ.set i (some d)=ρ:=List.set_eq_of_length_le (by omega)
  have h2:σ.set i (some v)=σ:=List.set_eq_of_length_le (by rw[←s.len];omega);rw[h1,h2];exact⟨S,s.lessF λa z=>.inr z,λj a h=>.inl ⟨j,h⟩⟩
end
section
variable{ι:Type}{X:ι->Cx}{G:Gc}{ob P:Nat->Bool}
def iQ:En->Option Fl:=λρ=>some (.nx ρ)
def bh(f g:En->Option Fl):En->Option Fl:=λρ=>match f ρ with
 |some (.nx ρ')=>g ρ'
 |r=>r
theorem Aft.from{G:Gc}{H H1:Hp}{σ σ1:L2.St}{S S1:Ad}{Fr:Addr->Prop}{E:Ends}(m:Mv P H H1 σ σ1 S S1 []):∀{r:Fl},Aft G ob P H σ S Fr E r->Aft G ob P H1 σ1 S1 Fr E r
 |.nx ρ',h=>λσ' H' S' s m'=>h σ' H' S' s (m.trans m')
 |.brk ρ',h=>λσ' H' S' s m'=>h σ' H' S' s (m.trans m')
 |.cnt ρ',h=>λσ' H' S' s m'=>h σ' H' S' s (m.trans m')
 |.ret d ρ',h=>λv σ' H' M S' s r c n f m'=>h v σ' H' M S' s r c n (λa ha=>by
  rcases f a ha with⟨i,z⟩|z
  .exact(m.gr i a z).elim .inl λz=>z.elim (λz=>by cases z) .inr
  .by_cases q:inS S a
   .exact .inl q
   .refine .inr ?_
    cases e:H a with
    |none=>rfl
    |some u=>rw[m.kp a u e q (by simp)]at z;cases z) (m.trans m')
theorem Ka:RfS G ob P Lf iQ:=λρ r e σ H S Fr s E h=>by
 cases e;exact h σ H S s .refl
theorem J8{t u:TS}{f g:En->Option Fl}(h1:RfS G ob P t f)(h2:RfS G ob P u g):RfS G ob P (Rr t u) (bh f g):=λρ r e σ H S Fr s E h=>by
 unfold bh at e;cases h3:f ρ with
 |none=>rw[h3]at e;cases e
 |some fl=>
  rw[h3]at e;refine h1 ρ fl h3 σ H S Fr s _ ?_;cases fl with
  |nx ρ'=>exact λσ' H' S' s' m=>h2 ρ' r e σ' H' S' Fr s' E (h.from m)
  |brk ρ'=>cases e;exact h
  |cnt ρ'=>cases e;exact h
  |ret d ρ'=>cases e;exact h
theorem cD:rN X G ob P [] iQ:=⟨_,λc=>Jq,Ka⟩
theorem aB{st:Stmt}{rest:List Stmt}{f g:En->Option Fl}(h1:PVS X G ob P st f)(h2:rN X G ob P rest g):rN X G ob P (st::rest) (bh f g):=let⟨t,a1,a2⟩:=h1.ex;let⟨u,b1,b2⟩:=h2.ex;⟨_,λc=>G_ (a1 c) (b1 c),J8 a2 b2⟩
theorem aL{st:Stmt}{f:En->Option Fl}(h1:PVS X G ob P st f):rN X G ob P [st] f:=let⟨t,a1,a2⟩:=h1.ex;⟨_,λc=>KZ (a1 c),a2⟩
def RZ:En->Option Fl:=λρ=>some (.brk ρ)
def RL:En->Option Fl:=λρ=>some (.cnt ρ)
def tgN(i:Nat):D->En->Option En:=λd ρ=>if clean d then some (ρ.set i (some d))else none
theorem jL{i:Nat}(hP:P i=false):RfG G ob P (vI i) (tgN i):=λd ρ ρ' e v σ H S M Fr s r nd hF Q q=>by
 unfold tgN at e;split at e
 .rename_i hc
  cases e;obtain⟨S',s',h⟩:=s.store r hc nd hF (i:=i);refine q _ H S' s' ⟨λb u h _ _=>h,λj a z=>(h j a z).imp id .inl,λj hj=>?_⟩;have:j≠i:=λz=>by rw[z,hP]at hj;cases hj
  rw[List.getElem?_set_ne (Ne.symm this)]
 .cases e
def eO:List D->En->Option En:=λds ρ=>match ds with
 |[]=>some ρ
 |_=>none
def aQ(f:D->En->Option En)(g:List D->En->Option En):List D->En->Option En:=λds ρ=>match ds with
 |d::r=>(f d ρ).bind λρ1=>g r ρ1
 |[]=>none
def tgT(n:Nat)(g:List D->En->Option En):D->En->Option En:=λd ρ=>match d with
 |.tup ds=>if ds.length=n/\aH ds=true/\aD ds=true then g ds ρ else none
 |_=>none
theorem GP:Sd G ob P Jl eO:=λds ρ ρ' e vs σ H S M Fr s r nd hF Q q=>by
 cases ds with
 |nil=>
  cases e;obtain⟨rfl,rfl⟩:=r.inv0;exact⟨rfl,q σ H S (s.lessF λa z=>.inr z) .refl⟩
 |cons d r=>cases e
def Fb(G:Gc)(ob P:Nat->Bool)(g:TGs)(f:List D->En->Option En):Prop:=∀(ds:List D)(ρ ρ':En),aD ds=true->aH ds=true->f ds ρ=some ρ'->∀(vs:List V)(σ:L2.St)(H:Hp)(S:Ad)(M:List Addr)(Fr:Addr->Prop),Sta G H ob ρ σ S (plus M Fr)->aF G H (wn ob S (plus M Fr)) ds vs M->M.Nodup->(∀a∈M,¬Fr a)->
 ∀Q:L2.St->Hp->Prop,(∀σ' H' S',Sta G H' ob ρ' σ' S' Fr->Mv P H H' σ σ' S S' M->Q σ' H')->g vs σ H Q
theorem zG:Fb G ob P Jl eO:=λds ρ ρ' _ _ e=>GP ds ρ ρ' e
theorem pO{t:TG}{u:TGs}{f:D->En->Option En}{g:List D->En->Option En}(h1:RfG G ob P t f)(h2:Fb G ob P u g):Fb G ob P (Hu t u) (aQ f g):=λds ρ ρ' c1 c2 e vs σ H S M Fr s r nd hF Q q=>by
 cases ds with
 |nil=>cases e
 |cons d ds=>
  obtain⟨x,ys,M1,M2,rfl,rfl,hx,hr⟩:=r.inv;simp only[aD,aH,Bool.and_eq_true]at c1 c2;simp only[aQ]at e;cases h3:f d ρ with
  |none=>rw[h3]at e;cases e
  |some ρ1=>
   have e:g ds ρ1=some ρ':=by simpa[h3]using e
   have nd2:=List.nodup_append.mp nd;have hpl:plus (M1++M2) Fr=plus M1 (plus M2 Fr):=by
    funext a;simp only[plus,List.mem_append,or_assoc]
   rw[hpl]at s hx hr;refine⟨x,ys,rfl,h1 d ρ ρ1 h3 x σ H S M1 (plus M2 Fr) s hx nd2.1 (λa ha z=>?_) _ λσ1 H1 S1 s1 m1=>?_⟩
   .rcases z with z|z
    .exact nd2.2.2 a ha a z rfl
    .exact hF a (List.mem_append_left _ ha) z
   .have ev:Evo H H1 (wn ob S (plus M1 (plus M2 Fr))) (wn ob S1 (plus M2 Fr)):=⟨λb u hb f=>?_,λb xs h=>?_⟩
    .have hr1:aF G H1 (wn ob S1 (plus M2 Fr)) ds ys M2:=hr.mono ev (.inl c1.2) (.inl c2.2) λc hc u hu=>m1.kp c u hu (λ⟨i,z⟩=>s.fdj i c (.inr (.inl hc)) z) λz=>nd2.2.2 c z c hc rfl
     refine h2 ds ρ1 ρ' c1.2 c2.2 e ys σ1 H1 S1 M2 Fr s1 hr1 nd2.2.1 (λa ha=>hF a (List.mem_append_right _ ha)) Q λσ2 H2 S2 s2 m2=>q σ2 H2 S2 s2 ⟨λb u hb n1 n2=>?_,λi a z=>?_,m1.pr.trans m2.pr⟩
     .have n3:b∉M1:=λz=>n2 (List.mem_append_left _ z)
      exact m2.kp b u (m1.kp b u hb n1 n3) (λ⟨i,z⟩=>(m1.gr i b z).elim n1 λz=>z.elim n3 λz=>by rw[hb]at z;cases z) λz=>n2 (List.mem_append_right _ z)
     .rcases m2.gr i a z with⟨j,z⟩|z|z
      .exact(m1.gr j a z).imp id λz=>z.imp (List.mem_append_left _) id
      .exact .inr (.inl (List.mem_append_right _ z))
      .by_cases q1:inS S a
       .exact .inl q1
       .by_cases q2:a∈M1
        .exact .inr (.inl (List.mem_append_left _ q2))
        .refine .inr (.inr ?_)
         cases e:H a with
         |none=>rfl
         |some u=>rw[m1.kp a u e q1 q2]at z;cases z
    .have n1:¬inS S b:=λ⟨i,z⟩=>by
      cases ho:ob i with
      |false=>exact f.2.1 ⟨i,ho,z⟩
      |true=>exact f.2.2 ⟨i,ho,z⟩
     have n2:b∉M1:=λz=>f.1 (.inl z);refine⟨m1.kp b u hb n1 n2,λz=>f.1 (.inr z),λ⟨i,_,z⟩=>?_,λ⟨i,_,z⟩=>?_⟩
     .exact(m1.gr i b z).elim n1 λz=>z.elim n2 λz=>by rw[hb]at z;cases z
     .exact(m1.gr i b z).elim n1 λz=>z.elim n2 λz=>by rw[hb]at z;cases z
    .have no:∀u,H b=some u->muO u=false->H1 b=some u:=λu hu m=>m1.kp b u hu (λ⟨i,z⟩=>by
       obtain⟨o,ho,hm⟩:=s.mu z;rw[hu]at ho;cases ho;rw[m]at hm;cases hm) λz=>by
       obtain⟨o,ho,hm⟩:=hx.dom b z;rw[hu]at ho;cases ho;rw[m]at hm;cases hm
     exact no _ h rfl
theorem JG{n:Nat}{t:TGs}{g:List D->En->Option En}(h:Fb G ob P t g):RfG G ob P (M4 G.K n t) (tgT n g):=λd ρ ρ' e v σ H S M Fr s r nd hF Q q=>by
 cases d with
 |tup ds=>
  simp only[tgT]at e;split at e
  .rename_i hl
   rw[Rep]at r;obtain⟨a,xs,rfl,ht,hr⟩:=r;exact⟨a,xs,rfl,SqT.of ht,by rw[←hr.length];exact hl.1,h ds ρ ρ' hl.2.2 hl.2.1 e xs σ H S M Fr s hr nd hF Q q⟩
  .cases e
 |_=>cases e
structure Kd{ι:Type}(X:ι->Cx)(G:Gc)(ob P:Nat->Bool)(tg:List Expr)(f:List D->En->Option En):Prop where
 mk::(ex:∃t,(∀c,PGs (X c) tg t)/\Fb G ob P t f)
theorem bB(i:Nat){x:Str}{pos:Pos}(hN:∀c,(X c).N.Nodup)(hP:P i=false:=by rfl)(hi:∀c,(X c).N[i]? =some x:=by intro _;rfl)(hx:∀c,Loc (X c).env.scope x:=by intro _;first|exact Or.inl rfl|exact Or.inr rfl)(hf:∀c,(X c).fn x=true∨(X c).env.scope.names.lookup x=some .local:=by intro _;first|exact .inl rfl|exact .inr rfl):PVG X G ob P (.Name x pos) (tgN i):=⟨_,λc=>xq (hN c) (hi c) (hx c) (hf c),jL hP⟩
theorem jR:Kd X G ob P [] eO:=⟨_,λc=>Bx,zG⟩
theorem cH{e:Expr}{es:List Expr}{f:D->En->Option En}{g:List D->En->Option En}(h1:PVG X G ob P e f)(h2:Kd X G ob P es g)(hs:∀c,(assignEach (e::es) (X c).env).map (·.2)=assign e (X c).env::(assignEach es (X c).env).map (·.2):=by intro _;rfl):Kd X G ob P (e::es) (aQ f g):=let⟨t,a1,a2⟩:=h1.ex;let⟨u,b1,b2⟩:=h2.ex;⟨_,λc=>yc (a1 c) (b1 c) (hs c),pO a2 b2⟩
theorem mH{es:List Expr}{k n:Nat}{pos:Pos}{g:List D->En->Option En}(hc:∀c,(X c).calm=true)(h:Kd X G ob P es g)(hn:∀c,(assignEach es (X c).env).length=n:=by intro _;rfl)(hst:∀c,(assignEach es (X c).env).findIdx? (·.1)=none:=by intro _;rfl)(hK:∀c,(X c).K=G.K:=by intro _;rfl):PVG X G ob P (.Tuple es k pos) (tgT n g):=let⟨t,a1,a2⟩:=h.ex;⟨_,λc=>(by rw[←hK c];exact HY (hc c) (a1 c) (hn c) (hst c)),JG a2⟩
def fj(f:En->Option D)(g:D->En->Option En):En->Option Fl:=λρ=>(f ρ).bind λd=>(g d ρ).map .nx
def cW(f:En->Option (D×En))(g:D->En->Option En):En->Option Fl:=λρ=>(f ρ).bind λp=>(g p.1 p.2).map .nx
theorem jt{Fr:Addr->Prop}:plus [] Fr=Fr:=by funext a;simp[plus]
theorem lW{te:TE}{t:TG}{f:En->Option (D×En)}{g:D->En->Option En}(h:j4 G ob te f)(hg:RfG G ob P t g):RfS G ob P (JV te t) (cW f g):=λρ r e σ H S Fr s E q=>by
 unfold cW at e;cases h1:f ρ with
 |none=>simp[h1]at e
 |some p=>
  obtain⟨d,ρ1⟩:=p;cases h2:g d ρ1 with
  |none=>simp[h1,h2]at e
  |some ρ2=>
   have:Fl.nx ρ2=r:=by simpa[h1,h2]using e
   subst this;refine h ρ d ρ1 h1 σ H S Fr s _ λv H1 M S1 s1 r1 nd f1=>?_;have hF:∀a∈M,¬Fr a:=λa ha z=>by
    rcases f1.fm a ha with q|q
    .exact s.notO z q
    .obtain⟨o,ho,_⟩:=s.fdm a z
     rw[q]at ho;cases ho
   refine hg d ρ1 ρ2 h2 v σ H1 S1 M Fr s1 r1 nd hF _ λσ' H' S' s' m=>q σ' H' S' s' ⟨λb u hb n1 n2=>?_,λi a z=>?_,m.pr⟩
   .have hno:¬inO ob S b:=λ⟨i,_,z⟩=>n1 ⟨i,z⟩
    refine m.kp b u (f1.kp b u hb hno) (λ⟨i,z⟩=>?_) λz=>(f1.fm b z).elim hno λz=>by rw[hb]at z;cases z
    cases ho:ob i with
    |false=>rw[f1.sn i ho]at z;exact n1 ⟨i,z⟩
    |true=>exact(f1.gr i b ho z).elim hno λz=>by rw[hb]at z;cases z
   .rcases m.gr i a z with⟨j,z⟩|z|z
    .cases ho:ob j with
     |false=>rw[f1.sn j ho]at z;exact .inl ⟨j,z⟩
     |true=>exact(f1.gr j a ho z).imp (λ⟨k,_,z⟩=>⟨k,z⟩) .inr
    .exact(f1.fm a z).imp (λ⟨k,_,z⟩=>⟨k,z⟩) .inr
    .exact(f1.back z).imp (λ⟨k,_,z⟩=>⟨k,z⟩) .inr
theorem Ai{f:En->Option D}{g:D->En->Option En}:cW (eUp f) g=fj f g:=by
 funext ρ;unfold cW fj eUp;cases f ρ<;>rfl
section
variable{tg e:Expr}{pos:Pos}{g:D->En->Option En}
theorem mL{f:En->Option D}(he:PV X G ob e f)(hg:PVG X G ob P tg g)(hs:∀c,swapsWithSole [tg] e pos.line (X c).env=pure false:=by intro _;rfl)(hw:∀c,swappedStores [tg] e (X c).env=pure none:=by intro _;rfl)(h1:∀c,(assignEach [tg] (X c).env).map (·.2)=[assign tg (X c).env]:=by intro _;rfl):PVS X G ob P (.Assign [tg] e pos) (fj f g):=let⟨t,a1,a2⟩:=he.ex;let⟨u,b1,b2⟩:=hg.ex;⟨_,λc=>Ho (a1 c) (b1 c) (hs c) (hw c) (h1 c),by rw[←Ai];exact lW (yp a2) b2⟩
theorem ph{f:En->Option (D×En)}(he:PVe X G ob e f)(hg:PVG X G ob P tg g)(hs:∀c,swapsWithSole [tg] e pos.line (X c).env=pure false:=by intro _;rfl)(hw:∀c,swappedStores [tg] e (X c).env=pure none:=by intro _;rfl)(h1:∀c,(assignEach [tg] (X c).env).map (·.2)=[assign tg (X c).env]:=by intro _;rfl):PVS X G ob P (.Assign [tg] e pos) (cW f g):=let⟨t,a1,a2⟩:=he.ex;let⟨u,b1,b2⟩:=hg.ex;⟨_,λc=>Ho (a1 c) (b1 c) (hs c) (hw c) (h1 c),lW a2 b2⟩
theorem cC(i:Nat){x:Str}{pos':Pos}{f:En->Option D}(hN:∀c,(X c).N.Nodup)(he:PV X G ob e f)(hP:P i=false:=by rfl)(hi:∀c,(X c).N[i]? =some x:=by intro _;rfl)(hx:∀c,Loc (X c).env.scope x:=by intro _;first|exact Or.inl rfl|exact Or.inr rfl)(hs:∀c,swapsWith e (some (.Name x pos')) pos.line (X c).env=pure false:=by intro _;rfl)(hf:∀c,(X c).fn x=true∨(X c).env.scope.names.lookup x=some .local:=by intro _;first|exact .inl rfl|exact .inr rfl):PVS X G ob P (.Assign [.Name x pos'] e pos) (fj f (tgN i)):=let⟨t,a1,a2⟩:=he.ex;⟨_,λc=>Ha (hN c) (hi c) (hx c) (a1 c) (hs c) (hf c),by rw[←Ai];exact lW (yp a2) (jL hP)⟩
theorem bV(i:Nat){x:Str}{pos':Pos}{f:En->Option (D×En)}(hN:∀c,(X c).N.Nodup)(he:PVe X G ob e f)(hP:P i=false:=by rfl)(hi:∀c,(X c).N[i]? =some x:=by intro _;rfl)(hx:∀c,Loc (X c).env.scope x:=by intro _;first|exact Or.inl rfl|exact Or.inr rfl)(hs:∀c,swapsWith e (some (.Name x pos')) pos.line (X c).env=pure false:=by intro _;rfl)(hf:∀c,(X c).fn x=true∨(X c).env.scope.names.lookup x=some .local:=by intro _;first|exact .inl rfl|exact .inr rfl):PVS X G ob P (.Assign [.Name x pos'] e pos) (cW f (tgN i)):=let⟨t,a1,a2⟩:=he.ex;⟨_,λc=>Ha (hN c) (hi c) (hx c) (a1 c) (hs c) (hf c),lW a2 (jL hP)⟩
end
def tM(f:En->Option (List D×En))(g:List D->En->Option En):En->Option Fl:=λρ=>(f ρ).bind λp=>if aD p.1/\aH p.1 then(g p.1 p.2).map .nx else none
def Rh(f:En->Option (List D))(g:List D->En->Option En):En->Option Fl:=λρ=>(f ρ).bind λp=>if aD p/\aH p then(g p ρ).map .nx else none
theorem Iv{ta:TA}{i j:Nat}(hi:P i=false)(hj:P j=false){f:En->Option (List D×En)}(h:yd G ob ta f):RfS G ob P (Qt i j ta) (tM f (aQ (tgN i) (aQ (tgN j) eO))):=λρ r e σ H S Fr s E q=>by
 unfold tM at e;cases h1:f ρ with
 |none=>simp[h1]at e
 |some p=>
  obtain⟨ds,ρ1⟩:=p;by_cases hc:aD ds/\aH ds
  .cases h2:(aQ (tgN i) (aQ (tgN j) eO)) ds ρ1 with
   |none=>simp[h1,h2,hc]at e
   |some ρ2=>
    have:Fl.nx ρ2=r:=by simpa[h1,h2,hc]using e
    subst this;refine h ρ ds ρ1 h1 σ H S Fr s _ λvs H1 M S1 s1 r1 nd f1=>?_;have hF:∀a∈M,¬Fr a:=λa ha z=>by
     rcases f1.fm a ha with q|q
     .exact s.notO z q
     .obtain⟨o,ho,_⟩:=s.fdm a z
      rw[q]at ho;cases ho
    have key:=pO (jL (G:=G) (ob:=ob) hi) (pO (jL hj) zG) ds ρ1 ρ2 hc.1 hc.2 h2 vs σ H1 S1 M Fr s1 r1 nd hF (λσ' H'=>E.nx σ' H') λσ' H' S' s' m=>q σ' H' S' s' ⟨λb u hb n1 n2=>?_,λi a z=>?_,m.pr⟩
    .obtain⟨v,rr,e1,v2,r2,e2,e3,k⟩:=key
     subst e3;exact⟨v,v2,by rw[e1,e2],k⟩
    .have hno:¬inO ob S b:=λ⟨i,_,z⟩=>n1 ⟨i,z⟩
     refine m.kp b u (f1.kp b u hb hno) (λ⟨i,z⟩=>?_) λz=>(f1.fm b z).elim hno λz=>by rw[hb]at z;cases z
     cases ho:ob i with
     |false=>rw[f1.sn i ho]at z;exact n1 ⟨i,z⟩
     |true=>exact(f1.gr i b ho z).elim hno λz=>by rw[hb]at z;cases z
    .rcases m.gr i a z with⟨j,z⟩|z|z
     .cases ho:ob j with
      |false=>rw[f1.sn j ho]at z;exact .inl ⟨j,z⟩
      |true=>exact(f1.gr j a ho z).imp (λ⟨k,_,z⟩=>⟨k,z⟩) .inr
     .exact(f1.fm a z).imp (λ⟨k,_,z⟩=>⟨k,z⟩) .inr
     .exact(f1.back z).imp (λ⟨k,_,z⟩=>⟨k,z⟩) .inr
  .simp[h1,hc]at e
section
variable{x y:Str}{a b:Expr}{px py pt pos:Pos}{kt k2 pt2}
theorem Gg(i j:Nat){f:En->Option (List D×En)}(hc:∀c,(X c).calm=true)(hN:∀c,(X c).N.Nodup)(ha:tE X G ob [a,b] f)(hPi:P i=false:=by rfl)(hPj:P j=false:=by rfl)(hi:∀c,(X c).N[i]? =some x:=by intro _;rfl)(hj:∀c,(X c).N[j]? =some y:=by intro _;rfl)(hij:i≠j:=by decide)(hx:∀c,(X c).env.scope.names.lookup x=some .local:=by intro _;rfl)(hy:∀c,(X c).env.scope.names.lookup y=some .local:=by intro _;rfl)(hw:∀c,swappedStores [.Tuple [.Name x px,.Name y py] kt pt] (.Tuple [a,b] k2 pt2) (X c).env=pure (some [x,y]):=by intro _;rfl)(hs:∀c,swapsWithSole [.Tuple [.Name x px,.Name y py] kt pt] (.Tuple [a,b] k2 pt2) pos.line (X c).env=pure false:=by intro _;rfl) :
 PVS X G ob P (.Assign [.Tuple [.Name x px,.Name y py] kt pt] (.Tuple [a,b] k2 pt2) pos) (tM f (aQ (tgN i) (aQ (tgN j) eO))):=let⟨t,a1,a2⟩:=ha.ex;⟨_,λc=>M7 (hc c) (hN c) (hi c) (hj c) hij (hx c) (hy c) (a1 c) (hw c) (hs c),Iv hPi hPj a2⟩
end
def sIf(c:En->Option Bool)(f g:En->Option Fl):En->Option Fl:=λρ=>(c ρ).bind λb=>if b then f ρ else g ρ
def yU(c:En->Option (Bool×En))(f g:En->Option Fl):En->Option Fl:=λρ=>(c ρ).bind λp=>if p.1 then f p.2 else g p.2
theorem QS{c:En->Option Bool}{f g:En->Option Fl}:yU (yW c) f g=sIf c f g:=by
 funext ρ;unfold yU sIf yW;cases c ρ<;>rfl
theorem Cq{tc:TT}{t u:TS}{c:En->Option (Bool×En)}{f g:En->Option Fl}(hc:zj G ob tc c)(h1:RfS G ob P t f)(h2:RfS G ob P u g):RfS G ob P (QZ tc t u) (yU c f g):=λρ r e σ H S Fr s E q=>by
 unfold yU at e;cases h3:c ρ with
 |none=>simp[h3]at e
 |some p=>
  obtain⟨b,ρ1⟩:=p;refine hc ρ b ρ1 h3 σ H S Fr s _ λH1 S1 s1 f1=>?_;have m:Mv P H H1 σ σ S S1 []:=f1.mv;cases b with
  |true=>exact ur (h1 ρ1 r (by simpa[h3]using e) σ H1 S1 Fr s1 E (q.from m))
  |false=>exact zF (h2 ρ1 r (by simpa[h3]using e) σ H1 S1 Fr s1 E (q.from m))
theorem eF{c:Expr}{a b:List Stmt}{pos:Pos}{fc:En->Option Bool}{f g:En->Option Fl}(hc:PVT X G ob c fc)(ha:rN X G ob P a f)(hb:rN X G ob P b g):PVS X G ob P (.If c a b pos) (sIf fc f g):=let⟨v,c1,c2⟩:=hc.ex;let⟨t,a1,a2⟩:=ha.ex;let⟨u,b1,b2⟩:=hb.ex;⟨_,λc=>Lr (c1 c) (a1 c) (b1 c),by rw[←QS];exact Cq (Gm c2) a2 b2⟩
theorem BW{c:Expr}{a b:List Stmt}{pos:Pos}{fc:En->Option (Bool×En)}{f g:En->Option Fl}(hc:DY X G ob c fc)(ha:rN X G ob P a f)(hb:rN X G ob P b g):PVS X G ob P (.If c a b pos) (yU fc f g):=let⟨v,c1,c2⟩:=hc.ex;let⟨t,a1,a2⟩:=ha.ex;let⟨u,b1,b2⟩:=hb.ex;⟨_,λc=>Lr (c1 c) (a1 c) (b1 c),Cq c2 a2 b2⟩
def sEx(f:En->Option (D×En)):En->Option Fl:=λρ=>(f ρ).map λp=>.nx p.2
def rD(f:En->Option (D×En)):En->Option Fl:=λρ=>(f ρ).bind λp=>if clean p.1 then some (.ret p.1 p.2)else none
def gf(f:En->Option D):En->Option Fl:=λρ=>(f ρ).bind λd=>if clean d then some (.ret d ρ)else none
theorem PQ{f:En->Option D}:rD (eUp f)=gf f:=by
 funext ρ;unfold rD gf eUp;cases f ρ<;>rfl
theorem yM{te:TE}{f:En->Option (D×En)}(h:j4 G ob te f):RfS G ob P (Oa te) (rD f):=λρ r e σ H S Fr s E q=>by
 unfold rD at e;cases h1:f ρ with
 |none=>simp[h1]at e
 |some p=>
  obtain⟨d,ρ1⟩:=p;cases hc:clean d with
  |false=>simp[h1,hc]at e
  |true=>
   have:Fl.ret d ρ1=r:=by simpa[h1,hc]using e
   subst this;exact h ρ d ρ1 h1 σ H S Fr s _ λv H1 M S1 s1 r1 nd f1=>q v σ H1 M S1 s1 r1 hc nd (λa ha=>(f1.fm a ha).imp (λ⟨i,_,z⟩=>⟨i,z⟩) id) f1.mv
theorem bK{e:Expr}{pos:Pos}{f:En->Option D}(he:PV X G ob e f):PVS X G ob P (.Return (some e) pos) (gf f):=let⟨t,a1,a2⟩:=he.ex;⟨_,λc=>zZ (a1 c),by rw[←PQ];exact yM (yp a2)⟩
theorem yJ{e:Expr}{pos:Pos}{f:En->Option (D×En)}(he:PVe X G ob e f):PVS X G ob P (.Return (some e) pos) (rD f):=let⟨t,a1,a2⟩:=he.ex;⟨_,λc=>zZ (a1 c),yM a2⟩
def Q_:En->Option Fl:=λρ=>some (.ret .non ρ)
theorem Sta.move{G:Gc}{H:Hp}{ρ:En}{σ:L2.St}{S:Ad}{Fr:Addr->Prop}{i:Nat}{d:D}(s:Sta G H ob ρ σ S Fr)(e:ρ[i]? =some (some d)) :
  ∃v,σ[i]? =some (some v)/\clean d=true/\Sta G H ob (ρ.set i none) σ (gW S i []) (plus (S i) Fr)/\Rep G H (wn ob (gW S i []) (plus (S i) Fr)) d v (S i):=by
 obtain⟨v,h1,h2,h3⟩:=s.sl i d e;have ev:Evo H H (wn ob S Fr) (wn ob (gW S i []) (plus (S i) Fr)):=⟨λb u h f=>⟨h,⟨λz=>z.elim (λz=>?_) f.1,λ⟨k,q1,q2⟩=>?_,λ⟨k,q1,q2⟩=>?_⟩⟩,λ_ _ h=>h⟩
 .have hcc:=(by simpa[clean]using h3:aG d=true/\aC d=true)
  refine⟨v,h1,h3,⟨by simp[s.len],λj d' he=>?_,λj hj=>?_,λj=>?_,λj k a q1 q2=>?_,λj a q1 q2=>?_,λa h=>?_⟩,h2.mono ev (.inl hcc.1) (.inl hcc.2) λ_ _ _ h=>h⟩
  .by_cases e':j=i
   .subst e'
    rw[List.getElem?_set]at he;split at he
    .split at he
     .simp at he
     .cases he
    .exact absurd rfl ‹_›
   .rw[List.getElem?_set_ne (Ne.symm e')]at he
    obtain⟨v',q1,q2,q3⟩:=s.sl j _ he;refine⟨v',q1,?_,q3⟩;rw[dH e'];have hcc:=(by simpa[clean]using q3:aG d'=true/\aC d'=true);exact q2.mono ev (.inl hcc.1) (.inl hcc.2) λ_ _ _ h=>h
  .by_cases e':j=i
   .rw[e',dw]
   .rw[dH e']
    exact s.em j λd'=>by have:=hj d';rwa[List.getElem?_set_ne (Ne.symm e')]at this
  .by_cases e':j=i
   .rw[e',dw];exact List.nodup_nil
   .rw[dH e'];exact s.nd j
  .rcases cT q1 with⟨_,z⟩|⟨_,z⟩
   .cases z
   .rcases cT q2 with⟨_,z'⟩|⟨_,z'⟩
    .cases z'
    .exact s.dj j k a z z'
  .rcases cT q2 with⟨_,z⟩|⟨n,z⟩
   .cases z
   .rcases q1 with q1|q1
    .exact n (s.dj j i a z q1)
    .exact s.fdj j a q1 z
  .rcases h with h|h
   .exact s.mu h
   .exact s.fdm a h
 .cases ho:ob i with
  |false=>exact f.2.1 ⟨i,ho,z⟩
  |true=>exact f.2.2 ⟨i,ho,z⟩
 .rcases cT q2 with⟨_,z⟩|⟨_,z⟩
  .cases z
  .exact f.2.1 ⟨k,q1,z⟩
 .rcases cT q2 with⟨_,z⟩|⟨_,z⟩
  .cases z
  .exact f.2.2 ⟨k,q1,z⟩
def lz(i:Nat):En->Option Fl:=λρ=>match ρ[i]? with
 |some (some d)=>some (.ret d (ρ.set i none))
 |_=>none
theorem Ig{i:Nat}:RfS G ob P (Oa (JZ i)) (lz i):=λρ r e σ H S Fr s E q=>by
 unfold lz at e;split at e
 .rename_i d h1
  cases e;obtain⟨v,h2,h3,h4,h5⟩:=s.move h1;exact⟨v,h2,q v σ H (S i) (gW S i []) h4 h5 h3 (s.nd i) (λa ha=>.inl ⟨i,ha⟩) ⟨λ_ _ h _ _=>h,λj a z=>(cT z).elim (λz=>by cases z.2) λz=>.inl ⟨j,z.2⟩,.refl⟩⟩
 .cases e
theorem jU(i:Nat){x:Str}{pos pos':Pos}(hN:∀c,(X c).N[i]? =some x:=by intro _;rfl)(hv:∀c,Vis (X c).env.scope x:=by intro _;first|exact Or.inl rfl|exact Or.inr (Or.inl rfl)|exact Or.inr (Or.inr rfl))(hd:(x==("__debug__":Str))=false:=by decide)(hcd:(x==("__classdict__":Str))=false:=by decide):PVS X G ob P (.Return (some (.Name x pos)) pos') (lz i):=⟨_,λc=>zZ (pv i (hN c) (hv c) hd hcd),Ig⟩
end
def mkO:Mk->Mk
 |.own=>.frz
 |m=>m
mutual
def fzo:D->D
 |.tup ds=>.tup (jc ds)
 |.lst m ds=>.lst (mkO m) (jc ds)
 |.dct m ks ds=>.dct (mkO m) ks (jc ds)
 |.ins m c fs ds=>.ins (mkO m) c fs (jc ds)
 |d=>d
def jc:List D->List D
 |[]=>[]
 |d::r=>fzo d::jc r
end
theorem fQ:∀ds:List D,jc ds=ds.map fzo
 |[]=>rfl
 |d::r=>by rw[jc,fQ r];rfl
section
variable{G:Gc}{H:Hp}{W W':Wn}
theorem cZ.fzo{Kx:Addr->HO->Prop}{a:Addr}{o:HO}{m:Mk}{L M:List Addr}(hs:Les H W W' L)(hn:∀a,W.s a->W'.s a)(h:cZ Kx H W a o m L M):cZ Kx H W' a o (mkO m) [] []:=by
 cases m with
 |own=>exact⟨h.1,hs.l a (by rw[h.2];simp),rfl,rfl⟩
 |frz=>exact⟨h.1,hs.f a h.2.1,rfl,rfl⟩
 |brw=>exact⟨h.1,hn a h.2.1,rfl,rfl⟩
 |bro=>exact⟨h.1,rfl,rfl⟩
 |scr=>exact⟨h.1.imp (λz=>⟨z.1,hs.f a z.2⟩) id,rfl,rfl⟩
mutual
theorem Rep.fzo(hn:∀a,W.s a->W'.s a):∀{d:D}{v:V}{L:List Addr},Rep G H W d v L->Les H W W' L->Rep G H W' (fzo d) v []
 |.non,v,L,h,_=>by rw[Rep]at h;simp[Jb.fzo,Rep,h]
 |.bl _,v,L,h,_=>by rw[Rep]at h;simp[Jb.fzo,Rep,h]
 |.int _,v,L,h,_=>by rw[Rep]at h;simp[Jb.fzo,Rep,h]
 |.str _,v,L,h,_=>by rw[Rep]at h;simp[Jb.fzo,Rep,h]
 |.ty _,v,L,h,_=>by rw[Rep]at h;simp[Jb.fzo,Rep,h]
 |.tup ds,v,L,h,hs=>by
  rw[Rep]at h;rw[Jb.fzo,Rep];obtain⟨a,xs,rfl,ht,hr⟩:=h;exact⟨a,xs,rfl,ht,aF.fzo hn hr hs⟩
 |.lst m ds,v,L,h,he=>by
  rw[Rep]at h;rw[Jb.fzo,Rep];obtain⟨a,xs,M,rfl,hr,hs⟩:=h;exact⟨a,xs,[],rfl,aF.fzo hn hr (he.sub λc hc=>hs.sub.subset hc),hs.fzo he hn⟩
 |.dct m ks ds,v,L,h,he=>by
  rw[Rep]at h;rw[Jb.fzo,Rep];obtain⟨a,xs,M,rfl,hk,hr,hs⟩:=h;exact⟨a,xs,[],rfl,hk,aF.fzo hn hr (he.sub λc hc=>hs.sub.subset hc),hs.fzo he hn⟩
 |.ins m c' fs ds,v,L,h,he=>by
  rw[Rep]at h;rw[Jb.fzo,Rep];obtain⟨a,C,dx,xs,M,rfl,hC,hk,hr,hs⟩:=h;exact⟨a,C,dx,xs,[],rfl,hC,hk,aF.fzo hn hr (he.sub λc hc=>hs.sub.subset hc),hs.fzo he hn⟩
theorem aF.fzo(hn:∀a,W.s a->W'.s a):∀{ds:List D}{vs:List V}{L:List Addr},aF G H W ds vs L->Les H W W' L->aF G H W' (jc ds) vs []
 |[],vs,L,h,_=>by obtain⟨rfl,_⟩:=h.inv0;rw[jc];exact .nil
 |d::r,vs,L,h,he=>by
  obtain⟨x,ys,M,M',rfl,rfl,h1,h2⟩:=h.inv;rw[jc];exact .cons (M:=[]) (M':=[]) (Rep.fzo hn h1 (he.sub λc hc=>List.mem_append_left _ hc)) (aF.fzo hn h2 (he.sub λc hc=>List.mem_append_right _ hc))
end
mutual
theorem Ec:∀{d:D},aG d=true->aG (Jb.fzo d)=true
 |.non,_=>rfl|.bl _,_=>rfl|.int _,_=>rfl|.str _,_=>rfl|.ty _,_=>rfl
 |.tup ds,h=>by simp[aG]at h;simp[Jb.fzo,aG,fY h]
 |.lst m ds,h=>by simp[aG]at h;cases m<;>simp[Jb.fzo,aG,fY h.2,mkO]<;>simp at h
 |.dct m _ ds,h=>by simp[aG]at h;cases m<;>simp[Jb.fzo,aG,fY h.2,mkO]<;>simp at h
 |.ins m _ _ ds,h=>by simp[aG]at h;cases m<;>simp[Jb.fzo,aG,fY h.2,mkO]<;>simp at h
theorem fY:∀{ds:List D},aD ds=true->aD (jc ds)=true
 |[],_=>rfl
 |d::r,h=>by simp[aD]at h;simp[jc,aD,Ec h.1,fY h.2]
end
mutual
theorem Et:∀{d:D},aC d=true->aC (Jb.fzo d)=true
 |.non,_=>rfl|.bl _,_=>rfl|.int _,_=>rfl|.str _,_=>rfl|.ty _,_=>rfl
 |.tup ds,h=>by simp[aC]at h;simp[Jb.fzo,aC,gj h]
 |.lst m ds,h=>by simp[aC]at h;cases m<;>simp[Jb.fzo,aC,gj h.2,mkO]<;>simp at h
 |.dct m _ ds,h=>by simp[aC]at h;cases m<;>simp[Jb.fzo,aC,gj h.2,mkO]<;>simp at h
 |.ins m _ _ ds,h=>by simp[aC]at h;cases m<;>simp[Jb.fzo,aC,gj h.2,mkO]<;>simp at h
theorem gj:∀{ds:List D},aH ds=true->aH (jc ds)=true
 |[],_=>rfl
 |d::r,h=>by simp[aH]at h;simp[jc,aH,Et h.1,gj h.2]
end
end
structure Wk(G:Gc)(J:It)(Lt:Hp->Wn->Prop)(items:List D):Prop where
 go:∀(i:Nat)(d:D),items[i]? =some d->∀H W,Lt H W->J.go i H
 yld:∀(i:Nat)(d:D),items[i]? =some d->∀H W,Lt H W->∀x H',J.yld i H x H'->Same H H'/\Rep G H' W d x []
 stop:∀H W,Lt H W->J.stop items.length H
def LtB(b:Bool)(H:Hp)(W:Wn):Hp->Wn->Prop:=λH2 W2=>if b=true then Evo H H2 W W2 else Up H H2 W W2
theorem LtB.up{b:Bool}{H H2:Hp}{W W2:Wn}(u:Up H H2 W W2):LtB b H W H2 W2:=by
 cases b with
 |true=>exact ur u.evo
 |false=>exact zF u
def RfI(G:Gc)(ob:Nat->Bool)(wi:TI)(f:En->Option (Bool×List D)):Prop:=∀(ρ:En)(b:Bool)(items:List D),f ρ=some (b,items)->∀(σ:L2.St)(H:Hp)(W:Wn),Rel G H W ob ρ σ->WOk H W->∀R:It->Hp->Prop,
 (∀J H',Same H H'->Wk G J (LtB b H' W) items->R J H')->wi σ H R
structure PVI{ι:Type}(X:ι->Cx)(G:Gc)(ob:Nat->Bool)(tg it:Expr)(f:En->Option (Bool×List D)):Prop where
 mk::(ex:∃t,(∀c,PI (X c) tg it t)/\RfI G ob t f)
section
variable{ι:Type}{X:ι->Cx}{G:Gc}{ob P:Nat->Bool}
def iU(lo:Int)(n:Nat):List D:=(List.range n).map λ(k:Nat)=>D.int (lo+(k:Int))
def rR(f:En->Option (List D)):En->Option (Bool×List D):=λρ=>(f ρ).bind λds=>match ds with
 |[.int j]=>if -(2 ^ 62)<=j/\j<2 ^ 62 then some (true,iU 0 j.toNat)else none
 |_=>none
def RP(f:En->Option (List D)):En->Option (Bool×List D):=λρ=>(f ρ).bind λds=>match ds with
 |[.int i,.int j]=>if -(2 ^ 62)<=i/\i<2 ^ 62/\-(2 ^ 62)<=j/\j<2 ^ 62 then some (true,iU i (j-i).toNat)else none
 |_=>none
theorem H9{Lt:Hp->Wn->Prop}{lo:Int}{n:Nat}:Wk G (Itr lo n) Lt (iU lo n)where
 go:=λi d e H W _=>by
  have:=(List.getElem?_eq_some_iff.mp e).1;show i<n;simpa[iU]using this
 yld:=λi d e H W _ x H' h=>by
  obtain⟨rfl,rfl⟩:=h;have:d= .int (lo+(i:Int)):=by
   unfold iU at e;rw[List.getElem?_map]at e;have hi:i<n:=by
    have:=(List.getElem?_eq_some_iff.mp (show(iU lo n)[i]? =some d by unfold iU;rw[List.getElem?_map];exact e)).1;simpa[iU]using this
   rw[List.getElem?_range hi]at e;simpa using e.symm
  subst this;exact⟨Same.refl _,by rw[Rep];exact⟨rfl,rfl⟩⟩
 stop:=λH W _=>by
  show n<=(iU lo n).length;simp[iU]
theorem M5{t:TA}{f:En->Option (List D)}(h:RfA G ob t f):RfI G ob (Fi t) (rR f):=λρ b items e σ H W rl w R q=>by
 unfold rR at e;cases h1:f ρ with
 |none=>simp[h1]at e
 |some ds=>
  rw[h1]at e;simp only[Option.bind_some]at e;split at e
  .rename_i j
   split at e
   .rename_i hj
    cases e;refine h ρ _ h1 σ H W rl w _ λvs H' L s r fr nd=>?_;obtain⟨x,ys,M,M',rfl,_,hx,hy⟩:=r.inv;obtain⟨rfl,_⟩:=hy.inv0;rw[Rep]at hx;obtain⟨rfl,_⟩:=hx;exact⟨j,rfl,hj.1,hj.2,q _ H' s H9⟩
   .cases e
  .cases e
def cN:D->Option (Bool×List D)
 |.lst m ds=>some (clean (.lst m ds),jc ds)
 |.tup ds=>some (clean (.tup ds),jc ds)
 |_=>none
def itS(f:En->Option D):En->Option (Bool×List D):=λρ=>(f ρ).bind cN
theorem Ey{Kx:Addr->HO->Prop}{H H2:Hp}{W W1 W2:Wn}{b:Bool}{a:Addr}{o:HO}{m:Mk}{L M:List Addr}(h:cZ Kx H W1 a o m L M)(he:Les H W1 W L)(hn:W1.s a->W.s a)(hb:b=true->m≠.brw/\m≠.bro)(l:LtB b H W H2 W2):Rd H2 a o∨Kx a o:=by
 cases b with
 |false=>
  have u:Up H H2 W W2:=(if_neg Bool.false_ne_true).mp l;exact h.rx.imp (Same.rd u.s) id
 |true=>
  have e:Evo H H2 W W2:=(if_pos rfl).mp l;cases m with
  |own=>exact .inl (.inl (e.k a o h.1 (he.l a (by rw[h.2];simp))).1)
  |frz=>exact .inl (.inl (e.k a o h.1 (he.f a h.2.1)).1)
  |brw=>exact absurd rfl (hb rfl).1
  |bro=>exact absurd rfl (hb rfl).2
  |scr=>exact h.1.imp (λz=>(e.rd z.1 (he.f a z.2)).1) id
theorem RB{K:PySem.W.Frag}{H:Hp}{a:Addr}{xs:List V}(h:Rd H a (.lst xs)∨KO K a (.lst xs)):SqL K H a xs:=by
 rcases h with z|⟨ys,e,z⟩
 .exact .inl z
 .cases e
  exact .inr z
theorem LtB.rep{G:Gc}{H H2:Hp}{W W2:Wn}{b:Bool}{d:D}{v:V}(l:LtB b H W H2 W2)(hb:b=true->aG d=true/\aC d=true)(r:Rep G H W d v []):Rep G H2 W2 d v []:=by
 cases b with
 |false=>exact r.up ((if_neg Bool.false_ne_true).mp l)
 |true=>exact r.mono ((if_pos rfl).mp l) (.inl (hb rfl).1) (.inl (hb rfl).2) (by simp)
theorem LtB.tup{H H2:Hp}{W W2:Wn}{b:Bool}{K:PySem.W.Frag}{a:Addr}{xs:List V}(l:LtB b H W H2 W2)(h:H a=some (.tup xs)):SqT K H2 a xs:=by
 cases b with
 |false=>exact SqT.of (((if_neg Bool.false_ne_true).mp l).s a _ h)
 |true=>exact SqT.of (((if_pos rfl).mp l).t a xs h)
theorem jl{ds:List D}{i:Nat}{d:D}(h:aD ds=true)(e:ds[i]? =some d):aG d=true:=by
 induction ds generalizing i with
 |nil=>simp at e
 |cons a r ih=>
  simp only[aD,Bool.and_eq_true]at h;cases i with
  |zero=>
   have:a=d:=by simpa using e
   rw[←this];exact h.1
  |succ i=>exact ih h.2 (by simpa using e)
theorem jr{ds:List D}{i:Nat}{d:D}(h:aH ds=true)(e:ds[i]? =some d):aC d=true:=by
 induction ds generalizing i with
 |nil=>simp at e
 |cons a r ih=>
  simp only[aH,Bool.and_eq_true]at h;cases i with
  |zero=>
   have:a=d:=by simpa using e
   rw[←this];exact h.1
  |succ i=>exact ih h.2 (by simpa using e)
structure Parts(G:Gc)(H:Hp)(W:Wn)(b:Bool)(es:List D)(xs:List V):Prop where
 r:aF G H W es xs []
 c:b=true->aD es=true/\aH es=true
theorem Parts.at{G:Gc}{H H2:Hp}{W W2:Wn}{b:Bool}{es:List D}{xs:List V}(p:Parts G H W b es xs)(l:LtB b H W H2 W2){i:Nat}{d:D}{x:V}(e:es[i]? =some d)(hx:xs[i]? =some x):Rep G H2 W2 d x []:=by
 obtain⟨y,M,h1,h2,h3⟩:=p.r.get e;rw[hx]at h1;cases h1;have:M=[]:=by simpa using h3
 subst this;exact l.rep (λz=>⟨jl (p.c z).1 e,jr (p.c z).2 e⟩) h2
theorem JL{G:Gc}{H H':Hp}{W:Wn}{d:D}{v:V}{L:List Addr}{b:Bool}{es:List D}(w:WOk H W)(s:Same H H')(r:Rep G H' (W.add L) d v L)(fr:∀a∈L,H a=none)(e:cN d=some (b,es)) :
  ∃a xs,v= .ref a/\Parts G H' W b es xs/\((∀H2 W2,LtB b H' W H2 W2->SqL G.K H2 a xs)∨(∀H2 W2,LtB b H' W H2 W2->SqT G.K H2 a xs)):=by
 have free:∀a∈L,W.free a:=λa ha=>⟨λz=>?_,λz=>?_,λz=>?_⟩
 .have les:Les H' (W.add L) W L:=⟨λa f=>⟨λz=>f.1 (.inr z),f.2⟩,free⟩
  cases d with
  |lst m ds=>
   simp only[cN,Option.some.injEq,Prod.mk.injEq]at e;obtain⟨rfl,rfl⟩:=e;rw[Rep]at r;obtain⟨a,xs,M,rfl,hr,hs⟩:=r;refine⟨a,xs,rfl,⟨aF.fzo (W:=W.add L) (W':=W) (λ_ z=>z) hr (les.sub λc hc=>hs.sub.subset hc),λz=>?_⟩,.inl λH2 W2 l=>RB (Ey hs les (λz=>z) (λz=>?_) l)⟩
   .simp[clean,aG,aC]at z
    exact⟨fY z.1.2,gj z.2.2⟩
   .simp[clean,aG,aC]at z
    exact⟨z.1.1,z.2.1⟩
  |tup ds=>
   simp only[cN,Option.some.injEq,Prod.mk.injEq]at e;obtain⟨rfl,rfl⟩:=e;rw[Rep]at r;obtain⟨a,xs,rfl,ht,hr⟩:=r;refine⟨a,xs,rfl,⟨aF.fzo (W:=W.add L) (W':=W) (λ_ z=>z) hr les,λz=>?_⟩,.inr λH2 W2 l=>l.tup ht⟩;simp[clean,aG,aC]at z;exact⟨fY z.1,gj z.2⟩
  |_=>simp[cN]at e
 .obtain⟨o,ho,_⟩:=w a (.inl z);rw[fr a ha]at ho;cases ho
 .obtain⟨o,ho,_⟩:=w a (.inr (.inl z));rw[fr a ha]at ho;cases ho
 .obtain⟨o,ho,_⟩:=w a (.inr (.inr z));rw[fr a ha]at ho;cases ho
theorem aF.getV{G:Gc}{H:Hp}{W:Wn}{ds:List D}{xs:List V}{L:List Addr}{i:Nat}{d:D}(h:aF G H W ds xs L)(e:ds[i]? =some d):∃x,xs[i]? =some x:=let⟨x,_,h,_⟩:=h.get e;⟨x,h⟩
theorem Kq{te:TE}{f:En->Option D}(h:RfE G ob te f):RfI G ob (Qv G.K te) (itS f):=λρ b items e σ H W rl w R q=>by
 unfold itS at e;cases h1:f ρ with
 |none=>simp[h1]at e
 |some d=>
  have e:cN d=some (b,items):=by simpa[h1]using e
  refine h ρ d h1 σ H W rl w _ λv H' L s r fr nd=>?_;obtain⟨a,xs,rfl,p,hs⟩:=JL w s r fr e;refine⟨a,rfl,?_⟩;rcases hs with hs|hs
  .refine .inl ⟨⟨xs,hs H' W (LtB.up Up.refl)⟩,q _ H' s ⟨λi d e H2 W2 l=>?_,λi d e H2 W2 l x H3 y=>?_,λH2 W2 l=>?_⟩⟩
   .obtain⟨x,hx⟩:=p.r.getV e
    exact⟨xs,x,hs H2 W2 l,hx⟩
   .obtain⟨rfl,y⟩:=y
    exact⟨Same.refl _,p.at l e (y xs (hs _ W2 l))⟩
   .exact⟨xs,hs H2 W2 l,by rw[p.r.length];exact Nat.le_refl _⟩
  .refine .inr ⟨⟨xs,hs H' W (LtB.up Up.refl)⟩,q _ H' s ⟨λi d e H2 W2 l=>?_,λi d e H2 W2 l x H3 y=>?_,λH2 W2 l=>?_⟩⟩
   .obtain⟨x,hx⟩:=p.r.getV e
    exact⟨xs,x,hs H2 W2 l,hx⟩
   .obtain⟨rfl,y⟩:=y
    exact⟨Same.refl _,p.at l e (y xs (hs _ W2 l))⟩
   .exact⟨xs,hs H2 W2 l,by rw[p.r.length];exact Nat.le_refl _⟩
def HS:Nat->List D->List D
 |_,[]=>[]
 |i,d::r=>.tup [.int (i:Int),d]::HS (i+1) r
def itE(f:En->Option (List D)):En->Option (Bool×List D):=λρ=>(f ρ).bind λds=>match ds with
 |[d]=>(cN d).map λp=>(p.1,HS 0 p.2)
 |_=>none
section
variable{tg a b:Expr}{p pos tpos:Pos}{elts:List Expr}{x1:Nat}
theorem Ak{f:En->Option (List D)}(hg:∀c,Gl (X c) "range")(hm:∀c,(X c).mg "range"=none)(ha:PVA X G ob [a] f)(hs:∀c,starEach [a] (X c).env=[(false,eval a (X c).env)]:=by intro _;rfl):PVI X G ob tg (.Call (.Name "range" p) [a] [] pos) (rR f):=let⟨t,a1,a2⟩:=ha.ex;⟨_,λc=>u9 (hg c) (hm c) (a1 c) (hs c),M5 a2⟩
theorem di{f:En->Option D}(ha:PV X G ob a f)(hK:∀c,(X c).K=G.K:=by intro _;rfl):PVI X G ob tg a (itS f):=let⟨t,a1,a2⟩:=ha.ex;⟨_,λc=>(by rw[←hK c];exact O7 (a1 c)),Kq a2⟩
end
def forL(tg:D->En->Option En)(body:En->Option Fl):List D->En->Option Fl
 |[],ρ=>some (.nx ρ)
 |d::r,ρ=>(tg d ρ).bind λρ1=>match body ρ1 with
  |some (.nx ρ2)=>forL tg body r ρ2
  |some (.cnt ρ2)=>forL tg body r ρ2
  |some (.brk ρ2)=>some (.nx ρ2)
  |o=>o
def ju(it:En->Option (Bool×List D))(tg:D->En->Option En)(body:En->Option Fl):En->Option Fl:=λρ=>(it ρ).bind λp=>if p.1=true then forL tg body p.2 ρ else none
theorem Ah{G:Gc}{H H2:Hp}{ρ:En}{σ σ2:L2.St}{S S2:Ad}{Fr:Addr->Prop}(s:Sta G H ob ρ σ S Fr)(m:Mv P H H2 σ σ2 S S2 []):Evo H H2 (wn ob S Fr) (wn ob S2 Fr)where
 k:=λb u hb f=>by
  have n1:¬inS S b:=λ⟨i,z⟩=>by
   cases ho:ob i with
   |false=>exact f.2.1 ⟨i,ho,z⟩
   |true=>exact f.2.2 ⟨i,ho,z⟩
  have n2:¬inS S2 b:=λ⟨i,z⟩=>(m.gr i b z).elim n1 λz=>z.elim (λz=>by cases z) λz=>by rw[hb]at z;cases z
  exact⟨m.kp b u hb n1 (by simp),f.1,λ⟨i,_,z⟩=>n2 ⟨i,z⟩,λ⟨i,_,z⟩=>n2 ⟨i,z⟩⟩
 t:=λb xs h=>by
  have no:∀u,H b=some u->muO u=false->H2 b=some u:=λu hu mu=>m.kp b u hu (λ⟨i,z⟩=>by
   obtain⟨o,ho,hm⟩:=s.mu z;rw[hu]at ho;cases ho;rw[mu]at hm;cases hm) (by simp)
  exact no _ h rfl
theorem J3{wi:TI}{g:TG}{tb:TS}{it:En->Option (Bool×List D)}{tg:D->En->Option En}{body:En->Option Fl}(hi:RfI G ob wi it)(hg:RfG G ob P g tg)(hb:RfS G ob P tb body):RfS G ob P (M8 wi g tb) (ju it tg body):=λρ r e σ H S Fr s E q=>by
 unfold ju at e;cases h1:it ρ with
 |none=>simp[h1]at e
 |some p=>
  obtain⟨b,items⟩:=p;cases b with
  |false=>simp[h1]at e
  |true=>
   have e:forL tg body items ρ=some r:=by simpa[h1]using e
   refine hi ρ true items h1 σ H _ s.rel s.wok _ λJ H1 sm wk=>?_;have s1:Sta G H1 ob ρ σ S Fr:=s.grow sm λa z=>.inl z;have m1:Mv P H H1 σ σ S S []:=⟨λb u h _ _=>sm b u h,λi a z=>.inl ⟨i,z⟩,.refl⟩;have q1:=q.from m1;have ltof:∀{ρ2:En}{σ2:L2.St}{H2:Hp}{S2:Ad},Mv P H1 H2 σ σ2 S S2 []->LtB true H1 (wn ob S Fr) H2 (wn ob S2 Fr):=λm=>ur (Ah s1 m);refine⟨λi m σ2 H2=>i+m=items.length/\∃ρ2 S2,Sta G H2 ob ρ2 σ2 S2 Fr/\Mv P H1 H2 σ σ2 S S2 []/\forL tg body (items.drop i) ρ2=some r,⟨items.length,by omega,ρ,S,s1,.refl,e⟩,?_⟩;rintro i m σ2 H2 ⟨him,ρ2,S2,s2,m2,e2⟩;by_cases hil:i<items.length
   .refine .inr ⟨wk.go i items[i] (by simp[hil]) H2 _ (ltof (ρ2:=ρ2) m2),λσ' H'=>(i+1)+(m-1)=items.length/\∃ρ2 S2,Sta G H' ob ρ2 σ' S2 Fr/\Mv P H1 H' σ σ' S S2 []/\forL tg body (items.drop (i+1)) ρ2=some r,λσ' H' h=>⟨m-1,by omega,h⟩,λx H3 hy=>?_⟩
    obtain⟨s3,rx⟩:=wk.yld i items[i] (by simp[hil]) H2 _ (ltof (ρ2:=ρ2) m2) x H3 hy;rw[←List.getElem_cons_drop hil,forL]at e2;cases h3:tg items[i] ρ2 with
    |none=>simp[h3]at e2
    |some ρ3=>
     rw[h3]at e2;simp only[Option.bind_some]at e2;have st3:Sta G H3 ob ρ2 σ2 S2 Fr:=s2.grow s3 λa z=>.inl z;refine hg items[i] ρ2 ρ3 h3 x σ2 H3 S2 [] Fr (by rw[jt];exact st3) (by rw[jt];exact rx) List.nodup_nil (by simp) _ λσ4 H4 S4 s4 m4=>?_;have m24:Mv P H1 H4 σ σ4 S S4 []:=(m2.trans (S2:=S2) ⟨λb u h _ _=>s3 b u h,λi a z=>.inl ⟨i,z⟩,.refl⟩).trans m4;cases h5:body ρ3 with
     |none=>rw[h5]at e2;cases e2
     |some fl=>
      rw[h5]at e2;refine hb ρ3 fl h5 σ4 H4 S4 Fr s4 _ ?_;cases fl with
      |nx ρ5=>exact λσ' H' S' s' m'=>⟨by omega,ρ5,S',s',m24.trans m',e2⟩
      |cnt ρ5=>exact λσ' H' S' s' m'=>⟨by omega,ρ5,S',s',m24.trans m',e2⟩
      |brk ρ5=>cases e2;exact λσ' H' S' s' m'=>q1 σ' H' S' s' (m24.trans m')
      |ret d ρ5=>cases e2;exact q1.from m24
   .have hl:i=items.length:=by omega
    rw[hl,List.drop_length,forL]at e2;cases e2;subst hl;exact .inl ⟨wk.stop H2 _ (ltof (ρ2:=ρ2) m2),q1 σ2 H2 S2 s2 m2⟩
theorem iZ{tg iter:Expr}{body:List Stmt}{pos:Pos}{it:En->Option (Bool×List D)}{g:D->En->Option En}{f:En->Option Fl}(hp:∀c,PassesOwn (model (X c).prog (X c).w) (X c).A (X c).env (X c).xe)(hc:∀c,(X c).calm=true)(hi:PVI X G ob tg iter it)(hg:PVG X G ob P tg g)(hb:rN X G ob P body f)(hs:∀c,∀x,foldedSetIterable iter (X c).env x=pure x:=by intro _;intro _;rfl):PVS X G ob P (.For tg iter body [] pos) (ju it g f):=let⟨v,c1,c2⟩:=hi.ex;let⟨t,a1,a2⟩:=hg.ex;let⟨u,b1,b2⟩:=hb.ex;⟨_,λc=>Ih (hp c) (hc c) (c1 c) (a1 c) (b1 c) (hs c),J3 c2 a2 b2⟩
def qT(i:Nat)(ρ:En):Option En:=match ρ[i]? with
 |some (some d)=>some (ρ.set i (some (fz d)))
 |_=>none
theorem Sta.freeze{G:Gc}{H:Hp}{ρ ρ':En}{σ:L2.St}{S:Ad}{Fr:Addr->Prop}{i:Nat}(s:Sta G H ob ρ σ S Fr)(e:qT i ρ=some ρ'):Sta G H ob ρ' σ (gW S i []) Fr:=by
 unfold qT at e;split at e
 .rename_i d h1
  cases e;obtain⟨v,h2,h3,h4,h5⟩:=s.move h1;have h6:Sta G H ob (ρ.set i none) σ (gW S i []) Fr:=h4.lessF λa z=>.inr z;have hil:i<ρ.length:=(List.getElem?_eq_some_iff.mp h1).1;have rf:Rep G H (wn ob (gW S i []) Fr) (fz d) v []:=by
   refine h5.fz ⟨λa f=>⟨λz=>f.1 (.inr z),f.2⟩,λa ha=>⟨λz=>s.fdj i a z ha,λ⟨j,q1,q2⟩=>?_,λ⟨j,q1,q2⟩=>?_⟩⟩ (.inl h3)
   .rcases cT q2 with⟨_,z⟩|⟨n,z⟩
    .cases z
    .exact n (s.dj j i a z ha)
   .rcases cT q2 with⟨_,z⟩|⟨n,z⟩
    .cases z
    .exact n (s.dj j i a z ha)
  refine⟨by simp[s.len],λj d' he=>?_,λj hj=>?_,h6.nd,h6.dj,h6.fdj,h6.fdm⟩
  .by_cases e':j=i
   .subst e'
    have:fz d=d':=by simpa[hil]using he
    subst this;exact⟨v,h2,by rw[dw];exact rf,Hz d⟩
   .rw[List.getElem?_set_ne (Ne.symm e')]at he
    exact h6.sl j d' (by rw[List.getElem?_set_ne (Ne.symm e')];exact he)
  .by_cases e':j=i
   .rw[e',dw]
   .exact h6.em j λd'=>by have:=hj d';rw[List.getElem?_set_ne (Ne.symm e')]at this⊢;exact this
 .cases e
def sFz(i:Nat)(f:En->Option Fl):En->Option Fl:=λρ=>(qT i ρ).bind f
theorem Pz{t:TS}{f:En->Option Fl}{i:Nat}(h:RfS G ob P t f):RfS G ob P t (sFz i f):=λρ r e σ H S Fr s E q=>by
 unfold sFz at e;cases h1:qT i ρ with
 |none=>simp[h1]at e
 |some ρ1=>
  have e:f ρ1=some r:=by simpa[h1]using e
  have m:Mv P H H σ σ S (gW S i []) []:=⟨λ_ _ h _ _=>h,λj a z=>(cT z).elim (λz=>by cases z.2) λz=>.inl ⟨j,z.2⟩,.refl⟩;exact h ρ1 r e σ H (gW S i []) Fr (s.freeze h1) E (q.from m)
theorem jF(i:Nat){st:Stmt}{f:En->Option Fl}(h:PVS X G ob P st f):PVS X G ob P st (sFz i f):=let⟨t,a1,a2⟩:=h.ex;⟨t,a1,Pz a2⟩
end
mutual
def gk:D->Bool
 |.tup ds=>dN ds
 |.lst m ds=>m== .own&&dN ds
 |.dct m _ ds=>m== .own&&dN ds
 |.ins m _ _ ds=>m== .own&&dN ds
 |_=>true
def dN:List D->Bool
 |[]=>true
 |d::r=>gk d&&dN r
end
section
variable{G:Gc}{H:Hp}{W W':Wn}
mutual
theorem Rep.own:∀{d:D}{v:V}{L:List Addr},Rep G H W d v L->gk d=true->Rep G H W' d v L
 |.non,v,L,h,_=>by rw[Rep]at h⊢;exact h
 |.bl _,v,L,h,_=>by rw[Rep]at h⊢;exact h
 |.int _,v,L,h,_=>by rw[Rep]at h⊢;exact h
 |.str _,v,L,h,_=>by rw[Rep]at h⊢;exact h
 |.ty _,v,L,h,_=>by rw[Rep]at h⊢;exact h
 |.tup ds,v,L,h,o=>by
  rw[Rep]at h⊢;obtain⟨a,xs,rfl,ht,hr⟩:=h;exact⟨a,xs,rfl,ht,aF.own hr (by simpa[gk]using o)⟩
 |.lst m ds,v,L,h,o=>by
  rw[Rep]at h⊢;obtain⟨a,xs,M,rfl,hr,hs⟩:=h;simp[gk]at o;obtain⟨rfl,o⟩:=o;exact⟨a,xs,M,rfl,aF.own hr o,hs⟩
 |.dct m ks ds,v,L,h,o=>by
  rw[Rep]at h⊢;obtain⟨a,xs,M,rfl,hk,hr,hs⟩:=h;simp[gk]at o;obtain⟨rfl,o⟩:=o;exact⟨a,xs,M,rfl,hk,aF.own hr o,hs⟩
 |.ins m c fs ds,v,L,h,o=>by
  rw[Rep]at h⊢;obtain⟨a,C,dx,xs,M,rfl,hC,hk,hr,hs⟩:=h;simp[gk]at o;obtain⟨rfl,o⟩:=o;exact⟨a,C,dx,xs,M,rfl,hC,hk,aF.own hr o,hs⟩
theorem aF.own:∀{ds:List D}{vs:List V}{L:List Addr},aF G H W ds vs L->dN ds=true->aF G H W' ds vs L
 |[],vs,L,h,_=>by rw[aF]at h⊢;exact h
 |d::r,vs,L,h,o=>by
  obtain⟨x,ys,M,M',rfl,rfl,h1,h2⟩:=h.inv;simp[dN]at o;exact .cons (Rep.own h1 o.1) (aF.own h2 o.2)
end
end
def W1(Fr:Addr->Prop):Wn:=⟨Fr,λ_=>False,λ_=>False⟩
def spP(G:Gc)(F:List D->Option D):Sp:=λvs H Q _=>∃(ds:List D)(Fr:Addr->Prop),aF G H (W1 Fr) ds vs []/\aD ds=true/\aH ds=true/\(∀a,Fr a->Mu H a)/\∃d,F ds=some d/\
 ∀v H' L,Same H H'->Rep G H' (W1 (plus L Fr)) d v L->(∀a∈L,H a=none)->L.Nodup->clean d=true->Q v H'
def en0(n:Nat)(ds:List D):En:=ds.map some++List.replicate (n-ds.length) none
def fnP(np n:Nat)(body:En->Option Fl):List D->Option D:=λds=>if ds.length=np then(body (en0 n ds)).bind λr=>match r with
 |.ret d _=>some d
 |.nx _=>some .non
 |_=>none else none
theorem Cp{n:Nat}{ds:List D}{i:Nat}{d:D}(h:(en0 n ds)[i]? =some (some d)):ds[i]? =some d:=by
 unfold en0 at h;by_cases hi:i<ds.length
 .rw[List.getElem?_append_left (by simpa using hi)]at h
  simpa using h
 .rw[List.getElem?_append_right (by simpa using Nat.le_of_not_lt hi)]at h
  rw[List.getElem?_replicate]at h;split at h
  .simp at h
  .cases h
theorem R5{G:Gc}{H:Hp}{ob:Nat->Bool}{ds:List D}{vs:List V}{N:List Str}{Fr:Addr->Prop}(r:aF G H (W1 Fr) ds vs [])(c1:aD ds=true)(c2:aH ds=true)(fm:∀a,Fr a->Mu H a):Sta G H ob (en0 N.length ds) (L2.start N vs) (λ_=>[]) Fr where
 len:=by simp[en0,L2.start,r.length]
 sl:=λi d e=>by
  have e:=Cp e;obtain⟨x,M,h1,h2,h3⟩:=r.get e;have:M=[]:=by simpa using h3
  subst this;refine⟨x,?_,h2.up ⟨Same.refl _,λb u hb f=>⟨f.1,λ⟨j,_,z⟩=>(by cases z),λ⟨j,_,z⟩=>(by cases z)⟩,λb u hb f=>f.elim⟩,by simp[clean,jl c1 e,jr c2 e]⟩;unfold L2.start;have hi:i<vs.length:=(List.getElem?_eq_some_iff.mp h1).1;rw[List.getElem?_append_left (by simpa using hi)];simp[h1]
 em:=λ_ _=>rfl
 nd:=λ_=>List.nodup_nil
 dj:=λi j a h=>by cases h
 fdj:=λi a _ h=>by cases h
 fdm:=fm
section
variable{P:Program}{w:World}{K:PySem.W.Frag}{mg:Str->Option Value}{base:Heap}
theorem Py{a:Addr}:¬inS (λ_=>[]) a:=λ⟨_,z⟩=>by cases z
theorem okP{x qual:Str}{st:Stmt}{f:Addr}{fd:FuncData}{N ps:List Str}{k:Nat}{ob Pr:Nat->Bool}{body:En->Option Fl}(F:Fun K x qual st f fd)(S:bF N ps (aA st))
  (hb:∀(cdv:Value)(A:Around)(outer:List Env)(s:Shared)(H:Hp)(E:XK),jd k (A.deeper (envOfC qual (aA st) s.heap.objs.size f cdv))->rN (λ_:Unit=>(xZ CX0 P w K mg base N qual (aA st) f cdv A outer s H E).nox) ⟨K,mg⟩ ob Pr (bu st) body) :
  e_ P w K mg base CX0 (k+1) f fd ps (spP ⟨K,mg⟩ (fnP ps.length N.length body)):=by
 refine F.ok S (λvs H Q E h=>?_) (λcdv A outer s H vs Q E hr h=>?_)
 .obtain⟨ds,Fr,r,_,_,_,d,e,_⟩:=h
  unfold fnP at e;split at e
  .rename_i hl
   rw[←r.length];exact hl
  .cases e
 .obtain⟨ds,Fr,r,c1,c2,fm,d,e,q⟩:=h
  obtain⟨t,a1,a2⟩:=(hb cdv A outer s H E hr).ex;refine⟨t,a1 (),?_⟩;unfold fnP at e;split at e
  .cases h1:body (en0 N.length ds)with
   |none=>simp[h1]at e
   |some fl=>
    rw[h1]at e;simp only[Option.bind_some]at e;refine a2 _ fl h1 (L2.start N vs) H (λ_=>[]) Fr (R5 (ob:=ob) r c1 c2 fm) _ ?_;have wle:∀{S':Ad}{M:List Addr}{b:Addr},(wn ob S' (plus M Fr)).free b->(W1 (plus M Fr)).free b:=λz=>⟨z.1,id,id⟩;cases fl with
    |nx ρ'=>
     cases e;exact λσ' H' S' s' m=>q .non H' [] (λb o h=>m.kp b o h Py (by simp)) (by rw[Rep];exact⟨rfl,rfl⟩) (by simp) List.nodup_nil rfl
    |ret d' ρ'=>
     cases e;exact λv σ' H' M S' s' r' c n f m=>q v H' M (λb o h=>m.kp b o h Py (by simp)) (by
      have hcc:=(by simpa[clean]using c:aG d=true/\aC d=true);have ev:Evo H' H' (wn ob S' (plus M Fr)) (W1 (plus M Fr)):=⟨λb u h z=>⟨h,wle z⟩,λ_ _ h=>h⟩;exact r'.mono ev (.inl hcc.1) (.inl hcc.2) λ_ _ _ h=>h) (λa ha=>(f a ha).resolve_left Py) n c
    |brk ρ'=>cases e
    |cnt ρ'=>cases e
  .cases e
end
def eQ(F:List D->Option D)(ds:List D):Option D:=(F (fzL ds)).bind λd=>if(aD ds&&aH ds)||gk d then some d else none
theorem Im{G:Gc}{F:List D->Option D}{E:XK}:CaV G (λvs H Q=>spP G F (vs++[]) H Q E) (eQ F):=λds d e xs H W L0 r nd hn w Q q=>by
 unfold eQ at e;cases h1:F (fzL ds)with
 |none=>simp[h1]at e
 |some d'=>
  rw[h1]at e;simp only[Option.bind_some]at e;split at e
  .rename_i hc
   cases e;rw[List.append_nil];by_cases hcl:aD ds=true/\aH ds=true
   .refine⟨fzL ds,λa=>(W.n a∨W.s a∨W.o a)/\a∉L0,r.fz ⟨λa f=>⟨λz=>z.1.elim f.1 λz=>z.elim f.2.1 f.2.2,id,id⟩,λa ha=>⟨λz=>z.2 ha,id,id⟩⟩ (.inl hcl),gB ds,gA ds,λa h=>w a h.1,d,h1,λv H' L s r' fr n c=>?_⟩
    refine q v H' L s ?_ (λa ha=>.inr (fr a ha)) n;have hcc:=(by simpa[clean]using c:aG d=true/\aC d=true);have hL:∀a∈L,a∉L0:=λa ha z=>by
     obtain⟨o,ho,_⟩:=r.dom a z;rw[fr a ha]at ho;cases ho
    have ev:Evo H' H' (W1 (plus L λa=>(W.n a∨W.s a∨W.o a)/\a∉L0)) ((W.drop L0).add L):=⟨λb u h f=>⟨h,⟨λz=>z.elim (λz=>f.1 (.inl z)) λz=>f.1 (.inr ⟨.inl z.1,z.2⟩),λz=>f.1 (.inr ⟨.inr (.inl z),λy=>?_⟩),λz=>f.1 (.inr ⟨.inr (.inr z),λy=>?_⟩)⟩⟩,λ_ _ h=>h⟩
    .exact r'.mono ev (.inl hcc.1) (.inl hcc.2) λ_ _ _ h=>h
    .exact(hn b y).2.1 z
    .exact(hn b y).2.2 z
   .have ho:gk d=true:=by
     simp only[Bool.or_eq_true,Bool.and_eq_true]at hc;exact hc.resolve_left hcl
    refine⟨fzL ds,λ_=>False,r.fz ⟨λa f=>⟨id,id,id⟩,λa ha=>⟨id,id,id⟩⟩ (.inr λa=>⟨id,id,id⟩),gB ds,gA ds,λa h=>h.elim,d,h1,λv H' L s r' fr n c=>?_⟩;exact q v H' L s (r'.own ho) (λa ha=>.inr (fr a ha)) n
  .cases e
section
variable{ι:Type}{X:ι->Cx}{G:Gc}{ob:Nat->Bool}{e:Expr}{es:List Expr}{p pos:Pos}
theorem gM{k:Nat}{x:Str}{ps:List Str}{F:List D->Option D}{f:En->Option (List D)}(C:∀c,Cal (X c).prog (X c).w (X c).K (X c).mg (X c).base k x ps (spP G F))(hr:∀c,jd k (X c).A)(ha:PVA X G ob (e::es) f)(hg:∀c,Gl (X c) x:=by intro _;rfl)(hdb:(x==("__debug__":Str))=false:=by decide)(he:∀c,starEach (e::es) (X c).env=(false,eval e (X c).env)::starEach es (X c).env:=by intro _;rfl)(hpl:∀c,(backTo pos (starEach es (X c).env)).any (·.1)=false:=by intro _;rfl) :
 PV X G ob (.Call (.Name x p) (e::es) [] pos) (eAp (eQ F) f):=let⟨t,a1,a2⟩:=ha.ex;⟨_,λc=>Gn (C c) (hr c) (hg c) (a1 c) hdb (he c) (hpl c),vy Im a2⟩
end
section
variable{G:Gc}{H:Hp}{W W':Wn}
theorem cZ.fz2{Kx:Addr->HO->Prop}{a:Addr}{o:HO}{m:Mk}{L M:List Addr}(hs:Les H W W' L)(hb:m≠.brw∨∀a,W.s a->W'.free a)(ho:m≠.bro∨mG W')(h:cZ Kx H W a o m L M):cZ Kx H W' a o (mkF m) [] []:=by
 cases m with
 |own=>exact⟨h.1,hs.l a (by rw[h.2];simp),rfl,rfl⟩
 |frz=>exact⟨h.1,hs.f a h.2.1,rfl,rfl⟩
 |brw=>exact⟨h.1,hb.elim (λz=>absurd rfl z) λz=>z a h.2.1,rfl,rfl⟩
 |bro=>exact⟨h.1,ho.elim (λz=>absurd rfl z) λz=>z a,rfl,rfl⟩
 |scr=>exact⟨h.1.imp (λz=>⟨z.1,hs.f a z.2⟩) id,rfl,rfl⟩
mutual
theorem Rep.fz2:∀{d:D}{v:V}{L:List Addr},Rep G H W d v L->Les H W W' L->(aG d=true∨∀a,W.s a->W'.free a)->(aC d=true∨mG W')->Rep G H W' (fz d) v []
 |.non,v,L,h,_,_,_=>by rw[Rep]at h;simp[Jb.fz,Rep,h]
 |.bl _,v,L,h,_,_,_=>by rw[Rep]at h;simp[Jb.fz,Rep,h]
 |.int _,v,L,h,_,_,_=>by rw[Rep]at h;simp[Jb.fz,Rep,h]
 |.str _,v,L,h,_,_,_=>by rw[Rep]at h;simp[Jb.fz,Rep,h]
 |.ty _,v,L,h,_,_,_=>by rw[Rep]at h;simp[Jb.fz,Rep,h]
 |.tup ds,v,L,h,hs,c,o=>by
  rw[Rep]at h;rw[Jb.fz,Rep];obtain⟨a,xs,rfl,ht,hr⟩:=h;exact⟨a,xs,rfl,ht,aF.fz2 hr hs (by simpa[aG]using c) (by simpa[aC]using o)⟩
 |.lst m ds,v,L,h,he,c,o=>by
  rw[Rep]at h;rw[Jb.fz,Rep];obtain⟨a,xs,M,rfl,hr,hs⟩:=h;exact⟨a,xs,[],rfl,aF.fz2 hr (he.sub λc hc=>hs.sub.subset hc) (c.imp (λz=>by simp[aG]at z;exact z.2) id) (o.imp (λz=>by simp[aC]at z;exact z.2) id),hs.fz2 he (c.imp (λz=>by simp[aG]at z;exact z.1) id) (o.imp (λz=>by simp[aC]at z;exact z.1) id)⟩
 |.dct m ks ds,v,L,h,he,c,o=>by
  rw[Rep]at h;rw[Jb.fz,Rep];obtain⟨a,xs,M,rfl,hk,hr,hs⟩:=h;exact⟨a,xs,[],rfl,hk,aF.fz2 hr (he.sub λc hc=>hs.sub.subset hc) (c.imp (λz=>by simp[aG]at z;exact z.2) id) (o.imp (λz=>by simp[aC]at z;exact z.2) id),hs.fz2 he (c.imp (λz=>by simp[aG]at z;exact z.1) id) (o.imp (λz=>by simp[aC]at z;exact z.1) id)⟩
 |.ins m c' fs ds,v,L,h,he,c,o=>by
  rw[Rep]at h;rw[Jb.fz,Rep];obtain⟨a,C,dx,xs,M,rfl,hC,hk,hr,hs⟩:=h;exact⟨a,C,dx,xs,[],rfl,hC,hk,aF.fz2 hr (he.sub λc hc=>hs.sub.subset hc) (c.imp (λz=>by simp[aG]at z;exact z.2) id) (o.imp (λz=>by simp[aC]at z;exact z.2) id),hs.fz2 he (c.imp (λz=>by simp[aG]at z;exact z.1) id) (o.imp (λz=>by simp[aC]at z;exact z.1) id)⟩
theorem aF.fz2:∀{ds:List D}{vs:List V}{L:List Addr},aF G H W ds vs L->Les H W W' L->(aD ds=true∨∀a,W.s a->W'.free a)->(aH ds=true∨mG W')->aF G H W' (fzL ds) vs []
 |[],vs,L,h,_,_,_=>by obtain⟨rfl,_⟩:=h.inv0;rw[fzL];exact .nil
 |d::r,vs,L,h,he,c,o=>by
  obtain⟨x,ys,M,M',rfl,rfl,h1,h2⟩:=h.inv;rw[fzL];exact .cons (M:=[]) (M':=[]) (Rep.fz2 h1 (he.sub λc hc=>List.mem_append_left _ hc) (c.imp (λz=>by simp[aD]at z;exact z.1) id) (o.imp (λz=>by simp[aH]at z;exact z.1) id))
   (aF.fz2 h2 (he.sub λc hc=>List.mem_append_right _ hc) (c.imp (λz=>by simp[aD]at z;exact z.2) id) (o.imp (λz=>by simp[aH]at z;exact z.2) id))
end
end
def spI(G:Gc)(ob pr:Nat->Bool)(F:List D->Option (D×List D)):Sp:=λvs H Q _=>∃(ds:List D)(S:Ad)(Fr:Addr->Prop),Sta G H ob (ds.map some) (vs.map some) S Fr/\(∀i,pr i=false->S i=[])/\∃d ds',F ds=some (d,ds')/\
 ∀v H' M S',Sta G H' ob (ds'.map some) (vs.map some) S' (plus M Fr)->Rep G H' (wn ob S' (plus M Fr)) d v M->clean d=true->M.Nodup->(∀a∈M,inS S a∨H a=none)->Mv (λ_=>false) H H' [] [] S S' []->Q v H'
def outs(pr:Nat->Bool)(ρ:En):Nat->List D->Option (List D)
 |_,[]=>some []
 |i,d::r=>(if pr i=true then(match ρ[i]? with
  |some (some e)=>some e
  |_=>none)else some d).bind λe=>(outs pr ρ (i+1) r).map λt=>e::t
def fnI(pr:Nat->Bool)(np n:Nat)(body:En->Option Fl):List D->Option (D×List D):=λds=>if ds.length=np then(body (en0 n ds)).bind λr=>match r with
 |.ret d ρ=>(outs pr ρ 0 ds).map λo=>(d,o)
 |.nx ρ=>(outs pr ρ 0 ds).map λo=>(.non,o)
 |_=>none else none
theorem CV{pr:Nat->Bool}{ρ:En}:∀{ds ds':List D}{k:Nat},outs pr ρ k ds=some ds'->ds'.length=ds.length/\∀i d,ds'[i]? =some d->(pr (k+i)=true/\ρ[k+i]? =some (some d))∨(pr (k+i)=false/\ds[i]? =some d)
 |[],ds',k,e=>by
  cases e;exact⟨rfl,λi d h=>by simp at h⟩
 |d0::r,ds',k,e=>by
  rw[outs]at e;cases h2:outs pr ρ (k+1) r with
  |none=>
   rw[h2]at e;simp at e
  |some t=>
   rw[h2]at e;obtain⟨l1,l2⟩:=CV h2;have key:∃e0,ds'=e0::t/\((pr k=true/\ρ[k]? =some (some e0))∨(pr k=false/\d0=e0)):=by
    split at e
    .rename_i hp
     split at e
     .rename_i e0 h0
      exact⟨e0,by simpa using e.symm,.inl ⟨hp,h0⟩⟩
     .simp at e
    .rename_i hp
     exact⟨d0,by simpa using e.symm,.inr ⟨by simpa using hp,rfl⟩⟩
   obtain⟨e0,rfl,hk⟩:=key;refine⟨by simp[l1],λi d h=>?_⟩;cases i with
   |zero=>
    have:e0=d:=by simpa using h
    subst this;exact hk.imp id λz=>⟨z.1,by simp[z.2]⟩
   |succ i=>
    have:=l2 i d (by simpa using h);rw[show k+1+i=k+(i+1)by omega]at this;simpa using this
theorem kY{α:Type}{xs:List α}{i:Nat}{x:α}(h:(xs.map some)[i]? =some (some x)):xs[i]? =some x:=by
 rw[List.getElem?_map]at h;cases e:xs[i]? with
 |none=>rw[e]at h;cases h
 |some y=>rw[e]at h;simpa using h
theorem eE{α:Type}{xs:List α}{i:Nat}{x:α}(h:xs[i]? =some x):(xs.map some)[i]? =some (some x):=by rw[List.getElem?_map,h];rfl
theorem R3{G:Gc}{H:Hp}{ob:Nat->Bool}{ds:List D}{vs:List V}{N:List Str}{S:Ad}{Fr:Addr->Prop}(s:Sta G H ob (ds.map some) (vs.map some) S Fr):Sta G H ob (en0 N.length ds) (L2.start N vs) S Fr where
 len:=by have:=s.len;simp at this;simp[en0,L2.start,this]
 sl:=λi d e=>by
  obtain⟨v,h1,h2,h3⟩:=s.sl i d (eE (Cp e));refine⟨v,?_,h2,h3⟩;unfold L2.start;have hi:i<(vs.map some).length:=(List.getElem?_eq_some_iff.mp h1).1;rw[List.getElem?_append_left hi];exact h1
 em:=λi h=>s.em i λd e=>h d (by
  unfold en0;have hi:i<(ds.map some).length:=(List.getElem?_eq_some_iff.mp e).1;rw[List.getElem?_append_left hi];exact e)
 nd:=s.nd
 dj:=s.dj
 fdj:=s.fdj
 fdm:=s.fdm
section
variable{P:Program}{w:World}{K:PySem.W.Frag}{mg:Str->Option Value}{base:Heap}
theorem yt{G:Gc}{H H':Hp}{ob pr:Nat->Bool}{ds ds':List D}{vs:List V}{N:List Str}{S S1:Ad}{Fr:Addr->Prop}{ρ:En}{σ:L2.St}{M:List Addr}(s:Sta G H ob (ds.map some) (vs.map some) S Fr)(hp:∀i,pr i=false->S i=[])(s1:Sta G H' ob ρ σ S1 (plus M Fr))
  (m:Mv pr H H' (L2.start N vs) σ S S1 []) (hM:∀a∈M,inS S a∨H a=none) (e:outs pr ρ 0 ds=some ds') :
  Sta G H' ob (ds'.map some) (vs.map some) (λi=>if pr i=true/\i<ds.length then S1 i else[]) (plus M Fr):=by
 obtain⟨hl,hg⟩:=CV e;have lv:ds.length=vs.length:=by have:=s.len;simpa using this
 have sub:∀{i a},a∈(if pr i=true/\i<ds.length then S1 i else[])->a∈S1 i:=λ{i a} z=>by
  split at z
  .exact z
  .cases z
 refine⟨by simp[hl,lv],λi d h=>?_,λi h=>?_,λi=>?_,λi j a h1 h2=>s1.dj i j a (sub h1) (sub h2),λi a h z=>s1.fdj i a h (sub z),s1.fdm⟩
 .have h:=kY h
  have hi:i<ds.length:=by rw[←hl];exact(List.getElem?_eq_some_iff.mp h).1
  rcases hg i d h with⟨h1,h2⟩|⟨h1,h2⟩
  .rw[Nat.zero_add]at h1 h2
   obtain⟨v,q1,q2,q3⟩:=s1.sl i d h2;have e1:=m.pr i h1;rw[q1]at e1;refine⟨v,?_,?_,q3⟩
   .unfold L2.start at e1
    rw[List.getElem?_append_left (by simp;omega)]at e1;exact e1.symm
   .rw[if_pos ⟨h1,hi⟩]
    have hcc:=(by simpa[clean]using q3:aG d=true/\aC d=true);have ev:Evo H' H' (wn ob S1 (plus M Fr)) (wn ob (λi=>if pr i=true/\i<ds.length then S1 i else[]) (plus M Fr)):=⟨λb u hb f=>⟨hb,⟨f.1,λ⟨j,z1,z2⟩=>f.2.1 ⟨j,z1,sub z2⟩,λ⟨j,z1,z2⟩=>f.2.2 ⟨j,z1,sub z2⟩⟩⟩,λ_ _ h=>h⟩;exact q2.mono ev (.inl hcc.1) (.inl hcc.2) λ_ _ _ h=>h
  .rw[Nat.zero_add]at h1
   obtain⟨v,q1,q2,q3⟩:=s.sl i d (eE h2);refine⟨v,q1,?_,q3⟩;rw[if_neg λz=>by rw[h1]at z;cases z.1];rw[hp i h1]at q2;have hcc:=(by simpa[clean]using q3:aG d=true/\aC d=true);have ev0:=Ah s (σ2:=σ) (H2:=H') (S2:=S1) (P:=λ_=>false) ⟨m.kp,m.gr,λi h=>by cases h⟩;have ev:Evo H H' (wn ob S Fr) (wn ob (λi=>if pr i=true/\i<ds.length then S1 i else[]) (plus M Fr)):=⟨λb u hb f=>?_,ev0.t⟩
   .exact q2.mono ev (.inl hcc.1) (.inl hcc.2) (by simp)
   .obtain⟨k1,k2⟩:=ev0.k b u hb f
    refine⟨k1,λz=>z.elim (λz=>?_) f.1,λ⟨j,z1,z2⟩=>k2.2.1 ⟨j,z1,sub z2⟩,λ⟨j,z1,z2⟩=>k2.2.2 ⟨j,z1,sub z2⟩⟩;rcases hM b z with⟨j,y⟩|y
    .cases ho:ob j with
     |false=>exact f.2.1 ⟨j,ho,y⟩
     |true=>exact f.2.2 ⟨j,ho,y⟩
    .rw[hb]at y;cases y
 .split
  .rename_i z
   exfalso;have hi:i<ds'.length:=by rw[hl];exact z.2
   exact h ds'[i] (eE (by simp[hi]))
  .rfl
 .show(if pr i=true/\i<ds.length then S1 i else[]).Nodup
  split
  .exact s1.nd i
  .exact List.nodup_nil
theorem okI{x qual:Str}{st:Stmt}{f:Addr}{fd:FuncData}{N ps:List Str}{k:Nat}{ob pr:Nat->Bool}{body:En->Option Fl}(F:Fun K x qual st f fd)(S:bF N ps (aA st))
  (hb:∀(cdv:Value)(A:Around)(outer:List Env)(s:Shared)(H:Hp)(E:XK),jd k (A.deeper (envOfC qual (aA st) s.heap.objs.size f cdv))->rN (λ_:Unit=>(xZ CX0 P w K mg base N qual (aA st) f cdv A outer s H E).nox) ⟨K,mg⟩ ob pr (bu st) body) :
  e_ P w K mg base CX0 (k+1) f fd ps (spI ⟨K,mg⟩ ob pr (fnI pr ps.length N.length body)):=by
 refine F.ok S (λvs H Q E h=>?_) (λcdv A outer s H vs Q E hr h=>?_)
 .obtain⟨ds,S,Fr,st,_,d,ds',e,_⟩:=h
  unfold fnI at e;split at e
  .rename_i hl
   have:=st.len;simp at this;rw[←this];exact hl
  .cases e
 .obtain⟨ds,S0,Fr,st,hp,d,ds',e,q⟩:=h
  obtain⟨t,a1,a2⟩:=(hb cdv A outer s H E hr).ex;refine⟨t,a1 (),?_⟩;unfold fnI at e;split at e
  .cases h1:body (en0 N.length ds)with
   |none=>simp[h1]at e
   |some fl=>
    rw[h1]at e;simp only[Option.bind_some]at e;refine a2 _ fl h1 (L2.start N vs) H S0 Fr (R3 st) _ ?_;have sub:∀{S1:Ad}{i a},a∈(if pr i=true/\i<ds.length then S1 i else[])->a∈S1 i:=λ{S1 i a} z=>by
     split at z
     .exact z
     .cases z
    cases fl with
    |nx ρ'=>
     cases h2:outs pr ρ' 0 ds with
     |none=>simp[h2]at e
     |some o=>
      obtain⟨rfl,rfl⟩:D.non=d/\o=ds':=by simpa[h2]using e
      refine λσ' H' S1 s1 m=>q .non H' [] _ (yt st hp (M:=[]) (by rw[jt];exact s1) m (by simp) h2) (by rw[Rep];exact⟨rfl,rfl⟩) rfl List.nodup_nil (by simp) ⟨m.kp,λi a z=>m.gr i a (sub z),λi h=>by cases h⟩
    |ret d' ρ'=>
     cases h2:outs pr ρ' 0 ds with
     |none=>simp[h2]at e
     |some o=>
      obtain⟨rfl,rfl⟩:d'=d/\o=ds':=by simpa[h2]using e
      refine λv σ' H' M S1 s1 r c n f m=>q v H' M _ (yt st hp s1 m f h2) ?_ c n f ⟨m.kp,λi a z=>m.gr i a (sub z),λi h=>by cases h⟩;have hcc:=(by simpa[clean]using c:aG d'=true/\aC d'=true);have ev:Evo H' H' (wn ob S1 (plus M Fr)) (wn ob (λi=>if pr i=true/\i<ds.length then S1 i else[]) (plus M Fr)):=⟨λb u hb f=>⟨hb,⟨f.1,λ⟨j,z1,z2⟩=>f.2.1 ⟨j,z1,sub z2⟩,λ⟨j,z1,z2⟩=>f.2.2 ⟨j,z1,sub z2⟩⟩⟩,λ_ _ h=>h⟩;exact r.mono ev (.inl hcc.1) (.inl hcc.2) λ_ _ _ h=>h
    |brk ρ'=>cases e
    |cnt ρ'=>cases e
  .cases e
end
def RfM(G:Gc)(ob:Nat->Bool)(t:TA)(js:List Nat)(f:En->Option (List D×En)):Prop:=∀(ρ:En)(ds:List D)(ρ':En),f ρ=some (ds,ρ')->∀(σ:L2.St)(H:Hp)(S:Ad)(Fr:Addr->Prop),Sta G H ob ρ σ S Fr->
 ∀us:List V,js.map (λj=>σ[j]?)=us.map (λu=>some (some u))->∀Q:List V->Hp->Prop,
 (∀vs H' M S',Sta G H' ob ρ' σ S' (plus M Fr)->aF G H' (wn ob S' (plus M Fr)) ds vs M->M.Nodup->Eff ob H H' S S' M->Q (us++vs) H')->t σ H Q
structure PVM{ι:Type}(X:ι->Cx)(G:Gc)(ob:Nat->Bool)(es:List Expr)(js:List Nat)(f:En->Option (List D×En)):Prop where
 mk::(ex:∃t,(∀c,PA (X c) es t)/\RfM G ob t js f)
section
variable{ι:Type}{X:ι->Cx}{G:Gc}{ob:Nat->Bool}
theorem aV{es:List Expr}{f:En->Option (List D×En)}(h:tE X G ob es f):PVM X G ob es [] f:=by
 obtain⟨t,a1,a2⟩:=h.ex;refine⟨t,a1,λρ ds ρ' e σ H S Fr s us hu Q q=>?_⟩;have:us=[]:=by simpa using hu
 subst this;exact a2 ρ ds ρ' e σ H S Fr s Q q
theorem aU(i:Nat){x:Str}{pos:Pos}{es:List Expr}{js:List Nat}{f:En->Option (List D×En)}(h:PVM X G ob es js f)(hN:∀c,(X c).N[i]? =some x:=by intro _;rfl)(hv:∀c,Vis (X c).env.scope x:=by intro _;first|exact Or.inl rfl|exact Or.inr (Or.inl rfl)|exact Or.inr (Or.inr rfl))(hd:(x==("__debug__":Str))=false:=by decide)(hcd:(x==("__classdict__":Str))=false:=by decide)(hs:∀c,starEach (.Name x pos::es) (X c).env=(false,eval (.Name x pos) (X c).env)::starEach es (X c).env:=by intro _;rfl):PVM X G ob (.Name x pos::es) (i::js) f:=by
 obtain⟨t,a1,a2⟩:=h.ex;refine⟨_,λc=>wA (pv i (hN c) (hv c) hd hcd) (a1 c) (hs c),λρ ds ρ' e σ H S Fr s us hu Q q=>?_⟩;cases us with
 |nil=>simp at hu
 |cons u us=>
  rw[List.map_cons,List.map_cons]at hu;injection hu with h1 h2;exact⟨u,h1,a2 ρ ds ρ' e σ H S Fr s us h2 _ λvs H' M S' s' r n ef=>q vs H' M S' s' r n ef⟩
def objs(js:List Nat)(ρ:En):Option (List D):=js.mapM λj=>ρ[j]?.bind id
def lQ:List Nat->List D->En->En
 |j::js,d::ds,ρ=>lQ js ds (ρ.set j (some d))
 |_,_,ρ=>ρ
def eIo(F:List D->Option (D×List D))(js:List Nat)(f:En->Option (List D×En)):En->Option (D×En):=λρ=>if(objs js ρ).isSome=true then(f ρ).bind λp=>(objs js p.2).bind λos=>if aH p.1=true then(F (os++fzL p.1)).bind λq=>
 if aD p.1=true∨(gk q.1=true/\dN (q.2.take js.length)=true)then some (q.1,lQ js q.2 p.2)else none else none else none
theorem xm{ρ:En}:∀{js:List Nat}{os:List D},objs js ρ=some os->os.length=js.length/\∀(k j:Nat),js[k]? =some j->∃d,os[k]? =some d/\ρ[j]? =some (some d)
 |[],os,h=>by
  have:os=[]:=by simpa[objs]using h.symm
  subst this;exact⟨rfl,λk j h=>by simp at h⟩
 |j::js,os,h=>by
  unfold objs at h;rw[List.mapM_cons]at h;cases h1:ρ[j]?.bind id with
  |none=>simp[h1]at h
  |some d=>
   cases h2:js.mapM (λj=>ρ[j]?.bind id)with
   |none=>simp[h1,h2]at h
   |some t=>
    have:os=d::t:=by simpa[h1,h2]using h.symm
    subst this;obtain⟨l,g⟩:=xm (js:=js) (os:=t) h2;refine⟨by simp[l],λk i e=>?_⟩;cases k with
    |zero=>
     have:j=i:=by simpa using e
     subst this;refine⟨d,rfl,?_⟩;cases h3:ρ[j]? with
     |none=>rw[h3]at h1;cases h1
     |some o=>rw[h3]at h1;simpa using h1
    |succ k=>simpa using g k i (by simpa using e)
theorem vN:∀(js:List Nat)(ds:List D)(ρ:En),(lQ js ds ρ).length=ρ.length
 |[],ds,ρ=>by cases ds<;>rfl
 |_::_,[],ρ=>rfl
 |j::js,d::ds,ρ=>by rw[lQ,vN js ds];simp
theorem lL:∀{js:List Nat}{ds:List D}{ρ:En}{j:Nat},j∉js->(lQ js ds ρ)[j]? =ρ[j]?
 |[],ds,ρ,j,_=>by cases ds<;>rfl
 |_::_,[],ρ,j,_=>rfl
 |i::js,d::ds,ρ,j,h=>by
  rw[lQ,lL (λz=>h (List.mem_cons_of_mem _ z)),List.getElem?_set_ne λz=>h (by rw[z];exact List.mem_cons_self)]
theorem uz:∀{js:List Nat}{ds:List D}{ρ:En}{k j:Nat}{d:D},js.Nodup->js[k]? =some j->ds[k]? =some d->j<ρ.length->(lQ js ds ρ)[j]? =some (some d)
 |[],ds,ρ,k,j,d,_,h,_,_=>by simp at h
 |_::_,[],ρ,k,j,d,_,_,h,_=>by simp at h
 |i::js,d0::ds,ρ,k,j,d,n,h1,h2,hl=>by
  rw[lQ];cases k with
  |zero=>
   have e1:i=j:=by simpa using h1
   have e2:d0=d:=by simpa using h2
   subst e1 e2;rw[lL (List.nodup_cons.mp n).1];simp[hl]
  |succ k=>exact uz (List.nodup_cons.mp n).2 (by simpa using h1) (by simpa using h2) (by simpa using hl)
def pick(S:Ad)(js:List Nat):Ad:=λi=>match js[i]? with
 |some j=>S j
 |none=>[]
theorem iK{S:Ad}{js:List Nat}{i:Nat}{a:Addr}(h:a∈pick S js i):∃j,js[i]? =some j/\a∈S j:=by
 unfold pick at h;split at h
 .rename_i j e;exact⟨j,e,h⟩
 .cases h
def back(S:Ad)(js:List Nat)(Sc:Ad):Ad:=λj=>match js.idxOf? j with
 |some i=>Sc i
 |none=>S j
theorem sY{js:List Nat}{j i:Nat}(h:js.idxOf? j=some i):js[i]? =some j:=by
 obtain⟨h1,h2,h3⟩:=List.findIdx?_eq_some_iff_getElem.mp h;have:js[i]=j:=by simpa using h2
 rw[List.getElem?_eq_getElem h1,this]
theorem yg{js:List Nat}{j:Nat}(h:js.idxOf? j=none):j∉js:=by
 intro z;have:=List.findIdx?_eq_none_iff.mp h j z;simp at this
theorem Ow{js:List Nat}(n:js.Nodup){i j:Nat}(h:js[i]? =some j):js.idxOf? j=some i:=by
 cases e:js.idxOf? j with
 |none=>exact absurd (List.mem_of_getElem? h) (yg e)
 |some k=>
  have:=sY e;have hk:k<js.length:=(List.getElem?_eq_some_iff.mp this).1;rw[(List.getElem?_inj hk n).mp (this.trans h.symm)]
theorem Jv{S Sc:Ad}{js:List Nat}(n:js.Nodup){i j:Nat}(h:js[i]? =some j):back S js Sc j=Sc i:=by unfold back;rw[Ow n h]
theorem wD{S Sc:Ad}{js:List Nat}{j:Nat}(h:j∉js):back S js Sc j=S j:=by
 unfold back;split
 .rename_i i e;exact absurd (List.mem_of_getElem? (sY e)) h
 .rfl
theorem jO{S Sc:Ad}{js:List Nat}{j:Nat}{a:Addr}(h:a∈back S js Sc j):(∃i,js[i]? =some j/\a∈Sc i)∨(j∉js/\a∈S j):=by
 unfold back at h;split at h
 .rename_i i e;exact .inl ⟨i,sY e,h⟩
 .rename_i e;exact .inr ⟨yg e,h⟩
theorem wY{ds:List D}{k i:Nat}{d:D}(h:dN (ds.take k)=true)(e:ds[i]? =some d)(hi:i<k):gk d=true:=by
 induction ds generalizing k i with
 |nil=>simp at e
 |cons a r ih=>
  cases k with
  |zero=>omega
  |succ k=>
   rw[List.take_succ_cons,dN,Bool.and_eq_true]at h;cases i with
   |zero=>
    have:a=d:=by simpa using e
    rw[←this];exact h.1
   |succ i=>exact ih h.2 (by simpa using e) (by omega)
theorem Bm{σ:L2.St}:∀{js:List Nat},(∀j∈js,∃u,σ[j]? =some (some u))->∃us:List V,js.map (λj=>σ[j]?)=us.map (λu=>some (some u))
 |[],_=>⟨[],rfl⟩
 |j::js,h=>by
  obtain⟨us,hu⟩:=Bm (js:=js) λi hi=>h i (List.mem_cons_of_mem _ hi);obtain⟨u,hu0⟩:=h j List.mem_cons_self;exact⟨u::us,by rw[List.map_cons,List.map_cons,hu,hu0]⟩
theorem N6{oc pr:Nat->Bool}{F:List D->Option (D×List D)}{t:TA}{js:List Nat}{f:En->Option (List D×En)}(hj:js.Nodup)(ho:∀j∈js,ob j=true)(hp:∀i,i<js.length->pr i=true)(h:RfM G ob t js f){E:XK} :
  j4 G ob (λσ H Q=>t σ H λvs H1=>spI G oc pr F (vs++[]) H1 Q E) (eIo F js f):=λρ d ρ' e σ H S Fr s Q q=>by
 unfold eIo at e;split at e
 .rename_i hsome
  cases h0:objs js ρ with
  |none=>rw[h0]at hsome;cases hsome
  |some os0=>
   cases h1:f ρ with
   |none=>simp[h1]at e
   |some p=>
    obtain⟨ds,ρ1⟩:=p;rw[h1]at e;simp only[Option.bind_some]at e;cases h2:objs js ρ1 with
    |none=>simp[h2]at e
    |some os=>
     rw[h2]at e;simp only[Option.bind_some]at e;split at e
     .rename_i hbro
      cases h3:F (os++fzL ds)with
      |none=>simp[h3]at e
      |some z=>
       obtain⟨d1,ds1⟩:=z;rw[h3]at e;simp only[Option.bind_some]at e;split at e
       .rename_i hcl
        obtain⟨rfl,rfl⟩:d1=d/\lQ js ds1 ρ1=ρ':=by simpa using e
        obtain⟨l0,g0⟩:=xm h0;obtain⟨l1,g1⟩:=xm h2;have hus:∃us:List V,js.map (λj=>σ[j]?)=us.map (λu=>some (some u)):=by
         have:∀j∈js,∃u,σ[j]? =some (some u):=λj hj=>by
          obtain⟨k,hk⟩:=List.mem_iff_getElem?.mp hj;obtain⟨d0,_,q2⟩:=g0 k j hk;obtain⟨v,q3,_⟩:=s.sl j d0 q2;exact⟨v,q3⟩
         exact Bm this
        obtain⟨us,hus⟩:=hus;have hul:us.length=js.length:=by have:=congrArg List.length hus;simpa using this.symm
        have hua:∀(k j:Nat)(u:V),js[k]? =some j->us[k]? =some u->σ[j]? =some (some u):=λk j u h1 h2=>by
         have:=congrArg (λl=>l[k]?) hus;simp only[List.getElem?_map,h1,h2,Option.map_some,Option.some.injEq]at this;exact this
        refine h ρ ds ρ1 h1 σ H S Fr s us hus _ λvs H1 M S1 s1 r1 nd1 ef1=>?_;rw[List.append_nil];have hSc:∀{i a},a∈pick S1 js i->inO ob S1 a:=λ{i a} z=>by
         obtain⟨j,e,y⟩:=iK z;exact⟨j,ho j (List.mem_of_getElem? e),y⟩
        have hScin:∀{a},inS (pick S1 js) a->inO ob S1 a:=λ⟨i,z⟩=>hSc z;have owned:∀{i a},a∈S1 i->¬(wn ob S1 (plus M Fr)).free a:=λ{i a} z f=>by
         cases hoi:ob i with
         |false=>exact f.2.1 ⟨i,hoi,z⟩
         |true=>exact f.2.2 ⟨i,hoi,z⟩
        let Frc:Addr->Prop:=λa=>aD ds=true/\((Fr a∨inS S1 a)/\¬inS (pick S1 js) a)
        have frees:∀a,(wn ob S1 (plus M Fr)).free a->(wn oc (pick S1 js) Frc).free a:=λa f=>by
         refine⟨λz=>?_,λ⟨i,_,z⟩=>?_,λ⟨i,_,z⟩=>?_⟩
         .rcases z.2.1 with y|⟨i,y⟩
          .exact f.1 (.inr y)
          .exact owned y f
         .exact f.2.2 (hSc z)
         .exact f.2.2 (hSc z)
        have hFM:∀a∈M,¬Fr a:=λa ha z=>by
         rcases ef1.fm a ha with y|y
         .exact s.notO z y
         .obtain⟨o,ho,_⟩:=s.fdm a z
          rw[y]at ho;cases ho
        have mfree:∀a∈M,(wn oc (pick S1 js) Frc).free a:=λa ha=>by
         refine⟨λz=>?_,λ⟨i,_,z⟩=>?_,λ⟨i,_,z⟩=>?_⟩
         .rcases z.2.1 with y|⟨i,y⟩
          .exact hFM a ha y
          .exact s1.fdj i a (.inl ha) y
         .obtain⟨j,_,y⟩:=iK z;exact s1.fdj j a (.inl ha) y
         .obtain⟨j,_,y⟩:=iK z;exact s1.fdj j a (.inl ha) y
        have rfz:aF G H1 (wn oc (pick S1 js) Frc) (fzL ds) vs []:=by
         refine r1.fz2 ⟨frees,mfree⟩ ?_ (.inl hbro);by_cases hbw:aD ds=true
         .exact .inl hbw
         .refine .inr λa ha=>⟨λz=>hbw z.1,λ⟨i,_,z⟩=>?_,λ⟨i,_,z⟩=>?_⟩
          .obtain⟨i1,o1,y1⟩:=ha
           obtain⟨i2,o2,y2⟩:=hSc z;rw[s1.dj i1 i2 a y1 y2,o2]at o1;cases o1
          .obtain⟨i1,o1,y1⟩:=ha
           obtain⟨i2,o2,y2⟩:=hSc z;rw[s1.dj i1 i2 a y1 y2,o2]at o1;cases o1
        have sc:Sta G H1 oc ((os++fzL ds).map some) ((us++vs).map some) (pick S1 js) Frc:=by
         refine⟨by simp[l1,hul,rfz.length],λi d0 hi=>?_,λi hi=>?_,λi=>?_,λi k a h1 h2=>?_,λi a h1 h2=>h1.2.2 ⟨i,h2⟩,λa ha=>?_⟩
         .have hi:=kY hi
          by_cases hlt:i<js.length
          .obtain⟨dd,q1,q2⟩:=g1 i js[i] (by simp[hlt])
           rw[List.getElem?_append_left (by omega),q1]at hi;cases hi;obtain⟨v,q3,q4,q5⟩:=s1.sl _ _ q2;have hcc:=(by simpa[clean]using q5:aG d0=true/\aC d0=true);have huk:∃u,us[i]? =some u:=⟨us[i],by simp[hul,hlt]⟩;obtain⟨u,hu⟩:=huk;have:=hua i js[i] u (by simp[hlt]) hu;rw[q3]at this;cases this;refine⟨v,eE (by rw[List.getElem?_append_left (by omega)];exact hu),?_,q5⟩;have:pick S1 js i=S1 js[i]:=by unfold pick;rw[List.getElem?_eq_getElem hlt]
           rw[this];have ev:Evo H1 H1 (wn ob S1 (plus M Fr)) (wn oc (pick S1 js) Frc):=⟨λb u h f=>⟨h,frees b f⟩,λ_ _ h=>h⟩;exact q4.mono ev (.inl hcc.1) (.inl hcc.2) λ_ _ _ h=>h
          .rw[List.getElem?_append_right (by omega)]at hi
           obtain⟨x,M',q1,q2,q3⟩:=rfz.get hi;have:M'=[]:=by simpa using q3
           subst this;refine⟨x,eE (by rw[List.getElem?_append_right (by omega),hul,←l1];exact q1),?_,by simp[clean,jl (gB ds) hi,jr (gA ds) hi]⟩;have:pick S1 js i=[]:=by unfold pick;rw[List.getElem?_eq_none (by omega)]
           rw[this];exact q2
         .unfold pick
          split
          .rename_i j hj'
           exfalso;obtain⟨dd,q1,q2⟩:=g1 i j hj';exact hi dd (eE (by rw[List.getElem?_append_left (by rw[l1];exact(List.getElem?_eq_some_iff.mp hj').1)];exact q1))
          .rfl
         .unfold pick
          split
          .exact s1.nd _
          .exact List.nodup_nil
         .obtain⟨j1,e1,y1⟩:=iK h1
          obtain⟨j2,e2,y2⟩:=iK h2;have:=s1.dj j1 j2 a y1 y2;rw[this,←e2]at e1;exact(List.getElem?_inj (by
           cases hh:js[i]? with
           |none=>rw[hh,e2]at e1;cases e1
           |some _=>exact(List.getElem?_eq_some_iff.mp hh).1) hj).mp e1
         .rcases ha.2.1 with y|⟨i,y⟩
          .exact s1.fdm a (.inr y)
          .exact s1.mu y
        refine⟨os++fzL ds,pick S1 js,Frc,sc,λi hi=>?_,d1,ds1,h3,λv H2 Mc Sc s2 r2 c2 n2 fm2 m2=>?_⟩
        .unfold pick
         split
         .rename_i j hj'
          rw[hp i (List.getElem?_eq_some_iff.mp hj').1]at hi;cases hi
         .rfl
        .have l2:ds1.length=(os++fzL ds).length:=by
          have h1:=s2.len;have h2:=sc.len;simp only[List.length_map]at h1 h2;rw[h1,←h2]
         have kept:∀b u,H1 b=some u->¬inS (pick S1 js) b->H2 b=some u:=λb u hb n=>m2.kp b u hb n (by simp);have newc:∀{i b},b∈Sc i->inS (pick S1 js) b∨H1 b=none:=λ{i b} z=>(m2.gr i b z).imp id λy=>y.resolve_left (by simp);have nfr:∀{b},Fr b->¬inS (pick S1 js) b:=λ{b} z ⟨i,y⟩=>by obtain⟨j,_,y⟩:=iK y;exact s1.fdj j b (.inr z) y
         have notin:∀{j b},j∉js->b∈S1 j->¬inS (pick S1 js) b:=λ{j b} hn z ⟨i,y⟩=>by
          obtain⟨k,e,y⟩:=iK y;rw[s1.dj j k b z y]at hn;exact hn (List.mem_of_getElem? e)
         have mu1:∀{i b},b∈S1 i->H1 b≠none:=λ{i b} z y=>by obtain⟨o,ho,_⟩:=s1.mu z;rw[y]at ho;cases ho
         have ev:Evo H1 H2 (wn ob S1 (plus M Fr)) (wn ob (back S1 js Sc) (plus Mc Fr)):=by
          refine⟨λb u hb f=>?_,λb xs h=>?_⟩
          .have n1:¬inS (pick S1 js) b:=λz=>f.2.2 (hScin z)
           have n2:∀i,b∉back S1 js Sc i:=λi z=>by
            rcases jO z with⟨k,_,y⟩|⟨_,y⟩
            .rcases newc y with y|y
             .exact n1 y
             .rw[hb]at y;cases y
            .exact owned y f
           refine⟨kept b u hb n1,λz=>?_,λ⟨i,_,z⟩=>n2 i z,λ⟨i,_,z⟩=>n2 i z⟩;rcases z with z|z
           .rcases fm2 b z with y|y
            .exact n1 y
            .rw[hb]at y;cases y
           .exact f.1 (.inr z)
          .have no:∀u,H1 b=some u->muO u=false->H2 b=some u:=λu hu mu=>kept b u hu λ⟨i,z⟩=>by
            obtain⟨j,_,z⟩:=iK z;obtain⟨o,ho,hm⟩:=s1.mu z;rw[hu]at ho;cases ho;rw[mu]at hm;cases hm
           exact no _ h rfl
         have conv:∀(e:D)(x:V)(L:List Addr),(aD ds=true∨gk e=true)->clean e=true->Rep G H2 (wn oc Sc (plus Mc Frc)) e x L->Rep G H2 (wn ob (back S1 js Sc) (plus Mc Fr)) e x L:=λe x L hc hcl r=>by
          rcases hc with hc|hc
          .have hcc:=(by simpa[clean]using hcl:aG e=true/\aC e=true)
           have ev':Evo H2 H2 (wn oc Sc (plus Mc Frc)) (wn ob (back S1 js Sc) (plus Mc Fr)):=⟨λb u hb f=>?_,λ_ _ h=>h⟩
           .exact r.mono ev' (.inl hcc.1) (.inl hcc.2) λ_ _ _ h=>h
           .have nSc:∀i,b∉Sc i:=λi z=>by
             cases hoi:oc i with
             |false=>exact f.2.1 ⟨i,hoi,z⟩
             |true=>exact f.2.2 ⟨i,hoi,z⟩
            have nb:∀j,b∉back S1 js Sc j:=λj z=>by
             rcases jO z with⟨k,_,y⟩|⟨hn,y⟩
             .exact nSc k y
             .exact f.1 (.inr ⟨hc,.inr ⟨j,y⟩,notin hn y⟩)
            refine⟨hb,λz=>?_,λ⟨i,_,z⟩=>nb i z,λ⟨i,_,z⟩=>nb i z⟩;rcases z with z|z
            .exact f.1 (.inl z)
            .exact f.1 (.inr ⟨hc,.inl z,nfr z⟩)
          .exact r.own hc
         have hsl:∀(j:Nat)(d0:D),(lQ js ds1 ρ1)[j]? =some (some d0)->∃v,σ[j]? =some (some v)/\Rep G H2 (wn ob (back S1 js Sc) (plus Mc Fr)) d0 v (back S1 js Sc j)/\clean d0=true:=λj d0 hj0=>by
          by_cases hin:j∈js
          .obtain⟨k,hk⟩:=List.mem_iff_getElem?.mp hin
           have hkl:k<js.length:=(List.getElem?_eq_some_iff.mp hk).1;obtain⟨dd,q1,q2⟩:=g1 k j hk;have hjl:j<ρ1.length:=(List.getElem?_eq_some_iff.mp q2).1;have hk1:k<ds1.length:=by rw[l2,List.length_append];omega
           rw[uz hj hk (d:=ds1[k]) (by simp[hk1]) hjl]at hj0;cases hj0;obtain⟨v,q3,q4,q5⟩:=s2.sl k ds1[k] (eE (by simp[hk1]));have q3:=kY q3;rw[List.getElem?_append_left (by omega)]at q3;refine⟨v,hua k j v hk q3,?_,q5⟩;rw[Jv hj hk];refine conv _ _ _ (hcl.imp id λz=>wY z.2 (by simp[hk1]) hkl) q5 q4
          .rw[lL hin]at hj0
           obtain⟨v,q1,q2,q3⟩:=s1.sl j d0 hj0;have hcc:=(by simpa[clean]using q3:aG d0=true/\aC d0=true);refine⟨v,q1,?_,q3⟩;rw[wD hin];exact q2.mono ev (.inl hcc.1) (.inl hcc.2) λc hc u hu=>kept c u hu (notin hin hc)
         refine q v H2 Mc (back S1 js Sc) ⟨?_,hsl,?_,?_,?_,?_,?_⟩ (conv _ _ _ (hcl.imp id λz=>z.1) c2 r2) n2 ?_
         .rw[vN];exact s1.len
         .intro j hj0
          by_cases hin:j∈js
          .obtain⟨k,hk⟩:=List.mem_iff_getElem?.mp hin
           obtain⟨dd,q1,q2⟩:=g1 k j hk;have hjl:j<ρ1.length:=(List.getElem?_eq_some_iff.mp q2).1;have hkl:k<js.length:=(List.getElem?_eq_some_iff.mp hk).1;have hk1:k<ds1.length:=by rw[l2,List.length_append];omega
           exact absurd (uz hj hk (d:=ds1[k]) (by simp[hk1]) hjl) (hj0 _)
          .rw[wD hin]
           exact s1.em j λd0=>by have:=hj0 d0;rwa[lL hin]at this
         .intro j
          unfold back;split
          .exact s2.nd _
          .exact s1.nd j
         .intro i k a y1 y2
          rcases jO y1 with⟨i1,e1,z1⟩|⟨e1,z1⟩<;>rcases jO y2 with⟨i2,e2,z2⟩|⟨e2,z2⟩
          .have:=s2.dj i1 i2 a z1 z2
           rw[this,e2]at e1;exact(Option.some.inj e1).symm
          .rcases newc z1 with y|y
           .exact absurd y (notin e2 z2)
           .exact absurd y (mu1 z2)
          .rcases newc z2 with y|y
           .exact absurd y (notin e1 z1)
           .exact absurd y (mu1 z1)
          .exact s1.dj i k a z1 z2
         .intro j a ha z
          rcases jO z with⟨i,_,y⟩|⟨hn,y⟩
          .rcases ha with ha|ha
           .exact s2.fdj i a (.inl ha) y
           .rcases newc y with y|y
            .exact nfr ha y
            .obtain⟨o,ho,_⟩:=s1.fdm a (.inr ha)
             rw[y]at ho;cases ho
          .rcases ha with ha|ha
           .rcases fm2 a ha with y'|y'
            .exact notin hn y y'
            .exact mu1 y y'
           .exact s1.fdj j a (.inr ha) y
         .intro a ha
          rcases ha with ha|ha
          .exact r2.dom a ha
          .obtain⟨o,ho,hm⟩:=s1.fdm a (.inr ha)
           exact⟨o,kept a o ho (nfr ha),hm⟩
         .have ef2:Eff ob H1 H2 S1 (back S1 js Sc) Mc:=by
           refine⟨λb u hb n=>kept b u hb λz=>n (hScin z),λi hi=>wD (λz=>by rw[ho i z]at hi;cases hi),λi a hi z=>?_,λa ha=>(fm2 a ha).imp (λy=>hScin y) id⟩;rcases jO z with⟨k,_,y⟩|⟨_,y⟩
           .exact(newc y).imp (λy=>hScin y) id
           .exact .inl ⟨i,hi,y⟩
          exact(ef1.trans ef2).same (Same.refl _) λc hc=>.inl (List.mem_append_right _ hc)
       .cases e
     .cases e
 .cases e
theorem bw(js:List Nat){e:Expr}{es:List Expr}{p pos:Pos}{k:Nat}{x:Str}{ps:List Str}{oc pr:Nat->Bool}{F:List D->Option (D×List D)}{f:En->Option (List D×En)}(C:∀c,Cal (X c).prog (X c).w (X c).K (X c).mg (X c).base k x ps (spI G oc pr F))(hr:∀c,jd k (X c).A)(ha:PVM X G ob (e::es) js f)(hj:js.Nodup:=by decide)(ho:∀j∈js,ob j=true:=by decide)(hp:∀i,i<js.length->pr i=true:=by decide)(hg:∀c,Gl (X c) x:=by intro _;rfl)(hdb:(x==("__debug__":Str))=false:=by decide)(he:∀c,starEach (e::es) (X c).env=(false,eval e (X c).env)::starEach es (X c).env:=by intro _;rfl)(hpl:∀c,(backTo pos (starEach es (X c).env)).any (·.1)=false:=by intro _;rfl) :
 PVe X G ob (.Call (.Name x p) (e::es) [] pos) (eIo F js f):=let⟨t,a1,a2⟩:=ha.ex;⟨_,λc=>Gn (C c) (hr c) (hg c) (a1 c) hdb (he c) (hpl c),N6 hj ho hp a2⟩
end
def kids:D->List D
 |.tup ds=>ds
 |.lst _ ds=>ds
 |.dct _ _ ds=>ds
 |.ins _ _ _ ds=>ds
 |_=>[]
def Jf:D->List D->D
 |.tup _,es=>.tup es
 |.lst m _,es=>.lst m es
 |.dct m ks _,es=>.dct m ks es
 |.ins m c fs _,es=>.ins m c fs es
 |d,_=>d
def rW:List Nat->D->Option D
 |[],d=>some d
 |j::p,d=>((kids d)[j]?).bind (rW p)
def lK:List Nat->D->D->D
 |[],e,_=>e
 |j::p,e,d=>match(kids d)[j]? with
  |some c=>Jf d ((kids d).set j (lK p e c))
  |none=>d
theorem Evo.trans{H H1 H2:Hp}{W W1 W2:Wn}(a:Evo H H1 W W1)(b:Evo H1 H2 W1 W2):Evo H H2 W W2:=⟨λc u h f=>let⟨h1,f1⟩:=a.k c u h f;b.k c u h1 f1,λc xs h=>b.t c xs (a.t c xs h)⟩
structure Foc(G:Gc)(H:Hp)(W:Wn)(d0:D)(v0:V)(L:List Addr)(p:List Nat)(d:D)(v:V)(M:List Addr):Prop where
 r:Rep G H W d v M
 b:∃A B,L=A++(M++B)/\∀H' W' d' M',Evo H H' W W'->(∀c∈A++B,∀u,H c=some u->H' c=some u)->Rep G H' W' d' v M'->Rep G H' W' (lK p d' d0) v0 (A++(M'++B))
theorem Foc.nil{G:Gc}{H:Hp}{W:Wn}{d:D}{v:V}{L:List Addr}(r:Rep G H W d v L):Foc G H W d v L [] d v L:=⟨r,[],[],by simp,λH' W' d' M' _ _ h=>by simpa[lK]using h⟩
theorem Foc.mono{G:Gc}{H H1:Hp}{W W1:Wn}{d0 d:D}{v0 v:V}{L M:List Addr}{p:List Nat}(f:Foc G H W d0 v0 L p d v M)(hc:clean d=true∨Up H H1 W W1)(e:Evo H H1 W W1)(k:∀c∈L,∀u,H c=some u->H1 c=some u):Foc G H1 W1 d0 v0 L p d v M:=by
 obtain⟨A,B,hL,hb⟩:=f.b;refine⟨?_,A,B,hL,λH' W' d' M' e' k' r'=>hb H' W' d' M' (e.trans e') (λc hc u hu=>k' c hc u (k c ?_ u hu)) r'⟩
 .rcases hc with hc|hc
  .have hcc:=(by simpa[clean]using hc:aG d=true/\aC d=true)
   exact f.r.mono e (.inl hcc.1) (.inl hcc.2) λc hc u hu=>k c (by rw[hL];simp[hc]) u hu
  .exact f.r.up hc
 .rw[hL]
  simp only[List.mem_append]at hc⊢;rcases hc with z|z<;>simp[z]
theorem qw{m:Mk}{ds:List D}(h:clean (.lst m ds)=true):aD ds=true/\aH ds=true:=by simp[clean,aG,aC]at h;exact⟨h.1.2,h.2.2⟩
theorem jq{a b:List D}:aD (a++b)=(aD a&&aD b):=by
 induction a with
 |nil=>rfl
 |cons d r ih=>rw[List.cons_append,aD,aD,ih,Bool.and_assoc]
theorem jk{a b:List D}:aH (a++b)=(aH a&&aH b):=by
 induction a with
 |nil=>rfl
 |cons d r ih=>rw[List.cons_append,aH,aH,ih,Bool.and_assoc]
theorem aF.kid{G:Gc}{H:Hp}{W:Wn}{ds:List D}{xs:List V}{L:List Addr}{j:Nat}{c:D}(hr:aF G H W ds xs L)(hb:aD ds=true)(ho:aH ds=true)(e:ds[j]? =some c) :
  ∃x A M B,xs[j]? =some x/\L=A++(M++B)/\Rep G H W c x M/\∀H' W' d' M',Evo H H' W W'->(∀b∈A++B,∀u,H b=some u->H' b=some u)->Rep G H' W' d' x M'->aF G H' W' (ds.set j d') xs (A++(M'++B)):=by
 obtain⟨P,Q,x,ys,zs,LA,M1,LB,rfl,hlp,rfl,hly,rfl,h1,h2,h3⟩:=hr.at e;simp only[jq,jk,aD,aH,Bool.and_eq_true]at hb ho;refine⟨x,LA,M1,LB,by rw[List.getElem?_append_right (by omega),hly,Nat.sub_self];rfl,rfl,h2,λH' W' d' M' ev kp r'=>?_⟩;rw[←hlp,List.set_append_right _ _ (Nat.le_refl _),Nat.sub_self];exact aF.append (h1.mono ev (.inl hb.1) (.inl ho.1) λb hb u hu=>kp b (List.mem_append_left _ hb) u hu) (aF.cons r' (h3.mono ev (.inl hb.2.2) (.inl ho.2.2) λb hb u hu=>kp b (List.mem_append_right _ hb) u hu))
section
variable{G:Gc}{H:Hp}{W:Wn}{c:D}{v:V}{L:List Addr}{j:Nat}
theorem Foc.dct{ks:List Key}{ds:List D}(r:Rep G H W (.dct .own ks ds) v L)(hc:clean (.dct .own ks ds)=true)(e:ds[j]? =some c):∃a kvs x M,v= .ref a/\H a=some (.dK kvs)/\(kvs.map (·.1)=ks/\ks.Nodup)/\(kvs.map (·.2))[j]? =some x/\Foc G H W (.dct .own ks ds) v L [j] c x M:=by
 rw[Rep]at r;obtain⟨a,kvs,N,rfl,hk,hr,ha,rfl⟩:=r;have hcc:aD ds=true/\aH ds=true:=by simp[clean,aG,aC]at hc;exact hc
 obtain⟨x,A,M,B,hx,rfl,rx,hb⟩:=hr.kid hcc.1 hcc.2 e;refine⟨a,kvs,x,M,rfl,ha,hk,hx,rx,a::A,B,by simp,λH' W' d' M' ev kp r'=>?_⟩;have hset:lK [j] d' (.dct .own ks ds)= .dct .own ks (ds.set j d'):=by simp only[lK,kids,e,Jf]
 rw[hset,Rep];exact⟨a,kvs,A++(M'++B),rfl,hk,hb H' W' d' M' ev (λb hb u hu=>kp b (List.mem_cons_of_mem _ hb) u hu) r',kp a (by simp) _ ha,by simp⟩
theorem Foc.ins{cl:Str}{fs:List Str}{ds:List D}(r:Rep G H W (.ins .own cl fs ds) v L)(hc:clean (.ins .own cl fs ds)=true)(e:ds[j]? =some c):∃a C dx kvs x M,v= .ref a/\G.mg cl=some (.ref C)/\H a=some (.ins C dx kvs)/\kvs.map (·.1)=fs/\(kvs.map (·.2))[j]? =some x/\Foc G H W (.ins .own cl fs ds) v L [j] c x M:=by
 rw[Rep]at r;obtain⟨a,C,dx,kvs,N,rfl,hC,hk,hr,ha,rfl⟩:=r;have hcc:aD ds=true/\aH ds=true:=by simp[clean,aG,aC]at hc;exact hc
 obtain⟨x,A,M,B,hx,rfl,rx,hb⟩:=hr.kid hcc.1 hcc.2 e;refine⟨a,C,dx,kvs,x,M,rfl,hC,ha,hk,hx,rx,a::A,B,by simp,λH' W' d' M' ev kp r'=>?_⟩;have hset:lK [j] d' (.ins .own cl fs ds)= .ins .own cl fs (ds.set j d'):=by simp only[lK,kids,e,Jf]
 rw[hset,Rep];exact⟨a,C,dx,kvs,A++(M'++B),rfl,hC,hk,hb H' W' d' M' ev (λb hb u hu=>kp b (List.mem_cons_of_mem _ hb) u hu) r',kp a (by simp) _ ha,by simp⟩
end
def RfP(G:Gc)(ob:Nat->Bool)(t:TE)(i:Nat)(pf:En->Option (List Nat)):Prop:=∀(ρ:En)(p:List Nat),pf ρ=some p->∀(σ:L2.St)(H:Hp)(S:Ad)(Fr:Addr->Prop),Sta G H ob ρ σ S Fr->∃d0 d,ρ[i]? =some (some d0)/\rW p d0=some d/\∀Q:VK,
 (∀v v0 H' M,Same H H'->σ[i]? =some (some v0)->Foc G H' (wn ob S Fr) d0 v0 (S i) p d v M->Q v H')->t σ H Q
structure PVP{ι:Type}(X:ι->Cx)(G:Gc)(ob:Nat->Bool)(e:Expr)(i:Nat)(pf:En->Option (List Nat)):Prop where
 mk::(ex:∃t,(∀c,PE (X c) e t)/\RfP G ob t i pf)
def pF(i:Nat):En->Option (List Nat):=λρ=>match ρ[i]? with
 |some (some _)=>some []
 |_=>none
section
variable{ι:Type}{X:ι->Cx}{G:Gc}{ob P:Nat->Bool}
theorem jf(i:Nat){x:Str}{pos:Pos}(hN:∀c,(X c).N[i]? =some x:=by intro _;rfl)(hv:∀c,Vis (X c).env.scope x:=by intro _;first|exact Or.inl rfl|exact Or.inr (Or.inl rfl)|exact Or.inr (Or.inr rfl))(hd:(x==("__debug__":Str))=false:=by decide)
  (hcd:(x==("__classdict__":Str))=false:=by decide):PVP X G ob (.Name x pos) i (pF i):=by
 refine⟨_,λc=>pv i (hN c) (hv c) hd hcd,λρ p e σ H S Fr s=>?_⟩;unfold pF at e;split at e
 .rename_i d h1
  cases e;obtain⟨v,h2,h3,h4⟩:=s.sl i d h1;exact⟨d,d,h1,rfl,λQ q=>⟨v,h2,q v v H _ (Same.refl H) h2 (.nil h3)⟩⟩
 .cases e
theorem qg{d0:D}:∀{p:List Nat}{d:D},clean d0=true->rW p d0=some d->clean d=true:=by
 intro p
 induction p generalizing d0 with
 |nil=>intro d h e;cases e;exact h
 |cons j p ih=>
  intro d h e;simp only[rW]at e;cases h1:(kids d0)[j]? with
  |none=>simp[h1]at e
  |some c=>
   have e:rW p c=some d:=by simpa[h1]using e
   refine ih ?_ e;have hk:aD (kids d0)=true/\aH (kids d0)=true:=by
    cases d0<;>simp[kids,clean,aG,aC,aD,aH]at h h1⊢<;>(try exact h)<;>exact⟨h.1.2,h.2.2⟩
   simp[clean,jl hk.1 h1,jr hk.2 h1]
def iT:D->Option Key
 |.int i=>some (.inl i)
 |.str x=>some (.inr x)
 |_=>none
def fO(ks:List Key)(k:Key):Option Nat:=ks.findIdx? λx=>decide (x=k)
def ixP:D->D->Option Nat
 |.lst .own ds,.int i=>ixN ds.length i
 |.tup ds,.int i=>ixN ds.length i
 |.dct .own ks ds,k=>(iT k).bind λk=>(fO ks k).bind λj=>if j<ds.length then some j else none
 |_,_=>none
def RM(i:Nat)(pf:En->Option (List Nat))(fk:En->Option D):En->Option (List Nat):=λρ=>(pf ρ).bind λp=>(fk ρ).bind λk=>match ρ[i]? with
 |some (some d0)=>(rW p d0).bind λd=>(ixP d k).bind λj=>if j<(kids d).length then some (p++[j])else none
 |_=>none
end
section
variable{ι:Type}{X:ι->Cx}{G:Gc}{ob P:Nat->Bool}
def Ou:R2:=λx y H Q=>∃a v,x= .ref a/\o_ H a y (some v)/\Q v H
theorem Ku{Y:Cx}(hu:Y.A.units+1<cLine):IxR Y Ou:=by
 intro value slice pins s σ H x y v u Q I rx ry h hs;obtain⟨a,z,rfl,g,q⟩:=h;cases rx;exact tail_any (yu I g) PySem.F.slot_dict_getitem.lookup (Ew hu I g ry λw' s3 I3 rw'=>⟨z,H,I3,rw',q⟩) hs
theorem Pu{Y:Cx}(hu:Y.A.units+1<cLine):IxR Y (λx y H Q=>rIx Y.K x y H Q∨Ou x y H Q):=NP.or (Ku hu)
theorem t8:∀{kvs:List (Key×V)}{k:Key}{j:Nat},fO (kvs.map (·.1)) k=some j->kJ kvs k=(kvs.map (·.2))[j]?
 |[],k,j,h=>by simp[fO]at h
 |(k0,v)::r,k,j,h=>by
  simp only[List.map_cons,fO,List.findIdx?_cons]at h;by_cases e:k0=k
  .subst e
   simp at h;subst h;simp[kJ]
  .rw[decide_eq_false e]at h
   simp only[Bool.false_eq_true,if_false]at h;cases h1:(r.map (·.1)).findIdx? (λx=>decide (x=k))with
   |none=>rw[h1]at h;cases h
   |some i=>
    rw[h1]at h;have:i+1=j:=by simpa using h
    subst this;have ih:=t8 (kvs:=r) (k:=k) (j:=i) h1;simp only[kJ,List.find?_cons,decide_eq_false e,List.map_cons,List.getElem?_cons_succ];exact ih
theorem vh:∀{kvs:List (Key×V)}{k:Key},fO (kvs.map (·.1)) k=none->kJ kvs k=none
 |[],k,h=>rfl
 |(k0,v)::r,k,h=>by
  simp only[List.map_cons,fO,List.findIdx?_cons]at h;by_cases e:k0=k
  .subst e
   simp at h
  .rw[decide_eq_false e]at h
   simp only[Bool.false_eq_true,if_false]at h;have h1:(r.map (·.1)).findIdx? (λx=>decide (x=k))=none:=by
    cases h1:(r.map (·.1)).findIdx? (λx=>decide (x=k))with
    |none=>rfl
    |some i=>rw[h1]at h;cases h
   have ih:=vh (kvs:=r) (k:=k) h1;simp only[kJ,List.find?_cons,decide_eq_false e];exact ih
theorem ou{G:Gc}{H:Hp}{W:Wn}{d:D}{v:V}{L:List Addr}{k:Key}(r:Rep G H W d v L)(h:iT d=some k):v=kV k:=by
 cases d<;>simp[iT]at h<;>subst h<;>rw[Rep]at r<;>exact r.1
def MuV(G:Gc)(r:V->List V->Hp->VK->Prop)(op:D->List D->Option (D×D)):Prop:=∀(d:D)(es:List D)(d' res:D),op d es=some (d',res)->∀(v:V)(xs:List V)(H:Hp)(W:Wn)(M N:List Addr),Rep G H W d v M->aF G H W es xs N->(M++N).Nodup->(∀a∈M,¬W.free a)->
 clean d=true->aD es=true->aH es=true->∀Q:VK,(∀x H' M' R,(∀b u,H b=some u->b∉M->H' b=some u)->(∀W',Evo H H' W W'->Rep G H' W' d' v M'/\Rep G H' W' res x R)->(M'++R).Nodup->(∀a∈M'++R,a∈M∨a∈N∨H a=none)->clean d'=true->clean res=true->Q x H')->r v xs H Q
theorem Aw{d0 e:D}:∀{p:List Nat},clean d0=true->clean e=true->clean (lK p e d0)=true:=by
 intro p
 induction p generalizing d0 with
 |nil=>intro _ h;exact h
 |cons j p ih=>
  intro h he;simp only[lK];cases h1:(kids d0)[j]? with
  |none=>exact h
  |some c=>
   have hc:clean c=true:=qg (p:=[j]) h (by simp[rW,h1]);have:=ih (d0:=c) hc he;have hset:∀{ds:List D}{j:Nat}{x:D},aD ds=true->aH ds=true->clean x=true->aD (ds.set j x)=true/\aH (ds.set j x)=true:=λ{ds}=>by
    induction ds with
    |nil=>intro j x a b _;simp[a,b]
    |cons y r ihr=>
     intro j x a b cx;simp only[aD,aH,Bool.and_eq_true]at a b;have cx':=(by simpa[clean]using cx:aG x=true/\aC x=true);cases j with
     |zero=>simp[aD,aH,cx',a,b]
     |succ j=>simp only[List.set_cons_succ,aD,aH,Bool.and_eq_true];exact⟨⟨a.1,(ihr a.2 b.2 cx).1⟩,⟨b.1,(ihr a.2 b.2 cx).2⟩⟩
   cases d0<;>simp only[kids,List.getElem?_nil]at h1<;>(try cases h1)<;>simp only[Jf,kids]<;>simp[clean,aG,aC]at h⊢
   .exact⟨(hset h.1 h.2 this).1,(hset h.1 h.2 this).2⟩
   .exact⟨⟨h.1.1,(hset h.1.2 h.2.2 this).1⟩,h.2.1,(hset h.1.2 h.2.2 this).2⟩
   .exact⟨⟨h.1.1,(hset h.1.2 h.2.2 this).1⟩,h.2.1,(hset h.1.2 h.2.2 this).2⟩
   .exact⟨⟨h.1.1,(hset h.1.2 h.2.2 this).1⟩,h.2.1,(hset h.1.2 h.2.2 this).2⟩
theorem Sta.mut{G:Gc}{H H':Hp}{ρ:En}{σ:L2.St}{S:Ad}{Fr:Addr->Prop}{i:Nat}{p:List Nat}{d0 d d' res:D}{v v0 x:V}{M N M' R:List Addr}(s:Sta G H ob ρ σ S (plus N Fr))(e:ρ[i]? =some (some d0))(hv0:σ[i]? =some (some v0))(foc:Foc G H (wn ob S (plus N Fr)) d0 v0 (S i) p d v M)
  (hF:∀a∈N,¬Fr a) (kp:∀b u,H b=some u->b∉M->H' b=some u) (hr:∀W',Evo H H' (wn ob S (plus N Fr)) W'->Rep G H' W' d' v M'/\Rep G H' W' res x R) (nd:(M'++R).Nodup) (gr:∀a∈M'++R,a∈M∨a∈N∨H a=none) (hc:clean d'=true) :
  ∃S',Sta G H' ob (ρ.set i (some (lK p d' d0))) σ S' (plus R Fr)/\Rep G H' (wn ob S' (plus R Fr)) res x R/\(∀j,j≠i->S' j=S j)/\(∀a∈S' i,a∈S i∨a∈N∨H a=none)/\(∀a∈R,a∈S i∨a∈N∨H a=none)/\(∀b u,H b=some u->b∉S i->H' b=some u):=by
 obtain⟨A,B,hL,hb⟩:=foc.b;have hil:i<ρ.length:=(List.getElem?_eq_some_iff.mp e).1;have hMS:∀a∈M,a∈S i:=λa ha=>by rw[hL];simp[ha]
 have hAB:∀a∈A++B,a∈S i/\a∉M:=λa ha=>by
  have hn:=s.nd i;rw[hL]at hn;have h1:=List.nodup_append.mp hn;have h2:=List.nodup_append.mp h1.2.1;rcases List.mem_append.mp ha with z|z
  .exact⟨by rw[hL];simp[z],λy=>h1.2.2 a z a (by simp[y]) rfl⟩
  .exact⟨by rw[hL];simp[z],λy=>h2.2.2 a y a z rfl⟩
 have grS:∀a∈M'++R,∀j,j≠i->a∉S j:=λa ha j hj z=>by
  rcases gr a ha with y|y|y
  .exact hj (s.dj j i a z (hMS a y))
  .exact s.fdj j a (.inl y) z
  .obtain⟨o,ho,_⟩:=s.mu z;rw[y]at ho;cases ho
 have grF:∀a∈M'++R,¬Fr a:=λa ha z=>by
  rcases gr a ha with y|y|y
  .exact s.fdj i a (.inr z) (hMS a y)
  .exact hF a y z
  .obtain⟨o,ho,_⟩:=s.fdm a (.inr z);rw[y]at ho;cases ho
 have grAB:∀a∈M'++R,a∉A++B:=λa ha z=>by
  obtain⟨z1,z2⟩:=hAB a z;rcases gr a ha with y|y|y
  .exact z2 y
  .exact s.fdj i a (.inl y) z1
  .obtain⟨o,ho,_⟩:=s.mu z1;rw[y]at ho;cases ho
 let S':=gW S i (A++(M'++B))
 have hS'i:∀a∈S' i,a∈S i∨a∈N∨H a=none:=λa ha=>by
  have ha:a∈gW S i (A++(M'++B)) i:=ha;rw[dw]at ha;simp only[List.mem_append]at ha;rcases ha with z|z|z
  .exact .inl (hAB a (List.mem_append_left _ z)).1
  .exact(gr a (List.mem_append_left _ z)).imp (hMS a) id
  .exact .inl (hAB a (List.mem_append_right _ z)).1
 have hfree:∀b u,H b=some u->(wn ob S (plus N Fr)).free b->H' b=some u/\(wn ob S' (plus R Fr)).free b:=λb u hb f=>by
  have nS:∀j,b∉S j:=λj z=>by
   cases ho:ob j with
   |false=>exact f.2.1 ⟨j,ho,z⟩
   |true=>exact f.2.2 ⟨j,ho,z⟩
  have nS':∀j,b∉S' j:=λj z=>by
   by_cases hj:j=i
   .subst hj
    rcases hS'i b z with y|y|y
    .exact nS j y
    .exact f.1 (.inl y)
    .rw[hb]at y;cases y
   .have z:b∈gW S i (A++(M'++B)) j:=z
    rw[dH hj]at z;exact nS j z
  refine⟨kp b u hb λz=>nS i (hMS b z),λz=>?_,λ⟨j,_,z⟩=>nS' j z,λ⟨j,_,z⟩=>nS' j z⟩;rcases z with z|z
  .rcases gr b (List.mem_append_right _ z)with y|y|y
   .exact nS i (hMS b y)
   .exact f.1 (.inl y)
   .rw[hb]at y;cases y
  .exact f.1 (.inr z)
 have ev:Evo H H' (wn ob S (plus N Fr)) (wn ob S' (plus R Fr)):=⟨hfree,λb xs h=>by
  have no:∀u,H b=some u->muO u=false->H' b=some u:=λu hu mu=>kp b u hu λz=>by
   obtain⟨o,ho,hm⟩:=s.mu (hMS b z);rw[hu]at ho;cases ho;rw[mu]at hm;cases hm
  exact no _ h rfl⟩
 obtain⟨r1,r2⟩:=hr _ ev;have ndM:=List.nodup_append.mp nd;refine⟨S',⟨by simp[s.len],λj dj hj=>?_,λj hj=>?_,λj=>?_,λj k a h1 h2=>?_,λj a h1 h2=>?_,λa ha=>?_⟩,r2,λj hj=>dH hj,hS'i,λa ha=>(gr a (List.mem_append_right _ ha)).imp (hMS a) id,λb u hb n=>kp b u hb λz=>n (hMS b z)⟩
 .by_cases hji:j=i
  .subst hji
   have:lK p d' d0=dj:=by simpa[hil]using hj
   subst this;have hc0:clean d0=true:=let⟨_,_,_,h⟩:=s.sl j d0 e;h;refine⟨v0,hv0,?_,Aw hc0 hc⟩;show Rep G H' _ _ v0 (gW S j (A++(M'++B)) j);rw[dw];exact hb H' _ d' M' ev (λc hc u hu=>kp c u hu (hAB c hc).2) r1
  .rw[List.getElem?_set_ne (Ne.symm hji)]at hj
   obtain⟨w,q1,q2,q3⟩:=s.sl j dj hj;have hcc:=(by simpa[clean]using q3:aG dj=true/\aC dj=true);refine⟨w,q1,?_,q3⟩;show Rep G H' _ dj w (gW S i (A++(M'++B)) j);rw[dH hji];exact q2.mono ev (.inl hcc.1) (.inl hcc.2) λc hc u hu=>kp c u hu λz=>hji (s.dj j i c hc (hMS c z))
 .by_cases hji:j=i
  .subst hji
   exact absurd (by simp[hil]) (hj (lK p d' d0))
  .show gW S i (A++(M'++B)) j=[]
   rw[dH hji];exact s.em j λd1=>by have:=hj d1;rwa[List.getElem?_set_ne (Ne.symm hji)]at this
 .by_cases hji:j=i
  .subst hji
   show(gW S j (A++(M'++B)) j).Nodup;rw[dw];have hn:=s.nd j;rw[hL]at hn;have h1:=List.nodup_append.mp hn;have h2:=List.nodup_append.mp h1.2.1;refine dY h1.1 (dY ndM.1 h2.2.1 λa ha z=>grAB a (List.mem_append_left _ ha) (List.mem_append_right _ z)) λa ha z=>?_;rcases List.mem_append.mp z with z|z
   .exact grAB a (List.mem_append_left _ z) (List.mem_append_left _ ha)
   .exact h1.2.2 a ha a (by simp[z]) rfl
  .show(gW S i (A++(M'++B)) j).Nodup
   rw[dH hji];exact s.nd j
 .have key:∀{j:Nat}{a:Addr},j≠i->a∈S j->a∈S' i->False:=λ{j a} hj z1 z2=>by
   have z2:a∈gW S i (A++(M'++B)) i:=z2;rw[dw]at z2;simp only[List.mem_append]at z2;rcases z2 with z|z|z
   .exact hj (s.dj j i a z1 (hAB a (List.mem_append_left _ z)).1)
   .exact grS a (List.mem_append_left _ z) j hj z1
   .exact hj (s.dj j i a z1 (hAB a (List.mem_append_right _ z)).1)
  by_cases hji:j=i<;>by_cases hki:k=i
  .rw[hji,hki]
  .subst hji
   have h2:a∈gW S j (A++(M'++B)) k:=h2;rw[dH hki]at h2;exact(key hki h2 h1).elim
  .subst hki
   have h1:a∈gW S k (A++(M'++B)) j:=h1;rw[dH hji]at h1;exact(key hji h1 h2).elim
  .have h1:a∈gW S i (A++(M'++B)) j:=h1
   have h2:a∈gW S i (A++(M'++B)) k:=h2;rw[dH hji]at h1;rw[dH hki]at h2;exact s.dj j k a h1 h2
 .by_cases hji:j=i
  .subst hji
   have h2:a∈gW S j (A++(M'++B)) j:=h2;rw[dw]at h2;simp only[List.mem_append]at h2;rcases h1 with h1|h1
   .rcases h2 with z|z|z
    .exact grAB a (List.mem_append_right _ h1) (List.mem_append_left _ z)
    .exact ndM.2.2 a z a h1 rfl
    .exact grAB a (List.mem_append_right _ h1) (List.mem_append_right _ z)
   .rcases h2 with z|z|z
    .exact s.fdj j a (.inr h1) (hAB a (List.mem_append_left _ z)).1
    .exact grF a (List.mem_append_left _ z) h1
    .exact s.fdj j a (.inr h1) (hAB a (List.mem_append_right _ z)).1
  .have h2:a∈gW S i (A++(M'++B)) j:=h2
   rw[dH hji]at h2;rcases h1 with h1|h1
   .exact grS a (List.mem_append_right _ h1) j hji h2
   .exact s.fdj j a (.inr h1) h2
 .rcases ha with ha|ha
  .exact r2.dom a ha
  .obtain⟨o,ho,hm⟩:=s.fdm a (.inr ha)
   exact⟨o,kp a o ho λz=>s.fdj i a (.inr ha) (hMS a z),hm⟩
end
section
variable{ι:Type}{X:ι->Cx}{G:Gc}{ob P:Nat->Bool}
theorem sO{G:Gc}{r:V->List V->Hp->VK->Prop}{op:D->List D->Option (D×D)}{H:Hp}{ρ:En}{σ:L2.St}{S:Ad}{Fr:Addr->Prop}{i:Nat}{p:List Nat}{d0 d d' res:D}{v v0:V}{M N:List Addr}{es:List D}{xs:List V}(hm:MuV G r op)(s:Sta G H ob ρ σ S (plus N Fr))(e:ρ[i]? =some (some d0))(hv0:σ[i]? =some (some v0))(hp:rW p d0=some d)
  (foc:Foc G H (wn ob S (plus N Fr)) d0 v0 (S i) p d v M) (re:aF G H (wn ob S (plus N Fr)) es xs N) (nd:N.Nodup) (hF:∀a∈N,¬Fr a) (c1:aD es=true) (c2:aH es=true) (h:op d es=some (d',res)) {Q:VK}
  (q:∀x H' R S',Sta G H' ob (ρ.set i (some (lK p d' d0))) σ S' (plus R Fr)->Rep G H' (wn ob S' (plus R Fr)) res x R->R.Nodup->clean res=true->(∀j,j≠i->S' j=S j)->(∀a∈S' i,a∈S i∨a∈N∨H a=none)->(∀a∈R,a∈S i∨a∈N∨H a=none)->(∀b u,H b=some u->b∉S i->H' b=some u)->Q x H'):r v xs H Q:=by
 have hMS:List.Sublist M (S i):=by
  obtain⟨A,B,hL,_⟩:=foc.b;rw[hL];exact(List.sublist_append_left M B).trans (List.sublist_append_right A _)
 have hc0:clean d0=true:=let⟨_,_,_,h⟩:=s.sl i d0 e;h;refine hm d es d' res h v xs H _ M N foc.r re (dY (hMS.nodup (s.nd i)) nd λa h1 h2=>s.fdj i a (.inl h2) (hMS.subset h1)) (λa ha f=>?_) (qg hc0 hp) c1 c2 Q λx H' M' R kp hr nd' gr hc' hcr=>?_
 .cases ho:ob i with
  |false=>exact f.2.1 ⟨i,ho,hMS.subset ha⟩
  |true=>exact f.2.2 ⟨i,ho,hMS.subset ha⟩
 .obtain⟨S',q1,q2,q3,q4,q5,q6⟩:=s.mut e hv0 foc hF kp hr nd' gr hc'
  exact q x H' R S' q1 q2 (List.nodup_append.mp nd').2.1 hcr q3 q4 q5 q6
def upS(op:D->List D->Option (D×D))(i:Nat)(p:List Nat)(es:List D)(ρ:En):Option (D×En):=match ρ[i]? with
 |some (some d0)=>(rW p d0).bind λd=>if aD es=true/\aH es=true then(op d es).map λq=>(q.2,ρ.set i (some (lK p q.1 d0)))else none
 |_=>none
theorem Bg{op:D->List D->Option (D×D)}{i:Nat}{p:List Nat}{es:List D}{ρ ρ':En}{res:D}(h:upS op i p es ρ=some (res,ρ')):∃d0 d d',ρ[i]? =some (some d0)/\rW p d0=some d/\aD es=true/\aH es=true/\op d es=some (d',res)/\ρ'=ρ.set i (some (lK p d' d0)):=by
 unfold upS at h;split at h
 .rename_i d0 h1
  cases h2:rW p d0 with
  |none=>simp[h2]at h
  |some d=>
   by_cases hc:aD es=true/\aH es=true
   .cases h3:op d es with
    |none=>simp[h2,hc,h3]at h
    |some q=>
     obtain⟨d',r'⟩:=q;obtain⟨rfl,rfl⟩:r'=res/\ρ.set i (some (lK p d' d0))=ρ':=by simpa[h2,hc,h3]using h
     exact⟨d0,d,d',h1,h2,hc.1,hc.2,h3,rfl⟩
   .simp[h2,hc]at h
 .cases h
def Gf(op:D->List D->Option (D×D))(i:Nat)(pf:En->Option (List Nat))(f:En->Option (List D)):En->Option (D×En):=λρ=>(pf ρ).bind λp=>(f ρ).bind λes=>upS op i p es ρ
def HF(op:D->List D->Option (D×D))(i:Nat)(pf:En->Option (List Nat))(f:En->Option (List D)):En->Option Fl:=λρ=>(Gf op i pf f ρ).map λq=>.nx q.2
def u_(op:D->List D->Option (D×D))(i:Nat)(pf:En->Option (List Nat))(f:En->Option (List D×En)):En->Option Fl:=λρ=>(pf ρ).bind λp=>(f ρ).bind λq=>(upS op i p q.1 q.2).map λq=>.nx q.2
def Fy(G:Gc)(T:String)(op:D->List D->Option (D×D)):Prop:=∀d es q,op d es=some q->∀(v:V)(H:Hp)(W:Wn)(L:List Addr),Rep G H W d v L->tyV G.K T v H
theorem PJ{T:String}{r:V->List V->Hp->VK->Prop}{op:D->List D->Option (D×D)}{to:TE}{t:TA}{i:Nat}{pf:En->Option (List Nat)}{f:En->Option (List D)}(hm:MuV G r op)(ht:Fy G T op)(ho:RfP G ob to i pf)(ha:RfA G ob t f){ρ ρ':En}{res:D}(e:Gf op i pf f ρ=some (res,ρ'))
  {σ:L2.St} {H:Hp} {S:Ad} {Fr:Addr->Prop} (s:Sta G H ob ρ σ S Fr) {Q:VK}
  (q:∀x H' R S',Sta G H' ob ρ' σ S' (plus R Fr)->Rep G H' (wn ob S' (plus R Fr)) res x R->R.Nodup->clean res=true->(∀j,j≠i->S' j=S j)->(∀a∈S' i,a∈S i∨H a=none)->(∀a∈R,a∈S i∨H a=none)->(∀b u,H b=some u->b∉S i->H' b=some u)->Q x H'):tBM G.K T r to t σ H Q:=by
 unfold Gf at e;cases h1:pf ρ with
 |none=>simp[h1]at e
 |some p=>
  cases h2:f ρ with
  |none=>simp[h1,h2]at e
  |some es=>
   have e:upS op i p es ρ=some (res,ρ'):=by simpa[h1,h2]using e
   obtain⟨d0,d,d',g1,g2,c1,c2,g3,rfl⟩:=Bg e;obtain⟨d0',dd,k1,k2,k3⟩:=ho ρ p h1 σ H S Fr s;rw[g1]at k1;cases k1;rw[g2]at k2;cases k2;refine k3 _ λv v0 H1 M s1 hv0 foc=>⟨ht d es _ g3 v H1 _ M foc.r,?_⟩;have st1:Sta G H1 ob ρ σ S Fr:=s.grow s1 λa z=>.inl z;refine ha ρ es h2 σ H1 _ st1.rel st1.wok _ λxs H2 N s2 re fr nd=>?_;have st2:Sta G H2 ob ρ σ S (plus N Fr):=st1.grow s2 λa z=>z.elim (λz=>.inr ⟨fr a z,re.dom a z⟩) .inl;have up:Up H1 H2 (wn ob S Fr) (wn ob S (plus N Fr)):=Up.add s2 fr;have foc2:=foc.mono (.inr up) up.evo λc _ u hu=>s2 c u hu;have hF:∀a∈N,¬Fr a:=λa ha z=>by
    obtain⟨o,ho,_⟩:=st1.fdm a z;rw[fr a ha]at ho;cases ho
   have nf:∀{a},a∈S i∨a∈N∨H2 a=none->a∈S i∨H a=none:=λ{a} z=>z.imp id λz=>z.elim (λz=>s1.none' (fr a z)) λz=>(s1.trans s2).none' z;exact sO hm st2 g1 hv0 g2 foc2 re nd hF c1 c2 g3 λx H' R S' q1 q2 q3 q4 q5 q6 q7 q8=>q x H' R S' q1 q2 q3 q4 q5 (λa ha=>nf (q6 a ha)) (λa ha=>nf (q7 a ha)) λb u hb n=>q8 b u ((s1.trans s2) b u hb) n
theorem K8{T:String}{r:V->List V->Hp->VK->Prop}{op:D->List D->Option (D×D)}{to:TE}{t:TA}{i:Nat}{pf:En->Option (List Nat)}{f:En->Option (List D)}(hm:MuV G r op)(ht:Fy G T op)(ho:RfP G ob to i pf)(ha:RfA G ob t f):RfS G ob P (Fv (tBM G.K T r to t)) (HF op i pf f):=λρ r e σ H S Fr s E q=>by
 unfold HF at e;cases h1:Gf op i pf f ρ with
 |none=>simp[h1]at e
 |some p=>
  obtain⟨res,ρ'⟩:=p;have:Fl.nx ρ'=r:=by simpa[h1]using e
  subst this;refine PJ hm ht ho ha h1 s λx H' R S' q1 q2 q3 q4 q5 q6 q7 q8=>q σ H' S' (q1.lessF λa z=>.inr z) ⟨λb u hb n _=>q8 b u hb λz=>n ⟨i,z⟩,λj a z=>?_,.refl⟩;by_cases hj:j=i
  .subst hj;exact(q6 a z).imp (λz=>⟨j,z⟩) .inr
  .rw[q5 j hj]at z;exact .inl ⟨j,z⟩
theorem Gi{T:String}{r:V->List V->Hp->VK->Prop}{op:D->List D->Option (D×D)}{to:TE}{t:TA}{i:Nat}{pf:En->Option (List Nat)}{f:En->Option (List D×En)}(hob:ob i=false)(hm:MuV G r op)(ht:Fy G T op)(ho:RfP G ob to i pf)(ha:yd G ob t f)(hsame:∀ρ q,f ρ=some q->q.2[i]? =ρ[i]?):RfS G ob P (Fv (tBM G.K T r to t)) (u_ op i pf f):=λρ r e σ H S Fr s E q=>by
 unfold u_ at e;cases h1:pf ρ with
 |none=>simp[h1]at e
 |some p=>
  cases h2:f ρ with
  |none=>simp[h1,h2]at e
  |some w=>
   obtain⟨es,ρ1⟩:=w;cases h3:upS op i p es ρ1 with
   |none=>simp[h1,h2,h3]at e
   |some w=>
    obtain⟨res,ρ'⟩:=w;have:Fl.nx ρ'=r:=by simpa[h1,h2,h3]using e
    subst this;obtain⟨d0,d,d',g1,g2,c1,c2,g3,rfl⟩:=Bg h3;have hs:=hsame ρ _ h2;simp only at hs;obtain⟨d0',dd,k1,k2,k3⟩:=ho ρ p h1 σ H S Fr s;rw[←hs,g1]at k1;cases k1;rw[g2]at k2;cases k2;have hc0:clean d0=true:=let⟨_,_,_,h⟩:=s.sl i d0 (by rw[←hs];exact g1);h;refine k3 _ λv v0 H1 M s1 hv0 foc=>⟨ht d es _ g3 v H1 _ M foc.r,?_⟩;have st1:Sta G H1 ob ρ σ S Fr:=s.grow s1 λa z=>.inl z;refine ha ρ es ρ1 h2 σ H1 S Fr st1 _ λxs H2 N S2 st2 re nd ef=>?_;have foc2:=foc.mono (.inl (qg hc0 g2)) (ef.evo st1) λc hc u hu=>ef.kp c u hu λ⟨j,hj,z⟩=>by rw[←st1.dj i j c hc z,hob]at hj;cases hj
    have hSi:S2 i=S i:=ef.sn i hob;rw[←hSi]at foc2;have hF:∀a∈N,¬Fr a:=λa ha z=>by
     rcases ef.fm a ha with y|y
     .exact st1.notO z y
     .obtain⟨o,ho,_⟩:=st1.fdm a z
      rw[y]at ho;cases ho
    have old:∀{a},inO ob S a∨H1 a=none->inS S a∨H a=none:=λ{a} z=>z.imp (λ⟨k,_,z⟩=>⟨k,z⟩) λz=>s1.none' z;refine sO hm st2 g1 hv0 g2 foc2 re nd hF c1 c2 g3 λx H' R S' q1 q2 q3 q4 q5 q6 q7 q8=>q σ H' S' (q1.lessF λa z=>.inr z) ⟨λb u hb n _=>?_,λj a z=>?_,.refl⟩
    .exact q8 b u (ef.kp b u (s1 b u hb) λ⟨k,_,z⟩=>n ⟨k,z⟩) λz=>n ⟨i,by rw[←hSi];exact z⟩
    .by_cases hj:j=i
     .subst hj
      rcases q6 a z with y|y|y
      .rw[hSi]at y;exact .inl ⟨j,y⟩
      .exact(old (ef.fm a y)).imp id .inr
      .exact(old (ef.back y)).imp id .inr
     .rw[q5 j hj]at z
      cases hoj:ob j with
      |false=>rw[ef.sn j hoj]at z;exact .inl ⟨j,z⟩
      |true=>exact(old (ef.gr j a hoj z)).imp id .inr
structure MuB{ι:Type}(X:ι->Cx)(G:Gc)(T id:String)(op:D->List D->Option (D×D)):Prop where
 ex:∃r,(∀c,MtR (X c) id r)/\MuV G r op/\Fy G T op
section
variable{T name id:String}{op:D->List D->Option (D×D)}{o e:Expr}{es:List Expr}{apos cpos pos:Pos}{i:Nat}{pf:En->Option (List Nat)}
theorem JT{nm:Str}(m:MuB X G T id op)(pa:PlainAttrs T)(slot:Slot T nm id)(hty:typeOf (.builtin id)=pure (.type "method_descriptor")){f:En->Option (List D)}(ho:PVP X G ob o i pf)(ha:PVA X G ob (e::es) f)(hsw:∀c,swapsWith (.Call (.Attribute o nm apos) (e::es) [] cpos) none pos.line (X c).env=pure false:=by intro _;rfl)(hbase:∀c,attributeBase o nm (X c).env (eval o (X c).env)=eval o (X c).env:=by intro _;rfl)(hfew:∀c,((backTo cpos (starEach (e::es) (X c).env)).all (λx=>!x.1)&&(backToKw cpos (keywordEach [] (X c).env)).all (λx=>x.1.isSome)
  &&decide ((e::es).length+([]:List Keyword).length+(if([]:List Keyword).isEmpty then 0 else 1)<30))=true:=by intro _;rfl) (hline:(apos.endLine==cpos.line)=true:=by rfl) (hs:∀c,starEach (e::es) (X c).env=(false,eval e (X c).env)::starEach es (X c).env:=by intro _;rfl) (hplain:∀c,(backTo cpos (starEach es (X c).env)).any (·.1)=false:=by intro _;rfl) (hK:∀c,(X c).K=G.K:=by intro _;rfl) :
 PVS X G ob P (.Expr (.Call (.Attribute o nm apos) (e::es) [] cpos) pos) (HF op i pf f):=let⟨r,m1,m2,m3⟩:=m.ex;let⟨t,a1,a2⟩:=ho.ex;let⟨u,b1,b2⟩:=ha.ex;⟨_,λc=>(by rw[←hK c];exact BL (Hn pa slot hty (m1 c) (a1 c) (b1 c) (hbase c) (hfew c) hline (hs c) (hplain c)) (hsw c)),K8 m2 m3 a2 b2⟩
theorem yC{nm:Str}(m:MuB X G T id op)(pa:PlainAttrs T)(slot:Slot T nm id)(hty:typeOf (.builtin id)=pure (.type "method_descriptor")){f:En->Option (List D×En)}(ho:PVP X G ob o i pf)(ha:tE X G ob (e::es) f)(hsame:∀ρ q,f ρ=some q->q.2[i]? =ρ[i]?)(hob:ob i=false:=by rfl)(hsw:∀c,swapsWith (.Call (.Attribute o nm apos) (e::es) [] cpos) none pos.line (X c).env=pure false:=by intro _;rfl)(hbase:∀c,attributeBase o nm (X c).env (eval o (X c).env)=eval o (X c).env:=by intro _;rfl)(hfew:∀c,((backTo cpos (starEach (e::es) (X c).env)).all (λx=>!x.1)&&(backToKw cpos (keywordEach [] (X c).env)).all (λx=>x.1.isSome)
  &&decide ((e::es).length+([]:List Keyword).length+(if([]:List Keyword).isEmpty then 0 else 1)<30))=true:=by intro _;rfl) (hline:(apos.endLine==cpos.line)=true:=by rfl) (hs:∀c,starEach (e::es) (X c).env=(false,eval e (X c).env)::starEach es (X c).env:=by intro _;rfl) (hplain:∀c,(backTo cpos (starEach es (X c).env)).any (·.1)=false:=by intro _;rfl) (hK:∀c,(X c).K=G.K:=by intro _;rfl) :
 PVS X G ob P (.Expr (.Call (.Attribute o nm apos) (e::es) [] cpos) pos) (u_ op i pf f):=let⟨r,m1,m2,m3⟩:=m.ex;let⟨t,a1,a2⟩:=ho.ex;let⟨u,b1,b2⟩:=ha.ex;⟨_,λc=>(by rw[←hK c];exact BL (Hn pa slot hty (m1 c) (a1 c) (b1 c) (hbase c) (hfew c) hline (hs c) (hplain c)) (hsw c)),Gi hob m2 m3 a2 b2 hsame⟩
end
structure MuT{ι:Type}(X:ι->Cx)(G:Gc)(op:D->List D->Option (D×D)):Prop where
 ex:∃t:Dv,(∀c,Kv (X c) t)/\MuV G (λo xs H Q=>∃i v,xs=[i,v]/\t o i v H λH'=>Q .non H') op
def lR(op:D->List D->Option (D×D))(i:Nat)(pf:En->Option (List Nat))(fk:En->Option D):D->En->Option En:=λd ρ=>(pf ρ).bind λp=>(fk ρ).bind λk=>(upS op i p [k,d] ρ).map λq=>q.2
theorem JB{t:Dv}{op:D->List D->Option (D×D)}{to ti:TE}{i:Nat}{pf:En->Option (List Nat)}{fk:En->Option D}(hm:MuV G (λo xs H Q=>∃i v,xs=[i,v]/\t o i v H λH'=>Q .non H') op)(ho:RfP G ob to i pf)(hi:RfE G ob ti fk):RfG G ob P (i_ to ti t) (lR op i pf fk):=λd ρ ρ' e v σ H S M Fr s r nd hF Q q=>by
 unfold lR at e;cases h1:pf ρ with
 |none=>simp[h1]at e
 |some p=>
  cases h2:fk ρ with
  |none=>simp[h1,h2]at e
  |some k=>
   cases h3:upS op i p [k,d] ρ with
   |none=>simp[h1,h2,h3]at e
   |some w=>
    obtain⟨res,ρ1⟩:=w;obtain rfl:ρ1=ρ':=by simpa[h1,h2,h3]using e
    obtain⟨d0,dd,d',g1,g2,c1,c2,g3,rfl⟩:=Bg h3;obtain⟨d0',dd',k1,k2,k3⟩:=ho ρ p h1 σ H S (plus M Fr) s;rw[g1]at k1;cases k1;rw[g2]at k2;cases k2;refine k3 _ λo v0 H1 M1 s1 hv0 foc=>?_;have st1:Sta G H1 ob ρ σ S (plus M Fr):=s.grow s1 λa z=>.inl z;refine hi ρ k h2 σ H1 _ st1.rel st1.wok _ λy H2 N s2 ry fr nN=>?_;have st2:Sta G H2 ob ρ σ S (plus (N++M) Fr):=st1.grow s2 λa z=>z.elim (λz=>(List.mem_append.mp z).elim (λz=>.inr ⟨fr a z,ry.dom a z⟩) λz=>.inl (.inl z)) λz=>.inl (.inr z);have up:Up H1 H2 (wn ob S (plus M Fr)) (wn ob S (plus (N++M) Fr)):=⟨s2,λb u hb f=>⟨λz=>z.elim (λz=>(List.mem_append.mp z).elim (λz=>by rw[fr b z]at hb;cases hb) λz=>f.1 (.inl z)) λz=>f.1 (.inr z),f.2⟩,λ_ _ _ f=>f⟩;have up0:Up H H2 (wn ob S (plus M Fr)) (wn ob S (plus (N++M) Fr)):=(Up.same s1).trans up;have foc2:=foc.mono (.inr up) up.evo λc _ u hu=>s2 c u hu;have eqW:(wn ob S (plus M Fr)).add N=wn ob S (plus (N++M) Fr):=by
     show Wn.mk _ _ _=Wn.mk _ _ _;congr 1;funext a;simp only[plus,List.mem_append,eq_iff_iff,or_assoc];constructor
     .rintro(z|z)
      .exact .inl z
      .exact .inr z
     .rintro(z|z)
      .exact .inl z
      .exact .inr z
    rw[eqW]at ry;have hNM:∀a∈N,a∉M:=λa h1 h2=>by
     obtain⟨o,ho,_⟩:=r.dom a h2;rw[s1.none' (fr a h1)]at ho;cases ho
    have re:aF G H2 (wn ob S (plus (N++M) Fr)) [k,d] [y,v] (N++M):=.cons ry (.one (r.up up0));have hF2:∀a∈N++M,¬Fr a:=λa ha z=>by
     rcases List.mem_append.mp ha with y|y
     .obtain⟨o,ho,_⟩:=st1.fdm a (.inr z)
      rw[fr a y]at ho;cases ho
     .exact hF a y z
    have key:=sO hm st2 g1 hv0 g2 foc2 re (dY nN nd hNM) hF2 c1 c2 g3 (Q:=λ_ H'=>Q σ H') λx H' R S' q1 q2 q3 q4 q5 q6 q7 q8=>q σ H' S' (q1.lessF λa z=>.inr z) ⟨λb u hb n m=>?_,λj a z=>?_,.refl⟩
    .obtain⟨i1,v1,e1,k⟩:=key
     cases e1;exact k
    .exact q8 b u ((s1.trans s2) b u hb) λz=>n ⟨i,z⟩
    .by_cases hj:j=i
     .subst hj
      rcases q6 a z with y|y|y
      .exact .inl ⟨j,y⟩
      .exact(List.mem_append.mp y).elim (λy=>.inr (.inr (s1.none' (fr a y)))) λy=>.inr (.inl y)
      .exact .inr (.inr ((s1.trans s2).none' y))
     .rw[q5 j hj]at z;exact .inl ⟨j,z⟩
theorem mQ{op:D->List D->Option (D×D)}{o k:Expr}{pos:Pos}{i:Nat}{pf:En->Option (List Nat)}{fk:En->Option D}(m:MuT X G op)(ho:PVP X G ob o i pf)(hk:PV X G ob k fk)(ha:∀c,∀v,assign (.Subscript o k pos) (X c).env v=(do
 let ov ←holding [v] (eval o (X c).env)
 let iv ←holding [v,ov] (eval k (X c).env)
 standAt pos
 holding [v,ov,iv] (setItem ov iv v)
 release [v,ov,iv] []):=by intro _;intro _;rfl):PVG X G ob P (.Subscript o k pos) (lR op i pf fk):=let⟨t,m1,m2⟩:=m.ex;let⟨_,a1,a2⟩:=ho.ex;let⟨_,b1,b2⟩:=hk.ex;⟨_,λc=>NZ (a1 c) (b1 c) (m1 c) (ha c),JB m2 a2 b2⟩
theorem oW{G:Gc}{H:Hp}{W:Wn}:Rep G H W .non .non []:=by rw[Rep];exact⟨rfl,rfl⟩
theorem qu{ds:List D}(h1:aD ds=true)(h2:aH ds=true):clean (.lst .own ds)=true:=by simp[clean,aG,aC,h1,h2]
theorem CQ{G:Gc}{H:Hp}{W W':Wn}{a:Addr}{xs:List V}{ds:List D}{M:List Addr}{ys:List V}(hr:aF G H W ds xs M)(hc1:aD ds=true)(hc2:aH ds=true)(hn:a∉M)(ev:Evo H (upd H a (.lst ys)) W W'):aF G (upd H a (.lst ys)) W' ds xs M:=
 hr.mono ev (.inl hc1) (.inl hc2) λc hc u hu=>by rw[aP (show c≠a from λz=>hn (z▸hc))];exact hu
def fB:D->List D->Option (D×D)
 |.lst .own ds,[e]=>if ds.length<1000000 then some (.lst .own (ds++[e]),.non)else none
 |_,_=>none
theorem Ae{n:Nat}(h:n<1000000):n<sizeLine:=Nat.lt_of_lt_of_le h (by decide)
theorem Bk{G:Gc}:MuV G B_ fB:=λd es d' res h v xs H W M N r re nd hM hc c1 c2 Q q=>by
 unfold fB at h;split at h
 .rename_i ds e
  split at h
  .rename_i hl
   cases h;rw[Rep]at r;obtain⟨a,ys,M0,rfl,hr,ha,rfl⟩:=r;obtain⟨x,zs,N1,N2,rfl,rfl,hx,hz⟩:=re.inv;obtain⟨rfl,rfl⟩:=hz.inv0;rw[List.append_nil]at nd re;obtain⟨k1,k2⟩:=qw hc;have nd':=List.nodup_append.mp nd;have hn:=List.nodup_cons.mp nd'.1;have haN:a∉N1:=λz=>nd'.2.2 a (by simp) a z rfl;simp only[aD,aH,Bool.and_eq_true]at c1 c2;refine⟨a,ys,x,rfl,rfl,ha,Ae (by rw[←hr.length];exact hl),q .non _ (a::(M0++N1)) [] (λb u hb n=>by rw[aP (show b≠a from λz=>n (by rw[z];simp))];exact hb) (λW' ev=>⟨?_,oW⟩) ?_ (λb hb=>?_) (qu (by rw[jq];simp[k1,aD,c1]) (by rw[jk];simp[k2,aH,c2])) rfl⟩
   .rw[Rep]
    refine⟨a,ys++[x],M0++N1,rfl,(CQ hr k1 k2 hn.1 ev).append (.one (hx.mono ev (.inl c1.1) (.inl c2.1) λc hc u hu=>?_)),bc,rfl⟩;rw[aP (show c≠a from λz=>haN (z▸hc))];exact hu
   .rw[List.append_nil]
    exact nd
   .rw[List.append_nil]at hb
    rcases List.mem_cons.mp hb with z|z
    .exact .inl (by simp[z])
    .rcases List.mem_append.mp z with z|z
     .exact .inl (by simp[z])
     .exact .inr (.inl (by simp[z]))
  .cases h
 .cases h
theorem G8{T:String}{op:D->List D->Option (D×D)}(hT:T="list")(h:∀d es q,op d es=some q->∃m ds,d= .lst m ds):Fy G T op:=λd es q e v H W L r=>by
 obtain⟨m,ds,rfl⟩:=h d es q e;rw[Rep]at r;obtain⟨a,xs,M,rfl,hr,hs⟩:=r;exact .inl ⟨hT,xs,hs.sq⟩
theorem uA:MuB X G "list" "list.append" fB:=⟨_,λc=>DP,Bk,G8 rfl λd es q e=>by
 unfold fB at e;split at e
 .exact⟨_,_,rfl⟩
 .cases e⟩
def fK(ks:List Key)(ds:List D)(k:Key)(v:D):List Key×List D:=match fO ks k with
 |some j=>(ks,ds.set j v)
 |none=>(ks++[k],ds++[v])
def gV:D->List D->Option (D×D)
 |.lst .own ds,[.int k,v]=>(ixN ds.length k).map λj=>(.lst .own (ds.set j v),.non)
 |.dct .own ks ds,[k,v]=>(iT k).bind λk=>if ks.length<1000000 then some (.dct .own (fK ks ds k v).1 (fK ks ds k v).2,.non)else none
 |_,_=>none
def La:Dv:=λo i v H Q=>Lj o i v H Q∨∃a H',o= .ref a/\Bl H a i v H'/\Q H'
theorem Kr{Y:Cx}(hu:Y.A.units+1<cLine):Kv Y La:=by
 intro pins s σ H o i v ov iv u Q I ro ri rv h;rcases h with h|⟨a,H',rfl,g,q⟩
 .exact set_list pins s σ H o i v ov iv u Q I ro ri rv h
 .cases ro
  exact Ex hu I g ri rv λs4 I4=>⟨H',I4,q⟩
theorem aF.set{G:Gc}{H:Hp}{W:Wn}{ds:List D}{xs:List V}{L:List Addr}{j:Nat}{c d':D}{y:V}{M':List Addr}(hr:aF G H W ds xs L)(e:ds[j]? =some c)(r':Rep G H W d' y M'):∃A M B,L=A++(M++B)/\aF G H W (ds.set j d') (xs.set j y) (A++(M'++B)):=by
 obtain⟨P,Q,x,ys,zs,LA,M1,LB,rfl,hlp,rfl,hly,rfl,h1,h2,h3⟩:=hr.at e;refine⟨LA,M1,LB,rfl,?_⟩;rw[←hlp,List.set_append_right _ _ (Nat.le_refl _),Nat.sub_self];rw[show P.length=ys.length by omega,List.set_append_right _ _ (Nat.le_refl _),Nat.sub_self];exact aF.append h1 (aF.cons r' h3)
theorem j8{ds:List D}{j:Nat}{x:D}(h:aD ds=true)(hx:aG x=true):aD (ds.set j x)=true:=by
 induction ds generalizing j with
 |nil=>simpa using h
 |cons y r ih=>
  simp only[aD,Bool.and_eq_true]at h;cases j with
  |zero=>simp[aD,hx,h]
  |succ j=>simp only[List.set_cons_succ,aD,Bool.and_eq_true];exact⟨h.1,ih h.2⟩
theorem jZ{ds:List D}{j:Nat}{x:D}(h:aH ds=true)(hx:aC x=true):aH (ds.set j x)=true:=by
 induction ds generalizing j with
 |nil=>simpa using h
 |cons y r ih=>
  simp only[aH,Bool.and_eq_true]at h;cases j with
  |zero=>simp[aH,hx,h]
  |succ j=>simp only[List.set_cons_succ,aH,Bool.and_eq_true];exact⟨h.1,ih h.2⟩
theorem Nt{n:Nat}{k:Int}{j:Nat}(h:ixN n k=some j):j<n:=by
 unfold ixN at h;split at h
 .split at h
  .cases h;omega
  .cases h
 .split at h
  .cases h;omega
  .cases h
theorem sH{ks:List Key}{k:Key}{j:Nat}(h:fO ks k=some j):j<ks.length:=(List.findIdx?_eq_some_iff_getElem.mp h).1
theorem xW:∀{kvs:List (Key×V)}{k:Key}{j:Nat}{v:V},fO (kvs.map (·.1)) k=some j->(kvs.map (·.1)).Nodup->(putK kvs k v).map (·.1)=kvs.map (·.1)/\(putK kvs k v).map (·.2)=(kvs.map (·.2)).set j v:=by
 intro kvs k j v h n;have hj:=List.findIdx?_eq_some_iff_getElem.mp h;obtain⟨hl,hk,_⟩:=hj;have hl':j<kvs.length:=by simpa using hl
 have hkj:kvs[j].1=k:=by simpa using hk
 have hany:(kvs.any λkv=>decide (kv.1=k))=true:=List.any_eq_true.mpr ⟨kvs[j],List.getElem_mem _,by simpa using hkj⟩;unfold putK;rw[if_pos hany];constructor
 .rw[List.map_map]
  apply List.map_congr_left;intro p _;simp only[Function.comp];split<;>rfl
 .apply List.ext_getElem?
  intro i;rw[List.map_map,List.getElem?_map];by_cases hij:j=i
  .subst hij
   rw[List.getElem?_set_self (by simpa using hl')];simp[hl',hkj]
  .rw[List.getElem?_set_ne hij,List.getElem?_map]
   cases e:kvs[i]? with
   |none=>rfl
   |some p=>
    have hil:i<kvs.length:=(List.getElem?_eq_some_iff.mp e).1;have hpi:kvs[i]=p:=(List.getElem?_eq_some_iff.mp e).2;have hne:p.1≠k:=λz=>by
     have e1:(kvs.map (·.1))[i]? =(kvs.map (·.1))[j]?:=by
      rw[List.getElem?_map,List.getElem?_map,e,List.getElem?_eq_getElem hl'];simp[z,hkj]
     exact hij ((List.getElem?_inj (by simpa using hil) n).mp e1).symm
    simp[hne]
theorem sW{kvs:List (Key×V)}{k:Key}{v:V}(h:fO (kvs.map (·.1)) k=none):putK kvs k v=kvs++[(k,v)]:=by
 unfold putK;rw[if_neg];intro z;obtain⟨p,hp,e⟩:=List.any_eq_true.mp z;have:=List.findIdx?_eq_none_iff.mp h p.1 (List.mem_map.mpr ⟨p,hp,rfl⟩);simp at this e;exact this e
theorem tX{ks:List Key}{k:Key}(h:fO ks k=none):k∉ks:=λz=>by
 have:=List.findIdx?_eq_none_iff.mp h k z;simp at this
theorem KJ{G:Gc}:MuV G (λo xs H Q=>∃i v,xs=[i,v]/\La o i v H λH'=>Q .non H') gV:=λd es d' res h v xs H W M N r re nd hM hc c1 c2 Q q=>by
 unfold gV at h;split at h
 .rename_i ds k e
  cases hj:ixN ds.length k with
  |none=>simp[hj]at h
  |some j=>
   obtain⟨rfl,rfl⟩:D.lst .own (ds.set j e)=d'/\D.non=res:=by simpa[hj]using h
   rw[Rep]at r;obtain⟨a,ys,M0,rfl,hr,ha,rfl⟩:=r;obtain⟨x1,zs,N1,N2,rfl,rfl,hx1,hz⟩:=re.inv;obtain⟨x,zs,N3,N4,rfl,rfl,hx,hz⟩:=hz.inv;obtain⟨rfl,rfl⟩:=hz.inv0;rw[Rep]at hx1;obtain⟨rfl,rfl⟩:=hx1;rw[List.append_nil,List.nil_append]at nd re;obtain⟨k1,k2⟩:=qw hc;have nd':=List.nodup_append.mp nd;have hn:=List.nodup_cons.mp nd'.1;have haN:a∉N3:=λz=>nd'.2.2 a (by simp) a z rfl;simp only[aD,aH,Bool.and_eq_true]at c1 c2;have hjl:=Nt hj;obtain⟨A,M1,B,hM0,hset⟩:=hr.set (List.getElem?_eq_getElem hjl) hx;have hsub:List.Sublist (A++B) M0:=by rw[hM0];exact(List.Sublist.refl A).append (List.sublist_append_right M1 B)
   refine⟨_,_,rfl,.inl ⟨a,ys,k,j,rfl,rfl,ha,by rw[←hr.length];exact hj,q .non _ (a::(A++(N3++B))) [] (λb u hb n=>by rw[aP (show b≠a from λz=>n (by rw[z];simp))];exact hb) (λW' ev=>⟨?_,oW⟩) ?_ (λb hb=>?_) (qu (j8 k1 c1.2.1) (jZ k2 c2.2.1)) rfl⟩⟩
   .rw[Rep]
    refine⟨a,_,A++(N3++B),rfl,?_,bc,rfl⟩;refine hset.mono ev (.inl (j8 k1 c1.2.1)) (.inl (jZ k2 c2.2.1)) λc hc u hu=>?_;rw[aP (show c≠a from λz=>?_)]
    .exact hu
    .subst z
     simp only[List.mem_append]at hc;rcases hc with y|y|y
     .exact hn.1 (hsub.subset (by simp[y]))
     .exact haN y
     .exact hn.1 (hsub.subset (by simp[y]))
   .rw[List.append_nil]
    have n2:=hsub.nodup hn.2;have n3:=List.nodup_append.mp n2;have dis:∀z∈N3,z∉A++B:=λz h1 h2=>nd'.2.2 z (List.mem_cons_of_mem _ (hsub.subset h2)) z h1 rfl;refine List.nodup_cons.mpr ⟨λy=>?_,dY n3.1 (dY nd'.2.1 n3.2.1 λz h1 h2=>dis z h1 (by simp[h2])) λz h1 h2=>?_⟩
    .simp only[List.mem_append]at y
     rcases y with y|y|y
     .exact hn.1 (hsub.subset (by simp[y]))
     .exact haN y
     .exact hn.1 (hsub.subset (by simp[y]))
    .rcases List.mem_append.mp h2 with y|y
     .exact dis z y (by simp[h1])
     .exact n3.2.2 z h1 z y rfl
   .rw[List.append_nil]at hb
    rcases List.mem_cons.mp hb with z|z
    .exact .inl (by simp[z])
    .simp only[List.mem_append]at z
     rcases z with z|z|z
     .exact .inl (List.mem_cons_of_mem _ (hsub.subset (by simp[z])))
     .exact .inr (.inl (by simp[z]))
     .exact .inl (List.mem_cons_of_mem _ (hsub.subset (by simp[z])))
 .rename_i ks ds k0 e
  cases hk:iT k0 with
  |none=>simp[hk]at h
  |some k=>
   rw[hk]at h;simp only[Option.bind_some]at h;split at h
   .rename_i hl
    cases h;rw[Rep]at r;obtain⟨a,kvs,M0,rfl,⟨rfl,hnk⟩,hr,ha,rfl⟩:=r;obtain⟨x1,zs,N1,N2,rfl,rfl,hx1,hz⟩:=re.inv;obtain⟨x,zs,N3,N4,rfl,rfl,hx,hz⟩:=hz.inv;obtain⟨rfl,rfl⟩:=hz.inv0;have hx1k:=ou hx1 hk;subst hx1k;have hN1:N1=[]:=by
     cases k0<;>simp[iT]at hk<;>rw[Rep]at hx1<;>exact hx1.2
    subst hN1;rw[List.append_nil,List.nil_append]at nd re;have k1:aD ds=true/\aH ds=true:=by simp[clean,aG,aC]at hc;exact hc
    have nd':=List.nodup_append.mp nd;have hn:=List.nodup_cons.mp nd'.1;have haN:a∉N3:=λz=>nd'.2.2 a (by simp) a z rfl;simp only[aD,aH,Bool.and_eq_true]at c1 c2;have hlk:kvs.length<sizeLine:=Ae (by simpa using hl);refine⟨_,_,rfl,.inr ⟨a,_,rfl,Bl.k (k:=k) ha hlk,?_⟩⟩;cases hj:fO (kvs.map (·.1)) k with
    |some j=>
     have hjl:j<ds.length:=by rw[hr.length];simpa using sH hj
     obtain⟨A,M1,B,hM0,hset⟩:=hr.set (List.getElem?_eq_getElem hjl) hx;obtain⟨p1,p2⟩:=xW (v:=x) hj hnk;have hsub:List.Sublist (A++B) M0:=by rw[hM0];exact(List.Sublist.refl A).append (List.sublist_append_right M1 B)
     refine q .non _ (a::(A++(N3++B))) [] (λb u hb n=>by rw[aP (show b≠a from λz=>n (by rw[z];simp))];exact hb) (λW' ev=>⟨?_,oW⟩) ?_ (λb hb=>?_) ?_ rfl
     .simp only[fK,hj]
      rw[Rep];refine⟨a,_,A++(N3++B),rfl,⟨p1,hnk⟩,?_,bc,rfl⟩;rw[p2];refine hset.mono ev (.inl (j8 k1.1 c1.2.1)) (.inl (jZ k1.2 c2.2.1)) λc hc u hu=>?_;rw[aP (show c≠a from λz=>?_)]
      .exact hu
      .subst z
       simp only[List.mem_append]at hc;rcases hc with y|y|y
       .exact hn.1 (hsub.subset (by simp[y]))
       .exact haN y
       .exact hn.1 (hsub.subset (by simp[y]))
     .rw[List.append_nil]
      have n2:=hsub.nodup hn.2;have n3:=List.nodup_append.mp n2;have dis:∀z∈N3,z∉A++B:=λz h1 h2=>nd'.2.2 z (List.mem_cons_of_mem _ (hsub.subset h2)) z h1 rfl;refine List.nodup_cons.mpr ⟨λy=>?_,dY n3.1 (dY nd'.2.1 n3.2.1 λz h1 h2=>dis z h1 (by simp[h2])) λz h1 h2=>?_⟩
      .simp only[List.mem_append]at y
       rcases y with y|y|y
       .exact hn.1 (hsub.subset (by simp[y]))
       .exact haN y
       .exact hn.1 (hsub.subset (by simp[y]))
      .rcases List.mem_append.mp h2 with y|y
       .exact dis z y (by simp[h1])
       .exact n3.2.2 z h1 z y rfl
     .rw[List.append_nil]at hb
      rcases List.mem_cons.mp hb with z|z
      .exact .inl (by simp[z])
      .simp only[List.mem_append]at z
       rcases z with z|z|z
       .exact .inl (List.mem_cons_of_mem _ (hsub.subset (by simp[z])))
       .exact .inr (.inl (by simp[z]))
       .exact .inl (List.mem_cons_of_mem _ (hsub.subset (by simp[z])))
     .simp[fK,hj,clean,aG,aC,j8 k1.1 c1.2.1,jZ k1.2 c2.2.1]
    |none=>
     rw[sW hj];refine q .non _ (a::(M0++N3)) [] (λb u hb n=>by rw[aP (show b≠a from λz=>n (by rw[z];simp))];exact hb) (λW' ev=>⟨?_,oW⟩) ?_ (λb hb=>?_) ?_ rfl
     .simp only[fK,hj]
      rw[Rep];refine⟨a,_,M0++N3,rfl,⟨by simp,?_⟩,?_,bc,rfl⟩
      .exact List.nodup_append.mpr ⟨hnk,by simp,λy hy z hz=>by
        have:z=k:=by simpa using hz
        subst this;exact λe=>tX hj (e▸hy)⟩
      .rw[List.map_append]
       refine(hr.mono ev (.inl k1.1) (.inl k1.2) λc hc u hu=>?_).append (.one (hx.mono ev (.inl c1.2.1) (.inl c2.2.1) λc hc u hu=>?_))
       .rw[aP (show c≠a from λz=>hn.1 (z▸hc))];exact hu
       .rw[aP (show c≠a from λz=>haN (z▸hc))];exact hu
     .rw[List.append_nil];exact nd
     .rw[List.append_nil]at hb
      rcases List.mem_cons.mp hb with z|z
      .exact .inl (by simp[z])
      .rcases List.mem_append.mp z with z|z
       .exact .inl (by simp[z])
       .exact .inr (.inl (by simp[z]))
     .simp[fK,hj,clean,aG,aC,jq,jk,aD,aH,k1,c1,c2]
   .cases h
 .cases h
theorem mO(hu:∀c,(X c).A.units+1<cLine):MuT X G gV:=⟨_,λc=>Kr (hu c),KJ⟩
end
abbrev InX{ι:Type}(X:ι->Cx)(N':List Str)(scope:Scope):ι×(Addr×Shared×Hp×List Addr)->Cx:=λp=>cV (X p.1) N' scope p.2.1 p.2.2.1 p.2.2.2.1 p.2.2.2.2
def mX(cap:List (Option Nat))(ρ:En):En:=cap.map λo=>o.bind λj=>(ρ[j]?).bind id
def obC(cap:List (Option Nat))(ob:Nat->Bool):Nat->Bool:=λi=>match cap[i]? with
 |some (some j)=>ob j
 |_=>false
theorem pB{α:Type}{cap:List (Option Nat)}{l:List (Option α)}{i:Nat}{x:α}(h:(cap.map λo=>o.bind λj=>(l[j]?).bind id)[i]? =some (some x)):∃j,cap[i]? =some (some j)/\l[j]? =some (some x):=by
 rw[List.getElem?_map]at h;cases e:cap[i]? with
 |none=>rw[e]at h;cases h
 |some o=>
  rw[e]at h;cases o with
  |none=>simp at h
  |some j=>
   refine⟨j,rfl,?_⟩;have h:(l[j]?).bind id=some x:=by simpa using h
   cases e2:l[j]? with
   |none=>rw[e2]at h;cases h
   |some o=>rw[e2]at h;simpa using h
theorem wV{α:Type}{cap:List (Option Nat)}{l:List (Option α)}{i j:Nat}{x:α}(h:cap[i]? =some (some j))(h2:l[j]? =some (some x)):(cap.map λo=>o.bind λj=>(l[j]?).bind id)[i]? =some (some x):=by
 rw[List.getElem?_map,h];simp[h2]
section
variable{G:Gc}{ob:Nat->Bool}
theorem Rel.cap{H:Hp}{W:Wn}{ρ:En}{σ:L2.St}{cap:List (Option Nat)}(r:Rel G H W ob ρ σ):Rel G H W (obC cap ob) (mX cap ρ) (ie cap σ):=λi d e=>by
 obtain⟨j,h1,h2⟩:=pB e;obtain⟨v,L,q1,q2,q3⟩:=r j d h2;refine⟨v,L,wV h1 q1,q2,λz=>q3 ?_⟩;unfold obC at z;rw[h1]at z;exact z
def Fg(G:Gc)(ob own:Nat->Bool)(g:TG)(f:D->En->Option En):Prop:=∀(d:D)(ρ ρ':En),f d ρ=some ρ'->∀(x:V)(σ:L2.St)(H:Hp)(W:Wn),Rep G H W d x []->Rel G H W ob ρ σ->σ.length=ρ.length->∀Q:L2.St->Hp->Prop,
 (∀σ',Rel G H W ob ρ' σ'->σ'.length=ρ'.length->(∀j,own j=false->σ'[j]? =σ[j]?)->Q σ' H)->g x σ H Q
def zA(G:Gc)(ob own:Nat->Bool)(g:TGs)(f:List D->En->Option En):Prop:=∀(ds:List D)(ρ ρ':En),f ds ρ=some ρ'->∀(xs:List V)(σ:L2.St)(H:Hp)(W:Wn),aF G H W ds xs []->Rel G H W ob ρ σ->σ.length=ρ.length->∀Q:L2.St->Hp->Prop,
 (∀σ',Rel G H W ob ρ' σ'->σ'.length=ρ'.length->(∀j,own j=false->σ'[j]? =σ[j]?)->Q σ' H)->g xs σ H Q
structure Hm{ι:Type}(X:ι->Cx)(G:Gc)(ob own:Nat->Bool)(tg:Expr)(f:D->En->Option En):Prop where
 mk::(ex:∃t,(∀c,PG (X c) tg t)/\Fg G ob own t f)
structure Cd{ι:Type}(X:ι->Cx)(G:Gc)(ob own:Nat->Bool)(tg:List Expr)(f:List D->En->Option En):Prop where
 mk::(ex:∃t,(∀c,PGs (X c) tg t)/\zA G ob own t f)
def tpN(i:Nat):D->En->Option En:=λd ρ=>some (ρ.set i (some d))
def tpT(n:Nat)(g:List D->En->Option En):D->En->Option En:=λd ρ=>match d with
 |.tup ds=>if ds.length=n then g ds ρ else none
 |_=>none
theorem Ez{own:Nat->Bool}{i:Nat}(ho:own i=true):Fg G ob own (vI i) (tpN i):=λd ρ ρ' e x σ H W r rl hl Q q=>by
 cases e;refine q _ (λj d' hj=>?_) (by simp[hl]) λj hj=>?_
 .by_cases e:i=j
  .subst e
   rw[List.getElem?_set]at hj;split at hj
   .split at hj
    .rename_i h2
     have:d=d':=by simpa using hj
     subst this;exact⟨x,[],by simp[hl,h2],r,λ_ c hc=>by cases hc⟩
    .cases hj
   .exact absurd rfl ‹_›
  .rw[List.getElem?_set_ne e]at hj
   obtain⟨v,L,h1,h2,h3⟩:=rl j d' hj;exact⟨v,L,by rw[List.getElem?_set_ne e];exact h1,h2,h3⟩
 .have:i≠j:=λz=>by rw[←z,ho]at hj;cases hj
  rw[List.getElem?_set_ne this]
theorem DG{own:Nat->Bool}:zA G ob own Jl eO:=λds ρ ρ' e xs σ H W r rl hl Q q=>by
 cases ds with
 |nil=>
  cases e;obtain⟨rfl,_⟩:=r.inv0;exact⟨rfl,q σ rl hl λ_ _=>rfl⟩
 |cons d r=>cases e
theorem Aj{own:Nat->Bool}{t:TG}{u:TGs}{f:D->En->Option En}{g:List D->En->Option En}(h1:Fg G ob own t f)(h2:zA G ob own u g):zA G ob own (Hu t u) (aQ f g):=λds ρ ρ' e xs σ H W r rl hl Q q=>by
 cases ds with
 |nil=>cases e
 |cons d ds=>
  obtain⟨x,ys,M1,M2,rfl,hL,hx,hr⟩:=r.inv;obtain⟨rfl,rfl⟩:M1=[]/\M2=[]:=by simpa using hL.symm
  simp only[aQ]at e;cases h3:f d ρ with
  |none=>rw[h3]at e;cases e
  |some ρ1=>
   have e:g ds ρ1=some ρ':=by simpa[h3]using e
   exact⟨x,ys,rfl,h1 d ρ ρ1 h3 x σ H W hx rl hl _ λσ1 rl1 hl1 k1=>h2 ds ρ1 ρ' e ys σ1 H W hr rl1 hl1 Q λσ2 rl2 hl2 k2=>q σ2 rl2 hl2 λj hj=>(k2 j hj).trans (k1 j hj)⟩
theorem Hk{own:Nat->Bool}{n:Nat}{t:TGs}{g:List D->En->Option En}(h:zA G ob own t g):Fg G ob own (M4 G.K n t) (tpT n g):=λd ρ ρ' e x σ H W r rl hl Q q=>by
 cases d with
 |tup ds=>
  simp only[tpT]at e;split at e
  .rename_i hn
   rw[Rep]at r;obtain⟨a,xs,rfl,ht,hr⟩:=r;exact⟨a,xs,rfl,SqT.of ht,by rw[←hr.length];exact hn,h ds ρ ρ' e xs σ H W hr rl hl Q q⟩
  .cases e
 |_=>cases e
end
section
variable{ι:Type}{X:ι->Cx}{G:Gc}{ob own:Nat->Bool}
theorem bZ(i:Nat){x:Str}{pos:Pos}(hN:∀c,(X c).N.Nodup)(ho:own i=true:=by rfl)(hi:∀c,(X c).N[i]? =some x:=by intro _;rfl)(hx:∀c,Loc (X c).env.scope x:=by intro _;first|exact Or.inl rfl|exact Or.inr rfl)(hf:∀c,(X c).fn x=true∨(X c).env.scope.names.lookup x=some .local:=by intro _;first|exact .inl rfl|exact .inr rfl):Hm X G ob own (.Name x pos) (tpN i):=⟨_,λc=>xq (hN c) (hi c) (hx c) (hf c),Ez ho⟩
theorem qx:Cd X G ob own [] eO:=⟨_,λc=>Bx,DG⟩
theorem fu{e:Expr}{es:List Expr}{f:D->En->Option En}{g:List D->En->Option En}(h1:Hm X G ob own e f)(h2:Cd X G ob own es g)(hs:∀c,(assignEach (e::es) (X c).env).map (·.2)=assign e (X c).env::(assignEach es (X c).env).map (·.2):=by intro _;rfl):Cd X G ob own (e::es) (aQ f g):=
 let⟨t,a1,a2⟩:=h1.ex;let⟨u,b1,b2⟩:=h2.ex;⟨_,λc=>yc (a1 c) (b1 c) (hs c),Aj a2 b2⟩
theorem sS{es:List Expr}{k n:Nat}{pos:Pos}{g:List D->En->Option En}(hc:∀c,(X c).calm=true)(h:Cd X G ob own es g)(hn:∀c,(assignEach es (X c).env).length=n:=by intro _;rfl)(hst:∀c,(assignEach es (X c).env).findIdx? (·.1)=none:=by intro _;rfl)(hK:∀c,(X c).K=G.K:=by intro _;rfl):Hm X G ob own (.Tuple es k pos) (tpT n g):=
 let⟨t,a1,a2⟩:=h.ex;⟨_,λc=>(by rw[←hK c];exact HY (hc c) (a1 c) (hn c) (hst c)),Hk a2⟩
structure FT{ι:Type}(X:ι->Cx)(G:Gc)(ob:Nat->Bool)(ifs:List Expr)(f:En->Option Bool):Prop where
 mk::(ex:∃t,(∀c,PTs (X c) ifs t)/\RfT G ob t f)
def eTT:En->Option Bool:=λ_=>some true
theorem gP:FT X G ob [] eTT:=⟨_,λc=>J_,λρ b e σ H W rl w Q q=>by cases e;exact q H (Same.refl H)⟩
theorem uC{c:Expr}{f:En->Option Bool}(h:PVT X G ob c f):FT X G ob [c] f:=let⟨t,a1,a2⟩:=h.ex;⟨t,λc=>KD (a1 c),a2⟩
def gO(tg:D->En->Option En)(c:En->Option Bool)(e:En->Option D)(ρ0:En):List D->Option (List D)
 |[]=>some []
 |d::r=>(tg d ρ0).bind λρ1=>(c ρ1).bind λb=>if b=true then(e ρ1).bind λx=>(gO tg c e ρ0 r).map λt=>x::t else gO tg c e ρ0 r
def iY(cap:List (Option Nat))(it:En->Option (Bool×List D))(tg:D->En->Option En)(c:En->Option Bool)(e:En->Option D):En->Option D:=λρ=>(it ρ).bind λp=>if p.2.length<=1000000 then(gO tg c e (mX cap ρ) p.2).map λys=>.lst .own ys else none
theorem six{n:Nat}(h:n<=1000000):n<sizeLine:=Nat.lt_of_le_of_lt h (by decide)
theorem G9{cap:List (Option Nat)}{σ σ':L2.St}(hc:∀i:Nat,own i=true->cap[i]?≠none->cap[i]? =some none)(h:∀j,own j=false->σ'[j]? =(ie cap σ)[j]?):Kp (ie cap σ) σ':=λi v e=>by
 cases ho:own i with
 |false=>rw[h i ho];exact e
 |true=>
  obtain⟨j,h1,_⟩:=pB e;rw[hc i ho (by rw[h1];simp)]at h1;cases h1
theorem Dg{cap:List (Option Nat)}{wi:TI}{g:TG}{tt:TT}{te:TE}{it:En->Option (Bool×List D)}{tg:D->En->Option En}{c:En->Option Bool}{e:En->Option D}(hcap:∀i:Nat,own i=true->cap[i]?≠none->cap[i]? =some none)(hi:RfI G ob wi it)(hg:Fg G (obC cap ob) own g tg)(ht:RfT G (obC cap ob) tt c)(he:RfE G (obC cap ob) te e):RfE G ob (Bo cap wi g tt te) (iY cap it tg c e):=λρ d ee σ H W rl w Q q=>by
 unfold iY at ee;cases h1:it ρ with
 |none=>simp[h1]at ee
 |some p=>
  obtain⟨b,items⟩:=p;rw[h1]at ee;simp only[Option.bind_some]at ee;split at ee
  .rename_i hlen
   cases h2:gO tg c e (mX cap ρ) items with
   |none=>simp[h2]at ee
   |some tot=>
    obtain rfl:D.lst .own tot=d:=by simpa[h2]using ee
    refine hi ρ b items h1 σ H W rl w _ λJ H1 s1 wk=>?_;refine⟨λi m ys H2=>i+m=items.length/\ys.length<=i/\∃acc L rest,Same H1 H2/\aF G H2 (W.add L) acc ys L/\(∀a∈L,H1 a=none)/\L.Nodup/\WOk H2 (W.add L)/\gO tg c e (mX cap ρ) (items.drop i)=some rest/\acc++rest=tot,⟨items.length,by omega,by simp,[],[],tot,Same.refl _,.nil,by simp,List.nodup_nil,?_,h2,rfl⟩,?_⟩
    .rw[vD];exact w.up s1
    rintro i m ys H2 ⟨him,hyi,acc,L,rest,s2,ra,fa,na,wa,hrest,htot⟩;have up2:Up H1 H2 W (W.add L):=Up.add s2 fa
    .by_cases hil:i<items.length
     .have hdr:=(List.getElem_cons_drop hil).symm
      rw[hdr,gO]at hrest;refine .inr ⟨wk.go i items[i] (by simp[hil]) H2 _ (LtB.up up2),by have:=six hlen;omega,λys' H'=>(i+1)+(m-1)=items.length/\ys'.length<=i+1/\∃acc L rest,Same H1 H'/\aF G H' (W.add L) acc ys' L/\(∀a∈L,H1 a=none)/\L.Nodup/\WOk H' (W.add L)/\gO tg c e (mX cap ρ) (items.drop (i+1))=some rest/\acc++rest=tot,λys' H' h=>⟨m-1,by omega,h⟩,λx H3 hy=>?_⟩;obtain⟨s3,rx⟩:=wk.yld i items[i] (by simp[hil]) H2 _ (LtB.up up2) x H3 hy;cases h3:tg items[i] (mX cap ρ)with
      |none=>simp[h3]at hrest
      |some ρ1=>
       rw[h3]at hrest;simp only[Option.bind_some]at hrest;have rl3:Rel G H3 (W.add L) (obC cap ob) (mX cap ρ) (ie cap σ):=(rl.cap).up ((Up.same s1).trans (up2.trans (Up.same s3)));have ra3:=ra.up (Up.same s3 (W:=W.add L));have wa3:WOk H3 (W.add L):=wa.up s3;refine hg items[i] _ ρ1 h3 x _ H3 (W.add L) rx rl3 (by simp[mX,ie]) _ λσ2 rl4 hl4 k4=>⟨G9 hcap k4,?_⟩;cases h4:c ρ1 with
       |none=>simp[h4]at hrest
       |some bb=>
        rw[h4]at hrest;simp only[Option.bind_some]at hrest;refine ht ρ1 bb h4 σ2 H3 (W.add L) rl4 wa3 _ λH4 s4=>?_;have rl5:=rl4.up (Up.same s4);have wa4:=wa3.up s4;cases bb with
        |false=>
         simp only[Bool.false_eq_true,if_false]at hrest;exact zF ⟨by omega,by omega,acc,L,rest,((s2.trans s3).trans s4),ra3.up (Up.same s4),fa,na,wa4,hrest,htot⟩
        |true=>
         simp only[if_true]at hrest;cases h5:e ρ1 with
         |none=>simp[h5]at hrest
         |some y=>
          cases h6:gO tg c e (mX cap ρ) (items.drop (i+1))with
          |none=>simp[h5,h6]at hrest
          |some rest'=>
           obtain rfl:y::rest'=rest:=by simpa[h5,h6]using hrest
           refine ur (he ρ1 y h5 σ2 H4 (W.add L) rl5 wa4 _ λv H5 M s5 ry fy ny=>?_);have fM:∀a∈M,H1 a=none:=λa ha=>(((s2.trans s3).trans s4)).none' (fy a ha);have hLM:∀a∈L,a∉M:=λa h1 h2=>by
            obtain⟨o,ho,_⟩:=(ra3.up (Up.same s4 (W:=W.add L))).dom a h1;rw[fy a h2]at ho;cases ho
           have u5:Up H4 H5 (W.add L) (W.add (L++M)):=⟨s5,λb u hb f=>⟨λz=>z.elim (λz=>(List.mem_append.mp z).elim (λz=>f.1 (.inl z)) λz=>by rw[fy b z]at hb;cases hb) λz=>f.1 (.inr z),f.2⟩,λ_ _ _ f=>f⟩;have u6:Up H5 H5 ((W.add L).add M) (W.add (L++M)):=⟨Same.refl _,λb u hb f=>⟨λz=>by
            rcases z with z|z
            .exact(List.mem_append.mp z).elim (λz=>f.1 (.inr (.inl z))) λz=>f.1 (.inl z)
            .exact f.1 (.inr (.inr z)),f.2⟩,λ_ _ _ f=>f⟩
           refine⟨by omega,by simp;omega,acc++[y],L++M,rest',((s2.trans s3).trans s4).trans s5,((ra3.up (Up.same s4)).up u5).append (.one (ry.up u6)),λa ha=>(List.mem_append.mp ha).elim (fa a) (fM a),dY na ny hLM,?_,rfl,by rw[←htot];simp⟩;exact w.add (((s1.trans s2).trans s3).trans s4 |>.trans s5) λa ha=>(List.mem_append.mp ha).elim (λz=>let⟨o,h,m⟩:=(ra3.up (Up.same s4 (W:=W.add L))).dom a z;⟨o,s5 a o h,m⟩) (ry.dom a)
     .have hl:i=items.length:=by omega
      subst hl;rw[List.drop_length,gO]at hrest;cases hrest;refine .inl ⟨wk.stop H2 _ (LtB.up up2),Nat.le_of_lt (six (by omega)),λp hp=>?_⟩;have sm:Same H2 (upd H2 p (.lst ys)):=Same.new hp;rw[List.append_nil]at htot;subst htot;refine q (.ref p) _ (p::L) ((s1.trans s2).trans sm) ?_ (λa ha=>(List.mem_cons.mp ha).elim (λz=>by rw[z];exact(s1.trans s2).none' hp) λz=>s1.none' (fa a z)) (List.nodup_cons.mpr ⟨λz=>?_,na⟩)
      .rw[Rep]
       exact⟨p,ys,L,rfl,ra.up ⟨sm,λb u hb f=>⟨λz=>z.elim (λz=>(List.mem_cons.mp z).elim (λz=>by rw[z,hp]at hb;cases hb) λz=>f.1 (.inl z)) λz=>f.1 (.inr z),f.2⟩,λ_ _ _ f=>f⟩,bc,rfl⟩
      .obtain⟨o,ho,_⟩:=ra.dom p z
       rw[hp]at ho;cases ho
  .cases ee
end
def nF(cap:List (Option Nat)):Prop:=∀(i k j:Nat),cap[i]? =some (some j)->cap[k]? =some (some j)->i=k
def kW(cap:List (Option Nat))(S:Ad):Ad:=λi=>match cap[i]? with
 |some (some j)=>S j
 |_=>[]
def p6(cap:List (Option Nat))(S:Ad)(Fr:Addr->Prop):Addr->Prop:=λa=>Fr a∨∃j:Nat,(∀i:Nat,cap[i]?≠some (some j))/\a∈S j
theorem iI{cap:List (Option Nat)}{S:Ad}{i:Nat}{a:Addr}(h:a∈kW cap S i):∃j,cap[i]? =some (some j)/\a∈S j:=by
 unfold kW at h;split at h
 .rename_i j e;exact⟨j,e,h⟩
 .cases h
theorem wg{cap:List (Option Nat)}{S:Ad}{i j:Nat}(h:cap[i]? =some (some j)):kW cap S i=S j:=by unfold kW;rw[h]
theorem zY{cap:List (Option Nat)}{ob:Nat->Bool}{i j:Nat}(h:cap[i]? =some (some j)):obC cap ob i=ob j:=by unfold obC;rw[h]
section
variable{G:Gc}{ob own:Nat->Bool}{cap:List (Option Nat)}
theorem wB{S:Ad}{Fr:Addr->Prop}{a:Addr}:(wn ob S Fr).free a↔(wn (obC cap ob) (kW cap S) (p6 cap S Fr)).free a:=by
 constructor
 .intro f
  have nS:∀j,a∉S j:=λj z=>by
   cases ho:ob j with
   |false=>exact f.2.1 ⟨j,ho,z⟩
   |true=>exact f.2.2 ⟨j,ho,z⟩
  refine⟨λz=>z.elim f.1 λ⟨j,_,z⟩=>nS j z,λ⟨i,_,z⟩=>?_,λ⟨i,_,z⟩=>?_⟩
  .obtain⟨j,_,z⟩:=iI z;exact nS j z
  .obtain⟨j,_,z⟩:=iI z;exact nS j z
 .intro f
  have nS:∀j,a∉S j:=λj z=>by
   by_cases hc:∃i:Nat,cap[i]? =some (some j)
   .obtain⟨i,hi⟩:=hc
    have z':a∈kW cap S i:=by rw[wg hi];exact z
    cases ho:obC cap ob i with
    |false=>exact f.2.1 ⟨i,ho,z'⟩
    |true=>exact f.2.2 ⟨i,ho,z'⟩
   .exact f.1 (.inr ⟨j,λi hi=>hc ⟨i,hi⟩,z⟩)
  exact⟨λz=>f.1 (.inl z),λ⟨j,_,z⟩=>nS j z,λ⟨j,_,z⟩=>nS j z⟩
theorem O3{H:Hp}{S:Ad}{Fr:Addr->Prop}{d:D}{v:V}{L:List Addr}(hc:clean d=true):Rep G H (wn ob S Fr) d v L↔Rep G H (wn (obC cap ob) (kW cap S) (p6 cap S Fr)) d v L:=by
 have hcc:=(by simpa[clean]using hc:aG d=true/\aC d=true);constructor
 .intro r
  have ev:Evo H H (wn ob S Fr) (wn (obC cap ob) (kW cap S) (p6 cap S Fr)):=⟨λb u hb f=>⟨hb,wB.mp f⟩,λ_ _ h=>h⟩;exact r.mono ev (.inl hcc.1) (.inl hcc.2) λ_ _ _ h=>h
 .intro r
  have ev:Evo H H (wn (obC cap ob) (kW cap S) (p6 cap S Fr)) (wn ob S Fr):=⟨λb u hb f=>⟨hb,wB.mpr f⟩,λ_ _ h=>h⟩;exact r.mono ev (.inl hcc.1) (.inl hcc.2) λ_ _ _ h=>h
theorem Sta.inn{H:Hp}{ρ:En}{σ:L2.St}{S:Ad}{Fr:Addr->Prop}(hj:nF cap)(s:Sta G H ob ρ σ S Fr):Sta G H (obC cap ob) (mX cap ρ) (ie cap σ) (kW cap S) (p6 cap S Fr)where
 len:=by simp[mX,ie]
 sl:=λi d e=>by
  obtain⟨j,h1,h2⟩:=pB e;obtain⟨v,q1,q2,q3⟩:=s.sl j d h2;exact⟨v,wV h1 q1,by rw[wg h1];exact(O3 q3).mp q2,q3⟩
 em:=λi h=>by
  unfold kW;split
  .rename_i j e
   exact s.em j λd hd=>h d (wV e hd)
  .rfl
 nd:=λi=>by
  unfold kW;split
  .exact s.nd _
  .exact List.nodup_nil
 dj:=λi k a h1 h2=>by
  obtain⟨j1,e1,z1⟩:=iI h1;obtain⟨j2,e2,z2⟩:=iI h2;have:=s.dj j1 j2 a z1 z2;subst this;exact hj i k j1 e1 e2
 fdj:=λi a h z=>by
  obtain⟨j,e,z⟩:=iI z;rcases h with h|⟨k,hk,h⟩
  .exact s.fdj j a h z
  .have:=s.dj j k a z h
   subst this;exact hk i e
 fdm:=λa h=>by
  rcases h with h|⟨k,_,h⟩
  .exact s.fdm a h
  .exact s.mu h
def ig:List (Option Nat)->En->En->En
 |some j::cs,d::ds,ρ=>ig cs ds (ρ.set j d)
 |none::cs,_::ds,ρ=>ig cs ds ρ
 |_,_,ρ=>ρ
theorem mD:∀(cap:List (Option Nat))(ds ρ:En),(ig cap ds ρ).length=ρ.length
 |[],ds,ρ=>by cases ds<;>rfl
 |some j::cs,[],ρ=>rfl
 |none::cs,[],ρ=>rfl
 |some j::cs,d::ds,ρ=>by rw[ig,mD cs ds];simp
 |none::cs,d::ds,ρ=>by rw[ig,mD cs ds]
theorem lM:∀{cap:List (Option Nat)}{ds ρ:En}{j:Nat},(∀i:Nat,cap[i]?≠some (some j))->(ig cap ds ρ)[j]? =ρ[j]?
 |[],ds,ρ,j,_=>by cases ds<;>rfl
 |some k::cs,[],ρ,j,_=>rfl
 |none::cs,[],ρ,j,_=>rfl
 |some k::cs,d::ds,ρ,j,h=>by
  rw[ig,lM λi e=>h (i+1) (by simpa using e),List.getElem?_set_ne λz=>h 0 (by simp[z])]
 |none::cs,d::ds,ρ,j,h=>by rw[ig,lM λi e=>h (i+1) (by simpa using e)]
theorem pC:∀{cap:List (Option Nat)}{ds ρ:En}{i j:Nat}{x:Option D},nF cap->cap[i]? =some (some j)->ds[i]? =some x->j<ρ.length->(ig cap ds ρ)[j]? =some x
 |[],ds,ρ,i,j,x,_,h,_,_=>by simp at h
 |some k::cs,[],ρ,i,j,x,_,_,h,_=>by simp at h
 |none::cs,[],ρ,i,j,x,_,_,h,_=>by simp at h
 |some k::cs,d::ds,ρ,i,j,x,hj,h1,h2,hl=>by
  rw[ig];cases i with
  |zero=>
   have e1:k=j:=by simpa using h1
   have e2:d=x:=by simpa using h2
   subst e1 e2;rw[lM λi e=>?_]
   .simp[hl]
   .have:=hj 0 (i+1) k (by simp) (by simpa using e)
    omega
  |succ i=>exact pC (λa b c h1 h2=>by have:=hj (a+1) (b+1) c (by simpa using h1) (by simpa using h2);omega) (by simpa using h1) (by simpa using h2) (by simpa using hl)
 |none::cs,d::ds,ρ,i,j,x,hj,h1,h2,hl=>by
  rw[ig];cases i with
  |zero=>simp at h1
  |succ i=>exact pC (λa b c h1 h2=>by have:=hj (a+1) (b+1) c (by simpa using h1) (by simpa using h2);omega) (by simpa using h1) (by simpa using h2) hl
def rH(cap:List (Option Nat))(Si S:Ad):Ad:=λj=>match cap.findIdx? (λo=>o==some j)with
 |some i=>Si i
 |none=>S j
theorem gK{Si S:Ad}{i j:Nat}(hj:nF cap)(h:cap[i]? =some (some j)):rH cap Si S j=Si i:=by
 unfold rH;split
 .rename_i k e
  obtain⟨h1,h2,_⟩:=List.findIdx?_eq_some_iff_getElem.mp e;have:cap[k]=some j:=by simpa using h2
  rw[hj i k j h (by rw[List.getElem?_eq_getElem h1,this])]
 .rename_i e
  have:=List.findIdx?_eq_none_iff.mp e (some j) (List.mem_of_getElem? h);simp at this
theorem gU{Si S:Ad}{j:Nat}(h:∀i:Nat,cap[i]?≠some (some j)):rH cap Si S j=S j:=by
 unfold rH;split
 .rename_i k e
  obtain⟨h1,h2,_⟩:=List.findIdx?_eq_some_iff_getElem.mp e;have:cap[k]=some j:=by simpa using h2
  exact absurd (by rw[List.getElem?_eq_getElem h1,this]) (h k)
 .rfl
theorem fG(cap:List (Option Nat))(j:Nat):(∃i:Nat,cap[i]? =some (some j))∨(∀i:Nat,cap[i]?≠some (some j)):=by
 by_cases h:∃i:Nat,cap[i]? =some (some j)
 .exact .inl h
 .exact .inr λi z=>h ⟨i,z⟩
theorem Sta.out{H H':Hp}{ρ ρi:En}{σ σi:L2.St}{S Si:Ad}{Fr:Addr->Prop}{M:List Addr}(hj:nF cap)(s:Sta G H ob ρ σ S Fr)(ho:∀i:Nat,cap[i]? =some none->True)(hk:∀i j:Nat,cap[i]? =some (some j)->σi[i]? =(ie cap σ)[i]?)
  (si:Sta G H' (obC cap ob) ρi σi Si (plus M (p6 cap S Fr))) (ef:Eff (obC cap ob) H H' (kW cap S) Si M):Sta G H' ob (ig cap ρi ρ) σ (rH cap Si S) (plus M Fr)/\Eff ob H H' S (rH cap Si S) M/\
   (∀d v L,clean d=true->Rep G H' (wn (obC cap ob) Si (plus M (p6 cap S Fr))) d v L->Rep G H' (wn ob (rH cap Si S) (plus M Fr)) d v L):=by
 have inO1:∀{a},inO (obC cap ob) (kW cap S) a->inO ob S a:=λ{a}⟨i,h1,h2⟩=>by
  obtain⟨j,e,z⟩:=iI h2;exact⟨j,by rw[←zY (ob:=ob) e];exact h1,z⟩
 have eff:Eff ob H H' S (rH cap Si S) M:=by
  refine⟨λb u hb n=>ef.kp b u hb λz=>n (inO1 z),λj hob=>?_,λj a hob z=>?_,λa ha=>(ef.fm a ha).imp inO1 id⟩
  .rcases fG cap j with⟨i,hi⟩|hn
   .rw[gK hj hi,ef.sn i (by rw[zY hi];exact hob),wg hi]
   .exact gU hn
  .rcases fG cap j with⟨i,hi⟩|hn
   .rw[gK hj hi]at z
    exact(ef.gr i a (by rw[zY hi];exact hob) z).imp inO1 id
   .rw[gU hn]at z;exact .inl ⟨j,hob,z⟩
 have hfree:∀a,(wn (obC cap ob) Si (plus M (p6 cap S Fr))).free a->(wn ob (rH cap Si S) (plus M Fr)).free a:=λa f=>by
  have nS:∀j,a∉rH cap Si S j:=λj z=>by
   rcases fG cap j with⟨i,hi⟩|hn
   .rw[gK hj hi]at z
    cases hoi:obC cap ob i with
    |false=>exact f.2.1 ⟨i,hoi,z⟩
    |true=>exact f.2.2 ⟨i,hoi,z⟩
   .rw[gU hn]at z
    exact f.1 (.inr (.inr ⟨j,hn,z⟩))
  exact⟨λz=>z.elim (λz=>f.1 (.inl z)) λz=>f.1 (.inr (.inl z)),λ⟨j,_,z⟩=>nS j z,λ⟨j,_,z⟩=>nS j z⟩
 have conv:∀d v L,clean d=true->Rep G H' (wn (obC cap ob) Si (plus M (p6 cap S Fr))) d v L->Rep G H' (wn ob (rH cap Si S) (plus M Fr)) d v L:=λd v L hc r=>by
  have hcc:=(by simpa[clean]using hc:aG d=true/\aC d=true);have ev:Evo H' H' (wn (obC cap ob) Si (plus M (p6 cap S Fr))) (wn ob (rH cap Si S) (plus M Fr)):=⟨λb u hb f=>⟨hb,hfree b f⟩,λ_ _ h=>h⟩;exact r.mono ev (.inl hcc.1) (.inl hcc.2) λ_ _ _ h=>h
 have notin:∀{j a},(∀i:Nat,cap[i]?≠some (some j))->a∈S j->∀i,a∉Si i:=λ{j a} hn z i y=>si.fdj i a (.inr (.inr ⟨j,hn,z⟩)) y;refine⟨⟨by rw[mD];exact s.len,λj d hd=>?_,λj hd=>?_,λj=>?_,λj k a h1 h2=>?_,λj a h z=>?_,λa h=>?_⟩,eff,conv⟩
 .rcases fG cap j with⟨i,hi⟩|hn
  .have hjl:j<ρ.length:=by
    have:=(List.getElem?_eq_some_iff.mp hd).1;rwa[mD]at this
   cases hx:ρi[i]? with
   |none=>
    have h1:ρi.length<=i:=List.getElem?_eq_none_iff.mp hx;have h2:σi.length<=i:=by rw[←si.len];exact h1
    have h3:=hk i j hi;rw[List.getElem?_eq_none_iff.mpr h2]at h3;have h4:(ie cap σ).length<=i:=List.getElem?_eq_none_iff.mp h3.symm;have h5:i<cap.length:=(List.getElem?_eq_some_iff.mp hi).1;simp[ie]at h4;omega
   |some x=>
    rw[pC hj hi hx hjl]at hd;cases hd;obtain⟨v,q1,q2,q3⟩:=si.sl i d hx;rw[hk i j hi]at q1;obtain⟨j',e1,e2⟩:=pB q1;rw[hi]at e1;cases e1;exact⟨v,e2,by rw[gK hj hi];exact conv _ _ _ q3 q2,q3⟩
  .rw[lM hn]at hd
   obtain⟨v,q1,q2,q3⟩:=s.sl j d hd;refine⟨v,q1,?_,q3⟩;rw[gU hn];have hcc:=(by simpa[clean]using q3:aG d=true/\aC d=true);refine q2.mono (eff.evo s) (.inl hcc.1) (.inl hcc.2) λc hc u hu=>?_;exact ef.kp c u hu λ⟨i,_,z⟩=>by
    obtain⟨k,e,z⟩:=iI z;have:=s.dj j k c hc z;subst this;exact hn i e
 .rcases fG cap j with⟨i,hi⟩|hn
  .rw[gK hj hi]
   refine si.em i λd hdi=>?_;by_cases hjl:j<ρ.length
   .exact hd d (pC hj hi hdi hjl)
   .
    obtain⟨v,q1,_⟩:=si.sl i d hdi;rw[hk i j hi]at q1;obtain⟨j',e1,e2⟩:=pB q1;rw[hi]at e1;cases e1;have:=(List.getElem?_eq_some_iff.mp e2).1;rw[←s.len]at this;exact hjl this
  .rw[gU hn]
   exact s.em j λd=>by have:=hd d;rwa[lM hn]at this
 .rcases fG cap j with⟨i,hi⟩|hn
  .rw[gK hj hi];exact si.nd i
  .rw[gU hn];exact s.nd j
 .rcases fG cap j with⟨i,hi⟩|hn<;>rcases fG cap k with⟨i',hi'⟩|hn'
  .rw[gK hj hi]at h1
   rw[gK hj hi']at h2;have:=si.dj i i' a h1 h2;subst this;rw[hi]at hi';cases hi';rfl
  .rw[gK hj hi]at h1
   rw[gU hn']at h2;exact absurd h1 (notin hn' h2 i)
  .rw[gU hn]at h1
   rw[gK hj hi']at h2;exact absurd h2 (notin hn h1 i')
  .rw[gU hn]at h1
   rw[gU hn']at h2;exact s.dj j k a h1 h2
 .rcases fG cap j with⟨i,hi⟩|hn
  .rw[gK hj hi]at z
   exact si.fdj i a (h.imp id .inl) z
  .rw[gU hn]at z
   rcases h with h|h
   .rcases ef.fm a h with y|y
    .obtain⟨k,_,y⟩:=inO1 y
     have:=s.dj j k a z y;subst this;obtain⟨i,hi,y'⟩:∃i,obC cap ob i=true/\a∈kW cap S i:=by assumption
     obtain⟨k',e,y'⟩:=iI y';have:=s.dj j k' a z y';subst this;exact hn i e
    .obtain⟨o,ho,_⟩:=s.mu z
     rw[y]at ho;cases ho
   .exact s.fdj j a h z
 .rcases h with h|h
  .exact si.fdm a (.inl h)
  .exact si.fdm a (.inr (.inl h))
end
section
variable{ι:Type}{X:ι->Cx}{G:Gc}{ob own:Nat->Bool}
def Nk(G:Gc)(ob own:Nat->Bool)(g:TG)(f:D->En->Option En):Prop:=∀(d:D)(ρ ρ':En),f d ρ=some ρ'->∀(x:V)(σ:L2.St)(H:Hp)(S:Ad)(Fr:Addr->Prop),Sta G H ob ρ σ S Fr->(∀i,own i=true->S i=[])->Rep G H (wn ob S Fr) d x []->∀Q:L2.St->Hp->Prop,
 (∀σ',Sta G H ob ρ' σ' S Fr->(∀j,own j=false->σ'[j]? =σ[j]?)->Q σ' H)->g x σ H Q
theorem Ed{i:Nat}(ho:own i=true):Nk G ob own (vI i) (tgN i):=λd ρ ρ' e x σ H S Fr s hS r Q q=>by
 unfold tgN at e;split at e
 .rename_i hc
  cases e;refine q _ ⟨by simp[s.len],λj d' hj=>?_,λj hj=>?_,s.nd,s.dj,s.fdj,s.fdm⟩ λj hj=>?_
  .by_cases ej:i=j
   .subst ej
    rw[List.getElem?_set]at hj;split at hj
    .split at hj
     .rename_i h2
      have:d=d':=by simpa using hj
      subst this;exact⟨x,by simp[←s.len,h2],by rw[hS i ho];exact r,hc⟩
     .cases hj
    .exact absurd rfl ‹_›
   .rw[List.getElem?_set_ne ej]at hj
    obtain⟨v,h1,h2,h3⟩:=s.sl j d' hj;exact⟨v,by rw[List.getElem?_set_ne ej];exact h1,h2,h3⟩
  .by_cases ej:i=j
   .subst ej;exact hS i ho
   .exact s.em j λd'=>by have:=hj d';rwa[List.getElem?_set_ne ej]at this
  .have:i≠j:=λz=>by rw[←z,ho]at hj;cases hj
   rw[List.getElem?_set_ne this]
 .cases e
structure Qj{ι:Type}(X:ι->Cx)(G:Gc)(ob own:Nat->Bool)(tg:Expr)(f:D->En->Option En):Prop where
 mk::(ex:∃t,(∀c,PG (X c) tg t)/\Nk G ob own t f)
theorem Du(i:Nat){x:Str}{pos:Pos}(hN:∀c,(X c).N.Nodup)(ho:own i=true:=by rfl)(hi:∀c,(X c).N[i]? =some x:=by intro _;rfl)(hx:∀c,Loc (X c).env.scope x:=by intro _;first|exact Or.inl rfl|exact Or.inr rfl)(hf:∀c,(X c).fn x=true∨(X c).env.scope.names.lookup x=some .local:=by intro _;first|exact .inl rfl|exact .inr rfl):Qj X G ob own (.Name x pos) (tgN i):=⟨_,λc=>xq (hN c) (hi c) (hx c) (hf c),Ed ho⟩
def jn(cap:List (Option Nat))(tg:D->En->Option En)(c:En->Option Bool)(e:En->Option (D×En)):List D->En->Option (List D×En)
 |[],ρ=>some ([],ρ)
 |d::r,ρ=>(tg d (mX cap ρ)).bind λρ1=>(c ρ1).bind λb=>if b=true then(e ρ1).bind λp=>if clean p.1=true then(jn cap tg c e r (ig cap p.2 ρ)).map λt=>(p.1::t.1,t.2)else none else jn cap tg c e r ρ
def uf(cap:List (Option Nat))(it:En->Option (Bool×List D))(tg:D->En->Option En)(c:En->Option Bool)(e:En->Option (D×En)):En->Option (D×En):=λρ=>(it ρ).bind λp=>if p.1=true/\p.2.length<=1000000 then(jn cap tg c e p.2 ρ).map λt=>(.lst .own t.1,t.2)else none
theorem Fp{cap:List (Option Nat)}{wi:TI}{g:TG}{tt:TT}{te:TE}{it:En->Option (Bool×List D)}{tg:D->En->Option En}{c:En->Option Bool}{e:En->Option (D×En)}(hj:nF cap)(hcap:∀i:Nat,own i=true->cap[i]?≠none->cap[i]? =some none)(hi:RfI G ob wi it)(hg:Nk G (obC cap ob) own g tg)(ht:RfT G (obC cap ob) tt c)(he:j4 G (obC cap ob) te e) :
  j4 G ob (Bo cap wi g tt te) (uf cap it tg c e):=λρ d ρ' ee σ H S Fr s Q q=>by
 unfold uf at ee;cases h1:it ρ with
 |none=>simp[h1]at ee
 |some p=>
  obtain⟨b,items⟩:=p;rw[h1]at ee;simp only[Option.bind_some]at ee;split at ee
  .rename_i hlen
   obtain⟨hb,hlen⟩:=hlen;change b=true at hb;change items.length<=1000000 at hlen;subst hb;cases h2:jn cap tg c e items ρ with
   |none=>simp[h2]at ee
   |some w=>
    obtain⟨tot,ρf⟩:=w;obtain⟨rfl,rfl⟩:D.lst .own tot=d/\ρf=ρ':=by simpa[h2]using ee
    refine hi ρ true items h1 σ H _ s.rel s.wok _ λJ H1 sm wk=>?_;have s1:Sta G H1 ob ρ σ S Fr:=s.grow sm λa z=>.inl z;have e1:Eff ob H H1 S S []:=⟨λb u h _=>sm b u h,λ_ _=>rfl,λi a h z=>.inl ⟨i,h,z⟩,by simp⟩;refine⟨λi m ys H2=>i+m=items.length/\ys.length<=i/\∃ρ2 S2 acc L rest,Sta G H2 ob ρ2 σ S2 (plus L Fr)/\aF G H2 (wn ob S2 (plus L Fr)) acc ys L/\L.Nodup/\aD acc=true/\aH acc=true/\Eff ob H1 H2 S S2 L/\jn cap tg c e (items.drop i) ρ2=some (rest,ρf)/\acc++rest=tot,
     ⟨items.length,by omega,by simp,ρ,S,[],[],tot,by rw[jt];exact s1,.nil,List.nodup_nil,rfl,rfl,.refl,h2,rfl⟩,?_⟩
    rintro i m ys H2 ⟨him,hyi,ρ2,S2,acc,L,rest,s2,ra,na,ca1,ca2,ef,hrest,htot⟩;have lt:LtB true H1 (wn ob S Fr) H2 (wn (obC cap ob) (kW cap S2) (p6 cap S2 (plus L Fr))):=ur ⟨λb u hb f=>let⟨h1,h2⟩:=(ef.evo s1).k b u hb f;⟨h1,wB.mp h2⟩,(ef.evo s1).t⟩;by_cases hil:i<items.length
    .have hdr:=(List.getElem_cons_drop hil).symm
     rw[hdr,jn]at hrest;refine .inr ⟨wk.go i items[i] (by simp[hil]) H2 _ lt,by have:=six hlen;omega,λys' H'=>(i+1)+(m-1)=items.length/\ys'.length<=i+1/\∃ρ2 S2 acc L rest,Sta G H' ob ρ2 σ S2 (plus L Fr)/\aF G H' (wn ob S2 (plus L Fr)) acc ys' L/\L.Nodup/\aD acc=true/\aH acc=true/\Eff ob H1 H' S S2 L/\jn cap tg c e (items.drop (i+1)) ρ2=some (rest,ρf)/\acc++rest=tot,λys' H' h=>⟨m-1,by omega,h⟩,λx H3 hy=>?_⟩;obtain⟨s3,rx⟩:=wk.yld i items[i] (by simp[hil]) H2 _ lt x H3 hy;have st3:Sta G H3 ob ρ2 σ S2 (plus L Fr):=s2.grow s3 λa z=>.inl z;have ef3:Eff ob H1 H3 S S2 L:=ef.same s3 λc hc=>.inl hc;have ra3:aF G H3 (wn ob S2 (plus L Fr)) acc ys L:=ra.up (Up.same s3);have si:=st3.inn (cap:=cap) hj;cases h3:tg items[i] (mX cap ρ2)with
     |none=>simp[h3]at hrest
     |some ρ3=>
      rw[h3]at hrest;simp only[Option.bind_some]at hrest;have hSo:∀k,own k=true->kW cap S2 k=[]:=λk hk=>by
       unfold kW;split
       .rename_i j e
        rw[hcap k hk (by rw[e];simp)]at e;cases e
       .rfl
      refine hg items[i] _ ρ3 h3 x _ H3 _ (p6 cap S2 (plus L Fr)) si hSo rx _ λσ4 s4 kpo=>⟨G9 hcap kpo,?_⟩;cases h4:c ρ3 with
      |none=>simp[h4]at hrest
      |some bb=>
       rw[h4]at hrest;simp only[Option.bind_some]at hrest;refine ht ρ3 bb h4 σ4 H3 _ s4.rel s4.wok _ λH4 s4'=>?_;have st4:Sta G H4 ob ρ2 σ S2 (plus L Fr):=st3.grow s4' λa z=>.inl z;have si4:Sta G H4 (obC cap ob) ρ3 σ4 (kW cap S2) (p6 cap S2 (plus L Fr)):=s4.grow s4' λa z=>.inl z;have ef4:Eff ob H1 H4 S S2 L:=ef3.same s4' λc hc=>.inl hc;have ra4:aF G H4 (wn ob S2 (plus L Fr)) acc ys L:=ra3.up (Up.same s4');cases bb with
       |false=>
        simp only[Bool.false_eq_true,if_false]at hrest;exact zF ⟨by omega,by omega,ρ2,S2,acc,L,rest,st4,ra4,na,ca1,ca2,ef4,hrest,htot⟩
       |true=>
        simp only[if_true]at hrest;cases h5:e ρ3 with
        |none=>simp[h5]at hrest
        |some w=>
         obtain⟨y,ρ5⟩:=w;rw[h5]at hrest;simp only[Option.bind_some]at hrest;split at hrest
         .rename_i hcy
          cases h6:jn cap tg c e (items.drop (i+1)) (ig cap ρ5 ρ2)with
          |none=>simp[h6]at hrest
          |some w=>
           obtain⟨rest',ρf'⟩:=w;obtain⟨rfl,rfl⟩:y::rest'=rest/\ρf'=ρf:=by simpa[h6]using hrest
           refine ur (he ρ3 y ρ5 h5 σ4 H4 _ _ si4 _ λv H5 M S5 s5 ry ny ef5=>?_);have hk5:∀i j:Nat,cap[i]? =some (some j)->σ4[i]? =(ie cap σ)[i]?:=λi j hi=>kpo i (by
            cases ho:own i with
            |false=>rfl
            |true=>rw[hcap i ho (by rw[hi];simp)]at hi;cases hi)
           obtain⟨o1,o2,o3⟩:=st4.out hj (λ_ _=>trivial) hk5 s5 ef5;have hcc:=(by simpa[clean]using hcy:aG y=true/\aC y=true);have ra5:=ra4.mono (o2.evo st4) (.inl ca1) (.inl ca2) λc hc u hu=>o2.keepsF st4 (.inl hc) u hu;rw[mz]at o1 ra5;have ry5:=o3 y v M hcy ry;rw[mz]at ry5;have hLM:∀a∈L,a∉M:=λa z1 z2=>by
            rcases o2.fm a z2 with y|y
            .exact st4.notO (.inl z1) y
            .obtain⟨o,ho,_⟩:=ra4.dom a z1
             rw[y]at ho;cases ho
           exact⟨by omega,by simp;omega,ig cap ρ5 ρ2,_,acc++[y],L++M,rest',o1,ra5.append (.one ry5),dY na ny hLM,by rw[jq];simp[ca1,aD,hcc],by rw[jk];simp[ca2,aH,hcc],ef4.trans o2,h6,by rw[←htot];simp⟩
         .cases hrest
    .have hl:i=items.length:=by omega
     subst hl;rw[List.drop_length,jn]at hrest;obtain⟨rfl,rfl⟩:[]=rest/\ρ2=ρf:=by simpa using hrest
     refine .inl ⟨wk.stop H2 _ lt,Nat.le_of_lt (six (by omega)),λp hp=>?_⟩;have sm2:Same H2 (upd H2 p (.lst ys)):=Same.new hp;rw[List.append_nil]at htot;subst htot;have np:p∉L:=λz=>by obtain⟨o,ho,_⟩:=ra.dom p z;rw[hp]at ho;cases ho
     have hr:Rep G (upd H2 p (.lst ys)) (wn ob S2 (plus (p::L) Fr)) (.lst .own acc) (.ref p) (p::L):=by
      rw[Rep];exact⟨p,ys,L,rfl,ra.up ⟨sm2,λb u hb f=>⟨λz=>z.elim (λz=>(List.mem_cons.mp z).elim (λz=>by rw[z,hp]at hb;cases hb) λz=>f.1 (.inl z)) λz=>f.1 (.inr z),f.2⟩,λ_ _ _ f=>f⟩,bc,rfl⟩
     refine q (.ref p) _ (p::L) S2 (s2.grow sm2 λa z=>?_) hr (List.nodup_cons.mpr ⟨np,na⟩) ?_
     .rcases z with z|z
      .rcases List.mem_cons.mp z with z|z
       .exact .inr ⟨by rw[z];exact hp,hr.dom a (by simp[z])⟩
       .exact .inl (.inl z)
      .exact .inl (.inr z)
     .exact(e1.trans ef).same sm2 λc hc=>(List.mem_cons.mp hc).elim (λz=>.inr (by rw[z];exact hp)) λz=>.inl (by simpa using z)
  .cases ee
section
variable{elt target iter:Expr}{ifs:List Expr}{scope:Scope}{pos pos' pos2:Pos}{N':List Str}{it:En->Option (Bool×List D)}{tg:D->En->Option En}{fc:En->Option Bool}
theorem iH(cap:List (Option Nat))(own:Nat->Bool){fe:En->Option D}(hx:∀c,(X c).xe=NoX)(hc:∀c,(X c).calm=true)(O:∀c,cQ (X c).env.scope (X c).N N' scope cap)(hcap:∀i:Nat,own i=true->cap[i]?≠none->cap[i]? =some none)(hi:PVI X G ob target iter it)(hg:Hm (InX X N' scope) G (obC cap ob) own target tg)(ht:FT (InX X N' scope) G (obC cap ob) ifs fc)(he:PV (InX X N' scope) G (obC cap ob) elt fe)
  (hs:∀c,∀x,foldedSetIterable iter (X c).env x=pure x:=by intro _ _;rfl):PV X G ob (.ListComp elt [⟨target,iter,ifs,0⟩] scope pos) (iY cap it tg fc fe):=
 let⟨_,i1,i2⟩:=hi.ex;let⟨_,g1,g2⟩:=hg.ex;let⟨_,t1,t2⟩:=ht.ex;let⟨_,e1,e2⟩:=he.ex
 ⟨_,λc=>Cg (hx c) (hc c) (O c) (i1 c) (λC s H fp=>g1 (c,C,s,H,fp)) (λC s H fp=>t1 (c,C,s,H,fp)) (λC s H fp=>e1 (c,C,s,H,fp)) (hs c),Dg hcap i2 g2 t2 e2⟩
theorem HB(cap:List (Option Nat))(own:Nat->Bool){fe:En->Option (D×En)}(hx:∀c,(X c).xe=NoX)(hc:∀c,(X c).calm=true)(O:∀c,cQ (X c).env.scope (X c).N N' scope cap)(hj:nF cap)(hcap:∀i:Nat,own i=true->cap[i]?≠none->cap[i]? =some none)(hi:PVI X G ob target iter it)(hg:Qj (InX X N' scope) G (obC cap ob) own target tg)(ht:FT (InX X N' scope) G (obC cap ob) ifs fc)(he:PVe (InX X N' scope) G (obC cap ob) elt fe)
  (hs:∀c,∀x,foldedSetIterable iter (X c).env x=pure x:=by intro _ _;rfl):PVe X G ob (.ListComp elt [⟨target,iter,ifs,0⟩] scope pos) (uf cap it tg fc fe):=
 let⟨_,i1,i2⟩:=hi.ex;let⟨_,g1,g2⟩:=hg.ex;let⟨_,t1,t2⟩:=ht.ex;let⟨_,e1,e2⟩:=he.ex
 ⟨_,λc=>Cg (hx c) (hc c) (O c) (i1 c) (λC s H fp=>g1 (c,C,s,H,fp)) (λC s H fp=>t1 (c,C,s,H,fp)) (λC s H fp=>e1 (c,C,s,H,fp)) (hs c),Fp hj hcap i2 g2 t2 e2⟩
variable{P:Nat->Bool}{x:Str}
theorem Ge(i:Nat)(cap:List (Option Nat))(own:Nat->Bool){fe:En->Option D}(hN:∀c,(X c).N.Nodup)(hx:∀c,(X c).xe=NoX)(hc:∀c,(X c).calm=true)(O:∀c,cQ (X c).env.scope (X c).N N' scope cap)(hcap:∀i:Nat,own i=true->cap[i]?≠none->cap[i]? =some none)(hi:PVI X G ob target iter it)(hg:Hm (InX X N' scope) G (obC cap ob) own target tg)(ht:FT (InX X N' scope) G (obC cap ob) ifs fc)(he:PV (InX X N' scope) G (obC cap ob) elt fe)
  (hP:P i=false:=by rfl) (hNi:∀c,(X c).N[i]? =some x:=by intro _;rfl) (hl:∀c,Loc (X c).env.scope x:=by intro _;first|exact Or.inl rfl|exact Or.inr rfl) (hw:∀c,swapsWith (.ListComp elt [⟨target,iter,ifs,0⟩] scope pos) (some (.Name x pos')) pos2.line (X c).env=pure true:=by intro _;rfl) (hs:∀c,∀x,foldedSetIterable iter (X c).env x=pure x:=by intro _ _;rfl)
  (hf:∀c,(X c).fn x=true∨(X c).env.scope.names.lookup x=some .local:=by intro _;first|exact .inl rfl|exact .inr rfl):PVS X G ob P (.Assign [.Name x pos'] (.ListComp elt [⟨target,iter,ifs,0⟩] scope pos) pos2) (fj (iY cap it tg fc fe) (tgN i)):=
 let⟨_,i1,i2⟩:=hi.ex;let⟨_,g1,g2⟩:=hg.ex;let⟨_,t1,t2⟩:=ht.ex;let⟨_,e1,e2⟩:=he.ex
 ⟨_,λc=>Jm (hx c) (hc c) (hN c) (hNi c) (hl c) (O c) (i1 c) (λC s H fp=>g1 (c,C,s,H,fp)) (λC s H fp=>t1 (c,C,s,H,fp)) (λC s H fp=>e1 (c,C,s,H,fp)) (hw c) (hs c) (hf c),by rw[←Ai];exact lW (yp (Dg hcap i2 g2 t2 e2)) (jL hP)⟩
end
end
section
variable{ι:Type}{X:ι->Cx}{G:Gc}
theorem OpR.or{Y:Cx}{f:Value->Value->Sem Value}{r r':R2}(h:OpR Y f r)(h':OpR Y f r'):OpR Y f (λx y H Q=>r x y H Q∨r' x y H Q):=λpins s σ H x y v u Q I rx ry q=>q.elim (h pins s σ H x y v u Q I rx ry) (h' pins s σ H x y v u Q I rx ry)
theorem cM.or{Y:Cx}{f:Value}{r r':List V->Hp->VK->Prop}(h:cM Y f r)(h':cM Y f r'):cM Y f (λxs H Q=>r xs H Q∨r' xs H Q):=λpins s σ H xs us Q I rv q=>q.elim (h pins s σ H xs us Q I rv) (h' pins s σ H xs us Q I rv)
theorem dR{H:Hp}{W:Wn}{i:Int}:Rep G H W (.int i) (.int i) []:=by rw[Rep];exact⟨rfl,rfl⟩
theorem wz{H:Hp}{W:Wn}{i:Str}:Rep G H W (.str i) (.str i) []:=by rw[Rep];exact⟨rfl,rfl⟩
theorem g8{H:Hp}{W:Wn}{i:Bool}:Rep G H W (.bl i) (.bl i) []:=by rw[Rep];exact⟨rfl,rfl⟩
theorem aR{H:Hp}{W:Wn}{i:Int}{v:V}{L:List Addr}(r:Rep G H W (.int i) v L):v= .int i/\L=[]:=by rw[Rep]at r;exact r
theorem bD{H:Hp}{W:Wn}{i:Str}{v:V}{L:List Addr}(r:Rep G H W (.str i) v L):v= .str i/\L=[]:=by rw[Rep]at r;exact r
theorem nA{H:Hp}{W:Wn}{i:Bool}{v:V}{L:List Addr}(r:Rep G H W (.bl i) v L):v= .bl i/\L=[]:=by rw[Rep]at r;exact r
theorem BX{C:Int->Int->Prop}{g:Int->Int->V}{gD:D->D->Option D}(h:∀dx dy d,gD dx dy=some d->∃i j,dx= .int i/\dy= .int j/\C i j/\∀H W,Rep G H W d (g i j) []):OpV G (rI C g) gD:=λdx dy d e x y H W Lx Ly rx ry nd hn w Q q=>by
 obtain⟨i,j,rfl,rfl,hc,hr⟩:=h dx dy d e;obtain⟨rfl,rfl⟩:=aR rx;obtain⟨rfl,rfl⟩:=aR ry;exact⟨i,j,rfl,rfl,hc,q.scal (λW=>hr H W)⟩
theorem Az{g:Int->Int->V}{gD:D->D->Option D}(h:∀dx dy d,gD dx dy=some d->∃i j,dx= .int i/\dy= .int j/\∀H W,Rep G H W d (g i j) []):OpV G (rI0 g) gD:=λdx dy d e x y H W Lx Ly rx ry nd hn w Q q=>by
 obtain⟨i,j,rfl,rfl,hr⟩:=h dx dy d e;obtain⟨rfl,rfl⟩:=aR rx;obtain⟨rfl,rfl⟩:=aR ry;exact⟨i,j,rfl,rfl,q.scal (λW=>hr H W)⟩
def i_:D->D->Option D
 |.int a,.int b=>some (.int (a-b))
 |_,_=>none
def gZ:D->D->Option D
 |.int a,.int b=>if(-(2 ^ 64)<a/\a<2 ^ 64)∨(-(2 ^ 64)<b/\b<2 ^ 64)then some (.int (a*b))else none
 |_,_=>none
def oX:D->D->Option D
 |.int a,.int b=>if 0<b/\b<18446744073709551616 then some (.int (a / b))else none
 |_,_=>none
def j9:D->D->Option D
 |.int a,.int b=>if 0<b then some (.int (a % b))else none
 |_,_=>none
def nP:D->D->Option D
 |.int a,.int b=>if 0<=b/\b<=1000000/\a.natAbs<2 ^ 64 then some (.int (a ^ b.toNat))else none
 |_,_=>none
theorem lO:OpB X G (binaryOp .Sub) i_:=⟨_,λc=>Nr,Az λdx dy d e=>by
 unfold i_ at e;split at e
 .cases e;exact⟨_,_,rfl,rfl,λ_ _=>dR⟩
 .cases e⟩
theorem iR:OpB X G (binaryOp .Mult) gZ:=⟨_,λc=>M3,BX λdx dy d e=>by
 unfold gZ at e;split at e
 .split at e
  .cases e;exact⟨_,_,rfl,rfl,‹_›,λ_ _=>dR⟩
  .cases e
 .cases e⟩
theorem v6:OpB X G (binaryOp .FloorDiv) oX:=⟨_,λc=>Iu,BX λdx dy d e=>by
 unfold oX at e;split at e
 .split at e
  .cases e;exact⟨_,_,rfl,rfl,‹_›,λ_ _=>dR⟩
  .cases e
 .cases e⟩
theorem jW:OpB X G (binaryOp .Mod) j9:=⟨_,λc=>Oh,BX λdx dy d e=>by
 unfold j9 at e;split at e
 .split at e
  .cases e;exact⟨_,_,rfl,rfl,‹_›,λ_ _=>dR⟩
  .cases e
 .cases e⟩
theorem xf:OpB X G (binaryOp .Pow) nP:=⟨_,λc=>N7,BX λdx dy d e=>by
 unfold nP at e;split at e
 .split at e
  .cases e;exact⟨_,_,rfl,rfl,‹_›,λ_ _=>dR⟩
  .cases e
 .cases e⟩
def pN:D->Option D
 |.int a=>some (.int (-a))
 |_=>none
theorem wK:UnB X G (unaryOp .USub) pN:=⟨_,λc=>Oe,λdx d e x H W Lx rx nd hn w Q q=>by
 unfold pN at e;split at e
 .cases e
  obtain⟨rfl,rfl⟩:=aR rx;exact⟨_,rfl,q.scal λW=>dR⟩
 .cases e⟩
def bH:D->D->Option D
 |.int a,.int b=>some (.int (a+b))
 |.str a,.str b=>if a.length+b.length<=sizeLine then some (.str (a++b))else none
 |.lst m a,.lst n b=>if m≠.scr/\n≠.scr/\a.length+b.length<=1000000 then some (.lst .own (a++b))else none
 |.tup a,.tup b=>if a.length+b.length<=1000000 then some (.tup (a++b))else none
 |_,_=>none
theorem vU{H H':Hp}{W:Wn}{dx dy:List D}{xs ys:List V}{Lx Ly Mx My:List Addr}(hx:aF G H W dx xs Mx)(hy:aF G H W dy ys My)(sx:List.Sublist Mx Lx)(sy:List.Sublist My Ly)(hn:∀a∈Lx++Ly,W.tmp a)(s:Same H H')(extra:List Addr)(he:∀a∈extra,H a=none):aF G H' ((W.drop (Lx++Ly)).add (extra++(Mx++My))) (dx++dy) (xs++ys) (Mx++My):=by
 refine(hx.append hy).up ⟨s,λb u hb f=>⟨λz=>z.elim (λz=>?_) λz=>f.1 z.1,f.2⟩,λ_ _ _ f=>f⟩;rcases List.mem_append.mp z with z|z
 .rw[he b z]at hb;cases hb
 .rcases List.mem_append.mp z with z|z
  .exact f.1 (hn b (List.mem_append_left _ (sx.subset z))).1
  .exact f.1 (hn b (List.mem_append_right _ (sy.subset z))).1
def QB(K:PySem.W.Frag):R2:=λx y H Q=>((rI0 (λi j=>.int (i+j)) x y H Q∨(∃i j,x= .str i/\y= .str j/\i.length+j.length<=sizeLine/\Q (.str (i++j)) H))∨Qf x y H Q)∨F_ K x y H Q
theorem Km:OpV G (QB G.K) bH:=λdx dy d e x y H W Lx Ly rx ry nd hn w Q q=>by
 unfold bH at e;split at e
 .cases e
  obtain⟨rfl,rfl⟩:=aR rx;obtain⟨rfl,rfl⟩:=aR ry;exact .inl (.inl (.inl ⟨_,_,rfl,rfl,q.scal λ_=>dR⟩))
 .split at e
  .cases e
   obtain⟨rfl,rfl⟩:=bD rx;obtain⟨rfl,rfl⟩:=bD ry;exact .inl (.inl (.inr ⟨_,_,rfl,rfl,‹_›,q.scal λ_=>wz⟩))
  .cases e
 .rename_i m a n b
  split at e
  .rename_i hc
   cases e;rw[Rep]at rx ry;obtain⟨p,xs,Mx,rfl,hx,sx⟩:=rx;obtain⟨p',ys,My,rfl,hy,sy⟩:=ry;refine .inl (.inr ⟨p,p',xs,ys,rfl,rfl,sx.at hc.1,sy.at hc.2.1,by rw[←hx.length,←hy.length];exact Nat.le_of_lt (six hc.2.2),λr hr=>?_⟩);have sm:Same H (upd H r (.lst (xs++ys))):=Same.new hr;have nr:r∉Mx++My:=λz=>by
    obtain⟨o,ho,_⟩:=(hx.append hy).dom r z;rw[hr]at ho;cases ho
   have ndM:(Mx++My).Nodup:=(sx.sub.append sy.sub).nodup nd;refine q (.ref r) _ (r::(Mx++My)) sm ?_ (λc hc=>?_) (List.nodup_cons.mpr ⟨nr,ndM⟩)
   .rw[Rep]
    exact⟨r,xs++ys,Mx++My,rfl,vU hx hy sx.sub sy.sub hn sm [r] (by simpa using hr),bc,rfl⟩
   .rcases List.mem_cons.mp hc with z|z
    .exact .inr (by rw[z];exact hr)
    .exact .inl ((sx.sub.append sy.sub).subset z)
  .cases e
 .rename_i a b
  split at e
  .rename_i hc
   cases e;rw[Rep]at rx ry;obtain⟨p,xs,rfl,hp,hx⟩:=rx;obtain⟨p',ys,rfl,hp',hy⟩:=ry;have base:∀H' p2,Same H H'->H' p2=some (.tup (xs++ys))->Q (.ref p2) H':=λH' p2 sm hq=>by
    refine q (.ref p2) H' (Lx++Ly) sm ?_ (λc hc=>.inl hc) nd;rw[Rep];exact⟨p2,xs++ys,rfl,hq,vU hx hy (List.Sublist.refl _) (List.Sublist.refl _) hn sm [] (by simp)⟩
   refine .inr ⟨p,p',xs,ys,rfl,rfl,SqT.of hp,SqT.of hp',by rw[←hx.length,←hy.length];exact Nat.le_of_lt (six hc),λz=>base H p' (Same.refl H) (by rw[z];exact hp'),λ_ z=>base H p (Same.refl H) (by rw[z,List.append_nil];exact hp),λ_ _ r hr=>base _ r (Same.new hr) bc⟩
  .cases e
 .cases e
theorem bG(hK:∀c,(X c).K=G.K:=by intro _;rfl):OpB X G (binaryOp .Add) bH:=⟨_,λc=>by rw[←hK c];exact OpR.or (OpR.or (OpR.or Pg zR) Pj) Ff,Km⟩
def gLt:D->D->Option D
 |.int a,.int b=>some (.bl (decide (a<b)))
 |.str a,.str b=>some (.bl (decide (a.cps.toList<b.cps.toList)))
 |_,_=>none
def gLe:D->D->Option D
 |.int a,.int b=>some (.bl (decide (a<=b)))
 |_,_=>none
def gGt:D->D->Option D
 |.int a,.int b=>some (.bl (decide (b<a)))
 |_,_=>none
def gGe:D->D->Option D
 |.int a,.int b=>some (.bl (decide (b<=a)))
 |_,_=>none
theorem Rg:OpB X G (compareOp .Lt) gLt:=⟨_,λc=>OpR.or Ru Eo,λdx dy d e x y H W Lx Ly rx ry nd hn w Q q=>by
 unfold gLt at e;split at e
 .cases e
  obtain⟨rfl,rfl⟩:=aR rx;obtain⟨rfl,rfl⟩:=aR ry;exact .inl ⟨_,_,rfl,rfl,q.scal λ_=>g8⟩
 .cases e
  obtain⟨rfl,rfl⟩:=bD rx;obtain⟨rfl,rfl⟩:=bD ry;exact .inr ⟨_,_,rfl,rfl,q.scal λ_=>g8⟩
 .cases e⟩
theorem Ls:OpB X G (compareOp .Gt) gGt:=⟨_,λc=>Qo,Az λdx dy d e=>by
 unfold gGt at e;split at e
 .cases e;exact⟨_,_,rfl,rfl,λ_ _=>g8⟩
 .cases e⟩
theorem Qx:OpB X G (compareOp .GtE) gGe:=⟨_,λc=>Qi,Az λdx dy d e=>by
 unfold gGe at e;split at e
 .cases e;exact⟨_,_,rfl,rfl,λ_ _=>g8⟩
 .cases e⟩
def yL:D->Bool
 |.non=>true
 |_=>false
def gIs:D->D->Option D
 |x,.non=>some (.bl (yL x))
 |_,_=>none
def Ag:D->D->Option D
 |x,.non=>some (.bl (!yL x))
 |_,_=>none
mutual
def dt:D->Dt
 |.non=>.non
 |.bl b=>.bl b
 |.int i=>.int i
 |.str x=>.str x
 |.tup ds=>.tup (dtL ds)
 |.lst _ ds=>.lst (dtL ds)
 |_=>.non
def dtL:List D->List Dt
 |[]=>[]
 |d::r=>dt d::dtL r
end
mutual
def fX:D->Bool
 |.ty _=>false
 |.dct _ _ _=>false
 |.ins _ _ _ _=>false
 |.tup ds=>gG ds
 |.lst _ ds=>gG ds
 |_=>true
def gG:List D->Bool
 |[]=>true
 |d::r=>fX d&&gG r
end
mutual
theorem Rep.brs{H:Hp}{W:Wn}:∀{d:D}{v:V}{L:List Addr},Rep G H W d v L->fX d=true->Brs G.K H (dt d) v
 |.non,v,L,r,_=>by rw[Rep]at r;simp[dt,Brs,r]
 |.bl _,v,L,r,_=>by rw[Rep]at r;simp[dt,Brs,r]
 |.int _,v,L,r,_=>by rw[Rep]at r;simp[dt,Brs,r]
 |.str _,v,L,r,_=>by rw[Rep]at r;simp[dt,Brs,r]
 |.ty _,v,L,r,h=>by cases h
 |.dct _ _ _,v,L,r,h=>by cases h
 |.ins _ _ _ _,v,L,r,h=>by cases h
 |.tup ds,v,L,r,h=>by
  rw[Rep]at r;obtain⟨a,xs,rfl,ht,hr⟩:=r;rw[dt,Brs];exact⟨a,xs,rfl,SqT.of ht,aF.brs hr h⟩
 |.lst m ds,v,L,r,h=>by
  rw[Rep]at r;obtain⟨a,xs,M,rfl,hr,hs⟩:=r;rw[dt,Brs];exact⟨a,xs,rfl,hs.sq,aF.brs hr h⟩
theorem aF.brs{H:Hp}{W:Wn}:∀{ds:List D}{vs:List V}{L:List Addr},aF G H W ds vs L->gG ds=true->h_ G.K H (dtL ds) vs
 |[],vs,L,r,_=>by obtain⟨rfl,_⟩:=r.inv0;simp[dtL,h_]
 |d::r,vs,L,hr,h=>by
  obtain⟨x,ys,M,M',rfl,rfl,h1,h2⟩:=hr.inv;rw[gG,Bool.and_eq_true]at h;rw[dtL,h_];exact⟨x,ys,rfl,Rep.brs h1 h.1,aF.brs h2 h.2⟩
end
def gEq:D->D->Option D:=λx y=>if fX x=true/\fX y=true/\dp (dt x)<=60/\dp (dt y)<=60 then some (.bl (eqD (dt x) (dt y)))else none
def gNe:D->D->Option D:=λx y=>if fX x=true/\fX y=true/\dp (dt x)<=60/\dp (dt y)<=60 then some (.bl (!eqD (dt x) (dt y)))else none
theorem cb_eq(A:Around)(hA:∀c,(X c).A=A)(hu:A.units+64<cLine)(hK:∀c,(X c).K=G.K:=by intro _;rfl):OpB X G (compareOp .Eq) gEq:=⟨QK G.K A,λc=>by rw[←hK c,←hA c];exact Oj,λdx dy d e x y H W Lx Ly rx ry nd hn w Q q=>by
 unfold gEq at e;split at e
 .rename_i hc
  cases e;exact⟨_,_,rx.brs hc.1,ry.brs hc.2.1,by omega,by omega,q.scal λ_=>g8⟩
 .cases e⟩
theorem m9(A:Around)(hA:∀c,(X c).A=A)(hu:A.units+64<cLine)(hK:∀c,(X c).K=G.K:=by intro _;rfl):OpB X G (compareOp .NotEq) gNe:=⟨Qd G.K A,λc=>by rw[←hK c,←hA c];exact Pb,λdx dy d e x y H W Lx Ly rx ry nd hn w Q q=>by
 unfold gNe at e;split at e
 .rename_i hc
  cases e;exact⟨_,_,rx.brs hc.1,ry.brs hc.2.1,by omega,by omega,q.scal λ_=>g8⟩
 .cases e⟩
def gIx:D->D->Option D
 |.lst _ ds,.int i=>atI ds i
 |.tup ds,.int i=>atI ds i
 |.str z,.int i=>if z.length<=sizeLine then(atI z.cps.toList i).map λc=>.str ⟨#[c]⟩else none
 |.dct _ ks ds,k=>(iT k).bind λk=>(fO ks k).bind λj=>ds[j]?
 |_,_=>none
theorem Hh{ds:List D}{xs:List V}{i:Int}{d:D}{H:Hp}{W:Wn}{L:List Addr}(hr:aF G H W ds xs L)(e:atI ds i=some d):∃j:Nat,ds[j]? =some d/\∀x,xs[j]? =some x->atI xs i=some x:=by
 unfold atI at e⊢;rw[←hr.length];cases h:ixN ds.length i with
 |none=>simp[h]at e
 |some j=>
  refine⟨j,by simpa[h]using e,λx hx=>by simpa using hx⟩
theorem qd{H:Hp}{W:Wn}{d:D}{x:V}{M Lx Ly:List Addr}{Q:VK}(r:Rep G H W d x M)(s:List.Sublist M Lx)(nd:(Lx++Ly).Nodup)(hn:∀a∈Lx++Ly,W.tmp a)(q:Done G H W (Lx++Ly) d Q):Q x H:=by
 refine q x H M (Same.refl H) (r.up ⟨Same.refl H,λb u hb f=>⟨λz=>z.elim (λz=>f.1 (hn b (List.mem_append_left _ (s.subset z))).1) λz=>f.1 z.1,f.2⟩,λ_ _ _ f=>f⟩) (λa ha=>.inl (List.mem_append_left _ (s.subset ha))) (s.nodup (List.nodup_append.mp nd).1)
theorem O_:OpV G (λx y H Q=>rIx G.K x y H Q∨Ou x y H Q) gIx:=λdx dy d e x y H W Lx Ly rx ry nd hn w Q q=>by
 unfold gIx at e;split at e
 .rename_i m ds i
  obtain⟨rfl,rfl⟩:=aR ry;rw[Rep]at rx;obtain⟨a,xs,M,rfl,hr,hs⟩:=rx;obtain⟨j,h1,h2⟩:=Hh hr e;obtain⟨z,Mz,h3,h4,h5⟩:=hr.get h1;exact .inl (.inl ⟨a,xs,i,z,rfl,rfl,hs.sq,h2 z h3,qd h4 (h5.trans hs.sub) nd hn q⟩)
 .rename_i ds i
  obtain⟨rfl,rfl⟩:=aR ry;rw[Rep]at rx;obtain⟨a,xs,rfl,ht,hr⟩:=rx;obtain⟨j,h1,h2⟩:=Hh hr e;obtain⟨z,Mz,h3,h4,h5⟩:=hr.get h1;exact .inl (.inr (.inl ⟨a,xs,i,z,rfl,rfl,SqT.of ht,h2 z h3,qd h4 h5 nd hn q⟩))
 .rename_i z i
  obtain⟨rfl,rfl⟩:=aR ry;obtain⟨rfl,rfl⟩:=bD rx;split at e
  .rename_i hl
   cases h1:atI z.cps.toList i with
   |none=>simp[h1]at e
   |some c=>
    obtain rfl:D.str ⟨#[c]⟩=d:=by simpa[h1]using e
    exact .inl (.inr (.inr ⟨z,i,c,rfl,rfl,hl,h1,q.scal λ_=>wz⟩))
  .cases e
 .rename_i m ks ds
  cases hk:iT dy with
  |none=>simp[hk]at e
  |some k=>
   cases hj:fO ks k with
   |none=>simp[hk,hj]at e
   |some j=>
    have e':ds[j]? =some d:=by simpa[hk,hj]using e
    rw[Rep]at rx;obtain⟨a,kvs,M,rfl,⟨rfl,hnd⟩,hr,hs⟩:=rx;obtain⟨z,Mz,h3,h4,h5⟩:=hr.get e';have hv:=t8 hj;rw[h3]at hv;refine .inr ⟨a,z,rfl,.inl ⟨kvs,k,hs.rdD,ou ry hk,hv.symm⟩,qd h4 (h5.trans hs.sub) nd hn q⟩
 .cases e
theorem ixb(hu:∀c,(X c).A.units+1<cLine)(hK:∀c,(X c).K=G.K:=by intro _;rfl):IxB X G gIx:=⟨_,λc=>by rw[←hK c];exact Pu (hu c),O_⟩
end
section
variable{ι:Type}{X:ι->Cx}{G:Gc}
def scV:D->Option V
 |.non=>some .non
 |.bl b=>some (.bl b)
 |.int i=>some (.int i)
 |.str x=>some (.str x)
 |_=>none
def uQ:List D->Option (List V)
 |[]=>some []
 |d::r=>(scV d).bind λv=>(uQ r).map λt=>v::t
theorem xT{H:Hp}{W:Wn}{d:D}{v u:V}{L:List Addr}(r:Rep G H W d v L)(h:scV d=some u):v=u/\lw u=true:=by
 cases d<;>simp[scV]at h<;>subst h<;>rw[Rep]at r<;>exact⟨r.1,rfl⟩
theorem tY{H:Hp}{W:Wn}:∀{ds:List D}{vs us:List V}{L:List Addr},aF G H W ds vs L->uQ ds=some us->vs=us/\us.all lw=true
 |[],vs,us,L,r,h=>by
  cases h;exact⟨r.inv0.1,rfl⟩
 |d::t,vs,us,L,r,h=>by
  obtain⟨x,ys,M,M',rfl,rfl,h1,h2⟩:=r.inv;rw[uQ]at h;cases e1:scV d with
  |none=>simp[e1]at h
  |some v=>
   cases e2:uQ t with
   |none=>simp[e1,e2]at h
   |some w=>
    obtain rfl:v::w=us:=by simpa[e1,e2]using h
    obtain⟨rfl,f1⟩:=xT h1 e1;obtain⟨rfl,f2⟩:=tY h2 e2;exact⟨rfl,by simp[f1,f2]⟩
def Lb(x y:Str):Bool:=!(Builtin.Str.occurrences y x 0 y.length 1).isEmpty
def rY:D->D->Option Bool
 |x,.lst _ ds=>(scV x).bind λv=>(uQ ds).map λvs=>inV v vs
 |x,.tup ds=>(scV x).bind λv=>(uQ ds).map λvs=>inV v vs
 |.str x,.str y=>some (Lb x y)
 |x,.dct _ ks _=>(iT x).map λk=>(fO ks k).isSome
 |_,_=>none
def gIn(x y:D):Option D:=(rY x y).map .bl
def km(x y:D):Option D:=(rY x y).map λb=>.bl !b
theorem zT{Y:Cx}(hu:Y.A.units+1<cLine):OpR Y (compareOp .In) (λx y H Q=>∃a o,y= .ref a/\o_ H a x o/\Q (.bl o.isSome) H):=λpins s σ H x y v u Q I rx ry h=>by
 obtain⟨a,o,rfl,g,q⟩:=h;cases ry;exact RK hu I g rx λs3 I3=>⟨.bl o.isSome,H,I3,rfl,q⟩
theorem uU{Y:Cx}(hu:Y.A.units+1<cLine):OpR Y (compareOp .NotIn) (λx y H Q=>∃a o,y= .ref a/\o_ H a x o/\Q (.bl (!o.isSome)) H):=λpins s σ H x y v u Q I rx ry h=>by
 obtain⟨a,o,rfl,g,q⟩:=h;cases ry;exact J1 hu I g rx λs3 I3=>⟨.bl (!o.isSome),H,I3,rfl,q⟩
theorem HH{H:Hp}{W:Wn}{dx dy:D}{x y:V}{Lx Ly:List Addr}{b:Bool}(e:rY dx dy=some b)(rx:Rep G H W dx x Lx)(ry:Rep G H W dy y Ly) :
  (∃p xs,y= .ref p/\(SqL G.K H p xs∨SqT G.K H p xs)/\lw x=true/\xs.all lw=true/\b=inV x xs)∨(∃i j,x= .str i/\y= .str j/\b=Lb i j)∨(∃a o,y= .ref a/\o_ H a x o/\b=o.isSome):=by
 unfold rY at e;split at e
 .rename_i m ds
  cases e1:scV dx with
  |none=>simp[e1]at e
  |some v=>
   cases e2:uQ ds with
   |none=>simp[e1,e2]at e
   |some vs=>
    obtain rfl:inV v vs=b:=by simpa[e1,e2]using e
    rw[Rep]at ry;obtain⟨a,xs,M,rfl,hr,hs⟩:=ry;obtain⟨rfl,f1⟩:=xT rx e1;obtain⟨rfl,f2⟩:=tY hr e2;exact .inl ⟨a,_,rfl,.inl hs.sq,f1,f2,rfl⟩
 .rename_i ds
  cases e1:scV dx with
  |none=>simp[e1]at e
  |some v=>
   cases e2:uQ ds with
   |none=>simp[e1,e2]at e
   |some vs=>
    obtain rfl:inV v vs=b:=by simpa[e1,e2]using e
    rw[Rep]at ry;obtain⟨a,xs,rfl,ht,hr⟩:=ry;obtain⟨rfl,f1⟩:=xT rx e1;obtain⟨rfl,f2⟩:=tY hr e2;exact .inl ⟨a,_,rfl,.inr (SqT.of ht),f1,f2,rfl⟩
 .cases e
  obtain⟨rfl,_⟩:=bD rx;obtain⟨rfl,_⟩:=bD ry;exact .inr (.inl ⟨_,_,rfl,rfl,rfl⟩)
 .rename_i m ks ds
  cases e1:iT dx with
  |none=>simp[e1]at e
  |some k=>
   have e':(fO ks k).isSome=b:=by simpa[e1]using e
   rw[Rep]at ry;obtain⟨a,kvs,M,rfl,⟨rfl,hnd⟩,hr,hs⟩:=ry;refine .inr (.inr ⟨a,kJ kvs k,rfl,.inl ⟨kvs,k,hs.rdD,ou rx e1,rfl⟩,?_⟩);rw[←e'];cases hj:fO (kvs.map (·.1)) k with
   |none=>rw[vh hj];rfl
   |some j=>
    rw[t8 hj,List.getElem?_eq_getElem (by simpa using sH hj)];rfl
 .cases e
def R0(K:PySem.W.Frag):R2:=λx y H Q=>(rIn K false x y H Q∨(∃i j,x= .str i/\y= .str j/\Q (.bl (!(Builtin.Str.occurrences j i 0 j.length 1).isEmpty)) H))∨∃a o,y= .ref a/\o_ H a x o/\Q (.bl o.isSome) H
def Jh(K:PySem.W.Frag):R2:=λx y H Q=>(rIn K true x y H Q∨(∃i j,x= .str i/\y= .str j/\Q (.bl (!(!(Builtin.Str.occurrences j i 0 j.length 1).isEmpty))) H))∨∃a o,y= .ref a/\o_ H a x o/\Q (.bl (!o.isSome)) H
theorem CP(hu:∀c,(X c).A.units+1<cLine)(hK:∀c,(X c).K=G.K:=by intro _;rfl):OpB X G (compareOp .In) gIn:=⟨R0 G.K,λc=>by rw[←hK c];exact OpR.or (OpR.or Dh Eb) (zT (hu c)),λdx dy d e x y H W Lx Ly rx ry nd hn w Q q=>by
 unfold gIn at e;cases h1:rY dx dy with
 |none=>simp[h1]at e
 |some b=>
  obtain rfl:D.bl b=d:=by simpa[h1]using e
  have q0:Q (.bl b) H:=q.scal λ_=>g8;rcases HH h1 rx ry with⟨p,xs,rfl,h2,h3,h4,rfl⟩|⟨i,j,rfl,rfl,rfl⟩|⟨a,o,rfl,h2,rfl⟩
  .exact .inl (.inl ⟨p,xs,rfl,h2,h3,h4,q0⟩)
  .exact .inl (.inr ⟨i,j,rfl,rfl,q0⟩)
  .exact .inr ⟨a,o,rfl,h2,q0⟩⟩
theorem yj(hu:∀c,(X c).A.units+1<cLine)(hK:∀c,(X c).K=G.K:=by intro _;rfl):OpB X G (compareOp .NotIn) km:=⟨Jh G.K,λc=>by rw[←hK c];exact OpR.or (OpR.or xK wL) (uU (hu c)),λdx dy d e x y H W Lx Ly rx ry nd hn w Q q=>by
 unfold km at e;cases h1:rY dx dy with
 |none=>simp[h1]at e
 |some b=>
  obtain rfl:D.bl (!b)=d:=by simpa[h1]using e
  have q0:Q (.bl (!b)) H:=q.scal λ_=>g8;rcases HH h1 rx ry with⟨p,xs,rfl,h2,h3,h4,rfl⟩|⟨i,j,rfl,rfl,rfl⟩|⟨a,o,rfl,h2,rfl⟩
  .exact .inl (.inl ⟨p,xs,rfl,h2,h3,h4,q0⟩)
  .exact .inl (.inr ⟨i,j,rfl,rfl,q0⟩)
  .exact .inr ⟨a,o,rfl,h2,q0⟩⟩
theorem aF.inv1{H:Hp}{W:Wn}{d:D}{xs:List V}{L:List Addr}(r:aF G H W [d] xs L):∃x,xs=[x]/\Rep G H W d x L:=by
 obtain⟨x,ys,M,M',rfl,rfl,h1,h2⟩:=r.inv;obtain⟨rfl,rfl⟩:=h2.inv0;exact⟨x,rfl,by rw[List.append_nil];exact h1⟩
theorem aF.inv2{H:Hp}{W:Wn}{d e:D}{xs:List V}{L:List Addr}(r:aF G H W [d,e] xs L):∃x y M N,xs=[x,y]/\L=M++N/\Rep G H W d x M/\Rep G H W e y N:=by
 obtain⟨x,ys,M,M',rfl,rfl,h1,h2⟩:=r.inv;obtain⟨y,rfl,h3⟩:=h2.inv1;exact⟨x,y,M,M',rfl,rfl,h1,h3⟩
def bW:List D->Option D
 |[.lst _ ds]=>some (.int ds.length)
 |[.tup ds]=>some (.int ds.length)
 |[.str z]=>if z.length<=sizeLine then some (.int z.length)else none
 |[.dct m _ ds]=>if m= .scr then none else some (.int ds.length)
 |_=>none
theorem d_(hK:∀c,(X c).K=G.K:=by intro _;rfl):CaB X G (.builtin "len") bW:=⟨λxs H Q=>((∃p ys,xs=[.ref p]/\(SqL G.K H p ys∨SqT G.K H p ys)/\Q (.int ys.length) H)∨∃z,xs=[.str z]/\z.length<=sizeLine/\Q (.int z.length) H)∨∃a kvs,xs=[V.ref a]/\H a=some (.dK kvs)/\Q (.int kvs.length) H,λc=>by rw[←hK c];exact cM.or (cM.or xg xR) Es,λds d e xs H W L0 r nd hn w Q q=>by
 unfold bW at e;split at e
 .cases e
  obtain⟨x,rfl,rx⟩:=r.inv1;rw[Rep]at rx;obtain⟨a,ys,M,rfl,hr,hs⟩:=rx;exact .inl (.inl ⟨a,ys,rfl,.inl hs.sq,by rw[←hr.length];exact q.scal λ_=>dR⟩)
 .cases e
  obtain⟨x,rfl,rx⟩:=r.inv1;rw[Rep]at rx;obtain⟨a,ys,rfl,ht,hr⟩:=rx;exact .inl (.inl ⟨a,ys,rfl,.inr (SqT.of ht),by rw[←hr.length];exact q.scal λ_=>dR⟩)
 .split at e
  .cases e
   obtain⟨x,rfl,rx⟩:=r.inv1;obtain⟨rfl,rfl⟩:=bD rx;exact .inl (.inr ⟨_,rfl,‹_›,q.scal λ_=>dR⟩)
  .cases e
 .split at e
  .cases e
  .cases e
   obtain⟨x,rfl,rx⟩:=r.inv1;rw[Rep]at rx;obtain⟨a,kvs,M,rfl,hk,hr,hs⟩:=rx;exact .inr ⟨a,kvs,rfl,hs.at ‹_›,by have:=hr.length;simp at this;rw[←this];exact q.scal λ_=>dR⟩
 .cases e⟩
def uT:List D->Option D
 |[.int i]=>some (.int (if i<0 then -i else i))
 |_=>none
theorem Bq:CaB X G (.builtin "abs") uT:=⟨_,λc=>GD,λds d e xs H W L0 r nd hn w Q q=>by
 unfold uT at e;split at e
 .cases e
  obtain⟨x,rfl,rx⟩:=r.inv1;obtain⟨rfl,rfl⟩:=aR rx;exact⟨_,rfl,q.scal λ_=>dR⟩
 .cases e⟩
def zE:List D->Option D
 |[.int i]=>some (.int i)
 |[.bl k]=>some (.int (if k then 1 else 0))
 |_=>none
theorem J7:CaB X G (.type "int") zE:=⟨_,λc=>Em,λds d e xs H W L0 r nd hn w Q q=>by
 unfold zE at e;split at e
 .cases e
  obtain⟨x,rfl,rx⟩:=r.inv1;obtain⟨rfl,rfl⟩:=aR rx;exact .inl ⟨_,rfl,q.scal λ_=>dR⟩
 .cases e
  obtain⟨x,rfl,rx⟩:=r.inv1;obtain⟨rfl,rfl⟩:=nA rx;exact .inr ⟨_,rfl,q.scal λ_=>dR⟩
 .cases e⟩
def m8:List D->Option D
 |[.int i,.int j]=>some (.int (if j<i then j else i))
 |_=>none
def Gp:List D->Option D
 |[.int i,.int j]=>some (.int (if j>i then j else i))
 |_=>none
theorem ym(hc:∀c,(X c).calm=true):CaB X G (.builtin "min") m8:=⟨_,λc=>Dy (hc c),λds d e xs H W L0 r nd hn w Q q=>by
 unfold m8 at e;split at e
 .cases e
  obtain⟨x,y,M,N,rfl,rfl,rx,ry⟩:=r.inv2;obtain⟨rfl,rfl⟩:=aR rx;obtain⟨rfl,rfl⟩:=aR ry;exact⟨_,_,rfl,q.scal λ_=>dR⟩
 .cases e⟩
theorem Di{H:Hp}{W:Wn}{ds:List D}{xs:List V}{M L0:List Addr}{Q:VK}{p:Addr}(hr:aF G H W ds xs M)(s:List.Sublist M L0)(nd:L0.Nodup)(hn:∀a∈L0,W.tmp a)(hp:H p=none)(q:Done G H W L0 (.lst .own ds) Q):Q (.ref p) (upd H p (.lst xs)):=by
 have sm:Same H (upd H p (.lst xs)):=Same.new hp;have np:p∉M:=λz=>by obtain⟨o,ho,_⟩:=hr.dom p z;rw[hp]at ho;cases ho
 refine q (.ref p) _ (p::M) sm ?_ (λa ha=>(List.mem_cons.mp ha).elim (λz=>.inr (by rw[z];exact hp)) λz=>.inl (s.subset z)) (List.nodup_cons.mpr ⟨np,s.nodup nd⟩);rw[Rep];exact⟨p,xs,M,rfl,hr.up ⟨sm,λb u hb f=>⟨λz=>z.elim (λz=>(List.mem_cons.mp z).elim (λz=>by rw[z,hp]at hb;cases hb) λz=>f.1 (hn b (s.subset z)).1) λz=>f.1 z.1,f.2⟩,λ_ _ _ f=>f⟩,bc,rfl⟩
theorem vA{H:Hp}{W:Wn}{ds:List D}{xs:List V}{M L0:List Addr}{Q:VK}{p:Addr}(hr:aF G H W ds xs M)(s:List.Sublist M L0)(nd:L0.Nodup)(hn:∀a∈L0,W.tmp a)(hp:H p=none)(q:Done G H W L0 (.tup ds) Q):Q (.ref p) (upd H p (.tup xs)):=by
 have sm:Same H (upd H p (.tup xs)):=Same.new hp;refine q (.ref p) _ M sm ?_ (λa ha=>.inl (s.subset ha)) (s.nodup nd);rw[Rep];exact⟨p,xs,rfl,bc,hr.up ⟨sm,λb u hb f=>⟨λz=>z.elim (λz=>f.1 (hn b (s.subset z)).1) λz=>f.1 z.1,f.2⟩,λ_ _ _ f=>f⟩⟩
theorem uH{H:Hp}{W:Wn}{d:D}{x:V}{M L0:List Addr}{Q:VK}(hr:Rep G H W d x M)(s:List.Sublist M L0)(nd:L0.Nodup)(hn:∀a∈L0,W.tmp a)(q:Done G H W L0 d Q):Q x H:=by
 refine q x H M (Same.refl H) (hr.up ⟨Same.refl H,λb u hb f=>⟨λz=>z.elim (λz=>f.1 (hn b (s.subset z)).1) λz=>f.1 z.1,f.2⟩,λ_ _ _ f=>f⟩) (λa ha=>.inl (s.subset ha)) (s.nodup nd)
def I_:List D->Option D
 |[.lst _ ds]=>some (.lst .own ds)
 |[.tup ds]=>some (.lst .own ds)
 |_=>none
def gR:List D->Option D
 |[.lst _ ds]=>some (.tup ds)
 |[.tup ds]=>some (.tup ds)
 |_=>none
theorem pK(hK:∀c,(X c).K=G.K:=by intro _;rfl):CaB X G (.type "tuple") gR:=⟨λxs H Q=>∃p ys,xs=[.ref p]/\((SqL G.K H p ys/\∀l,H l=none->Q (.ref l) (upd H l (.tup ys)))∨(SqT G.K H p ys/\Q (.ref p) H)),λc=>by rw[←hK c];exact uP,λds d e xs H W L0 r nd hn w Q q=>by
 unfold gR at e;split at e
 .cases e
  obtain⟨x,rfl,rx⟩:=r.inv1;rw[Rep]at rx;obtain⟨a,ys,M,rfl,hr,hs⟩:=rx;exact⟨a,ys,rfl,.inl ⟨hs.sq,λp hp=>vA hr hs.sub nd hn hp q⟩⟩
 .cases e
  obtain⟨x,rfl,rx⟩:=r.inv1;have rx':=rx;rw[Rep]at rx;obtain⟨a,ys,rfl,ht,hr⟩:=rx;exact⟨a,ys,rfl,.inr ⟨SqT.of ht,uH rx' (List.Sublist.refl _) nd hn q⟩⟩
 .cases e⟩
def tyN:D->Option String
 |.non=>some "NoneType"
 |.bl _=>some "bool"
 |.int _=>some "int"
 |.str _=>some "str"
 |.tup _=>some "tuple"
 |.lst m _=>if m= .scr then none else some "list"
 |.dct m _ _=>if m= .scr then none else some "dict"
 |_=>none
def okT(n:String):Bool:=n=="int"||n=="bool"||n=="str"||n=="list"||n=="tuple"
def isT(t n:String):Bool:=t==n||(t=="bool"&&n=="int")
theorem CJ{K:PySem.W.Frag}{t n:String}{d:D}(h1:tyN d=some t)(h2:okT n=true):PySem.W.kitOne K (.type t) (.type n)=some (isT t n):=by
 have ht:t="NoneType"∨t="bool"∨t="int"∨t="str"∨t="tuple"∨t="list"∨t="dict":=by
  cases d<;>simp[tyN]at h1<;>(try split at h1)<;>simp_all
 have hn:n="int"∨n="bool"∨n="str"∨n="list"∨n="tuple":=by simpa[okT,or_assoc]using h2
 rcases ht with rfl|rfl|rfl|rfl|rfl|rfl|rfl<;>rcases hn with rfl|rfl|rfl|rfl|rfl<;>with_unfolding_all rfl
theorem yF{H:Hp}{W:Wn}{d:D}{v:V}{L:List Addr}{t:String}(r:Rep G H W d v L)(h:tyN d=some t):lC G.K H v (.type t):=by
 cases d with
 |non=>rw[Rep]at r;obtain⟨rfl,_⟩:=r;cases h;exact .non
 |bl b=>rw[Rep]at r;obtain⟨rfl,_⟩:=r;cases h;exact .bl _
 |int b=>rw[Rep]at r;obtain⟨rfl,_⟩:=r;cases h;exact .int _
 |str b=>rw[Rep]at r;obtain⟨rfl,_⟩:=r;cases h;exact .str _
 |ty n=>cases h
 |tup ds=>rw[Rep]at r;obtain⟨a,xs,rfl,ht,hr⟩:=r;cases h;exact .tup ht
 |lst m ds=>
  rw[Rep]at r;obtain⟨a,xs,M,rfl,hr,hs⟩:=r;simp only[tyN]at h;split at h
  .cases h
  .cases h;exact .lst (hs.at ‹_›)
 |dct m ks ds=>
  rw[Rep]at r;obtain⟨a,xs,M,rfl,hk,hr,hs⟩:=r;simp only[tyN]at h;split at h
  .cases h
  .cases h;exact .dK (hs.at ‹_›)
 |ins m c fs ds=>cases h
def yl:List D->Option (List String)
 |[]=>some []
 |.ty n::r=>(yl r).map λt=>n::t
 |_::_=>none
theorem vR{H:Hp}{W:Wn}:∀{ds:List D}{vs:List V}{L:List Addr}{ns:List String},aF G H W ds vs L->yl ds=some ns->vs=ns.map V.ty
 |[],vs,L,ns,r,h=>by cases h;rw[r.inv0.1];rfl
 |d::t,vs,L,ns,r,h=>by
  obtain⟨x,ys,M,M',rfl,rfl,h1,h2⟩:=r.inv;cases d<;>simp[yl]at h;obtain⟨w,h3,rfl⟩:=h;rw[Rep]at h1;rw[h1.1,vR h2 h3];rfl
theorem tH{K:PySem.W.Frag}{t:String}{d:D}(h1:tyN d=some t):∀{ns:List String},ns.all okT=true->PySem.W.kitAny K (.type t) (ns.map Value.type)=some (ns.any (isT t))
 |[],_=>rfl
 |n::r,h=>by
  rw[List.all_cons,Bool.and_eq_true]at h;rw[List.map_cons,PySem.W.kitAny,CJ h1 h.1];cases e:isT t n with
  |true=>simp[e]
  |false=>simp only[e];rw[tH h1 h.2];simp[e]
def bf:List D->Option D
 |[x,.ty n]=>(tyN x).bind λt=>if okT n=true then some (.bl (isT t n))else none
 |[x,.tup ts]=>(tyN x).bind λt=>(yl ts).bind λns=>if ns.all okT=true then some (.bl (ns.any (isT t)))else none
 |_=>none
theorem cY(hK:∀c,(X c).K=G.K:=by intro _;rfl):CaB X G (.builtin "isinstance") bf:=⟨λxs H Q=>(∃x n t b,xs=[x,.ty n]/\lC G.K H x t/\PySem.W.kitOne G.K t (.type n)=some b/\Q (.bl b) H)∨∃x tp tys t b,xs=[x,.ref tp]/\H tp=some (.tup (List.map V.ty tys))/\lC G.K H x t/\PySem.W.kitAny G.K t (tys.map Value.type)=some b/\Q (.bl b) H,λc=>by rw[←hK c];exact cM.or yP xP,λds d e xs H W L0 r nd hn w Q q=>by
 unfold bf at e;split at e
 .rename_i x n
  cases e1:tyN x with
  |none=>simp[e1]at e
  |some t=>
   rw[e1]at e;simp only[Option.bind_some]at e;split at e
   .cases e
    obtain⟨u,v,M,N,rfl,rfl,rx,ry⟩:=r.inv2;rw[Rep]at ry;obtain⟨rfl,_⟩:=ry;exact .inl ⟨u,n,_,_,rfl,yF rx e1,CJ e1 ‹_›,q.scal λ_=>g8⟩
   .cases e
 .rename_i x ts
  cases e1:tyN x with
  |none=>simp[e1]at e
  |some t=>
   cases e2:yl ts with
   |none=>simp[e1,e2]at e
   |some ns=>
    rw[e1,e2]at e;simp only[Option.bind_some]at e;split at e
    .cases e
     obtain⟨u,v,M,N,rfl,rfl,rx,ry⟩:=r.inv2;rw[Rep]at ry;obtain⟨a,ys,rfl,ht,hr⟩:=ry;have:=vR hr e2;subst this;exact .inr ⟨u,a,ns,_,_,rfl,ht,yF rx e1,tH e1 ‹_›,q.scal λ_=>g8⟩
    .cases e
 .cases e⟩
end
section
variable{ι:Type}{X:ι->Cx}{G:Gc}
theorem Hv{H:Hp}{W:Wn}{a:Addr}{ys':List V}{ds':List D}{res:D}{x:V}{M0 N M1 R:List Addr}{Q:VK}(hr:aF G H W ds' ys' M1)(rr:Rep G H W res x R)(k1:aD ds'=true)(k2:aH ds'=true)(kr:clean res=true)
  (ha:a∉M1++R) (nd:(M1++R).Nodup) (sub:∀b∈M1++R,b∈M0∨b∈N)
  (q:∀x H' M' R,(∀b u,H b=some u->b∉a::M0->H' b=some u)->(∀W',Evo H H' W W'->Rep G H' W' (.lst .own ds') (.ref a) M'/\Rep G H' W' res x R)->(M'++R).Nodup->(∀b∈M'++R,b∈a::M0∨b∈N∨H b=none)->clean (.lst .own ds')=true->clean res=true->Q x H'):Q x (upd H a (.lst ys')):=by
 have kr':=(by simpa[clean]using kr:aG res=true/\aC res=true);refine q x _ (a::M1) R (λb u hb n=>by rw[aP (show b≠a from λz=>n (by rw[z];simp))];exact hb) (λW' ev=>⟨?_,?_⟩) ?_ (λb hb=>?_) (qu k1 k2) kr
 .rw[Rep]
  exact⟨a,ys',M1,rfl,CQ hr k1 k2 (λz=>ha (List.mem_append_left _ z)) ev,bc,rfl⟩
 .exact rr.mono ev (.inl kr'.1) (.inl kr'.2) λc hc u hu=>by rw[aP (show c≠a from λz=>ha (List.mem_append_right _ (z▸hc)))];exact hu
 .rw[List.cons_append]
  exact List.nodup_cons.mpr ⟨ha,nd⟩
 .rw[List.cons_append]at hb
  rcases List.mem_cons.mp hb with z|z
  .exact .inl (by simp[z])
  .exact(sub b z).imp (λz=>List.mem_cons_of_mem _ z) .inl
theorem uJ{ds:List D}(h:aD ds=true):∀d∈ds,aG d=true:=λd hd=>let⟨i,hi⟩:=List.getElem?_of_mem hd;jl h hi
theorem tL{ds:List D}(h:aH ds=true):∀d∈ds,aC d=true:=λd hd=>let⟨i,hi⟩:=List.getElem?_of_mem hd;jr h hi
theorem b_:∀{ds:List D},(∀d∈ds,aG d=true)->aD ds=true
 |[],_=>rfl
 |d::r,h=>by rw[aD,h d (by simp),b_ λe he=>h e (by simp[he])];rfl
theorem bN:∀{ds:List D},(∀d∈ds,aC d=true)->aH ds=true
 |[],_=>rfl
 |d::r,h=>by rw[aH,h d (by simp),bN λe he=>h e (by simp[he])];rfl
def opPopAt:D->List D->Option (D×D)
 |.lst .own ds,[.int i]=>if ds.length<1000000 then(ixN ds.length i).bind λk=>(ds[k]?).map λe=>(.lst .own (ds.eraseIdx k),e)else none
 |_,_=>none
def jj:D->List D->Option (D×D)
 |.lst .own ds,[.int i,e]=>if ds.length<1000000/\-(2 ^ 63)<=i/\i<2 ^ 63 then some (.lst .own (ds.take (uW ds.length i)++e::ds.drop (uW ds.length i)),.non)else none
 |_,_=>none
theorem aF.takeDrop{H:Hp}{W:Wn}{ds:List D}{xs:List V}{L:List Addr}(h:aF G H W ds xs L)(k:Nat):∃A B,aF G H W (ds.take k) (xs.take k) A/\aF G H W (ds.drop k) (xs.drop k) B/\L=A++B:=by
 rw[←List.take_append_drop k ds]at h;obtain⟨ys,zs,A,B,rfl,rfl,h1,h2⟩:=h.split;have hl:=h1.length;by_cases hk:k<=ds.length
 .have hk':ys.length=k:=by rw[←hl,List.length_take];omega
  refine⟨A,B,?_,?_,rfl⟩
  .rw[←hk',List.take_left,hk'];exact h1
  .rw[←hk',List.drop_left,hk'];exact h2
 .have e1:ds.take k=ds:=List.take_of_length_le (by omega)
  have e2:ds.drop k=[]:=List.drop_eq_nil_of_le (by omega);rw[e1]at h1 hl;rw[e2]at h2;obtain⟨rfl,rfl⟩:=h2.inv0;refine⟨A,[],?_,?_,by simp⟩
  .rw[e1,List.append_nil,List.take_of_length_le (by omega)];exact h1
  .rw[e2,List.append_nil,List.drop_eq_nil_of_le (by omega)];exact .nil
theorem zU:MuV G Dc jj:=λd es d' res h v xs H W M N r re nd hM hc c1 c2 Q q=>by
 unfold jj at h;split at h
 .rename_i ds i e
  split at h
  .rename_i hl
   cases h;rw[Rep]at r;obtain⟨a,ys,M0,rfl,hr,ha,rfl⟩:=r;obtain⟨x,y,N1,N2,rfl,rfl,hx,hy⟩:=re.inv2;obtain⟨rfl,rfl⟩:=aR hx;rw[List.nil_append]at nd q;obtain⟨k1,k2⟩:=qw hc;obtain⟨A,B,h1,h2,rfl⟩:=hr.takeDrop (uW ds.length i);have nd':=List.nodup_append.mp nd;have hn:=List.nodup_cons.mp nd'.1;have haN:a∉N2:=λz=>nd'.2.2 a (by simp) a z rfl;simp only[aD,aH,Bool.and_eq_true]at c1 c2;have hr2:=h1.append (.cons hy h2);have pm:List.Perm (A++(N2++B)) ((A++B)++N2):=by
    rw[List.append_assoc];exact List.Perm.append_left A List.perm_append_comm
   refine⟨a,ys,i,y,rfl,rfl,ha,hl.2.1,hl.2.2,Ae (by rw[←hr.length];exact hl.1),?_⟩;rw[←hr.length];refine Hv (M0:=A++B) (N:=N2) (R:=[]) hr2 oW ?_ ?_ rfl (λz=>?_) ?_ (λb hb=>?_) q
   .refine b_ λd hd=>?_
    rcases List.mem_append.mp hd with z|z
    .exact uJ k1 d (List.mem_of_mem_take z)
    .rcases List.mem_cons.mp z with z|z
     .rw[z];exact c1.2.1
     .exact uJ k1 d (List.mem_of_mem_drop z)
   .refine bN λd hd=>?_
    rcases List.mem_append.mp hd with z|z
    .exact tL k2 d (List.mem_of_mem_take z)
    .rcases List.mem_cons.mp z with z|z
     .rw[z];exact c2.2.1
     .exact tL k2 d (List.mem_of_mem_drop z)
   .rw[List.append_nil]at z
    rcases List.mem_append.mp (pm.mem_iff.mp z)with z|z
    .exact hn.1 z
    .exact haN z
   .rw[List.append_nil]
    refine pm.nodup_iff.mpr (dY hn.2 nd'.2.1 λb h1 h2=>nd'.2.2 b (List.mem_cons_of_mem _ h1) b h2 rfl)
   .rw[List.append_nil]at hb
    exact List.mem_append.mp (pm.mem_iff.mp hb)
  .cases h
 .cases h
theorem Bf:MuB X G "list" "list.insert" jj:=⟨_,λc=>Dw,zU,G8 rfl λd es q e=>by
 unfold jj at e;split at e
 .exact⟨_,_,rfl⟩
 .cases e⟩
end
section
variable{ι:Type}{X:ι->Cx}{G:Gc}
def aX:List Key->List D->List (Key×D)->List Key×List D
 |ks,ds,[]=>(ks,ds)
 |ks,ds,p::r=>aX (fK ks ds p.1 p.2).1 (fK ks ds p.1 p.2).2 r
theorem J2{H:Hp}{W:Wn}{kvs:List (Key×V)}{ds:List D}{M N:List Addr}{k:Key}{d:D}{x:V}(hr:aF G H W ds (List.map (·.2) kvs) M)(hn:(List.map (·.1) kvs).Nodup)(hx:Rep G H W d x N)(nd:(M++N).Nodup) :
  (List.map (·.1) (putK kvs k x)=(fK (List.map (·.1) kvs) ds k d).1/\(List.map (·.1) (putK kvs k x)).Nodup)/\(putK kvs k x).length<=kvs.length+1/\∃M',aF G H W (fK (List.map (·.1) kvs) ds k d).2 (List.map (·.2) (putK kvs k x)) M'/\M'.Nodup/\∀a∈M',a∈M∨a∈N:=by
 have nd':=List.nodup_append.mp nd;cases hj:fO (kvs.map (·.1)) k with
 |some j=>
  have hjl:j<ds.length:=by rw[hr.length];simpa using sH hj
  obtain⟨A,M1,B,hM0,hset⟩:=hr.set (List.getElem?_eq_getElem hjl) hx;obtain⟨p1,p2⟩:=xW (v:=x) hj hn;have hsub:List.Sublist (A++B) M:=by rw[hM0];exact(List.Sublist.refl A).append (List.sublist_append_right M1 B)
  have n3:=List.nodup_append.mp (hsub.nodup nd'.1);have dis:∀z∈N,z∉A++B:=λz h1 h2=>nd'.2.2 z (hsub.subset h2) z h1 rfl;simp only[fK,hj];refine⟨⟨p1,by rw[p1];exact hn⟩,?_,A++(N++B),by rw[p2];exact hset,dY n3.1 (dY nd'.2.1 n3.2.1 λz h1 h2=>dis z h1 (by simp[h2])) λz h1 h2=>?_,λa ha=>?_⟩
  .have:(putK kvs k x).length=kvs.length:=by have:=congrArg List.length p1;simpa using this
   omega
  .rcases List.mem_append.mp h2 with y|y
   .exact dis z y (by simp[h1])
   .exact n3.2.2 z h1 z y rfl
  .simp only[List.mem_append]at ha
   rcases ha with z|z|z
   .exact .inl (hsub.subset (by simp[z]))
   .exact .inr z
   .exact .inl (hsub.subset (by simp[z]))
 |none=>
  simp only[fK,hj];have e:putK kvs k x=kvs++[(k,x)]:=sW hj;rw[e];refine⟨⟨by simp,?_⟩,by simp,M++N,by rw[List.map_append];exact hr.append (.one hx),nd,λa ha=>List.mem_append.mp ha⟩;rw[List.map_append];exact List.nodup_append.mpr ⟨hn,by simp,λa h1 b h2 z=>by
   obtain rfl:b=k:=by simpa using h2
   exact tX hj (z▸h1)⟩
theorem nZ{H:Hp}{W:Wn}:∀{es:List (Key×D)}{prs kvs:List (Key×V)}{ds:List D}{M N:List Addr},List.map (·.1) es=List.map (·.1) prs->aF G H W (List.map (·.2) es) (List.map (·.2) prs) N->aF G H W ds (List.map (·.2) kvs) M->(List.map (·.1) kvs).Nodup->(M++N).Nodup->
  (List.map (·.1) (putAll kvs prs)=(aX (List.map (·.1) kvs) ds es).1/\(List.map (·.1) (putAll kvs prs)).Nodup)/\∃M',aF G H W (aX (List.map (·.1) kvs) ds es).2 (List.map (·.2) (putAll kvs prs)) M'/\M'.Nodup/\∀a∈M',a∈M∨a∈N
 |[],prs,kvs,ds,M,N,hk,h1,h2,hn,nd=>by
  have:prs=[]:=by cases prs with
   |nil=>rfl
   |cons p r=>cases hk
  subst this;exact⟨⟨rfl,hn⟩,M,h2,(List.nodup_append.mp nd).1,λa ha=>.inl ha⟩
 |e::es,prs,kvs,ds,M,N,hk,h1,h2,hn,nd=>by
  cases prs with
  |nil=>cases hk
  |cons p prs=>
   obtain⟨x,ys,N1,N2,hxy,rfl,hx,hys⟩:=aF.inv h1;simp only[List.map_cons,List.cons.injEq]at hk hxy;obtain⟨rfl,rfl⟩:=hxy;have nd0:=List.nodup_append.mp nd;have ndN:=List.nodup_append.mp nd0.2.1;have nd1:(M++N1).Nodup:=dY nd0.1 ndN.1 λa z1 z2=>nd0.2.2 a z1 a (by simp[z2]) rfl;obtain⟨⟨q1,q2⟩,q3,M1,q4,q5,q6⟩:=J2 (k:=p.1) h2 hn hx nd1;have nd2:(M1++N2).Nodup:=dY q5 ndN.2.1 λa z1 z2=>by
    rcases q6 a z1 with z|z
    .exact nd0.2.2 a z a (by simp[z2]) rfl
    .exact ndN.2.2 a z a z2 rfl
   rw[←hk.1]at q1 q2 q4;have ih:=nZ (es:=es) (prs:=prs) (kvs:=putK kvs e.1 p.2) hk.2 hys q4 q2 nd2;rw[q1]at ih;obtain⟨⟨r1,r2⟩,M',r3,r4,r5⟩:=ih;have epa:putAll kvs (p::prs)=putAll (putK kvs e.1 p.2) prs:=by rw[hk.1];rfl
   rw[epa];refine⟨⟨r1,r2⟩,M',r3,r4,λa ha=>?_⟩;rcases r5 a ha with z|z
   .exact(q6 a z).imp id λz=>by simp[z]
   .exact .inr (by simp[z])
theorem rz(P:D->Prop):∀{es:List (Key×D)}{ks:List Key}{ds:List D},(∀d∈ds,P d)->(∀p∈es,P p.2)->∀d∈(aX ks ds es).2,P d
 |[],ks,ds,h1,h2=>h1
 |p::r,ks,ds,h1,h2=>by
  rw[aX];refine rz P (λd hd=>?_) λq hq=>h2 q (by simp[hq]);unfold fK at hd;split at hd
  .rcases List.mem_or_eq_of_mem_set hd with z|z
   .exact h1 d z
   .rw[z];exact h2 p (by simp)
  .rcases List.mem_append.mp hd with z|z
   .exact h1 d z
   .obtain rfl:d=p.2:=by simpa using z
    exact h2 p (by simp)
def rK:List D->Option (List (Key×D))
 |[]=>some []
 |.tup [k,v]::r=>(iT k).bind λk=>(rK r).map λt=>(k,v)::t
 |_::_=>none
theorem Gk{H:Hp}{W:Wn}{k:D}{x:V}{L:List Addr}{kk:Key}(h:iT k=some kk)(r:Rep G H W k x L):L=[]:=by
 cases k<;>simp[iT]at h<;>rw[Rep]at r<;>exact r.2
theorem uM{H:Hp}{W:Wn}:∀{ds:List D}{es:List (Key×D)}{ys:List V}{N:List Addr},rK ds=some es->aF G H W ds ys N->∃prs:List (Key×V),List.map (·.1) es=List.map (·.1) prs/\aF G H W (List.map (·.2) es) (List.map (·.2) prs) N/\prs.length=ys.length/\∀(j:Nat)(k:Key)(v:V),prs[j]? =some (k,v)->∃p:Addr,ys[j]? =some (V.ref p)/\H p=some (.tup [kV k,v])
 |[],es,ys,N,h,r=>by
  cases h;obtain⟨rfl,rfl⟩:=r.inv0;exact⟨[],rfl,.nil,rfl,λj k v e=>by simp at e⟩
 |d::r,es,ys,N,h,rr=>by
  unfold rK at h;split at h
  .rename_i e;cases e
  .rename_i k v t e
   cases e;cases h1:iT k with
   |none=>simp[h1]at h
   |some k'=>
    cases h2:rK r with
    |none=>simp[h1,h2]at h
    |some w=>
     obtain rfl:(k',v)::w=es:=by simpa[h1,h2]using h
     obtain⟨x,zs,N1,N2,rfl,rfl,hx,hz⟩:=rr.inv;obtain⟨prs,g1,g2,g3,g4⟩:=uM h2 hz;rw[Rep]at hx;obtain⟨a,xs,rfl,ht,hxs⟩:=hx;obtain⟨y1,y2,A,B,rfl,rfl,ry1,ry2⟩:=hxs.inv2;have hA:=Gk h1 ry1;subst hA;have:=ou ry1 h1;subst this;refine⟨(k',y2)::prs,by simp[g1],.cons ry2 g2,by simp[g3],λj k v e=>?_⟩;cases j with
     |zero=>
      simp at e;obtain⟨rfl,rfl⟩:=e;exact⟨a,rfl,ht⟩
     |succ j=>exact g4 j k v (by simpa using e)
  .cases h
theorem cZ.at2{Kx:Addr->HO->Prop}{H:Hp}{W:Wn}{a:Addr}{o:HO}{m:Mk}{L M:List Addr}(h:cZ Kx H W a o m L M)(hm:(m== .scr)=false):H a=some o:=h.at (by intro z;rw[z]at hm;cases hm)
def j_:List D->Option D
 |[.lst m ds]=>if(m== .scr)=false/\ds.length<=50000 then(rK ds).map λes=>.dct .own (aX [] [] es).1 (aX [] [] es).2 else none
 |_=>none
theorem yQ(hc:∀c,(X c).calm=true):CaB X G (.type "dict") j_:=⟨_,λc=>rG (hc c),λds d e xs H W L0 r nd hn w Q q=>by
 unfold j_ at e;split at e
 .rename_i m ds
  split at e
  .rename_i hm
   cases h1:rK ds with
   |none=>simp[h1]at e
   |some es=>
    obtain rfl:D.dct .own (aX [] [] es).1 (aX [] [] es).2=d:=by simpa[h1]using e
    obtain⟨x,rfl,rx⟩:=r.inv1;rw[Rep]at rx;obtain⟨a,ys,M,rfl,hr,hs⟩:=rx;obtain⟨prs,g1,g2,g3,g4⟩:=uM h1 hr;have ndM:M.Nodup:=hs.sub.nodup nd;obtain⟨⟨p1,p2⟩,M',p3,p4,p5⟩:=nZ (kvs:=[]) (M:=[]) g1 g2 .nil (by simp) (by simpa using ndM);refine⟨a,ys,prs,rfl,hs.at2 hm.1,g3,by rw[g3,←hr.length];exact hm.2,g4,λp hp=>?_⟩;have sm:Same H (upd H p (.dK (putAll [] prs))):=Same.new hp;have np:p∉M':=λz=>by obtain⟨o,ho,_⟩:=p3.dom p z;rw[hp]at ho;cases ho
    have hML:∀a∈M',a∈L0:=λa ha=>(p5 a ha).elim (λz=>by cases z) λz=>hs.sub.subset z;refine q (.ref p) _ (p::M') sm ?_ (λa ha=>(List.mem_cons.mp ha).elim (λz=>.inr (by rw[z];exact hp)) λz=>.inl (hML a z)) (List.nodup_cons.mpr ⟨np,p4⟩);rw[Rep];exact⟨p,putAll [] prs,M',rfl,⟨p1,p1▸p2⟩,p3.up ⟨sm,λb u hb f=>⟨λz=>z.elim (λz=>(List.mem_cons.mp z).elim (λz=>by rw[z,hp]at hb;cases hb) λz=>f.1 (hn b (hML b z)).1) λz=>f.1 z.1,f.2⟩,λ_ _ _ f=>f⟩,bc,rfl⟩
  .cases e
 .cases e⟩
theorem Eh{ks:List Key}{ds:List D}(h1:aD ds=true)(h2:aH ds=true):clean (.dct .own ks ds)=true:=by simp[clean,aG,aC,h1,h2]
end
section
variable{ι:Type}{X:ι->Cx}{G:Gc}{ob:Nat->Bool}
def eMt(g:D->List D->Option D)(fo:En->Option D)(f:En->Option (List D)):En->Option D:=λρ=>(fo ρ).bind λx=>(f ρ).bind λds=>g x ds
theorem Qu{T id:String}{nm:Str}{g:D->List D->Option D}{o e:Expr}{es:List Expr}{apos cpos:Pos}{fo:En->Option D}{f:En->Option (List D)}(m:MtB X G T id g)(pa:PlainAttrs T)(slot:Slot T nm id)(hty:typeOf (.builtin id)=pure (.type "method_descriptor"))(ho:PV X G ob o fo)(ha:PVA X G ob (e::es) f)(hbase:∀c,attributeBase o nm (X c).env (eval o (X c).env)=eval o (X c).env:=by intro _;rfl)(hfew:∀c,((backTo cpos (starEach (e::es) (X c).env)).all (λx=>!x.1)&&(backToKw cpos (keywordEach [] (X c).env)).all (λx=>x.1.isSome)
  &&decide ((e::es).length+([]:List Keyword).length+(if([]:List Keyword).isEmpty then 0 else 1)<30))=true:=by intro _;rfl) (hline:(apos.endLine==cpos.line)=true:=by rfl) (hs:∀c,starEach (e::es) (X c).env=(false,eval e (X c).env)::starEach es (X c).env:=by intro _;rfl) (hplain:∀c,(backTo cpos (starEach es (X c).env)).any (·.1)=false:=by intro _;rfl) (hK:∀c,(X c).K=G.K:=by intro _;rfl) :
 PV X G ob (.Call (.Attribute o nm apos) (e::es) [] cpos) (eMt g fo f):=let⟨r,m1,m2,m3⟩:=m.ex;let⟨t,a1,a2⟩:=ho.ex;let⟨u,b1,b2⟩:=ha.ex;⟨_,λc=>(by rw[←hK c];exact Hn pa slot hty (m1 c) (a1 c) (b1 c) (hbase c) (hfew c) hline (hs c) (hplain c)),Rj m2 m3 a2 b2⟩
def xu(a b:Str):Option (List Str):=
 if(decide (a.length<b.length)||decide (Builtin.Str.strKind a<Builtin.Str.strKind b))=false/\(b.length==0)=false/\(Builtin.Str.occurrences a b 0 a.length (a.length+1)).isEmpty=false/\a.length<=sizeLine/\(Builtin.Str.partsBetween a (Builtin.Str.occurrences a b 0 a.length (a.length+1)) b.length).length<=sizeLine
 then some (Builtin.Str.partsBetween a (Builtin.Str.occurrences a b 0 a.length (a.length+1)) b.length)else none
def t_:D->List D->Option D
 |.str a,[.str b]=>(xu a b).map λl=>.lst .own (l.map D.str)
 |_,_=>none
theorem zf{H:Hp}{W:Wn}:∀l:List Str,aF G H W (l.map D.str) (l.map V.str) []
 |[]=>.nil
 |x::r=>aF.cons (M:=[]) (M':=[]) (by rw[Rep];exact⟨rfl,rfl⟩) (zf r)
theorem Eu:MtB X G "str" "str.split" t_:=⟨_,λc=>Hy,λdx ds d e x xs H W Lx L0 rx r nd hn w Q q=>(by
 unfold t_ at e;split at e
 .rename_i a b
  cases h1:xu a b with
  |none=>simp[h1]at e
  |some l=>
   obtain rfl:D.lst .own (l.map D.str)=d:=by simpa[h1]using e
   obtain⟨y,rfl,ry⟩:=r.inv1;obtain⟨rfl,rfl⟩:=bD rx;obtain⟨rfl,rfl⟩:=bD ry;unfold xu at h1;split at h1
   .rename_i hh
    cases h1;refine⟨a,b,_,rfl,rfl,hh.1,hh.2.1,hh.2.2.1,hh.2.2.2.1,rfl,hh.2.2.2.2,λp hp=>?_⟩;refine q (.ref p) _ [p] (Same.new hp) ?_ (λa ha=>.inr (by rw[show a=p by simpa using ha];exact hp)) (by simp);rw[Rep];exact⟨p,_,[],rfl,zf _,bc,rfl⟩
   .cases h1
 .cases e),λdx ds d e x H W Lx rx=>by
 unfold t_ at e;split at e
 .obtain⟨rfl,rfl⟩:=bD rx
  exact rfl
 .cases e⟩
def RfO(G:Gc)(ob:Nat->Bool)(t:TO)(f:En->Option (Option Int)):Prop:=∀(ρ:En)(o:Option Int),f ρ=some o->∀(σ:L2.St)(H:Hp)(W:Wn),Rel G H W ob ρ σ->WOk H W->∀Q:Option Int->Hp->Prop,(∀H',Same H H'->Q o H')->t σ H Q
structure PVO{ι:Type}(X:ι->Cx)(G:Gc)(ob:Nat->Bool)(e:Option Expr)(f:En->Option (Option Int)):Prop where
 mk::(ex:∃t,(∀c,PO (X c) e t)/\RfO G ob t f)
def jQ:En->Option (Option Int):=λ_=>some none
def iV(f:En->Option D):En->Option (Option Int):=λρ=>(f ρ).bind λd=>match d with
 |.int i=>some (some i)
 |_=>none
theorem fU:PVO X G ob none jQ:=⟨_,λc=>Kf,λρ o e σ H W rl w Q q=>by cases e;exact q H (Same.refl H)⟩
theorem eU{e:Expr}{f:En->Option D}(h:PV X G ob e f):PVO X G ob (some e) (iV f):=let⟨t,a1,a2⟩:=h.ex;⟨_,λc=>JM (a1 c),λρ o e σ H W rl w Q q=>by
 unfold iV at e;cases h1:f ρ with
 |none=>simp[h1]at e
 |some d=>
  rw[h1]at e;simp only[Option.bind_some]at e;split at e
  .cases e
   refine a2 ρ _ h1 σ H W rl w _ λv H' L s r fr nd=>?_;obtain⟨rfl,rfl⟩:=aR r;exact⟨_,rfl,q H' s⟩
  .cases e⟩
def SlV(G:Gc)(r:V->Option Int->Option Int->Hp->VK->Prop)(g:D->Option Int->Option Int->Option D):Prop:=∀(dx:D)(lo hi:Option Int)(d:D),g dx lo hi=some d->∀(x:V)(H:Hp)(W:Wn)(Lx:List Addr),Rep G H W dx x Lx->Lx.Nodup->(∀a∈Lx,W.tmp a)->WOk H W->∀Q:VK,Done G H W Lx d Q->r x lo hi H Q
structure SlB{ι:Type}(X:ι->Cx)(G:Gc)(g:D->Option Int->Option Int->Option D):Prop where
 ex:∃r,(∀c,SlR (X c) r)/\SlV G r g
def JQ(g:D->Option Int->Option Int->Option D)(f:En->Option D)(fl fh:En->Option (Option Int)):En->Option D:=λρ=>(f ρ).bind λx=>(fl ρ).bind λl=>(fh ρ).bind λh=>g x l h
def vL(g:D->Option Int->Option Int->Option D)(f:En->Option (D×En))(fl fh:En->Option (Option Int)):En->Option (D×En):=λρ=>(f ρ).bind λp=>(fl p.2).bind λl=>(fh p.2).bind λh=>(g p.1 l h).map λd=>(d,p.2)
theorem QF{r:V->Option Int->Option Int->Hp->VK->Prop}{g:D->Option Int->Option Int->Option D}{te:TE}{tl th:TO}{f:En->Option D}{fl fh:En->Option (Option Int)}(ho:SlV G r g)(h:RfE G ob te f)(hl:RfO G ob tl fl)(hh:RfO G ob th fh):RfE G ob (tSl r te tl th) (JQ g f fl fh):=λρ d e σ H W rl w Q q=>by
 unfold JQ at e;cases h1:f ρ with
 |none=>simp[h1]at e
 |some x=>
  cases h2:fl ρ with
  |none=>simp[h1,h2]at e
  |some l=>
   cases h3:fh ρ with
   |none=>simp[h1,h2,h3]at e
   |some u=>
    have e:g x l u=some d:=by simpa[h1,h2,h3]using e
    refine h ρ x h1 σ H W rl w _ λv H1 L s1 r1 fr nd=>?_;have u1:Up H H1 W (W.add L):=.add s1 fr;have w1:WOk H1 (W.add L):=w.add s1 r1.dom;refine hl ρ l h2 σ H1 _ (rl.up u1) w1 _ λH2 s2=>?_;have u2:Up H1 H2 (W.add L) (W.add L):=.same s2;have w2:WOk H2 (W.add L):=λa ha=>let⟨o,ho,hm⟩:=w1 a ha;⟨o,s2 a o ho,hm⟩;refine hh ρ u h3 σ H2 _ ((rl.up u1).up u2) w2 _ λH3 s3=>?_;have u3:Up H2 H3 (W.add L) (W.add L):=.same s3;have w3:WOk H3 (W.add L):=λa ha=>let⟨o,ho,hm⟩:=w2 a ha;⟨o,s3 a o ho,hm⟩;have ss:=(s1.trans s2).trans s3;refine ho x l u d e v H3 _ L ((r1.up u2).up u3) nd (w.tmp fr) w3 Q λv' H4 L4 s4 r4 f4 n4=>?_;refine q v' H4 L4 (ss.trans s4) ?_ (λa ha=>(f4 a ha).elim (fr a) λz=>ss.none' z) n4;exact r4.up ⟨Same.refl _,λb u hb f=>⟨λz=>z.elim (λz=>f.1 (.inl z)) λz=>f.1 (.inr ⟨.inr z,WOk.new w fr z⟩),f.2⟩,λ_ _ _ f=>f⟩
theorem Ov{r:V->Option Int->Option Int->Hp->VK->Prop}{g:D->Option Int->Option Int->Option D}{te:TE}{tl th:TO}{f:En->Option (D×En)}{fl fh:En->Option (Option Int)}(ho:SlV G r g)(h:j4 G ob te f)(hl:RfO G ob tl fl)(hh:RfO G ob th fh):j4 G ob (tSl r te tl th) (vL g f fl fh):=λρ d ρ' e σ H S Fr s Q q=>by
 unfold vL at e;cases h1:f ρ with
 |none=>simp[h1]at e
 |some p=>
  obtain⟨x,ρ1⟩:=p;cases h2:fl ρ1 with
  |none=>simp[h1,h2]at e
  |some l=>
   cases h3:fh ρ1 with
   |none=>simp[h1,h2,h3]at e
   |some u=>
    cases h4:g x l u with
    |none=>simp[h1,h2,h3,h4]at e
    |some d'=>
     obtain⟨rfl,rfl⟩:d'=d/\ρ1=ρ':=by simpa[h1,h2,h3,h4]using e
     refine h ρ x _ h1 σ H S Fr s _ λv H1 L S1 s1 rx nd ef=>?_;refine hl _ l h2 σ H1 _ s1.rel s1.wok _ λH2 k2=>?_;have s2:=s1.grow k2 λa z=>.inl z;refine hh _ u h3 σ H2 _ s2.rel s2.wok _ λH3 k3=>?_;have s3:=s2.grow k3 λa z=>.inl z;have ef3:Eff ob H H3 S S1 L:=⟨λb u hb n=>k3 b u (k2 b u (ef.kp b u hb n)),ef.sn,ef.gr,ef.fm⟩;refine ho x l u _ h4 v H3 _ L ((rx.up (.same k2)).up (.same k3)) nd (λa ha=>s3.tmp (.inl ha)) s3.wok Q λv' H4 L4 s4 r4 f4 n4=>?_;obtain⟨q1,q2,q3⟩:=Ir s3 ef3 s4 r4 f4 s;exact q v' H4 L4 S1 q1 q2 n4 q3
def cutD(ds:List D)(lo hi:Option Int):List D:=(ds.drop (HT.sIx ds.length 0 lo)).take (HT.sIx ds.length ds.length hi-HT.sIx ds.length 0 lo)
def gSl:D->Option Int->Option Int->Option D
 |.lst _ ds,lo,hi=>some (.lst .own (cutD ds lo hi))
 |.tup ds,lo,hi=>some (.tup (cutD ds lo hi))
 |_,_,_=>none
theorem aF.cut{H:Hp}{W:Wn}{ds:List D}{xs:List V}{L:List Addr}(h:aF G H W ds xs L)(lo hi:Option Int):∃M,aF G H W (cutD ds lo hi) (uF xs lo hi) M/\List.Sublist M L:=by
 unfold cutD uF;rw[h.length];obtain⟨A,B,_,h2,rfl⟩:=h.takeDrop (HT.sIx xs.length 0 lo);obtain⟨A',B',h3,_,rfl⟩:=h2.takeDrop (HT.sIx xs.length xs.length hi-HT.sIx xs.length 0 lo);exact⟨A',h3,(List.sublist_append_left A' B').trans (List.sublist_append_right A _)⟩
theorem slb(hK:∀c,(X c).K=G.K:=by intro _;rfl):SlB X G gSl:=⟨λx lo hi H Q=>Qg G.K x lo hi H Q∨QT G.K x lo hi H Q,λc=>by rw[←hK c];exact SlR.or Kw Pk,λdx lo hi d e x H W Lx rx nd hn w Q q=>by
 unfold gSl at e;split at e
 .cases e
  rw[Rep]at rx;obtain⟨a,xs,M,rfl,hr,hs⟩:=rx;obtain⟨M',h1,h2⟩:=hr.cut lo hi;exact .inl ⟨a,xs,rfl,hs.sq,λp hp=>Di h1 (h2.trans hs.sub) nd hn hp q⟩
 .rename_i ds
  cases e;have rx':=rx;rw[Rep]at rx;obtain⟨a,xs,rfl,ht,hr⟩:=rx;obtain⟨M',h1,h2⟩:=hr.cut lo hi;refine .inr ⟨a,xs,rfl,SqT.of ht,λee=>?_,λp hp=>vA h1 h2 nd hn hp q⟩;rw[ee]at h1;refine uH (d:=.tup (cutD ds lo hi)) (x:=.ref a) (M:=M') ?_ h2 nd hn q;rw[Rep];exact⟨a,xs,rfl,ht,h1⟩
 .cases e⟩
def eSl:=JQ gSl
def Gj:=vL gSl
theorem gY{e:Expr}{lo hi:Option Expr}{pos p2:Pos}{f:En->Option D}{fl fh:En->Option (Option Int)}(o:SlB X G gSl)(h:PV X G ob e f)(hl:PVO X G ob lo fl)(hh:PVO X G ob hi fh):PV X G ob (.Subscript e (.Slice lo hi none p2) pos) (eSl f fl fh):=let⟨r,o1,o2⟩:=o.ex;let⟨t,a1,a2⟩:=h.ex;let⟨u,b1,b2⟩:=hl.ex;let⟨v,c1,c2⟩:=hh.ex;⟨_,λc=>zc (o1 c) (a1 c) (b1 c) (c1 c),QF o2 a2 b2 c2⟩
theorem vp{e:Expr}{lo hi:Option Expr}{pos p2:Pos}{f:En->Option (D×En)}{fl fh:En->Option (Option Int)}(o:SlB X G gSl)(h:PVe X G ob e f)(hl:PVO X G ob lo fl)(hh:PVO X G ob hi fh):PVe X G ob (.Subscript e (.Slice lo hi none p2) pos) (Gj f fl fh):=let⟨r,o1,o2⟩:=o.ex;let⟨t,a1,a2⟩:=h.ex;let⟨u,b1,b2⟩:=hl.ex;let⟨v,c1,c2⟩:=hh.ex;⟨_,λc=>zc (o1 c) (a1 c) (b1 c) (c1 c),Ov o2 a2 b2 c2⟩
end
section
variable{ι:Type}{X:ι->Cx}{G:Gc}{ob P:Nat->Bool}
def Ib:D->D->Option D
 |.lst _ ds,.int i=>if i= -1 then some (.lst .own ds.reverse)else none
 |.tup ds,.int i=>if i= -1 then some (.tup ds.reverse)else if i=1 then some (.tup ds)else none
 |_,_=>none
def yN:List D->Option (List Key)
 |[]=>some []
 |d::r=>(iT d).bind λk=>(yN r).map λt=>k::t
def o6:List D->Option D
 |[.lst _ ds]=>if ds.length<4000 then(yN ds).map λks=>.int (Ox ks).length else none
 |[.tup ds]=>if ds.length<4000 then(yN ds).map λks=>.int (Ox ks).length else none
 |_=>none
def xn:List D->Option (List Bool)
 |[]=>some []
 |.bl b::r=>(xn r).map λt=>b::t
 |_::_=>none
theorem yz{H:Hp}{W:Wn}:∀{ds:List D}{bs:List Bool}{xs:List V}{L:List Addr},xn ds=some bs->aF G H W ds xs L->xs=bs.map V.bl
 |[],ks,xs,L,h,r=>by cases h;exact r.inv0.1
 |d::t,ks,xs,L,h,r=>by
  obtain⟨x,ys,M,M',rfl,rfl,h1,h2⟩:=r.inv;cases d<;>simp[xn]at h;obtain⟨w,h3,rfl⟩:=h;rw[Rep]at h1;rw[yz h3 h2,h1.1];rfl
def uR:List D->Option D
 |[.lst _ ds]=>(xn ds).map λbs=>.bl (bs.all id)
 |_=>none
theorem sr(hc:∀c,(X c).calm=true)(hK:∀c,(X c).K=G.K:=by intro _;rfl):CaB X G (.builtin "all") uR:=⟨λxs H Q=>∃a bs,xs=[.ref a]/\SqL G.K H a (List.map V.bl bs)/\Q (.bl (List.all bs id)) H,λc=>by rw[←hK c];exact D_ (hc c),λds d e xs H W L0 r nd hn w Q q=>by
 unfold uR at e;split at e
 .rename_i m ds
  cases h1:xn ds with
  |none=>simp[h1]at e
  |some ks=>
   obtain rfl:D.bl (ks.all id)=d:=by simpa[h1]using e
   obtain⟨x,rfl,rx⟩:=r.inv1;rw[Rep]at rx;obtain⟨a,ys,M,rfl,hr,hs⟩:=rx;have:=yz h1 hr;subst this;exact⟨a,ks,rfl,hs.sq,q.scal λ_=>g8⟩
 .cases e⟩
def zz:List D->Option D
 |[.non]=>some (.str "None")
 |[.bl b]=>some (.str (if b then "True" else "False"))
 |[.int i]=>if i.natAbs.log2<1920 then some (.str (toString i))else none
 |[.str x]=>some (.str x)
 |[d]=>if fX d=true/\(pyD (dt d)).depth<=50/\(pyD (dt d)).showable=true/\(pyD (dt d)).shown.length<=sizeLine then some (.str (pyD (dt d)).shown)else none
 |_=>none
theorem Ei{Y:Cx}:cM Y (.type "str") (λxs H Q=>(xs=[.non]/\Q (.str "None") H)∨(∃b:Bool,xs=[.bl b]/\Q (.str (if b then "True" else "False")) H)∨∃x,xs=[.str x]/\Q (.str x) H):=by
 intro pins s σ H xs us Q I r h;rcases h with⟨rfl,q⟩|⟨b,rfl,q⟩|⟨x,rfl,q⟩
 .obtain⟨u,rfl,ru⟩:=vals1 r
  cases ru;exact P.str_of_none ⟨.str _,H,I.tok _,⟨_,rfl⟩,q⟩
 .obtain⟨u,rfl,ru⟩:=vals1 r
  cases ru;exact P.str_of_bool ⟨.str _,H,I.tok _,⟨_,rfl⟩,q⟩
 .obtain⟨u,rfl,ru⟩:=vals1 r
  obtain⟨t,rfl⟩:=ru;exact P.str_of_str ⟨.str _,H,I,⟨_,rfl⟩,q⟩
def Qy(K:PySem.W.Frag)(A:Around):List V->Hp->VK->Prop:=λxs H Q=>(((xs=[.non]/\Q (.str "None") H)∨(∃b:Bool,xs=[.bl b]/\Q (.str (if b then "True" else "False")) H)∨∃x,xs=[.str x]/\Q (.str x) H)∨∃i,xs=[.int i]/\i.natAbs.log2<1920/\Q (.str (toString i)) H)∨LK K A xs H Q
theorem lY{H:Hp}{W:Wn}{x:Str}:Rep G H W (.str x) (.str x) []:=by rw[Rep];exact⟨rfl,rfl⟩
theorem Cm(A:Around)(hA:∀c,(X c).A=A)(hg:A.guards=some [])(hu:A.units+64<cLine)(hK:∀c,(X c).K=G.K:=by intro _;rfl):CaB X G (.type "str") zz:=⟨Qy G.K A,λc=>by rw[←hK c,←hA c];exact cM.or (cM.or Ei wj) Dk,λds d e xs H W L0 r nd hn w Q q=>by
 unfold zz at e;split at e
 .cases e
  obtain⟨x,rfl,rx⟩:=r.inv1;rw[Rep]at rx;obtain⟨rfl,rfl⟩:=rx;exact .inl (.inl (.inl ⟨rfl,q.scal λ_=>lY⟩))
 .cases e
  obtain⟨x,rfl,rx⟩:=r.inv1;obtain⟨rfl,rfl⟩:=nA rx;exact .inl (.inl (.inr (.inl ⟨_,rfl,q.scal λ_=>lY⟩)))
 .split at e
  .cases e
   obtain⟨x,rfl,rx⟩:=r.inv1;obtain⟨rfl,rfl⟩:=aR rx;exact .inl (.inr ⟨_,rfl,‹_›,q.scal λ_=>lY⟩)
  .cases e
 .cases e
  obtain⟨x,rfl,rx⟩:=r.inv1;obtain⟨rfl,rfl⟩:=bD rx;exact .inl (.inl (.inr (.inr ⟨_,rfl,q.scal λ_=>lY⟩)))
 .rename_i d0 n1 n2 n3 n4
  split at e
  .rename_i hd
   cases e;obtain⟨x,rfl,rx⟩:=r.inv1;have hb:=rx.brs hd.1;have hx:∃a,x= .ref a:=by
    cases d0 with
    |non=>exact absurd rfl n1
    |bl b=>exact absurd rfl (n2 b)
    |int b=>exact absurd rfl (n3 b)
    |str b=>exact absurd rfl (n4 b)
    |tup ds=>rw[Rep]at rx;obtain⟨a,_,rfl,_⟩:=rx;exact⟨a,rfl⟩
    |lst m ds=>rw[Rep]at rx;obtain⟨a,_,_,rfl,_⟩:=rx;exact⟨a,rfl⟩
    |ty n=>simp[fX]at hd
    |dct m ks ds=>simp[fX]at hd
    |ins m c fs ds=>simp[fX]at hd
   obtain⟨a,rfl⟩:=hx;exact .inr ⟨a,dt d0,rfl,hb,hg,by omega,hd.2.2.1,hd.2.2.2,q.scal λ_=>lY⟩
  .cases e
 .cases e⟩
end
section
variable{ι:Type}{X:ι->Cx}{G:Gc}{ob P:Nat->Bool}
def RC:D->Bool
 |.non=>true
 |.bl _=>true
 |.int _=>true
 |.str _=>true
 |_=>false
def Ph(g g':D->D->Option D)(fa fb fc:En->Option D):En->Option D:=λρ=>(fa ρ).bind λx=>(fb ρ).bind λy=>if RC y then(g x y).bind λr=>match r with
 |.bl true=>(fc ρ).bind λz=>g' y z
 |.bl false=>some (.bl false)
 |_=>none else none
variable{a b c:Expr}{pos:Pos}
def RT(g:Int->Int->Int)(i:Nat)(f:En->Option D):En->Option Fl:=λρ=>match ρ[i]? with
 |some (some (.int m))=>(f ρ).bind λd=>match d with
  |.int n=>some (.nx (ρ.set i (some (.int (g m n)))))
  |_=>none
 |_=>none
def Oq(G:Gc)(ob:Nat->Bool)(wi:TI)(f:En->Option (List D×En)):Prop:=∀(ρ:En)(items:List D)(ρ':En),f ρ=some (items,ρ')->∀(σ:L2.St)(H:Hp)(S:Ad)(Fr:Addr->Prop),Sta G H ob ρ σ S Fr->∀R:It->Hp->Prop,
 (∀J H' S',Sta G H' ob ρ' σ S' Fr->Eff ob H H' S S' []->Wk G J (LtB true H' (wn ob S' Fr)) items->R J H')->wi σ H R
structure Qk{ι:Type}(X:ι->Cx)(G:Gc)(ob:Nat->Bool)(tg it:Expr)(f:En->Option (List D×En)):Prop where
 mk::(ex:∃t,(∀c,PI (X c) tg it t)/\Oq G ob t f)
def xX(f:En->Option (List D×En)):En->Option (List D×En):=λρ=>(f ρ).bind λp=>match p.1 with
 |[.int j]=>if -(2 ^ 62)<=j/\j<2 ^ 62 then some (iU 0 j.toNat,p.2)else none
 |_=>none
theorem Ks{t:TA}{f:En->Option (List D×En)}(h:yd G ob t f):Oq G ob (Fi t) (xX f):=λρ items ρ' e σ H S Fr s R q=>by
 unfold xX at e;cases h1:f ρ with
 |none=>simp[h1]at e
 |some p=>
  obtain⟨ds,ρ1⟩:=p;rw[h1]at e;simp only[Option.bind_some]at e;split at e
  .rename_i j
   split at e
   .rename_i hj
    obtain⟨rfl,rfl⟩:iU 0 j.toNat=items/\ρ1=ρ':=by simpa using e
    refine h ρ _ _ h1 σ H S Fr s _ λxs H' L S' s' rx nd ef=>?_;obtain⟨x,rfl,rx'⟩:=rx.inv1;obtain⟨rfl,rfl⟩:=aR rx';rw[jt]at s';exact⟨j,rfl,by omega,by omega,q _ H' S' s' ef H9⟩
   .cases e
  .cases e
def R6(f:En->Option (D×En)):En->Option (List D×En):=λρ=>(f ρ).bind λp=>(cN p.1).bind λr=>if r.1=true then some (r.2,p.2)else none
def yq(it:En->Option (List D×En))(tg:D->En->Option En)(body:En->Option Fl):En->Option Fl:=λρ=>(it ρ).bind λp=>forL tg body p.1 p.2
theorem GF{wi:TI}{g:TG}{tb:TS}{it:En->Option (List D×En)}{tg:D->En->Option En}{body:En->Option Fl}(hi:Oq G ob wi it)(hg:RfG G ob P g tg)(hb:RfS G ob P tb body):RfS G ob P (M8 wi g tb) (yq it tg body):=λρ0 r e σ H0 S0 Fr s0 E q=>by
 unfold yq at e;cases h1:it ρ0 with
 |none=>simp[h1]at e
 |some p=>
  obtain⟨items,ρ⟩:=p;have e:forL tg body items ρ=some r:=by simpa[h1]using e
  refine hi ρ0 items ρ h1 σ H0 S0 Fr s0 _ λJ H1 S s1 ef wk=>?_;have m1:Mv P H0 H1 σ σ S0 S []:=ef.mv;have q1:=q.from m1;have ltof:∀{ρ2:En}{σ2:L2.St}{H2:Hp}{S2:Ad},Mv P H1 H2 σ σ2 S S2 []->LtB true H1 (wn ob S Fr) H2 (wn ob S2 Fr):=λm=>ur (Ah s1 m);refine⟨λi m σ2 H2=>i+m=items.length/\∃ρ2 S2,Sta G H2 ob ρ2 σ2 S2 Fr/\Mv P H1 H2 σ σ2 S S2 []/\forL tg body (items.drop i) ρ2=some r,⟨items.length,by omega,ρ,S,s1,.refl,e⟩,?_⟩;rintro i m σ2 H2 ⟨him,ρ2,S2,s2,m2,e2⟩;by_cases hil:i<items.length
  .refine .inr ⟨wk.go i items[i] (by simp[hil]) H2 _ (ltof (ρ2:=ρ2) m2),λσ' H'=>(i+1)+(m-1)=items.length/\∃ρ2 S2,Sta G H' ob ρ2 σ' S2 Fr/\Mv P H1 H' σ σ' S S2 []/\forL tg body (items.drop (i+1)) ρ2=some r,λσ' H' h=>⟨m-1,by omega,h⟩,λx H3 hy=>?_⟩
   obtain⟨s3,rx⟩:=wk.yld i items[i] (by simp[hil]) H2 _ (ltof (ρ2:=ρ2) m2) x H3 hy;rw[←List.getElem_cons_drop hil,forL]at e2;cases h3:tg items[i] ρ2 with
   |none=>simp[h3]at e2
   |some ρ3=>
    rw[h3]at e2;simp only[Option.bind_some]at e2;have st3:Sta G H3 ob ρ2 σ2 S2 Fr:=s2.grow s3 λa z=>.inl z;refine hg items[i] ρ2 ρ3 h3 x σ2 H3 S2 [] Fr (by rw[jt];exact st3) (by rw[jt];exact rx) List.nodup_nil (by simp) _ λσ4 H4 S4 s4 m4=>?_;have m24:Mv P H1 H4 σ σ4 S S4 []:=(m2.trans (S2:=S2) ⟨λb u h _ _=>s3 b u h,λi a z=>.inl ⟨i,z⟩,.refl⟩).trans m4;cases h5:body ρ3 with
    |none=>rw[h5]at e2;cases e2
    |some fl=>
     rw[h5]at e2;refine hb ρ3 fl h5 σ4 H4 S4 Fr s4 _ ?_;cases fl with
     |nx ρ5=>exact λσ' H' S' s' m'=>⟨by omega,ρ5,S',s',m24.trans m',e2⟩
     |cnt ρ5=>exact λσ' H' S' s' m'=>⟨by omega,ρ5,S',s',m24.trans m',e2⟩
     |brk ρ5=>cases e2;exact λσ' H' S' s' m'=>q1 σ' H' S' s' (m24.trans m')
     |ret d ρ5=>cases e2;exact q1.from m24
  .have hl:i=items.length:=by omega
   rw[hl,List.drop_length,forL]at e2;cases e2;subst hl;exact .inl ⟨wk.stop H2 _ (ltof (ρ2:=ρ2) m2),q1 σ2 H2 S2 s2 m2⟩
theorem IK{tg iter:Expr}{body:List Stmt}{pos:Pos}{it:En->Option (List D×En)}{g:D->En->Option En}{f:En->Option Fl}(hp:∀c,PassesOwn (model (X c).prog (X c).w) (X c).A (X c).env (X c).xe)(hc:∀c,(X c).calm=true)(hi:Qk X G ob tg iter it)(hg:PVG X G ob P tg g)(hb:rN X G ob P body f)(hs:∀c,∀x,foldedSetIterable iter (X c).env x=pure x:=by intro _;intro _;rfl):PVS X G ob P (.For tg iter body [] pos) (yq it g f):=let⟨v,c1,c2⟩:=hi.ex;let⟨t,a1,a2⟩:=hg.ex;let⟨u,b1,b2⟩:=hb.ex;⟨_,λc=>Ih (hp c) (hc c) (c1 c) (a1 c) (b1 c) (hs c),GF c2 a2 b2⟩
theorem Js{tg a:Expr}{p pos:Pos}{f:En->Option (List D×En)}(hg:∀c,Gl (X c) "range")(hm:∀c,(X c).mg "range"=none)(ha:tE X G ob [a] f)(hs:∀c,starEach [a] (X c).env=[(false,eval a (X c).env)]:=by intro _;rfl):Qk X G ob tg (.Call (.Name "range" p) [a] [] pos) (xX f):=let⟨t,a1,a2⟩:=ha.ex;⟨_,λc=>u9 (hg c) (hm c) (a1 c) (hs c),Ks a2⟩
end
def QM(own:Nat->Bool)(cap:List (Option Nat)):Bool:=(List.range cap.length).all λi=>!own i||(match cap[i]? with
 |some none=>true
 |_=>false)
theorem fV{own:Nat->Bool}{cap:List (Option Nat)}(h:QM own cap=true):∀i:Nat,own i=true->cap[i]?≠none->cap[i]? =some none:=λi ho hn=>by
 have hi:i<cap.length:=by
  by_cases z:i<cap.length
  .exact z
  .exact absurd (List.getElem?_eq_none (by omega)) hn
 have:=List.all_eq_true.mp h i (List.mem_range.mpr hi);rw[ho]at this;simp only[Bool.not_true,Bool.false_or]at this;split at this
 .assumption
 .cases this
def KR(cap:List (Option Nat)):Bool:=(List.range cap.length).all λi=>(List.range cap.length).all λk=>match cap[i]?,cap[k]? with
 |some (some a),some (some b)=>!(a==b)||i==k
 |_,_=>true
theorem Ji{cap:List (Option Nat)}(h:KR cap=true):nF cap:=λi k j h1 h2=>by
 have hi:i<cap.length:=(List.getElem?_eq_some_iff.mp h1).1;have hk:k<cap.length:=(List.getElem?_eq_some_iff.mp h2).1;have:=List.all_eq_true.mp (List.all_eq_true.mp h i (List.mem_range.mpr hi)) k (List.mem_range.mpr hk);rw[h1,h2]at this;simpa using this
def KpS{α:Type}(i:Nat)(f:En->Option (α×En)):Prop:=∀ρ q,f ρ=some q->q.2[i]? =ρ[i]?
theorem FJ{i:Nat}{f:En->Option D}:KpS i (eUp f):=λρ q h=>by
 unfold eUp at h;cases e:f ρ with
 |none=>simp[e]at h
 |some d=>
  obtain rfl:(d,ρ)=q:=by simpa[e]using h
  rfl
theorem Bt{i:Nat}{f:En->Option (List D)}:KpS i (cB f):=λρ q h=>by
 unfold cB at h;cases e:f ρ with
 |none=>simp[e]at h
 |some d=>
  obtain rfl:(d,ρ)=q:=by simpa[e]using h
  rfl
theorem yX{i:Nat}{f:En->Option (D×En)}{g:En->Option (List D×En)}(h1:KpS i f)(h2:KpS i g):KpS i (cF f g):=λρ q h=>by
 unfold cF at h;cases e1:f ρ with
 |none=>simp[e1]at h
 |some p=>
  cases e2:g p.2 with
  |none=>simp[e1,e2]at h
  |some r=>
   rw[e1]at h;simp only[Option.bind_some,e2]at h;split at h
   .cases h
    exact(h2 _ _ e2).trans (h1 _ _ e1)
   .cases h
theorem IV{i:Nat}{g:List D->Option D}{f:En->Option (List D×En)}(h1:KpS i f):KpS i (mW g f):=λρ q h=>by
 unfold mW at h;cases e1:f ρ with
 |none=>simp[e1]at h
 |some p=>
  cases e2:g p.1 with
  |none=>simp[e1,e2]at h
  |some r=>
   obtain rfl:(r,p.2)=q:=by simpa[e1,e2]using h
   exact h1 ρ p e1
theorem Lq{i:Nat}{g:D->D->Option D}{f f':En->Option (D×En)}(h1:KpS i f)(h2:KpS i f'):KpS i (ee2 g f f'):=λρ q h=>by
 unfold ee2 at h;cases e1:f ρ with
 |none=>simp[e1]at h
 |some p=>
  cases e2:f' p.2 with
  |none=>simp[e1,e2]at h
  |some r=>
   rw[e1]at h;simp only[Option.bind_some,e2]at h;split at h
   .cases e3:g p.1 r.1 with
    |none=>simp[e3]at h
    |some d=>
     obtain rfl:(d,r.2)=q:=by simpa[e3]using h
     exact(h2 _ _ e2).trans (h1 _ _ e1)
   .cases h
theorem LR{i:Nat}{g:D->Option D}{f:En->Option (D×En)}(h1:KpS i f):KpS i (ee1 g f):=λρ q h=>by
 unfold ee1 at h;cases e1:f ρ with
 |none=>simp[e1]at h
 |some p=>
  cases e2:g p.1 with
  |none=>simp[e1,e2]at h
  |some r=>
   obtain rfl:(r,p.2)=q:=by simpa[e1,e2]using h
   exact h1 ρ p e1
theorem Gb{i:Nat}{F:List D->Option (D×List D)}{js:List Nat}{f:En->Option (List D×En)}(hj:js.contains i=false)(h1:KpS i f):KpS i (eIo F js f):=λρ q h=>by
 unfold eIo at h;split at h
 .cases e1:f ρ with
  |none=>simp[e1]at h
  |some p=>
   cases e2:objs js p.2 with
   |none=>simp[e1,e2]at h
   |some os=>
    rw[e1]at h;simp only[Option.bind_some,e2]at h;split at h
    .cases e3:F (os++fzL p.1)with
     |none=>simp[e3]at h
     |some r=>
      rw[e3]at h;simp only[Option.bind_some]at h;split at h
      .cases h
       exact(lL λz=>by simp[z]at hj).trans (h1 _ _ e1)
      .cases h
    .cases h
 .cases h
theorem G7{i:Nat}{g:D->Option Int->Option Int->Option D}{f:En->Option (D×En)}{fl fh:En->Option (Option Int)}(h1:KpS i f):KpS i (vL g f fl fh):=λρ q h=>by
 unfold vL at h;cases e1:f ρ with
 |none=>simp[e1]at h
 |some p=>
  cases e2:fl p.2 with
  |none=>simp[e1,e2]at h
  |some a=>
   cases e3:fh p.2 with
   |none=>simp[e1,e2,e3]at h
   |some b=>
    cases e4:g p.1 a b with
    |none=>simp[e1,e2,e3,e4]at h
    |some d=>
     obtain rfl:(d,p.2)=q:=by simpa[e1,e2,e3,e4]using h
     exact h1 ρ p e1
open PySem PySem.W PyProof.Rows
def Tr(b:Nat->Nat->Bool)(n:Nat){α:Type}:KasT α->(α->Prop)->Prop
 |.ret a,Q=>Q a
 |.ask i j k,Q=>i<n/\j<n/\Tr b n (k (b i j)) Q
section
variable{b:Nat->Nat->Bool}{n:Nat}{α β:Type}
theorem Tr.bind{f:α->KasT β}{Q:β->Prop}:∀{t:KasT α},Tr b n t (λa=>Tr b n (f a) Q)->Tr b n (t.bind f) Q
 |.ret _,h=>h
 |.ask _ _ _,⟨h1,h2,h3⟩=>⟨h1,h2,Tr.bind h3⟩
theorem Tr.mono{Q Q':α->Prop}(hq:∀a,Q a->Q' a):∀{t:KasT α},Tr b n t Q->Tr b n t Q'
 |.ret _,h=>hq _ h
 |.ask _ _ _,⟨h1,h2,h3⟩=>⟨h1,h2,Tr.mono hq h3⟩
theorem Tr.wp{cmp:Nat->Nat->(Bool->Shared->Prop)->Shared->Prop}{s:Shared}{Q:α->Prop}(hc:∀i j C,i<n->j<n->C (b i j) s->cmp i j C s):∀{t:KasT α},Tr b n t Q->t.kasWp cmp (λa s'=>s'=s/\Q a) s
 |.ret _,h=>⟨rfl,h⟩
 |.ask _ _ _,⟨h1,h2,h3⟩=>hc _ _ _ h1 h2 (Tr.wp hc h3)
end
def gh(n:Nat)(p:Array Nat):Prop:=List.Perm p.toList (List.range n)
theorem gh.size{n:Nat}{p:Array Nat}(h:gh n p):p.size=n:=by
 have:=List.Perm.length_eq h;simpa using this
theorem gh.lt{n:Nat}{p:Array Nat}(h:gh n p)(hn:0<n)(i:Nat):p.getD i 0<n:=by
 by_cases hi:i<p.size
 .have hm:p[i]∈p.toList:=by simp
  have:=List.mem_range.mp (List.Perm.mem_iff h |>.mp hm);simpa[Array.getD,hi]using this
 .simpa[Array.getD,hi]using hn
theorem gh.of{n:Nat}{p q:Array Nat}(h:gh n p)(hp:Array.Perm q p):gh n q:=(Array.perm_iff_toList_perm.mp hp).trans h
section
variable(ρ:Nat->Int)
def rk(p:Array Nat)(i:Nat):Int:=ρ (p.getD i 0)
def Up1(p:Array Nat)(k:Nat):Prop:=∀i j,i<=j->j<k->rk ρ p i<=rk ρ p j
def Dn1(p:Array Nat)(k:Nat):Prop:=∀i j,i<=j->j<k->rk ρ p j<=rk ρ p i
abbrev bk:Nat->Nat->Bool:=λi j=>decide (ρ i<ρ j)
end
section
variable{ρ:Nat->Int}{n:Nat}(hn:0<n)
theorem xY{p q:Array Nat}{i j:Nat}(h:p[i]? =q[j]?):rk ρ p i=rk ρ q j:=by
 unfold rk;rw[Array.getD_eq_getD_getElem?,Array.getD_eq_getD_getElem?,h]
theorem Aq{p:Array Nat}{i j:Nat}(hj:j<=p.size)(k:Nat):rk ρ (kas_rev p i j) k=if i<=k/\k<j then rk ρ p (i+j-1-k)else rk ρ p k:=by
 have e:=getElem?_mirror_all (xs:=p) (i:=i) hj k;unfold kas_rev;split
 .rename_i h;rw[if_pos h]at e;exact xY e
 .rename_i h;rw[if_neg h]at e;exact xY e
theorem iJ{p:Array Nat}{i j:Nat}(hj:j<=p.size)(h:∀k,i<=k->k<j->rk ρ p k=rk ρ p (j-1))(k:Nat):rk ρ (kas_rev p i j) k=rk ρ p k:=by
 rw[Aq hj];split
 .rw[h _ (by omega) (by omega),h k (by omega) (by omega)]
 .rfl
include hn
theorem Ht{p:Array Nat}(hp:gh n p):∀(f a:Nat),1<=a->Up1 ρ p a->Tr (bk ρ) n (kas_asc p f a) λm=>a<=m/\m<=a+f/\Up1 ρ p m
 |0,a,_,h=>⟨Nat.le_refl _,Nat.le_refl _,h⟩
 |f+1,a,ha,h=>by
  refine⟨hp.lt hn _,hp.lt hn _,?_⟩;by_cases c:rk ρ p a<rk ρ p (a-1)
  .have e:bk ρ (p.getD a 0) (p.getD (a-1) 0)=true:=decide_eq_true c
   rw[e];exact⟨Nat.le_refl _,by omega,h⟩
  .have e:bk ρ (p.getD a 0) (p.getD (a-1) 0)=false:=decide_eq_false c
   rw[e];refine Tr.mono (λm hm=>⟨by omega,by omega,hm.2.2⟩) (Ht hp f (a+1) (by omega) λi j hij hj=>?_);by_cases hja:j<a
   .exact h i j hij hja
   .obtain rfl:j=a:=by omega
    by_cases hi:i=j
    .subst hi;exact Int.le_refl _
    .exact Int.le_trans (h i (j-1) (by omega) (by omega)) (by omega)
def DsQ(ρ:Nat->Int)(n a f:Nat)(t:Array Nat×Nat×Nat):Prop:=gh n t.1/\a<=t.2.1/\t.2.1<=a+f/\Dn1 ρ t.1 t.2.1/\t.2.2+1<=t.2.1/\∀i,t.2.1-(t.2.2+1)<=i->i<t.2.1->rk ρ t.1 i=rk ρ t.1 (t.2.1-1)
theorem xO:∀(f:Nat)(p:Array Nat)(a q:Nat),gh n p->1<=a->a+f<=n->Dn1 ρ p a->q+1<=a->(∀i,a-(q+1)<=i->i<a->rk ρ p i=rk ρ p (a-1))->Tr (bk ρ) n (kas_desc f p a q) (DsQ ρ n a f)
 |0,p,a,q,hp,ha,_,h,hq,he=>⟨hp,Nat.le_refl _,Nat.le_refl _,h,hq,he⟩
 |f+1,p,a,q,hp,ha,hf,h,hq,he=>by
  have hz:=hp.size;refine⟨hp.lt hn _,hp.lt hn _,?_⟩;by_cases c:rk ρ p a<rk ρ p (a-1)
  .have e:bk ρ (p.getD a 0) (p.getD (a-1) 0)=true:=decide_eq_true c
   have key:∀q':Array Nat,gh n q'->(∀k,rk ρ q' k=rk ρ p k)->Tr (bk ρ) n (kas_desc f q' (a+1) 0) (DsQ ρ n a (f+1)):=λq' hp' hk=>by
    refine Tr.mono (λt ht=>⟨ht.1,by have:=ht.2.1;omega,by have:=ht.2.2.1;omega,ht.2.2.2⟩) (xO f q' (a+1) 0 hp' (by omega) (by omega) (λi j hij hj=>?_) (by omega) λi h1 h2=>by rw[show i=a+1-1 by omega]);rw[hk,hk];by_cases hja:j<a
    .exact h i j hij hja
    .obtain rfl:j=a:=by omega
     by_cases hi:i=j
     .subst hi;exact Int.le_refl _
     .exact Int.le_trans (by omega) (h i (j-1) (by omega) (by omega))
   rw[e];simp only[if_true];by_cases hq0:q>0
   .rw[if_pos hq0]
    exact key _ (hp.of (mirror_perm _ _ _ _)) (iJ (by omega) he)
   .rw[if_neg hq0]
    exact key _ hp λ_=>rfl
  .have e:bk ρ (p.getD a 0) (p.getD (a-1) 0)=false:=decide_eq_false c
   rw[e];simp only[Bool.false_eq_true,if_false];refine⟨hp.lt hn _,hp.lt hn _,?_⟩;by_cases c2:rk ρ p (a-1)<rk ρ p a
   .have e:bk ρ (p.getD (a-1) 0) (p.getD a 0)=true:=decide_eq_true c2
    rw[e];exact⟨hp,Nat.le_refl _,by show a<=a+(f+1);omega,h,hq,he⟩
   .have e:bk ρ (p.getD (a-1) 0) (p.getD a 0)=false:=decide_eq_false c2
    have ea:rk ρ p a=rk ρ p (a-1):=by omega
    rw[e];simp only[Bool.false_eq_true,if_false];refine Tr.mono (λt ht=>⟨ht.1,by have:=ht.2.1;omega,by have:=ht.2.2.1;omega,ht.2.2.2⟩) (xO f p (a+1) (q+1) hp (by omega) (by omega) (λi j hij hj=>?_) (by omega) λi h1 h2=>?_)
    .by_cases hja:j<a
     .exact h i j hij hja
     .obtain rfl:j=a:=by omega
      by_cases hi:i=j
      .subst hi;exact Int.le_refl _
      .rw[ea];exact h i (j-1) (by omega) (by omega)
    .rw[show a+1-1=a by omega]
     by_cases hi:i=a
     .rw[hi]
     .rw[ea];exact he i (by omega) (by omega)
def CtQ(ρ:Nat->Int)(n nr:Nat)(t:Nat×Array Nat):Prop:=gh n t.2/\1<=t.1/\t.1<=nr/\Up1 ρ t.2 t.1
theorem CN{p:Array Nat}{a nr:Nat}(hp:gh n p)(ha:1<=a)(har:a<=nr)(hnr:nr<=n)(h:Dn1 ρ p a):Tr (bk ρ) n (kas_tail3 a nr p) (CtQ ρ n nr):=by
 have hz:=hp.size;have hp':gh n (kas_rev p 0 a):=hp.of (mirror_perm _ _ _ _);refine Tr.bind (Tr.mono (λm hm=>?_) (Ht hn hp' (nr-a) a ha λi j hij hj=>?_))
 .exact⟨hp',by show 1<=m;omega,by show m<=nr;omega,hm.2.2⟩
 .rw[Aq (by omega),Aq (by omega),if_pos (by omega),if_pos (by omega)]
  exact h _ _ (by omega) (by omega)
theorem C_{p:Array Nat}{a nr:Nat}(hp:gh n p)(har:a+1<=nr)(hnr:nr<=n)(h:Dn1 ρ p (a+1)):Tr (bk ρ) n (kas_descPart a nr p) (CtQ ρ n nr):=by
 refine Tr.bind (Tr.mono (λt ht=>?_) (xO hn (nr-(a+1)) p (a+1) 0 hp (by omega) (by omega) h (by omega) λi h1 h2=>by rw[show i=a+1-1 by omega]));obtain⟨t1,t2,t3⟩:=t;obtain⟨h1,h2,h3,h4,h5,h6⟩:=ht;have hz:=h1.size;simp only at h1 h2 h3 h4 h5 h6 hz⊢;split
 .refine CN hn (h1.of (mirror_perm _ _ _ _)) (by omega) (by omega) hnr λi j hij hj=>?_
  rw[iJ (by omega) h6,iJ (by omega) h6];exact h4 i j hij hj
 .exact CN hn h1 (by omega) (by omega) hnr h4
theorem FQ{p:Array Nat}{nr:Nat}(hp:gh n p)(h1:1<=nr)(hnr:nr<=n):Tr (bk ρ) n (kas_count nr p) (CtQ ρ n nr):=by
 have hz:=hp.size;have h0:Up1 ρ p 1:=λi j hij hj=>by rw[show i=j by omega];exact Int.le_refl _
 have go:Tr (bk ρ) n (kas_asc p (nr-1) 1) λm=>1<=m/\m<=nr/\Up1 ρ p m/\(m=nr∨rk ρ p m<rk ρ p (m-1)):=by
  have:∀(f a:Nat),1<=a->a+f=nr->Up1 ρ p a->Tr (bk ρ) n (kas_asc p f a) λm=>1<=m/\m<=nr/\Up1 ρ p m/\(m=nr∨rk ρ p m<rk ρ p (m-1)):=by
   intro f
   induction f with
   |zero=>intro a ha hf h;exact⟨ha,by omega,h,.inl (by omega)⟩
   |succ f ih=>
    intro a ha hf h;refine⟨hp.lt hn _,hp.lt hn _,?_⟩;by_cases c:rk ρ p a<rk ρ p (a-1)
    .have e:bk ρ (p.getD a 0) (p.getD (a-1) 0)=true:=decide_eq_true c
     rw[e];exact⟨ha,by omega,h,.inr c⟩
    .have e:bk ρ (p.getD a 0) (p.getD (a-1) 0)=false:=decide_eq_false c
     rw[e];refine ih (a+1) (by omega) (by omega) λi j hij hj=>?_;by_cases hja:j<a
     .exact h i j hij hja
     .obtain rfl:j=a:=by omega
      by_cases hi:i=j
      .subst hi;exact Int.le_refl _
      .exact Int.le_trans (h i (j-1) (by omega) (by omega)) (by omega)
  exact this (nr-1) 1 (Nat.le_refl _) (by omega) h0
 refine Tr.bind (Tr.mono (λm hm=>?_) go);obtain⟨m1,m2,m3,m4⟩:=hm;by_cases hmn:m=nr
 .rw[if_pos (by simpa using hmn)]
  exact⟨hp,m1,m2,m3⟩
 .rw[if_neg (by simpa using hmn)]
  have hlt:=m4.resolve_left hmn;by_cases hgt:m>1
  .rw[if_pos hgt]
   refine⟨hp.lt hn _,hp.lt hn _,?_⟩;by_cases c:rk ρ p 0<rk ρ p (m-1)
   .have e:bk ρ (p.getD 0 0) (p.getD (m-1) 0)=true:=decide_eq_true c
    rw[e];exact⟨hp,m1,m2,m3⟩
   .have e:bk ρ (p.getD 0 0) (p.getD (m-1) 0)=false:=decide_eq_false c
    rw[e];simp only[Bool.false_eq_true,if_false];have hall:∀k,0<=k->k<m->rk ρ p k=rk ρ p (m-1):=λk _ hk=>by
     have a1:=m3 0 k (by omega) hk;have a2:=m3 k (m-1) (by omega) (by omega);omega
    refine C_ hn (hp.of (mirror_perm _ _ _ _)) (by omega) hnr λi j hij hj=>?_;rw[iJ (by omega) hall,iJ (by omega) hall];by_cases hjm:j<m
    .rw[hall i (by omega) (by omega),hall j (by omega) hjm];exact Int.le_refl _
    .obtain rfl:j=m:=by omega
     by_cases hi:i=j
     .subst hi;exact Int.le_refl _
     .rw[hall i (by omega) (by omega)];omega
  .rw[if_neg hgt]
   obtain rfl:m=1:=by omega
   refine C_ hn hp (by omega) hnr λi j hij hj=>?_;by_cases hi:i=j
   .subst hi;exact Int.le_refl _
   .obtain rfl:i=0:=by omega
    obtain rfl:j=1:=by omega
    exact Int.le_of_lt hlt
theorem sJ{p:Array Nat}{k:Nat}(hp:gh n p)(h:Up1 ρ p k):∀(f l r:Nat),l<=r->r<=k->r-l<=f->(∀i,i<l->rk ρ p i<=rk ρ p k)->(∀i,r<=i->i<k->rk ρ p k<rk ρ p i)->
  Tr (bk ρ) n (kas_place p k f l r) λm=>m<=k/\(∀i,i<m->rk ρ p i<=rk ρ p k)/\∀i,m<=i->i<k->rk ρ p k<rk ρ p i
 |0,l,r,hlr,hrk,hf,h1,h2=>⟨by omega,h1,λi hi hk=>h2 i (by omega) hk⟩
 |f+1,l,r,hlr,hrk,hf,h1,h2=>by
  unfold kas_place;by_cases hge:l>=r
  .rw[if_pos hge]
   exact⟨by omega,h1,λi hi hk=>h2 i (by omega) hk⟩
  .rw[if_neg hge]
   refine⟨hp.lt hn _,hp.lt hn _,?_⟩;by_cases c:rk ρ p k<rk ρ p ((l+r) / 2)
   .have e:bk ρ (p.getD k 0) (p.getD ((l+r) / 2) 0)=true:=decide_eq_true c
    rw[e];exact sJ hp h f l _ (by omega) (by omega) (by omega) h1 λi hi hk=>Int.lt_of_lt_of_le c (h _ i hi hk)
   .have e:bk ρ (p.getD k 0) (p.getD ((l+r) / 2) 0)=false:=decide_eq_false c
    rw[e];exact sJ hp h f _ r (by omega) hrk (by omega) (λi hi=>Int.le_trans (h i ((l+r) / 2) (by omega) (by omega)) (by omega)) h2
theorem Gu:∀(f:Nat)(p:Array Nat)(k:Nat),gh n p->k+f<=n->Up1 ρ p k->Tr (bk ρ) n (kas_bin f p k) λq=>gh n q/\Up1 ρ q (k+f)
 |0,p,k,hp,_,h=>⟨hp,h⟩
 |f+1,p,k,hp,hf,h=>by
  have hz:=hp.size;refine Tr.bind (Tr.mono (λl hl=>?_) (sJ hn hp h k 0 k (by omega) (by omega) (by omega) (λi hi=>by omega) λi h1 h2=>by omega));obtain⟨l1,l2,l3⟩:=hl;have hb:∀i,rk ρ (bubble p k (k-l)) i=if i=l then rk ρ p k else if l<i/\i<=k then rk ρ p (i-1)else rk ρ p i:=λi=>by
   have e:=getElem?_bubble (xs:=p) (src:=k) (by omega) (k-l) (by omega) i;rw[show k-(k-l)=l by omega]at e;split
   .rename_i hi;rw[if_pos hi]at e;exact xY e
   .rename_i hi
    rw[if_neg hi]at e;split
    .rename_i hi2;rw[if_pos hi2]at e;exact xY e
    .rename_i hi2;rw[if_neg hi2]at e;exact xY e
  refine Tr.mono (λq hq=>⟨hq.1,by rw[show k+(f+1)=k+1+f by omega];exact hq.2⟩) (Gu f (bubble p k (k-l)) (k+1) (hp.of (bubble_perm _ _ _)) (by omega) λi j hij hj=>?_);rw[hb,hb]
  repeat' split
  all_goals first
   |exact Int.le_refl _
   |(exfalso;omega)
   |exact Int.le_of_lt (l3 _ (by omega) (by omega))
   |exact l2 _ (by omega)
   |exact h _ _ (by omega) (by omega)
theorem Ci:Tr (bk ρ) n (kas_sort n) λp=>gh n p/\Up1 ρ p n:=by
 have hp:gh n (List.toArray (List.range n)):=by unfold gh;exact List.Perm.refl _
 refine Tr.bind (Tr.mono (λt ht=>?_) (FQ hn hp (by omega) (Nat.le_refl n)));obtain⟨h1,h2,h3,h4⟩:=ht;split
 .refine Tr.mono (λq hq=>⟨hq.1,?_⟩) (Gu hn (n-max t.1 1) t.2 (max t.1 1) h1 (by omega) (by rw[show max t.1 1=t.1 by omega];exact h4))
  have:=hq.2;rwa[show max t.1 1+(n-max t.1 1)=n by omega]at this
 .rename_i hlt
  exact⟨h1,by rw[show t.1=n by omega]at h4;exact h4⟩
end
open PySem PySem.W PyProof.Rows PySem.SeqAt
theorem jC:plainId "list.__eq__.loop"=true:=by decide +kernel
theorem qY:entryFor table "list.__eq__.loop"=some Builtin.«list.__eq__.loop»:=entryFor_of_fast (by kernel_rfl)
def ltS:List Str->List Str->Bool
 |[],[]=>false
 |[],_::_=>true
 |_::_,[]=>false
 |a::r,b::q=>if a=b then ltS r q else decide (a.cps.toList<b.cps.toList)
def StA(its:Array Value)(xs:List Str):Prop:=∀i:Nat,its[i]? =none/\xs[i]? =none∨∃x t,its[i]? =some (.str x t)/\xs[i]? =some x
theorem Hb{xs ys:List Str}{i:Nat}:ltS (xs.drop i) (ys.drop i)=match xs[i]?,ys[i]? with
  |none,none=>false
  |none,some _=>true
  |some _,none=>false
  |some a,some b=>if a=b then ltS (xs.drop (i+1)) (ys.drop (i+1))else decide (a.cps.toList<b.cps.toList):=by
 have d:∀zs:List Str,zs.drop i=match zs[i]? with|none=>[]|some a=>a::zs.drop (i+1):=λzs=>by
  by_cases h:i<zs.length
  .rw[List.drop_eq_getElem_cons h,List.getElem?_eq_getElem h]
  .rw[List.drop_eq_nil_of_le (by omega),List.getElem?_eq_none (by omega)]
 rw[d xs,d ys];cases xs[i]?<;>cases ys[i]?<;>rfl
theorem Hd(l b:Addr)(its jts:Array Value)(n n2:Nat)(dd dd2:Option Addr)(sl sl2:Array (Option Value))(xs ys:List Str)(h1:StA its xs)(h2:StA jts ys)(hx:its.size=xs.length)(hy:jts.size=ys.length)(k:Nat) :
  ∀i:Nat,xs.length-i=k->Meets (Builtin.«list.__eq__.loop» ⟨[.ref l,.ref b,rawInt i,rawInt 0],[]⟩)
   (λA R s=>s.heap.get? l=some {cls:=.type "list",dict:=dd,data:=.seq its n,slots:=sl}/\s.heap.get? b=some {cls:=.type "list",dict:=dd2,data:=.seq jts n2,slots:=sl2}/\(i<=xs.length/\i<=ys.length)/\
    R (.ok (.ret (.bool (ltS (xs.drop i) (ys.drop i))))) s):=by
 induction k with
 |zero=>
  intro i hk prog w A R s h;obtain⟨hp,g,d,tk,os⟩:=s;obtain⟨hl,hb,hi,h⟩:=h
  wp_walk using wpAny_loadPart' hl,wpAny_loadPart' hb
  have e1:xs[i]? =none:=by simp;omega
  have e2:its[((i:Nat):Int).toNat]? =none:=by simp;omega
  rw[Hb,e1]at h;rw[e2]
  wp_walk using wpAny_loadPart' hl,wpAny_loadPart' hb
  show R (.ok (.ret (.bool (decide (its.size<jts.size))))) _;rw[hx,hy];cases e3:ys[i]? with
  |none=>
   rw[e3]at h;have:ys.length<=i:=by simpa using e3
   rw[show decide (xs.length<ys.length)=false by simp;omega];exact h
  |some y=>
   rw[e3]at h;have:=(List.getElem?_eq_some_iff.mp e3).1;rw[show decide (xs.length<ys.length)=true by simp;omega];exact h
 |succ k ih=>
  intro i hk prog w A R s h;obtain⟨hp,g,d,tk,os⟩:=s;obtain⟨hl,hb,hi,h⟩:=h
  wp_walk using wpAny_loadPart' hl,wpAny_loadPart' hb
  have hlt:i<xs.length:=by omega
  obtain⟨z,_⟩|⟨x,t,e1,e2⟩:=h1 i
  .simp at z;omega
  rw[Hb,e2]at h;have f1:its[((i:Nat):Int).toNat]? =some (.str x t):=by simpa using e1
  obtain⟨e3,e4⟩|⟨y,u,e3,e4⟩:=h2 i
  .have f2:jts[((i:Nat):Int).toNat]? =none:=by simpa using e3
   rw[e4]at h;rw[f1,f2]
   wp_walk using wpAny_loadPart' hl,wpAny_loadPart' hb
   show R (.ok (.ret (.bool (decide (its.size<jts.size))))) _;have:ys.length<=i:=by simpa using e4
   rw[show decide (its.size<jts.size)=false by simp;omega];exact h
  .have f2:jts[((i:Nat):Int).toNat]? =some (.str y u):=by simpa using e3
   have hc:((i:Int)+1)=((i+1:Nat):Int):=by push_cast;rfl
   have hy2:=(List.getElem?_eq_some_iff.mp e4).1;rw[e4]at h;rw[f1,f2];refine wpAny_bind (wpAny_eqBool_str ?_);by_cases hxy:x=y
   .simp only[hxy,if_true]at h
    rw[show decide (x=y)=true from decide_eq_true hxy]
    wp_walk
    rw[hc];exact⟨plainId_quiet jC _,codeAny_builtin qY (by
     rw[Around.under_plainId jC _];exact ih (i+1) (by omega) prog w A R _ ⟨hl,hb,⟨by omega,by omega⟩,h⟩)⟩
   .simp only[if_neg hxy]at h
    rw[show decide (x=y)=false from decide_eq_false hxy]
    wp_walk using wpAny_loadPart' hl,wpAny_loadPart' hb
    rw[f1,f2];refine wpAny_bind (lt_str ?_);exact wpAny_pure h
theorem GQ(l b:Addr)(its jts:Array Value)(n n2:Nat)(dd dd2:Option Addr)(sl sl2:Array (Option Value))(xs ys:List Str)(h1:StA its xs)(h2:StA jts ys)(hx:its.size=xs.length)(hy:jts.size=ys.length) :
  Meets (Builtin.«list.__lt__» ⟨[.ref l,.ref b],[]⟩)
   (λA R s=>s.heap.get? l=some {cls:=.type "list",dict:=dd,data:=.seq its n,slots:=sl}/\s.heap.get? b=some {cls:=.type "list",dict:=dd2,data:=.seq jts n2,slots:=sl2}/\R (.ok (.ret (.bool (ltS xs ys)))) s):=by
 intro prog w A R s h;obtain⟨hp,g,d,tk,os⟩:=s;obtain⟨hl,hb,h⟩:=h;have f3:=AutoSeq1.sub_list_list
 wp_walk using wpAny_loadPart' hl,wpAny_loadPart' hb
 exact⟨plainId_quiet jC _,codeAny_builtin qY (by
  rw[Around.under_plainId jC _];exact Hd l b its jts n n2 dd dd2 sl sl2 xs ys h1 h2 hx hy _ 0 rfl prog w A R _ ⟨hl,hb,⟨Nat.zero_le _,Nat.zero_le _⟩,by simpa using h⟩)⟩
section
variable{prog:Program}{w:World}{A:Around}{E:Value->Shared->Prop}{s:Shared}
theorem zV{l b:Addr}{its jts:Array Value}{xs ys:List Str}{Q:Bool->Shared->Prop}(hl:s.heap.IsList l its)(hb:s.heap.IsList b jts)(h1:StA its xs)(h2:StA jts ys)(hx:its.size=xs.length)(hy:jts.size=ys.length)(hu:A.units<cLine)
  (h:Q (ltS xs ys) s):wpAny (model prog w) A (oneLt' true (.ref l) (.ref b)) Q E s:=by
 obtain⟨⟨cls,dd,data,sl⟩,ho,hc,n,hd⟩:=id hl;obtain⟨⟨cls2,dd2,data2,sl2⟩,ho2,hc2,n2,hd2⟩:=id hb;simp only at hc hd hc2 hd2;subst hc hd hc2 hd2;rw[oneLt'_eq];simp only[if_true];refine wpAny_bind (wpAny_cRoomFor hu ?_);refine wpAny_bind (wpAny_callSpecialIfBound?_slot (T:="list") ⟨_,ho,rfl⟩ F.slot_list_lt (call_meets F.slot_list_lt ⟨_,ho,rfl⟩ F.entry_list_lt (F.args_list_lt_2 _ _) (GQ l b its jts n n2 dd dd2 sl sl2 xs ys h1 h2 hx hy) ⟨ho,ho2,?_⟩));exact wpAny_truthy_bool h
end
section
variable{prog:Program}{w:World}{A:Around}{E:Value->Shared->Prop}{s:Shared}
theorem rn{l:Addr}{vs:List Value}{ρ:Nat->Int}{T:Value}{Q:Value->Shared->Prop}(hl:s.heap.IsList l vs.toArray)(h64:vs.length<64)
  (hk:∀h':Heap,(∀b o,s.heap.get? b=some o->h'.get? b=some o)->∀v∈vs,Looks (model prog w) h' (typeOf v) T) (hT1:(T !=Value.type "tuple")=true) (hT2:(T==T)=true)
  (hlt:∀h':Heap,(∀b o,s.heap.get? b=some o->h'.get? b=some o)->∀i j,i<vs.length->j<vs.length->∀Q':Bool->Shared->Prop,Q' (decide (ρ i<ρ j)) {s with heap:=h'}->wpAny (model prog w) A.in1.in1 (oneLt' true (vs.getD i Value.none) (vs.getD j Value.none)) Q' (λ_ _=>False) {s with heap:=h'})
  (h:∀p:Array Nat,gh vs.length p->Up1 ρ p vs.length->Q (.ref (s.heap.objs.size+1)) {s with heap:=sortedAll s.heap vs (List.toArray (p.toList.map λi=>vs.getD i Value.none))}) :
  wpAny (model prog w) A (call (.builtin "sorted") [.ref l]) Q E s:=by
 have hz0:vs.length<=sizeLine:=by rw[sizeLine_eq];omega
 refine Calls.call_function_entry kind_sorted plain_sorted entry_sorted (args_sorted1 _) ?_;unfold Builtin.«sorted»;refine wpAny_bind (m:=checkCount "sorted" 1 1 _) (wpAny_pure ?_);refine wpAny_bind (collect_list hl ?_ hz0);refine wpAny_bind (wpAny_newList ?_ (by rw[sizeLine_eq];omega))
 let G1:Heap:=(s.heap.push (seqObj "list" #[] 0)).update s.heap.objs.size (Obj.mapSeq (·++vs.toArray))
 have z1:G1.objs.size=s.heap.objs.size+1:=by rw[Heap.size_update,size_push']
 let a:=s.heap.objs.size+1
 let G2:Heap:=G1.push (seqObj "list" vs.toArray 0)
 have z2:G2.objs.size=s.heap.objs.size+2:=by show(G1.push _).objs.size=_;rw[size_push',z1]
 have hoL:G2.get? a=some (seqObj "list" vs.toArray 0):=by
  show(G1.push _).get? (s.heap.objs.size+1)=_;rw[←z1];exact Heap.get?_push_size _ rfl
 show wpAny _ _ _ _ _ {s with heap:=G2};show wpAny _ _ (holding _ _ >>=_) _ _ _;rw[show G1.objs.size=a from z1];refine wpAny_bind (wpAny_holding (wpAny_call_entry slot_list_sort ⟨_,hoL,rfl⟩ entry_list_sort ?_ (args_list_sort _)));have keep2:∀b o,s.heap.get? b=some o->G2.get? b=some o:=λb o q=>by
  have hb:b<s.heap.objs.size:=Heap.lt_size q;show(G1.push _).get? b=_;rw[Heap.get?_push_ne _ _ _ (by rw[z1];exact Nat.ne_of_lt (Nat.lt_succ_of_lt hb)),Heap.get?_update_ne _ _ _ _ (Nat.ne_of_lt hb),Heap.get?_push_ne _ _ _ (Nat.ne_of_lt hb)];exact q
 let G3:Heap:=G2.update a (Obj.mapSeq λ_=>#[])
 obtain⟨e1,ho1⟩:∃e1,G3.get? a=some (seqObj "list" #[] e1):=⟨_,get?_update_seq hoL λ_=>#[]⟩;have z3:G3.objs.size=s.heap.objs.size+2:=by show(G2.update _ _).objs.size=_;rw[Heap.size_update,z2]
 let G5:Heap:=(G3.push (seqObj "tuple" vs.toArray 0)).push (seqObj "list" #[] 0)
 have up5:∀b o,b<s.heap.objs.size+2->G3.get? b=some o->G5.get? b=some o:=λb o hb q=>by
  show((G3.push _).push _).get? b=_;rw[Heap.get?_push_ne _ _ _ (by rw[size_push',z3];exact Nat.ne_of_lt (Nat.lt_succ_of_lt hb)),Heap.get?_push_ne _ _ _ (by rw[z3];exact Nat.ne_of_lt hb)];exact q
 have keep5:∀b o,s.heap.get? b=some o->G5.get? b=some o:=λb o q=>by
  have hb:b<s.heap.objs.size:=Heap.lt_size q;refine up5 b o (Nat.lt_succ_of_lt (Nat.lt_succ_of_lt hb)) ?_;show(G2.update _ _).get? b=_;rw[Heap.get?_update_ne _ _ _ _ (Nat.ne_of_lt (Nat.lt_succ_of_lt hb))];exact keep2 b o q
 have ho5:G5.get? a=some (seqObj "list" #[] e1):=up5 a _ (Nat.lt_succ_self _) ho1;rw[list_sort_plain];refine wpAny_bind (listItems_at hoL rfl ?_);refine wpAny_bind (listUpdate_at hoL rfl ?_ (by rw[List.size_toArray];exact hz0) (Nat.zero_le _));refine wpAny_bind (seqEpoch_at ho1 rfl ?_);refine wpAny_bind (wpAny_newTuple ?_ (by show vs.length<=_;exact hz0));refine wpAny_bind (wpAny_newList ?_ (Nat.zero_le _));refine wpAny_holding ?_;show wpAny (model prog w) A.in1.in1 _ _ _ {s with heap:=G5};dsimp only;have fin:∀(st':SortSt)(p:Array Nat),arrOf st'=p.map (kas_item (vs.toArray.zip vs.toArray))->failedOf st'=none->gh vs.length p->Up1 ρ p vs.length->
   wpAny (model prog w) A.in1.in1 (do
    let sorted:=(arrOf st').map (·.2)
    let touched:=(←seqEpoch a)!=e1
    Builtin.List.listUpdate (.ref a) λ_=>sorted
    if let some e:=failedOf st' then rule "list.sort.comparison-raised";throw e
    if touched then rule "list.sort.modified";raiseError "ValueError" "list modified during sort"
    ret .none) (λfin s'=>∃v,fin= .done (.ret v)/\wpAny (model prog w) A.in1 (ret (.ref a)) (λfin s'=>∃v,fin= .done (.ret v)/\Q v s') E s') E {s with heap:=G5}:=λst' p har hf hp hu=>by
  have hout:=kat_snds (vs:=vs) (ks:=vs) rfl har;dsimp only;refine wpAny_bind (seqEpoch_at ho5 rfl ?_);have hps:p.size=vs.length:=hp.size;refine wpAny_bind (listUpdate_at ho5 rfl ?_ (Nat.zero_le _) (by rw[hout];simp only[List.size_toArray,List.length_map,Array.length_toList];omega));rw[hf];simp only[bne_self_eq_false,Bool.false_eq_true,if_false];refine wpAny_pure ⟨_,rfl,wpAny_pure ⟨_,rfl,?_⟩⟩;rw[hout];exact h p hp hu
 by_cases hn2:vs.toArray.size<2
 .rw[if_pos hn2,if_pos hn2]
  rw[List.size_toArray]at hn2;refine wpAny_bind (wpAny_pure ?_);rw[StateT.run_pure];refine wpAny_bind (wpAny_pure ?_);refine fin _ (List.toArray (List.range vs.length)) ?_ rfl (List.Perm.refl _) (λi j hij hj=>by rw[show i=j by omega];exact Int.le_refl _);have e:=kas_range (vs.toArray.zip vs.toArray);rw[show(vs.toArray.zip vs.toArray).size=vs.length by simp]at e;exact e.symm
 .rw[if_neg hn2,if_neg hn2]
  rw[List.size_toArray]at hn2;refine wpAny_bind (kas_kind (by omega) (hk G5 keep5) hT1 hT2 ?_);have ask:(kas_sort vs.length).kasWp (kas_ask prog w A.in1.in1 oneType' vs) (λp s'=>s'={s with heap:=G5}/\gh vs.length p/\Up1 ρ p vs.length) {s with heap:=G5}:=
   Tr.wp (λi j C hi hj hC=>hlt G5 keep5 i j hi hj C hC) (Ci (ρ:=ρ) (by omega))
  refine wpAny_bind (wpAny_mono (kat_run (Q:=λst' s'=>∃p:Array Nat,arrOf st'=p.map (kas_item (vs.toArray.zip vs.toArray))/\failedOf st'=none/\s'={s with heap:=G5}/\gh vs.length p/\Up1 ρ p vs.length) (E:=E)
   rfl (by omega) h64 (λp' st' s' a1 a2 a3 a4=>⟨p',a2,a3,a4⟩) ask) ?_ λ_ _ e=>e)
  rintro⟨⟨⟩,st'⟩ s' ⟨p,har,hf,rfl,hp,hu⟩;exact fin st' p har hf hp hu
end
theorem KY{a b:Str}(h1:¬a.cps.toList<b.cps.toList)(h2:¬b.cps.toList<a.cps.toList):a=b:=by
 have:=strKind.total a.cps.toList b.cps.toList (by simpa using h1) (by simpa using h2);cases a;cases b;congr;exact Array.toList_inj.mp this
theorem xM(a:Str):¬a.cps.toList<a.cps.toList:=List.lt_irrefl _
theorem nR:∀a:List Str,ltS a a=false
 |[]=>rfl
 |x::r=>by simp[ltS,nR r]
theorem pX:∀a b:List Str,ltS a b=false->ltS b a=false->a=b
 |[],[],_,_=>rfl
 |[],_::_,h,_=>by simp[ltS]at h
 |_::_,[],_,h=>by simp[ltS]at h
 |x::r,y::q,h1,h2=>by
  by_cases e:x=y
  .subst e
   simp only[ltS,if_true]at h1 h2;rw[pX r q h1 h2]
  .simp only[ltS,if_neg e,if_neg (Ne.symm e),decide_eq_false_iff_not]at h1 h2
   exact absurd (KY h1 h2) e
theorem mC:∀a b c:List Str,ltS a b=true->ltS b c=true->ltS a c=true
 |[],[],_,h,_=>by simp[ltS]at h
 |_::_,[],_,h,_=>by simp[ltS]at h
 |[],_::_,[],_,h=>by simp[ltS]at h
 |[],_::_,_::_,_,_=>rfl
 |_::_,_::_,[],_,h=>by simp[ltS]at h
 |x::r,y::q,z::p,h1,h2=>by
  by_cases e:x=y
  .subst e
   simp only[ltS,if_true]at h1;by_cases e2:x=z
   .subst e2
    simp only[ltS,if_true]at h2⊢;exact mC r q p h1 h2
   .simp only[ltS,if_neg e2]at h2⊢
    exact h2
  .simp only[ltS,if_neg e,decide_eq_true_eq]at h1
   by_cases e2:y=z
   .subst e2
    simp only[ltS,if_neg e,decide_eq_true_eq];exact h1
   .simp only[ltS,if_neg e2,decide_eq_true_eq]at h2
    have h3:=List.lt_trans h1 h2;have e3:x≠z:=λz'=>by subst z';exact xM _ h3
    simp only[ltS,if_neg e3,decide_eq_true_eq];exact h3
theorem CW{a b c:List Str}(h:ltS a c=true)(h2:ltS b c=false):ltS a b=true:=by
 cases e:ltS a b with
 |true=>rfl
 |false=>
  cases e2:ltS b a with
  |true=>rw[mC b a c e2 h]at h2;cases h2
  |false=>rw[pX a b e e2,h2]at h;cases h
def below(ks:List (List Str))(a:List Str):Nat:=ks.countP λy=>ltS y a
theorem mJ{α:Type}{p q:α->Bool}:∀{l:List α},(∀x∈l,p x=true->q x=true)->l.countP p<=l.countP q
 |[],_=>by simp
 |x::r,h=>by
  have ih:=mJ (l:=r) λy hy=>h y (by simp[hy]);rw[List.countP_cons,List.countP_cons];cases e:p x with
  |false=>simp;omega
  |true=>simp[h x (by simp) e,ih]
theorem my{α:Type}{p q:α->Bool}{z:α}:∀{l:List α},(∀x∈l,p x=true->q x=true)->z∈l->q z=true->p z=false->l.countP p<l.countP q
 |[],_,h,_,_=>by cases h
 |x::r,h,hz,hq,hp=>by
  rw[List.countP_cons,List.countP_cons];have hle:=mJ (l:=r) λy hy=>h y (by simp[hy]);rcases List.mem_cons.mp hz with rfl|hz
  .simp[hq,hp];omega
  .have ih:=my (l:=r) (λy hy=>h y (by simp[hy])) hz hq hp
   cases e:p x with
   |false=>simp;omega
   |true=>simp[h x (by simp) e];omega
theorem lH{ks:List (List Str)}{a b:List Str}(ha:a∈ks):ltS a b=decide ((below ks a:Int)<below ks b):=by
 cases e:ltS a b with
 |true=>
  have:=my (l:=ks) (p:=λy=>ltS y a) (q:=λy=>ltS y b) (λy _ hy=>mC y a b hy e) ha e (nR a);exact(decide_eq_true (by unfold below;omega)).symm
 |false=>
  have:=mJ (l:=ks) (p:=λy=>ltS y b) (q:=λy=>ltS y a) λy _ hy=>CW hy e;exact(decide_eq_false (by unfold below;omega)).symm
def Nv(K:PySem.W.Frag)(H:Hp)(ys:List V)(ks:List (List Str)):Prop:=ks.length=ys.length/\((∀(i:Nat)(k:List Str),ks[i]? =some k->∃x,k=[x]/\ys[i]? =some (.str x))∨∀(i:Nat)(k:List Str),ks[i]? =some k->∃b,ys[i]? =some (.ref b)/\SqL K H b (k.map V.str))
def Hr(K:PySem.W.Frag)(A:Around):List V->Hp->VK->Prop:=λxs H Q=>∃a ys ks,xs=[.ref a]/\SqL K H a ys/\ys.length<64/\A.units+2<cLine/\Nv K H ys ks/\
 ∀p:List Nat,List.Perm p (List.range ys.length)->List.Pairwise (λi j=>ltS (ks.getD j []) (ks.getD i [])=false) p->∀l,H l=none->Q (.ref l) (upd H l (.lst (p.map λi=>ys.getD i .non)))
theorem yR{ys:List V}{us:List Value}(r:Vals ys us)(i:Nat):(ys[i]? =none/\us[i]? =none)∨∃y u,ys[i]? =some y/\us[i]? =some u/\RelV y u:=by
 cases e:ys[i]? with
 |none=>
  have:=r.length;exact .inl ⟨rfl,by rw[List.getElem?_eq_none_iff]at e⊢;omega⟩
 |some y=>
  obtain⟨u,h1,h2⟩:=r.get e;exact .inr ⟨y,u,rfl,h1,h2⟩
theorem Gs{xs:List Str}{us:List Value}(r:Vals (xs.map V.str) us):StA us.toArray xs:=λi=>by
 rcases yR r i with⟨h1,h2⟩|⟨y,u,h1,h2,h3⟩
 .exact .inl ⟨by simpa using h2,by simpa using h1⟩
 .rw[List.getElem?_map]at h1
  cases e:xs[i]? with
  |none=>rw[e]at h1;cases h1
  |some x=>
   rw[e]at h1;cases h1;obtain⟨t,rfl⟩:=h3;exact .inr ⟨x,t,by simpa using h2,rfl⟩
theorem nT{ys:List V}{us:List Value}(r:Vals ys us):∀p:List Nat,(∀i∈p,i<ys.length)->Vals (p.map λi=>ys.getD i .non) (p.map λi=>us.getD i Value.none)
 |[],_=>.nil
 |i::p,h=>by
  refine .cons ?_ (nT r p λj hj=>h j (by simp[hj]));rcases yR r i with⟨h1,h2⟩|⟨y,u,h1,h2,h3⟩
  .have:=h i (by simp)
   rw[List.getElem?_eq_none_iff]at h1;omega
  .show RelV (ys.getD i .non) (us.getD i Value.none)
   rw[List.getD_eq_getElem?_getD,List.getD_eq_getElem?_getD,h1,h2];exact h3
section
variable{X:Cx}
theorem wU:cM X (.builtin "sorted") (Hr X.K X.A):=by
 intro pins s σ H xs us Q I r h;obtain⟨a,ys,ks,rfl,hq,hl,hu,⟨hkl,hks⟩,q⟩:=h;obtain⟨u,rfl,ru⟩:=vals1 r;cases ru;obtain⟨its,rv,pl,hz⟩:=I.list hq;have hlen:=rv.length;have hz2:64<=sizeLine:=by decide
 have kin:∀i,i<its.length->∃k,ks[i]? =some k/\ks.getD i []=k/\k∈ks:=λi hi=>by
  have:i<ks.length:=by omega
  exact⟨ks[i],by simp[this],by simp[this],List.getElem_mem _⟩
 have fin:∀p:Array Nat,gh its.length p->Up1 (λi=>(below ks (ks.getD i []):Int)) p its.length->∃v H',Inv X pins σ H' {s with heap:=sortedAll s.heap its (List.toArray (p.toList.map λi=>its.getD i Value.none))}/\RelV v (.ref (s.heap.objs.size+1))/\Q v H':=λp hp hu1=>by
  have hps:=hp.size;have hpl:∀i∈p.toList,i<ys.length:=λi hi=>by rw[hlen];exact List.mem_range.mp (List.Perm.mem_iff hp |>.mp hi)
  obtain⟨c,ec⟩:=sortedAll_at s.heap its (List.toArray (p.toList.map λi=>its.getD i Value.none));refine⟨.ref (s.heap.objs.size+1),upd H (s.heap.objs.size+1) (.lst (p.toList.map λi=>ys.getD i .non)),I.laid (t':=s.toks) (λb o e=>sortedAll_old e) (Nat.le_succ _) ?_,rfl,q p.toList (by rw[hlen];exact hp) ?_ _ (I.hok.fresh (Nat.le_succ _))⟩
  .refine⟨by rw[List.length_map];simp only[Array.length_toList];omega,p.toList.map λi=>its.getD i Value.none,c,nT rv _ hpl,?_⟩
   rw[ec]
  .rw[List.pairwise_iff_getElem]
   intro i j hi hj hij;have hj':j<p.size:=by simpa using hj
   have hi':i<p.size:=by simpa using hi
   have:=hu1 i j (by omega) (by omega);unfold rk at this;rw[Array.getD_eq_getD_getElem?,Array.getD_eq_getD_getElem?,getElem?_pos p i hi',getElem?_pos p j hj',Option.getD_some,Option.getD_some]at this;obtain⟨k,_,e2,e3⟩:=kin p[j] (by rw[←hlen];exact hpl _ (by simp));rw[Array.getElem_toList,Array.getElem_toList,lH (by rw[e2];exact e3)];exact decide_eq_false (by simp only at this;omega)
 rcases hks with hks|hks
 .refine rn (T:=.type "str") (ρ:=λi=>(below ks (ks.getD i []):Int)) pl.isList (by omega) (λh' ext v hv=>?_) rfl rfl (λh' ext i j hi hj Q' hQ'=>?_) λp hp hu1=>fin p hp hu1
  .obtain⟨i,hi,rfl⟩:=List.getElem_of_mem hv
   obtain⟨k,e1,_,_⟩:=kin i hi;obtain⟨x,_,e3⟩:=hks i k e1;obtain⟨u,h1,h2⟩:=rv.get e3;rw[List.getElem?_eq_getElem hi]at h1;cases h1;obtain⟨t,e⟩:=h2;rw[e];exact PySem.W.Looks.of_pure rfl
  .obtain⟨k1,e1,g1,m1⟩:=kin i hi
   obtain⟨k2,e2,g2,m2⟩:=kin j hj;obtain⟨x,rfl,x3⟩:=hks i k1 e1;obtain⟨y,rfl,y3⟩:=hks j k2 e2;obtain⟨u1,a1,t1,rfl⟩:=rv.get x3;obtain⟨u2,a2,t2,rfl⟩:=rv.get y3;rw[List.getD_eq_getElem?_getD,List.getD_eq_getElem?_getD,a1,a2];refine oneLt_str ?_;rw[g1,g2,←lH m1]at hQ';have e:ltS [x] [y]=decide (x.cps.toList<y.cps.toList):=by
    by_cases z:x=y
    .subst z;simp[ltS,xM]
    .simp[ltS,z]
   rwa[e]at hQ'
 .refine rn (T:=.type "list") (ρ:=λi=>(below ks (ks.getD i []):Int)) pl.isList (by omega) (λh' ext v hv=>?_) rfl rfl (λh' ext i j hi hj Q' hQ'=>?_) λp hp hu1=>fin p hp hu1
  .obtain⟨i,hi,rfl⟩:=List.getElem_of_mem hv
   obtain⟨k,e1,_,_⟩:=kin i hi;obtain⟨b,e3,hb⟩:=hks i k e1;obtain⟨u,h1,h2⟩:=rv.get e3;rw[List.getElem?_eq_getElem hi]at h1;cases h1;obtain⟨jts,_,pb,_⟩:=I.list hb;obtain⟨o,ho,hc,_⟩:=pb.isList;rw[show its[i]=Value.ref b from h2,←hc];exact(PySem.W.Looks.ld (ext _ _ ho)).andThen .now
  .obtain⟨k1,e1,g1,m1⟩:=kin i hi
   obtain⟨k2,e2,g2,m2⟩:=kin j hj;obtain⟨b1,x3,x4⟩:=hks i k1 e1;obtain⟨b2,y3,y4⟩:=hks j k2 e2;obtain⟨u1,a1,t1⟩:=rv.get x3;obtain⟨u2,a2,t2⟩:=rv.get y3;obtain⟨jt1,r1,p1,_⟩:=I.list x4;obtain⟨jt2,r2,p2,_⟩:=I.list y4;rw[List.getD_eq_getElem?_getD,List.getD_eq_getElem?_getD,a1,a2];rw[show u1=Value.ref b1 from t1,show u2=Value.ref b2 from t2];have x1:Heap.IsList h' b1 jt1.toArray:=by obtain⟨o,ho,z⟩:=p1.isList;exact⟨o,ext _ _ ho,z⟩
   have x2:Heap.IsList h' b2 jt2.toArray:=by obtain⟨o,ho,z⟩:=p2.isList;exact⟨o,ext _ _ ho,z⟩
   have l1:=r1.length;have l2:=r2.length;rw[List.length_map]at l1 l2;refine zV (xs:=k1) (ys:=k2) x1 x2 (Gs r1) (Gs r2) (by rw[List.size_toArray];omega) (by rw[List.size_toArray];omega) (by show X.A.units+1+1<cLine;omega) ?_;rw[g1,g2,←lH m1]at hQ';exact hQ'
end
section
variable{prog:Program}{w:World}{A:Around}{E:Value->Shared->Prop}{s:Shared}
theorem Je{vs:List Value}{ρ:Nat->Int}{T:Value}{Q:Value->Shared->Prop}(h64:vs.length<64)
  (hk:∀h':Heap,(∀b o,s.heap.get? b=some o->h'.get? b=some o)->∀v∈vs,Looks (model prog w) h' (typeOf v) T) (hT1:(T !=Value.type "tuple")=true) (hT2:(T==T)=true)
  (hlt:∀h':Heap,(∀b o,s.heap.get? b=some o->h'.get? b=some o)->∀i j,i<vs.length->j<vs.length->∀Q':Bool->Shared->Prop,Q' (decide (ρ i<ρ j)) {s with heap:=h'}->wpAny (model prog w) A.in1.in1 (oneLt' true (vs.getD i Value.none) (vs.getD j Value.none)) Q' (λ_ _=>False) {s with heap:=h'})
  (h:∀p:Array Nat,gh vs.length p->Up1 ρ p vs.length->∀(h':Heap)(c:Nat),(∀b o,s.heap.get? b=some o->h'.get? b=some o)->h'.get? s.heap.objs.size=some (seqObj "list" (List.toArray (p.toList.map λi=>vs.getD i Value.none)) c)->Q (.ref s.heap.objs.size) {s with heap:=h'}) :
  wpAny (model prog w) A.in1 (newList vs >>=λl=>holding [l] (call (.builtin "list.sort") [l] []) >>=λ_=>ret l) (λfin s'=>∃v,fin= .done (.ret v)/\Q v s') E s:=by
 have hz0:vs.length<=sizeLine:=by rw[sizeLine_eq];omega
 refine wpAny_bind (wpAny_newList ?_ (by rw[sizeLine_eq];omega))
 let a:=s.heap.objs.size
 let G2:Heap:=s.heap.push (seqObj "list" vs.toArray 0)
 have z2:G2.objs.size=s.heap.objs.size+1:=size_push' _ _;have hoL:G2.get? a=some (seqObj "list" vs.toArray 0):=Heap.get?_push_size _ rfl;show wpAny _ _ (holding _ _ >>=_) _ _ {s with heap:=G2};refine wpAny_bind (wpAny_holding (wpAny_call_entry slot_list_sort ⟨_,hoL,rfl⟩ entry_list_sort ?_ (args_list_sort _)));have keep2:∀b o,s.heap.get? b=some o->G2.get? b=some o:=λb o q=>Heap.get?_push_of_some _ q
 let G3:Heap:=G2.update a (Obj.mapSeq λ_=>#[])
 obtain⟨e1,ho1⟩:∃e1,G3.get? a=some (seqObj "list" #[] e1):=⟨_,get?_update_seq hoL λ_=>#[]⟩;have z3:G3.objs.size=s.heap.objs.size+1:=by show(G2.update _ _).objs.size=_;rw[Heap.size_update,z2]
 let G5:Heap:=(G3.push (seqObj "tuple" vs.toArray 0)).push (seqObj "list" #[] 0)
 have up5:∀b o,G3.get? b=some o->G5.get? b=some o:=λb o q=>Heap.get?_push_of_some _ (Heap.get?_push_of_some _ q);have keep5:∀b o,s.heap.get? b=some o->G5.get? b=some o:=λb o q=>by
  have hb:b<s.heap.objs.size:=Heap.lt_size q;refine up5 b o ?_;show(G2.update _ _).get? b=_;rw[Heap.get?_update_ne _ _ _ _ (Nat.ne_of_lt hb)];exact keep2 b o q
 have ho5:G5.get? a=some (seqObj "list" #[] e1):=up5 a _ ho1;rw[list_sort_plain];refine wpAny_bind (listItems_at hoL rfl ?_);refine wpAny_bind (listUpdate_at hoL rfl ?_ (by rw[List.size_toArray];exact hz0) (Nat.zero_le _));refine wpAny_bind (seqEpoch_at ho1 rfl ?_);refine wpAny_bind (wpAny_newTuple ?_ (by show vs.length<=_;exact hz0));refine wpAny_bind (wpAny_newList ?_ (Nat.zero_le _));refine wpAny_holding ?_;show wpAny (model prog w) A.in1.in1 _ _ _ {s with heap:=G5};dsimp only;have fin:∀(st':SortSt)(p:Array Nat),arrOf st'=p.map (kas_item (vs.toArray.zip vs.toArray))->failedOf st'=none->gh vs.length p->Up1 ρ p vs.length->
   wpAny (model prog w) A.in1.in1 (do
    let sorted:=(arrOf st').map (·.2)
    let touched:=(←seqEpoch a)!=e1
    Builtin.List.listUpdate (.ref a) λ_=>sorted
    if let some e:=failedOf st' then rule "list.sort.comparison-raised";throw e
    if touched then rule "list.sort.modified";raiseError "ValueError" "list modified during sort"
    ret .none) (λfin s'=>∃v,fin= .done (.ret v)/\wpAny (model prog w) A.in1 (ret (.ref a)) (λfin s'=>∃v,fin= .done (.ret v)/\Q v s') E s') E {s with heap:=G5}:=λst' p har hf hp hu=>by
  have hout:=kat_snds (vs:=vs) (ks:=vs) rfl har;dsimp only;refine wpAny_bind (seqEpoch_at ho5 rfl ?_);have hps:p.size=vs.length:=hp.size;refine wpAny_bind (listUpdate_at ho5 rfl ?_ (Nat.zero_le _) (by rw[hout];simp only[List.size_toArray,List.length_map,Array.length_toList];omega));rw[hf];simp only[bne_self_eq_false,Bool.false_eq_true,if_false];refine wpAny_pure ⟨_,rfl,wpAny_pure ⟨_,rfl,?_⟩⟩;rw[hout];refine h p hp hu _ _ (λb o q=>?_) (get?_update_seq ho5 _);rw[Heap.get?_update_ne _ _ _ _ (Nat.ne_of_lt (Heap.lt_size q))];exact keep5 b o q
 by_cases hn2:vs.toArray.size<2
 .rw[if_pos hn2,if_pos hn2]
  rw[List.size_toArray]at hn2;refine wpAny_bind (wpAny_pure ?_);rw[StateT.run_pure];refine wpAny_bind (wpAny_pure ?_);refine fin _ (List.toArray (List.range vs.length)) ?_ rfl (List.Perm.refl _) (λi j hij hj=>by rw[show i=j by omega];exact Int.le_refl _);have e:=kas_range (vs.toArray.zip vs.toArray);rw[show(vs.toArray.zip vs.toArray).size=vs.length by simp]at e;exact e.symm
 .rw[if_neg hn2,if_neg hn2]
  rw[List.size_toArray]at hn2;refine wpAny_bind (kas_kind (by omega) (hk G5 keep5) hT1 hT2 ?_);have ask:(kas_sort vs.length).kasWp (kas_ask prog w A.in1.in1 oneType' vs) (λp s'=>s'={s with heap:=G5}/\gh vs.length p/\Up1 ρ p vs.length) {s with heap:=G5}:=
   Tr.wp (λi j C hi hj hC=>hlt G5 keep5 i j hi hj C hC) (Ci (ρ:=ρ) (by omega))
  refine wpAny_bind (wpAny_mono (kat_run (Q:=λst' s'=>∃p:Array Nat,arrOf st'=p.map (kas_item (vs.toArray.zip vs.toArray))/\failedOf st'=none/\s'={s with heap:=G5}/\gh vs.length p/\Up1 ρ p vs.length) (E:=E)
   rfl (by omega) h64 (λp' st' s' a1 a2 a3 a4=>⟨p',a2,a3,a4⟩) ask) ?_ λ_ _ e=>e)
  rintro⟨⟨⟩,st'⟩ s' ⟨p,har,hf,rfl,hp,hu⟩;exact fin st' p har hf hp hu
theorem vH{x:Value}{Q:Value->Shared->Prop}(hc:∀E' (Q':List Value->Shared->Prop),(∀vs s1,wpAny (model prog w) A.in1 (newList vs >>=λl=>holding [l] (call (.builtin "list.sort") [l] []) >>=λ_=>ret l) (λfin s'=>∃v,fin= .done (.ret v)/\Q v s') E' s1->Q' vs s1)->wpAny (model prog w) A.in1 (collect x) Q' E' s) :
  wpAny (model prog w) A (call (.builtin "sorted") [x]) Q E s:=by
 refine Calls.call_function_entry kind_sorted plain_sorted entry_sorted (args_sorted1 _) ?_;unfold Builtin.«sorted»;refine wpAny_bind (m:=checkCount "sorted" 1 1 _) (wpAny_pure ?_);exact wpAny_bind (hc _ _ λvs s1 h=>h)
end
section
variable{X:Cx}
theorem vm{pins:List (Addr×Obj)}{σ:L2.St}{H:Hp}{s:Shared}{xs:List Str}{its:List Value}{E:Value->Shared->Prop}{Q:VK}(I:Inv X pins σ H s)(rv:Vals (xs.map V.str) its)(hl:xs.length<64)
  (q:∀p:List Nat,List.Perm p (List.range xs.length)->List.Pairwise (λi j=>ltS [xs.getD j ""] [xs.getD i ""]=false) p->∀l,H l=none->Q (.ref l) (upd H l (.lst (p.map λi=>V.str (xs.getD i ""))))) :
  wpAny (model X.prog X.w) X.A.in1 (newList its >>=λl=>PySem.holding [l] (call (.builtin "list.sort") [l] []) >>=λ_=>ret l) (λfin s'=>∃v,fin= .done (.ret v)/\EP X pins σ Q v s') E s:=by
 let ks:List (List Str):=xs.map λx=>[x]
 have hlen:xs.length=its.length:=by have:=rv.length;simpa using this
 have hkl:ks.length=xs.length:=List.length_map _;have hz2:64<=sizeLine:=by decide
 have kat:∀i,i<its.length->ks.getD i []=[xs.getD i ""]/\[xs.getD i ""]∈ks/\∃t,its[i]? =some (.str (xs.getD i "") t):=λi hi=>by
  have hx:i<xs.length:=by omega
  have e1:xs.getD i ""=xs[i]:=by simp[hx]
  refine⟨by simp[ks,hx],by rw[e1];exact List.mem_map.mpr ⟨xs[i],List.getElem_mem _,rfl⟩,?_⟩;obtain⟨u,h1,t,h2⟩:=rv.get (i:=i) (x:=V.str xs[i]) (by simp[hx]);exact⟨t,by rw[h1,h2,e1]⟩
 refine Je (T:=.type "str") (ρ:=λi=>(below ks (ks.getD i []):Int)) (by omega) (λh' ext v hv=>?_) rfl rfl (λh' ext i j hi hj Q' hQ'=>?_) λp hp hu1 h' c hkp ho=>?_
 .obtain⟨i,hi,rfl⟩:=List.getElem_of_mem hv
  obtain⟨_,_,t,e⟩:=kat i hi;rw[List.getElem?_eq_getElem hi]at e;rw[Option.some.inj e];exact PySem.W.Looks.of_pure rfl
 .obtain⟨g1,m1,t1,a1⟩:=kat i hi
  obtain⟨g2,m2,t2,a2⟩:=kat j hj;rw[List.getD_eq_getElem?_getD,List.getD_eq_getElem?_getD,a1,a2];refine oneLt_str ?_;rw[g1,g2,←lH m1]at hQ';have e:∀x y:Str,ltS [x] [y]=decide (x.cps.toList<y.cps.toList):=λx y=>by
   by_cases z:x=y
   .subst z;simp[ltS,xM]
   .simp[ltS,z]
  rwa[e]at hQ'
 .have hpl:∀i∈p.toList,i<its.length:=λi hi=>List.mem_range.mp (List.Perm.mem_iff hp |>.mp hi)
  have hps:=hp.size;refine⟨.ref s.heap.objs.size,upd H s.heap.objs.size (.lst (p.toList.map λi=>V.str (xs.getD i ""))),I.laid (t':=s.toks) hkp (Nat.le_refl _) ?_,rfl,q p.toList (by rw[hlen];exact hp) ?_ _ (I.hok.fresh (Nat.le_refl _))⟩
  .refine⟨by rw[List.length_map];simp only[Array.length_toList];omega,p.toList.map λi=>its.getD i Value.none,c,?_,ho⟩
   have:=nT rv p.toList λi hi=>by rw[List.length_map,hlen];exact hpl i hi
   have e2:(p.toList.map λi=>(xs.map V.str).getD i V.non)=p.toList.map λi=>V.str (xs.getD i ""):=List.map_congr_left λi hi=>by
    have:i<xs.length:=by rw[hlen];exact hpl i hi
    simp[this]
   rw[e2]at this;exact this
  .rw[List.pairwise_iff_getElem]
   intro i j hi hj hij;have hj':j<p.size:=by simpa using hj
   have hi':i<p.size:=by simpa using hi
   have:=hu1 i j (by omega) (by omega);unfold rk at this;rw[Array.getD_eq_getD_getElem?,Array.getD_eq_getD_getElem?,getElem?_pos p i hi',getElem?_pos p j hj',Option.getD_some,Option.getD_some]at this;obtain⟨e2,e3,_⟩:=kat p[j] (hpl _ (by simp));obtain⟨e4,_,_⟩:=kat p[i] (hpl _ (by simp));rw[Array.getElem_toList,Array.getElem_toList,lH e3,←e2,←e4];exact decide_eq_false (by simp only at this;omega)
def Hw(K:PySem.W.Frag):List V->Hp->VK->Prop:=λxs H Q=>∃(a:Addr)(ys:List Str),xs=[.ref a]/\SqT K H a (ys.map V.str)/\ys.length<64/\
 ∀p:List Nat,List.Perm p (List.range ys.length)->List.Pairwise (λi j=>ltS [ys.getD j ""] [ys.getD i ""]=false) p->∀l,H l=none->Q (.ref l) (upd H l (.lst (p.map λi=>V.str (ys.getD i ""))))
theorem xj:cM X (.builtin "sorted") (Hw X.K):=by
 intro pins s σ H xs us Q I r h;obtain⟨a,ys,rfl,hq,hl,q⟩:=h;obtain⟨u,rfl,ru⟩:=vals1 r;cases ru;obtain⟨its,rv,⟨o,ho,hc,n,hd⟩,hz⟩:=I.tuple hq;have hz2:its.toArray.size<=sizeLine:=by
  have h1:=rv.length;have h2:64<=sizeLine:=by decide
  simp at h1⊢;omega
 refine vH λE' Q' hQ'=>wpAny_collect_seq a (.inr rfl) ho hc hd (λh' hk=>?_) hz2;rw[List.toList_toArray];exact hQ' _ _ (vm (I.kept (t':=s.toks) hk) rv hl q)
end
end Jb
namespace PySem
open PySem.W
section
variable{prog:Program}{w:World}{A:Around}{E:Value->Shared->Prop}{s:Shared}{T:String}{r d:Addr}{n:Nat}{P:Nat->Value->Prop}{OK:Heap->Prop}
theorem collect_src{Q:List Value->Shared->Prop}(K:KdlSrc prog w T r d n P OK)(hh:A.handled=none)(hok:OK s.heap)(hn:n<=sizeLine)
  (hQ:∀h' tk acc,(∀b o,s.heap.get? b=some o->h'.get? b=some o)->ItemsOf P acc n->Q acc.toList {s with heap:=h',toks:=tk}):wpAny (model prog w) A (collect (.ref r)) Q E s:=by
 unfold collect;refine wpAny_bind (wpAny_runValue (codeAny_builtin F.entry_proto_collect ?_));rw[Around.under_plainId F.plain_proto_collect _];show wpAny _ A.in1 (newList [] >>=λl=>again (.builtin "list.__iadd__" ⟨[l,.ref r],[]⟩)) _ _ s;refine wpAny_bind (wpAny_newObj_type ?_);refine wpAny_pure ⟨plainId_quiet F.plain_list_iadd _,codeAny_builtin F.entry_list_iadd ?_⟩;rw[Around.under_plainId F.plain_list_iadd _];show wpAny _ A.in1 (Builtin.List.listExtendWith (.ref s.heap.objs.size) (.ref r) (.ref s.heap.objs.size)) _ _ _;have hS:(s.heap.push {cls:=.type "list",data:=.seq ([]:List Value).toArray}).get? s.heap.objs.size=some {cls:=.type "list",data:=.seq #[] 0}:=Heap.get?_push_size _ rfl;have hlt:=K.there _ hok;have fin':∀s',(∃h' tk acc c,s'={s with heap:=h',toks:=tk}/\(∀b o,s.heap.get? b=some o->h'.get? b=some o)/\h'.get? s.heap.objs.size=some {cls:=.type "list",dict:=none,data:=.seq acc c,slots:=#[]}/\ItemsOf P acc n)->wpAny (model prog w) A (match Value.ref s.heap.objs.size with
   |Value.ref a=>do
    match(←load a).data with
     |Data.seq xs _=>pure xs.toList
     |_=>unsupported "internal:collect"
   |_=>unsupported "internal:collect") Q E s':=by
  rintro s' ⟨h',tk,acc,c,rfl,hk,hS',ha⟩;show wpAny _ A (load s.heap.objs.size >>=_) _ _ _;refine wpAny_bind (wpAny_load hS' ?_);exact wpAny_pure (hQ h' tk acc hk ha)
 refine wpAny_mono (kdl_extend (A:=A) (R:=λr s'=>r= .ok (.ret (.ref s.heap.objs.size))/\∃h' tk acc c,s'={s with heap:=h',toks:=tk}/\(∀b o,s.heap.get? b=some o->h'.get? b=some o)/\h'.get? s.heap.objs.size=some {cls:=.type "list",dict:=none,data:=.seq acc c,slots:=#[]}/\ItemsOf P acc n)
  (s:={s with heap:=s.heap.push {cls:=.type "list",data:=.seq ([]:List Value).toArray}}) K hh (K.keep _ _ hok λb _ o e=>Heap.get?_push_of_some _ e) s.heap.objs.size (Nat.ne_of_gt hlt.1) (Nat.ne_of_gt hlt.2) _ 0 hS (λh' tk acc c hk hS' ha=>⟨rfl,h',tk,acc,c,rfl,λb o e=>hk b o (Nat.ne_of_lt (Heap.lt_size e)) (Heap.get?_push_of_some _ e),hS',ha⟩) hn) (λfin s' h=>?_) (λe s' h=>?_)
 .cases fin with
  |done f=>
   obtain⟨e,h⟩:=h;cases e;exact fin' _ h
  |again c'=>exact⟨h.1,codeAny_mono h.2 λr s'' hr=>by obtain⟨rfl,h⟩:=hr;exact fin' _ h⟩
 .exact absurd h.1 (by simp)
end
end PySem
namespace Jb
open PySem PySem.Spec PyProof.Rows L2
section
variable{X:Cx}
def HD:List V->Hp->VK->Prop:=λxs H Q=>∃(a:Addr)(kvs:List (Key×V))(ys:List Str),xs=[.ref a]/\Rd H a (.dK kvs)/\kvs.map (·.1)=ys.map Sum.inr/\ys.length<64/\
 ∀p:List Nat,List.Perm p (List.range ys.length)->List.Pairwise (λi j=>ltS [ys.getD j ""] [ys.getD i ""]=false) p->∀l,H l=none->Q (.ref l) (upd H l (.lst (p.map λi=>V.str (ys.getD i ""))))
theorem Cz:∀{xs:List V}{us:List Value},us.length=xs.length->(∀(i:Nat)(x:V)(u:Value),xs[i]? =some x->us[i]? =some u->RelV x u)->Vals xs us
 |[],[],_,_=>.nil
 |[],_::_,h,_=>by simp at h
 |_::_,[],h,_=>by simp at h
 |x::xs,u::us,h,hr=>.cons (hr 0 x u rfl rfl) (Cz (by simpa using h) λi y v h1 h2=>hr (i+1) y v (by simpa using h1) (by simpa using h2))
theorem wW(hc:X.calm=true):cM X (.builtin "sorted") HD:=by
 intro pins s σ H xs us Q I r h;obtain⟨a,kvs,ys,rfl,hq,hy,hl,q⟩:=h;obtain⟨u,rfl,ru⟩:=vals1 r;cases ru;obtain⟨hz,hd,vs,rel,dd⟩:=sZ I.hok hq;obtain⟨ep,ob,es,g,x,d,r1,r2,r3⟩:=dd.dictAt;have dd':s.heap.DictAt (dG X.prog X.w) a vs ep:=⟨ob,es,g,x,d,r1,r2,r3⟩;have hvl:kvs.length=vs.length:=rel.length;have hyl:kvs.length=ys.length:=by have:=congrArg List.length hy;simpa using this
 refine vH λE' Q' hQ'=>PySem.collect_src (PySem.W.kdl_dict (ep:=ep) (kvs:=vs) hd) (I.ok.hd hc) dd' (by omega) λh' tk acc hk ha=>?_;refine hQ' _ _ (vm (I.kept (t':=tk) hk) (Cz ?_ λi x u h1 h2=>?_) hl q)
 .rw[Array.length_toList,List.length_map,ha.1];omega
 .rw[List.getElem?_map]at h1
  cases hi:ys[i]? with
  |none=>rw[hi]at h1;cases h1
  |some y=>
   rw[hi]at h1;cases h1;obtain⟨k,v,e1,e2⟩:=ha.2 i u (by rw[←Array.getElem?_toList];exact h2);have hyk:(kvs.map (·.1))[i]? =some (Sum.inr y):=by rw[hy,List.getElem?_map,hi];rfl
   rw[List.getElem?_map]at hyk;cases hki:kvs[i]? with
   |none=>rw[hki]at hyk;cases hyk
   |some kv=>
    rw[hki]at hyk;have ek:kv.1=Sum.inr y:=Option.some.inj hyk;have:=(vq rel hki e1).1;obtain rfl:k=Sum.inr y:=by rw[←ek];exact this.symm
    have h3:uE (Sum.inr y) u=true:=e2;rcases cR h3 with⟨j,t,z,_⟩|⟨x',t,z,rfl⟩
    .cases z
    .cases z;exact⟨t,rfl⟩
end
def inL(k:List Str):List (List Str)->List (List Str)
 |[]=>[k]
 |a::r=>if ltS a k=true then a::inL k r else k::a::r
def tQ(l:List (List Str)):List (List Str):=l.foldr inL []
abbrev RiL(l:List (List Str)):Prop:=List.Pairwise (λa b=>ltS b a=false) l
theorem tU(k:List Str):∀l,List.Perm (inL k l) (k::l)
 |[]=>.refl _
 |a::r=>by
  unfold inL;split
  .exact((tU k r).cons a).trans (.swap k a r)
  .exact .refl _
theorem ji:∀l,List.Perm (tQ l) l
 |[]=>.refl _
 |a::r=>(tU a _).trans ((ji r).cons a)
theorem Gq{k:List Str}:∀{l},RiL l->RiL (inL k l)
 |[],_=>by simp[inL]
 |a::r,h=>by
  obtain⟨h1,h2⟩:=List.pairwise_cons.mp h;unfold inL;split
  .rename_i c
   refine List.pairwise_cons.mpr ⟨λb hb=>?_,Gq h2⟩;rcases List.mem_cons.mp ((tU k r).mem_iff.mp hb)with rfl|hb
   .cases e:ltS b a with
    |false=>rfl
    |true=>have:=mC _ _ _ c e;rw[nR]at this;cases this
   .exact h1 b hb
  .rename_i c
   have c:ltS a k=false:=by simpa using c
   refine List.pairwise_cons.mpr ⟨λb hb=>?_,h⟩;rcases List.mem_cons.mp hb with rfl|hb
   .exact c
   .cases e:ltS b k with
    |false=>rfl
    |true=>
     have:=CW e c;rw[h1 b hb]at this;cases this
theorem sI:∀l,RiL (tQ l)
 |[]=>.nil
 |a::r=>Gq (sI r)
theorem wO:∀{l m:List (List Str)},List.Perm l m->RiL l->RiL m->l=m
 |[],m,h,_,_=>h.nil_eq
 |a::r,[],h,_,_=>by have:=h.length_eq;simp at this
 |a::r,b::q,h,h1,h2=>by
  obtain⟨x1,x2⟩:=List.pairwise_cons.mp h1;obtain⟨y1,y2⟩:=List.pairwise_cons.mp h2;have e:a=b:=by
   rcases List.mem_cons.mp (h.mem_iff.mp (List.mem_cons_self (a:=a) (l:=r)))with z|z
   .exact z
   .rcases List.mem_cons.mp (h.mem_iff.mpr (List.mem_cons_self (a:=b) (l:=q)))with w|w
    .exact w.symm
    .exact pX a b (y1 a z) (x1 b w)
  subst e;rw[wO (List.Perm.cons_inv h) x2 y2]
def strsOf:List D->Option (List Str)
 |[]=>some []
 |.str x::r=>(strsOf r).map λt=>x::t
 |_=>none
def yw:List D->Option (List (List Str))
 |[]=>some []
 |.str x::r=>(yw r).map λt=>[x]::t
 |_=>none
def lstK(m:Mk):List D->Option (List (List Str))
 |[]=>some []
 |.lst m' es::r=>if m'=m then(strsOf es).bind λk=>(lstK m r).map λt=>k::t else none
 |_=>none
def fS(k:List Str):D:=.str (k.headD "")
def fL(m:Mk)(k:List Str):D:=.lst m (k.map D.str)
theorem qm:∀{ds:List D}{k:List Str},strsOf ds=some k->ds=k.map D.str
 |[],k,h=>by cases h;rfl
 |d::r,k,h=>by
  cases d<;>simp only[strsOf]at h<;>try cases h
  cases e:strsOf r with
  |none=>rw[e]at h;cases h
  |some t=>rw[e]at h;cases h;rw[qm e];rfl
theorem Ck:∀{ds:List D}{ks:List (List Str)},yw ds=some ks->ds=ks.map fS/\∀k∈ks,∃x,k=[x]
 |[],k,h=>by cases h;exact⟨rfl,by simp⟩
 |d::r,k,h=>by
  cases d<;>simp only[yw]at h<;>try cases h
  cases e:yw r with
  |none=>rw[e]at h;cases h
  |some t=>
   rw[e]at h;cases h;obtain⟨h1,h2⟩:=Ck e;exact⟨by rw[h1];rfl,λk hk=>(List.mem_cons.mp hk).elim (λz=>⟨_,z⟩) (h2 k)⟩
theorem BR{m:Mk}:∀{ds:List D}{ks:List (List Str)},lstK m ds=some ks->ds=ks.map (fL m)
 |[],k,h=>by cases h;rfl
 |d::r,k,h=>by
  cases d<;>simp only[lstK]at h<;>try cases h
  split at h
  .rename_i hm
   subst hm;rename_i es;cases e1:strsOf es with
   |none=>rw[e1]at h;cases h
   |some k1=>
    rw[e1]at h;cases e:lstK ‹_› r with
    |none=>simp[e]at h
    |some t=>
     have h:k1::t=k:=by simpa[e]using h
     subst h;rw[BR e,qm e1];rfl
  .cases h
def je:List D->Option D
 |[.lst _ ds]=>if ds.length<64 then(match yw ds with
  |some ks=>some (.lst .own ((tQ ks).map fS))
  |none=>match ds with
   |.lst m _::_=>(lstK m ds).map λks=>.lst .own ((tQ ks).map (fL m))
   |_=>none)else none
 |_=>none
section
variable{ι:Type}{X:ι->Cx}{G:Gc}{ob:Nat->Bool}
theorem aF.perm{H:Hp}{W:Wn}{zs zs':List (D×V)}(h:List.Perm zs zs'):∀{M:List Addr},aF G H W (zs.map (·.1)) (zs.map (·.2)) M->∃M',List.Perm M' M/\aF G H W (zs'.map (·.1)) (zs'.map (·.2)) M':=by
 induction h with
 |nil=>exact λ{M} r=>⟨M,.refl _,r⟩
 |cons x _ ih=>
  intro M r;rw[List.map_cons,List.map_cons]at r;obtain⟨y,ys,A,B,e,rfl,r1,r2⟩:=r.inv;cases e;obtain⟨B',p,r3⟩:=ih r2;exact⟨A++B',p.append_left A,.cons r1 r3⟩
 |swap x y l=>
  intro M r;simp only[List.map_cons]at r;obtain⟨v,vs,A,B,e,rfl,r1,r2⟩:=r.inv;cases e;obtain⟨v,vs,C,E,e,rfl,r3,r4⟩:=r2.inv;cases e;refine⟨C++(A++E),?_,.cons r3 (.cons r1 r4)⟩;rw[←List.append_assoc,←List.append_assoc];exact List.perm_append_comm.append_right E
 |trans _ _ ih1 ih2=>
  intro M r;obtain⟨M1,p1,r1⟩:=ih1 r;obtain⟨M2,p2,r2⟩:=ih2 r1;exact⟨M2,p2.trans p1,r2⟩
theorem nO{α:Type}(l:List α)(z:α):(List.range l.length).map (λi=>l.getD i z)=l:=by
 apply List.ext_getElem
 .simp
 .intro i h1 h2
  simp[h2]
theorem FZ{α β:Type}{f:α->β}{l:List α}{z:α}{y:β}{p:List Nat}(h:∀i∈p,i<l.length):p.map (λi=>(l.map f).getD i y)=(p.map λi=>l.getD i z).map f:=by
 rw[List.map_map];refine List.map_congr_left λi hi=>?_;have:=h i hi;simp[this]
theorem tB{H:Hp}{W:Wn}{f:List Str->D}{ks:List (List Str)}{ys:List V}{M:List Addr}{p:List Nat}(r:aF G H W (ks.map f) ys M)(hp:List.Perm p (List.range ys.length))(hw:List.Pairwise (λi j=>ltS (ks.getD j []) (ks.getD i [])=false) p):∃M',List.Perm M' M/\aF G H W ((tQ ks).map f) (p.map λi=>ys.getD i .non) M':=by
 have hl:=r.length;rw[List.length_map]at hl;have hin:∀i∈p,i<ks.length:=λi hi=>by rw[hl];exact List.mem_range.mp (hp.mem_iff.mp hi)
 have e1:p.map (λi=>ks.getD i [])=tQ ks:=by
  refine wO ?_ (List.pairwise_map.mpr hw) (sI ks);have:List.Perm (p.map λi=>ks.getD i []) ((List.range ks.length).map λi=>ks.getD i []):=by rw[hl];exact hp.map _
  rw[nO]at this;exact this.trans (ji ks).symm
 let g:Nat->D×V:=λi=>((ks.map f).getD i .non,ys.getD i .non)
 have hg:((List.range ys.length).map g).map (·.1)=ks.map f:=by
  rw[List.map_map,←hl];have:=nO (ks.map f) D.non;rwa[List.length_map]at this
 have hg2:((List.range ys.length).map g).map (·.2)=ys:=by rw[List.map_map];exact nO ys V.non
 obtain⟨M',p1,r1⟩:=aF.perm (hp.map g).symm (M:=M) (by rw[hg,hg2];exact r);refine⟨M',p1,?_⟩;rw[List.map_map,List.map_map]at r1;rw[←e1,←FZ (y:=D.non) hin];exact r1
theorem nU{H:Hp}{W:Wn}{ds:List D}{xs:List V}{M L0:List Addr}{Q:VK}{p:Addr}(hr:aF G H W ds xs M)(s:∀a∈M,a∈L0)(nd:M.Nodup)(hn:∀a∈L0,W.tmp a)(hp:H p=none)(q:Done G H W L0 (.lst .own ds) Q):Q (.ref p) (upd H p (.lst xs)):=by
 have sm:Same H (upd H p (.lst xs)):=Same.new hp;have np:p∉M:=λz=>by obtain⟨o,ho,_⟩:=hr.dom p z;rw[hp]at ho;cases ho
 refine q (.ref p) _ (p::M) sm ?_ (λa ha=>(List.mem_cons.mp ha).elim (λz=>.inr (by rw[z];exact hp)) λz=>.inl (s a z)) (List.nodup_cons.mpr ⟨np,nd⟩);rw[Rep];exact⟨p,xs,M,rfl,hr.up ⟨sm,λb u hb f=>⟨λz=>z.elim (λz=>(List.mem_cons.mp z).elim (λz=>by rw[z,hp]at hb;cases hb) λz=>f.1 (hn b (s b z)).1) λz=>f.1 z.1,f.2⟩,λ_ _ _ f=>f⟩,bc,rfl⟩
theorem Fd{H:Hp}{W:Wn}{ks:List (List Str)}{ys:List V}{M:List Addr}(r:aF G H W (ks.map fS) ys M)(hx:∀k∈ks,∃x,k=[x]):Nv G.K H ys ks:=by
 refine⟨by have:=r.length;rwa[List.length_map]at this,.inl λi k e=>?_⟩;obtain⟨x,rfl⟩:=hx k (List.mem_of_getElem? e);obtain⟨y,N,h1,h2,_⟩:=r.get (j:=i) (d:=fS [x]) (by rw[List.getElem?_map,e];rfl);exact⟨x,rfl,by rw[h1,(bD h2).1];rfl⟩
theorem uG{H:Hp}{W:Wn}:∀{k:List Str}{xs:List V}{M:List Addr},aF G H W (k.map D.str) xs M->xs=k.map V.str
 |[],xs,M,r=>r.inv0.1
 |x::k,xs,M,r=>by
  obtain⟨y,ys,A,B,rfl,_,r1,r2⟩:=r.inv;rw[(bD r1).1,uG r2];rfl
theorem Ie{H:Hp}{W:Wn}{m:Mk}{ks:List (List Str)}{ys:List V}{M:List Addr}(r:aF G H W (ks.map (fL m)) ys M):Nv G.K H ys ks:=by
 refine⟨by have:=r.length;rwa[List.length_map]at this,.inr λi k e=>?_⟩;obtain⟨y,N,h1,h2,_⟩:=r.get (j:=i) (d:=fL m k) (by rw[List.getElem?_map,e];rfl);unfold fL at h2;rw[Rep]at h2;obtain⟨b,xs,M1,rfl,h3,h4⟩:=h2;rw[uG h3]at h4;exact⟨b,h1,h4.sq⟩
theorem Al(A:Around)(hA:∀c,(X c).A=A)(hu:A.units+2<cLine)(hK:∀c,(X c).K=G.K:=by intro _;rfl):CaB X G (.builtin "sorted") je:=⟨Hr G.K A,λc=>by rw[←hK c,←hA c];exact wU,λds d e xs H W L0 r nd hn w Q q=>by
 unfold je at e;split at e
 .split at e
  .rename_i hl
   obtain⟨x,rfl,rx⟩:=r.inv1;rw[Rep]at rx;obtain⟨a,ys,M,rfl,hr,hs⟩:=rx;have hlen:=hr.length;split at e
   .rename_i ks hks
    cases e;obtain⟨h1,h2⟩:=Ck hks;rw[h1]at hr;refine⟨a,ys,ks,rfl,hs.sq,by omega,hu,Fd hr h2,λp hp hw l hl'=>?_⟩;obtain⟨M',p1,r1⟩:=tB hr hp hw;exact nU r1 (λb hb=>hs.sub.subset (p1.mem_iff.mp hb)) (p1.nodup_iff.mpr (hs.sub.nodup nd)) hn hl' q
   .split at e
    .rename_i m es rr hks
     cases e2:lstK m (D.lst m es::rr)with
     |none=>rw[e2]at e;cases e
     |some ks=>
      rw[e2]at e;cases e;rw[BR e2]at hr;refine⟨a,ys,ks,rfl,hs.sq,by omega,hu,Ie hr,λp hp hw l hl'=>?_⟩;obtain⟨M',p1,r1⟩:=tB hr hp hw;exact nU r1 (λb hb=>hs.sub.subset (p1.mem_iff.mp hb)) (p1.nodup_iff.mpr (hs.sub.nodup nd)) hn hl' q
    .cases e
  .cases e
 .cases e⟩
end
section
variable{ι:Type}{X:ι->Cx}{G:Gc}{ob:Nat->Bool}
def HX:D->Option (List D)
 |.lst _ ds=>some ds
 |.tup ds=>some ds
 |_=>none
def Nj(x y:D):Option D:=(HX y).bind λds=>if fX x=true/\gG ds=true/\dp (dt x)<=60/\dpL (dtL ds)<=60 then some (.bl ((dtL ds).any λd=>eqD d (dt x)))else none
end
theorem oF{env:Env}{x:Str}:∀{names:List (Str×NameKind)},(names.lookup x=some .cell∨names.lookup x=some .free)->(names.map λ(n,k)=>if(k==NameKind.free&&env.scope.kind== .function&&env.kindOf n==some .cell)then(n,NameKind.cell)else(n,k)).lookup x=some .cell∨(names.map λ(n,k)=>if(k==NameKind.free&&env.scope.kind== .function&&env.kindOf n==some .cell)then(n,NameKind.cell)else(n,k)).lookup x=some .free
 |[],h=>by simp at h
 |(n,k)::r,h=>by
  rw[List.map_cons];by_cases e:x=n
  .subst e
   have h:k= .cell∨k= .free:=by simpa using h
   dsimp only;split
   .exact .inl (by simp)
   .rcases h with h|h<;>subst h
    .exact .inl (by simp)
    .exact .inr (by simp)
  .have hne:(x==n)=false:=by simpa using e
   rw[List.lookup_cons,hne]at h;have ih:=oF (env:=env) h;dsimp only;split<;>(rw[List.lookup_cons,hne];exact ih)
theorem cQ.rel{sc:Scope}{env:Env}{N N':List Str}{scope:Scope}{cap:List (Option Nat)}(O:cQ sc N N' scope cap):cQ (relabel sc env) N N' scope cap:=⟨O.kind,O.nocell,O.nm,λy hy hk=>oF (O.free y hy hk),O.len,O.cap⟩
section
variable{ι:Type}{X:ι->Cx}{G:Gc}{ob:Nat->Bool}
def zq:List D->Option D
 |[]=>some (.dct .own [] [])
 |_=>none
theorem JF:CaV G (λxs H Q=>∀p,H p=none->Q (.ref p) (upd H p (.dK []))) zq:=λds d e xs H W L0 r nd hn w Q q=>by
 unfold zq at e;split at e
 .cases e
  intro p hp;have sm:Same H (upd H p (.dK [])):=Same.new hp;refine q (.ref p) _ [p] sm ?_ (λa ha=>.inr (by rw[List.mem_singleton.mp ha];exact hp)) (List.nodup_cons.mpr ⟨by simp,List.nodup_nil⟩);rw[Rep];exact⟨p,[],[],rfl,⟨rfl,List.nodup_nil⟩,.nil,bc,rfl⟩
 .cases e
theorem CT{pos:Pos}:PV X G ob (.Dict [] [] pos) (eAp zq aJ):=⟨_,λc=>GR,vy JF Ik⟩
end
def qU:List Key->Option (List Str)
 |[]=>some []
 |.inr x::r=>(qU r).map (x::·)
 |_=>none
theorem yK:∀{ks:List Key}{ys:List Str},qU ks=some ys->ks=ys.map Sum.inr
 |[],ys,h=>by cases h;rfl
 |.inr x::r,ys,h=>by
  simp only[qU,Option.map_eq_some_iff]at h;obtain⟨t,h1,rfl⟩:=h;rw[yK h1];rfl
 |.inl _::r,ys,h=>by simp[qU]at h
def FN(ys:List Str):List Str:=(tQ (ys.map λy=>[y])).map λk=>k.headD ""
def bQ:List D->Option D
 |[.tup ds]=>if ds.length<64 then(strsOf ds).map λys=>.lst .own ((FN ys).map D.str)else none
 |[.dct m ks _]=>if(m== .scr)=false/\ks.length<64 then(qU ks).map λys=>.lst .own ((FN ys).map D.str)else none
 |ds=>je ds
section
variable{ι:Type}{X:ι->Cx}{G:Gc}{ob:Nat->Bool}
theorem zm{H:Hp}{W:Wn}:∀ys:List Str,aF G H W (ys.map D.str) (ys.map V.str) []
 |[]=>.nil
 |x::r=>aF.cons (M:=[]) (M':=[]) wz (zm r)
theorem BK{H:Hp}{W:Wn}{L0:List Addr}{ys:List Str}{p:List Nat}{l:Addr}{Q:VK}(hp:List.Perm p (List.range ys.length))(hw:List.Pairwise (λi j=>ltS [ys.getD j ""] [ys.getD i ""]=false) p)(hn:∀a∈L0,W.tmp a)(hl:H l=none)(q:Done G H W L0 (.lst .own ((FN ys).map D.str)) Q):Q (.ref l) (upd H l (.lst (p.map λi=>V.str (ys.getD i "")))):=by
 have hi:∀i∈p,i<ys.length:=λi h=>List.mem_range.mp (hp.mem_iff.mp h);have r0:aF G H W ((ys.map λy=>[y]).map fS) (ys.map V.str) []:=by
  rw[List.map_map];exact zm ys
 have hw2:List.Pairwise (λi j=>ltS ((ys.map λy=>[y]).getD j []) ((ys.map λy=>[y]).getD i [])=false) p:=by
  refine List.Pairwise.imp_of_mem (λ{i j} h1 h2 h=>?_) hw;have e:∀k,k∈p->(ys.map λy=>[y]).getD k []=[ys.getD k ""]:=λk hk=>by simp[hi k hk]
  rw[e i h1,e j h2];exact h
 obtain⟨M',p1,r1⟩:=tB r0 (by rw[List.length_map];exact hp) hw2;have e1:(tQ (ys.map λy=>[y])).map fS=(FN ys).map D.str:=by rw[FN,List.map_map];rfl
 have e2:(p.map λi=>(ys.map V.str).getD i V.non)=p.map λi=>V.str (ys.getD i ""):=List.map_congr_left λi h=>by simp[hi i h]
 rw[e1,e2]at r1;have e3:M'=[]:=p1.eq_nil;subst e3;exact nU r1 (λa ha=>by cases ha) List.nodup_nil hn hl q
theorem gn(A:Around)(hA:∀c,(X c).A=A)(hu:A.units+2<cLine)(hc:∀c,(X c).calm=true)(hK:∀c,(X c).K=G.K:=by intro _;rfl):CaB X G (.builtin "sorted") bQ:=by
 obtain⟨rL,c1,c2⟩:=(Al A hA hu hK:CaB X G (.builtin "sorted") je);refine⟨λxs H Q=>rL xs H Q∨(Hw G.K xs H Q∨HD xs H Q),λc=>cM.or (c1 c) (cM.or (by rw[←hK c];exact xj) (wW (hc c))),λds d e xs H W L0 r nd hn w Q q=>?_⟩;unfold bQ at e;split at e
 .split at e
  .rename_i ds hl
   cases hs:strsOf ds with
   |none=>rw[hs]at e;cases e
   |some ys=>
    rw[hs]at e;cases e;rw[qm hs]at r hl;obtain⟨x,rfl,rx⟩:=r.inv1;rw[Rep]at rx;obtain⟨a,vs,rfl,ht,hr⟩:=rx;rw[uG hr]at ht;exact .inr (.inl ⟨a,ys,rfl,SqT.of ht,by simpa using hl,λp hp hw l hl'=>BK hp hw hn hl' q⟩)
  .cases e
 .split at e
  .rename_i m ks es hm
   cases hs:qU ks with
   |none=>rw[hs]at e;cases e
   |some ys=>
    rw[hs]at e;cases e;obtain⟨x,rfl,rx⟩:=r.inv1;rw[Rep]at rx;obtain⟨a,kvs,M,rfl,⟨h1,h2⟩,hr,hst⟩:=rx;have hk:=yK hs;exact .inr (.inr ⟨a,kvs,ys,rfl,.inl (hst.at2 hm.1),h1.trans hk,by have:=hm.2;rw[hk]at this;simpa using this,λp hp hw l hl'=>BK hp hw hn hl' q⟩)
  .cases e
 .exact .inl (c2 ds d e xs H W L0 r nd hn w Q q)
end
section
variable{ι:Type}{X:ι->Cx}{G:Gc}{ob:Nat->Bool}
def nq:List D->Option D
 |[.tup ds]=>if ds.length<=50000 then(rK ds).map λes=>.dct .own (aX [] [] es).1 (aX [] [] es).2 else none
 |ds=>j_ ds
theorem DK(hc:∀c,(X c).calm=true):CaB X G (.type "dict") nq:=by
 obtain⟨rL,c1,c2⟩:=(yQ hc:CaB X G (.type "dict") j_);refine⟨_,λc=>cM.or (c1 c) (ql (hc c)),λds d e xs H W L0 r nd hn w Q q=>?_⟩;unfold nq at e;split at e
 .split at e
  .rename_i ds hl
   cases h1:rK ds with
   |none=>simp[h1]at e
   |some es=>
    obtain rfl:D.dct .own (aX [] [] es).1 (aX [] [] es).2=d:=by simpa[h1]using e
    obtain⟨x,rfl,rx⟩:=r.inv1;rw[Rep]at rx;obtain⟨a,ys,rfl,ht,hr⟩:=rx;obtain⟨prs,g1,g2,g3,g4⟩:=uM h1 hr;obtain⟨⟨p1,p2⟩,M',p3,p4,p5⟩:=nZ (kvs:=[]) (M:=[]) g1 g2 .nil (by simp) (by simpa using nd);refine .inr ⟨a,ys,prs,rfl,ht,g3,by rw[g3,←hr.length];exact hl,g4,λp hp=>?_⟩;have sm:Same H (upd H p (.dK (putAll [] prs))):=Same.new hp;have np:p∉M':=λz=>by obtain⟨o,ho,_⟩:=p3.dom p z;rw[hp]at ho;cases ho
    have hML:∀a∈M',a∈L0:=λa ha=>(p5 a ha).elim (λz=>by cases z) λz=>z;refine q (.ref p) _ (p::M') sm ?_ (λa ha=>(List.mem_cons.mp ha).elim (λz=>.inr (by rw[z];exact hp)) λz=>.inl (hML a z)) (List.nodup_cons.mpr ⟨np,p4⟩);rw[Rep];exact⟨p,putAll [] prs,M',rfl,⟨p1,p1▸p2⟩,p3.up ⟨sm,λb u hb f=>⟨λz=>z.elim (λz=>(List.mem_cons.mp z).elim (λz=>by rw[z,hp]at hb;cases hb) λz=>f.1 (hn b (hML b z)).1) λz=>f.1 z.1,f.2⟩,λ_ _ _ f=>f⟩,bc,rfl⟩
  .cases e
 .exact .inl (c2 ds d e xs H W L0 r nd hn w Q q)
end
def Wp{α:Type}(o:Option α)(Q:α->Prop):Prop:=∃a,o=some a/\Q a
section
variable{α β:Type}{Q:α->Prop}{R:β->Prop}
theorem aK{a:α}:Wp (some a) Q↔Q a:=⟨λ⟨b,e,q⟩=>by cases e;exact q,λq=>⟨a,rfl,q⟩⟩
theorem uv:Wp (none:Option α) Q↔False:=⟨λ⟨b,e,q⟩=>(by cases e),λz=>z.elim⟩
theorem dm{o:Option α}{f:α->Option β}:Wp (o.bind f) R↔Wp o λa=>Wp (f a) R:=by
 cases o with
 |none=>simp[uv]
 |some a=>simp[aK]
theorem Lk{o:Option α}{f:α->β}:Wp (o.map f) R↔Wp o λa=>R (f a):=by
 cases o with
 |none=>simp[uv]
 |some a=>simp[aK]
theorem w_ite{c:Prop}[Decidable c]{a b:Option α}:Wp (if c then a else b) Q↔(if c then Wp a Q else Wp b Q):=by
 split<;>exact Iff.rfl
theorem Wp.mono{o:Option α}{Q':α->Prop}(h:Wp o Q)(k:∀a,Q a->Q' a):Wp o Q':=let⟨a,e,q⟩:=h;⟨a,e,k a q⟩
theorem Wp.eq{o:Option α}{a:α}(h:Wp o λx=>x=a):o=some a:=let⟨b,e,q⟩:=h;by rw[e,q]
theorem jM{o:Option α}{a:α}(h:o=some a)(q:Q a):Wp o Q:=⟨a,h,q⟩
end
section
variable{Q:Fl->Prop}{ρ:En}
theorem yS{f g:En->Option Fl}:Wp (bh f g ρ) Q↔Wp (f ρ) λr=>match r with
 |.nx ρ'=>Wp (g ρ') Q
 |.ret d ρ'=>Q (.ret d ρ')
 |.brk ρ'=>Q (.brk ρ')
 |.cnt ρ'=>Q (.cnt ρ'):=by
 unfold bh;cases f ρ with
 |none=>simp[uv]
 |some r=>cases r<;>simp[aK]
theorem Lg{tg:D->En->Option En}{body:En->Option Fl}(I:Nat->En->Prop):∀{items:List D}{ρ:En}{k:Nat},I k ρ->
  (∀(i:Nat)(d:D)(ρ:En),items[i]? =some d->I (k+i) ρ->Wp (tg d ρ) λρ1=>Wp (body ρ1) λr=>match r with
   |.nx ρ2=>I (k+i+1) ρ2
   |.cnt ρ2=>I (k+i+1) ρ2
   |.brk ρ2=>Q (.nx ρ2)
   |.ret d ρ2=>Q (.ret d ρ2))->
  (∀ρ,I (k+items.length) ρ->Q (.nx ρ))->Wp (forL tg body items ρ) Q
 |[],ρ,k,h0,_,h=>by rw[forL];exact aK.mpr (h ρ h0)
 |d::r,ρ,k,h0,hs,h=>by
  rw[forL];obtain⟨ρ1,e1,w⟩:=hs 0 d ρ rfl h0;obtain⟨fl,e2,w⟩:=w;rw[e1,Option.bind_some,e2];have ih:∀{ρ2:En},I (k+1) ρ2->Wp (forL tg body r ρ2) Q:=λhI=>Lg I hI (λi d ρ hi hI=>by
   have:=hs (i+1) d ρ (by simpa using hi) (by rw[show k+(i+1)=k+1+i by omega];exact hI);rw[show k+(i+1)+1=k+1+i+1 by omega]at this;exact this) λρ hI=>h ρ (by rw[List.length_cons,show k+(r.length+1)=k+1+r.length by omega];exact hI)
  cases fl with
  |nx ρ2=>exact ih w
  |cnt ρ2=>exact ih w
  |brk ρ2=>exact aK.mpr w
  |ret d ρ2=>exact aK.mpr w
end
theorem fP{tg:D->En->Option En}{c:En->Option Bool}{e:En->Option D}{ρ0:En}{p:D->Bool}{f:D->D}:∀{items:List D},(∀d∈items,Wp (tg d ρ0) λρ1=>c ρ1=some (p d)/\(p d=true->e ρ1=some (f d)))->gO tg c e ρ0 items=some ((items.filter p).map f)
 |[],_=>rfl
 |d::r,h=>by
  obtain⟨ρ1,e1,h1,h2⟩:=h d (by simp);have ih:=fP (tg:=tg) (c:=c) (e:=e) (ρ0:=ρ0) (p:=p) (f:=f) (items:=r) λx hx=>h x (by simp[hx]);rw[gO];cases hp:p d with
  |false=>simp[e1,h1,hp,ih]
  |true=>simp[e1,h1,hp,h2 hp,ih]
theorem De{cap:List (Option Nat)}{tg:D->En->Option En}{c:En->Option Bool}{e:En->Option (D×En)}{Q:List D×En->Prop}(I:Nat->List D->En->Prop):∀{items:List D}{ρ:En}{k:Nat}{acc:List D},I k acc ρ->
  (∀(i:Nat)(d:D)(acc:List D)(ρ:En),items[i]? =some d->I (k+i) acc ρ->Wp (tg d (mX cap ρ)) λρ1=>Wp (c ρ1) λb=>if b=true then Wp (e ρ1) λp=>clean p.1=true/\I (k+i+1) (acc++[p.1]) (ig cap p.2 ρ)else I (k+i+1) acc ρ)->
  (∀ys ρ,I (k+items.length) ys ρ->Q (ys,ρ))->Wp (jn cap tg c e items ρ) λt=>Q (acc++t.1,t.2)
 |[],ρ,k,acc,h0,_,h=>by rw[jn];exact aK.mpr (by rw[List.append_nil];exact h acc ρ h0)
 |d::r,ρ,k,acc,h0,hs,h=>by
  rw[jn];obtain⟨ρ1,e1,b,e2,w⟩:=hs 0 d acc ρ rfl h0;rw[e1,Option.bind_some,e2,Option.bind_some];have ih:∀{ρ2:En}{acc:List D},I (k+1) acc ρ2->Wp (jn cap tg c e r ρ2) λt=>Q (acc++t.1,t.2):=λhI=>De I hI (λi d acc ρ hi hI=>by
   have:=hs (i+1) d acc ρ (by simpa using hi) (by rw[show k+(i+1)=k+1+i by omega];exact hI);rw[show k+(i+1)+1=k+1+i+1 by omega]at this;exact this) λys ρ hI=>h ys ρ (by rw[List.length_cons,show k+(r.length+1)=k+1+r.length by omega];exact hI)
  cases b with
  |false=>
   simp only[Bool.false_eq_true,if_false]at w⊢;exact ih w
  |true=>
   simp only[if_true]at w⊢;obtain⟨p,e3,hc,hI⟩:=w;rw[e3,Option.bind_some,if_pos hc];rw[Lk];refine(ih hI).mono λt ht=>?_;simpa using ht
theorem cu(l:List Str):aD (l.map D.str)=true:=b_ λd hd=>by obtain⟨x,_,rfl⟩:=List.mem_map.mp hd;rfl
theorem bR(l:List Str):aH (l.map D.str)=true:=bN λd hd=>by obtain⟨x,_,rfl⟩:=List.mem_map.mp hd;rfl
theorem cJ(b:Bool)(l:List Str):ik b (l.map D.str)=l.map D.str:=by rw[dX,List.map_map];rfl
theorem dM(l:List Str):fzL (l.map D.str)=l.map D.str:=by rw[gH,List.map_map];rfl
theorem dO(l:List Str):jc (l.map D.str)=l.map D.str:=by rw[fQ,List.map_map];rfl
theorem oZ{α:Type}{l:List α}{i:Int}(h0:0<=i)(h1:i<l.length):∃x,atI l i=some x/\l[i.toNat]? =some x:=by
 unfold atI ixN;rw[if_pos h0,if_pos h1];have:i.toNat<l.length:=by omega
 exact⟨l[i.toNat],by simp[this],by simp[this]⟩
theorem j5{α β:Type}{f:α->β}{l:List α}{i:Int}(h0:0<=i)(h1:i<l.length):∃x,x∈l/\l[i.toNat]? =some x/\atI (l.map f) i=some (f x):=by
 have:i.toNat<l.length:=by omega
 refine⟨l[i.toNat],List.getElem_mem _,by simp[this],?_⟩;unfold atI ixN;rw[if_pos h0,if_pos (by simpa using h1)];simp[this]
theorem Ky{n:Nat}{f:D->D}:(iU 0 n).map f=(List.range n).map λ(k:Nat)=>f (.int (k:Int)):=by
 unfold iU;rw[List.map_map];apply List.map_congr_left;intro k _;simp
theorem K4{n:Nat}{d:D}(h:d∈iU 0 n):∃k:Nat,k<n/\d= .int (k:Int):=by
 unfold iU at h;obtain⟨k,hk,rfl⟩:=List.mem_map.mp h;exact⟨k,List.mem_range.mp hk,by simp⟩
theorem rZ{lo:Int}{n:Nat}:(iU lo n).length=n:=by simp[iU]
theorem filter_tt{α:Type}(l:List α):l.filter (λ_=>true)=l:=by simp
theorem wC{n i:Nat}{d:D}(h:(iU 0 n)[i]? =some d):i<n/\d= .int (i:Int):=by
 have hi:i<n:=by have:=(List.getElem?_eq_some_iff.mp h).1;simpa[iU]using this
 refine⟨hi,?_⟩;unfold iU at h;rw[List.getElem?_map,List.getElem?_range hi]at h;simpa using h.symm
theorem Jz{ks:List Key}{k:Key}(h:k∈ks):∃j,fO ks k=some j/\j<ks.length:=by
 cases e:fO ks k with
 |none=>exact absurd h (tX e)
 |some j=>exact⟨j,rfl,sH e⟩
theorem HR{ks:List Key}{ds:List D}{k:Key}{d:D}(h:ks.length=ds.length):(fK ks ds k d).1.length=(fK ks ds k d).2.length/\∀x,x∈(fK ks ds k d).1↔x∈ks∨x=k:=by
 unfold fK;cases e:fO ks k with
 |none=>exact⟨by simp[h],λx=>by simp⟩
 |some j=>
  refine⟨by simpa using h,λx=>⟨.inl,λz=>z.elim id λz=>?_⟩⟩;obtain⟨hl,hk,_⟩:=List.findIdx?_eq_some_iff_getElem.mp e;have:ks[j]=k:=by simpa using hk
  rw[z,←this];exact List.getElem_mem _
theorem tR:∀{es:List (Key×D)}{ks:List Key}{ds:List D},ks.length=ds.length->(aX ks ds es).1.length=(aX ks ds es).2.length/\∀x,x∈(aX ks ds es).1↔x∈ks∨∃p∈es,p.1=x
 |[],ks,ds,h=>⟨h,λx=>by simp[aX]⟩
 |p::r,ks,ds,h=>by
  obtain⟨h1,h2⟩:=HR (k:=p.1) (d:=p.2) h;obtain⟨h3,h4⟩:=tR (es:=r) h1;rw[aX];refine⟨h3,λx=>?_⟩;rw[h4,h2];constructor
  .rintro((z|z)|⟨q,hq,z⟩)
   .exact .inl z
   .exact .inr ⟨p,by simp,z.symm⟩
   .exact .inr ⟨q,by simp[hq],z⟩
  .rintro(z|⟨q,hq,z⟩)
   .exact .inl (.inl z)
   .rcases List.mem_cons.mp hq with y|y
    .subst y;exact .inl (.inr z.symm)
    .exact .inr ⟨q,y,z⟩
def pD(p:Str×Int):D:=.tup [.str p.1,.int p.2]
theorem vZ:∀ps:List (Str×Int),rK (ps.map pD)=some (ps.map λp=>(Sum.inr p.1,.int p.2))
 |[]=>rfl
 |p::r=>by simp[rK,pD,iT,vZ r]
abbrev Jt:=Str×Str×Int
def jD(j:Jt):D:=.tup [.str j.1,.str j.2.1,.int j.2.2]
theorem iW(l:List Jt):aD (l.map jD)=true:=b_ λd hd=>by obtain⟨x,_,rfl⟩:=List.mem_map.mp hd;rfl
theorem iM(l:List Jt):aH (l.map jD)=true:=bN λd hd=>by obtain⟨x,_,rfl⟩:=List.mem_map.mp hd;rfl
theorem lB(b:Bool)(l:List Jt):ik b (l.map jD)=l.map jD:=by rw[dX,List.map_map];rfl
theorem lg(l:List Jt):fzL (l.map jD)=l.map jD:=by rw[gH,List.map_map];rfl
theorem jP(l:List Jt):jc (l.map jD)=l.map jD:=by rw[fQ,List.map_map];rfl
theorem Cr:∀l:List Jt,gG (l.map jD)=true
 |[]=>rfl
 |j::r=>by simp[gG,jD,fX,Cr r]
theorem iz:∀l:List Str,gG (l.map D.str)=true
 |[]=>rfl
 |j::r=>by simp[gG,fX,iz r]
theorem Gy:∀l:List Jt,dpL (dtL (l.map jD))<=2
 |[]=>by simp[dtL,dpL]
 |j::r=>by
  have:=Gy r;simp[dtL,jD,dt,dpL,dp];omega
theorem kh{m:Mk}{l:List Jt}:gNe (.lst m (l.map jD)) (.lst .own [])=some (.bl (!l.isEmpty)):=by
 unfold gNe;have h1:=Cr l;have h2:=Gy l;rw[if_pos ⟨by simpa[fX]using h1,rfl,by simp only[dt,dp];omega,by decide⟩];cases l with
 |nil=>rfl
 |cons j r=>rfl
theorem eq_int{i j:Int}:gEq (.int i) (.int j)=some (.bl (decide (i=j))):=by
 unfold gEq;rw[if_pos ⟨rfl,rfl,by simp[dt,dp],by simp[dt,dp]⟩];simp[dt,eqD];exact Bool.eq_iff_iff.mpr (by simp)
theorem GJ{cap:List (Option Nat)}{tg:D->En->Option En}{c:En->Option Bool}{e:En->Option (D×En)}{Q:List D×En->Prop}(I:Nat->List D->En->Prop){items:List D}{ρ:En}(h0:I 0 [] ρ)
  (hs:∀(i:Nat)(d:D)(acc:List D)(ρ:En),items[i]? =some d->I i acc ρ->Wp (tg d (mX cap ρ)) λρ1=>Wp (c ρ1) λb=>if b=true then Wp (e ρ1) λp=>clean p.1=true/\I (i+1) (acc++[p.1]) (ig cap p.2 ρ)else I (i+1) acc ρ)
  (h:∀ys ρ,I items.length ys ρ->Q (ys,ρ)):Wp (jn cap tg c e items ρ) Q:=by
 have:=De (cap:=cap) (tg:=tg) (c:=c) (e:=e) (Q:=Q) I (items:=items) (ρ:=ρ) (k:=0) (acc:=[]) h0 (λi d acc ρ hi hI=>by
  rw[Nat.zero_add]at hI⊢;exact hs i d acc ρ hi hI) λys ρ hI=>h ys ρ (by rw[Nat.zero_add]at hI;exact hI)
 simpa using this
theorem jE{Q:Fl->Prop}{tg:D->En->Option En}{body:En->Option Fl}(I:Nat->En->Prop){items:List D}{ρ:En}(h0:I 0 ρ)
  (hs:∀(i:Nat)(d:D)(ρ:En),items[i]? =some d->I i ρ->Wp (tg d ρ) λρ1=>Wp (body ρ1) λr=>match r with
   |.nx ρ2=>I (i+1) ρ2
   |.cnt ρ2=>I (i+1) ρ2
   |.brk ρ2=>Q (.nx ρ2)
   |.ret d ρ2=>Q (.ret d ρ2))
  (h:∀ρ,I items.length ρ->Q (.nx ρ)):Wp (forL tg body items ρ) Q:=
 Lg (k:=0) I h0 (λi d ρ hi hI=>by
  rw[Nat.zero_add]at hI⊢;exact hs i d ρ hi hI) λρ hI=>h ρ (by rw[Nat.zero_add]at hI;exact hI)
theorem bI{f g:En->Option Fl}{ρ:En}{Q:Fl->Prop}(P:En->Prop)(h1:∀Q':Fl->Prop,(∀ρ',P ρ'->Q' (.nx ρ'))->Wp (f ρ) Q')(h2:∀ρ',P ρ'->Wp (g ρ') Q):Wp (bh f g ρ) Q:=by
 rw[yS];exact h1 _ λρ' h=>h2 ρ' h
theorem v8(j:Jt):aG (jD j)=true:=rfl
theorem wX(j:Jt):aC (jD j)=true:=rfl
theorem wH(b:Bool)(j:Jt):view b (jD j)=jD j:=rfl
theorem vY(j:Jt):fz (jD j)=jD j:=rfl
theorem wZ(j:Jt):fzo (jD j)=jD j:=rfl
theorem n_(j:Jt):gSl (jD j) none (some 2)=some (.tup [.str j.1,.str j.2.1]):=rfl
theorem jX(m:Mk)(l:List Jt):bW [.lst m (l.map jD)]=some (.int l.length):=by simp[bW]
theorem len_strs(m:Mk)(l:List Str):bW [.lst m (l.map D.str)]=some (.int l.length):=by simp[bW]
theorem jb(l:List Jt):bW [.tup (l.map jD)]=some (.int l.length):=by simp[bW]
theorem fJ(l:List Str):bW [.tup (l.map D.str)]=some (.int l.length):=by simp[bW]
theorem uV{m:Mk}{l:List D}{i:Int}:gIx (.lst m l) (.int i)=atI l i:=rfl
theorem xN{l:List D}{i:Int}:gIx (.tup l) (.int i)=atI l i:=rfl
mutual
def tz:D->Nat
 |.int i=>if i.natAbs<1000000000000000000 then 20 else i.natAbs+2
 |.str x=>(reprText x).length
 |.tup ds=>4+tzL ds
 |.lst _ ds=>4+tzL ds
 |_=>5
def tzL:List D->Nat
 |[]=>0
 |d::r=>tz d+2+tzL r
end
mutual
def dz:D->Nat
 |.tup ds=>1+dzL ds
 |.lst _ ds=>1+dzL ds
 |_=>0
def dzL:List D->Nat
 |[]=>0
 |d::r=>max (dz d) (dzL r)
end
theorem CZ:∀(ts:List Str)(k:Nat)(a:Str),(textFrom k a ts).length<=a.length+(ts.map λt=>t.length+2).sum
 |[],k,a=>by rw[textFrom.eq_1];simp
 |t::ts,k,a=>by
  rw[textFrom.eq_2];have h1:=CZ ts (k+1) (a++Str.ofString (if k>0 then ", " else "")++t);rw[Str.length_append,Str.length_append]at h1;have h3:(Str.ofString (if k>0 then ", " else "")).length<=2:=by split<;>decide
  rw[List.map_cons,List.sum_cons];omega
theorem zx:∀ts:List Str,piled ts=(ts.map λt=>t.length+2).sum
 |[]=>rfl
 |t::r=>by rw[List.map_cons,List.sum_cons,←zx r];simp[piled]
theorem JN(ts:List Str):(Str.join ", " ts).length<=(ts.map λt=>t.length+2).sum:=by
 cases ts with
 |nil=>decide
 |cons t r=>
  have:=join_length_add (t::r) (by simp);rw[zx]at this;omega
theorem El{i:Int}(h:i.natAbs<1000000000000000000):(Str.ofString (toString i)).length<=19:=by
 have h18:∀n:Nat,n<1000000000000000000->(Nat.repr n).length<=18:=λn hn=>by
  have:=toDigits_len_pow (b:=10) (k:=18) (by decide) (by decide) (n:=n) (by simpa using hn);simpa[Nat.repr]using this
 rw[ofString_len];cases i with
 |ofNat m=>exact Nat.le_trans (h18 m h) (by decide)
 |negSucc m=>
  have:=h18 (m+1) h;show("-"++Nat.repr (m+1)).length<=19;rw[String.length_append];have h1:"-".length=1:=by decide
  omega
mutual
theorem zH:∀{d:D},fX d=true->tz d<=1000000->(pyD (dt d)).shown.length<=tz d/\(pyD (dt d)).showable=true/\(pyD (dt d)).depth<=dz d
 |.non,_,_=>⟨by decide,rfl,by decide⟩
 |.bl b,_,_=>by cases b<;>exact⟨by decide,rfl,by decide⟩
 |.int i,_,h=>by
  rw[tz]at h;by_cases hs:i.natAbs<1000000000000000000
  .refine⟨?_,?_,by simp[dt,pyD,PyData.depth]⟩
   .have:=El hs
    simp only[dt,pyD,PyData.shown,tz,hs,if_true];omega
   .simp only[dt,pyD,PyData.showable]
    refine decide_eq_true ?_;by_cases h0:i.natAbs=0
    .rw[h0];decide
    .exact(Nat.log2_lt h0).mpr (Nat.lt_of_lt_of_le (show i.natAbs<2 ^ 60 by omega) (Nat.pow_le_pow_right (by decide) (by decide)))
  .rw[if_neg hs]at h
   omega
 |.str x,_,_=>⟨by simp[dt,pyD,PyData.shown,tz],by simp[dt,pyD,PyData.showable],by simp[dt,pyD,PyData.depth,dz]⟩
 |.tup ds,h,hz=>by
  rw[fX]at h;rw[tz]at hz;obtain⟨h1,h2,h3⟩:=qG h (by omega);refine⟨?_,by simpa[dt,pyD,PyData.showable]using h2,by simp only[dt,pyD,PyData.depth,dz];omega⟩;simp only[dt,pyD,PyData.shown,tz];unfold tupleText;rw[Str.length_append,Str.length_append];have h4:(Str.ofString "(").length=1:=by decide
  have h5:(Str.ofString (if((PyData.shownAll (pyL (dtL ds))).length==1)=true then ",)" else ")")).length<=2:=by split<;>decide
  have h6:=JN (PyData.shownAll (pyL (dtL ds)));omega
 |.lst m ds,h,hz=>by
  rw[fX]at h;rw[tz]at hz;obtain⟨h1,h2,h3⟩:=qG h (by omega);refine⟨?_,by simpa[dt,pyD,PyData.showable]using h2,by simp only[dt,pyD,PyData.depth,dz];omega⟩;simp only[dt,pyD,PyData.shown,tz];unfold listText;rw[Str.length_append];have h4:(Str.ofString "[").length=1:=by decide
  have h5:(Str.ofString "]").length=1:=by decide
  have h6:=CZ (PyData.shownAll (pyL (dtL ds))) 0 "[";omega
 |.ty _,h,_=>by simp[fX]at h
 |.dct _ _ _,h,_=>by simp[fX]at h
 |.ins _ _ _ _,h,_=>by simp[fX]at h
theorem qG:∀{ds:List D},gG ds=true->tzL ds<=1000000->((PyData.shownAll (pyL (dtL ds))).map λt=>t.length+2).sum<=tzL ds/\PyData.showableAll (pyL (dtL ds))=true/\PyData.depthAll (pyL (dtL ds))<=dzL ds
 |[],_,_=>by simp[dtL,pyL,PyData.shownAll,PyData.showableAll,PyData.depthAll,tzL,dzL]
 |d::r,h,hz=>by
  rw[gG,Bool.and_eq_true]at h;rw[tzL]at hz;obtain⟨h1,h2,h3⟩:=zH h.1 (by omega);obtain⟨k1,k2,k3⟩:=qG h.2 (by omega);simp only[dtL,pyL,PyData.shownAll,PyData.showableAll,PyData.depthAll,tzL,dzL,List.map_cons,List.sum_cons,h2,k2];refine⟨by omega,rfl,?_⟩;omega
end
theorem MP{d:D}(h:fX d=true)(hz:tz d<=1000000)(hd:dz d<=50):∃x,zz [d]=some (.str x):=by
 obtain⟨h1,h2,h3⟩:=zH h hz;have hs:(1000000:Nat)<=sizeLine:=by decide
 cases d with
 |non=>exact⟨_,rfl⟩
 |bl b=>exact⟨_,rfl⟩
 |int i=>
  have h4:i.natAbs.log2<1920:=by simpa[dt,pyD,PyData.showable]using h2
  exact⟨_,by simp only[zz];rw[if_pos h4]⟩
 |str x=>exact⟨_,rfl⟩
 |tup ds=>exact⟨_,by simp only[zz];rw[if_pos ⟨h,by omega,h2,by omega⟩]⟩
 |lst m ds=>exact⟨_,by simp only[zz];rw[if_pos ⟨h,by omega,h2,by omega⟩]⟩
 |ty n=>simp[fX]at h
 |dct m ks ds=>simp[fX]at h
 |ins m c fs ds=>simp[fX]at h
noncomputable def du:List D->Option D:=fnP 2 4 ((bh (fj (eC (.int 0)) (tgN 2))
 (bh (sIf (eB (e2 gLt (aq false 1) (eAp bW (ak (aq false 0) aJ)))) (fj (e2 gIx (aq false 0) (aq false 1)) (tgN 2)) iQ)
 (bh (fj (e2 gZ (eAp uT (ak (aq false 2) aJ)) (eAp zE (ak (e2 gGe (eAp uT (ak (aq false 2) aJ)) (e2 nP (eC (.int 10)) (eC (.int 18)))) aJ))) (tgN 3))
 (gf (eAp a_ (ak (aq false 3) (ak (e2 j9 (e2 gZ (e2 bH (e2 bH (e2 j9 (aq false 2) (eC (.int 2147483647))) (e2 gZ (eC (.int 7919)) (aq false 1))) (eC (.int 11))) (eC (.int 48271))) (eC (.int 2147483629))) aJ))))))))
noncomputable def az:List D->Option (D×List D):=fnI (λi=>i==0) 2 4 ((bh (sIf (eB (e2 gGt (e2 gIx (aq true 0) (eC (.int 0))) (eC (.int 0)))) (bh (fj (e2 j9 (e2 gIx (aq true 0) (eC (.int 0))) (aq false 1)) (tgN 2))
 (bh (fj (e2 oX (e2 gIx (aq true 0) (eC (.int 0))) (aq false 1)) (lR gV 0 (pF 0) (eC (.int 0))))
 (lz 2))) iQ)
 (bh (fj (e2 j9 (e2 bH (e2 gZ (e2 gIx (aq true 0) (eC (.int 1))) (eC (.int 48271))) (eC (.int 39373))) (eC (.int 2147483647))) (lR gV 0 (pF 0) (eC (.int 1))))
 (bh (fj (e2 j9 (e2 gZ (e2 gIx (aq true 0) (eC (.int 1))) (e2 bH (e2 j9 (e2 gIx (aq true 0) (eC (.int 1))) (eC (.int 40009))) (eC (.int 7)))) (eC (.int 2147483587))) (tgN 3))
 (gf (e2 j9 (e2 oX (aq false 3) (eC (.int 64))) (aq false 1)))))))
noncomputable def dW:List D->Option (D×List D):=fnI (λi=>i==0) 1 4 ((bh (fj (eMt t_ (eC (.str "b aa zebra c quartzes ab m knows d mm likes z a ba abcdefgh y")) (ak (eC (.str " ")) aJ)) (tgN 1))
 (bh (cW (eIo az [0] (cB (ak (eC (.int 16)) aJ))) (tgN 2))
 (bh (cW (ee2 gIx (mW a_ (cF (eIo az [0] (cB (ak (eC (.int 3)) aJ))) (cF (ee2 bH (eUp (eC (.int 10))) (eIo az [0] (cB (ak (eC (.int 5)) aJ)))) (cF (ee2 bH (eUp (eC (.int 4))) (eIo az [0] (cB (ak (eC (.int 5)) aJ)))) (cB aJ))))) (mW m8 (cF (eUp (eC (.int 2))) (cF (eIo az [0] (cB (ak (eC (.int 8)) aJ))) (cB aJ))))) (tgN 3))
 (gf (iY [none,some 1,some 2] (rR (ak (aq false 3) aJ)) (tpN 0) eTT (e2 gIx (aq false 1) (e2 j9 (e2 bH (aq false 2) (e2 gZ (eC (.int 5)) (aq false 0))) (eC (.int 16))))))))))
noncomputable def eX:List D->Option (D×List D):=fnI (λi=>i==0) 1 1 ((rD (ee2 gIx (eUp (eAp a_ (ak (eC (.int 0)) (ak (eC (.int 0)) (ak (eC (.int 0)) (ak (eC (.int 2)) (ak (eC (.int 3)) (ak (eC (.int 7)) (ak (eC (.int 1000)) (ak (eC (.int 1)) aJ)))))))))) (eIo az [0] (cB (ak (eC (.int 8)) aJ))))))
noncomputable def bj:List D->Option (D×List D):=fnI (λi=>i==0) 3 12 ((bh (fj (eAp a_ aJ) (tgN 3))
 (bh (cW (ee2 gIx (eUp (eAp a_ (ak (eC (.int 3)) (ak (eC (.int 3)) (ak (eC (.int 12)) (ak (eC (.int 12)) (ak (eC (.int 12)) (ak (e2 gZ (eC (.int 4)) (e2 nP (eC (.int 10)) (eC (.int 11)))) aJ)))))))) (eIo az [0] (cB (ak (eC (.int 6)) aJ)))) (tgN 4))
 (bh (cW (mW j_ (cF (uf [none,some 4,some 0] (itS (aq false 1)) (tgN 0) eTT (mW bU (cF (eUp (aq false 0)) (cF (ee2 i_ (eIo az [2] (cB (ak (e2 gZ (eC (.int 2)) (aq false 1)) aJ))) (eUp (aq false 1))) (cB aJ))))) (cB aJ))) (tgN 5))
 (bh (cW (ee2 gIx (eUp (eAp a_ (ak (eC (.int 0)) (ak (eC (.int 0)) (ak (eC (.int 3)) (ak (eC (.int 12)) aJ)))))) (eIo az [0] (cB (ak (eC (.int 4)) aJ)))) (tgN 6))
 (bh (yq (xX (cF (eIo az [0] (cB (ak (e2 bH (e2 gZ (eC (.int 2)) (eAp bW (ak (aq false 1) aJ))) (eC (.int 1))) aJ))) (cB aJ))) (tgN 7) (bh (tM (cF (ee2 gIx (eUp (aq false 1)) (eIo az [0] (cB (ak (eAp bW (ak (aq false 1) aJ)) aJ)))) (cF (ee2 gIx (eUp (aq false 1)) (eIo az [0] (cB (ak (eAp bW (ak (aq false 1) aJ)) aJ)))) (cB aJ))) (aQ (tgN 8) (aQ (tgN 9) eO)))
 (bh (cW (eIo az [0] (cB (ak (eC (.int 9)) aJ))) (tgN 10))
 (bh (sIf (eB (e2 gEq (aq false 10) (eC (.int 0)))) (fj (aq false 8) (tgN 9)) iQ)
 (bh (sIf (rF (eB (e2 gEq (aq false 10) (eC (.int 1)))) (eB (e2 gNe (aq false 3) (eAp a_ aJ)))) (cW (Gj (ee2 gIx (eUp (aq false 3)) (eIo az [0] (cB (ak (eAp bW (ak (aq false 3) aJ)) aJ)))) jQ (iV (eC (.int 2)))) (tgT 2 (aQ (tgN 8) (aQ (tgN 9) eO)))) iQ)
 (bh (sIf (rF (eB (e2 gEq (aq false 10) (eC (.int 2)))) (eB (e2 gNe (aq false 3) (eAp a_ aJ)))) (cW (Gj (ee2 gIx (eUp (aq false 3)) (eIo az [0] (cB (ak (eAp bW (ak (aq false 3) aJ)) aJ)))) jQ (iV (eC (.int 2)))) (tgT 2 (aQ (tgN 9) (aQ (tgN 8) eO)))) iQ)
 (bh (cW (ee2 bH (eUp (e2 i_ (e2 gIx (aq false 5) (aq false 9)) (e2 gIx (aq false 5) (aq false 8)))) (ee2 gZ (eUp (aq false 2)) (ee2 i_ (eIo az [0] (cB (ak (eC (.int 5)) aJ))) (eUp (eC (.int 2)))))) (tgN 11))
 (bh (yU (vW (yW (eB (e2 gGt (aq false 6) (eC (.int 0))))) (eeB (ee2 gEq (eIo az [0] (cB (ak (aq false 6) aJ))) (eUp (eC (.int 0)))))) (cW (ee2 bH (eUp (aq false 11)) (ee2 gIx (eUp (eAp a_ (ak (eC (.int 1)) (ak (e1 pN (eC (.int 1))) (ak (eC (.int 2)) (ak (e2 nP (eC (.int 10)) (eC (.int 11))) aJ)))))) (eIo az [0] (cB (ak (eC (.int 4)) aJ))))) (tgN 11)) iQ)
 (HF fB 3 (pF 3) (ak (eAp bU (ak (aq false 8) (ak (aq false 9) (ak (aq false 11) aJ)))) aJ))))))))))
 (lz 3)))))))
noncomputable def bM:List D->Option D:=fnP 2 8 ((bh (fj (iY [none] (itS (aq false 0)) (tpN 0) eTT (eAp a_ (ak (aq false 0) aJ))) (tgN 2))
 (bh (ju (itS (aq false 1)) (tgT 3 (aQ (tgN 3) (aQ (tgN 4) (aQ (tgN 5) eO)))) (bh (sFz 2 (fj (e2 gIx (iY [none,some 3] (itS (aq false 2)) (tpN 0) (eB (e2 gIn (aq false 1) (aq false 0))) (aq false 0)) (eC (.int 0))) (tgN 6)))
 (bh (fj (e2 gIx (iY [none,some 4] (itS (aq false 2)) (tpN 0) (eB (e2 gIn (aq false 1) (aq false 0))) (aq false 0)) (eC (.int 0))) (tgN 7))
 (sIf (eB (e2 gNe (aq false 6) (aq false 7))) (fj (e2 bH (iY [none,some 6,some 7] (itS (aq false 2)) (tpN 0) (rF (eB (e2 gNe (aq false 0) (aq false 1))) (eB (e2 gNe (aq false 0) (aq false 2)))) (aq false 0)) (eAp a_ (ak (e2 bH (aq false 6) (aq false 7)) aJ))) (tgN 2)) iQ))))
 (gf (eAp bQ (ak (iY [none] (itS (aq false 2)) (tpN 0) eTT (eAp bQ (ak (aq false 0) aJ))) aJ))))))
noncomputable def cX:List D->Option D:=fnP 2 8 ((bh (fj (eAp zq aJ) (tgN 2))
 (bh (ju (itS (eAp (eQ bM) (ak (aq false 0) (ak (aq false 1) aJ)))) (tgN 3) (bh (fj (eC (.int 0)) (lR gV 2 (pF 2) (e2 gIx (aq false 3) (eC (.int 0)))))
 (sFz 3 (ju (itS (aq false 3)) (tgN 4) (ju (itS (aq false 1)) (tgT 3 (aQ (tgN 5) (aQ (tgN 6) (aQ (tgN 7) eO)))) (bh (sIf (rF (eB (e2 gIn (aq false 5) (aq false 2))) (eB (e2 km (aq false 6) (aq false 2)))) (fj (e2 bH (e2 gIx (aq false 2) (aq false 5)) (aq false 7)) (lR gV 2 (pF 2) (aq false 6))) iQ)
 (sIf (rF (eB (e2 gIn (aq false 6) (aq false 2))) (eB (e2 km (aq false 5) (aq false 2)))) (fj (e2 i_ (e2 gIx (aq false 2) (aq false 6)) (aq false 7)) (lR gV 2 (pF 2) (aq false 5))) iQ)))))))
 (lz 2))))
noncomputable def eG:List D->Option (D×List D):=fnI (λi=>i==0) 4 10 ((bh (fj (eAp (eQ cX) (ak (aq false 1) (ak (aq false 2) aJ))) (tgN 4))
 (bh (fj (eAp a_ aJ) (tgN 5))
 (bh (ju (itS (eAp (eQ bM) (ak (aq false 1) (ak (aq false 2) aJ)))) (tgN 6) (bh (cW (ee2 gIx (eUp (eAp a_ (ak (eC (.int 0)) (ak (eC (.int 5)) (ak (e1 pN (e2 nP (eC (.int 10)) (eC (.int 9)))) aJ))))) (eIo az [0] (cB (ak (eC (.int 3)) aJ)))) (tgN 7))
 (sFz 6 (ju (itS (aq false 6)) (tgN 8) (bh (cW (mW bU (cF (eUp (aq false 8)) (cF (ee2 bH (eUp (e2 bH (e2 gIx (aq false 4) (aq false 8)) (aq false 7))) (ee2 gZ (eUp (aq false 3)) (ee2 i_ (eIo az [0] (cB (ak (eC (.int 3)) aJ))) (eUp (eC (.int 1)))))) (cB aJ)))) (tgN 9))
 (u_ jj 5 (pF 5) (cF (eIo az [0] (cB (ak (e2 bH (eAp bW (ak (aq false 5) aJ)) (eC (.int 1))) aJ))) (cB (ak (aq false 9) aJ)))))))))
 (lz 5)))))
noncomputable def dh:List D->Option (D×List D):=fnI (λi=>i==0) 1 2 ((bh (fj (eAp a_ (ak (eC .non) (ak (eC (.bl true)) (ak (eC (.bl false)) (ak (eC (.int 0)) (ak (e1 pN (eC (.int 1))) (ak (eC (.int 7)) (ak (eC (.str "")) (ak (eC (.str "a")) (ak (eC (.str "nobody")) (ak (eAp bU aJ) (ak (eAp a_ aJ) (ak (eAp bU (ak (eC (.int 0)) aJ)) (ak (eAp bU (ak (eC (.int 0)) (ak (eC (.int 1)) aJ))) (ak (eAp bU (ak (eC (.int 0)) (ak (eC (.int 2)) aJ))) (ak (eAp bU (ak (eC (.bl true)) (ak (eC (.int 1)) aJ))) (ak (eAp bU (ak (eC (.int 0)) (ak (eC (.bl true)) aJ))) (ak (eAp a_ (ak (eC (.int 0)) (ak (eC (.int 1)) aJ))) aJ)))))))))))))))))) (tgN 1))
 (bh (sFz 1 (fj (e2 bH (aq false 1) (eAp a_ (ak (eAp bU (ak (eC (.int 0)) (ak (eC (.int 1)) (ak (eC (.int 1)) aJ)))) (ak (eAp bU (ak (eC (.str "a")) (ak (eC (.int 0)) aJ))) (ak (eAp a_ (ak (eC (.str "a")) (ak (eC (.int 0)) aJ))) (ak (eAp bU (ak (eAp bU (ak (eC (.str "a")) (ak (eC (.int 0)) aJ))) aJ)) (ak (eAp a_ (ak (eAp a_ aJ) aJ)) (ak (eAp bU (ak (eC (.str "a")) (ak (eC .non) aJ))) (ak (eAp bU (ak (eC .non) (ak (eC (.int 1)) aJ))) (ak (eAp bU (ak (eC (.str "0")) (ak (eC (.int 1)) aJ))) aJ)))))))))) (tgN 1)))
 (sFz 1 (rD (ee2 gIx (eUp (aq false 1)) (eIo az [0] (cB (ak (eAp bW (ak (aq false 1) aJ)) aJ)))))))))
noncomputable def eV:List D->Option (D×List D):=fnI (λi=>i==0) 3 5 ((bh (cW (eIo az [0] (cB (ak (e2 bH (eAp bW (ak (aq false 1) aJ)) (eC (.int 1))) aJ))) (tgN 3))
 (bh (cW (eIo az [0] (cB (ak (eC (.int 5)) aJ))) (tgN 4))
 (bh (sIf (eB (e2 gEq (aq false 4) (eC (.int 0)))) (gf (e2 bH (eSl (aq false 1) jQ (iV (aq false 3))) (eSl (aq false 1) (iV (e2 bH (aq false 3) (eC (.int 1)))) jQ))) iQ)
 (bh (sIf (eB (e2 gEq (aq false 4) (eC (.int 1)))) (gf (e2 bH (e2 bH (eSl (aq false 1) jQ (iV (aq false 3))) (eSl (aq false 1) (iV (aq false 3)) (iV (e2 bH (aq false 3) (eC (.int 1)))))) (eSl (aq false 1) (iV (aq false 3)) jQ))) iQ)
 (bh (sIf (eB (e2 gEq (aq false 4) (eC (.int 2)))) (gf (e2 bH (e2 bH (eSl (aq false 1) jQ (iV (aq false 3))) (eAp a_ (ak (aq false 2) aJ))) (eSl (aq false 1) (iV (e2 bH (aq false 3) (eC (.int 1)))) jQ))) iQ)
 (gf (e2 bH (e2 bH (eSl (aq false 1) jQ (iV (aq false 3))) (eAp a_ (ak (aq false 2) aJ))) (eSl (aq false 1) (iV (aq false 3)) jQ)))))))))
noncomputable def d7:List D->Option D:=fnP 1 1 ((gf (eAp bf (ak (aq false 0) (ak (eAp bU (ak (eC (.ty "list")) (ak (eC (.ty "tuple")) aJ))) aJ)))))
noncomputable def dZ:List D->Option D:=fnP 2 2 ((bh (sIf (eB (e2 gEq (aq false 0) (eC (.int 0)))) (lz 1) iQ)
 (gf (e2 j9 (aq false 1) (aq false 0)))))
noncomputable def cA:List D->Option D:=fnP 1 1 ((gf (tZ (eAp bf (ak (aq false 0) (ak (eC (.ty "tuple")) aJ))) (e2 gEq (eAp bW (ak (aq false 0) aJ)) (eC (.int 2))))))
noncomputable def dU:List D->Option D:=fnP 1 1 ((gf (tZ (eAp bf (ak (aq false 0) (ak (eC (.ty "int")) aJ))) (e1 Am (eAp bf (ak (aq false 0) (ak (eC (.ty "bool")) aJ)))))))
noncomputable def bO:List D->Option D:=fnP 1 1 ((gf (tZ (eAp (eQ cA) (ak (aq false 0) aJ)) (tZ (eAp bf (ak (e2 gIx (aq false 0) (eC (.int 0))) (ak (eC (.ty "str")) aJ))) (eAp (eQ dU) (ak (e2 gIx (aq false 0) (eC (.int 1))) aJ))))))
noncomputable def aW:List D->Option D:=fnP 4 5 ((bh (sIf (eOr (lZ (lD (eAp (eQ d7) (ak (aq false 3) aJ)))) (lZ (lD (eAp uR (ak (iY [none] (itS (aq false 3)) (tpN 0) eTT (eAp (eQ bO) (ak (aq false 0) aJ))) aJ))))) (gf (eC (.bl false))) iQ)
 (bh (sIf (eB (e2 gNe (eAp bQ (ak (iY [none,none] (itS (aq false 3)) (tpT 2 (aQ (tpN 0) (aQ (tpN 1) eO))) eTT (aq false 0)) aJ)) (eAp bQ (ak (aq false 0) aJ)))) (gf (eC (.bl false))) iQ)
 (bh (fj (eAp nq (ak (aq false 3) aJ)) (tgN 4))
 (gf (eAp uR (ak (iY [none,none,none,some 2,some 4] (itS (aq false 1)) (tpT 3 (aQ (tpN 0) (aQ (tpN 1) (aQ (tpN 2) eO)))) eTT (e2 gEq (eAp (eQ dZ) (ak (aq false 3) (ak (e2 i_ (e2 bH (e2 gIx (aq false 4) (aq false 0)) (aq false 2)) (e2 gIx (aq false 4) (aq false 1))) aJ))) (eC (.int 0)))) aJ)))))))
noncomputable def cI:List D->Option D:=fnP 1 1 ((gf (tZ (eAp bf (ak (aq false 0) (ak (eC (.ty "int")) aJ))) (e1 Am (eAp bf (ak (aq false 0) (ak (eC (.ty "bool")) aJ)))))))
noncomputable def cz:List D->Option D:=fnP 2 2 ((bh (sIf (eB (e2 gEq (aq false 0) (eC (.int 0)))) (lz 1) iQ)
 (gf (e2 i_ (aq false 1) (e2 gZ (e2 oX (aq false 1) (aq false 0)) (aq false 0))))))
noncomputable def cG:List D->Option D:=fnP 4 6 ((bh (sIf (lZ (lD (eAp bf (ak (aq false 3) (ak (eAp bU (ak (eC (.ty "list")) (ak (eC (.ty "tuple")) aJ))) aJ))))) (gf (eC (.bl false))) iQ)
 (bh (fj (eAp zq aJ) (tgN 4))
 (bh (ju (itS (aq false 3)) (tgN 5) (bh (sIf (eOr (lZ (lD (eAp bf (ak (aq false 5) (ak (eC (.ty "tuple")) aJ))))) (eOr (eB (e2 gNe (eAp bW (ak (aq false 5) aJ)) (eC (.int 2)))) (eOr (lZ (lD (eAp bf (ak (e2 gIx (aq false 5) (eC (.int 0))) (ak (eC (.ty "str")) aJ))))) (lZ (lD (eAp (eQ cI) (ak (e2 gIx (aq false 5) (eC (.int 1))) aJ))))))) (gf (eC (.bl false))) iQ)
 (fj (e2 gIx (aq false 5) (eC (.int 1))) (lR gV 4 (pF 4) (e2 gIx (aq false 5) (eC (.int 0)))))))
 (bh (sIf (eOr (eB (e2 gNe (eAp bQ (ak (aq false 4) aJ)) (eAp bQ (ak (aq false 0) aJ)))) (eB (e2 gNe (eAp bW (ak (aq false 3) aJ)) (eAp bW (ak (aq false 0) aJ))))) (gf (eC (.bl false))) iQ)
 (gf (eAp uR (ak (iY [none,none,none,some 2,some 4] (itS (aq false 1)) (tpT 3 (aQ (tpN 0) (aQ (tpN 1) (aQ (tpN 2) eO)))) eTT (e2 gEq (eAp (eQ cz) (ak (aq false 3) (ak (e2 i_ (e2 bH (e2 gIx (aq false 4) (aq false 0)) (aq false 2)) (e2 gIx (aq false 4) (aq false 1))) aJ))) (eC (.int 0)))) aJ))))))))
noncomputable def dF:List D->Option D:=fnP 4 6 ((bh (fj (eAp zz (ak (aq false 3) aJ)) (tgN 4))
 (bh (fj (eAp (eQ aW) (ak (aq false 0) (ak (aq false 1) (ak (aq false 2) (ak (aq false 3) aJ))))) (tgN 5))
 (gf (tZ (eAp bf (ak (aq false 5) (ak (eC (.ty "bool")) aJ))) (tZ (e2 gEq (aq false 5) (eAp (eQ cG) (ak (aq false 0) (ak (aq false 1) (ak (aq false 2) (ak (aq false 3) aJ)))))) (e2 gEq (eAp zz (ak (aq false 3) aJ)) (aq false 4))))))))
noncomputable def j0:List D->Option D:=fnP 1 12 ((bh (ju (rR (ak (e2 bH (eC (.int 1)) (eAp m8 (ak (eC (.int 8)) (ak (eAp bW (ak (aq false 0) aJ)) aJ)))) aJ)) (tgN 1) (bh (fj (eAp (eQ du) (ak (aq false 0) (ak (aq false 1) aJ))) (tgN 2))
 (bh (cW (eIo dW [2] (cB aJ)) (tgN 3))
 (bh (cW (eIo eX [2] (cB aJ)) (tgN 4))
 (bh (cW (eIo bj [2] (cB (ak (aq false 3) (ak (aq false 4) aJ)))) (tgN 5))
 (bh (cW (eIo eG [2] (cB (ak (aq false 3) (ak (aq false 5) (ak (aq false 4) aJ))))) (tgN 6))
 (bh (sFz 5 (sFz 3 (cW (ee2 gIx (eUp (eAp a_ (ak (eAp bU (ak (aq false 3) (ak (aq false 5) aJ))) (ak (eAp bU (ak (eAp gR (ak (aq false 3) aJ)) (ak (eAp gR (ak (aq false 5) aJ)) aJ))) aJ)))) (eIo az [2] (cB (ak (eC (.int 2)) aJ)))) (tgT 2 (aQ (tgN 3) (aQ (tgN 5) eO))))))
 (bh (sFz 6 (cW (mW a_ (cF (eUp (aq false 6)) (cF (eUp (eAp gR (ak (aq false 6) aJ))) (cF (eIo dh [2] (cB aJ)) (cF (mW a_ (cF (eIo dh [2] (cB aJ)) (cB aJ))) (cB aJ)))))) (tgN 7)))
 (bh (ju (rR (ak (eC (.int 6)) aJ)) (tgN 8) (bh (cW (eIo dh [2] (cB aJ)) (tgN 9))
 (bh (yU (vW (yW (eB (e2 gNe (aq false 6) (eAp a_ aJ)))) (eeB (ee2 gEq (eIo az [2] (cB (ak (eC (.int 2)) aJ))) (eUp (eC (.int 0)))))) (bh (cW (ee2 gIx (eUp (aq false 6)) (eIo az [2] (cB (ak (eAp bW (ak (aq false 6) aJ)) aJ)))) (tgT 2 (aQ (tgN 10) (aQ (tgN 11) eO))))
 (cW (ee2 gIx (eUp (eAp a_ (ak (eAp bU (ak (aq false 10) (ak (e2 bH (aq false 11) (eC (.int 1))) aJ))) (ak (eAp bU (ak (aq false 10) (ak (e1 pN (aq false 11)) aJ))) (ak (eAp a_ (ak (aq false 10) (ak (aq false 11) aJ))) (ak (eAp bU (ak (aq false 10) (ak (aq false 11) (ak (eC (.int 0)) aJ)))) aJ)))))) (eIo az [2] (cB (ak (eC (.int 4)) aJ)))) (tgN 9))) iQ)
 (sFz 9 (u_ fB 7 (pF 7) (cF (eIo eV [2] (cB (ak (aq false 6) (ak (aq false 9) aJ)))) (cB aJ)))))))
 (sFz 7 (sIf (lZ (lD (eAp uR (ak (iY [none,some 3,some 5,some 4] (itS (aq false 7)) (tpN 0) eTT (eAp (eQ dF) (ak (aq false 1) (ak (aq false 2) (ak (aq false 3) (ak (aq false 0) aJ)))))) aJ)))) (gf (eC (.bl false))) iQ)))))))))))
 (gf (eC (.bl true)))))
def top(i:Nat):Stmt:=PySem.Challenge.pw_joinback_k07_numbers_shown.main.body.getD i (.Pass ⟨0,0,0,0⟩)
local macro_rules
 |`(tactic|trivial)=>`(tactic|exact⟨rfl,by decide +kernel,by decide +kernel,by decide +kernel,rfl,by decide +kernel⟩)
open PySem.W (Frag nsIn fnOf keepIn codeIn mg_of mg_none_of)
abbrev nl0:List Str:=["thing"]
abbrev nl1:List Str:=["_law_tape_here"]
abbrev nl2:List Str:=["_law_names_here","_law_joinings_here"]
abbrev nl3:List Str:=["_law_names_here","_law_joinings_here","_law_turn_here","_law_rows_here"]
abbrev nl4:List Str:=["_law_names_here","_law_joinings_here","_law_groups","_law_one","_law_other","_law_step","_law_first","_law_second"]
abbrev nl5:List Str:=["turn","n"]
abbrev nl6:List Str:=["_law_thing"]
abbrev nl7:List Str:=["_law_turn_here","_law_n"]
abbrev nl8:List Str:=["_law_script","_law_k"]
abbrev nl9:List Str:=["_law_tape_here","_law_many"]
abbrev JC:List Str:=["_law_tape_here","_law_names_here","_law_turn_here"]
abbrev Jy:List Str:=["_law_tape_here","_law_names_here","_law_joinings_here","_law_turn_here"]
abbrev Kl:List Str:=["_law_tape_here","_law_some","_law_thing"]
abbrev Kg:List Str:=["names","joinings","turn","rows","numbers"]
abbrev K5:List Str:=["names","joinings","turn","rows"]
abbrev KH:List Str:=["_law_script"]
abbrev Q5:List Str:=["_law_tape_here","_law_some","_law_first","_law_many"]
abbrev QX:List Str:=["_law_k","_law_some","_law_first"]
abbrev Qp:List Str:=["_law_tape_here","_law_names_here","_law_turn_here","_law_found","_law_wide","_law_kept","_law_slips","_law_turn_by","_law_one","_law_other","_law_way","_law_step"]
abbrev Qc:List Str:=["_law_name","_law_wide","_law_tape_here"]
abbrev Ri:List Str:=["_law_group","_law_first","_law_second"]
abbrev Rq:List Str:=["one","other","step","turn","numbers"]
abbrev Q4:List Str:=["_law_names_here","_law_joinings_here","_law_turn_here","_law_rows_here","_law_numbers_here","_law_row"]
abbrev Qh:List Str:=["_law_one","_law_other","_law_step","_law_turn_here","_law_numbers_here"]
abbrev Q9:List Str:=["_law_script","_law_k","_law_tape_here","_law_names_here","_law_turn_here","_law_joinings_here","_law_rows_here","_law_papers","_law_again","_law_thing","_law_name","_law_number"]
abbrev QH:List Str:=["_law_paper","_law_names_here","_law_joinings_here","_law_turn_here"]
abbrev ob0:Nat->Bool:=λi=>i==0
abbrev d9(P:Program)(w:World)(K:Frag)(mg:Str->Option Value)(base:Heap):Prop:=Cal P w K mg base 1 "_law_draw" nl9 (spI ⟨K,mg⟩ ob0 ob0 az)
abbrev jz(P:Program)(w:World)(K:Frag)(mg:Str->Option Value)(base:Heap):Prop:=Cal P w K mg base 1 "_law_classes" nl2 (spP ⟨K,mg⟩ bM)
abbrev l_(P:Program)(w:World)(K:Frag)(mg:Str->Option Value)(base:Heap):Prop:=Cal P w K mg base 2 "_law_numbers" nl2 (spP ⟨K,mg⟩ cX)
abbrev qP(P:Program)(w:World)(K:Frag)(mg:Str->Option Value)(base:Heap):Prop:=Cal P w K mg base 1 "is_couple" nl0 (spP ⟨K,mg⟩ cA)
abbrev rA(P:Program)(w:World)(K:Frag)(mg:Str->Option Value)(base:Heap):Prop:=Cal P w K mg base 1 "is_number" nl0 (spP ⟨K,mg⟩ dU)
abbrev qZ(P:Program)(w:World)(K:Frag)(mg:Str->Option Value)(base:Heap):Prop:=Cal P w K mg base 1 "is_listed" nl0 (spP ⟨K,mg⟩ d7)
abbrev vC(P:Program)(w:World)(K:Frag)(mg:Str->Option Value)(base:Heap):Prop:=Cal P w K mg base 1 "counted" nl5 (spP ⟨K,mg⟩ dZ)
abbrev lu(P:Program)(w:World)(K:Frag)(mg:Str->Option Value)(base:Heap):Prop:=Cal P w K mg base 2 "is_number_row" nl0 (spP ⟨K,mg⟩ bO)
abbrev mY(P:Program)(w:World)(K:Frag)(mg:Str->Option Value)(base:Heap):Prop:=Cal P w K mg base 1 "_law_is_int" nl6 (spP ⟨K,mg⟩ cI)
abbrev lX(P:Program)(w:World)(K:Frag)(mg:Str->Option Value)(base:Heap):Prop:=Cal P w K mg base 1 "_law_counted" nl7 (spP ⟨K,mg⟩ cz)
abbrev lq(P:Program)(w:World)(K:Frag)(mg:Str->Option Value)(base:Heap):Prop:=Cal P w K mg base 3 "shows_numbers" K5 (spP ⟨K,mg⟩ aW)
abbrev uL(P:Program)(w:World)(K:Frag)(mg:Str->Option Value)(base:Heap):Prop:=Cal P w K mg base 2 "_law_due" nl3 (spP ⟨K,mg⟩ cG)
abbrev qJ(P:Program)(w:World)(K:Frag)(mg:Str->Option Value)(base:Heap):Prop:=Cal P w K mg base 1 "_law_tape" nl8 (spP ⟨K,mg⟩ du)
abbrev oR(P:Program)(w:World)(K:Frag)(mg:Str->Option Value)(base:Heap):Prop:=Cal P w K mg base 2 "_law_names" nl1 (spI ⟨K,mg⟩ ob0 ob0 dW)
abbrev qR(P:Program)(w:World)(K:Frag)(mg:Str->Option Value)(base:Heap):Prop:=Cal P w K mg base 2 "_law_turn" nl1 (spI ⟨K,mg⟩ ob0 ob0 eX)
abbrev k_(P:Program)(w:World)(K:Frag)(mg:Str->Option Value)(base:Heap):Prop:=Cal P w K mg base 2 "_law_joinings" JC (spI ⟨K,mg⟩ ob0 ob0 bj)
abbrev qM(P:Program)(w:World)(K:Frag)(mg:Str->Option Value)(base:Heap):Prop:=Cal P w K mg base 3 "_law_rows" Jy (spI ⟨K,mg⟩ ob0 ob0 eG)
abbrev uN(P:Program)(w:World)(K:Frag)(mg:Str->Option Value)(base:Heap):Prop:=Cal P w K mg base 2 "_law_odd" nl1 (spI ⟨K,mg⟩ ob0 ob0 dh)
abbrev rm(P:Program)(w:World)(K:Frag)(mg:Str->Option Value)(base:Heap):Prop:=Cal P w K mg base 2 "_law_bent" Kl (spI ⟨K,mg⟩ ob0 ob0 eV)
abbrev qL(P:Program)(w:World)(K:Frag)(mg:Str->Option Value)(base:Heap):Prop:=Cal P w K mg base 4 "_law_says" nl3 (spP ⟨K,mg⟩ dF)
abbrev iB:Stmt:=top 9
abbrev il:Stmt:=top 10
abbrev fD:Stmt:=top 12
abbrev iC:Stmt:=top 13
abbrev dg:Stmt:=top 14
abbrev bJ:Stmt:=top 16
abbrev eY:Stmt:=top 17
abbrev ir:Stmt:=top 22
abbrev jh:Stmt:=top 18
abbrev iG:Stmt:=top 19
abbrev gm:Stmt:=top 4
abbrev jg:Stmt:=top 1
abbrev gF:Stmt:=top 5
abbrev gw:Stmt:=top 3
abbrev dq:Stmt:=top 6
abbrev bL:Stmt:=top 7
abbrev fH:Stmt:=top 20
abbrev eZ:Stmt:=top 15
abbrev iD:Stmt:=top 21
abbrev iw:Stmt:=top 23
abbrev m6:Stmt:=top 24
structure Blt(mg:Str->Option Value):Prop where
 abs:mg "abs"=none
 all:mg "all"=none
 bool_:mg "bool"=none
 dict:mg "dict"=none
 int_:mg "int"=none
 isinstance:mg "isinstance"=none
 len:mg "len"=none
 list_:mg "list"=none
 min:mg "min"=none
 range:mg "range"=none
 sorted:mg "sorted"=none
 str_:mg "str"=none
 tuple:mg "tuple"=none
theorem aM{k:Nat}{A:Around}(r:jd k A):A.units+1<cLine:=by have:=r.units;omega
theorem mF{k:Nat}{A:Around}(r:jd k A):A.units+2<cLine:=by have:=r.units;omega
section
variable{P:Program}{w:World}{K:Frag}{mg:Str->Option Value}{base:Heap}
theorem qK:bF ["_law_script","_law_k","_law_cell","_law_digits"] nl8 (aA iB):=⟨rfl,rfl,rfl,by decide +kernel,rfl,by decide +kernel,by decide +kernel⟩
theorem yZ{f:Addr}{fd:FuncData}(F:Fun K "_law_tape" "_law_tape" iB f fd)(B:Blt mg):e_ P w K mg base CX0 1 f fd nl8 (spP ⟨K,mg⟩ du):=by
 have nd:∀_:Unit,_:=λ_=>qK.nd;refine okP (k:=0) (ob:=(λi=>false)) (Pr:=λ_=>false) F qK λcdv A outer s H E hr=>?_;exact(aB (cC 2 nd au)
  (aB (eF (bA Rg (aj false 1) (aN d_ (λ_=>rfl) (λ_=>B.len) boot_len (aa (aj false 0) ao))) (aL (cC 2 nd (d8 (ixb (λ_=>aM hr)) (aj false 0) (aj false 1)))) cD)
  (aB (cC 3 nd (aY iR (aN Bq (λ_=>rfl) (λ_=>B.abs) boot_abs (aa (aj false 2) ao)) (iu J7 (λ_=>rfl) (λ_=>B.int_) boot_int (aa (qj Qx (aN Bq (λ_=>rfl) (λ_=>B.abs) boot_abs (aa (aj false 2) ao)) (aY xf au au)) ao))))
  (aL (bK (cL (aa (aj false 3) (aa (aY jW (aY iR (aY bG (aY bG (aY jW (aj false 2) au) (aY iR au (aj false 1))) au) au) au) ao))))))))
theorem rB:bF ["_law_tape_here","_law_many","_law_found","_law_once"] nl9 (aA il):=⟨rfl,rfl,rfl,by decide +kernel,rfl,by decide +kernel,by decide +kernel⟩
theorem zb{f:Addr}{fd:FuncData}(F:Fun K "_law_draw" "_law_draw" il f fd)(B:Blt mg):e_ P w K mg base CX0 1 f fd nl9 (spI ⟨K,mg⟩ ob0 ob0 az):=by
 have nd:∀_:Unit,_:=λ_=>rB.nd;refine okI (k:=0) (ob:=ob0) (pr:=ob0) F rB λcdv A outer s H E hr=>?_;exact(aB (eF (bA Ls (d8 (ixb (λ_=>aM hr)) (aj true 0) au) au) (aB (cC 2 nd (aY jW (d8 (ixb (λ_=>aM hr)) (aj true 0) au) (aj false 1)))
  (aB (mL (aY v6 (d8 (ixb (λ_=>aM hr)) (aj true 0) au) (aj false 1)) (mQ (mO (λ_=>aM hr)) (jf 0) au))
  (aL (jU 2)))) cD)
  (aB (mL (aY jW (aY bG (aY iR (d8 (ixb (λ_=>aM hr)) (aj true 0) au) au) au) au) (mQ (mO (λ_=>aM hr)) (jf 0) au))
  (aB (cC 3 nd (aY jW (aY iR (d8 (ixb (λ_=>aM hr)) (aj true 0) au) (aY bG (aY jW (d8 (ixb (λ_=>aM hr)) (aj true 0) au) au) au)) au))
  (aL (bK (aY jW (aY v6 (aj false 3) au) (aj false 1)))))))
theorem oJ:bF Q5 nl1 (aA fD):=⟨rfl,rfl,rfl,by decide +kernel,rfl,by decide +kernel,by decide +kernel⟩
def rE:Scope:={kind:=.function,names:=[(".0",.local),("_law_k",.local),("_law_first",.free),("_law_some",.free)],isGenerator:=false,isCoroutine:=false}
theorem uD:(QX:List Str).Nodup:=by decide +kernel
theorem uK:cQ (aA fD) Q5 QX rE [none,some 1,some 2]:=by trivial
theorem wu{f:Addr}{fd:FuncData}(F:Fun K "_law_names" "_law_names" fD f fd)(B:Blt mg)(c_law_draw:d9 P w K mg base):e_ P w K mg base CX0 2 f fd nl1 (spI ⟨K,mg⟩ ob0 ob0 dW):=by
 have nd:∀_:Unit,_:=λ_=>oJ.nd;refine okI (k:=1) (ob:=ob0) (pr:=ob0) F oJ λcdv A outer s H E hr=>?_;exact(aB (cC 1 nd (Qu Eu PySem.F.plainAttrs_str PySem.F.slot_str_split PySem.F.type_str_split jJ (aa jJ ao)))
  (aB (bV 2 nd (bw [0] (λ_=>c_law_draw) (λ_=>hr.mono (by decide)) (aU 0 (aV (aO (aa au ao))))))
  (aB (bV 3 nd (gQ (ixb (λ_=>aM hr)) (xH (bz (bw [0] (λ_=>c_law_draw) (λ_=>hr.mono (by decide)) (aU 0 (aV (aO (aa au ao))))) (bz (jH bG (bT au) (bw [0] (λ_=>c_law_draw) (λ_=>hr.mono (by decide)) (aU 0 (aV (aO (aa au ao)))))) (bz (jH bG (bT au) (bw [0] (λ_=>c_law_draw) (λ_=>hr.mono (by decide)) (aU 0 (aV (aO (aa au ao)))))) (aO ao))))) (Dq (ym (λ_=>rfl)) (λ_=>rfl) (λ_=>B.min) boot_min (bz (bT au) (bz (bw [0] (λ_=>c_law_draw) (λ_=>hr.mono (by decide)) (aU 0 (aV (aO (aa au ao))))) (aO ao))))))
  (aL (bK (iH [none,some 1,some 2] ob0 (λ_=>rfl) (λ_=>rfl) (λ_=>uK) (fV rfl) (Ak (λ_=>rfl) (λ_=>B.range) (aa (aj false 3) ao)) (bZ 0 (λ_=>uD)) gP (d8 (ixb (λ_=>aM hr)) (aj false 1) (aY jW (aY bG (aj false 2) (aY iR au (aj false 0))) au))))))))
theorem qW:bF nl1 nl1 (aA iC):=⟨rfl,rfl,rfl,by decide +kernel,rfl,by decide +kernel,by decide +kernel⟩
theorem ye{f:Addr}{fd:FuncData}(F:Fun K "_law_turn" "_law_turn" iC f fd)(B:Blt mg)(c_law_draw:d9 P w K mg base):e_ P w K mg base CX0 2 f fd nl1 (spI ⟨K,mg⟩ ob0 ob0 eX):=by
 have nd:∀_:Unit,_:=λ_=>qW.nd;refine okI (k:=1) (ob:=ob0) (pr:=ob0) F qW λcdv A outer s H E hr=>?_;exact(aL (yJ (gQ (ixb (λ_=>aM hr)) (bT (cL (aa au (aa au (aa au (aa au (aa au (aa au (aa au (aa au ao)))))))))) (bw [0] (λ_=>c_law_draw) (λ_=>hr.mono (by decide)) (aU 0 (aV (aO (aa au ao))))))))
theorem lr:bF Qp JC (aA dg):=⟨rfl,rfl,rfl,by decide +kernel,rfl,by decide +kernel,by decide +kernel⟩
def nJ:Scope:={kind:=.function,names:=[(".0",.local),("_law_name",.local),("_law_draw",.globalImplicit),("_law_tape_here",.free),("_law_wide",.free)],isGenerator:=false,isCoroutine:=false}
theorem oK:(Qc:List Str).Nodup:=by decide +kernel
theorem o5:cQ (aA dg) Qp Qc nJ [none,some 4,some 0]:=by trivial
theorem rM{f:Addr}{fd:FuncData}(F:Fun K "_law_joinings" "_law_joinings" dg f fd)(B:Blt mg)(c_law_draw:d9 P w K mg base):e_ P w K mg base CX0 2 f fd JC (spI ⟨K,mg⟩ ob0 ob0 bj):=by
 have nd:∀_:Unit,_:=λ_=>lr.nd;refine okI (k:=1) (ob:=ob0) (pr:=ob0) F lr λcdv A outer s H E hr=>?_;exact(aB (cC 3 nd (cL ao))
  (aB (bV 4 nd (gQ (ixb (λ_=>aM hr)) (bT (cL (aa au (aa au (aa au (aa au (aa au (aa (aY iR au (aY xf au au)) ao)))))))) (bw [0] (λ_=>c_law_draw) (λ_=>hr.mono (by decide)) (aU 0 (aV (aO (aa au ao)))))))
  (aB (bV 5 nd (Bd (yQ (λ_=>rfl)) (λ_=>rfl) (λ_=>B.dict) boot_dict (bz (HB [none,some 4,some 0] ob0 (λ_=>rfl) (λ_=>rfl) (λ_=>o5) (Ji rfl) (fV rfl) (di (aj false 1)) (Du 0 (λ_=>oK)) gP (Ce (bz (bT (aj false 0)) (bz (jH lO (bw [2] (λ_=>c_law_draw) (λ_=>hr.mono (by decide)) (aU 2 (aV (aO (aa (aY iR au (aj false 1)) ao))))) (bT (aj false 1))) (aO ao))))) (aO ao))))
  (aB (bV 6 nd (gQ (ixb (λ_=>aM hr)) (bT (cL (aa au (aa au (aa au (aa au ao)))))) (bw [0] (λ_=>c_law_draw) (λ_=>hr.mono (by decide)) (aU 0 (aV (aO (aa au ao)))))))
  (aB (IK (λ_=>PassesOwn.never) (λ_=>rfl) (Js (λ_=>rfl) (λ_=>B.range) (bz (bw [0] (λ_=>c_law_draw) (λ_=>hr.mono (by decide)) (aU 0 (aV (aO (aa (aY bG (aY iR au (aN d_ (λ_=>rfl) (λ_=>B.len) boot_len (aa (aj false 1) ao))) au) ao))))) (aO ao))) (bB 7 nd) (aB (Gg 8 9 (λ_=>rfl) nd (bz (gQ (ixb (λ_=>aM hr)) (bT (aj false 1)) (bw [0] (λ_=>c_law_draw) (λ_=>hr.mono (by decide)) (aU 0 (aV (aO (aa (aN d_ (λ_=>rfl) (λ_=>B.len) boot_len (aa (aj false 1) ao)) ao)))))) (bz (gQ (ixb (λ_=>aM hr)) (bT (aj false 1)) (bw [0] (λ_=>c_law_draw) (λ_=>hr.mono (by decide)) (aU 0 (aV (aO (aa (aN d_ (λ_=>rfl) (λ_=>B.len) boot_len (aa (aj false 1) ao)) ao)))))) (aO ao))))
  (aB (bV 10 nd (bw [0] (λ_=>c_law_draw) (λ_=>hr.mono (by decide)) (aU 0 (aV (aO (aa au ao))))))
  (aB (eF (bA (cb_eq _ (λ_=>rfl) hr.units) (aj false 10) au) (aL (cC 9 nd (aj false 8))) cD)
  (aB (eF (qX (o9 (bA (cb_eq _ (λ_=>rfl) hr.units) (aj false 10) au) (lF (bA (m9 _ (λ_=>rfl) hr.units) (aj false 3) (cL ao))))) (aL (ph (vp slb (gQ (ixb (λ_=>aM hr)) (bT (aj false 3)) (bw [0] (λ_=>c_law_draw) (λ_=>hr.mono (by decide)) (aU 0 (aV (aO (aa (aN d_ (λ_=>rfl) (λ_=>B.len) boot_len (aa (aj false 3) ao)) ao)))))) fU (eU au)) (mH (λ_=>rfl) (cH (bB 8 nd) (cH (bB 9 nd) jR))))) cD)
  (aB (eF (qX (o9 (bA (cb_eq _ (λ_=>rfl) hr.units) (aj false 10) au) (lF (bA (m9 _ (λ_=>rfl) hr.units) (aj false 3) (cL ao))))) (aL (ph (vp slb (gQ (ixb (λ_=>aM hr)) (bT (aj false 3)) (bw [0] (λ_=>c_law_draw) (λ_=>hr.mono (by decide)) (aU 0 (aV (aO (aa (aN d_ (λ_=>rfl) (λ_=>B.len) boot_len (aa (aj false 3) ao)) ao)))))) fU (eU au)) (mH (λ_=>rfl) (cH (bB 9 nd) (cH (bB 8 nd) jR))))) cD)
  (aB (bV 11 nd (jH bG (bT (aY lO (d8 (ixb (λ_=>aM hr)) (aj false 5) (aj false 9)) (d8 (ixb (λ_=>aM hr)) (aj false 5) (aj false 8)))) (jH iR (bT (aj false 2)) (jH lO (bw [0] (λ_=>c_law_draw) (λ_=>hr.mono (by decide)) (aU 0 (aV (aO (aa au ao))))) (bT au)))))
  (aB (BW (Iz (yf (Bs (bA Ls (aj false 6) au)) (vQ (yH (cb_eq _ (λ_=>rfl) hr.units) (bw [0] (λ_=>c_law_draw) (λ_=>hr.mono (by decide)) (aU 0 (aV (aO (aa (aj false 6) ao))))) (bT au))))) (aL (bV 11 nd (jH bG (bT (aj false 11)) (gQ (ixb (λ_=>aM hr)) (bT (cL (aa au (aa (Cu wK au) (aa au (aa (aY xf au au) ao)))))) (bw [0] (λ_=>c_law_draw) (λ_=>hr.mono (by decide)) (aU 0 (aV (aO (aa au ao))))))))) cD)
  (aL (JT uA PySem.F.plainAttrs_list PySem.F.slot_list_append PySem.F.type_list_append (jf 3) (aa (dI (aa (aj false 8) (aa (aj false 9) (aa (aj false 11) ao)))) ao)))))))))))
  (aL (jU 3)))))))
theorem lV:bF nl4 nl2 (aA bJ):=⟨rfl,rfl,rfl,by decide +kernel,rfl,by decide +kernel,by decide +kernel⟩
def oO:Scope:={kind:=.function,names:=[(".0",.local),("_law_name",.local)],isGenerator:=false,isCoroutine:=false}
theorem qy:(["_law_name"]:List Str).Nodup:=by decide +kernel
theorem qt:cQ (aA bJ) nl4 ["_law_name"] oO [none]:=by trivial
def o4:Scope:={kind:=.function,names:=[(".0",.local),("_law_group",.local),("_law_one",.free)],isGenerator:=false,isCoroutine:=false}
theorem qF:(["_law_group","_law_one"]:List Str).Nodup:=by decide +kernel
theorem qe:cQ (aA bJ) nl4 ["_law_group","_law_one"] o4 [none,some 3]:=by trivial
def oM:Scope:={kind:=.function,names:=[(".0",.local),("_law_group",.local),("_law_other",.free)],isGenerator:=false,isCoroutine:=false}
theorem qD:(["_law_group","_law_other"]:List Str).Nodup:=by decide +kernel
theorem pY:cQ (aA bJ) nl4 ["_law_group","_law_other"] oM [none,some 4]:=by trivial
def oN:Scope:={kind:=.function,names:=[(".0",.local),("_law_group",.local),("_law_first",.free),("_law_second",.free)],isGenerator:=false,isCoroutine:=false}
theorem pI:(Ri:List Str).Nodup:=by decide +kernel
theorem pW:cQ (aA bJ) nl4 Ri oN [none,some 6,some 7]:=by trivial
def oA:Scope:={kind:=.function,names:=[(".0",.local),("_law_group",.local),("sorted",.globalImplicit)],isGenerator:=false,isCoroutine:=false}
theorem pP:(["_law_group"]:List Str).Nodup:=by decide +kernel
theorem pR:cQ (aA bJ) nl4 ["_law_group"] oA [none]:=by trivial
theorem sX{f:Addr}{fd:FuncData}(F:Fun K "_law_classes" "_law_classes" bJ f fd)(B:Blt mg):e_ P w K mg base CX0 1 f fd nl2 (spP ⟨K,mg⟩ bM):=by
 have nd:∀_:Unit,_:=λ_=>lV.nd;refine okP (k:=0) (ob:=(λi=>false)) (Pr:=λ_=>false) F lV λcdv A outer s H E hr=>?_;exact(aB (Ge 2 [none] ob0 nd (λ_=>rfl) (λ_=>rfl) (λ_=>qt) (fV rfl) (di (aj false 0)) (bZ 0 (λ_=>qy)) gP (cL (aa (aj false 0) ao)))
  (aB (iZ (λ_=>PassesOwn.never) (λ_=>rfl) (di (aj false 1)) (mH (λ_=>rfl) (cH (bB 3 nd) (cH (bB 4 nd) (cH (bB 5 nd) jR)))) (aB (jF 2 (cC 6 nd (d8 (ixb (λ_=>aM hr)) (iH [none,some 3] ob0 (λ_=>rfl) (λ_=>rfl) (λ_=>qe) (fV rfl) (di (aj false 2)) (bZ 0 (λ_=>qF)) (uC (bA (CP (λ_=>aM hr)) (aj false 1) (aj false 0))) (aj false 0)) au)))
  (aB (cC 7 nd (d8 (ixb (λ_=>aM hr)) (iH [none,some 4] ob0 (λ_=>rfl) (λ_=>rfl) (λ_=>pY) (fV rfl) (di (aj false 2)) (bZ 0 (λ_=>qD)) (uC (bA (CP (λ_=>aM hr)) (aj false 1) (aj false 0))) (aj false 0)) au))
  (aL (eF (bA (m9 _ (λ_=>rfl) hr.units) (aj false 6) (aj false 7)) (aL (cC 2 nd (aY bG (iH [none,some 6,some 7] ob0 (λ_=>rfl) (λ_=>rfl) (λ_=>pW) (fV rfl) (di (aj false 2)) (bZ 0 (λ_=>pI)) (uC (qX (o9 (bA (m9 _ (λ_=>rfl) hr.units) (aj false 0) (aj false 1)) (lF (bA (m9 _ (λ_=>rfl) hr.units) (aj false 0) (aj false 2)))))) (aj false 0)) (cL (aa (aY bG (aj false 6) (aj false 7)) ao))))) cD)))))
  (aL (bK (aN (gn _ (λ_=>rfl) (mF hr) (λ_=>rfl)) (λ_=>rfl) (λ_=>B.sorted) boot_sorted (aa (iH [none] ob0 (λ_=>rfl) (λ_=>rfl) (λ_=>pR) (fV rfl) (di (aj false 2)) (bZ 0 (λ_=>pP)) gP (aN (gn _ (λ_=>rfl) (mF hr) (λ_=>rfl)) (λ_=>rfl) (λ_=>B.sorted) boot_sorted (aa (aj false 0) ao))) ao))))))
theorem lU:bF ["_law_names_here","_law_joinings_here","_law_found","_law_group","_law_again","_law_one","_law_other","_law_step"] nl2 (aA eY):=⟨rfl,rfl,rfl,by decide +kernel,rfl,by decide +kernel,by decide +kernel⟩
theorem ut{f:Addr}{fd:FuncData}(F:Fun K "_law_numbers" "_law_numbers" eY f fd)(B:Blt mg)(c_law_classes:jz P w K mg base):e_ P w K mg base CX0 2 f fd nl2 (spP ⟨K,mg⟩ cX):=by
 have nd:∀_:Unit,_:=λ_=>lU.nd;refine okP (k:=1) (ob:=(λi=>false)) (Pr:=λ_=>false) F lU λcdv A outer s H E hr=>?_;exact(aB (cC 2 nd CT)
  (aB (iZ (λ_=>PassesOwn.never) (λ_=>rfl) (di (gM (λ_=>c_law_classes) (λ_=>hr.mono (by decide)) (aa (aj false 0) (aa (aj false 1) ao)))) (bB 3 nd) (aB (mL au (mQ (mO (λ_=>aM hr)) (jf 2) (d8 (ixb (λ_=>aM hr)) (aj false 3) au)))
  (aL (jF 3 (iZ (λ_=>PassesOwn.never) (λ_=>rfl) (di (aj false 3)) (bB 4 nd) (aL (iZ (λ_=>PassesOwn.never) (λ_=>rfl) (di (aj false 1)) (mH (λ_=>rfl) (cH (bB 5 nd) (cH (bB 6 nd) (cH (bB 7 nd) jR)))) (aB (eF (qX (o9 (bA (CP (λ_=>aM hr)) (aj false 5) (aj false 2)) (lF (bA (yj (λ_=>aM hr)) (aj false 6) (aj false 2))))) (aL (mL (aY bG (d8 (ixb (λ_=>aM hr)) (aj false 2) (aj false 5)) (aj false 7)) (mQ (mO (λ_=>aM hr)) (jf 2) (aj false 6)))) cD)
  (aL (eF (qX (o9 (bA (CP (λ_=>aM hr)) (aj false 6) (aj false 2)) (lF (bA (yj (λ_=>aM hr)) (aj false 5) (aj false 2))))) (aL (mL (aY lO (d8 (ixb (λ_=>aM hr)) (aj false 2) (aj false 6)) (aj false 7)) (mQ (mO (λ_=>aM hr)) (jf 2) (aj false 5)))) cD))))))))))
  (aL (jU 2))))
theorem qN:bF ["_law_tape_here","_law_names_here","_law_joinings_here","_law_turn_here","_law_numbers_here","_law_rows_here","_law_group","_law_off","_law_name","_law_row"] Jy (aA ir):=⟨rfl,rfl,rfl,by decide +kernel,rfl,by decide +kernel,by decide +kernel⟩
theorem zp{f:Addr}{fd:FuncData}(F:Fun K "_law_rows" "_law_rows" ir f fd)(B:Blt mg)(c_law_numbers:l_ P w K mg base)(c_law_classes:jz P w K mg base)(c_law_draw:d9 P w K mg base):e_ P w K mg base CX0 3 f fd Jy (spI ⟨K,mg⟩ ob0 ob0 eG):=by
 have nd:∀_:Unit,_:=λ_=>qN.nd;refine okI (k:=2) (ob:=ob0) (pr:=ob0) F qN λcdv A outer s H E hr=>?_;exact(aB (cC 4 nd (gM (λ_=>c_law_numbers) (λ_=>hr.mono (by decide)) (aa (aj false 1) (aa (aj false 2) ao))))
  (aB (cC 5 nd (cL ao))
  (aB (iZ (λ_=>PassesOwn.never) (λ_=>rfl) (di (gM (λ_=>c_law_classes) (λ_=>hr.mono (by decide)) (aa (aj false 1) (aa (aj false 2) ao)))) (bB 6 nd) (aB (bV 7 nd (gQ (ixb (λ_=>aM hr)) (bT (cL (aa au (aa au (aa (Cu wK (aY xf au au)) ao))))) (bw [0] (λ_=>c_law_draw) (λ_=>hr.mono (by decide)) (aU 0 (aV (aO (aa au ao)))))))
  (aL (jF 6 (iZ (λ_=>PassesOwn.never) (λ_=>rfl) (di (aj false 6)) (bB 8 nd) (aB (bV 9 nd (Ce (bz (bT (aj false 8)) (bz (jH bG (bT (aY bG (d8 (ixb (λ_=>aM hr)) (aj false 4) (aj false 8)) (aj false 7))) (jH iR (bT (aj false 3)) (jH lO (bw [0] (λ_=>c_law_draw) (λ_=>hr.mono (by decide)) (aU 0 (aV (aO (aa au ao))))) (bT au)))) (aO ao)))))
  (aL (yC Bf PySem.F.plainAttrs_list PySem.F.slot_list_insert PySem.F.type_list_insert (jf 5) (bz (bw [0] (λ_=>c_law_draw) (λ_=>hr.mono (by decide)) (aU 0 (aV (aO (aa (aY bG (aN d_ (λ_=>rfl) (λ_=>B.len) boot_len (aa (aj false 5) ao)) au) ao))))) (aO (aa (aj false 9) ao))) (show KpS 5 _ from by repeat first|exact FJ|exact Bt|apply yX|apply IV|apply Lq|apply LR|(apply Gb rfl)|apply G7)))))))))
  (aL (jU 5)))))
theorem uB:bF ["_law_tape_here","_law_some"] nl1 (aA jh):=⟨rfl,rfl,rfl,by decide +kernel,rfl,by decide +kernel,by decide +kernel⟩
theorem Bh{f:Addr}{fd:FuncData}(F:Fun K "_law_odd" "_law_odd" jh f fd)(B:Blt mg)(c_law_draw:d9 P w K mg base):e_ P w K mg base CX0 2 f fd nl1 (spI ⟨K,mg⟩ ob0 ob0 dh):=by
 have nd:∀_:Unit,_:=λ_=>uB.nd;refine okI (k:=1) (ob:=ob0) (pr:=ob0) F uB λcdv A outer s H E hr=>?_;exact(aB (cC 1 nd (cL (aa Bj (aa lE (aa lE (aa au (aa (Cu wK au) (aa au (aa jJ (aa jJ (aa jJ (aa (dI ao) (aa (cL ao) (aa (dI (aa au ao)) (aa (dI (aa au (aa au ao))) (aa (dI (aa au (aa au ao))) (aa (dI (aa lE (aa au ao))) (aa (dI (aa au (aa lE ao))) (aa (cL (aa au (aa au ao))) ao)))))))))))))))))))
  (aB (jF 1 (cC 1 nd (aY bG (aj false 1) (cL (aa (dI (aa au (aa au (aa au ao)))) (aa (dI (aa jJ (aa au ao))) (aa (cL (aa jJ (aa au ao))) (aa (dI (aa (dI (aa jJ (aa au ao))) ao)) (aa (cL (aa (cL ao) ao)) (aa (dI (aa jJ (aa Bj ao))) (aa (dI (aa Bj (aa au ao))) (aa (dI (aa jJ (aa au ao))) ao))))))))))))
  (aL (jF 1 (yJ (gQ (ixb (λ_=>aM hr)) (bT (aj false 1)) (bw [0] (λ_=>c_law_draw) (λ_=>hr.mono (by decide)) (aU 0 (aV (aO (aa (aN d_ (λ_=>rfl) (λ_=>B.len) boot_len (aa (aj false 1) ao)) ao)))))))))))
theorem rC:bF ["_law_tape_here","_law_some","_law_thing","_law_at","_law_way"] Kl (aA iG):=⟨rfl,rfl,rfl,by decide +kernel,rfl,by decide +kernel,by decide +kernel⟩
theorem zr{f:Addr}{fd:FuncData}(F:Fun K "_law_bent" "_law_bent" iG f fd)(B:Blt mg)(c_law_draw:d9 P w K mg base):e_ P w K mg base CX0 2 f fd Kl (spI ⟨K,mg⟩ ob0 ob0 eV):=by
 have nd:∀_:Unit,_:=λ_=>rC.nd;refine okI (k:=1) (ob:=ob0) (pr:=ob0) F rC λcdv A outer s H E hr=>?_;exact(aB (bV 3 nd (bw [0] (λ_=>c_law_draw) (λ_=>hr.mono (by decide)) (aU 0 (aV (aO (aa (aY bG (aN d_ (λ_=>rfl) (λ_=>B.len) boot_len (aa (aj false 1) ao)) au) ao))))))
  (aB (bV 4 nd (bw [0] (λ_=>c_law_draw) (λ_=>hr.mono (by decide)) (aU 0 (aV (aO (aa au ao))))))
  (aB (eF (bA (cb_eq _ (λ_=>rfl) hr.units) (aj false 4) au) (aL (bK (aY bG (gY slb (aj false 1) fU (eU (aj false 3))) (gY slb (aj false 1) (eU (aY bG (aj false 3) au)) fU)))) cD)
  (aB (eF (bA (cb_eq _ (λ_=>rfl) hr.units) (aj false 4) au) (aL (bK (aY bG (aY bG (gY slb (aj false 1) fU (eU (aj false 3))) (gY slb (aj false 1) (eU (aj false 3)) (eU (aY bG (aj false 3) au)))) (gY slb (aj false 1) (eU (aj false 3)) fU)))) cD)
  (aB (eF (bA (cb_eq _ (λ_=>rfl) hr.units) (aj false 4) au) (aL (bK (aY bG (aY bG (gY slb (aj false 1) fU (eU (aj false 3))) (cL (aa (aj false 2) ao))) (gY slb (aj false 1) (eU (aY bG (aj false 3) au)) fU)))) cD)
  (aL (bK (aY bG (aY bG (gY slb (aj false 1) fU (eU (aj false 3))) (cL (aa (aj false 2) ao))) (gY slb (aj false 1) (eU (aj false 3)) fU)))))))))
theorem pA:bF nl0 nl0 (aA gm):=⟨rfl,rfl,rfl,by decide +kernel,rfl,by decide +kernel,by decide +kernel⟩
theorem wR{f:Addr}{fd:FuncData}(F:Fun K "is_listed" "is_listed" gm f fd)(B:Blt mg):e_ P w K mg base CX0 1 f fd nl0 (spP ⟨K,mg⟩ d7):=by
 have nd:∀_:Unit,_:=λ_=>pA.nd;refine okP (k:=0) (ob:=(λi=>false)) (Pr:=λ_=>false) F pA λcdv A outer s H E hr=>?_;exact(aL (bK (aN cY (λ_=>rfl) (λ_=>B.isinstance) boot_isinstance (aa (aj false 0) (aa (dI (aa (jT (λ_=>rfl) (λ_=>B.list_) boot_list) (aa (jT (λ_=>rfl) (λ_=>B.tuple) boot_tuple) ao))) ao)))))
theorem um:bF nl5 nl5 (aA jg):=⟨rfl,rfl,rfl,by decide +kernel,rfl,by decide +kernel,by decide +kernel⟩
theorem Be{f:Addr}{fd:FuncData}(F:Fun K "counted" "counted" jg f fd)(B:Blt mg):e_ P w K mg base CX0 1 f fd nl5 (spP ⟨K,mg⟩ dZ):=by
 have nd:∀_:Unit,_:=λ_=>um.nd;refine okP (k:=0) (ob:=(λi=>false)) (Pr:=λ_=>false) F um λcdv A outer s H E hr=>?_;exact(aB (eF (bA (cb_eq _ (λ_=>rfl) hr.units) (aj false 0) au) (aL (jU 1)) cD)
  (aL (bK (aY jW (aj false 1) (aj false 0)))))
theorem oH:bF nl0 nl0 (aA gF):=⟨rfl,rfl,rfl,by decide +kernel,rfl,by decide +kernel,by decide +kernel⟩
theorem v7{f:Addr}{fd:FuncData}(F:Fun K "is_couple" "is_couple" gF f fd)(B:Blt mg):e_ P w K mg base CX0 1 f fd nl0 (spP ⟨K,mg⟩ cA):=by
 have nd:∀_:Unit,_:=λ_=>oH.nd;refine okP (k:=0) (ob:=(λi=>false)) (Pr:=λ_=>false) F oH λcdv A outer s H E hr=>?_;exact(aL (bK (nM (aN cY (λ_=>rfl) (λ_=>B.isinstance) boot_isinstance (aa (aj false 0) (aa (jT (λ_=>rfl) (λ_=>B.tuple) boot_tuple) ao))) (t6 (qj (cb_eq _ (λ_=>rfl) hr.units) (aN d_ (λ_=>rfl) (λ_=>B.len) boot_len (aa (aj false 0) ao)) au)))))
theorem oh:bF nl0 nl0 (aA gw):=⟨rfl,rfl,rfl,by decide +kernel,rfl,by decide +kernel,by decide +kernel⟩
theorem vX{f:Addr}{fd:FuncData}(F:Fun K "is_number" "is_number" gw f fd)(B:Blt mg):e_ P w K mg base CX0 1 f fd nl0 (spP ⟨K,mg⟩ dU):=by
 have nd:∀_:Unit,_:=λ_=>oh.nd;refine okP (k:=0) (ob:=(λi=>false)) (Pr:=λ_=>false) F oh λcdv A outer s H E hr=>?_;exact(aL (bK (nM (aN cY (λ_=>rfl) (λ_=>B.isinstance) boot_isinstance (aa (aj false 0) (aa (jT (λ_=>rfl) (λ_=>B.int_) boot_int) ao))) (t6 (Hi (aN cY (λ_=>rfl) (λ_=>B.isinstance) boot_isinstance (aa (aj false 0) (aa (jT (λ_=>rfl) (λ_=>B.bool_) boot_bool) ao))))))))
theorem jV:bF nl0 nl0 (aA dq):=⟨rfl,rfl,rfl,by decide +kernel,rfl,by decide +kernel,by decide +kernel⟩
theorem qH{f:Addr}{fd:FuncData}(F:Fun K "is_number_row" "is_number_row" dq f fd)(B:Blt mg)(c_is_couple:qP P w K mg base)(c_is_number:rA P w K mg base):e_ P w K mg base CX0 2 f fd nl0 (spP ⟨K,mg⟩ bO):=by
 have nd:∀_:Unit,_:=λ_=>jV.nd;refine okP (k:=1) (ob:=(λi=>false)) (Pr:=λ_=>false) F jV λcdv A outer s H E hr=>?_;exact(aL (bK (nM (gM (λ_=>c_is_couple) (λ_=>hr.mono (by decide)) (aa (aj false 0) ao)) (nM (aN cY (λ_=>rfl) (λ_=>B.isinstance) boot_isinstance (aa (d8 (ixb (λ_=>aM hr)) (aj false 0) au) (aa (jT (λ_=>rfl) (λ_=>B.str_) boot_str) ao))) (t6 (gM (λ_=>c_is_number) (λ_=>hr.mono (by decide)) (aa (d8 (ixb (λ_=>aM hr)) (aj false 0) au) ao)))))))
theorem jN:bF Kg K5 (aA bL):=⟨rfl,rfl,rfl,by decide +kernel,rfl,by decide +kernel,by decide +kernel⟩
def mU:Scope:={kind:=.function,names:=[(".0",.local),("row",.local),("is_number_row",.globalImplicit)],isGenerator:=false,isCoroutine:=false}
theorem n6:(["row"]:List Str).Nodup:=by decide +kernel
theorem nW:cQ (aA bL) Kg ["row"] mU [none]:=by trivial
def mV:Scope:={kind:=.function,names:=[(".0",.local),("name",.local),("number",.local)],isGenerator:=false,isCoroutine:=false}
theorem jA:(["name","number"]:List Str).Nodup:=by decide +kernel
theorem nu:cQ (aA bL) Kg ["name","number"] mV [none,none]:=by trivial
def mR:Scope:={kind:=.function,names:=[(".0",.local),("one",.local),("other",.local),("step",.local),("counted",.globalImplicit),("numbers",.free),("turn",.free)],isGenerator:=false,isCoroutine:=false}
theorem fZ:(Rq:List Str).Nodup:=by decide +kernel
theorem nY:cQ (aA bL) Kg Rq mR [none,none,none,some 2,some 4]:=by trivial
theorem qC{f:Addr}{fd:FuncData}(F:Fun K "shows_numbers" "shows_numbers" bL f fd)(B:Blt mg)(c_is_listed:qZ P w K mg base)(c_counted:vC P w K mg base)(c_is_number_row:lu P w K mg base):e_ P w K mg base CX0 3 f fd K5 (spP ⟨K,mg⟩ aW):=by
 have nd:∀_:Unit,_:=λ_=>jN.nd;refine okP (k:=2) (ob:=(λi=>false)) (Pr:=λ_=>false) F jN λcdv A outer s H E hr=>?_;exact(aB (eF (qX (t7 (kE (j7 (gM (λ_=>c_is_listed) (λ_=>hr.mono (by decide)) (aa (aj false 3) ao)))) (v9 (kE (j7 (aN (sr (λ_=>rfl)) (λ_=>rfl) (λ_=>B.all) boot_all (aa (iH [none] ob0 (λ_=>rfl) (λ_=>rfl) (λ_=>nW) (fV rfl) (di (aj false 3)) (bZ 0 (λ_=>n6)) gP (gM (λ_=>c_is_number_row) (λ_=>hr.mono (by decide)) (aa (aj false 0) ao))) ao))))))) (aL (bK lE)) cD)
  (aB (eF (bA (m9 _ (λ_=>rfl) hr.units) (aN (gn _ (λ_=>rfl) (mF hr) (λ_=>rfl)) (λ_=>rfl) (λ_=>B.sorted) boot_sorted (aa (iH [none,none] (λi=>i==0||i==1) (λ_=>rfl) (λ_=>rfl) (λ_=>nu) (fV rfl) (di (aj false 3)) (sS (λ_=>rfl) (fu (bZ 0 (λ_=>jA)) (fu (bZ 1 (λ_=>jA)) qx))) gP (aj false 0)) ao)) (aN (gn _ (λ_=>rfl) (mF hr) (λ_=>rfl)) (λ_=>rfl) (λ_=>B.sorted) boot_sorted (aa (aj false 0) ao))) (aL (bK lE)) cD)
  (aB (cC 4 nd (iu (DK (λ_=>rfl)) (λ_=>rfl) (λ_=>B.dict) boot_dict (aa (aj false 3) ao)))
  (aL (bK (aN (sr (λ_=>rfl)) (λ_=>rfl) (λ_=>B.all) boot_all (aa (iH [none,none,none,some 2,some 4] (λi=>i==0||i==1||i==2) (λ_=>rfl) (λ_=>rfl) (λ_=>nY) (fV rfl) (di (aj false 1)) (sS (λ_=>rfl) (fu (bZ 0 (λ_=>fZ)) (fu (bZ 1 (λ_=>fZ)) (fu (bZ 2 (λ_=>fZ)) qx)))) gP (qj (cb_eq _ (λ_=>rfl) hr.units) (gM (λ_=>c_counted) (λ_=>hr.mono (by decide)) (aa (aj false 3) (aa (aY lO (aY bG (d8 (ixb (λ_=>aM hr)) (aj false 4) (aj false 0)) (aj false 2)) (d8 (ixb (λ_=>aM hr)) (aj false 4) (aj false 1))) ao))) au)) ao)))))))
theorem m5:bF nl6 nl6 (aA fH):=⟨rfl,rfl,rfl,by decide +kernel,rfl,by decide +kernel,by decide +kernel⟩
theorem uZ{f:Addr}{fd:FuncData}(F:Fun K "_law_is_int" "_law_is_int" fH f fd)(B:Blt mg):e_ P w K mg base CX0 1 f fd nl6 (spP ⟨K,mg⟩ cI):=by
 have nd:∀_:Unit,_:=λ_=>m5.nd;refine okP (k:=0) (ob:=(λi=>false)) (Pr:=λ_=>false) F m5 λcdv A outer s H E hr=>?_;exact(aL (bK (nM (aN cY (λ_=>rfl) (λ_=>B.isinstance) boot_isinstance (aa (aj false 0) (aa (jT (λ_=>rfl) (λ_=>B.int_) boot_int) ao))) (t6 (Hi (aN cY (λ_=>rfl) (λ_=>B.isinstance) boot_isinstance (aa (aj false 0) (aa (jT (λ_=>rfl) (λ_=>B.bool_) boot_bool) ao))))))))
theorem mj:bF nl7 nl7 (aA eZ):=⟨rfl,rfl,rfl,by decide +kernel,rfl,by decide +kernel,by decide +kernel⟩
theorem tK{f:Addr}{fd:FuncData}(F:Fun K "_law_counted" "_law_counted" eZ f fd)(B:Blt mg):e_ P w K mg base CX0 1 f fd nl7 (spP ⟨K,mg⟩ cz):=by
 have nd:∀_:Unit,_:=λ_=>mj.nd;refine okP (k:=0) (ob:=(λi=>false)) (Pr:=λ_=>false) F mj λcdv A outer s H E hr=>?_;exact(aB (eF (bA (cb_eq _ (λ_=>rfl) hr.units) (aj false 0) au) (aL (jU 1)) cD)
  (aL (bK (aY lO (aj false 1) (aY iR (aY v6 (aj false 1) (aj false 0)) (aj false 0))))))
theorem uI:bF Q4 nl3 (aA iD):=⟨rfl,rfl,rfl,by decide +kernel,rfl,by decide +kernel,by decide +kernel⟩
def u0:Scope:={kind:=.function,names:=[(".0",.local),("_law_one",.local),("_law_other",.local),("_law_step",.local),("_law_counted",.globalImplicit),("_law_numbers_here",.free),("_law_turn_here",.free)],isGenerator:=false,isCoroutine:=false}
theorem jY:(Qh:List Str).Nodup:=by decide +kernel
theorem wI:cQ (aA iD) Q4 Qh u0 [none,none,none,some 2,some 4]:=by trivial
theorem Ao{f:Addr}{fd:FuncData}(F:Fun K "_law_due" "_law_due" iD f fd)(B:Blt mg)(c_law_is_int:mY P w K mg base)(c_law_counted:lX P w K mg base):e_ P w K mg base CX0 2 f fd nl3 (spP ⟨K,mg⟩ cG):=by
 have nd:∀_:Unit,_:=λ_=>uI.nd;refine okP (k:=1) (ob:=(λi=>false)) (Pr:=λ_=>false) F uI λcdv A outer s H E hr=>?_;exact(aB (eF (kE (j7 (aN cY (λ_=>rfl) (λ_=>B.isinstance) boot_isinstance (aa (aj false 3) (aa (dI (aa (jT (λ_=>rfl) (λ_=>B.list_) boot_list) (aa (jT (λ_=>rfl) (λ_=>B.tuple) boot_tuple) ao))) ao))))) (aL (bK lE)) cD)
  (aB (cC 4 nd CT)
  (aB (iZ (λ_=>PassesOwn.never) (λ_=>rfl) (di (aj false 3)) (bB 5 nd) (aB (eF (qX (t7 (kE (j7 (aN cY (λ_=>rfl) (λ_=>B.isinstance) boot_isinstance (aa (aj false 5) (aa (jT (λ_=>rfl) (λ_=>B.tuple) boot_tuple) ao))))) (t7 (bA (m9 _ (λ_=>rfl) hr.units) (aN d_ (λ_=>rfl) (λ_=>B.len) boot_len (aa (aj false 5) ao)) au) (t7 (kE (j7 (aN cY (λ_=>rfl) (λ_=>B.isinstance) boot_isinstance (aa (d8 (ixb (λ_=>aM hr)) (aj false 5) au) (aa (jT (λ_=>rfl) (λ_=>B.str_) boot_str) ao))))) (v9 (kE (j7 (gM (λ_=>c_law_is_int) (λ_=>hr.mono (by decide)) (aa (d8 (ixb (λ_=>aM hr)) (aj false 5) au) ao))))))))) (aL (bK lE)) cD)
  (aL (mL (d8 (ixb (λ_=>aM hr)) (aj false 5) au) (mQ (mO (λ_=>aM hr)) (jf 4) (d8 (ixb (λ_=>aM hr)) (aj false 5) au))))))
  (aB (eF (qX (t7 (bA (m9 _ (λ_=>rfl) hr.units) (aN (gn _ (λ_=>rfl) (mF hr) (λ_=>rfl)) (λ_=>rfl) (λ_=>B.sorted) boot_sorted (aa (aj false 4) ao)) (aN (gn _ (λ_=>rfl) (mF hr) (λ_=>rfl)) (λ_=>rfl) (λ_=>B.sorted) boot_sorted (aa (aj false 0) ao))) (v9 (bA (m9 _ (λ_=>rfl) hr.units) (aN d_ (λ_=>rfl) (λ_=>B.len) boot_len (aa (aj false 3) ao)) (aN d_ (λ_=>rfl) (λ_=>B.len) boot_len (aa (aj false 0) ao)))))) (aL (bK lE)) cD)
  (aL (bK (aN (sr (λ_=>rfl)) (λ_=>rfl) (λ_=>B.all) boot_all (aa (iH [none,none,none,some 2,some 4] (λi=>i==0||i==1||i==2) (λ_=>rfl) (λ_=>rfl) (λ_=>wI) (fV rfl) (di (aj false 1)) (sS (λ_=>rfl) (fu (bZ 0 (λ_=>jY)) (fu (bZ 1 (λ_=>jY)) (fu (bZ 2 (λ_=>jY)) qx)))) gP (qj (cb_eq _ (λ_=>rfl) hr.units) (gM (λ_=>c_law_counted) (λ_=>hr.mono (by decide)) (aa (aj false 3) (aa (aY lO (aY bG (d8 (ixb (λ_=>aM hr)) (aj false 4) (aj false 0)) (aj false 2)) (d8 (ixb (λ_=>aM hr)) (aj false 4) (aj false 1))) ao))) au)) ao))))))))
theorem qQ:bF ["_law_names_here","_law_joinings_here","_law_turn_here","_law_rows_here","_law_kept","_law_found"] nl3 (aA iw):=⟨rfl,rfl,rfl,by decide +kernel,rfl,by decide +kernel,by decide +kernel⟩
theorem zu{f:Addr}{fd:FuncData}(F:Fun K "_law_says" "_law_says" iw f fd)(B:Blt mg)(c_shows_numbers:lq P w K mg base)(c_law_due:uL P w K mg base):e_ P w K mg base CX0 4 f fd nl3 (spP ⟨K,mg⟩ dF):=by
 have nd:∀_:Unit,_:=λ_=>qQ.nd;refine okP (k:=3) (ob:=(λi=>false)) (Pr:=λ_=>false) F qQ λcdv A outer s H E hr=>?_;exact(aB (cC 4 nd (iu (Cm _ (λ_=>rfl) hr.gd hr.units) (λ_=>rfl) (λ_=>B.str_) boot_str (aa (aj false 3) ao)))
  (aB (cC 5 nd (gM (λ_=>c_shows_numbers) (λ_=>hr.mono (by decide)) (aa (aj false 0) (aa (aj false 1) (aa (aj false 2) (aa (aj false 3) ao))))))
  (aL (bK (nM (aN cY (λ_=>rfl) (λ_=>B.isinstance) boot_isinstance (aa (aj false 5) (aa (jT (λ_=>rfl) (λ_=>B.bool_) boot_bool) ao))) (nM (qj (cb_eq _ (λ_=>rfl) hr.units) (aj false 5) (gM (λ_=>c_law_due) (λ_=>hr.mono (by decide)) (aa (aj false 0) (aa (aj false 1) (aa (aj false 2) (aa (aj false 3) ao)))))) (t6 (qj (cb_eq _ (λ_=>rfl) hr.units) (iu (Cm _ (λ_=>rfl) hr.gd hr.units) (λ_=>rfl) (λ_=>B.str_) boot_str (aa (aj false 3) ao)) (aj false 4)))))))))
theorem Fz:bF Q9 KH (aA m6):=⟨rfl,rfl,rfl,by decide +kernel,rfl,by decide +kernel,by decide +kernel⟩
def Ea:Scope:={kind:=.function,names:=[(".0",.local),("_law_paper",.local),("_law_says",.globalImplicit),("_law_joinings_here",.free),("_law_names_here",.free),("_law_turn_here",.free)],isGenerator:=false,isCoroutine:=false}
theorem Fq:(QH:List Str).Nodup:=by decide +kernel
theorem E_:cQ (aA m6) Q9 QH Ea [none,some 3,some 5,some 4]:=by trivial
theorem Np{f:Addr}{fd:FuncData}(F:Fun K "law" "law" m6 f fd)(B:Blt mg)(c_law_tape:qJ P w K mg base)(c_law_names:oR P w K mg base)(c_law_turn:qR P w K mg base)(c_law_joinings:k_ P w K mg base)(c_law_rows:qM P w K mg base)(c_law_draw:d9 P w K mg base)(c_law_odd:uN P w K mg base)(c_law_bent:rm P w K mg base)(c_law_says:qL P w K mg base):e_ P w K mg base CX0 5 f fd KH (spP ⟨K,mg⟩ j0):=by
 have nd:∀_:Unit,_:=λ_=>Fz.nd;refine okP (k:=4) (ob:=(λi=>i==2)) (Pr:=λ_=>false) F Fz λcdv A outer s H E hr=>?_;exact(aB (iZ (λ_=>PassesOwn.never) (λ_=>rfl) (Ak (λ_=>rfl) (λ_=>B.range) (aa (aY bG au (aN (ym (λ_=>rfl)) (λ_=>rfl) (λ_=>B.min) boot_min (aa au (aa (aN d_ (λ_=>rfl) (λ_=>B.len) boot_len (aa (aj false 0) ao)) ao)))) ao)) (bB 1 nd) (aB (cC 2 nd (gM (λ_=>c_law_tape) (λ_=>hr.mono (by decide)) (aa (aj false 0) (aa (aj false 1) ao))))
  (aB (bV 3 nd (bw [2] (λ_=>c_law_names) (λ_=>hr.mono (by decide)) (aU 2 (aV (aO ao)))))
  (aB (bV 4 nd (bw [2] (λ_=>c_law_turn) (λ_=>hr.mono (by decide)) (aU 2 (aV (aO ao)))))
  (aB (bV 5 nd (bw [2] (λ_=>c_law_joinings) (λ_=>hr.mono (by decide)) (aU 2 (aV (aO (aa (aj false 3) (aa (aj false 4) ao)))))))
  (aB (bV 6 nd (bw [2] (λ_=>c_law_rows) (λ_=>hr.mono (by decide)) (aU 2 (aV (aO (aa (aj false 3) (aa (aj false 5) (aa (aj false 4) ao))))))))
  (aB (jF 5 (jF 3 (ph (gQ (ixb (λ_=>aM hr)) (bT (cL (aa (dI (aa (aj false 3) (aa (aj false 5) ao))) (aa (dI (aa (iu pK (λ_=>rfl) (λ_=>B.tuple) boot_tuple (aa (aj false 3) ao)) (aa (iu pK (λ_=>rfl) (λ_=>B.tuple) boot_tuple (aa (aj false 5) ao)) ao))) ao)))) (bw [2] (λ_=>c_law_draw) (λ_=>hr.mono (by decide)) (aU 2 (aV (aO (aa au ao)))))) (mH (λ_=>rfl) (cH (bB 3 nd) (cH (bB 5 nd) jR))))))
  (aB (jF 6 (bV 7 nd (xH (bz (bT (aj false 6)) (bz (bT (iu pK (λ_=>rfl) (λ_=>B.tuple) boot_tuple (aa (aj false 6) ao))) (bz (bw [2] (λ_=>c_law_odd) (λ_=>hr.mono (by decide)) (aU 2 (aV (aO ao)))) (bz (xH (bz (bw [2] (λ_=>c_law_odd) (λ_=>hr.mono (by decide)) (aU 2 (aV (aO ao)))) (aO ao))) (aO ao))))))))
  (aB (iZ (λ_=>PassesOwn.never) (λ_=>rfl) (Ak (λ_=>rfl) (λ_=>B.range) (aa au ao)) (bB 8 nd) (aB (bV 9 nd (bw [2] (λ_=>c_law_odd) (λ_=>hr.mono (by decide)) (aU 2 (aV (aO ao)))))
  (aB (BW (Iz (yf (Bs (bA (m9 _ (λ_=>rfl) hr.units) (aj false 6) (cL ao))) (vQ (yH (cb_eq _ (λ_=>rfl) hr.units) (bw [2] (λ_=>c_law_draw) (λ_=>hr.mono (by decide)) (aU 2 (aV (aO (aa au ao))))) (bT au))))) (aB (ph (gQ (ixb (λ_=>aM hr)) (bT (aj false 6)) (bw [2] (λ_=>c_law_draw) (λ_=>hr.mono (by decide)) (aU 2 (aV (aO (aa (aN d_ (λ_=>rfl) (λ_=>B.len) boot_len (aa (aj false 6) ao)) ao)))))) (mH (λ_=>rfl) (cH (bB 10 nd) (cH (bB 11 nd) jR))))
  (aL (bV 9 nd (gQ (ixb (λ_=>aM hr)) (bT (cL (aa (dI (aa (aj false 10) (aa (aY bG (aj false 11) au) ao))) (aa (dI (aa (aj false 10) (aa (Cu wK (aj false 11)) ao))) (aa (cL (aa (aj false 10) (aa (aj false 11) ao))) (aa (dI (aa (aj false 10) (aa (aj false 11) (aa au ao)))) ao)))))) (bw [2] (λ_=>c_law_draw) (λ_=>hr.mono (by decide)) (aU 2 (aV (aO (aa au ao))))))))) cD)
  (aL (jF 9 (yC uA PySem.F.plainAttrs_list PySem.F.slot_list_append PySem.F.type_list_append (jf 7) (bz (bw [2] (λ_=>c_law_bent) (λ_=>hr.mono (by decide)) (aU 2 (aV (aO (aa (aj false 6) (aa (aj false 9) ao)))))) (aO ao)) (show KpS 7 _ from by repeat first|exact FJ|exact Bt|apply yX|apply IV|apply Lq|apply LR|(apply Gb rfl)|apply G7)))))))
  (aL (jF 7 (eF (kE (j7 (aN (sr (λ_=>rfl)) (λ_=>rfl) (λ_=>B.all) boot_all (aa (iH [none,some 3,some 5,some 4] ob0 (λ_=>rfl) (λ_=>rfl) (λ_=>E_) (fV rfl) (di (aj false 7)) (bZ 0 (λ_=>Fq)) gP (gM (λ_=>c_law_says) (λ_=>hr.mono (by decide)) (aa (aj false 1) (aa (aj false 2) (aa (aj false 3) (aa (aj false 0) ao)))))) ao)))) (aL (bK lE)) cD))))))))))))
  (aL (bK lE)))
end
abbrev tp(a b:Int):D:=.lst .own [.int a,.int b]
def Dr(a b m:Int)(q:D×List D):Prop:=∃r a' b':Int,q=(.int r,[tp a' b',.int m])/\0<=r/\r<m/\0<=a'
local macro_rules
 |`(tactic|simp_arith[$xs,*])=>`(tactic|simp[aK,uv,dm,Lk,w_ite,yS,fj,cW,Rh,tM,sIf,yU,sEx,gf,rD,Q_,lz,iQ,RZ,RL,ju,yq,sFz,qT,HF,u_,Gf,upS,tgN,tgT,aQ,eO,lR,tpN,tpT,pF,RM,aq,eC,aJ,ak,eAp,eUp,yW,cB,ee2,ee1,cF,mW,e2,e1,eB,eeB,lD,PX,rF,eOr,lZ,vW,RW,QR,tZ,vOr,RN,P_,eTT,isB,rR,RP,itS,itE,xX,R6,cN,iY,uf,eSl,Gj,JQ,vL,jQ,iV,eMt,Ph,RT,RC,eIo,objs,lQ,eQ,rW,lK,clean,aG,aC,aD,aH,jq,jk,view,ik,mkV,mkF,fz,fzL,fzo,jc,mkO,fnP,fnI,en0,outs,mX,ig,obC,truth,$xs,*])
theorem Hs{a b m:Int}(ha:0<=a)(hm:0<m)(hm2:m<2 ^ 60):Wp (az [tp a b,.int m]) (Dr a b m):=by
 have h2:m<18446744073709551616:=by omega
 have hx:∀x:Int,-18446744073709551616<x % 40009+7/\x % 40009+7<18446744073709551616:=λx=>by omega
 by_cases h:0<a
 .simp_arith[az,bH,i_,gZ,oX,j9,nP,pN,gLt,gLe,gGt,gGe,gIx,a_,bU,bW,uT,zE,m8,Gp,gIs,Ag,yL,atI,ixN,fB,gV,gSl,Ib,gR,I_,h,hm,h2,hx]
  exact⟨_,_,_,rfl,Int.emod_nonneg _ (by omega),Int.emod_lt_of_pos _ hm,Int.ediv_nonneg ha (by omega)⟩
 .simp_arith[az,bH,i_,gZ,oX,j9,nP,pN,gLt,gLe,gGt,gGe,gIx,a_,bU,bW,uT,zE,m8,Gp,gIs,Ag,yL,atI,ixN,fB,gV,gSl,Ib,gR,I_,h,hm,h2,hx]
  exact⟨_,_,_,rfl,Int.emod_nonneg _ (by omega),Int.emod_lt_of_pos _ hm,ha⟩
theorem pU{a b m:Int}(ha:0<=a)(hm:0<m)(hm2:m<2 ^ 60):∃r a' b',az [tp a b,.int m]=some (.int r,[tp a' b',.int m])/\0<=r/\r<m/\0<=a':=by
 obtain⟨q,e,r,a',b',rfl,h⟩:=Hs (b:=b) ha hm hm2;exact⟨r,a',b',e,h⟩
theorem cP{a b m:Int}{Q:D×List D->Prop}(ha:0<=a)(hm:0<m)(hm2:m<2 ^ 60)(h:∀r a' b',0<=r->r<m->0<=a'->Q (.int r,[tp a' b',.int m])):Wp (az [tp a b,.int m]) Q:=by
 refine(Hs (b:=b) ha hm hm2).mono ?_;rintro _ ⟨r,a',b',rfl,h1,h2,h3⟩;exact h r a' b' h1 h2 h3
def Tn(q:D×List D):Prop:=∃t a' b':Int,q=(.int t,[tp a' b'])/\0<=t/\t<=1000/\0<=a'
theorem PL{a b:Int}(ha:0<=a):Wp (eX [tp a b]) Tn:=by
 obtain⟨r,a',b',e,h1,h2,h3⟩:=pU (b:=b) ha (show(0:Int)<8 by decide) (by decide);have hr:r=0∨r=1∨r=2∨r=3∨r=4∨r=5∨r=6∨r=7:=by omega
 rcases hr with rfl|rfl|rfl|rfl|rfl|rfl|rfl|rfl<;>simp_arith[eX,bH,i_,gZ,oX,j9,nP,pN,gLt,gLe,gGt,gGe,gIx,a_,bU,bW,uT,zE,m8,Gp,gIs,Ag,yL,atI,ixN,fB,gV,gSl,Ib,gR,I_,e]<;>exact⟨_,_,_,rfl,by decide,by decide,h3⟩
def oE:List Str:=["b","aa","zebra","c","quartzes","ab","m","knows","d","mm","likes","z","a","ba","abcdefgh","y"]
def Nm(q:D×List D):Prop:=∃(ns:List Str)(a' b':Int),q=(.lst .own (ns.map D.str),[tp a' b'])/\(∀x∈ns,x∈oE∨x="")/\ns.Nodup/\ns.length<=14/\0<=a'
theorem Ju:xu "b aa zebra c quartzes ab m knows d mm likes z a ba abcdefgh y" " "=some oE:=by decide +kernel
theorem Mm:∀m:Fin 16,((List.range 14).map λ(k:Nat)=>(oE[(((m.val:Int)+5*(k:Int)) % 16).toNat]?).getD "").Nodup:=by decide +kernel
theorem Qm{r:Int}{n:Nat}(h0:0<=r)(hr:r<16)(hn:n<=14):((List.range n).map λ(k:Nat)=>(oE[((r+5*(k:Int)) % 16).toNat]?).getD "").Nodup:=by
 obtain⟨m,rfl⟩:∃m:Nat,r=m:=⟨r.toNat,by omega⟩;have h:=Mm ⟨m,by omega⟩;exact List.Nodup.sublist (List.Sublist.map _ (List.range_sublist.mpr hn)) h
theorem K1{a b:Int}(ha:0<=a):Wp (dW [tp a b]) Nm:=by
 obtain⟨r1,a1,b1,e1,h11,h12,h13⟩:=pU (b:=b) ha (show(0:Int)<16 by decide) (by decide);obtain⟨r2,a2,b2,e2,h21,h22,h23⟩:=pU (b:=b1) h13 (show(0:Int)<3 by decide) (by decide);obtain⟨r3,a3,b3,e3,h31,h32,h33⟩:=pU (b:=b2) h23 (show(0:Int)<5 by decide) (by decide);obtain⟨r4,a4,b4,e4,h41,h42,h43⟩:=pU (b:=b3) h33 (show(0:Int)<5 by decide) (by decide);obtain⟨r5,a5,b5,e5,h51,h52,h53⟩:=pU (b:=b4) h43 (show(0:Int)<8 by decide) (by decide);simp_arith[dW,t_,Ju,a_,bH,m8,e1,e2,e3,e4,e5];clear e1 e2 e3 e4 e5;obtain⟨n,hn,n0,n1⟩:∃n:Int,gIx (D.lst Mk.own [D.int r2,D.int (10+r3),D.int (4+r4)]) (D.int (if r5<2 then r5 else 2))=some (.int n)/\0<=n/\n<=14:=by
  have:r5=0∨r5=1∨2<=r5:=by omega
  rcases this with rfl|rfl|h
  .exact⟨r2,rfl,h21,by omega⟩
  .exact⟨10+r3,rfl,by omega,by omega⟩
  .rw[if_neg (by omega)]
   exact⟨4+r4,rfl,by omega,by omega⟩
 simp only[hn,cu,bR,aK,view,aG,aC,true_and];rw[if_pos (by omega),aK];refine⟨by rw[rZ];omega,?_⟩;rw[fP (p:=λ_=>true) (f:=λd=>match d with|.int k=>.str ((oE[((r1+5*k) % 16).toNat]?).getD "")|_=>.non)]
 .rw[aK,filter_tt,Ky]
  have e:(List.range n.toNat).map (λ(k:Nat)=>D.str ((oE[((r1+5*(k:Int)) % 16).toNat]?).getD ""))=((List.range n.toNat).map λ(k:Nat)=>(oE[((r1+5*(k:Int)) % 16).toNat]?).getD "").map D.str:=by rw[List.map_map];rfl
  show(aD ((List.range n.toNat).map (λ(k:Nat)=>D.str ((oE[((r1+5*(k:Int)) % 16).toNat]?).getD "")))=true/\aH ((List.range n.toNat).map (λ(k:Nat)=>D.str ((oE[((r1+5*(k:Int)) % 16).toNat]?).getD "")))=true)/\Nm (D.lst Mk.own ((List.range n.toNat).map (λ(k:Nat)=>D.str ((oE[((r1+5*(k:Int)) % 16).toNat]?).getD ""))),[tp a5 b5]);rw[e];refine⟨⟨cu _,bR _⟩,_,_,_,rfl,λx hx=>?_,Qm h11 h12 (by omega),by simp;omega,h53⟩;obtain⟨k,_,rfl⟩:=List.mem_map.mp hx;cases hg:oE[((r1+5*(k:Int)) % 16).toNat]? with
  |none=>exact .inr rfl
  |some y=>exact .inl (List.mem_of_getElem? hg)
 .intro d hd
  obtain⟨k,hk,rfl⟩:=K4 hd;have hm:(-18446744073709551616:Int)<5:=by decide
  obtain⟨x,hx,hx1,hx2⟩:=j5 (f:=D.str) (l:=oE) (i:=(r1+5*(k:Int)) % 16) (by omega) (by show _<(16:Int);omega);simp[tpN,aK,eTT,e2,aq,view,cJ,eC,gZ,bH,j9,gIx,hx1,hx2]
def Jo(ns:List Str)(t:Int)(q:D×List D):Prop:=∃(js:List Jt)(a' b':Int),q=(.lst .own (js.map jD),[tp a' b',.lst .frz (ns.map D.str),.int t])/\(∀j∈js,j.1∈ns/\j.2.1∈ns)/\js.length<=2*ns.length/\0<=a'/\∀j∈js,j.2.2.natAbs<=1000000000000
def JoI(ns:List Str)(t w:Int)(k:Nat)(acc:List D)(ρ:En):Prop:=∃(ps:List (Str×Int))(a' b':Int),acc=ps.map pD/\ps.map (·.1)=ns.take k/\(∀p∈ps,p.2.natAbs<=400000000000)/\0<=a'/\ρ=[some (tp a' b'),some (D.lst Mk.frz (List.map D.str ns)),some (D.int t),some (D.lst Mk.own []),some (D.int w),none,none,none,none,none,none,none]
def JoF(ns:List Str)(t w sl:Int)(ks:List Key)(ds:List D)(k:Nat)(ρ:En):Prop:=∃(js:List Jt)(a' b':Int)(x7 x8 x9 x10 x11:Option D),ρ=[some (tp a' b'),some (D.lst Mk.frz (List.map D.str ns)),some (D.int t),some (D.lst Mk.own (js.map jD)),some (D.int w),some (D.dct .own ks ds),some (D.int sl),x7,x8,x9,x10,x11]/\(∀j∈js,j.1∈ns/\j.2.1∈ns)/\js.length<=k/\0<=a'/\∀j∈js,j.2.2.natAbs<=1000000000000
theorem Iw{ps:List (Str×Int)}{B:Nat}(hl:ps.length<=50000)(hb:∀p∈ps,p.2.natAbs<=B):Wp (j_ [.lst .own (ps.map pD)]) λd=>(∃ks ds,d= .dct .own ks ds/\(∀e∈ds,∃i:Int,e= .int i/\i.natAbs<=B)/\∀x∈ps.map (·.1),∃(j:Nat)(i:Int),fO ks (.inr x)=some j/\ds[j]? =some (.int i))/\clean d=true:=by
 simp only[j_];rw[if_pos ⟨rfl,by simpa using hl⟩,vZ];refine aK.mpr ?_;have hok:=tR (es:=ps.map λp=>((Sum.inr p.1:Key),D.int p.2)) (ks:=[]) (ds:=[]) rfl;have hall:=rz (λd=>∃i:Int,d= .int i/\i.natAbs<=B) (es:=ps.map λp=>((Sum.inr p.1:Key),D.int p.2)) (ks:=[]) (ds:=[]) (by simp) (λq hq=>by obtain⟨p,hp,rfl⟩:=List.mem_map.mp hq;exact⟨p.2,rfl,hb p hp⟩);refine⟨⟨_,_,rfl,hall,λx hx=>?_⟩,Eh (b_ λd hd=>by obtain⟨i,rfl,_⟩:=hall d hd;rfl) (bN λd hd=>by obtain⟨i,rfl,_⟩:=hall d hd;rfl)⟩;obtain⟨p,hp,rfl⟩:=List.mem_map.mp hx;obtain⟨j,h1,h2⟩:=Jz ((hok.2 (Sum.inr p.1)).mpr (.inr ⟨_,List.mem_map.mpr ⟨p,hp,rfl⟩,rfl⟩));have hjl:j<(aX [] [] (ps.map λp=>((Sum.inr p.1:Key),D.int p.2))).2.length:=by rw[←hok.1];exact h2
 obtain⟨i,hi,_⟩:=hall _ (List.getElem_mem hjl);exact⟨j,i,h1,by rw[List.getElem?_eq_getElem hjl,hi]⟩
theorem zW{a b t:Int}{ns:List Str}(ha:0<=a)(hn:0<ns.length)(hn2:ns.length<=1000)(ht:0<=t/\t<=1000):Wp (bj [tp a b,.lst .frz (ns.map D.str),.int t]) (Jo ns t):=by
 simp_arith[bj,a_,gZ,nP];refine cP ha (by omega) (by omega) λr1 a1 b1 p1 q1 s1=>?_;obtain⟨w,hw,w0,w1⟩:∃w:Int,gIx (D.lst Mk.own [D.int 3,D.int 3,D.int 12,D.int 12,D.int 12,D.int 400000000000]) (D.int r1)=some (.int w)/\3<=w/\w<=400000000000:=by
  have:r1=0∨r1=1∨r1=2∨r1=3∨r1=4∨r1=5:=by omega
  rcases this with rfl|rfl|rfl|rfl|rfl|rfl<;>exact⟨_,rfl,by decide,by decide⟩
 simp_arith[hw,cJ,dO,cu,bR];refine⟨by omega,GJ (JoI ns t w) ⟨[],a1,b1,rfl,rfl,by simp,s1,rfl⟩ ?_ ?_⟩
 .rintro i d acc ρ hi ⟨ps,a2,b2,rfl,hps,hpb,s2,rfl⟩
  rw[List.getElem?_map]at hi;cases hx:ns[i]? with
  |none=>simp[hx]at hi
  |some x=>
   obtain rfl:D.str x=d:=by simpa[hx]using hi
   simp_arith[gZ,bU];refine cP s2 (by omega) (by omega) λr3 a3 b3 p3 q3 s3=>?_;simp_arith[i_];exact⟨ps++[(x,r3-w)],_,_,by simp[pD],by rw[List.map_append,hps,List.take_add_one,hx];rfl,λp hp=>(List.mem_append.mp hp).elim (hpb p) λz=>by rw[List.mem_singleton.mp z];show(r3-w).natAbs<=_;omega,s3,rfl⟩
 .rintro ys ρ ⟨ps,a2,b2,rfl,hps,hpb,s2,rfl⟩
  rw[List.length_map,List.take_length]at hps;have hnb:aH (ps.map pD)=true:=bN λd hd=>by obtain⟨x,_,rfl⟩:=List.mem_map.mp hd;rfl
  have hpl:ps.length=ns.length:=by rw[←hps];simp
  refine⟨hnb,Wp.mono (Iw (by omega) hpb) ?_⟩;rintro _ ⟨⟨ks,ds,rfl,hds,hkd⟩,hcl⟩;rw[hps]at hkd;have hcl':(aG (D.dct .own ks ds)=true/\aC (D.dct .own ks ds)=true):=by simpa[clean]using hcl
  refine⟨hcl',?_⟩;simp_arith[bW,cJ,bH];refine cP s2 (by omega) (by omega) λr4 a4 b4 p4 q4 s4=>?_;obtain⟨sl,hsl,sl0,sl1⟩:∃w:Int,gIx (D.lst Mk.own [D.int 0,D.int 0,D.int 3,D.int 12]) (D.int r4)=some (.int w)/\0<=w/\w<=12:=by
   have:r4=0∨r4=1∨r4=2∨r4=3:=by omega
   rcases this with rfl|rfl|rfl|rfl<;>exact⟨_,rfl,by decide,by decide⟩
  simp_arith[hsl,bW,cJ,bH];refine cP s4 (by omega) (by omega) λr5 a5 b5 p5 q5 s5=>?_;simp_arith[aK];refine⟨by omega,jE (JoF ns t w sl ks ds) ⟨[],a5,b5,_,_,_,_,_,rfl,by simp,by simp,s5,by simp⟩ ?_ ?_⟩
  .rintro k d ρ hk ⟨js,a6,b6,x7,x8,x9,x10,x11,rfl,hjs,hjl,s6,hjb⟩
   obtain⟨hkl,rfl⟩:=wC hk;simp only[tgN,clean,aG,aC,Bool.and_self,if_true,aK,List.set_cons_succ,List.set_cons_zero];refine bI (λρ=>∃(x y:Str)(a' b':Int),x∈ns/\y∈ns/\0<=a'/\ρ=[some (tp a' b'),some (D.lst Mk.frz (List.map D.str ns)),some (D.int t),some (D.lst Mk.own (js.map jD)),some (D.int w),some (D.dct .own ks ds),some (D.int sl),some (D.int k),some (D.str x),some (D.str y),x10,x11]) (λQ hQ=>?_) ?_
   .simp_arith[cu,bR,cJ,dM,dO,iW,iM,lB,lg,jP,v8,wX,wH,vY,wZ,n_,jX,len_strs,jb,fJ,uV,xN,eq_int,kh]
    refine cP s6 (by omega) (by omega) λr7 a7 b7 p7 q7 s7=>?_;obtain⟨x,hx,_,hx2⟩:=j5 (f:=D.str) (l:=ns) p7 q7;simp_arith[cu,bR,cJ,dM,dO,iW,iM,lB,lg,jP,v8,wX,wH,vY,wZ,n_,jX,len_strs,jb,fJ,uV,xN,eq_int,kh,hx2];refine cP s7 (by omega) (by omega) λr8 a8 b8 p8 q8 s8=>?_;obtain⟨y,hy,_,hy2⟩:=j5 (f:=D.str) (l:=ns) p8 q8;simp_arith[cu,bR,cJ,dM,dO,iW,iM,lB,lg,jP,v8,wX,wH,vY,wZ,n_,jX,len_strs,jb,fJ,uV,xN,eq_int,kh,hy2];exact hQ _ ⟨x,y,_,_,hx,hy,s8,rfl⟩
   rintro _ ⟨x,y,a7,b7,hx,hy,s7,rfl⟩;refine bI (λρ=>∃(v:Int)(a' b':Int),0<=a'/\ρ=[some (tp a' b'),some (D.lst Mk.frz (List.map D.str ns)),some (D.int t),some (D.lst Mk.own (js.map jD)),some (D.int w),some (D.dct .own ks ds),some (D.int sl),some (D.int k),some (D.str x),some (D.str y),some (D.int v),x11]) (λQ hQ=>?_) ?_
   .simp_arith[aK]
    refine cP s7 (by omega) (by omega) λr8 a8 b8 p8 q8 s8=>?_;simp_arith[aK];exact hQ _ ⟨_,_,_,s8,rfl⟩
   rintro _ ⟨v,a8,b8,s8,rfl⟩;refine bI (λρ=>∃(y:Str),y∈ns/\ρ=[some (tp a8 b8),some (D.lst Mk.frz (List.map D.str ns)),some (D.int t),some (D.lst Mk.own (js.map jD)),some (D.int w),some (D.dct .own ks ds),some (D.int sl),some (D.int k),some (D.str x),some (D.str y),some (D.int v),x11]) (λQ hQ=>?_) ?_
   .simp_arith[eq_int]
    split
    .exact hQ _ ⟨x,hx,rfl⟩
    .exact hQ _ ⟨y,hy,rfl⟩
   clear hy y;rintro _ ⟨y,hy,rfl⟩;have two:∀{Q:Fl->Prop}{a8 b8:Int}{x y:Str}(c:Int)(sw:Bool),x∈ns->y∈ns->0<=a8->(∀x y a' b',x∈ns->y∈ns->0<=a'->Q (.nx [some (tp a' b'),some (D.lst Mk.frz (List.map D.str ns)),some (D.int t),some (D.lst Mk.own (js.map jD)),some (D.int w),some (D.dct .own ks ds),some (D.int sl),some (D.int k),some (D.str x),some (D.str y),some (D.int v),x11]))->
     Wp (sIf (rF (eB (e2 gEq (aq false 10) (eC (.int c)))) (eB (e2 gNe (aq false 3) (eAp a_ aJ)))) (cW (Gj (ee2 gIx (eUp (aq false 3)) (eIo az [0] (cB (ak (eAp bW (ak (aq false 3) aJ)) aJ)))) jQ (iV (eC (.int 2)))) (tgT 2 (if sw then aQ (tgN 9) (aQ (tgN 8) eO)else aQ (tgN 8) (aQ (tgN 9) eO)))) iQ [some (tp a8 b8),some (D.lst Mk.frz (List.map D.str ns)),some (D.int t),some (D.lst Mk.own (js.map jD)),some (D.int w),some (D.dct .own ks ds),some (D.int sl),some (D.int k),some (D.str x),some (D.str y),some (D.int v),x11]) Q:=by
    intro Q a8 b8 x y c sw hx hy s8 hQ;simp_arith[cu,bR,cJ,dM,dO,iW,iM,lB,lg,jP,v8,wX,wH,vY,wZ,n_,jX,len_strs,jb,fJ,uV,xN,eq_int,kh,a_];split
    .by_cases hjn:js=[]
     .subst hjn
      simp;exact hQ _ _ _ _ hx hy s8
     .have hjp:0<js.length:=List.length_pos_iff.mpr hjn
      simp_arith[hjn,cu,bR,cJ,dM,dO,iW,iM,lB,lg,jP,v8,wX,wH,vY,wZ,n_,jX,len_strs,jb,fJ,uV,xN,eq_int,kh];refine cP s8 (by omega) (by omega) λr9 a9 b9 p9 q9 s9=>?_;obtain⟨j,hj,_,hj2⟩:=j5 (f:=jD) (l:=js) p9 q9;cases sw<;>simp_arith[cu,bR,cJ,dM,dO,iW,iM,lB,lg,jP,v8,wX,wH,vY,wZ,n_,jX,len_strs,jb,fJ,uV,xN,eq_int,kh,hj2]
      .exact hQ _ _ _ _ (hjs j hj).1 (hjs j hj).2 s9
      .exact hQ _ _ _ _ (hjs j hj).2 (hjs j hj).1 s9
    .exact hQ _ _ _ _ hx hy s8
   refine bI (λρ=>∃(x y:Str)(a' b':Int),x∈ns/\y∈ns/\0<=a'/\ρ=[some (tp a' b'),some (D.lst Mk.frz (List.map D.str ns)),some (D.int t),some (D.lst Mk.own (js.map jD)),some (D.int w),some (D.dct .own ks ds),some (D.int sl),some (D.int k),some (D.str x),some (D.str y),some (D.int v),x11]) (λQ hQ=>two 1 false hx hy s8 λx y a' b' h1 h2 h3=>hQ _ ⟨x,y,a',b',h1,h2,h3,rfl⟩) ?_;clear hx hy x y;rintro _ ⟨x,y,a9,b9,hx,hy,s9,rfl⟩;refine bI (λρ=>∃(x y:Str)(a' b':Int),x∈ns/\y∈ns/\0<=a'/\ρ=[some (tp a' b'),some (D.lst Mk.frz (List.map D.str ns)),some (D.int t),some (D.lst Mk.own (js.map jD)),some (D.int w),some (D.dct .own ks ds),some (D.int sl),some (D.int k),some (D.str x),some (D.str y),some (D.int v),x11]) (λQ hQ=>two 2 true hx hy s9 λx y a' b' h1 h2 h3=>hQ _ ⟨x,y,a',b',h1,h2,h3,rfl⟩) ?_;clear hx hy x y;rintro _ ⟨x,y,a10,b10,hx,hy,s10,rfl⟩;obtain⟨jx,ix,hkx,hdx⟩:=hkd x hx;obtain⟨jy,iy,hky,hdy⟩:=hkd y hy;have bx:ix.natAbs<=400000000000:=by obtain⟨i,e,h⟩:=hds _ (List.mem_of_getElem? hdx);cases e;exact h
   have bY:iy.natAbs<=400000000000:=by obtain⟨i,e,h⟩:=hds _ (List.mem_of_getElem? hdy);cases e;exact h
   have hvd:ik false ds=ds:=by
    rw[dX]
    conv=>rhs;rw[←List.map_id ds]
    exact List.map_congr_left λd hd=>by obtain⟨i,rfl,_⟩:=hds d hd;rfl
   refine bI (λρ=>∃(st:Int)(a' b':Int),st.natAbs<=800000002000/\0<=a'/\ρ=[some (tp a' b'),some (D.lst Mk.frz (List.map D.str ns)),some (D.int t),some (D.lst Mk.own (js.map jD)),some (D.int w),some (D.dct .own ks ds),some (D.int sl),some (D.int k),some (D.str x),some (D.str y),some (D.int v),some (D.int st)]) (λQ hQ=>?_) ?_
   .have ht1: -18446744073709551616<t/\t<18446744073709551616:=by omega
    simp_arith[gIx,iT,hvd,hkx,hdx,hky,hdy,i_];refine cP s10 (by omega) (by omega) λr11 a11 b11 p11 q11 s11=>?_;simp_arith[i_,gZ,bH,ht1];have hb:(t*(r11-2)).natAbs<=2000:=by
     have h5:r11=0∨r11=1∨r11=2∨r11=3∨r11=4:=by omega
     rcases h5 with rfl|rfl|rfl|rfl|rfl<;>omega
    exact hQ _ ⟨_,_,_,by omega,s11,rfl⟩
   rintro _ ⟨st,a11,b11,hst,s11,rfl⟩;refine bI (λρ=>∃(st:Int)(a' b':Int),st.natAbs<=1000000000000/\0<=a'/\ρ=[some (tp a' b'),some (D.lst Mk.frz (List.map D.str ns)),some (D.int t),some (D.lst Mk.own (js.map jD)),some (D.int w),some (D.dct .own ks ds),some (D.int sl),some (D.int k),some (D.str x),some (D.str y),some (D.int v),some (D.int st)]) (λQ hQ=>?_) ?_
   .simp_arith[gGt]
    split
    .refine cP s11 (by omega) (by omega) λr12 a12 b12 p12 q12 s12=>?_
     simp_arith[eq_int];split
     .simp_arith[a_,pN,nP]
      refine cP s12 (by omega) (by omega) λr13 a13 b13 p13 q13 s13=>?_;have:r13=0∨r13=1∨r13=2∨r13=3:=by omega
      rcases this with rfl|rfl|rfl|rfl<;>simp_arith[gIx,atI,ixN,bH]<;>exact hQ _ ⟨_,_,_,by omega,s13,rfl⟩
     .exact hQ _ ⟨_,_,_,by omega,s12,rfl⟩
    .exact hQ _ ⟨_,_,_,by omega,s11,rfl⟩
   rintro _ ⟨st',a12,b12,hst',s12,rfl⟩;simp_arith[fB,bU];refine⟨by omega,⟨js++[(x,y,st')],_,_,_,_,_,_,_,by rw[List.map_append];rfl,?_,by simp;omega,s12,λj hj=>(List.mem_append.mp hj).elim (hjb j) λz=>by rw[List.mem_singleton.mp z];exact hst'⟩⟩;intro j hj;rcases List.mem_append.mp hj with z|z
   .exact hjs j z
   .obtain rfl:j=(x,y,st'):=by simpa using z
    exact⟨hx,hy⟩
  .rintro ρ ⟨js,a6,b6,x7,x8,x9,x10,x11,rfl,hjs,hjl,s6,hjb⟩
   simp_arith[aK];rw[rZ]at hjl;exact⟨js,a6,b6,rfl,hjs,by omega,s6,hjb⟩
inductive Tyd:D->Prop
 |non:Tyd .non
 |bl (b:Bool):Tyd (.bl b)
 |int (i:Int):Tyd (.int i)
 |str (x:Str):Tyd (.str x)
 |tup {ds:List D}:(∀e∈ds,Tyd e)->Tyd (.tup ds)
 |lst {ds:List D}:(∀e∈ds,Tyd e)->Tyd (.lst .frz ds)
theorem g_{f:D->D}{ds:List D}(h:∀e∈ds,f e=e):ds.map f=ds:=by
 conv=>rhs;rw[←List.map_id ds]
 exact List.map_congr_left h
theorem Tyd.all{d:D}(h:Tyd d):fz d=d/\fzo d=d/\(∀b,view b d=d)/\aG d=true/\aC d=true/\fX d=true:=by
 induction h with
 |non=>exact⟨rfl,rfl,λ_=>rfl,rfl,rfl,rfl⟩
 |bl b=>exact⟨rfl,rfl,λ_=>rfl,rfl,rfl,rfl⟩
 |int b=>exact⟨rfl,rfl,λ_=>rfl,rfl,rfl,rfl⟩
 |str b=>exact⟨rfl,rfl,λ_=>rfl,rfl,rfl,rfl⟩
 |@tup ds _ ih=>
  have hd:∀l:List D,(∀e∈l,fX e=true)->gG l=true:=λl=>by
   induction l with
   |nil=>intro _;rfl
   |cons x r ihl=>intro z;simp[gG,z x (by simp),ihl λe he=>z e (by simp[he])]
  exact⟨by rw[fz,gH,g_ λe he=>(ih e he).1],by rw[fzo,fQ,g_ λe he=>(ih e he).2.1],λb=>by rw[view,dX,g_ λe he=>(ih e he).2.2.1 b],by rw[aG];exact b_ λe he=>(ih e he).2.2.2.1,by rw[aC];exact bN λe he=>(ih e he).2.2.2.2.1,by rw[fX];exact hd ds λe he=>(ih e he).2.2.2.2.2⟩
 |@lst ds _ ih=>
  have hd:∀l:List D,(∀e∈l,fX e=true)->gG l=true:=λl=>by
   induction l with
   |nil=>intro _;rfl
   |cons x r ihl=>intro z;simp[gG,z x (by simp),ihl λe he=>z e (by simp[he])]
  refine⟨by rw[fz,gH,g_ λe he=>(ih e he).1];rfl,by rw[fzo,fQ,g_ λe he=>(ih e he).2.1];rfl,λb=>by rw[view,dX,g_ λe he=>(ih e he).2.2.1 b];cases b<;>rfl,?_,?_,by rw[fX];exact hd ds λe he=>(ih e he).2.2.2.2.2⟩
  .simp[aG,b_ λe he=>(ih e he).2.2.2.1]
  .simp[aC,bN λe he=>(ih e he).2.2.2.2.1]
theorem Tyd.ofL{ds:List D}(h:∀e∈ds,Tyd e):fzL ds=ds/\jc ds=ds/\(∀b,ik b ds=ds)/\aD ds=true/\aH ds=true:=
 ⟨by rw[gH,g_ λe he=>(h e he).all.1],by rw[fQ,g_ λe he=>(h e he).all.2.1],λb=>by rw[dX,g_ λe he=>(h e he).all.2.2.1 b],b_ λe he=>(h e he).all.2.2.2.1,bN λe he=>(h e he).all.2.2.2.2.1⟩
def Er:D->Bool
 |.int _=>true
 |_=>false
def prB:D->Bool
 |.tup [.int _,.int s]=>s==1||s== -1
 |_=>false
theorem yV{d:D}(h:Tyd d):dU [d]=some (.bl (Er d)):=by
 apply Wp.eq;cases h<;>simp_arith[dU,bf,tyN,okT,isT,Am,Er]
def tV:D->Bool
 |.tup ds=>decide (ds.length=2)
 |_=>false
theorem yo{d:D}(h:Tyd d):cA [d]=some (.bl (tV d)):=by
 apply Wp.eq;cases h with
 |tup hd=>
  obtain⟨h1,h2,h3,h4,h5⟩:=Tyd.ofL hd;simp_arith[cA,bf,tyN,okT,isT,bW,h3,eq_int,tV];constructor<;>intro z<;>omega
 |lst hd=>
  obtain⟨h1,h2,h3,h4,h5⟩:=Tyd.ofL hd;simp_arith[cA,bf,tyN,okT,isT,h3,tV]
 |_=>simp_arith[cA,bf,tyN,okT,isT,tV]
theorem Cj{d:D}(h:tV d=true):∃x y,d= .tup [x,y]:=by
 unfold tV at h;split at h
 .rename_i ds
  match ds,h with
  |[x,y],_=>exact⟨x,y,rfl⟩
  |[],h=>simp at h
  |[_],h=>simp at h
  |_::_::_::_,h=>simp at h
 .cases h
theorem BJ(f:D->Bool):∀ds:List D,xn (ds.map λd=>.bl (f d))=some (ds.map f)
 |[]=>rfl
 |d::r=>by simp[xn,BJ f r]
theorem all_map(f:D->Bool)(ds:List D):uR [.lst .own (ds.map λd=>.bl (f d))]=some (.bl (ds.all f)):=by
 simp[uR,BJ,List.all_map]
theorem ne_int{i j:Int}:gNe (.int i) (.int j)=some (.bl (!decide (i=j))):=by
 unfold gNe;rw[if_pos ⟨rfl,rfl,by simp[dt,dp],by simp[dt,dp]⟩];simp[dt,eqD];exact Bool.eq_iff_iff.mpr (by simp)
abbrev Pt:=Int×Int
structure JJ(J:D)(js:List Jt):Prop where
 f:fz J=J
 v:∀b,view b J=J
 b:aG J=true
 o:aC J=true
 l:bW [J]=some (.int js.length)
 x:∀i,gIx J (.int i)=atI (js.map jD) i
 s:cN J=some (true,js.map jD)
 e:itE (λ_=>some [J]) []=some (true,HS 0 (js.map jD))
theorem JJ.lst(js:List Jt):JJ (.lst .frz (js.map jD)) js:=⟨by simp[fz,lg,mkF],λb=>by cases b<;>simp[view,lB,mkV],by simp[aG,iW],by simp[aC,iM],by simp[bW],λ_=>rfl,by simp[cN,clean,aG,aC,iW,iM,jP],by simp[itE,cN,clean,aG,aC,iW,iM,jP]⟩
theorem JJ.tup(js:List Jt):JJ (.tup (js.map jD)) js:=⟨by simp[fz,lg],λb=>by simp[view,lB],by simp[aG,iW],by simp[aC,iM],by simp[bW],λ_=>rfl,by simp[cN,clean,aG,aC,iW,iM,jP],by simp[itE,cN,clean,aG,aC,iW,iM,jP]⟩
def tot(js:List Jt):List Pt->Int
 |[]=>0
 |p::r=>p.2*((js[p.1.toNat]?).map λj=>j.2.2).getD 0+tot js r
theorem pZ:∀l:List Str,yN (l.map D.str)=some (l.map Sum.inr)
 |[]=>rfl
 |x::r=>by simp[yN,iT,pZ r]
def dS(l:List Str):Nat:=(Ox (l.map Sum.inr)).length
theorem Ko{m:Mk}{l:List Str}(h:l.length<=1000):o6 [.lst m (l.map D.str)]=some (.int (dS l)):=by
 have:(l.map D.str).length<4000:=by simp;omega
 simp[o6,pZ,dS];omega
def cnt(t n:Int):Int:=if t=0 then n else n % t
theorem Rk{a b:Bool}:gEq (.bl a) (.bl b)=some (.bl (a==b)):=by
 unfold gEq;rw[if_pos ⟨rfl,rfl,by simp[dt,dp],by simp[dt,dp]⟩];simp[dt,eqD]
theorem eq_str{a:Str}:gEq (.str a) (.str a)=some (.bl true):=by
 unfold gEq;rw[if_pos ⟨rfl,rfl,by simp[dt,dp],by simp[dt,dp]⟩];simp[dt,eqD]
theorem KN{m:Mk}{ds:List D}(h1:gG ds=true)(h2:dpL (dtL ds)<=50):gNe (.lst m ds) (.lst .own [])=some (.bl (!ds.isEmpty)):=by
 unfold gNe;rw[if_pos ⟨by simpa[fX]using h1,rfl,by simp only[dt,dp];omega,by decide⟩];cases ds with
 |nil=>rfl
 |cons j r=>rfl
mutual
def tyB:D->Bool
 |.non=>true
 |.bl _=>true
 |.int _=>true
 |.str _=>true
 |.tup ds=>Gh ds
 |.lst m ds=>m== .frz&&Gh ds
 |_=>false
def Gh:List D->Bool
 |[]=>true
 |d::r=>tyB d&&Gh r
end
mutual
theorem K_:∀{d:D},tyB d=true->Tyd d
 |.non,_=>.non
 |.bl b,_=>.bl b
 |.int i,_=>.int i
 |.str x,_=>.str x
 |.tup ds,h=>.tup (zL (by simpa[tyB]using h))
 |.lst m ds,h=>by
  simp[tyB]at h;obtain⟨rfl,h⟩:=h;exact .lst (zL h)
 |.ty _,h=>by simp[tyB]at h
 |.dct _ _ _,h=>by simp[tyB]at h
 |.ins _ _ _ _,h=>by simp[tyB]at h
theorem zL:∀{ds:List D},Gh ds=true->∀e∈ds,Tyd e
 |[],_,e,he=>by cases he
 |d::r,h,e,he=>by
  simp[Gh]at h;rcases List.mem_cons.mp he with z|z
  .rw[z];exact K_ h.1
  .exact zL h.2 e z
end
theorem Ab:∀{ds:List D}{m:Nat},(∀e∈ds,tz e<=m)->tzL ds<=ds.length*(m+2)
 |[],m,_=>by simp[tzL]
 |d::r,m,h=>by
  have h1:=h d (by simp);have h2:=Ab (ds:=r) λe he=>h e (by simp[he]);rw[tzL,List.length_cons,Nat.succ_mul];omega
theorem Ba:∀{ds:List D}{m:Nat},(∀e∈ds,dz e<=m)->dzL ds<=m
 |[],m,_=>by simp[dzL]
 |d::r,m,h=>by
  have h1:=h d (by simp);have h2:=Ba (ds:=r) λe he=>h e (by simp[he]);rw[dzL];omega
def eOk(d:D):Prop:=Tyd d/\tz d<=300/\dz d<=3
def Pap(d:D):Prop:=Tyd d/\tz d<=100000/\dz d<=10/\(kids d).length<=900
theorem J5{ds:List D}(h:∀e∈ds,eOk e)(hl:ds.length<=50):Pap (.tup ds):=by
 have h1:=Ab (ds:=ds) (m:=300) λe he=>(h e he).2.1;have h2:=Ba (ds:=ds) (m:=3) λe he=>(h e he).2.2;have h3:ds.length*(300+2)<=50*302:=Nat.mul_le_mul_right _ hl;exact⟨.tup λe he=>(h e he).1,by rw[tz];omega,by rw[dz];omega,by show ds.length<=900;omega⟩
theorem Br{ds:List D}(h:∀e∈ds,eOk e)(hl:ds.length<=50):Pap (.lst .frz ds):=by
 have h1:=Ab (ds:=ds) (m:=300) λe he=>(h e he).2.1;have h2:=Ba (ds:=ds) (m:=3) λe he=>(h e he).2.2;have h3:ds.length*(300+2)<=50*302:=Nat.mul_le_mul_right _ hl;exact⟨.lst λe he=>(h e he).1,by rw[tz];omega,by rw[dz];omega,by show ds.length<=900;omega⟩
def uO:List D:=[.non,.bl true,.bl false,.int 0,.int (-1),.int 7,.str "",.str "a",.str "nobody",.tup [],.lst .frz [],.tup [.int 0],.tup [.int 0,.int 1],.tup [.int 0,.int 2],.tup [.bl true,.int 1],.tup [.int 0,.bl true],.lst .frz [.int 0,.int 1],
 .tup [.int 0,.int 1,.int 1],.tup [.str "a",.int 0],.lst .frz [.str "a",.int 0],.tup [.tup [.str "a",.int 0]],.lst .frz [.lst .frz []],.tup [.str "a",.non],.tup [.non,.int 1],.tup [.str "0",.int 1]]
theorem Pq:uO.all (λd=>tyB d&&decide (tz d<=300)&&decide (dz d<=3))=true:=by decide +kernel
theorem kZ{d:D}(h:d∈uO):eOk d:=by
 have:=List.all_eq_true.mp Pq d h;simp at this;exact⟨K_ this.1.1,this.1.2,this.2⟩
def Od(q:D×List D):Prop:=∃(d:D)(a' b':Int),q=(d,[tp a' b'])/\d∈uO/\0<=a'
theorem Io{a b:Int}(ha:0<=a):Wp (dh [tp a b]) Od:=by
 simp_arith[dh,a_,bU,pN,bH,bW];refine cP ha (by omega) (by omega) λr a1 b1 p1 q1 s1=>?_;obtain⟨x,hx1,hx2⟩:=oZ (l:=uO) p1 (by show r<25;exact q1);have hm:x∈uO:=List.mem_of_getElem? hx2;obtain⟨_,_,_,f4,f5,_⟩:=(kZ hm).1.all;refine jM (show gIx (.lst .frz uO) (.int r)=some x from hx1) ⟨⟨f4,f5⟩,?_⟩;exact aK.mpr ⟨x,a1,b1,rfl,hm,s1⟩
def Bn(L:List D)(th:D)(q:D×List D):Prop:=∃(es:List D)(a' b':Int),q=(.lst .own es,[tp a' b',.lst .frz L,th])/\(∀e∈es,e∈L∨e=th)/\es.length<=L.length+1/\0<=a'
theorem Jr{ds:List D}{lo hi:Option Int}:∀e∈cutD ds lo hi,e∈ds:=λe he=>List.mem_of_mem_drop (List.mem_of_mem_take he)
theorem wM{ds:List D}{lo hi:Option Int}:(cutD ds lo hi).length<=HT.sIx ds.length ds.length hi-HT.sIx ds.length 0 lo:=by
 unfold cutD;rw[List.length_take];omega
theorem Ql{ds:List D}{k:Nat}:(cutD ds none (some (k:Int))).length<=k:=by
 refine Nat.le_trans wM ?_;simp only[HT.sIx];rw[if_neg (by omega)];omega
theorem Ma{ds:List D}{k:Nat}:(cutD ds (some (k:Int)) none).length<=ds.length-k:=by
 refine Nat.le_trans wM ?_;simp only[HT.sIx];rw[if_neg (by omega)];omega
theorem Ot{ds:List D}{k:Nat}:(cutD ds (some (k:Int)) (some ((k+1:Nat):Int))).length<=1:=by
 refine Nat.le_trans wM ?_;simp only[HT.sIx];rw[if_neg (by omega),if_neg (by omega)];omega
theorem bl1{n k a b:Nat}(hk:k<=n)(h1:a<=k)(h2:b<=n-(k+1)):a+b<=n+1:=by omega
theorem bl2{n k a b c:Nat}(hk:k<=n)(h1:a<=k)(h2:b<=n-k)(h3:c<=1):a+c+b<=n+1:=by omega
theorem bl3{n k a b:Nat}(hk:k<=n)(h1:a<=k)(h2:b<=n-(k+1)):a+1+b<=n+1:=by omega
theorem Mw{a b:Int}{L:List D}{th:D}(ha:0<=a)(hL:∀e∈L,Tyd e)(hl:L.length<=45)(hth:Tyd th):Wp (eV [tp a b,.lst .frz L,th]) (Bn L th):=by
 obtain⟨f1,f2,f3,f4,f5,f6⟩:=hth.all;obtain⟨v1,v2,v3,v4,v5⟩:=Tyd.ofL hL;have hlp:∀m,bW [.lst m L]=some (.int L.length):=λm=>by simp[bW]
 have slL:∀(m:Mk)(l:List D) lo hi,gSl (.lst m l) lo hi=some (.lst .own (cutD l lo hi)):=λ_ _ _ _=>rfl;have hm:L.length+1<=1000000:=by omega
 have addL:∀(x y:List D),x.length+y.length<=L.length+1->bH (.lst .own x) (.lst .own y)=some (.lst .own (x++y)):=λx y h=>by simp[bH,Nat.le_trans h hm]
 have addI:∀x y:Int,bH (.int x) (.int y)=some (.int (x+y)):=λ_ _=>rfl;simp_arith[eV,v3,hlp,addI];refine cP ha (by omega) (by omega) λr1 a1 b1 p1 q1 s1=>?_;obtain⟨k,rfl⟩:∃k:Nat,r1=k:=⟨r1.toNat,by omega⟩;have hk:k<=L.length:=by omega
 clear p1 q1 hm;simp_arith[aK];refine cP s1 (by decide) (by decide) λr2 a2 b2 p2 q2 s2=>?_;have fin2:∀es:List D,(∀e∈es,e∈L∨e=th)->es.length<=L.length+1->(aG (.lst .own es)=true/\aC (.lst .own es)=true)/\Bn L th (.lst .own es,[tp a2 b2,.lst .frz L,th]):=λes h1 h2=>by
  have hty:∀e∈es,Tyd e:=λe he=>(h1 e he).elim (hL e) λz=>by rw[z];exact hth
  obtain⟨_,_,_,g4,g5⟩:=Tyd.ofL hty;exact⟨⟨by simp[aG,g4],by simp[aC,g5]⟩,es,a2,b2,rfl,h1,h2,s2⟩
 have mem:∀(lo hi:Option Int)(e:D),e∈cutD L lo hi->e∈L∨e=th:=λlo hi e he=>.inl (Jr e he);have L1:=Ql (ds:=L) (k:=k);have L2:=Ma (ds:=L) (k:=k+1);have L3:=Ma (ds:=L) (k:=k);have L4:=Ot (ds:=L) (k:=k);have ek:((k+1:Nat):Int)=(k:Int)+1:=rfl;rw[ek]at L2 L4;clear p2 q2 ek;simp_arith[eq_int,v3,f3,slL,addI,a_];split
 .have h:=bl1 hk L1 L2
  rw[addL _ _ h,aK];exact fin2 _ (λe he=>(List.mem_append.mp he).elim (mem _ _ e) (mem _ _ e)) (by rw[List.length_append];exact h)
 .split
  .have h:=bl2 hk L1 L3 L4
   have h2:=Nat.le_trans (Nat.le_add_right _ _) h;rw[addL _ _ h2,aK,addL _ _ (by rw[List.length_append];exact h),aK];exact fin2 _ (λe he=>(List.mem_append.mp he).elim (λhe=>(List.mem_append.mp he).elim (mem _ _ e) (mem _ _ e)) (mem _ _ e)) (by rw[List.length_append,List.length_append];exact h)
  .split
   .have h:=bl3 hk L1 L2
    have h2:=Nat.le_trans (Nat.le_add_right _ _) h;rw[addL _ _ h2,aK,addL _ _ (by rw[List.length_append];exact h),aK];exact fin2 _ (λe he=>(List.mem_append.mp he).elim (λhe=>(List.mem_append.mp he).elim (mem _ _ e) (λz=>.inr (List.mem_singleton.mp z))) (mem _ _ e)) (by rw[List.length_append,List.length_append];exact h)
   .have h:=bl2 hk L1 L3 (Nat.le_refl 1)
    have h2:=Nat.le_trans (Nat.le_add_right _ _) h;rw[addL _ _ h2,aK,addL _ _ (by rw[List.length_append];exact h),aK];exact fin2 _ (λe he=>(List.mem_append.mp he).elim (λhe=>(List.mem_append.mp he).elim (mem _ _ e) (λz=>.inr (List.mem_singleton.mp z))) (mem _ _ e)) (by rw[List.length_append,List.length_append];exact h)
theorem G6:uO.all (λd=>decide ((kids d).length<=900))=true:=by decide +kernel
theorem JW{d:D}(h:d∈uO):Pap d:=by
 obtain⟨h1,h2,h3⟩:=kZ h;have:=List.all_eq_true.mp G6 d h;exact⟨h1,by omega,by omega,by simpa using this⟩
def one(n:Nat):Str:=⟨#[n]⟩
theorem RJ{f:En->Option (List D)}{ρ:En}{j:Int}(h:f ρ=some [.int j])(h1: -(2 ^ 62)<=j)(h2:j<2 ^ 62):rR f ρ=some (true,iU 0 j.toNat):=by
 unfold rR;rw[h];simp only[Option.bind_some];rw[if_pos ⟨h1,h2⟩]
theorem Ol{f:En->Option (List D)}{ρ:En}{n:Nat}(h:f ρ=some [.int n])(hn:n<=100):rR f ρ=some (true,iU 0 n):=by
 have h1:(n:Int)<=100:=by omega
 have:=RJ h (Int.le_trans (by decide) (Int.natCast_nonneg n)) (Int.lt_of_le_of_lt h1 (by decide));rw[Int.toNat_natCast]at this;exact this
theorem oV(b:Bool)(l:List Int):ik b (l.map D.int)=l.map D.int:=by rw[dX,List.map_map];rfl
theorem Jw(l:List Int):fzL (l.map D.int)=l.map D.int:=by rw[gH,List.map_map];rfl
def Tw(d:D):Prop:=∃a b:Int,d=tp a b/\0<=a
theorem Px{ns:List Int}{k:Int}(hk:0<=k)(hk2:k<=100)(hl:ns.length<=63):Wp (du [.lst .scr (ns.map D.int),.int k]) Tw:=by
 have hlen:bW [.lst .scr (ns.map D.int)]=some (.int ns.length):=by simp[bW]
 have key:∀c:Int,∀Q:Fl->Prop,(∀a b ρ',0<=a->Q (.ret (tp a b) ρ'))->Wp (bh (fj (e2 gZ (eAp uT (ak (aq false 2) aJ)) (eAp zE (ak (e2 gGe (eAp uT (ak (aq false 2) aJ)) (e2 nP (eC (.int 10)) (eC (.int 18)))) aJ))) (tgN 3)) (gf (eAp a_ (ak (aq false 3) (ak (e2 j9 (e2 gZ (e2 bH (e2 bH (e2 j9 (aq false 2) (eC (.int 2147483647))) (e2 gZ (eC (.int 7919)) (aq false 1))) (eC (.int 11))) (eC (.int 48271))) (eC (.int 2147483629))) aJ)))) [some (.lst .scr (ns.map D.int)),some (.int k),some (.int c),none]) Q:=by
  intro c Q hQ;simp_arith[uT,nP,gGe,zE,gZ,j9,bH,a_];have hu:(0:Int)<=if c<0 then -c else c:=by split<;>omega
  generalize (if c<0 then -c else c)=u at hu⊢;refine⟨.inr ?_,hQ _ _ _ ?_⟩
  .split<;>omega
  .split
   .omega
   .omega
 by_cases h:k<(ns.length:Int)
 .obtain⟨c,_,_,hc⟩:=j5 (f:=D.int) (l:=ns) (i:=k) hk h
  simp only[du,fnP,en0,List.length_cons,List.length_nil,List.map_cons,List.map_nil,List.replicate,if_true,dm,Nat.reduceAdd,Nat.reduceSub,List.cons_append,List.nil_append];refine bI (λρ=>ρ=[some (.lst .scr (ns.map D.int)),some (.int k),some (.int 0),none]) (λQ hQ=>by simp_arith[aK];exact hQ _ rfl) ?_;rintro _ rfl;refine bI (λρ=>ρ=[some (.lst .scr (ns.map D.int)),some (.int k),some (.int c),none]) (λQ hQ=>by simp_arith[oV,hlen,gLt,h,uV,hc];exact hQ _ rfl) ?_;rintro _ rfl;exact key c _ λa b ρ' ha=>aK.mpr ⟨a,b,rfl,ha⟩
 .simp only[du,fnP,en0,List.length_cons,List.length_nil,List.map_cons,List.map_nil,List.replicate,if_true,dm,Nat.reduceAdd,Nat.reduceSub,List.cons_append,List.nil_append]
  refine bI (λρ=>ρ=[some (.lst .scr (ns.map D.int)),some (.int k),some (.int 0),none]) (λQ hQ=>by simp_arith[aK];exact hQ _ rfl) ?_;rintro _ rfl;refine bI (λρ=>ρ=[some (.lst .scr (ns.map D.int)),some (.int k),some (.int 0),none]) (λQ hQ=>by simp_arith[oV,hlen,gLt,h];exact hQ _ rfl) ?_;rintro _ rfl;exact key 0 _ λa b ρ' ha=>aK.mpr ⟨a,b,rfl,ha⟩
mutual
theorem Ja:∀d:D,dp (dt d)<=dz d
 |.tup ds=>by have:=Ax ds;simp only[dt,dp,dz];omega
 |.lst _ ds=>by have:=Ax ds;simp only[dt,dp,dz];omega
 |.non=>by simp[dt,dp]
 |.bl _=>by simp[dt,dp]
 |.int _=>by simp[dt,dp]
 |.str _=>by simp[dt,dp]
 |.ty _=>by simp[dt,dp]
 |.dct _ _ _=>by simp[dt,dp]
 |.ins _ _ _ _=>by simp[dt,dp]
theorem Ax:∀ds:List D,dpL (dtL ds)<=dzL ds
 |[]=>by simp[dtL,dpL]
 |d::r=>by have:=Ja d;have:=Ax r;simp only[dtL,dpL,dzL];omega
end
def Ke(ns:List Str):D->Bool
 |.str x=>decide (x∈ns)
 |_=>false
theorem gJ:∀ns:List Str,dtL (ns.map D.str)=ns.map Dt.str
 |[]=>rfl
 |x::r=>by rw[List.map_cons,dtL,gJ r];rfl
theorem jm:∀ns:List Str,dpL (ns.map Dt.str)=0
 |[]=>rfl
 |x::r=>by rw[List.map_cons,dpL,jm r];rfl
theorem zB{ns:List Str}{e:D}(h:Tyd e):((ns.map Dt.str).any λd=>eqD d (dt e))=Ke ns e:=by
 rw[List.any_map];cases h with
 |str x=>
  simp only[Ke,dt];rw[Bool.eq_iff_iff,List.any_eq_true,decide_eq_true_iff];simp only[Function.comp,eqD,beq_iff_eq];exact⟨λ⟨y,h1,h2⟩=>h2▸h1,λh=>⟨x,h,rfl⟩⟩
 |_=>simp[Ke,dt,eqD,Function.comp]
theorem jK:∀ns:List Str,uQ (ns.map D.str)=some (ns.map V.str)
 |[]=>rfl
 |x::r=>by simp[uQ,scV,jK r]
theorem o8{x:Str}{ns:List Str}:inV (.str x) (ns.map V.str)=decide (x∈ns):=by
 unfold inV;rw[List.any_map,Bool.eq_iff_iff,List.any_eq_true,decide_eq_true_iff];simp only[Function.comp,eqV,beq_iff_eq];exact⟨λ⟨y,h1,h2⟩=>h2▸h1,λh=>⟨x,h,rfl⟩⟩
structure NK(N:D)(ns:List Str):Prop where
 f:fz N=N
 v:∀b,view b N=N
 b:aG N=true
 o:aC N=true
 l:bW [N]=some (.int ns.length)
 x:∀i,gIx N (.int i)=atI (ns.map D.str) i
 i:∀y,gIn (.str y) N=some (.bl (decide (y∈ns)))
 ni:∀y,km (.str y) N=some (.bl (!decide (y∈ns)))
 d:∀e,Tyd e->dz e<=50->Nj e N=some (.bl (Ke ns e))
 s:cN N=some (true,ns.map D.str)
 k:ns.length<=1000->o6 [N]=some (.int (dS ns))
theorem NK.lst(ns:List Str):NK (.lst .frz (ns.map D.str)) ns:=⟨by simp[fz,dM,mkF],λb=>by cases b<;>simp[view,cJ,mkV],by simp[aG,cu],by simp[aC,bR],by simp[bW],λ_=>rfl,λy=>by simp[gIn,rY,scV,jK,o8],λy=>by simp[km,rY,scV,jK,o8],λe h hz=>by
 have:=Ja e;obtain⟨_,_,_,_,_,h6⟩:=h.all;simp only[Nj,HX,Option.bind_some,gJ,jm];rw[if_pos ⟨h6,iz ns,by omega,by omega⟩,zB h],by simp[cN,clean,aG,aC,cu,bR,dO],λh=>Ko h⟩
theorem lsT{l:List Str}(h:l.length<=1000):o6 [.tup (l.map D.str)]=some (.int (dS l)):=by
 simp[o6,pZ,dS];omega
theorem NK.tup(ns:List Str):NK (.tup (ns.map D.str)) ns:=⟨by simp[fz,dM],λb=>by simp[view,cJ],by simp[aG,cu],by simp[aC,bR],by simp[bW],λ_=>rfl,λy=>by simp[gIn,rY,scV,jK,o8],λy=>by simp[km,rY,scV,jK,o8],λe h hz=>by
 have:=Ja e;obtain⟨_,_,_,_,_,h6⟩:=h.all;simp only[Nj,HX,Option.bind_some,gJ,jm];rw[if_pos ⟨h6,iz ns,by omega,by omega⟩,zB h],by simp[cN,clean,aG,aC,cu,bR,dO],λh=>lsT h⟩
def oG:D->Bool
 |.tup _=>true
 |.lst _ _=>true
 |_=>false
theorem Ca{d:D}(h:Tyd d):bf [d,.tup [.ty "list",.ty "tuple"]]=some (.bl (oG d)):=by
 cases h<;>rfl
theorem uy{d:D}(h:Tyd d):d7 [d]=some (.bl (oG d)):=by
 apply Wp.eq;obtain⟨f1,f2,f3,f4,f5,f6⟩:=h.all;simp_arith[d7,f3,bU,Ca h]
theorem CK{d:D}(h:Tyd d)(hb:oG d=true):cN d=some (true,kids d)/\∀e∈kids d,Tyd e:=by
 cases h with
 |tup hd=>
  obtain⟨h1,h2,h3,h4,h5⟩:=Tyd.ofL hd;exact⟨by simp[cN,clean,aG,aC,h2,h4,h5,kids],hd⟩
 |lst hd=>
  obtain⟨h1,h2,h3,h4,h5⟩:=Tyd.ofL hd;exact⟨by simp[cN,clean,aG,aC,h2,h4,h5,kids],hd⟩
 |_=>simp[oG]at hb
theorem Ft(l:List Bool):uR [.lst .own (l.map D.bl)]=some (.bl (l.all id)):=by
 have:∀l:List Bool,xn (l.map D.bl)=some l:=by
  intro l
  induction l with
  |nil=>rfl
  |cons x r ih=>simp[xn,ih]
 simp[uR,this]
abbrev Gz:=Bool×List Str
def mkB(b:Bool):Mk:=if b then .own else .frz
def zD(z:Gz):D:=.lst (mkB z.1) (z.2.map D.str)
def fr(g:List Str):D:=.lst .frz (g.map D.str)
theorem Rf(l:List Gz):fzL (l.map zD)=(l.map (·.2)).map fr:=by
 rw[gH,List.map_map,List.map_map];refine List.map_congr_left λz _=>?_;simp only[Function.comp,zD,fr,fz,dM];cases z.1<;>rfl
theorem Mg(l:List Gz):aD (l.map zD)=true:=b_ λd hd=>by
 obtain⟨z,_,rfl⟩:=List.mem_map.mp hd;simp only[zD,aG,cu];cases z.1<;>rfl
theorem Mj(l:List Gz):aH (l.map zD)=true:=bN λd hd=>by
 obtain⟨z,_,rfl⟩:=List.mem_map.mp hd;simp only[zD,aC,bR];cases z.1<;>rfl
theorem nQ(b:Bool)(g:List Str):view b (fr g)=fr g:=by cases b<;>simp[fr,view,cJ,mkV]
theorem Bv(b:Bool)(l:List (List Str)):ik b (l.map fr)=l.map fr:=by
 rw[dX,List.map_map];exact List.map_congr_left λg _=>nQ b g
theorem GC(l:List (List Str)):jc (l.map fr)=l.map fr:=by
 rw[fQ,List.map_map];refine List.map_congr_left λg _=>?_;simp[fr,fzo,dO,mkO]
theorem vo(g:List Str):aG (fr g)=true/\aC (fr g)=true:=by simp[fr,aG,aC,cu,bR]
theorem uw:∀a b:List Str,eqL (a.map Dt.str) (b.map Dt.str)=decide (a=b)
 |[],[]=>rfl
 |[],_::_=>rfl
 |_::_,[]=>rfl
 |x::r,y::q=>by
  rw[List.map_cons,List.map_cons,eqL,uw r q,Bool.eq_iff_iff];simp[eqD]
theorem Li{f s:List Str}:gNe (fr f) (fr s)=some (.bl (!decide (f=s))):=by
 unfold gNe;rw[if_pos ⟨iz f,iz s,by simp[fr,dt,dp,gJ,jm],by simp[fr,dt,dp,gJ,jm]⟩];simp[fr,dt,gJ,eqD,uw]
theorem jB:∀g:List Str,strsOf (g.map D.str)=some g
 |[]=>rfl
 |y::r=>by simp[strsOf,jB r]
def Wt(gs:List (List Str)):Nat:=(gs.map λg=>g.length+1).sum
theorem Bc(a b:List (List Str)):Wt (a++b)=Wt a+Wt b:=by simp[Wt]
theorem tD:∀{gs:List (List Str)}{g:List Str},g∈gs->g.length+1<=Wt gs
 |x::r,g,h=>by
  simp only[Wt,List.map_cons,List.sum_cons];rcases List.mem_cons.mp h with rfl|z
  .omega
  .have:=tD z;unfold Wt at this;omega
theorem Ar:∀gs:List (List Str),gs.length<=Wt gs
 |[]=>by simp
 |x::r=>by have:=Ar r;simp only[Wt,List.map_cons,List.sum_cons,List.length_cons]at this⊢;omega
theorem Le(p:List Str->Bool):∀gs:List (List Str),Wt (gs.filter p)<=Wt gs
 |[]=>by simp
 |x::r=>by
  have:=Le p r;rw[List.filter_cons];split<;>simp only[Wt,List.map_cons,List.sum_cons]at this⊢<;>omega
theorem zP{f:List Str}:∀{gs:List (List Str)},f∈gs->Wt (gs.filter λg=>!decide (g=f))+(f.length+1)<=Wt gs
 |x::r,h=>by
  by_cases hx:x=f
  .subst hx
   have:=Le (λg=>!decide (g=x)) r;rw[List.filter_cons,if_neg (by simp)];simp only[Wt,List.map_cons,List.sum_cons]at this⊢;omega
  .have:=zP ((List.mem_cons.mp h).resolve_left λz=>hx z.symm)
   rw[List.filter_cons,if_pos (by simpa using hx)];simp only[Wt,List.map_cons,List.sum_cons]at this⊢;omega
theorem Ng{f s:List Str}{gs:List (List Str)}(hf:f∈gs)(hs:s∈gs)(hn:f≠s):Wt (gs.filter λg=>!decide (g=f)&& !decide (g=s))+(f.length+1)+(s.length+1)<=Wt gs:=by
 have h1:=zP hf;have h2:=zP (gs:=gs.filter λg=>!decide (g=f)) (List.mem_filter.mpr ⟨hs,by simpa using λz=>hn z.symm⟩);rw[List.filter_filter]at h2;have e:(gs.filter λg=>!decide (g=f)&& !decide (g=s))=gs.filter λg=>!decide (g=s)&& !decide (g=f):=by
  congr 1;funext g;exact Bool.and_comm _ _
 rw[e];omega
structure Gr(ns:List Str)(gs:List (List Str)):Prop where
 i:∀g∈gs,∀x∈g,x∈ns
 c:∀x∈ns,∃g∈gs,x∈g
 w:Wt gs<=30
theorem Gr.merge{ns:List Str}{gs:List (List Str)}{f s:List Str}(h:Gr ns gs)(hf:f∈gs)(hs:s∈gs)(hn:f≠s):Gr ns ((gs.filter λg=>!decide (g=f)&& !decide (g=s))++[f++s])where
 i:=λg hg x hx=>by
  rcases List.mem_append.mp hg with z|z
  .exact h.i g (List.mem_filter.mp z).1 x hx
  .obtain rfl:=List.mem_singleton.mp z
   exact(List.mem_append.mp hx).elim (h.i f hf x) (h.i s hs x)
 c:=λx hx=>by
  obtain⟨g,hg,hxg⟩:=h.c x hx;by_cases h1:g=f
  .exact⟨f++s,by simp,List.mem_append_left _ (h1▸hxg)⟩
  .by_cases h2:g=s
   .exact⟨f++s,by simp,List.mem_append_right _ (h2▸hxg)⟩
   .exact⟨g,List.mem_append_left _ (List.mem_filter.mpr ⟨hg,by simp[h1,h2]⟩),hxg⟩
 w:=by
  have:=Ng hf hs hn;have:=h.w;rw[Bc];simp only[Wt,List.map_cons,List.map_nil,List.sum_cons,List.sum_nil,List.length_append]at *
  omega
theorem RV(ns:List Str):gO (tpN 0) eTT (eAp a_ (ak (aq false 0) aJ)) [none] (ns.map D.str)=some ((ns.map λx=>((true,[x]):Gz)).map zD):=by
 rw[fP (p:=λ_=>true) (f:=λd=>.lst .own [d])]
 .rw[filter_tt,List.map_map,List.map_map]
  rfl
 .intro d hd
  obtain⟨x,_,rfl⟩:=List.mem_map.mp hd;simp_arith[a_]
theorem Rx(x:Str)(gs:List (List Str)):gO (tpN 0) (eB (e2 gIn (aq false 1) (aq false 0))) (aq false 0) [none,some (.str x)] (gs.map fr)=some ((gs.filter λg=>decide (x∈g)).map fr):=by
 have hp:∀g:List Str,gIn (.str x) (fr g)=some (.bl (decide (x∈g))):=λg=>(NK.lst g).i x;rw[fP (p:=λd=>match d with|.lst _ ds=>(strsOf ds).any (λg=>decide (x∈g))|_=>false) (f:=id)]
 .rw[List.map_id,List.filter_map]
  congr 2;refine List.filter_congr λg _=>?_;simp[Function.comp,fr,jB]
 .intro d hd
  obtain⟨g,_,rfl⟩:=List.mem_map.mp hd;simp[tpN,aK,eB,e2,aq,nQ,view,hp,isB];simp[fr,jB]
theorem RG(f s:List Str)(gs:List (List Str)):gO (tpN 0) (rF (eB (e2 gNe (aq false 0) (aq false 1))) (eB (e2 gNe (aq false 0) (aq false 2)))) (aq false 0) [none,some (fr f),some (fr s)] (gs.map fr)=some ((gs.filter λg=>!decide (g=f)&& !decide (g=s)).map fr):=by
 have hst:=jB;rw[fP (p:=λd=>match d with|.lst _ ds=>(strsOf ds).any (λg=>!decide (g=f)&& !decide (g=s))|_=>false) (f:=id)]
 .rw[List.map_id,List.filter_map]
  congr 2;refine List.filter_congr λg _=>?_;simp[Function.comp,fr,hst]
 .intro d hd
  obtain⟨g,_,rfl⟩:=List.mem_map.mp hd;simp[tpN,aK,rF,eB,e2,aq,nQ,Li,isB];by_cases h1:g=f<;>by_cases h2:g=s<;>simp[h1,h2,fr,hst]
theorem Jd{x:Str}{ns:List Str}{gs:List (List Str)}(h:Gr ns gs)(hx:x∈ns):∃f∈gs,x∈f/\gIx (.lst .own ((gs.filter λg=>decide (x∈g)).map fr)) (.int 0)=some (fr f):=by
 obtain⟨g,hg,hxg⟩:=h.c x hx;have hm:g∈gs.filter λg=>decide (x∈g):=List.mem_filter.mpr ⟨hg,by simpa using hxg⟩;obtain⟨f,hf,_,he⟩:=j5 (f:=fr) (l:=gs.filter λg=>decide (x∈g)) (i:=0) (Int.le_refl 0) (by have:=List.length_pos_of_mem hm;omega);obtain⟨h1,h2⟩:=List.mem_filter.mp hf;exact⟨f,h1,by simpa using h2,he⟩
def cO(g:List Str):List Str:=(tQ (g.map λx=>[x])).map λk=>k.headD ""
theorem jw(g:List Str):List.Perm (cO g) g:=by
 have:=(ji (g.map λx=>[x])).map λk=>k.headD ("":Str);rw[List.map_map]at this;refine this.trans ?_;rw[show((λk:List Str=>k.headD "")∘λx=>[x])=id from rfl,List.map_id]
theorem vO:∀g:List Str,yw (g.map D.str)=some (g.map λx=>[x])
 |[]=>rfl
 |x::r=>by simp[yw,vO r]
theorem yr{m:Mk}{g:List Str}(h:g.length<64):je [.lst m (g.map D.str)]=some (.lst .own ((cO g).map D.str)):=by
 simp only[je,List.length_map,h,if_true,vO];rw[cO,List.map_map];rfl
theorem Bw:∀rs:List (List Str),lstK .own (rs.map (fL .own))=some rs
 |[]=>rfl
 |x::r=>by
  have:=jB x;simp[lstK,fL,this,Bw r]
theorem Dj{rs:List (List Str)}(h:rs.length<64):je [.lst .own (rs.map (fL .own))]=some (.lst .own ((tQ rs).map (fL .own))):=by
 simp only[je,List.length_map,h,if_true];cases rs with
 |nil=>rfl
 |cons x r=>
  have:=Bw (x::r);simp only[List.map_cons,fL,yw]at this⊢;rw[this];rfl
def Con(js:List Jt)(g:List Str):Prop:=∀P:Str->Prop,(∃x∈g,P x)->(∃y∈g,¬P y)->∃j∈js,j.1∈g/\j.2.1∈g/\((P j.1/\¬P j.2.1)∨(¬P j.1/\P j.2.1))
theorem Jx{js:List Jt}(x:Str):Con js [x]:=λP ⟨a,ha,p⟩⟨b,hb,q⟩=>by
 rw[List.mem_singleton]at ha hb;subst ha hb;exact absurd p q
theorem DQ{js:List Jt}{f s:List Str}{j:Jt}(hj:j∈js)(h1:j.1∈f)(h2:j.2.1∈s)(cf:Con js f)(cs:Con js s):Con js (f++s):=λP ⟨a,ha,pa⟩⟨b,hb,qb⟩=>by
 by_cases hf:(∃x∈f,P x)/\∃y∈f,¬P y
 .obtain⟨k,hk,k1,k2,k3⟩:=cf P hf.1 hf.2
  exact⟨k,hk,List.mem_append_left _ k1,List.mem_append_left _ k2,k3⟩
 .by_cases hs:(∃x∈s,P x)/\∃y∈s,¬P y
  .obtain⟨k,hk,k1,k2,k3⟩:=cs P hs.1 hs.2
   exact⟨k,hk,List.mem_append_right _ k1,List.mem_append_right _ k2,k3⟩
  .refine⟨j,hj,List.mem_append_left _ h1,List.mem_append_right _ h2,?_⟩
   by_cases p1:P j.1
   .refine .inl ⟨p1,λp2=>?_⟩
    rcases List.mem_append.mp hb with z|z
    .exact hf ⟨⟨_,h1,p1⟩,⟨b,z,qb⟩⟩
    .exact hs ⟨⟨_,h2,p2⟩,⟨b,z,qb⟩⟩
   .refine .inr ⟨p1,Classical.byContradiction λp2=>?_⟩
    rcases List.mem_append.mp ha with z|z
    .exact hf ⟨⟨a,z,pa⟩,⟨_,h1,p1⟩⟩
    .exact hs ⟨⟨a,z,pa⟩,⟨_,h2,p2⟩⟩
theorem Fw{js:List Jt}{g g':List Str}(h:List.Perm g' g)(c:Con js g):Con js g':=λP ⟨a,ha,pa⟩⟨b,hb,qb⟩=>by
 obtain⟨j,hj,j1,j2,j3⟩:=c P ⟨a,h.mem_iff.mp ha,pa⟩ ⟨b,h.mem_iff.mp hb,qb⟩;exact⟨j,hj,h.mem_iff.mpr j1,h.mem_iff.mpr j2,j3⟩
theorem sx{m:Mk}{ds:List D}:bQ [.lst m ds]=je [.lst m ds]:=rfl
def ClC(js:List Jt)(ns:List Str)(d:D):Prop:=∃rs:List (List Str),d= .lst .own (rs.map (fL .own))/\(∀r∈rs,0<r.length/\r.length<=30/\(∀x∈r,x∈ns)/\Con js r)/\(∀x∈ns,∃r∈rs,x∈r)/\rs.length<=30/\Wt rs<=30
def ClJ(N J:D)(js:List Jt)(ns:List Str)(k:Nat)(ρ:En):Prop:=∃(b:Bool)(zs:List Gz)(x3 x4 x5 x6 x7:Option D),ρ=[some N,some J,some (.lst (mkB b) (zs.map zD)),x3,x4,x5,x6,x7]/\Gr ns (zs.map (·.2))/\∀g∈zs.map (·.2),0<g.length/\Con js g
theorem vf{N J:D}{ns:List Str}{js:List Jt}(hN:NK N ns)(hJ:JJ J js)(hj:∀j∈js,j.1∈ns/\j.2.1∈ns)(hl:ns.length<=15):Wp (bM [N,J]) (ClC js ns):=by
 simp only[bM,fnP,en0,List.length_cons,List.length_nil,List.map_cons,List.map_nil,List.replicate,if_true,dm,Nat.reduceAdd,Nat.reduceSub,List.cons_append,List.nil_append];refine bI (ClJ N J js ns 0) (λQ hQ=>?_) ?_
 .simp_arith[-cN,hN.v,hN.s]
  refine⟨by omega,jM (RV ns) ?_⟩;rw[Mg,Mj];refine⟨by decide,hQ _ ⟨true,_,_,_,_,_,_,rfl,?_,λg hg=>?_⟩⟩
  rotate_left
  .rw[List.map_map]at hg
   obtain⟨x,_,rfl⟩:=List.mem_map.mp hg;exact⟨by simp,Jx x⟩
  rw[List.map_map];refine⟨λg hg x hx=>?_,λx hx=>⟨[x],List.mem_map.mpr ⟨x,hx,rfl⟩,by simp⟩,?_⟩
  .obtain⟨y,hy,rfl⟩:=List.mem_map.mp hg
   obtain rfl:=List.mem_singleton.mp hx;exact hy
  .have:∀l:List Str,Wt (l.map ((λz:Gz=>z.2)∘λx=>(true,[x])))=2*l.length:=by
    intro l
    induction l with
    |nil=>rfl
    |cons y r ih=>simp only[Wt,List.map_cons,List.sum_cons,List.length_cons]at ih⊢;rw[ih];simp;omega
   rw[this];omega
 rintro ρ0 ⟨b0,zs0,y3,y4,y5,y6,y7,rfl,hg0,hc0⟩;refine bI (ClJ N J js ns 0) (λQ hQ=>?_) ?_
 .simp[ju,itS,aq,hJ.v,hJ.s,dm,aK,w_ite]
  refine jE (ClJ N J js ns) ⟨b0,zs0,y3,y4,y5,y6,y7,rfl,hg0,hc0⟩ ?_ (λρ h=>hQ _ h);rintro k d ρ hk ⟨b,zs,x3,x4,x5,x6,x7,rfl,hg,hcn⟩;rw[List.getElem?_map]at hk;cases hjk:js[k]? with
  |none=>simp[hjk]at hk
  |some j=>
   obtain rfl:jD j=d:=by simpa[hjk]using hk
   obtain⟨hj1,hj2⟩:=hj j (List.mem_of_getElem? hjk);generalize hgs:zs.map (·.2)=gs at hg hcn;have hfz:fz (.lst (mkB b) (zs.map zD))= .lst .frz (gs.map fr):=by
    rw[fz,Rf,hgs];cases b<;>rfl
   have hgl:gs.length<=30:=Nat.le_trans (Ar gs) hg.w;obtain⟨f,hf,hxf,ef⟩:=Jd hg hj1;obtain⟨s,hs,hxs,es⟩:=Jd hg hj2;simp[jD,tgT,aQ,eO,tgN,aD,aH,clean,aG,aC,aK];refine bI (λρ=>ρ=[some N,some J,some (.lst .frz (gs.map fr)),some (.str j.1),some (.str j.2.1),some (.int j.2.2),some (fr f),x7]) (λQ hQ=>?_) ?_
   .simp_arith[-fz,hfz,Bv,GC]
    refine⟨by omega,jM (Rx j.1 gs) ?_⟩;rw[ef,aK];exact⟨vo f,hQ _ rfl⟩
   rintro _ rfl;refine bI (λρ=>ρ=[some N,some J,some (.lst .frz (gs.map fr)),some (.str j.1),some (.str j.2.1),some (.int j.2.2),some (fr f),some (fr s)]) (λQ hQ=>?_) ?_
   .simp_arith[Bv,GC]
    refine⟨by omega,jM (Rx j.2.1 gs) ?_⟩;rw[es,aK];exact⟨vo s,hQ _ rfl⟩
   rintro _ rfl;have hfl:=tD hf;have hsl:=tD hs;have hw:=hg.w;simp_arith[-view,nQ,Li];have hstay:ClJ N J js ns (k+1) [some N,some J,some (.lst .frz (gs.map fr)),some (.str j.1),some (.str j.2.1),some (.int j.2.2),some (fr f),some (fr s)]:=⟨false,gs.map λg=>(false,g),_,_,_,_,_,by rw[List.map_map];rfl,by rw[List.map_map,show((λz:Gz=>z.2)∘λg=>(false,g))=id from rfl,List.map_id];exact hg,by rw[List.map_map,show((λz:Gz=>z.2)∘λg=>(false,g))=id from rfl,List.map_id];exact hcn⟩;by_cases hfs:f=s
   .simp only[hfs,if_true]at hstay⊢
    exact hstay
   .simp only[hfs,if_false]
    have hv2:view false (.lst .frz (gs.map fr))= .lst .frz (gs.map fr):=by rw[view,Bv];rfl
    rw[Bv,GC];refine⟨by simp;omega,jM (RG f s gs) ?_⟩;have a1:bH (fr f) (fr s)=some (.lst .own ((f++s).map D.str)):=by
     simp[fr,bH];omega
    have hfi:=List.length_filter_le (λg=>!decide (g=f)&& !decide (g=s)) gs;have a2:bH (.lst .own ((gs.filter λg=>!decide (g=f)&& !decide (g=s)).map fr)) (.lst .own [.lst .own ((f++s).map D.str)])=some (.lst .own (((gs.filter λg=>!decide (g=f)&& !decide (g=s)).map λg=>((false,g):Gz)).map zD++[((true,f++s):Gz)].map zD)):=by
     have h1:((gs.filter λg=>!decide (g=f)&& !decide (g=s)).map fr).length+1<=1000000:=by rw[List.length_map];omega
     simp only[bH,List.length_cons,List.length_nil,Nat.zero_add];rw[if_pos ⟨by decide,by decide,h1⟩,List.map_map];rfl
    rw[a1,aK];simp only[a_,List.length_cons,List.length_nil,aK,if_true,Nat.zero_add,Nat.reduceLeDiff];rw[a2,aK,←List.map_append];simp only[aG,aC,Mg,Mj];refine⟨by decide,true,_,_,_,_,_,_,rfl,?_,?_⟩
    .rw[List.map_append,List.map_map,show((λz:Gz=>z.2)∘λg=>(false,g))=id from rfl,List.map_id]
     exact hg.merge hf hs hfs
    .rw[List.map_append,List.map_map,show((λz:Gz=>z.2)∘λg=>(false,g))=id from rfl,List.map_id]
     intro g hgm;rcases List.mem_append.mp hgm with z|z
     .exact hcn g (List.mem_filter.mp z).1
     .have e:g=f++s:=by simpa using z
      rw[e];exact⟨by have:=(hcn f hf).1;simp;omega,DQ (List.mem_of_getElem? hjk) hxf hxs (hcn f hf).2 (hcn s hs).2⟩
 rintro _ ⟨b,zs,x3,x4,x5,x6,x7,rfl,hg,hcn⟩;have hw:=hg.w;have hzl:zs.length<=30:=by have:=Ar (zs.map (·.2));simp at this;omega
 have hz64:∀z∈zs,z.2.length<64:=λz hz=>by have:=tD (List.mem_map_of_mem (f:=(·.2)) hz);omega
 have hvz:view false (.lst (mkB b) (zs.map zD))= .lst (mkV false (mkB b)) (zs.map λz=>.lst (mkV false (mkB z.1)) (z.2.map D.str)):=by
  rw[view,dX,List.map_map];congr 1;refine List.map_congr_left λz _=>?_;simp[Function.comp,zD,view,cJ]
 have hfo:jc (zs.map λz=>D.lst (mkV false (mkB z.1)) (z.2.map D.str))=zs.map λz=>D.lst (mkV false (mkB z.1)) (z.2.map D.str):=by
  rw[fQ,List.map_map];refine List.map_congr_left λz _=>?_;simp only[Function.comp,fzo,dO];cases z.1<;>rfl
 have hcc:gO (tpN 0) eTT (eAp bQ (ak (aq false 0) aJ)) [none] (zs.map λz=>D.lst (mkV false (mkB z.1)) (z.2.map D.str))=some (((zs.map λz=>cO z.2)).map (fL .own)):=by
  rw[fP (p:=λ_=>true) (f:=λd=>match d with|.lst _ ds=>.lst .own ((cO ((strsOf ds).getD [])).map D.str)|_=>.non)]
  .rw[filter_tt,List.map_map,List.map_map]
   congr 1;refine List.map_congr_left λz _=>?_;have:=jB z.2;simp[Function.comp,this,fL]
  .intro d hd
   obtain⟨z,hz,rfl⟩:=List.mem_map.mp hd;have:=jB z.2;have hv:view false (.lst (mkV false (mkB z.1)) (z.2.map D.str))= .lst (mkV false (mkB z.1)) (z.2.map D.str):=by
    rw[view,cJ];cases z.1<;>rfl
   simp[tpN,aK,eTT,eAp,ak,aq,aJ,hv,sx,yr (hz64 z hz),this]
 simp_arith[-view,-mkV,hvz,hfo];refine⟨by omega,jM hcc ?_⟩;rw[sx,Dj (by simp;omega),aK];have hpm:=ji (zs.map λz=>cO z.2);have nbL:∀rs:List (List Str),aD (rs.map (fL .own))=true:=λrs=>b_ λd hd=>by
  obtain⟨z,_,rfl⟩:=List.mem_map.mp hd;simp[fL,aG,cu]
 have noL:∀rs:List (List Str),aH (rs.map (fL .own))=true:=λrs=>bN λd hd=>by
  obtain⟨z,_,rfl⟩:=List.mem_map.mp hd;simp[fL,aC,bR]
 simp only[aG,aC,nbL,noL];refine⟨by decide,_,rfl,λr hr=>?_,λx hx=>?_,?_⟩
 .obtain⟨z,hz,rfl⟩:=List.mem_map.mp (hpm.mem_iff.mp hr)
  have:=tD (List.mem_map_of_mem (f:=(·.2)) hz);have hp:=jw z.2;have hzc:=hcn z.2 (List.mem_map_of_mem (f:=(·.2)) hz);exact⟨by rw[hp.length_eq];exact hzc.1,by rw[hp.length_eq];omega,λx hx=>hg.i z.2 (List.mem_map_of_mem (f:=(·.2)) hz) x (hp.mem_iff.mp hx),Fw hp hzc.2⟩
 .obtain⟨g,hgm,hxg⟩:=hg.c x hx
  obtain⟨z,hz,rfl⟩:=List.mem_map.mp hgm;exact⟨cO z.2,hpm.mem_iff.mpr (List.mem_map.mpr ⟨z,hz,rfl⟩),(jw z.2).mem_iff.mpr hxg⟩
 .refine⟨by rw[hpm.length_eq,List.length_map];exact hzl,?_⟩
  have e1:Wt (tQ (zs.map λz=>cO z.2))=Wt (zs.map λz=>cO z.2):=(hpm.map _).sum_nat;have e4:Wt (zs.map λz=>cO z.2)=Wt (zs.map (·.2)):=by
   unfold Wt;rw[List.map_map,List.map_map];congr 1;exact List.map_congr_left λz _=>by simp only[Function.comp,(jw z.2).length_eq]
  rw[e1,e4];exact hw
theorem wQ{α:Type}[DecidableEq α]:∀{ks ns:List α},ks.Nodup->(∀k∈ks,k∈ns)->ks.length<=ns.length
 |[],_,_,_=>Nat.zero_le _
 |k::r,ns,h,hs=>by
  have h0:=hs k (.head _);have h1:=wQ (ks:=r) (ns:=ns.erase k) (List.nodup_cons.mp h).2 λx hx=>(List.mem_erase_of_ne (show x≠k from λe=>(List.nodup_cons.mp h).1 (by rw[←e];exact hx))).mpr (hs x (.tail _ hx));rw[List.length_erase_of_mem h0]at h1;have:=List.length_pos_of_mem h0;simp only[List.length_cons];omega
def dD(ys:List Str)(vs:List Int):D:=.dct .own (ys.map Sum.inr) (vs.map D.int)
def dB(ys:List Str)(vs:List Int):D:=.dct .brw (ys.map Sum.inr) (vs.map D.int)
theorem zQ{ys:List Str}{vs:List Int}:view false (dD ys vs)=dB ys vs:=by simp only[dD,dB,view,oV];rfl
theorem Ii{ys:List Str}{vs:List Int}:aG (dD ys vs)=true/\aC (dD ys vs)=true:=by
 have h1:aD (vs.map D.int)=true:=b_ λd hd=>by obtain⟨x,_,rfl⟩:=List.mem_map.mp hd;rfl
 have h2:aH (vs.map D.int)=true:=bN λd hd=>by obtain⟨x,_,rfl⟩:=List.mem_map.mp hd;rfl
 simp[dD,aG,aC,h1,h2]
theorem kI{ys:List Str}{x:Str}:(fO (ys.map Sum.inr) (Sum.inr x)).isSome=decide (x∈ys):=by
 cases e:fO (ys.map Sum.inr) (Sum.inr x)with
 |none=>
  unfold fO at e;rw[List.findIdx?_eq_none_iff]at e;refine(decide_eq_false λh=>?_).symm;have:=e (Sum.inr x) (List.mem_map.mpr ⟨x,h,rfl⟩);simp at this
 |some j=>
  obtain⟨hl,hk,_⟩:=List.findIdx?_eq_some_iff_getElem.mp e;have h2:(ys.map (Sum.inr:Str->Key))[j]=Sum.inr x:=by simpa using hk
  have h3:Sum.inr x∈ys.map (Sum.inr:Str->Key):=h2▸List.getElem_mem hl;obtain⟨y,hy,h4⟩:=List.mem_map.mp h3;cases h4;exact(decide_eq_true hy).symm
theorem LC{ys:List Str}{vs:List Int}{x:Str}:gIn (.str x) (dB ys vs)=some (.bl (decide (x∈ys))):=by
 simp only[gIn,dB,rY,iT,Option.map_some,kI]
theorem Lw{ys:List Str}{vs:List Int}{x:Str}:km (.str x) (dB ys vs)=some (.bl (!decide (x∈ys))):=by
 simp only[km,dB,rY,iT,Option.map_some,kI]
structure DI(ns ys:List Str)(vs:List Int):Prop where
 l:ys.length=vs.length
 n:ys.Nodup
 s:∀y∈ys,y∈ns
 b:∀v∈vs,v.natAbs<=1000000000000*ys.length
theorem DI.ix{ns ys:List Str}{vs:List Int}{x:Str}(h:DI ns ys vs)(hx:x∈ys):∃i:Int,gIx (dB ys vs) (.str x)=some (.int i)/\i.natAbs<=1000000000000*ys.length:=by
 have h1:(fO (ys.map Sum.inr) (Sum.inr x)).isSome=true:=by rw[kI];exact decide_eq_true hx
 obtain⟨j,hj⟩:=Option.isSome_iff_exists.mp h1;have hl:j<vs.length:=by
  obtain⟨hl,_,_⟩:=List.findIdx?_eq_some_iff_getElem.mp hj;have:=h.l;simp at hl;omega
 refine⟨vs[j],?_,h.b _ (List.getElem_mem hl)⟩;simp only[dB,gIx,iT,Option.bind_some,hj];simp[hl]
theorem DI.add{ns ys:List Str}{vs:List Int}{x:Str}{v:Int}(h:DI ns ys vs)(hx:x∉ys)(hn:x∈ns)(hv:v.natAbs<=1000000000000*(ys.length+1)):DI ns (ys++[x]) (vs++[v])where
 l:=by simp[h.l]
 n:=by
  rw[List.nodup_append];exact⟨h.n,by simp,λa ha b hb e=>hx (by rw[List.mem_singleton.mp hb]at e;exact e▸ha)⟩
 s:=λy hy=>(List.mem_append.mp hy).elim (h.s y) λz=>by rw[List.mem_singleton.mp z];exact hn
 b:=λw hw=>by
  rw[List.length_append,List.length_singleton];rcases List.mem_append.mp hw with z|z
  .have:=h.b w z;omega
  .rw[List.mem_singleton.mp z];exact hv
theorem z_{ys:List Str}{vs:List Int}{x:Str}{v:Int}(hx:x∉ys)(hl:ys.length<1000000):gV (dD ys vs) [.str x,.int v]=some (dD (ys++[x]) (vs++[v]),.non):=by
 have e:fO (ys.map Sum.inr) (Sum.inr x)=none:=by
  cases e:fO (ys.map Sum.inr) (Sum.inr x)with
  |none=>rfl
  |some j=>have:=kI (ys:=ys) (x:=x);rw[e]at this;exact absurd (of_decide_eq_true this.symm) hx
 simp[dD,gV,iT,hl,fK,e]
theorem Nx{ns ys:List Str}{vs:List Int}{x:Str}(h:DI ns ys vs)(hn:x∈ns)(hl:ys.length<1000000):∃ys' vs',gV (dD ys vs) [.str x,.int 0]=some (dD ys' vs',.non)/\DI ns ys' vs'/\x∈ys'/\∀y∈ys,y∈ys':=by
 by_cases hx:x∈ys
 .have h1:(fO (ys.map Sum.inr) (Sum.inr x)).isSome=true:=by rw[kI];exact decide_eq_true hx
  obtain⟨j,hj⟩:=Option.isSome_iff_exists.mp h1;refine⟨ys,vs.set j 0,?_,⟨by simp[h.l],h.n,h.s,λv hv=>?_⟩,hx,λy hy=>hy⟩
  .simp[dD,gV,iT,hl,fK,hj,List.map_set]
  .rcases List.mem_or_eq_of_mem_set hv with z|z
   .exact h.b v z
   .rw[z];simp
 .exact⟨ys++[x],vs++[0],z_ hx hl,h.add hx hn (by simp),by simp,λy hy=>List.mem_append_left _ hy⟩
def cU(ys r:List Str):Nat:=r.countP λx=>!decide (x∈ys)
theorem Q6{ys zs r:List Str}(h:∀y∈ys,y∈zs):cU zs r<=cU ys r:=mJ λx _ hx=>by
 simp only[Bool.not_eq_true',decide_eq_false_iff_not]at hx⊢;exact λz=>hx (h x z)
theorem K6{js:List Jt}{ys zs r:List Str}(hc:Con js r)(h:∀y∈ys,y∈zs)(hj:∀j∈js,(j.1∈ys->j.2.1∈zs)/\(j.2.1∈ys->j.1∈zs))(h0:∃x∈r,x∈ys):cU zs r<=cU ys r-1:=by
 by_cases hb:∃y∈r,¬y∈ys
 .obtain⟨j,hjm,j1,j2,j3⟩:=hc (·∈ys) h0 hb
  have key:∃z∈r,z∉ys/\z∈zs:=by
   rcases j3 with⟨a,b⟩|⟨a,b⟩
   .exact⟨_,j2,b,(hj j hjm).1 a⟩
   .exact⟨_,j1,a,(hj j hjm).2 b⟩
  obtain⟨z,hz,z1,z2⟩:=key;have:=my (l:=r) (p:=λx=>!decide (x∈zs)) (q:=λx=>!decide (x∈ys)) (z:=z) (λx _ hx=>by
   simp only[Bool.not_eq_true',decide_eq_false_iff_not]at hx⊢;exact λw=>hx (h x w)) hz (by simpa using z1) (by simpa using z2)
  unfold cU;omega
 .have:cU ys r=0:=List.countP_eq_zero.mpr λx hx=>by
   have:x∈ys:=Classical.byContradiction λz=>hb ⟨x,hx,z⟩;simp[this]
  have:=Q6 (r:=r) h;omega
def NuI(N J:D)(ns:List Str)(rs:List (List Str))(k:Nat)(ρ:En):Prop:=∃(ys:List Str)(vs:List Int)(x3 x4 x5 x6 x7:Option D),ρ=[some N,some J,some (dD ys vs),x3,x4,x5,x6,x7]/\DI ns ys vs/\∀r∈rs.take k,∀x∈r,x∈ys
def NuA(N J:D)(ns:List Str)(old:List Str)(r:List Str)(k:Nat)(ρ:En):Prop:=∃(ys:List Str)(vs:List Int)(x4 x5 x6 x7:Option D),ρ=[some N,some J,some (dD ys vs),some (fr r),x4,x5,x6,x7]/\DI ns ys vs/\(∀y∈old,y∈ys)/\(∃x∈r,x∈ys)/\cU ys r<=r.length-(k+1)
def NuB(N J:D)(ns:List Str)(js:List Jt)(y0:List Str)(r:List Str)(x4:Option D)(k:Nat)(ρ:En):Prop:=∃(ys:List Str)(vs:List Int)(x5 x6 x7:Option D),ρ=[some N,some J,some (dD ys vs),some (fr r),x4,x5,x6,x7]/\DI ns ys vs/\(∀y∈y0,y∈ys)/\∀j∈js.take k,(j.1∈y0->j.2.1∈ys)/\(j.2.1∈y0->j.1∈ys)
def Nu(ns:List Str)(d:D):Prop:=∃(ys:List Str)(vs:List Int),d=dD ys vs/\DI ns ys vs/\∀x∈ns,x∈ys
theorem DW{N J:D}{ns:List Str}{js:List Jt}(hN:NK N ns)(hJ:JJ J js)(hj:∀j∈js,j.1∈ns/\j.2.1∈ns)(hb:∀j∈js,j.2.2.natAbs<=1000000000000)(hl:ns.length<=15):Wp (cX [N,J]) (Nu ns):=by
 simp only[cX,fnP,en0,List.length_cons,List.length_nil,List.map_cons,List.map_nil,List.replicate,if_true,dm,Nat.reduceAdd,Nat.reduceSub,List.cons_append,List.nil_append];refine bI (λρ=>ρ=[some N,some J,some (dD [] []),none,none,none,none,none]) (λQ hQ=>?_) ?_
 .simp_arith[zq]
  exact hQ _ rfl
 rintro _ rfl;obtain⟨d,hcd,rs,rfl,hr1,hr2,hr3,_⟩:∃d,bM [N,J]=some d/\ClC js ns d:=by
  obtain⟨d,h1,h2⟩:=vf hN hJ hj hl;exact⟨d,h1,h2⟩
 have q1:aD (rs.map (fL .own))=true:=b_ λd hd=>by
  obtain⟨z,_,rfl⟩:=List.mem_map.mp hd;simp[fL,aG,cu]
 have q2:aH (rs.map (fL .own))=true:=bN λd hd=>by
  obtain⟨z,_,rfl⟩:=List.mem_map.mp hd;simp[fL,aC,bR]
 have q3:jc (rs.map (fL .own))=rs.map fr:=by
  rw[fQ,List.map_map];refine List.map_congr_left λz _=>?_;simp[fL,fr,fzo,dO,mkO]
 refine bI (NuI N J ns rs rs.length) (λQ hQ=>?_) ?_
 .simp[ju,itS,eAp,ak,aq,aJ,eQ,fzL,aD,aH,hN.v,hN.f,hN.b,hN.o,hJ.v,hJ.f,hJ.b,hJ.o,hcd,cN,clean,aG,aC,q1,q2,q3,dm,aK,w_ite]
  refine jE (NuI N J ns rs) ⟨[],[],none,none,none,none,none,rfl,⟨rfl,by simp,by simp,by simp⟩,by simp⟩ ?_ (λρ h=>hQ _ (by rw[List.length_map]at h;exact h));rintro k d ρ hk ⟨ys,vs,x3,x4,x5,x6,x7,rfl,hd,hcov⟩;rw[List.getElem?_map]at hk;cases hrk:rs[k]? with
  |none=>simp[hrk]at hk
  |some r=>
   obtain rfl:fr r=d:=by simpa[hrk]using hk
   obtain⟨r0,r1,r2,r3⟩:=hr1 r (List.mem_of_getElem? hrk);have hyl:∀{zs:List Str}{ws:List Int},DI ns zs ws->zs.length<=15:=λh=>Nat.le_trans (wQ h.n h.s) hl;obtain⟨x0,hx0,hi0⟩:∃x0∈r,gIx (fr r) (.int 0)=some (.str x0):=by
    cases r with
    |nil=>simp at r0
    |cons a t=>exact⟨a,.head _,by simp[fr,gIx,atI,ixN]⟩
   obtain⟨ys1,vs1,hset,hd1,hm1,hs1⟩:=Nx hd (r2 x0 hx0) (by have:=hyl hd;omega);simp only[tgN,clean,(vo r).1,(vo r).2,Bool.and_self,if_true,aK,List.set_cons_succ,List.set_cons_zero];refine bI (λρ=>ρ=[some N,some J,some (dD ys1 vs1),some (fr r),x4,x5,x6,x7]) (λQ hQ=>?_) ?_
   .simp_arith[nQ,hi0,hset,Ii]
    exact hQ _ rfl
   rintro _ rfl;have hfz:fz (fr r)=fr r:=by simp[fr,fz,dM,mkF]
   have hsq:cN (fr r)=some (true,r.map D.str):=(NK.lst r).s;have hc1:cU ys1 r<=r.length-(0+1):=by
    have h1:=my (l:=r) (p:=λx=>!decide (x∈ys1)) (q:=λ_=>true) (z:=x0) (λ_ _ _=>rfl) hx0 rfl (by simpa using hm1);rw[List.countP_true]at h1;unfold cU;omega
   simp only[sFz,qT,List.getElem?_cons_succ,List.getElem?_cons_zero,hfz,List.set_cons_succ,List.set_cons_zero,dm,aK,ju,itS,aq,nQ,Option.bind_some,hsq,w_ite,if_true];refine jE (NuA N J ns ys r) ⟨ys1,vs1,x4,x5,x6,x7,rfl,hd1,hs1,⟨x0,hx0,hm1⟩,hc1⟩ ?_ ?_
   .clear hd1 hs1 hm1 hc1 hset
    rintro m d ρ hm ⟨ys2,vs2,z4,z5,z6,z7,rfl,hd2,hs2,hx2,hc2⟩;obtain⟨g,hg,rfl⟩:=List.mem_map.mp (List.mem_of_getElem? hm);simp only[tgN,clean,aG,aC,Bool.and_self,if_true,aK,List.set_cons_succ,List.set_cons_zero];simp only[ju,itS,aq,List.getElem?_cons_succ,List.getElem?_cons_zero,hJ.v,Option.bind_some,hJ.s,dm,aK,w_ite,if_true];refine jE (NuB N J ns js ys2 r (some (.str g))) ⟨ys2,vs2,z5,z6,z7,rfl,hd2,λy h=>h,by simp⟩ ?_ ?_
    .rintro i d ρ hi ⟨ys3,vs3,w5,w6,w7,rfl,hd3,hs3,hcl⟩
     rw[List.getElem?_map]at hi;cases hji:js[i]? with
     |none=>simp[hji]at hi
     |some j=>
      obtain rfl:jD j=d:=by simpa[hji]using hi
      have hjm:=List.mem_of_getElem? hji;have htk:∀q∈js.take (i+1),q∈js.take i∨q=j:=λq hq=>by
       rw[List.take_add_one,hji]at hq;rcases List.mem_append.mp hq with z|z
       .exact .inl z
       .exact .inr (by simpa using z)
      have hbj:=hb j hjm;simp[jD,tgT,aQ,eO,tgN,aD,aH,clean,aG,aC,aK];refine bI (λρ=>∃(ys:List Str)(vs:List Int),DI ns ys vs/\(∀y∈ys3,y∈ys)/\(j.1∈ys3->j.2.1∈ys)/\ρ=[some N,some J,some (dD ys vs),some (fr r),some (.str g),some (.str j.1),some (.str j.2.1),some (.int j.2.2)]) (λQ hQ=>?_) ?_
      .simp_arith[-view,zQ,show ∀x:Str,view false (.str x)= .str x from λ_=>rfl,show ∀x:Int,view false (.int x)= .int x from λ_=>rfl,LC,Lw]
       by_cases c1:j.1∈ys3
       .by_cases c2:j.2.1∈ys3
        .simp[c1,c2]
         exact hQ _ ⟨ys3,vs3,hd3,λy h=>h,λ_=>c2,rfl⟩
        .obtain⟨v,hv,hvb⟩:=hd3.ix c1
         have hl3:=hyl hd3;simp[c1,c2,hv,aK,bH,z_ c2 (by omega:ys3.length<1000000),Ii];refine⟨⟨rfl,rfl⟩,?_⟩;exact hQ _ ⟨_,_,hd3.add (v:=v+j.2.2) c2 (hj j hjm).2 (by omega),λy h=>List.mem_append_left _ h,λ_=>by simp,rfl⟩
       .simp[c1]
        exact hQ _ ⟨ys3,vs3,hd3,λy h=>h,λz=>absurd z c1,rfl⟩
      rintro _ ⟨ys4,vs4,hd4,hs4,hc4,rfl⟩;simp_arith[-view,zQ,show ∀x:Str,view false (.str x)= .str x from λ_=>rfl,show ∀x:Int,view false (.int x)= .int x from λ_=>rfl,LC,Lw];have hfin:∀(ys:List Str)(vs:List Int),DI ns ys vs->(∀y∈ys4,y∈ys)->(j.2.1∈ys4->j.1∈ys)->NuB N J ns js ys2 r (some (.str g)) (i+1) [some N,some J,some (dD ys vs),some (fr r),some (.str g),some (.str j.1),some (.str j.2.1),some (.int j.2.2)]:=λys vs h1 h2 h3=>⟨ys,vs,_,_,_,rfl,h1,λy h=>h2 y (hs4 y (hs3 y h)),λq hq=>by
       rcases htk q hq with z|z
       .exact⟨λa=>h2 _ (hs4 _ ((hcl q z).1 a)),λa=>h2 _ (hs4 _ ((hcl q z).2 a))⟩
       .rw[z];exact⟨λa=>h2 _ (hc4 (hs3 _ a)),λa=>h3 (hs4 _ (hs3 _ a))⟩⟩
      by_cases c1:j.2.1∈ys4
      .by_cases c2:j.1∈ys4
       .simp[c1,c2]
        exact hfin _ _ hd4 (λy h=>h) λ_=>c2
       .obtain⟨v,hv,hvb⟩:=hd4.ix c1
        have hl4:=hyl hd4;simp[c1,c2,hv,aK,i_,z_ c2 (by omega:ys4.length<1000000),Ii];refine⟨⟨rfl,rfl⟩,?_⟩;exact hfin _ _ (hd4.add (v:=v-j.2.2) c2 (hj j hjm).1 (by omega)) (λy h=>List.mem_append_left _ h) λ_=>by simp
      .simp[c1]
       exact hfin _ _ hd4 (λy h=>h) λz=>absurd z c1
    .rintro ρ ⟨ys3,vs3,w5,w6,w7,rfl,hd3,hs3,hcl⟩
     rw[List.length_map,List.take_length]at hcl;obtain⟨xx,hxr,hxy⟩:=hx2;have:=K6 r3 hs3 hcl ⟨xx,hxr,hxy⟩;exact⟨ys3,vs3,_,_,_,_,rfl,hd3,λy h=>hs3 y (hs2 y h),⟨xx,hxr,hs3 _ hxy⟩,by omega⟩
   .rintro ρ ⟨ys2,vs2,z4,z5,z6,z7,rfl,hd2,hs2,hx2,hc2⟩
    rw[List.length_map]at hc2;have h0:cU ys2 r=0:=by omega
    have hall:∀x∈r,x∈ys2:=λx hx=>by
     have:=List.countP_eq_zero.mp h0 x hx;simpa using this
    refine⟨ys2,vs2,_,_,_,_,_,rfl,hd2,λq hq x hx=>?_⟩;rw[List.take_add_one,hrk]at hq;rcases List.mem_append.mp hq with z|z
    .exact hs2 x (hcov q z x hx)
    .rw[show q=r by simpa using z]at hx;exact hall x hx
 rintro _ ⟨ys,vs,x3,x4,x5,x6,x7,rfl,hd,hcov⟩;rw[List.take_length]at hcov;simp[lz,aK];exact⟨ys,vs,rfl,hd,λx hx=>by obtain⟨r,hr,hxr⟩:=hr2 x hx;exact hcov r hr x hxr⟩
abbrev Rp:=Str×Int
theorem yG(l:List Rp):aD (l.map pD)=true:=b_ λd hd=>by obtain⟨x,_,rfl⟩:=List.mem_map.mp hd;rfl
theorem za(l:List Rp):aH (l.map pD)=true:=bN λd hd=>by obtain⟨x,_,rfl⟩:=List.mem_map.mp hd;rfl
theorem yD(b:Bool)(l:List Rp):ik b (l.map pD)=l.map pD:=by rw[dX,List.map_map];rfl
theorem Ln(l:List Rp):fzL (l.map pD)=l.map pD:=by rw[gH,List.map_map];rfl
def okR(ns:List Str)(p:Rp):Prop:=p.1∈ns/\p.2.natAbs<=100000000000000
def Fj(ps:List Rp)(k:Nat)(p:Rp):List Rp:=ps.take k++p::ps.drop k
theorem Nb{ns:List Str}{ps:List Rp}{k:Nat}{p:Rp}(h:∀p∈ps,okR ns p)(hp:okR ns p):∀q∈Fj ps k p,okR ns q:=λq hq=>by
 rcases List.mem_append.mp hq with z|z
 .exact h q (List.mem_of_mem_take z)
 .rcases List.mem_cons.mp z with rfl|z
  .exact hp
  .exact h q (List.mem_of_mem_drop z)
theorem Jg{ps:List Rp}{k:Nat}{p:Rp}:(Fj ps k p).length=ps.length+1:=by
 unfold Fj;rw[List.length_append,List.length_cons,List.length_take,List.length_drop];omega
theorem Nq{ps:List Rp}{i:Int}{p:Rp}(h0:0<=i)(h1:i<1000)(hl:ps.length<1000):jj (.lst .own (ps.map pD)) [.int i,pD p]=some (.lst .own ((Fj ps (uW ps.length i) p).map pD),.non):=by
 simp only[jj,List.length_map];rw[if_pos ⟨by omega,by omega,by omega⟩];unfold Fj;rw[List.map_append,List.map_cons,List.map_take,List.map_drop]
def Rw(N J:D)(t:Int)(ns:List Str)(q:D×List D):Prop:=∃(ps:List Rp)(a' b':Int),q=(.lst .own (ps.map pD),[tp a' b',N,J,.int t])/\(∀p∈ps,okR ns p)/\ps.length<=30/\0<=a'
def RwI(N J:D)(t:Int)(ns ys:List Str)(vs:List Int)(rs:List (List Str))(k:Nat)(ρ:En):Prop:=∃(ps:List Rp)(a' b':Int)(x6 x7 x8 x9:Option D),ρ=[some (tp a' b'),some N,some J,some (.int t),some (dD ys vs),some (.lst .own (ps.map pD)),x6,x7,x8,x9]/\(∀p∈ps,okR ns p)/\ps.length<=Wt (rs.take k)/\0<=a'
def RwJ(N J:D)(t:Int)(ns ys:List Str)(vs:List Int)(r:List Str)(off:Int)(c:Nat)(k:Nat)(ρ:En):Prop:=∃(ps:List Rp)(a' b':Int)(x8 x9:Option D),ρ=[some (tp a' b'),some N,some J,some (.int t),some (dD ys vs),some (.lst .own (ps.map pD)),some (fr r),some (.int off),x8,x9]/\(∀p∈ps,okR ns p)/\ps.length<=c+k/\0<=a'
theorem Pn{a b t:Int}{N J:D}{ns:List Str}{js:List Jt}(ha:0<=a)(ht:0<=t/\t<=1000)(hN:NK N ns)(hJ:JJ J js)(hj:∀j∈js,j.1∈ns/\j.2.1∈ns)(hb:∀j∈js,j.2.2.natAbs<=1000000000000)(hl:ns.length<=15):Wp (eG [tp a b,N,J,.int t]) (Rw N J t ns):=by
 obtain⟨d,hnd,ys,vs,rfl,hd,hcv⟩:=DW hN hJ hj hb hl;obtain⟨d,hcd,rs,rfl,hr1,hr2,hr3,hr4⟩:=vf hN hJ hj hl;have hyl:ys.length<=15:=Nat.le_trans (wQ hd.n hd.s) hl;have q1:aD (rs.map (fL .own))=true:=b_ λd hd=>by
  obtain⟨z,_,rfl⟩:=List.mem_map.mp hd;simp[fL,aG,cu]
 have q2:aH (rs.map (fL .own))=true:=bN λd hd=>by
  obtain⟨z,_,rfl⟩:=List.mem_map.mp hd;simp[fL,aC,bR]
 have q3:jc (rs.map (fL .own))=rs.map fr:=by
  rw[fQ,List.map_map];refine List.map_congr_left λz _=>?_;simp[fL,fr,fzo,dO,mkO]
 simp only[eG,fnI,en0,List.length_cons,List.length_nil,List.map_cons,List.map_nil,List.replicate,if_true,dm,Nat.reduceAdd,Nat.reduceSub,List.cons_append,List.nil_append];refine bI (λρ=>ρ=[some (tp a b),some N,some J,some (.int t),some (dD ys vs),none,none,none,none,none]) (λQ hQ=>?_) ?_
 .simp_arith[hN.v,hN.f,hN.b,hN.o,hJ.v,hJ.f,hJ.b,hJ.o,hnd,Ii]
  exact hQ _ rfl
 rintro _ rfl;refine bI (λρ=>ρ=[some (tp a b),some N,some J,some (.int t),some (dD ys vs),some (.lst .own []),none,none,none,none]) (λQ hQ=>?_) ?_
 .simp_arith[a_]
  exact hQ _ rfl
 rintro _ rfl;refine bI (RwI N J t ns ys vs rs rs.length) (λQ hQ=>?_) ?_
 .simp[ju,itS,eAp,ak,aq,aJ,eQ,fzL,aD,aH,hN.v,hN.f,hN.b,hN.o,hJ.v,hJ.f,hJ.b,hJ.o,hcd,cN,clean,aG,aC,q1,q2,q3,dm,aK,w_ite]
  refine jE (RwI N J t ns ys vs rs) ⟨[],a,b,none,none,none,none,rfl,by simp,by simp,ha⟩ ?_ (λρ h=>hQ _ (by rw[List.length_map]at h;exact h));rintro k d ρ hk ⟨ps,a1,b1,x6,x7,x8,x9,rfl,hps,hpl,s1⟩;rw[List.getElem?_map]at hk;cases hrk:rs[k]? with
  |none=>simp[hrk]at hk
  |some r=>
   obtain rfl:fr r=d:=by simpa[hrk]using hk
   obtain⟨r0,r1,r2,r3⟩:=hr1 r (List.mem_of_getElem? hrk);have hwk:Wt (rs.take (k+1))=Wt (rs.take k)+(r.length+1):=by
    rw[List.take_add_one,hrk,Bc];simp[Wt]
   have hwm:Wt (rs.take (k+1))<=30:=by
    have h1:=Bc (rs.take (k+1)) (rs.drop (k+1));rw[List.take_append_drop]at h1;omega
   simp only[tgN,clean,(vo r).1,(vo r).2,Bool.and_self,if_true,aK,List.set_cons_succ,List.set_cons_zero];refine bI (λρ=>∃(off:Int)(a' b':Int),off.natAbs<=1000000000/\0<=a'/\ρ=[some (tp a' b'),some N,some J,some (.int t),some (dD ys vs),some (.lst .own (ps.map pD)),some (fr r),some (.int off),x8,x9]) (λQ hQ=>?_) ?_
   .simp_arith[a_,pN,nP]
    refine cP s1 (by decide) (by decide) λr2 a2 b2 p2 q2 s2=>?_;have h3:r2=0∨r2=1∨r2=2:=by omega
    rcases h3 with rfl|rfl|rfl<;>simp_arith[gIx,atI,ixN]<;>exact hQ _ ⟨_,_,_,by decide,s2,rfl⟩
   rintro _ ⟨off,a2,b2,hoff,s2,rfl⟩;have hfz:fz (fr r)=fr r:=by simp[fr,fz,dM,mkF]
   have hsq:cN (fr r)=some (true,r.map D.str):=(NK.lst r).s;simp only[sFz,qT,List.getElem?_cons_succ,List.getElem?_cons_zero,hfz,List.set_cons_succ,List.set_cons_zero,dm,aK,ju,itS,aq,nQ,Option.bind_some,hsq,w_ite,if_true];refine jE (RwJ N J t ns ys vs r off ps.length) ⟨ps,a2,b2,x8,x9,rfl,hps,by omega,s2⟩ ?_ ?_
   .clear hps s2
    rintro m d ρ hm ⟨ps2,a3,b3,z8,z9,rfl,hps,hpl2,s3⟩;have hmr:m<r.length:=by have:=(List.getElem?_eq_some_iff.mp hm).1;simpa using this
    obtain⟨g,hg,rfl⟩:=List.mem_map.mp (List.mem_of_getElem? hm);obtain⟨v,hv,hvb⟩:=hd.ix (hcv g (r2 g hg));have hvb2:v.natAbs<=15000000000000:=by omega
    have ht1: -18446744073709551616<t/\t<18446744073709551616:=by omega
    simp only[tgN,clean,aG,aC,Bool.and_self,if_true,aK,List.set_cons_succ,List.set_cons_zero];refine bI (λρ=>∃(p:Rp)(a' b':Int),okR ns p/\0<=a'/\ρ=[some (tp a' b'),some N,some J,some (.int t),some (dD ys vs),some (.lst .own (ps2.map pD)),some (fr r),some (.int off),some (.str g),some (pD p)]) (λQ hQ=>?_) ?_
    .simp_arith[-view,zQ,show ∀x:Str,view false (.str x)= .str x from λ_=>rfl,show ∀x:Int,view false (.int x)= .int x from λ_=>rfl,hv,bH]
     refine cP s3 (by decide) (by decide) λr4 a4 b4 p4 q4 s4=>?_;have hb2:(t*(r4-1)).natAbs<=1000:=by
      have h5:r4=0∨r4=1∨r4=2:=by omega
      rcases h5 with rfl|rfl|rfl<;>omega
     simp_arith[i_,gZ,bH,bU,ht1];exact hQ _ ⟨(g,v+off+t*(r4-1)),_,_,⟨r2 g hg,by show(v+off+t*(r4-1)).natAbs<=_;omega⟩,s4,rfl⟩
    rintro _ ⟨p,a4,b4,hp,s4,rfl⟩;have hll:ps2.length<1000:=by omega
    have hlen:bW [.lst .brw (ps2.map pD)]=some (.int ps2.length):=by simp[bW]
    have hvp:view false (.lst .own (ps2.map pD))= .lst .brw (ps2.map pD):=by rw[view,yD];rfl
    have hpv:view false (pD p)=pD p:=rfl;have hpc:aG (pD p)=true/\aC (pD p)=true:=⟨rfl,rfl⟩;simp_arith[-view,hvp,hlen,bH,hpv,hpc];refine cP s4 (by omega) (by omega) λr5 a5 b5 p5 q5 s5=>?_;simp_arith[-view,hpv,hpc,Nq (p:=p) p5 (by omega:r5<1000) hll];exact⟨_,_,_,_,_,rfl,Nb hps hp,by rw[Jg];omega,s5⟩
   .rintro ρ ⟨ps2,a3,b3,z8,z9,rfl,hps,hpl2,s3⟩
    rw[List.length_map]at hpl2;exact⟨ps2,a3,b3,_,_,_,_,rfl,hps,by omega,s3⟩
 rintro _ ⟨ps,a1,b1,x6,x7,x8,x9,rfl,hps,hpl,s1⟩;rw[List.take_length]at hpl;simp[lz,aK,outs];exact⟨ps,a1,b1,rfl,hps,by omega,s1⟩
theorem Do{t n:Int}(ht:0<=t):dZ [.int t,.int n]=some (.int (cnt t n)):=by
 apply Wp.eq;unfold cnt;by_cases h0:t=0
 .simp_arith[dZ,eq_int,h0]
 .have:0<t:=by omega
  simp_arith[dZ,eq_int,h0,j9,this]
theorem zN{t n:Int}(ht:0<=t/\t<=1000):cz [.int t,.int n]=some (.int (cnt t n)):=by
 apply Wp.eq;unfold cnt;by_cases h0:t=0
 .simp_arith[cz,eq_int,h0]
 .have h1:0<t:=by omega
  have h2:t<18446744073709551616:=by omega
  have h3: -18446744073709551616<t:=by omega
  simp_arith[cz,eq_int,h0,oX,gZ,i_,h1,h2,h3];have:=Int.emod_add_mul_ediv n t;rw[Int.mul_comm]at this;omega
def Dm:D->Bool
 |.str _=>true
 |_=>false
def jG:D->Bool
 |.tup [x,y]=>Dm x&&Er y
 |_=>false
theorem O8{d:D}(h:Tyd d):bO [d]=some (.bl (jG d)):=by
 apply Wp.eq;obtain⟨f1,f2,f3,f4,f5,f6⟩:=h.all;simp only[bO,fnP,en0,List.length_cons,List.length_nil,List.map_cons,List.map_nil,List.replicate,if_true,dm,Nat.reduceAdd,Nat.reduceSub,List.cons_append,List.nil_append];cases hc:tV d with
 |false=>
  have hr:jG d=false:=by
   cases h with
   |@tup es he=>
    match es,hc with
    |[],_=>rfl
    |[_],_=>rfl
    |[_,_],hc=>simp[tV]at hc
    |_::_::_::_,_=>rfl
   |_=>rfl
  simp_arith[f1,f3,f4,f5,yo h,hc,hr]
 |true=>
  obtain⟨x,y,rfl⟩:=Cj hc;cases h with
  |@tup es he=>
   have hx:=he x (by simp);have hy:=he y (by simp);obtain⟨x1,x2,x3,x4,x5,x6⟩:=hx.all;obtain⟨y1,y2,y3,y4,y5,y6⟩:=hy.all;have i0:gIx (.tup [x,y]) (.int 0)=some x:=rfl;have i1:gIx (.tup [x,y]) (.int 1)=some y:=rfl;have hcw:=yo (Tyd.tup he);have hnw:=yV hy;simp_arith[x1,x3,x4,x5,y1,y3,y4,y5,hcw,hc,i0,i1,hnw];cases hx with
   |str z=>
    simp[bf,tyN,okT,isT,aK];simp[jG,Dm]
   |_=>simp[bf,tyN,okT,isT,aK,jG,Dm]
theorem Av:∀{ds:List D},ds.all jG=true->∃ps:List Rp,ds=ps.map pD
 |[],_=>⟨[],rfl⟩
 |d::r,h=>by
  simp only[List.all_cons,Bool.and_eq_true]at h;obtain⟨ps,rfl⟩:=Av h.2;have h1:=h.1;unfold jG at h1;split at h1
  .rename_i x y
   cases x with
   |str x=>
    cases y with
    |int i=>exact⟨(x,i)::ps,rfl⟩
    |_=>simp[Er]at h1
   |_=>simp[Dm]at h1
  .cases h1
def eR(p:Rp):Key×D:=(Sum.inr p.1,.int p.2)
theorem su:∀{es:List (Key×D)}{ks:List Key}{ds:List D}{p:Key×D},aX ks ds (es++[p])=fK (aX ks ds es).1 (aX ks ds es).2 p.1 p.2
 |[],ks,ds,p=>rfl
 |q::r,ks,ds,p=>by rw[List.cons_append,aX,aX,su]
theorem kN{ys:List Str}{x:Str}(hx:x∉ys):fO (ys.map Sum.inr) (Sum.inr x)=none:=by
 cases e:fO (ys.map Sum.inr) (Sum.inr x)with
 |none=>rfl
 |some j=>have:=kI (ys:=ys) (x:=x);rw[e]at this;exact absurd (of_decide_eq_true this.symm) hx
structure PA(ps:List Rp)(ys:List Str)(vs:List Int):Prop where
 e:aX [] [] (ps.map eR)=(ys.map Sum.inr,vs.map D.int)
 n:ys.Nodup
 l:ys.length=vs.length
 m:∀x,x∈ys↔x∈ps.map (·.1)
 s:ys.length<=ps.length
 q:ys.length=ps.length->ys=ps.map (·.1)
theorem Mh(ps:List Rp):∃ys vs,PA ps ys vs:=by
 have h:∀n,∀ps:List Rp,ps.length=n->∃ys vs,PA ps ys vs:=by
  intro n
  induction n with
  |zero=>
   intro ps hp;obtain rfl:=List.length_eq_zero_iff.mp hp;exact⟨[],[],rfl,by simp,rfl,by simp,by simp,λ_=>rfl⟩
  |succ n ih=>
   intro ps hp;obtain⟨qs,p,rfl⟩:∃qs p,ps=qs++[p]:=by
    have hne:ps≠[]:=by intro z;rw[z]at hp;cases hp
    exact⟨ps.dropLast,ps.getLast hne,(List.dropLast_concat_getLast hne).symm⟩
   have hq:qs.length=n:=by simpa using hp
   obtain⟨ys,vs,h⟩:=ih qs hq;by_cases hx:p.1∈ys
   .have h1:(fO (ys.map Sum.inr) (Sum.inr p.1)).isSome=true:=by rw[kI];exact decide_eq_true hx
    obtain⟨j,hj⟩:=Option.isSome_iff_exists.mp h1;refine⟨ys,vs.set j p.2,?_,h.n,by simp[h.l],λx=>?_,by have:=h.s;simp;omega,λz=>?_⟩
    .rw[List.map_append,List.map_singleton,su,h.e]
     simp[fK,eR,hj,List.map_set]
    .rw[List.map_append,List.mem_append,←h.m]
     exact⟨.inl,λz=>z.elim id λz=>by rw[show x=p.1 by simpa using z];exact hx⟩
    .have:=h.s
     simp at z;omega
   .refine⟨ys++[p.1],vs++[p.2],?_,?_,by simp[h.l],λx=>?_,by have:=h.s;simp;omega,λz=>?_⟩
    .rw[List.map_append,List.map_singleton,su,h.e]
     simp[fK,eR,kN hx]
    .rw[List.nodup_append]
     exact⟨h.n,by simp,λa ha b hb e=>hx (by rw[List.mem_singleton.mp hb]at e;exact e▸ha)⟩
    .rw[List.map_append,List.mem_append,List.mem_append,←h.m]
     simp
    .rw[List.map_append,h.q (by simp at z;omega)]
     rfl
 exact h ps.length ps rfl
theorem wJ{A B:List Str}:cO A=cO B↔List.Perm A B:=by
 constructor
 .intro h
  exact(jw A).symm.trans (h▸jw B)
 .intro h
  unfold cO;have h2:=h.map λx=>[x];rw[wO ((ji _).trans (h2.trans (ji _).symm)) (sI _) (sI _)]
theorem zO{A ys ns:List Str}(hn:ns.Nodup)(hd:ys.Nodup)(hm:∀x,x∈ys↔x∈A)(hs:ys.length<=A.length)(hq:ys.length=A.length->ys=A):(cO A=cO ns)↔(cO ys=cO ns/\A.length=ns.length):=by
 rw[wJ,wJ];constructor
 .intro h
  have hA:A.Nodup:=h.nodup_iff.mpr hn;have hl:A.length<=ys.length:=wQ hA λx hx=>(hm x).mpr hx;have e:=hq (by omega);exact⟨e▸h,h.length_eq⟩
 .rintro⟨h1,h2⟩
  have h3:=h1.length_eq;have e:=hq (by omega);exact e▸h1
theorem IW{m m':Mk}{f s:List Str}:gNe (.lst m (f.map D.str)) (.lst m' (s.map D.str))=some (.bl (!decide (f=s))):=by
 unfold gNe;rw[if_pos ⟨iz f,iz s,by simp[dt,dp,gJ,jm],by simp[dt,dp,gJ,jm]⟩];simp[dt,gJ,eqD,uw]
theorem Rv{m:Mk}{g:List Str}(h:g.length<64):bQ [.lst m (g.map D.str)]=some (.lst .own ((cO g).map D.str)):=yr (m:=m) h
theorem Sh{g:List Str}(h:g.length<64):bQ [.tup (g.map D.str)]=some (.lst .own ((cO g).map D.str)):=by
 simp only[bQ,List.length_map,h,if_true,jB,Option.map_some];rfl
theorem Sq{ys:List Str}{vs:List Int}(h:ys.length<64):bQ [dB ys vs]=some (.lst .own ((cO ys).map D.str)):=by
 have e:∀l:List Str,qU (l.map Sum.inr)=some l:=by
  intro l
  induction l with
  |nil=>rfl
  |cons x r ih=>simp[qU,ih]
 simp only[bQ,dB,List.length_map,h,e,Option.map_some];rfl
theorem M9{d:D}(h:Tyd d):cI [d]=some (.bl (Er d)):=yV h
theorem BP(ps:List Rp):gO (tpT 2 (aQ (tpN 0) (aQ (tpN 1) eO))) eTT (aq false 0) [none,none] (ps.map pD)=some ((ps.map (·.1)).map D.str):=by
 rw[fP (p:=λ_=>true) (f:=λd=>match d with|.tup [a,b]=>a|_=>.non)]
 .rw[filter_tt,List.map_map,List.map_map]
  rfl
 .intro d hd
  obtain⟨p,hp,rfl⟩:=List.mem_map.mp hd;simp_arith[pD]
theorem BV{ds:List D}(h:∀e∈ds,Tyd e):gO (tpN 0) eTT (eAp (eQ bO) (ak (aq false 0) aJ)) [none] ds=some (ds.map λe=>.bl (jG e)):=by
 rw[fP (p:=λ_=>true) (f:=λe=>.bl (jG e)),filter_tt];intro e he;obtain⟨f1,f2,f3,f4,f5,f6⟩:=(h e he).all;simp_arith[f1,f3,f4,f5,O8 (h e he)]
def vl(ys:List Str)(vs:List Int)(x:Str):Int:=match gIx (dB ys vs) (.str x)with
 |some (.int i)=>i
 |_=>0
theorem K9{ys:List Str}{vs:List Int}{x:Str}(hl:ys.length=vs.length)(hx:x∈ys):gIx (dB ys vs) (.str x)=some (.int (vl ys vs x)):=by
 have h1:(fO (ys.map Sum.inr) (Sum.inr x)).isSome=true:=by rw[kI];exact decide_eq_true hx
 obtain⟨j,hj⟩:=Option.isSome_iff_exists.mp h1;have hl2:j<vs.length:=by
  obtain⟨hl2,_,_⟩:=List.findIdx?_eq_some_iff_getElem.mp hj;simp at hl2;omega
 have e:gIx (dB ys vs) (.str x)=some (.int vs[j]):=by
  simp only[dB,gIx,iT,Option.bind_some,hj];simp[hl2]
 unfold vl;rw[e]
def okJ(t:Int)(ys:List Str)(vs:List Int)(j:Jt):Bool:=decide (cnt t (vl ys vs j.1+j.2.2-vl ys vs j.2.1)=0)
theorem eqi{i j:Int}:gEq (.int i) (.int j)=some (.bl (decide (i=j))):=eq_int
theorem LQ{F0:List D->Option D}{t:Int}{ys:List Str}{vs:List Int}(hF:∀n,F0 [.int t,.int n]=some (.int (cnt t n)))(hl:ys.length=vs.length){js:List Jt}(hj:∀j∈js,j.1∈ys/\j.2.1∈ys):gO (tpT 3 (aQ (tpN 0) (aQ (tpN 1) (aQ (tpN 2) eO)))) eTT (e2 gEq (eAp (eQ F0) (ak (aq false 3) (ak (e2 i_ (e2 bH (e2 gIx (aq false 4) (aq false 0)) (aq false 2)) (e2 gIx (aq false 4) (aq false 1))) aJ))) (eC (.int 0))) [none,none,none,some (.int t),some (dD ys vs)] (js.map jD)=some ((js.map (okJ t ys vs)).map D.bl):=by
 rw[fP (p:=λ_=>true) (f:=λd=>match d with|.tup [.str a,.str b,.int s]=>.bl (decide (cnt t (vl ys vs a+s-vl ys vs b)=0))|_=>.non)]
 .rw[filter_tt,List.map_map,List.map_map]
  rfl
 .intro d hd
  obtain⟨j,hjm,rfl⟩:=List.mem_map.mp hd;obtain⟨h1,h2⟩:=hj j hjm;have a1:∀x y:Int,bH (.int x) (.int y)=some (.int (x+y)):=λ_ _=>rfl;have s1:∀x y:Int,i_ (.int x) (.int y)=some (.int (x-y)):=λ_ _=>rfl;have v1:∀x:Str,view false (.str x)= .str x:=λ_=>rfl;have v2:∀x:Int,view false (.int x)= .int x:=λ_=>rfl;simp_arith[jD,-view,v1,v2,zQ,K9 hl h1,K9 hl h2,a1,s1,hF,eqi]
structure PS(S:D)(ps:List Rp):Prop where
 s:cN S=some (true,ps.map pD)
 d:∀{ys:List Str}{vs:List Int},PA ps ys vs->nq [S]=some (dD ys vs)
 l:bW [S]=some (.int ps.length)
theorem Qq{d:D}{ps:List Rp}(h:Tyd d)(hb:oG d=true)(hk:kids d=ps.map pD)(hl:ps.length<=60):PS d ps:=by
 have hq:=(CK h hb).1;rw[hk]at hq;have e:∀{ys:List Str}{vs:List Int},PA ps ys vs->(rK (ps.map pD)).map (λes=>D.dct .own (aX [] [] es).1 (aX [] [] es).2)=some (dD ys vs):=λ{ys vs} hp=>by
  rw[vZ];have:=hp.e;unfold eR at this;simp only[Option.map_some,this];rfl
 cases h with
 |@tup ds hd=>
  obtain rfl:ds=ps.map pD:=hk;refine⟨hq,λhp=>?_,by simp[bW]⟩;simp only[nq];rw[if_pos (by simp;omega)];exact e hp
 |@lst ds hd=>
  obtain rfl:ds=ps.map pD:=hk;refine⟨hq,λhp=>?_,by simp[bW]⟩;simp only[nq,j_];rw[if_pos ⟨rfl,by simp;omega⟩];exact e hp
 |_=>simp[oG]at hb
theorem Nh{N J d:D}{t:Int}{ns:List Str}(hN:NK N ns)(hd:Tyd d)(hl:(kids d).length<=60)(hw:(oG d&&(kids d).all jG)=false):aW [N,J,.int t,d]=some (.bl false):=by
 apply Wp.eq;obtain⟨f1,f2,f3,f4,f5,f6⟩:=hd.all;cases hb:oG d with
 |false=>simp_arith[aW,-cN,f1,f3,f4,f5,uy hd,hb]
 |true=>
  rw[hb,Bool.true_and]at hw;obtain⟨hq,hk⟩:=CK hd hb;simp_arith[aW,-cN,f1,f3,f4,f5,uy hd,hb,hq];refine⟨by omega,jM (BV hk) ?_⟩;simp[all_map,hw,aK]
theorem MF{N J d:D}{t:Int}{ns ys:List Str}{vs:List Int}{js:List Jt}{ps:List Rp}(ht:0<=t)(hN:NK N ns)(hNs:bQ [N]=some (.lst .own ((cO ns).map D.str)))(hJ:JJ J js)(hjl:js.length<=1000)(hj:∀j∈js,j.1∈ns/\j.2.1∈ns)(hd:Tyd d)(hb:oG d=true)(hk:kids d=ps.map pD)(hS:PS d ps)(hl:ps.length<=60)(hp:PA ps ys vs):aW [N,J,.int t,d]=some (.bl (decide (cO (ps.map (·.1))=cO ns)&&js.all (okJ t ys vs))):=by
 apply Wp.eq;obtain⟨f1,f2,f3,f4,f5,f6⟩:=hd.all;obtain⟨hq,hkt⟩:=CK hd hb;have hall:(kids d).all jG=true:=by rw[hk,List.all_map,List.all_eq_true];intro p _;rfl
 have hsl:bQ [.lst .own ((ps.map (·.1)).map D.str)]=some (.lst .own ((cO (ps.map (·.1))).map D.str)):=Rv (by simp;omega);simp only[aW,fnP,en0,List.length_cons,List.length_nil,List.map_cons,List.map_nil,List.replicate,if_true,dm,Nat.reduceAdd,Nat.reduceSub,List.cons_append,List.nil_append];refine bI (λρ=>ρ=[some N,some J,some (.int t),some d,none]) (λQ hQ=>?_) ?_
 .simp_arith[-cN,f1,f3,f4,f5,uy hd,hb,hq]
  refine⟨by rw[hk];simp;omega,jM (BV hkt) ?_⟩;simp[all_map,hall,aK];exact hQ _ rfl
 rintro _ rfl;by_cases hs:cO (ps.map (·.1))=cO ns
 .refine bI (λρ=>ρ=[some N,some J,some (.int t),some d,none]) (λQ hQ=>?_) ?_
  .simp_arith[-cN,f3,hS.s,hN.v,hNs]
   refine⟨by omega,jM (BP ps) ?_⟩;rw[hsl,aK,IW,aK];simp[hs,aK];exact hQ _ rfl
  rintro _ rfl;have hin:∀j∈js,j.1∈ys/\j.2.1∈ys:=λj hjm=>by
   have hp2:=wJ.mp hs;exact⟨(hp.m _).mpr (hp2.mem_iff.mpr (hj j hjm).1),(hp.m _).mpr (hp2.mem_iff.mpr (hj j hjm).2)⟩
  refine bI (λρ=>ρ=[some N,some J,some (.int t),some d,some (dD ys vs)]) (λQ hQ=>?_) ?_
  .simp_arith[f3,hS.d hp,Ii]
   exact hQ _ rfl
  rintro _ rfl;simp_arith[-cN,hJ.v,hJ.s];refine⟨by omega,jM (LQ (λn=>Do ht) hp.l hin) ?_⟩;rw[Ft,aK];simp[hs,aG,aC]
 .simp_arith[-cN,f3,hS.s,hN.v,hNs]
  refine⟨by omega,jM (BP ps) ?_⟩;rw[hsl,aK,IW,aK];simp[hs,aK]
theorem Rn{e:D}(h:Tyd e){x0 x1 x2 x3 x4:Option D}:Wp ((eOr (lZ (lD (eAp bf (ak (aq false 5) (ak (eC (.ty "tuple")) aJ))))) (eOr (eB (e2 gNe (eAp bW (ak (aq false 5) aJ)) (eC (.int 2)))) (eOr (lZ (lD (eAp bf (ak (e2 gIx (aq false 5) (eC (.int 0))) (ak (eC (.ty "str")) aJ))))) (lZ (lD (eAp (eQ cI) (ak (e2 gIx (aq false 5) (eC (.int 1))) aJ))))))) [x0,x1,x2,x3,x4,some e]) λc=>c= !jG e:=by
 obtain⟨f1,f2,f3,f4,f5,f6⟩:=h.all;cases hc:tV e with
 |false=>
  cases h with
  |@tup es he=>
   have hr:jG (.tup es)=false:=by
    match es,hc with
    |[],_=>rfl
    |[_],_=>rfl
    |[_,_],hc=>simp[tV]at hc
    |_::_::_::_,_=>rfl
   have hln:es.length≠2:=by intro z;simp[tV,z]at hc
   have hle:bW [.tup es]=some (.int es.length):=by simp[bW]
   have h2:decide ((es.length:Int)=2)=false:=decide_eq_false (by omega);have hi:bf [.tup es,.ty "tuple"]=some (.bl true):=rfl;simp_arith[-view,f3,hi,hle,ne_int,h2,hr]
  |lst he=>
   have hi:∀es,bf [.lst .frz es,.ty "tuple"]=some (.bl false):=λ_=>rfl;simp_arith[-view,f3,hi,jG]
  |_=>simp_arith[bf,tyN,okT,isT,jG]
 |true=>
  obtain⟨x,y,rfl⟩:=Cj hc;cases h with
  |@tup es he=>
   have hx:=he x (by simp);have hy:=he y (by simp);obtain⟨x1,x2,x3,x4,x5,x6⟩:=hx.all;obtain⟨y1,y2,y3,y4,y5,y6⟩:=hy.all;have i0:gIx (.tup [x,y]) (.int 0)=some x:=rfl;have i1:gIx (.tup [x,y]) (.int 1)=some y:=rfl;have hle:bW [.tup [x,y]]=some (.int 2):=rfl;have hi:bf [.tup [x,y],.ty "tuple"]=some (.bl true):=rfl;have hs:bf [x,.ty "str"]=some (.bl (Dm x)):=by cases hx<;>rfl
   simp_arith[-view,f3,hi,hle,ne_int,i0,i1,hs,x3,y1,y3,y4,y5,M9 hy];cases hsx:Dm x<;>cases hn:Er y<;>simp[jG,hsx,hn]
def DuI(N J d:D)(t:Int)(k:Nat)(ρ:En):Prop:=∃(ps:List Rp)(x5:Option D),(kids d).take k=ps.map pD/\ρ=[some N,some J,some (.int t),some d,some (.dct .own (aX [] [] (ps.map eR)).1 (aX [] [] (ps.map eR)).2),x5]
theorem yO{N J d:D}{t:Int}{Q:Fl->Prop}{x5:Option D}(hd:Tyd d)(hb:oG d=true)(hl:(kids d).length<=60)(hbad:(kids d).all jG=false->∀ρ,Q (.ret (.bl false) ρ))(hgood:∀ρ,DuI N J d t (kids d).length ρ->Q (.nx ρ)) :
  Wp (ju (itS (aq false 3)) (tgN 5) (bh (sIf (eOr (lZ (lD (eAp bf (ak (aq false 5) (ak (eC (.ty "tuple")) aJ))))) (eOr (eB (e2 gNe (eAp bW (ak (aq false 5) aJ)) (eC (.int 2)))) (eOr (lZ (lD (eAp bf (ak (e2 gIx (aq false 5) (eC (.int 0))) (ak (eC (.ty "str")) aJ))))) (lZ (lD (eAp (eQ cI) (ak (e2 gIx (aq false 5) (eC (.int 1))) aJ))))))) (gf (eC (.bl false))) iQ) (fj (e2 gIx (aq false 5) (eC (.int 1))) (lR gV 4 (pF 4) (e2 gIx (aq false 5) (eC (.int 0)))))) [some N,some J,some (.int t),some d,some (.dct .own [] []),x5]) Q:=by
 obtain⟨f1,f2,f3,f4,f5,f6⟩:=hd.all;obtain⟨hq,hk⟩:=CK hd hb;simp only[ju,itS,aq,List.getElem?_cons_succ,List.getElem?_cons_zero,f3,Option.bind_some,hq,dm,aK,w_ite,if_true];refine jE (DuI N J d t) ⟨[],x5,by simp,rfl⟩ ?_ hgood;rintro k e ρ hek ⟨ps,y5,hps,rfl⟩;have he:=hk e (List.mem_of_getElem? hek);obtain⟨g1,g2,g3,g4,g5,g6⟩:=he.all;have hkl:k<(kids d).length:=(List.getElem?_eq_some_iff.mp hek).1;have hpl:ps.length<=60:=by have:=congrArg List.length hps;simp at this;omega
 simp only[tgN,clean,g4,g5,Bool.and_self,if_true,aK,List.set_cons_succ,List.set_cons_zero];rw[yS,sIf,dm];refine Wp.mono (Rn he) ?_;rintro _ rfl;cases hr:jG e with
 |false=>
  simp_arith[aK];refine hbad ?_ _;rw[Bool.eq_false_iff];intro z;have:=List.all_eq_true.mp z e (List.mem_of_getElem? hek);rw[hr]at this;cases this
 |true=>
  obtain⟨qs,hqs⟩:=Av (ds:=[e]) (by simp[hr]);obtain⟨p,rfl,rfl⟩:∃p,qs=[p]/\e=pD p:=by
   match qs,hqs with
   |[p],h=>exact⟨p,rfl,by simpa using h⟩
   |[],h=>simp at h
   |_::_::_,h=>simp at h
  obtain⟨ys,vs,hp⟩:=Mh ps;have hle:(aX [] [] (ps.map eR)).1.length<1000000:=by rw[hp.e];have:=hp.s;simp;omega
  have i0:gIx (pD p) (.int 0)=some (.str p.1):=rfl;have i1:gIx (pD p) (.int 1)=some (.int p.2):=rfl;have hop:gV (.dct .own (aX [] [] (ps.map eR)).1 (aX [] [] (ps.map eR)).2) [.str p.1,.int p.2]=some (.dct .own (aX [] [] ((ps++[p]).map eR)).1 (aX [] [] ((ps++[p]).map eR)).2,.non):=by
   rw[List.map_append,List.map_singleton,su];simp only[gV,iT,Option.bind_some,hle,if_true];rfl
  simp_arith[-view,g3,i0,i1,show ∀x:Str,view false (.str x)= .str x from λ_=>rfl,hop];refine⟨ps++[p],_,?_,by rw[List.map_append];rfl⟩;rw[List.take_add_one,hps,hek,List.map_append];rfl
theorem N5{N J d:D}{t:Int}(hd:Tyd d)(hl:(kids d).length<=60)(hw:(oG d&&(kids d).all jG)=false):cG [N,J,.int t,d]=some (.bl false):=by
 apply Wp.eq;obtain⟨f1,f2,f3,f4,f5,f6⟩:=hd.all;simp only[cG,fnP,en0,List.length_cons,List.length_nil,List.map_cons,List.map_nil,List.replicate,if_true,dm,Nat.reduceAdd,Nat.reduceSub,List.cons_append,List.nil_append];cases hb:oG d with
 |false=>simp_arith[f3,bU,Ca hd,hb]
 |true=>
  rw[hb,Bool.true_and]at hw;refine bI (λρ=>ρ=[some N,some J,some (.int t),some d,none,none]) (λQ hQ=>?_) ?_
  .simp_arith[f3,bU,Ca hd,hb]
   exact hQ _ rfl
  rintro _ rfl;refine bI (λρ=>ρ=[some N,some J,some (.int t),some d,some (.dct .own [] []),none]) (λQ hQ=>?_) ?_
  .simp_arith[zq]
   exact hQ _ rfl
  rintro _ rfl;rw[yS];refine yO hd hb hl (λ_ ρ=>by simp[aK]) λρ ⟨ps,x5,hps,_⟩=>?_;rw[List.take_length]at hps;have:(kids d).all jG=true:=by rw[hps,List.all_map,List.all_eq_true];intro p _;rfl
  rw[this]at hw;cases hw
theorem OD{N J d:D}{t:Int}{ns ys:List Str}{vs:List Int}{js:List Jt}{ps:List Rp}(ht:0<=t/\t<=1000)(hN:NK N ns)(hNs:bQ [N]=some (.lst .own ((cO ns).map D.str)))(hJ:JJ J js)(hjl:js.length<=1000)(hj:∀j∈js,j.1∈ns/\j.2.1∈ns)(hd:Tyd d)(hb:oG d=true)(hk:kids d=ps.map pD)(hS:PS d ps)(hl:ps.length<=60)(hp:PA ps ys vs):cG [N,J,.int t,d]=some (.bl (decide (cO ys=cO ns/\ps.length=ns.length)&&js.all (okJ t ys vs))):=by
 apply Wp.eq;obtain⟨f1,f2,f3,f4,f5,f6⟩:=hd.all;have hkl:(kids d).length<=60:=by rw[hk];simpa using hl
 simp only[cG,fnP,en0,List.length_cons,List.length_nil,List.map_cons,List.map_nil,List.replicate,if_true,dm,Nat.reduceAdd,Nat.reduceSub,List.cons_append,List.nil_append];refine bI (λρ=>ρ=[some N,some J,some (.int t),some d,none,none]) (λQ hQ=>?_) ?_
 .simp_arith[f3,bU,Ca hd,hb]
  exact hQ _ rfl
 rintro _ rfl;refine bI (λρ=>ρ=[some N,some J,some (.int t),some d,some (.dct .own [] []),none]) (λQ hQ=>?_) ?_
 .simp_arith[zq]
  exact hQ _ rfl
 rintro _ rfl;rw[yS];refine yO hd hb hkl (λz=>?_) λρ ⟨qs,x5,hqs,e⟩=>?_
 .have:(kids d).all jG=true:=by rw[hk,List.all_map,List.all_eq_true];intro p _;rfl
  rw[this]at z;cases z
 subst e;rw[List.take_length,hk]at hqs;have inj:∀{a b:List Rp},a.map pD=b.map pD->a=b:=by
  intro a
  induction a with
  |nil=>intro b h;cases b with
   |nil=>rfl
   |cons _ _=>simp at h
  |cons x r ih=>
   intro b h;cases b with
   |nil=>simp at h
   |cons y q=>
    simp only[List.map_cons,List.cons.injEq,pD,D.tup.injEq,D.str.injEq,D.int.injEq,and_true]at h;rw[ih h.2,Prod.ext h.1.1 h.1.2]
 obtain rfl:=inj hqs;rw[hp.e];show Wp (bh _ _ [some N,some J,some (.int t),some d,some (dD ys vs),x5]) _;have hys:ys.length<64:=by have:=hp.s;omega
 have hsd:=Sq (vs:=vs) hys;have hlN:=hN.l;by_cases hs:cO ys=cO ns
 .by_cases hln:ps.length=ns.length
  .refine bI (λρ=>ρ=[some N,some J,some (.int t),some d,some (dD ys vs),x5]) (λQ hQ=>?_) ?_
   .simp_arith[-view,zQ,f3,hsd,hN.v,hNs,IW,hs,hS.l,hlN,ne_int,hln]
    exact hQ _ rfl
   rintro _ rfl;have hin:∀j∈js,j.1∈ys/\j.2.1∈ys:=λj hjm=>by
    have hp2:=wJ.mp hs;exact⟨hp2.mem_iff.mpr (hj j hjm).1,hp2.mem_iff.mpr (hj j hjm).2⟩
   simp_arith[-cN,hJ.v,hJ.s];refine⟨by omega,jM (LQ (λn=>zN ht) hp.l hin) ?_⟩;rw[Ft,aK];simp[hs,hln,aG,aC]
  .have h2:decide ((ps.length:Int)=ns.length)=false:=decide_eq_false (by omega)
   simp_arith[-view,zQ,f3,hsd,hN.v,hNs,IW,hs,hS.l,hlN,ne_int,h2,hln]
 .simp_arith[-view,zQ,f3,hsd,hN.v,hNs,IW,hs]
theorem PK{N J d:D}{t:Int}{ns:List Str}{js:List Jt}(ht:0<=t/\t<=1000)(hN:NK N ns)(hn:ns.Nodup)(hNs:bQ [N]=some (.lst .own ((cO ns).map D.str)))(hJ:JJ J js)(hjl:js.length<=1000)(hj:∀j∈js,j.1∈ns/\j.2.1∈ns)(hd:Pap d)(hl:(kids d).length<=60):dF [N,J,.int t,d]=some (.bl true):=by
 obtain⟨f1,f2,f3,f4,f5,h6⟩:=hd.1.all;obtain⟨x,hs⟩:=MP h6 (by have:=hd.2.1;omega) (by have:=hd.2.2.1;omega);obtain⟨b,k1,k2⟩:∃b,aW [N,J,.int t,d]=some (.bl b)/\cG [N,J,.int t,d]=some (.bl b):=by
  cases hw:oG d&&(kids d).all jG with
  |false=>exact⟨false,Nh hN hd.1 hl hw,N5 hd.1 hl hw⟩
  |true=>
   obtain⟨hb,hr⟩:=Bool.and_eq_true_iff.mp hw;obtain⟨ps,hk⟩:=Av hr;have hpl:ps.length<=60:=by rw[hk]at hl;simpa using hl
   have hS:=Qq hd.1 hb hk hpl;obtain⟨ys,vs,hp⟩:=Mh ps;refine⟨_,MF ht.1 hN hNs hJ hjl hj hd.1 hb hk hS hpl hp,?_⟩;rw[OD ht hN hNs hJ hjl hj hd.1 hb hk hS hpl hp];have e:=zO (A:=ps.map (·.1)) hn hp.n hp.m (by simpa using hp.s) (by simpa using hp.q);rw[List.length_map]at e;rw[decide_eq_decide.mpr e]
 have hib:bf [.bl b,.ty "bool"]=some (.bl true):=rfl;apply Wp.eq;simp_arith[dF,f1,f3,f4,f5,hs,hN.v,hN.f,hN.b,hN.o,hJ.v,hJ.f,hJ.b,hJ.o,k1,k2,hib,Rk,eq_str]
theorem O1{a b t:Int}(ha:0<=a)(ht:0<=t/\t<=1000):Wp (bj [tp a b,.lst .frz [],.int t]) (Jo [] t):=by
 simp_arith[bj,a_,gZ,nP];refine cP ha (by decide) (by decide) λr1 a1 b1 p1 q1 s1=>?_;obtain⟨w,hw⟩:∃w:Int,gIx (D.lst Mk.own [D.int 3,D.int 3,D.int 12,D.int 12,D.int 12,D.int 400000000000]) (D.int r1)=some (.int w):=by
  have:r1=0∨r1=1∨r1=2∨r1=3∨r1=4∨r1=5:=by omega
  rcases this with rfl|rfl|rfl|rfl|rfl|rfl<;>exact⟨_,rfl⟩
 simp_arith[hw,jn,nq,j_,rK,aX,a_];refine cP s1 (by decide) (by decide) λr4 a4 b4 p4 q4 s4=>?_;obtain⟨sl,hsl⟩:∃w:Int,gIx (D.lst Mk.own [D.int 0,D.int 0,D.int 3,D.int 12]) (D.int r4)=some (.int w):=by
  have:r4=0∨r4=1∨r4=2∨r4=3:=by omega
  rcases this with rfl|rfl|rfl|rfl<;>exact⟨_,rfl⟩
 simp_arith[hsl,bW,gZ,bH];refine cP s4 (by decide) (by decide) λr5 a5 b5 p5 q5 s5=>?_;obtain rfl:r5=0:=by omega
 simp_arith[iU,forL];exact⟨[],a5,b5,rfl,by simp,by simp,s5,by simp⟩
theorem Hg:∀l:List Jt,dN (l.map jD)=true
 |[]=>rfl
 |j::r=>by simp[dN,jD,gk,Hg r]
theorem Hj:∀l:List Rp,dN (l.map pD)=true
 |[]=>rfl
 |j::r=>by simp[dN,pD,gk,Hj r]
theorem Rm:(""::oE:List Str).all (λx=>decide (tz (.str x)<=40))=true:=by decide +kernel
theorem Ss{x:Str}(h:x∈oE∨x=""):tz (.str x)<=40:=by
 have:=List.all_eq_true.mp Rm x (h.elim (λz=>List.mem_cons_of_mem _ z) λz=>by rw[z];exact List.mem_cons_self);simpa using this
theorem Ra(x:Str)(i:Int):∀e∈[D.str x,.int i],Tyd e:=λe he=>by
 rcases List.mem_cons.mp he with z|z
 .rw[z];exact .str _
 .rw[List.mem_singleton.mp z];exact .int _
theorem JH{i:Int}(h:i.natAbs<=100000000000001):tz (.int i)=20:=by rw[tz,if_pos (by omega)]
theorem HJ{x:Str}{i:Int}(hx:tz (.str x)<=40)(hi:i.natAbs<=100000000000001):eOk (.tup [.str x,.int i]):=⟨.tup (Ra x i),by rw[tz,tzL,tzL,tzL,JH hi];omega,by simp[dz,dzL]⟩
theorem QD{x:Str}{i:Int}(hx:tz (.str x)<=40)(hi:i.natAbs<=100000000000001):eOk (.lst .frz [.str x,.int i]):=⟨.lst (Ra x i),by rw[tz,tzL,tzL,tzL,JH hi];omega,by simp[dz,dzL]⟩
theorem Qw{x:Str}{i:Int}(hx:tz (.str x)<=40)(hi:i.natAbs<=100000000000001):eOk (.tup [.str x,.int i,.int 0]):=⟨.tup λe he=>by
 rcases List.mem_cons.mp he with z|z
 .rw[z];exact .str _
 .rcases List.mem_cons.mp z with z|z
  .rw[z];exact .int _
  .rw[List.mem_singleton.mp z];exact .int _,by rw[tz,tzL,tzL,tzL,tzL,JH hi,JH (i:=0) (by decide)];omega,by simp[dz,dzL]⟩
theorem Jk:uO.all (λd=>decide ((kids d).length<=60))=true:=by decide +kernel
def pJ(d:D):Prop:=Pap (fz d)/\(kids (fz d)).length<=60/\aG d=true/\aC d=true
theorem Fe{d:D}(h:Pap d)(hk:(kids d).length<=60):pJ d:=by
 obtain⟨f1,f2,f3,f4,f5,f6⟩:=h.1.all;exact⟨by rw[f1];exact h,by rw[f1];exact hk,f4,f5⟩
theorem Oz{d:D}(h:d∈uO):pJ d:=Fe (JW h) (by simpa using List.all_eq_true.mp Jk d h)
theorem HN{es:List D}(h:∀e∈es,eOk e)(hl:es.length<=50):pJ (.lst .own es):=by
 obtain⟨g1,g2,g3,g4,g5⟩:=Tyd.ofL λe he=>(h e he).1;exact⟨by rw[fz,g1];exact Br h hl,by rw[fz,g1];show es.length<=60;omega,by simp[aG,g4],by simp[aC,g5]⟩
structure NQ(N:D)(ns:List Str):Prop where
 n:NK N ns
 s:bQ [N]=some (.lst .own ((cO ns).map D.str))
def LwI(sc:List Int)(k:Nat)(ρ:En):Prop:=∃(x1 x2 x3 x4 x5 x6 x7 x8 x9 x10 x11:Option D),ρ=[some (.lst .scr (sc.map D.int)),x1,x2,x3,x4,x5,x6,x7,x8,x9,x10,x11]
def LwJ(sc:List Int)(kd N J:D)(t:Int)(ps:List Rp)(k:Nat)(ρ:En):Prop:=∃(items:List D)(a b:Int)(x8 x9 x10 x11:Option D),(∀d∈items,pJ d)/\items.length<=4+k/\0<=a/\ρ=[some (.lst .scr (sc.map D.int)),some kd,some (tp a b),some N,some (.int t),some J,some (.lst .frz (ps.map pD)),some (.lst .own items),x8,x9,x10,x11]
theorem H_(sc:List Int)(hl:sc.length<=63):j0 [.lst .scr (sc.map D.int)]=some (.bl true):=by
 apply Wp.eq;have hlen:bW [.lst .scr (sc.map D.int)]=some (.int sc.length):=by simp[bW]
 have hnb:aD (sc.map D.int)=true:=b_ λd hd=>by obtain⟨x,_,rfl⟩:=List.mem_map.mp hd;rfl
 have hno:aH (sc.map D.int)=true:=bN λd hd=>by obtain⟨x,_,rfl⟩:=List.mem_map.mp hd;rfl
 have hit:rR (ak (e2 bH (eC (.int 1)) (eAp m8 (ak (eC (.int 8)) (ak (eAp bW (ak (aq false 0) aJ)) aJ)))) aJ) [some (.lst .scr (sc.map D.int)),none,none,none,none,none,none,none,none,none,none,none]=some (true,iU 0 (1+min 8 sc.length)):=by
  refine Ol ?_ (by omega);simp only[ak,e2,eC,eAp,aq,aJ,List.getElem?_cons_zero,view,mkV,oV,Option.bind_some,hlen,m8,bH];congr 3;split<;>omega
 simp only[j0,fnP,en0,List.length_cons,List.length_nil,List.map_cons,List.map_nil,List.replicate,if_true,dm,Nat.reduceAdd,Nat.reduceSub,List.cons_append,List.nil_append];refine bI (LwI sc (1+min 8 sc.length)) (λQ hQ=>?_) ?_
 .simp only[ju,hit,dm,aK,w_ite,if_true]
  refine jE (LwI sc) ⟨none,none,none,none,none,none,none,none,none,none,none,rfl⟩ ?_ (λρ h=>hQ _ (by rw[rZ]at h;exact h));rintro k d ρ hk ⟨x1,x2,x3,x4,x5,x6,x7,x8,x9,x10,x11,rfl⟩;obtain⟨hkn,rfl⟩:=wC hk;simp only[tgN,clean,aG,aC,Bool.and_self,if_true,aK,List.set_cons_succ,List.set_cons_zero];refine bI (λρ=>∃a b:Int,0<=a/\ρ=[some (.lst .scr (sc.map D.int)),some (.int k),some (tp a b),x3,x4,x5,x6,x7,x8,x9,x10,x11]) (λQ hQ=>?_) ?_
  .simp_arith[oV,Jw,hnb,hno]
   refine Wp.mono (Px (by omega) (by omega) hl) ?_;rintro _ ⟨a,b,rfl,ha⟩;simp_arith[aK];exact hQ _ ⟨a,b,ha,rfl⟩
  rintro _ ⟨a1,b1,s1,rfl⟩;refine bI (λρ=>∃(ns:List Str)(a b:Int),ns.length<=14/\(∀x∈ns,tz (.str x)<=40)/\ns.Nodup/\0<=a/\ρ=[some (.lst .scr (sc.map D.int)),some (.int k),some (tp a b),some (.lst .own (ns.map D.str)),x4,x5,x6,x7,x8,x9,x10,x11]) (λQ hQ=>?_) ?_
  .simp_arith[aK]
   refine Wp.mono (K1 s1) ?_;rintro _ ⟨ns,a2,b2,rfl,hnm,hnd,hnl,s2⟩;simp_arith[cu,bR];exact hQ _ ⟨ns,_,_,hnl,λx hx=>Ss (hnm x hx),hnd,s2,rfl⟩
  rintro _ ⟨ns,a2,b2,hn1,hns,hnd,s2,rfl⟩;refine bI (λρ=>∃(t a b:Int),(0<=t/\t<=1000)/\0<=a/\ρ=[some (.lst .scr (sc.map D.int)),some (.int k),some (tp a b),some (.lst .own (ns.map D.str)),some (.int t),x5,x6,x7,x8,x9,x10,x11]) (λQ hQ=>?_) ?_
  .simp_arith[aK]
   refine Wp.mono (PL s2) ?_;rintro _ ⟨t,a3,b3,rfl,t0,t1,s3⟩;simp_arith[aK];exact hQ _ ⟨t,_,_,⟨t0,t1⟩,s3,rfl⟩
  rintro _ ⟨t,a3,b3,ht,s3,rfl⟩;refine bI (λρ=>∃(js:List Jt)(a b:Int),(∀j∈js,j.1∈ns/\j.2.1∈ns)/\(∀j∈js,j.2.2.natAbs<=1000000000000)/\js.length<=30/\0<=a/\ρ=[some (.lst .scr (sc.map D.int)),some (.int k),some (tp a b),some (.lst .own (ns.map D.str)),some (.int t),some (.lst .own (js.map jD)),x6,x7,x8,x9,x10,x11]) (λQ hQ=>?_) ?_
  .have hjo:Wp (bj [tp a3 b3,.lst .frz (ns.map D.str),.int t]) (Jo ns t):=by
    cases hns0:ns with
    |nil=>exact O1 s3 ht
    |cons x r=>rw[←hns0];exact zW s3 (by rw[hns0];simp) (by omega) ht
   simp_arith[cJ,dM,bR];refine Wp.mono hjo ?_;rintro _ ⟨js,a5,b5,rfl,hjs,hjl,s5,hjb⟩;simp_arith[gk,dN,Hg,iW,iM];exact hQ _ ⟨js,_,_,hjs,hjb,by omega,s5,rfl⟩
  rintro _ ⟨js,a5,b5,hjs,hjb,hjl,s5,rfl⟩;refine bI (λρ=>∃(ps:List Rp)(a b:Int),(∀p∈ps,okR ns p)/\ps.length<=30/\0<=a/\ρ=[some (.lst .scr (sc.map D.int)),some (.int k),some (tp a b),some (.lst .own (ns.map D.str)),some (.int t),some (.lst .own (js.map jD)),some (.lst .own (ps.map pD)),x7,x8,x9,x10,x11]) (λQ hQ=>?_) ?_
  .simp_arith[cJ,dM,bR,lB,lg,iM]
   refine Wp.mono (Pn s5 ht (.lst ns) (.lst js) hjs hjb (by omega)) ?_;rintro _ ⟨ps,a6,b6,rfl,hps,hpl,s6⟩;simp_arith[gk,dN,Hj,yG,za];exact hQ _ ⟨ps,_,_,hps,hpl,s6,rfl⟩
  rintro _ ⟨ps,a6,b6,hps,hpl,s6,rfl⟩;refine bI (λρ=>∃(N J:D)(a b:Int),NQ N ns/\JJ J js/\0<=a/\ρ=[some (.lst .scr (sc.map D.int)),some (.int k),some (tp a b),some N,some (.int t),some J,some (.lst .own (ps.map pD)),x7,x8,x9,x10,x11]) (λQ hQ=>?_) ?_
  .have hT1:gR [.lst .frz (ns.map D.str)]=some (.tup (ns.map D.str)):=by simp[gR]
   have hT2:gR [.lst .frz (js.map jD)]=some (.tup (js.map jD)):=by simp[gR]
   simp_arith[cu,bR,cJ,dM,dO,iW,iM,lB,lg,jP,v8,wX,wH,vY,wZ,n_,jX,len_strs,jb,fJ,uV,xN,eq_int,kh,a_,bU,hT1,hT2];refine cP s6 (by decide) (by decide) λr7 a7 b7 p7 q7 s7=>?_;have hr:r7=0∨r7=1:=by omega
   rcases hr with rfl|rfl
   .simp_arith[cu,bR,cJ,dM,dO,iW,iM,lB,lg,jP,v8,wX,wH,vY,wZ,n_,jX,len_strs,jb,fJ,uV,xN,eq_int,kh,atI,ixN]
    exact hQ _ ⟨_,_,a7,b7,⟨.lst ns,Rv (by omega)⟩,.lst js,s7,rfl⟩
   .simp_arith[cu,bR,cJ,dM,dO,iW,iM,lB,lg,jP,v8,wX,wH,vY,wZ,n_,jX,len_strs,jb,fJ,uV,xN,eq_int,kh,atI,ixN]
    exact hQ _ ⟨_,_,a7,b7,⟨.tup ns,Sh (by omega)⟩,.tup js,s7,rfl⟩
  rintro _ ⟨N,J,a7,b7,⟨hN,hNs⟩,hJ,s7,rfl⟩;have hrow:∀e∈ps.map pD,eOk e:=λe he=>by
   obtain⟨p,hp,rfl⟩:=List.mem_map.mp he;exact HJ (hns _ (hps p hp).1) (Nat.le_trans (hps p hp).2 (by decide))
  have hrpl:(ps.map pD).length<=50:=by simp;omega
  refine bI (LwJ sc (.int k) N J t ps 0) (λQ hQ=>?_) ?_
  .have hT:gR [.lst .frz (ps.map pD)]=some (.tup (ps.map pD)):=by simp[gR]
   simp_arith[Ln,yD,yG,za,hT];refine Wp.mono (Io s7) ?_;rintro _ ⟨d1,a8,b8,rfl,hd1,s8⟩;obtain⟨e1,e2',e3,e4,e5,_⟩:=(kZ hd1).1.all;simp_arith[e4,e5];refine Wp.mono (Io s8) ?_;rintro _ ⟨d2,a9,b9,rfl,hd2,s9⟩;obtain⟨k1,k2,k3,k4,k5,_⟩:=(kZ hd2).1.all;simp_arith[k4,k5,e4,e5,a_,yG,za];refine hQ _ ⟨_,a9,b9,_,_,_,_,λd hd=>?_,by simp,s9,rfl⟩;simp only[List.mem_cons,List.not_mem_nil,or_false]at hd;rcases hd with rfl|rfl|rfl|rfl
   .exact Fe (Br hrow hrpl) (by show(ps.map pD).length<=60;omega)
   .exact Fe (J5 hrow hrpl) (by show(ps.map pD).length<=60;omega)
   .exact Oz hd1
   .exact HN (λe he=>by rw[List.mem_singleton.mp he];exact kZ hd2) (by simp)
  clear s7;rintro _ ⟨items0,a8,b8,y8,y9,y10,y11,hi0,hil0,s8,rfl⟩;refine bI (LwJ sc (.int k) N J t ps 6) (λQ hQ=>?_) ?_
  .simp[ju,rR,ak,eC,aJ,dm,aK,w_ite,uv]
   refine jE (LwJ sc (.int k) N J t ps) ⟨items0,a8,b8,y8,y9,y10,y11,hi0,hil0,s8,rfl⟩ ?_ (λρ h=>hQ _ (by rw[rZ]at h;exact h));clear s8 hi0 hil0;rintro m d ρ hm ⟨items,a8,b8,z8,z9,z10,z11,hit,hil,s8,rfl⟩;obtain⟨hm6,rfl⟩:=wC hm;have hm6:m<6:=by simpa using hm6
   simp only[tgN,clean,aG,aC,Bool.and_self,if_true,aK,List.set_cons_succ,List.set_cons_zero];refine bI (λρ=>∃(th:D)(a' b':Int),eOk th/\0<=a'/\ρ=[some (.lst .scr (sc.map D.int)),some (.int k),some (tp a' b'),some N,some (.int t),some J,some (.lst .frz (ps.map pD)),some (.lst .own items),some (.int m),some th,z10,z11]) (λQ hQ=>?_) ?_
   .simp_arith[aK]
    refine Wp.mono (Io s8) ?_;rintro _ ⟨th,a9,b9,rfl,hth,s9⟩;obtain⟨_,_,_,f4,f5,_⟩:=(kZ hth).1.all;simp_arith[f4,f5];exact hQ _ ⟨th,_,_,kZ hth,s9,rfl⟩
   rintro _ ⟨th,a9,b9,hth,s9,rfl⟩;refine bI (λρ=>∃(th:D)(a' b':Int)(x10 x11:Option D),(eOk (fz th)/\aG th=true/\aC th=true)/\0<=a'/\ρ=[some (.lst .scr (sc.map D.int)),some (.int k),some (tp a' b'),some N,some (.int t),some J,some (.lst .frz (ps.map pD)),some (.lst .own items),some (.int m),some th,x10,x11]) (λQ hQ=>?_) ?_
   .obtain⟨f1,f2,f3,f4,f5,f6⟩:=hth.1.all
    have hold:∀a' b',0<=a'->Q (.nx [some (.lst .scr (sc.map D.int)),some (.int k),some (tp a' b'),some N,some (.int t),some J,some (.lst .frz (ps.map pD)),some (.lst .own items),some (.int m),some th,z10,z11]):=λa' b' s=>hQ _ ⟨th,a',b',_,_,⟨by rw[f1];exact hth,f4,f5⟩,s,rfl⟩;have hne:gNe (.lst .frz (ps.map pD)) (.lst .own [])=some (.bl (!ps.isEmpty)):=by
     have i1:∀l:List Rp,gG (l.map pD)=true:=by
      intro l
      induction l with
      |nil=>rfl
      |cons x r ih=>simp[gG,pD,fX,ih]
     have i2:∀l:List Rp,dpL (dtL (l.map pD))<=2:=by
      intro l
      induction l with
      |nil=>simp[dtL,dpL]
      |cons x r ih=>simp[dtL,pD,dt,dpL,dp];omega
     rw[KN (i1 ps) (Nat.le_trans (i2 ps) (by decide))];cases ps<;>rfl
    have hlp:bW [.lst .frz (ps.map pD)]=some (.int ps.length):=by simp[bW]
    simp_arith[yD,a_,hne];by_cases hpe:ps=[]
    .subst hpe
     simp;simpa using hold a9 b9 s9
    .have hpp:0<ps.length:=List.length_pos_iff.mpr hpe
     simp[hpe];refine cP s9 (by decide) (by decide) λr3 a3 b3 p3 q3 s3=>?_;simp_arith[eq_int];split
     .simp_arith[yD,hlp,yG,za]
      refine cP s3 (by omega) (by omega) λr4 a4 b4 p4 q4 s4=>?_;obtain⟨p,hpm,_,hp2⟩:=j5 (f:=pD) (l:=ps) p4 q4;have hp2:gIx (.lst .frz (ps.map pD)) (.int r4)=some (.tup [.str p.1,.int p.2]):=hp2;have hz:=hns _ (hps p hpm).1;have hi:=(hps p hpm).2;simp_arith[hp2,bH,pN,bU,a_];refine cP s4 (by decide) (by decide) λr5 a5 b5 p5 q5 s5=>?_;have hr:r5=0∨r5=1∨r5=2∨r5=3:=by omega
      rcases hr with rfl|rfl|rfl|rfl
      .simp_arith[gIx,atI,ixN]
       exact hQ _ ⟨.tup [.str p.1,.int (p.2+1)],_,_,_,_,⟨HJ hz (by omega),rfl,rfl⟩,s5,rfl⟩
      .simp_arith[gIx,atI,ixN]
       exact hQ _ ⟨.tup [.str p.1,.int (-p.2)],_,_,_,_,⟨HJ hz (by omega),rfl,rfl⟩,s5,rfl⟩
      .simp_arith[gIx,atI,ixN]
       exact hQ _ ⟨.lst .own [.str p.1,.int p.2],_,_,_,_,⟨QD hz (by omega),rfl,rfl⟩,s5,rfl⟩
      .simp_arith[gIx,atI,ixN]
       exact hQ _ ⟨.tup [.str p.1,.int p.2,.int 0],_,_,_,_,⟨Qw hz (by omega),rfl,rfl⟩,s5,rfl⟩
     .exact hold _ _ s3
   rintro _ ⟨th0,a10,b10,w10,w11,⟨hth0,_,_⟩,s10,rfl⟩;have hil2:items.length<1000000:=by omega
   simp only[sFz,qT,List.getElem?_cons_succ,List.getElem?_cons_zero,List.set_cons_succ,List.set_cons_zero,dm,aK];generalize fz th0=th1 at hth0⊢;obtain⟨f1,f2,f3,f4,f5,f6⟩:=hth0.1.all;simp_arith[yD,f3,Ln,yG,za,f1,f4,f5];refine Wp.mono (Mw s10 (λe he=>(hrow e he).1) (by simp;omega) hth0.1) ?_;rintro _ ⟨es,a11,b11,rfl,hes,hel,s11⟩;have hee:∀e∈es,eOk e:=λe he=>(hes e he).elim (hrow e) λz=>by rw[z];exact hth0
   obtain⟨g1,g2,g3,g4,g5⟩:=Tyd.ofL λe he=>(hee e he).1;simp_arith[fB,g4,g5,hil2];refine⟨items++[.lst .own es],_,_,_,_,_,_,λd hd=>?_,by simp;omega,s11,rfl⟩;rcases List.mem_append.mp hd with z|z
   .exact hit d z
   .obtain rfl:d= .lst .own es:=by simpa using z
    exact HN hee (by simp at hel;omega)
  clear s8;rintro _ ⟨items,a9,b9,z8,z9,z10,z11,hit,hil,s9,rfl⟩;have htf:∀e∈fzL items,Pap e/\(kids e).length<=60:=λe he=>by
   rw[gH]at he;obtain⟨d,hd,rfl⟩:=List.mem_map.mp he;exact⟨(hit d hd).1,(hit d hd).2.1⟩
  obtain⟨g1,g2,g3,g4,g5⟩:=Tyd.ofL λe he=>(htf e he).1.1;have hfl:(fzL items).length=items.length:=by rw[gH,List.length_map]
  have hc:gO (tpN 0) eTT (eAp (eQ dF) (ak (aq false 1) (ak (aq false 2) (ak (aq false 3) (ak (aq false 0) aJ))))) [none,some N,some J,some (.int t)] (fzL items)=some ((fzL items).map λ_=>.bl true):=by
   rw[fP (p:=λ_=>true) (f:=λ_=>.bl true),filter_tt];intro d hd;obtain⟨f1,f2,f3,f4,f5,f6⟩:=(htf d hd).1.1.all;have sy:=PK ht hN hnd hNs hJ (by omega:js.length<=1000) hjs (htf d hd).1 (htf d hd).2;simp_arith[f1,f3,f4,f5,hN.v,hN.f,hN.b,hN.o,hJ.v,hJ.f,hJ.b,hJ.o,sy]
  simp_arith[g2,g3];refine⟨by rw[hfl];omega,jM hc ?_⟩;rw[all_map (λ_=>true),show((fzL items).all λ_=>true)=true from List.all_eq_true.mpr λ_ _=>rfl];simp[aK];exact⟨_,_,_,_,_,_,_,_,_,_,_,rfl⟩
 rintro _ ⟨x1,x2,x3,x4,x5,x6,x7,x8,x9,x10,x11,rfl⟩;simp_arith[aK]
theorem xV{G:Gc}{H:Hp}{W:Wn}:∀ns:List Int,aF G H W (ns.map D.int) (ns.map V.int) []
 |[]=>.nil
 |x::r=>aF.cons (M:=[]) (M':=[]) dR (xV r)
theorem MK{K:Frag}{mg:Str->Option Value}{H:Hp}{a:Addr}{ns:List Int}{Q:VK}{E:XK}(hl:ns.length<=63)(hS:SqL K H a (ns.map V.int))(q:∀H',Q (.bl true) H'):spP ⟨K,mg⟩ j0 [.ref a] H Q E:=by
 refine⟨[.lst .scr (ns.map D.int)],λ_=>False,?_,?_,?_,λ_ z=>z.elim,.bl true,H_ ns hl,λv H' L s r fr nd c=>?_⟩
 .refine aF.one (M:=[]) ?_
  rw[Rep];refine⟨a,_,[],rfl,xV ns,?_,rfl,rfl⟩;rcases hS with z|z
  .exact .inl ⟨z,⟨λz=>z,λz=>z,λz=>z⟩⟩
  .exact .inr ⟨_,rfl,z⟩
 .simp[aD,aG,b_ (ds:=ns.map D.int) (by simp[aG])]
 .simp[aH,aC,bN (ds:=ns.map D.int) (by simp[aC])]
 .rw[(nA r).1];exact q H'
def Ga(K:Frag):Sp:=λvs H Q _=>∃(a:Addr)(ns:List Int),vs=[.ref a]/\SqL K H a (ns.map V.int)/\ns.length<=63/\∀H',Q (.bl true) H'
theorem all_mk{l:PySem.W.OpenLaw}{w:World}{K:Frag}{h:Heap}{mg:Str->Option Value}{fa f1 f2 f3 f4 f5 f6 f7 f8 f9 f10 f11 f12 f13 f14 f15 f16 f17 f18 f19 f20 f21:Addr}(X:K.In h)(G:h.Ns mainGlobals mg)(hfa:mg "law"=some (.ref fa))
  {od1 an1 od2 an2 od3 an3 od4 an4 od5 an5 od6 an6 od7 an7 od8 an8 od9 an9 od10 an10 od11 an11 od12 an12 od13 an13 od14 an14 od15 an15 od16 an16 od17 an17 od18 an18 od19 an19 od20 an20 od21 an21:Option Addr} {sl1 sl2 sl3 sl4 sl5 sl6 sl7 sl8 sl9 sl10 sl11 sl12 sl13 sl14 sl15 sl16 sl17 sl18 sl19 sl20 sl21:Array (Option Value)} {oc1 kV1 dc1 pm1 cd1 ct1 oc2 kV2 dc2 pm2 cd2 ct2 oc3 kV3 dc3 pm3 cd3 ct3 oc4 kV4 dc4 pm4 cd4 ct4 oc5 kV5 dc5 pm5 cd5 ct5 oc6 kV6 dc6 pm6 cd6 ct6 oc7 kV7 dc7 pm7 cd7 ct7 oc8 kV8 dc8 pm8 cd8 ct8 oc9 kV9 dc9 pm9 cd9 ct9 oc10 kV10 dc10 pm10 cd10 ct10 oc11 kV11 dc11 pm11 cd11 ct11 oc12 kV12 dc12 pm12 cd12 ct12 oc13 kV13 dc13 pm13 cd13 ct13 oc14 kV14 dc14 pm14 cd14 ct14 oc15 kV15 dc15 pm15 cd15 ct15 oc16 kV16 dc16 pm16 cd16 ct16 oc17 kV17 dc17 pm17 cd17 ct17 oc18 kV18 dc18 pm18 cd18 ct18 oc19 kV19 dc19 pm19 cd19 ct19 oc20 kV20 dc20 pm20 cd20 ct20 oc21 kV21 dc21 pm21 cd21 ct21:Value}
  (a1:nsIn K mainGlobals "_law_tape"=some (some (.ref f1))) (l1:K.lookup f1=some ⟨oc1,od1,.func (fnOf "_law_tape" "_law_tape" (bC iB) (bu iB) (aA iB) .none kV1 dc1 pm1 an1 cd1 ct1),sl1⟩) (c1:codeIn K cd1 "_law_tape"=true) (k1:keepIn K (.ref f1)=true)
  (a2:nsIn K mainGlobals "_law_draw"=some (some (.ref f2))) (l2:K.lookup f2=some ⟨oc2,od2,.func (fnOf "_law_draw" "_law_draw" (bC il) (bu il) (aA il) .none kV2 dc2 pm2 an2 cd2 ct2),sl2⟩) (c2:codeIn K cd2 "_law_draw"=true) (k2:keepIn K (.ref f2)=true)
  (a3:nsIn K mainGlobals "_law_names"=some (some (.ref f3))) (l3:K.lookup f3=some ⟨oc3,od3,.func (fnOf "_law_names" "_law_names" (bC fD) (bu fD) (aA fD) .none kV3 dc3 pm3 an3 cd3 ct3),sl3⟩) (c3:codeIn K cd3 "_law_names"=true) (k3:keepIn K (.ref f3)=true)
  (a4:nsIn K mainGlobals "_law_turn"=some (some (.ref f4))) (l4:K.lookup f4=some ⟨oc4,od4,.func (fnOf "_law_turn" "_law_turn" (bC iC) (bu iC) (aA iC) .none kV4 dc4 pm4 an4 cd4 ct4),sl4⟩) (c4:codeIn K cd4 "_law_turn"=true) (k4:keepIn K (.ref f4)=true)
  (a5:nsIn K mainGlobals "_law_joinings"=some (some (.ref f5))) (l5:K.lookup f5=some ⟨oc5,od5,.func (fnOf "_law_joinings" "_law_joinings" (bC dg) (bu dg) (aA dg) .none kV5 dc5 pm5 an5 cd5 ct5),sl5⟩) (c5:codeIn K cd5 "_law_joinings"=true) (k5:keepIn K (.ref f5)=true)
  (a6:nsIn K mainGlobals "_law_classes"=some (some (.ref f6))) (l6:K.lookup f6=some ⟨oc6,od6,.func (fnOf "_law_classes" "_law_classes" (bC bJ) (bu bJ) (aA bJ) .none kV6 dc6 pm6 an6 cd6 ct6),sl6⟩) (c6:codeIn K cd6 "_law_classes"=true) (k6:keepIn K (.ref f6)=true)
  (a7:nsIn K mainGlobals "_law_numbers"=some (some (.ref f7))) (l7:K.lookup f7=some ⟨oc7,od7,.func (fnOf "_law_numbers" "_law_numbers" (bC eY) (bu eY) (aA eY) .none kV7 dc7 pm7 an7 cd7 ct7),sl7⟩) (c7:codeIn K cd7 "_law_numbers"=true) (k7:keepIn K (.ref f7)=true)
  (a8:nsIn K mainGlobals "_law_rows"=some (some (.ref f8))) (l8:K.lookup f8=some ⟨oc8,od8,.func (fnOf "_law_rows" "_law_rows" (bC ir) (bu ir) (aA ir) .none kV8 dc8 pm8 an8 cd8 ct8),sl8⟩) (c8:codeIn K cd8 "_law_rows"=true) (k8:keepIn K (.ref f8)=true)
  (a9:nsIn K mainGlobals "_law_odd"=some (some (.ref f9))) (l9:K.lookup f9=some ⟨oc9,od9,.func (fnOf "_law_odd" "_law_odd" (bC jh) (bu jh) (aA jh) .none kV9 dc9 pm9 an9 cd9 ct9),sl9⟩) (c9:codeIn K cd9 "_law_odd"=true) (k9:keepIn K (.ref f9)=true)
  (a10:nsIn K mainGlobals "_law_bent"=some (some (.ref f10))) (l10:K.lookup f10=some ⟨oc10,od10,.func (fnOf "_law_bent" "_law_bent" (bC iG) (bu iG) (aA iG) .none kV10 dc10 pm10 an10 cd10 ct10),sl10⟩) (c10:codeIn K cd10 "_law_bent"=true) (k10:keepIn K (.ref f10)=true)
  (a11:nsIn K mainGlobals "is_listed"=some (some (.ref f11))) (l11:K.lookup f11=some ⟨oc11,od11,.func (fnOf "is_listed" "is_listed" (bC gm) (bu gm) (aA gm) .none kV11 dc11 pm11 an11 cd11 ct11),sl11⟩) (c11:codeIn K cd11 "is_listed"=true) (k11:keepIn K (.ref f11)=true)
  (a12:nsIn K mainGlobals "counted"=some (some (.ref f12))) (l12:K.lookup f12=some ⟨oc12,od12,.func (fnOf "counted" "counted" (bC jg) (bu jg) (aA jg) .none kV12 dc12 pm12 an12 cd12 ct12),sl12⟩) (c12:codeIn K cd12 "counted"=true) (k12:keepIn K (.ref f12)=true)
  (a13:nsIn K mainGlobals "is_couple"=some (some (.ref f13))) (l13:K.lookup f13=some ⟨oc13,od13,.func (fnOf "is_couple" "is_couple" (bC gF) (bu gF) (aA gF) .none kV13 dc13 pm13 an13 cd13 ct13),sl13⟩) (c13:codeIn K cd13 "is_couple"=true) (k13:keepIn K (.ref f13)=true)
  (a14:nsIn K mainGlobals "is_number"=some (some (.ref f14))) (l14:K.lookup f14=some ⟨oc14,od14,.func (fnOf "is_number" "is_number" (bC gw) (bu gw) (aA gw) .none kV14 dc14 pm14 an14 cd14 ct14),sl14⟩) (c14:codeIn K cd14 "is_number"=true) (k14:keepIn K (.ref f14)=true)
  (a15:nsIn K mainGlobals "is_number_row"=some (some (.ref f15))) (l15:K.lookup f15=some ⟨oc15,od15,.func (fnOf "is_number_row" "is_number_row" (bC dq) (bu dq) (aA dq) .none kV15 dc15 pm15 an15 cd15 ct15),sl15⟩) (c15:codeIn K cd15 "is_number_row"=true) (k15:keepIn K (.ref f15)=true)
  (a16:nsIn K mainGlobals "shows_numbers"=some (some (.ref f16))) (l16:K.lookup f16=some ⟨oc16,od16,.func (fnOf "shows_numbers" "shows_numbers" (bC bL) (bu bL) (aA bL) .none kV16 dc16 pm16 an16 cd16 ct16),sl16⟩) (c16:codeIn K cd16 "shows_numbers"=true) (k16:keepIn K (.ref f16)=true)
  (a17:nsIn K mainGlobals "_law_is_int"=some (some (.ref f17))) (l17:K.lookup f17=some ⟨oc17,od17,.func (fnOf "_law_is_int" "_law_is_int" (bC fH) (bu fH) (aA fH) .none kV17 dc17 pm17 an17 cd17 ct17),sl17⟩) (c17:codeIn K cd17 "_law_is_int"=true) (k17:keepIn K (.ref f17)=true)
  (a18:nsIn K mainGlobals "_law_counted"=some (some (.ref f18))) (l18:K.lookup f18=some ⟨oc18,od18,.func (fnOf "_law_counted" "_law_counted" (bC eZ) (bu eZ) (aA eZ) .none kV18 dc18 pm18 an18 cd18 ct18),sl18⟩) (c18:codeIn K cd18 "_law_counted"=true) (k18:keepIn K (.ref f18)=true)
  (a19:nsIn K mainGlobals "_law_due"=some (some (.ref f19))) (l19:K.lookup f19=some ⟨oc19,od19,.func (fnOf "_law_due" "_law_due" (bC iD) (bu iD) (aA iD) .none kV19 dc19 pm19 an19 cd19 ct19),sl19⟩) (c19:codeIn K cd19 "_law_due"=true) (k19:keepIn K (.ref f19)=true)
  (a20:nsIn K mainGlobals "_law_says"=some (some (.ref f20))) (l20:K.lookup f20=some ⟨oc20,od20,.func (fnOf "_law_says" "_law_says" (bC iw) (bu iw) (aA iw) .none kV20 dc20 pm20 an20 cd20 ct20),sl20⟩) (c20:codeIn K cd20 "_law_says"=true) (k20:keepIn K (.ref f20)=true)
  (a21:nsIn K mainGlobals "law"=some (some (.ref f21))) (l21:K.lookup f21=some ⟨oc21,od21,.func (fnOf "law" "law" (bC m6) (bu m6) (aA m6) .none kV21 dc21 pm21 an21 cd21 ct21),sl21⟩) (c21:codeIn K cd21 "law"=true) (k21:keepIn K (.ref f21)=true)
  (z1:nsIn K mainGlobals "abs"=some none)
  (z2:nsIn K mainGlobals "all"=some none)
  (z3:nsIn K mainGlobals "bool"=some none)
  (z4:nsIn K mainGlobals "dict"=some none)
  (z5:nsIn K mainGlobals "int"=some none)
  (z6:nsIn K mainGlobals "isinstance"=some none)
  (z7:nsIn K mainGlobals "len"=some none)
  (z8:nsIn K mainGlobals "list"=some none)
  (z9:nsIn K mainGlobals "min"=some none)
  (z10:nsIn K mainGlobals "range"=some none)
  (z11:nsIn K mainGlobals "sorted"=some none)
  (z12:nsIn K mainGlobals "str"=some none)
  (z13:nsIn K mainGlobals "tuple"=some none) :
  ∃fd:FuncData,(∀(s:Shared)(v:Value),BindsTo s fd ⟨[v],[]⟩ [("_law_script",v)])/\∀base:Heap,K.In base->base.Ns mainGlobals mg->e_ l.prog w K mg base CX0 5 fa fd KH (Ga K):=by
 have e:=hfa.symm.trans (mg_of X G a21);cases e;have B:Blt mg:=⟨mg_none_of X G z1,mg_none_of X G z2,mg_none_of X G z3,mg_none_of X G z4,mg_none_of X G z5,mg_none_of X G z6,mg_none_of X G z7,mg_none_of X G z8,mg_none_of X G z9,mg_none_of X G z10,mg_none_of X G z11,mg_none_of X G z12,mg_none_of X G z13⟩;have F1:=dJ (st:=iB) l1 c1 k1;have F2:=dJ (st:=il) l2 c2 k2;have F3:=dJ (st:=fD) l3 c3 k3;have F4:=dJ (st:=iC) l4 c4 k4;have F5:=dJ (st:=dg) l5 c5 k5;have F6:=dJ (st:=bJ) l6 c6 k6;have F7:=dJ (st:=eY) l7 c7 k7;have F8:=dJ (st:=ir) l8 c8 k8;have F9:=dJ (st:=jh) l9 c9 k9;have F10:=dJ (st:=iG) l10 c10 k10;have F11:=dJ (st:=gm) l11 c11 k11;have F12:=dJ (st:=jg) l12 c12 k12;have F13:=dJ (st:=gF) l13 c13 k13;have F14:=dJ (st:=gw) l14 c14 k14;have F15:=dJ (st:=dq) l15 c15 k15;have F16:=dJ (st:=bL) l16 c16 k16;have F17:=dJ (st:=fH) l17 c17 k17;have F18:=dJ (st:=eZ) l18 c18 k18;have F19:=dJ (st:=iD) l19 c19 k19;have F20:=dJ (st:=iw) l20 c20 k20;have F21:=dJ (st:=m6) l21 c21 k21;refine⟨fnOf "law" "law" (bC m6) (bu m6) (aA m6) .none kV21 dc21 pm21 an21 cd21 ct21,λs v=>.of_eq rfl,λbase _ _=>?_⟩;have c_law_tape:qJ l.prog w K mg base:=⟨_,_,yZ F1 B,mg_of X G a1,k1,F1.binds (ps:=nl8) λ_ _ _ _ _ _ us hl=>match us,hl with|[_,_],_=>rfl⟩;have c_law_draw:d9 l.prog w K mg base:=⟨_,_,zb F2 B,mg_of X G a2,k2,F2.binds (ps:=nl9) λ_ _ _ _ _ _ us hl=>match us,hl with|[_,_],_=>rfl⟩;have c_law_names:oR l.prog w K mg base:=⟨_,_,wu F3 B c_law_draw,mg_of X G a3,k3,F3.binds (ps:=nl1) λ_ _ _ _ _ _ us hl=>match us,hl with|[_],_=>rfl⟩;have c_law_turn:qR l.prog w K mg base:=⟨_,_,ye F4 B c_law_draw,mg_of X G a4,k4,F4.binds (ps:=nl1) λ_ _ _ _ _ _ us hl=>match us,hl with|[_],_=>rfl⟩;have c_law_joinings:k_ l.prog w K mg base:=⟨_,_,rM F5 B c_law_draw,mg_of X G a5,k5,F5.binds (ps:=JC) λ_ _ _ _ _ _ us hl=>match us,hl with|[_,_,_],_=>rfl⟩;have c_law_classes:jz l.prog w K mg base:=⟨_,_,sX F6 B,mg_of X G a6,k6,F6.binds (ps:=nl2) λ_ _ _ _ _ _ us hl=>match us,hl with|[_,_],_=>rfl⟩;have c_law_numbers:l_ l.prog w K mg base:=⟨_,_,ut F7 B c_law_classes,mg_of X G a7,k7,F7.binds (ps:=nl2) λ_ _ _ _ _ _ us hl=>match us,hl with|[_,_],_=>rfl⟩;have c_law_rows:qM l.prog w K mg base:=⟨_,_,zp F8 B c_law_numbers c_law_classes c_law_draw,mg_of X G a8,k8,F8.binds (ps:=Jy) λ_ _ _ _ _ _ us hl=>match us,hl with|[_,_,_,_],_=>rfl⟩;have c_law_odd:uN l.prog w K mg base:=⟨_,_,Bh F9 B c_law_draw,mg_of X G a9,k9,F9.binds (ps:=nl1) λ_ _ _ _ _ _ us hl=>match us,hl with|[_],_=>rfl⟩;have c_law_bent:rm l.prog w K mg base:=⟨_,_,zr F10 B c_law_draw,mg_of X G a10,k10,F10.binds (ps:=Kl) λ_ _ _ _ _ _ us hl=>match us,hl with|[_,_,_],_=>rfl⟩;have c_is_listed:qZ l.prog w K mg base:=⟨_,_,wR F11 B,mg_of X G a11,k11,F11.binds (ps:=nl0) λ_ _ _ _ _ _ us hl=>match us,hl with|[_],_=>rfl⟩;have c_counted:vC l.prog w K mg base:=⟨_,_,Be F12 B,mg_of X G a12,k12,F12.binds (ps:=nl5) λ_ _ _ _ _ _ us hl=>match us,hl with|[_,_],_=>rfl⟩;have c_is_couple:qP l.prog w K mg base:=⟨_,_,v7 F13 B,mg_of X G a13,k13,F13.binds (ps:=nl0) λ_ _ _ _ _ _ us hl=>match us,hl with|[_],_=>rfl⟩;have c_is_number:rA l.prog w K mg base:=⟨_,_,vX F14 B,mg_of X G a14,k14,F14.binds (ps:=nl0) λ_ _ _ _ _ _ us hl=>match us,hl with|[_],_=>rfl⟩;have c_is_number_row:lu l.prog w K mg base:=⟨_,_,qH F15 B c_is_couple c_is_number,mg_of X G a15,k15,F15.binds (ps:=nl0) λ_ _ _ _ _ _ us hl=>match us,hl with|[_],_=>rfl⟩;have c_shows_numbers:lq l.prog w K mg base:=⟨_,_,qC F16 B c_is_listed c_counted c_is_number_row,mg_of X G a16,k16,F16.binds (ps:=K5) λ_ _ _ _ _ _ us hl=>match us,hl with|[_,_,_,_],_=>rfl⟩;have c_law_is_int:mY l.prog w K mg base:=⟨_,_,uZ F17 B,mg_of X G a17,k17,F17.binds (ps:=nl6) λ_ _ _ _ _ _ us hl=>match us,hl with|[_],_=>rfl⟩;have c_law_counted:lX l.prog w K mg base:=⟨_,_,tK F18 B,mg_of X G a18,k18,F18.binds (ps:=nl7) λ_ _ _ _ _ _ us hl=>match us,hl with|[_,_],_=>rfl⟩;have c_law_due:uL l.prog w K mg base:=⟨_,_,Ao F19 B c_law_is_int c_law_counted,mg_of X G a19,k19,F19.binds (ps:=nl3) λ_ _ _ _ _ _ us hl=>match us,hl with|[_,_,_,_],_=>rfl⟩;have c_law_says:qL l.prog w K mg base:=⟨_,_,zu F20 B c_shows_numbers c_law_due,mg_of X G a20,k20,F20.binds (ps:=nl3) λ_ _ _ _ _ _ us hl=>match us,hl with|[_,_,_,_],_=>rfl⟩;exact e_.imp (Np F21 B c_law_tape c_law_names c_law_turn c_law_joinings c_law_rows c_law_draw c_law_odd c_law_bent c_law_says) λvs H Q E ⟨a,ns,e,hS,hl,q⟩=>by subst e;exact MK hl hS q
theorem walk{l:PySem.W.OpenLaw}{q:Program}{loose:List Str}{XP:(Str->Option Value)->Heap->Prop}{YP:World->Heap->Prop}{d:DefRec}{K:Params->Frag}(hn:l.most=some 63)(hdf:d.params.defaults=[])
  (hY:∀(w:World)(h:Heap),YP w h->(K w.params).In h)
  (F:∀(w:World)(mg:Str->Option Value)(fa:Addr)(h:Heap),(K w.params).In h->h.Ns mainGlobals mg->mg d.name=some (.ref fa)->
   ∃fd:FuncData,(∀(s:Shared)(u:Value),BindsTo s fd ⟨[u],[]⟩ [("_law_script",u)])/\∀base:Heap,(K w.params).In base->base.Ns mainGlobals mg->e_ l.prog w (K w.params) mg base CX0 5 fa fd KH (Ga (K w.params))) :
  PySem.W.WalkO q loose XP YP l.row.toRowW d [] (λf vs=>PySem.call f vs):=
 L2.walk_of (n:=63) (k:=5) (x:="_law_script") (CX:=λ_=>CX0) (sp:=λw=>Ga (K w.params)) hn (by decide) hdf ⟨rfl,by decide,by decide,rfl⟩ hY F (λ_ _ a ns hl _ hS=>⟨a,ns,rfl,hS,hl,λ_=>rfl⟩) λ_ _ _ _ _ z=>z
end Jb
namespace PySem.W.Fast
def tw16141546914738550244:=0
def tw5650202238497805319:=0
def tw14792234911369159638:=0
def tw13896124401316877462:=0
def tw10499516061045689639:=0
def tw3543464526044859612:=0
def tw13914480932705143687:=0
def tw15082742043190662177:=0
def tw6863373240186961293:=0
def tw8520447479070714947:=0
def tw4194096760147155644:=0
def tw11756394117065699883:=0
def tw7389760803614792643:=0
def tw2105025618046169249:=0
def tw4162855782250793801:=0
def tw1726822375446216747:=0
def tw13639207230151529282:=0
def tw1956315577668440147:=0
def tw13541792581540271282:=0
def tw13822928777678179060:=0
def tw3062770158186336740:=0
def tw1414702251100580567:=0
def tw18116516046791520898:=0
def tw18380410853038513934:=0
def tw1083105603621263340:=0
def tw6338545897892288127:=0
def tw17937540629123430182:=0
def tw17311391809224172980:=0
def tw11252369391237946746:=0
def tw11646613255548583528:=0
def tw9561592381148743869:=0
def tw14248091180153807621:=0
def tw2862147368133211972:=0
def tw3963719873354325044:=0
def tw10574048403462428799:=0
def tw12680629311193920047:=0
def tw11081119484121361004:=0
def tw638363808478629425:=0
def tw1681663834163055169:=0
def tw11645964997700451927:=0
def tw12894298533031705899:=0
def tw6658442675457189503:=0
def tw10829010094430783157:=0
def tw1786959284106985902:=0
def tw11408589507002022763:=0
def tw18294392019620992725:=0
def tw6812521320849018473:=0
def tw15229394165910680410:=0
def tw13155457351815097185:=0
def tw9792126591953673199:=0
def tw8525936578401504542:=0
def tw18047241449437843910:=0
def tw1507852761114230842:=0
def tw3762804555627128948:=0
def tw12055709944077412451:=0
def tw7376881875411951867:=0
def tw9339882755044481852:=0
def tw6342620463583118041:=0
def tw5703338716616064732:=0
def tw5165664553083641943:=0
def tw16662975102748083073:=0
def tw17954489708390421536:=0
def tw16878196050269329658:=0
def tw18281723283261980276:=0
def tw2530078452252091887:=0
def tw898101202677372717:=0
def tw2595307115367866493:=0
def tw9476694902915767425:=0
def tw13908233458538173307:=0
def tw21556320850060875:=0
def tw4214773007423794287:=0
def tw4323472410226259956:=0
def tw9996748469787253219:=0
def tw2591870561791079750:=0
def tw18140522540982387905:=0
def tw17822268536087351634:=0
def tw11698059995975202221:=0
def tw11694470946823587060:=0
def tw18136542337160193139:=0
def tw18362338117388283810:=0
def tw3526262803125638586:=0
def tw421261834585806178:=0
def tw10553967920377729411:=0
def tw3892152862343850600:=0
def tw14074795867396740912:=0
def tw10187803207234877285:=0
def tw12667296280846832206:=0
def tw1196836810515642223:=0
def tw1624376194031101554:=0
def tw8723382515632788054:=0
def tw9226181799535295479:=0
def tw7197469275470577037:=0
def tw17348853684605182314:=0
def tw9418413594913565394:=0
def tw9505111826105249798:=0
def tw7065364759657965150:=0
def tw14697886501219757145:=0
def tw10531435635223603368:=0
def tw14043054006017844073:=0
def tw5051912335058286328:=0
def tw970980147269435520:=0
def tw5052242400596408061:=0
def tw8207715316907439963:=0
def tw14960504828024025719:=0
def tw6619844138999419182:=0
def tw4822163967125519399:=0
def tw821498873998395784:=0
def tw2965033256635165022:=0
def tw8187622516671767556:=0
def tw6544929204080594144:=0
def tw18433077420618148763:=0
def tw3368878828244331201:=0
def tw1984277088013780633:=0
def tw17799501371242905352:=0
def tw940112354261635778:=0
def tw17378471473592485279:=0
def tw3603971412789991886:=0
def tw12680448524309886235:=0
def tw8102694712132952818:=0
def tw2438682194313506393:=0
def tw9308667576391653054:=0
def tw7321734341516268212:=0
def tw8003185188885726122:=0
def tw4789857732748634615:=0
def tw845623566377102458:=0
def tw16165148377602740562:=0
def tw14097686756268109944:=0
def tw5938305125756946030:=0
def tw4618275868047625858:=0
def tw17200090108905029426:=0
def tw14082297973990298774:=0
def tw8497597818089941018:=0
def tw14661803699087170922:=0
def tw3681207828248146275:=0
def tw5258646051852936907:=0
end PySem.W.Fast
open PySem PySem.W PyProof.Rows
set_option maxRecDepth 100000 in
set_option maxHeartbeats 0 in
theorem PySem.Challenge.cw_joinback_k07_numbers_shown_holds : PySem.Challenge.rw_joinback_k07_numbers_shown.Holds := by
 w_on;o_law;k_head;(case hw=>w_witness2)
 k_fill
 refine Jb.walk (l:=PySem.Challenge.rw_joinback_k07_numbers_shown) rfl rfl (λw h Y=>PySem.W.kIn_of Y) ?F
 case F=>
  intro w mg fa h KX G hmg;refine' Jb.all_mk KX G hmg ?_ ?_ ?_ ?_ ?_ ?_ ?_ ?_ ?_ ?_ ?_ ?_ ?_ ?_ ?_ ?_ ?_ ?_ ?_ ?_ ?_ ?_ ?_ ?_ ?_ ?_ ?_ ?_ ?_ ?_ ?_ ?_ ?_ ?_ ?_ ?_ ?_ ?_ ?_ ?_ ?_ ?_ ?_ ?_ ?_ ?_ ?_ ?_ ?_ ?_ ?_ ?_ ?_ ?_ ?_ ?_ ?_ ?_ ?_ ?_ ?_ ?_ ?_ ?_ ?_ ?_ ?_ ?_ ?_ ?_ ?_ ?_ ?_ ?_ ?_ ?_ ?_ ?_ ?_ ?_ ?_ ?_ ?_ ?_ ?_ ?_ ?_ ?_ ?_ ?_ ?_ ?_ ?_ ?_ ?_ ?_ ?_
  any_goals k_is
