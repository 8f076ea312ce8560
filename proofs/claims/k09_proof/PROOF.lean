import PyProof.Rows.All
import Wide.All
import OpenK.AllK
import Wide.FinOn
import Lean
import PyProof.EqAt
import PyProof.EqKinds
import PyProof.TupleCall
import KE.KSortTup
import PyProof.NeKinds
import PyProof.TupleIter
import PySem.Challenge.RW_joinback_k09_ways_and_partings_shown
set_option Elab.async false
set_option linter.all false
set_option compiler.extract_closed false
set_option maxRecDepth 100000
namespace L2
open PySem PySem.Spec PyProof.Rows
abbrev Key:=Sum Int Str
def ym:Key->Value->Bool
 |.inl k,v=>Value.isInt k v
 |.inr x,v=>Value.isStrOf x v
def Vw(w:World):Key->Int
 |.inl k=>hashInt k
 |.inr x=>hashStr w x
theorem eV:∀{k:Key}{v:Value},ym k v=true->(∃i t,k=Sum.inl i/\v=Value.int i t)∨(∃x t,k=Sum.inr x/\v=Value.str x t)
 |.inl i,v,h=>by
  obtain⟨t,e⟩:=Value.isInt_shape (k:=i) (v:=v) h;exact .inl ⟨i,t,rfl,e⟩
 |.inr x,v,h=>by
  obtain⟨t,e⟩:=Value.isStrOf_shape (x:=x) (v:=v) h;exact .inr ⟨x,t,rfl,e⟩
theorem Hg(i:Int)(t:Tok):ym (.inl i) (.int i t)=true:=by simp[ym,Value.isInt]
theorem GK(x:Str)(t:Tok):ym (.inr x) (.str x t)=true:=by simp[ym,Value.isStrOf]
theorem Rt(a b:Int):decide ((Sum.inl a:Key)=Sum.inl b)=(a==b):=by
 by_cases e:a=b
 .subst e;simp
 .have h:¬(Sum.inl a:Key)=Sum.inl b:=λq=>e (Sum.inl.inj q)
  rw[decide_eq_false h];exact(beq_eq_false_iff_ne.mpr e).symm
theorem Q7(a b:Str):decide ((Sum.inr a:Key)=Sum.inr b)=decide (a=b):=by
 by_cases e:a=b
 .subst e;simp
 .have h:¬(Sum.inr a:Key)=Sum.inr b:=λq=>e (Sum.inr.inj q)
  rw[decide_eq_false h,decide_eq_false e]
theorem Th(a:Int)(b:Str):decide ((Sum.inl a:Key)=Sum.inr b)=false:=decide_eq_false (λq=>nomatch q)
theorem SQ(a:Str)(b:Int):decide ((Sum.inr a:Key)=Sum.inl b)=false:=decide_eq_false (λq=>nomatch q)
def bL(prog:Program)(w:World):PySem.KeyKind prog w Key where
 is:=ym
 hash:=Vw w
 inj:=λv a b ha hb=>by
  rcases eV ha with⟨i,t,rfl,rfl⟩|⟨x,t,rfl,rfl⟩
  .rcases eV hb with⟨j,u,rfl,e⟩|⟨y,u,rfl,e⟩
   .injection e with e1 _;rw[e1]
   .exact nomatch e
  .rcases eV hb with⟨j,u,rfl,e⟩|⟨y,u,rfl,e⟩
   .exact nomatch e
   .injection e with e1 _;rw[e1]
 byValue:=λk v h=>by
  rcases eV h with⟨i,t,rfl,rfl⟩|⟨x,t,rfl,rfl⟩<;>rfl
 pyHash:=λhv h=>by
  rcases eV hv with⟨i,t,rfl,rfl⟩|⟨x,t,rfl,rfl⟩
  .exact wpAny_pyHash_int h
  .exact wpAny_pyHash_str h
 eqBool:=λhu hv h=>by
  rcases eV hu with⟨i,t,rfl,rfl⟩|⟨x,t,rfl,rfl⟩
  .rcases eV hv with⟨j,u,rfl,rfl⟩|⟨y,u,rfl,rfl⟩
   .rw[Rt]at h;exact wpAny_eqBool_int h
   .rw[Th]at h;exact SeqAt.EqAt.int_str i t y u _ _ _ _ h
  .rcases eV hv with⟨j,u,rfl,rfl⟩|⟨y,u,rfl,rfl⟩
   .rw[SQ]at h;exact SeqAt.EqAt.str_int x t j u _ _ _ _ h
   .rw[Q7]at h;exact wpAny_eqBool_str h
 «strs»:=λk x t v h=>by
  rcases eV h with⟨i,u,rfl,e⟩|⟨y,u,rfl,e⟩
  .exact nomatch e
  .injection e with e1 _
   subst e1;cases v<;>rfl
theorem CV(prog:Program)(w:World)(i:Int)(t:Tok):(bL prog w).is (.inl i) (.int i t)=true:=Hg i t
theorem Ba(prog:Program)(w:World)(x:Str)(t:Tok):(bL prog w).is (.inr x) (.str x t)=true:=GK x t
inductive V where
 |non|bl (b:Bool)|int (i:Int)|str (x:Str)|byt (b:Array UInt8)|flt (b:UInt64)|ref (a:Addr)|ty (n:String)
 deriving DecidableEq
def RelV:V->Value->Prop
 |.non,u=>u=Value.none
 |.bl b,u=>u=Value.bool b
 |.int i,u=>∃t,u=Value.int i t
 |.str x,u=>∃t,u=Value.str x t
 |.byt b,u=>∃t,u=Value.bytes b t
 |.flt b,u=>∃t,u=Value.float b t
 |.ref a,u=>u=Value.ref a
 |.ty n,u=>u=Value.type n
abbrev Vals:List V->List Value->Prop:=Paired RelV
theorem Vals.length{xs:List V}{us:List Value}(r:Vals xs us):xs.length=us.length:=Paired.length r
theorem Vals.get:∀{xs:List V}{us:List Value}{i:Nat}{x:V},Vals xs us->xs[i]? =some x->∃u,us[i]? =some u/\RelV x u
 |_,_,_,_,.nil,e=>by simp at e
 |_,_,0,_,.cons r _,e=>by simp at e;subst e;exact⟨_,rfl,r⟩
 |_,_,i+1,x,.cons _ t,e=>by
  obtain⟨u,h1,h2⟩:=Vals.get (i:=i) (x:=x) t (by simpa using e);exact⟨u,by simpa using h1,h2⟩
theorem Vals.set{x:V}{u:Value}(r:RelV x u):∀{xs:List V}{us:List Value}(i:Nat),Vals xs us->Vals (xs.set i x) (us.set i u)
 |_,_,_,.nil=>.nil
 |_,_,0,.cons _ t=>.cons r t
 |_,_,i+1,.cons q t=>.cons q (Vals.set r i t)
theorem Vals.append:∀{xs ys:List V}{us ws:List Value},Vals xs us->Vals ys ws->Vals (xs++ys) (us++ws)
 |_,_,_,_,.nil,s=>s
 |_,_,_,_,.cons r t,s=>.cons r (Vals.append t s)
theorem Vals.take:∀{xs:List V}{us:List Value}(n:Nat),Vals xs us->Vals (xs.take n) (us.take n)
 |_,_,0,_=>.nil
 |_,_,_+1,.nil=>.nil
 |_,_,n+1,.cons r t=>.cons r (Vals.take n t)
theorem Vals.drop:∀{xs:List V}{us:List Value}(n:Nat),Vals xs us->Vals (xs.drop n) (us.drop n)
 |_,_,0,r=>r
 |_,_,_+1,.nil=>.nil
 |_,_,n+1,.cons _ t=>Vals.drop n t
def sS:Option V->Option Value->Prop
 |some v,some u=>RelV v u
 |none,none=>True
 |_,_=>False
def KV{κ:Type}:List (κ×V)->List (κ×Value)->Prop:=Paired λ(p:κ×V)(q:κ×Value)=>p.1=q.1/\RelV p.2 q.2
def kV:Key->V
 |.inl i=>.int i
 |.inr x=>.str x
inductive HO where
 |lst (xs:List V)
 |tup (xs:List V)
 |dK (kvs:List (Key×V))|dT (kvs:List (List Key×V))
 |set (S:Int->Bool) (n:Nat)
 |ins (C dx:Addr) (fs:List (Str×V))
 |own (x:Addr)
 |xd (fs:List (Str×V))
 |met (f x:Addr)
 |rng (lo hi:Int)
 |frz (o:Obj) (u:HO)
 |tbl (ps:Array Value)
 |ext (φ:Heap->Prop)
abbrev Hp:=Addr->Option HO
def upd(H:Hp)(a:Addr)(o:HO):Hp:=λb=>if b=a then some o else H b
theorem bJ{H:Hp}{a:Addr}{o:HO}:upd H a o a=some o:=by unfold upd;rw[if_pos rfl]
theorem aV{H:Hp}{a b:Addr}{o:HO}(h:b≠a):upd H a o b=H b:=by unfold upd;rw[if_neg h]
theorem Ex{H:Hp}{a:Addr}{o u:HO}:upd (upd H a o) a u=upd H a u:=by
 funext b;unfold upd;split<;>rfl
theorem Fe{H:Hp}{a b:Addr}{o u:HO}(h:H a=some o)(h':H b=some u)(d:o≠u):a≠b:=by
 intro e;subst e;rw[h]at h';exact d (Option.some.inj h')
theorem bh{H:Hp}{a b:Addr}{o:HO}(h:H a=some o)(h':H b=none):a≠b:=by
 intro e;subst e;rw[h]at h';cases h'
section
variable(P:Program)(w:World)
def cR(H:Hp)(h:Heap)(a:Addr):HO->Prop
 |.lst xs=>xs.length<=sizeLine/\∃(its:List Value)(n:Nat),Vals xs its/\h.get? a=some {cls:=.type "list",data:=.seq its.toArray n}
 |.tup xs=>xs.length<=sizeLine/\∃its:List Value,Vals xs its/\IsTup h a its.toArray
 |.dK kvs=>kvs.length<=sizeLine/\(a==sysModules)=false/\∃vs,KV kvs vs/\h.DictOf (bL P w) a vs
 |.dT kvs=>kvs.length<=sizeLine/\(a==sysModules)=false/\∃xs:List (List Key×Addr×Value),
  Paired (λ(p:List Key×V)(q:List Key×Addr×Value)=>p.1=q.1/\H q.2.1=some (.tup (p.1.map kV))/\RelV p.2 q.2.2) kvs xs/\
  ∃o es ep,h.get? a=some o/\o.ExactDict/\o.data= .dict es ep/\es.toList=xs.map (entryOfKey (tupleKind (bL P w)))/\(xs.map (·.1)).Nodup
 |.set S n=>h.SetOf (intKind P w) a S n
 |.ins C dx fs=>H dx=some (.own a)/\fs.length<=1000/\dx≠a/\h.get? a=some (PySem.W.instObj C dx)/\
  ∃mA,h.Ns1 dx mA/\(∀f,sS (fs.lookup f) (mA f))/\PySem.Within mA (fs.map (·.1))
 |.own _=>∃o,h.get? a=some o
 |.xd fs=>∃mA,h.Ns1 a mA/\∀f,sS (fs.lookup f) (mA f)
 |.rng lo hi=>∃t u v,h.get? a=some {cls:=.type "range",data:=.fields #[.int lo t,.int hi u,.int 1 v]}
 |.frz o u=>h.get? a=some o/\cR H h a u
 |.tbl ps=>h.get? a=some {cls:=.none,data:=.fields ps}
 |.met f x=>h.get? a=some (PySem.W.methodObj (.ref f) (.ref x))
 |.ext φ=>φ h/\(∃o,h.get? a=some o)/\∀h1 h2:Heap,φ h1->(∀o,h1.get? a=some o->h2.get? a=some o)->φ h2
def HOk(H:Hp)(h:Heap):Prop:=∀a o,H a=some o->cR P w H h a o
end
section
variable{P:Program}{w:World}{H H':Hp}{h h':Heap}{a:Addr}{o:HO}
theorem cR.lt(x:cR P w H h a o):a<h.objs.size:=by
 cases o with
 |lst xs=>obtain⟨_,_,_,_,e⟩:=x;exact Heap.lt_size e
 |tup xs=>obtain⟨_,_,_,p⟩:=x;exact p.lt
 |dK kvs=>obtain⟨_,_,_,_,o,_,_,e,_⟩:=x;exact Heap.lt_size e
 |dT kvs=>obtain⟨_,_,_,_,o,_,_,e,_⟩:=x;exact Heap.lt_size e
 |set S n=>obtain⟨o,_,_,_,e,_⟩:=x;exact Heap.lt_size e
 |ins C dx fs=>obtain⟨_,_,_,e,_⟩:=x;exact Heap.lt_size e
 |own y=>obtain⟨_,e⟩:=x;exact Heap.lt_size e
 |xd fs=>obtain⟨_,⟨_,_,_,e,_⟩,_⟩:=x;exact Heap.lt_size e
 |rng lo hi=>obtain⟨_,_,_,e⟩:=x;exact Heap.lt_size e
 |frz ob u=>obtain⟨e,_⟩:=x;exact Heap.lt_size e
 |tbl ps=>exact Heap.lt_size (show h.get? a=some _ from x)
 |met f y=>exact Heap.lt_size (show h.get? a=some _ from x)
 |ext φ=>obtain⟨_,⟨_,e⟩,_⟩:=x;exact Heap.lt_size e
theorem Paired.mapP{α β:Type}{F G:α->β->Prop}:∀{l₁:List α}{l₂:List β},Paired F l₁ l₂->(∀a b,F a b->G a b)->Paired G l₁ l₂
 |_,_,.nil,_=>.nil
 |_,_,.cons r t,f=>.cons (f _ _ r) (Paired.mapP t f)
theorem cR.stay(x:cR P w H h a o)(k:∀b u,(b=a∨H b=some (.own a))->h.get? b=some u->h'.get? b=some u)
  (ho:∀b,H b=some (.own a)->H' b=some (.own a)) (ht:∀b xs,H b=some (.tup xs)->H' b=some (.tup xs)):cR P w H' h' a o:=by
 induction o with
 |lst xs=>obtain⟨z,its,n,r,e⟩:=x;exact⟨z,its,n,r,k _ _ (.inl rfl) e⟩
 |tup xs=>obtain⟨z,its,r,ob,e,c⟩:=x;exact⟨z,its,r,ob,k _ _ (.inl rfl) e,c⟩
 |dK kvs=>obtain⟨z,y,vs,r,ob,es,ep,e,c⟩:=x;exact⟨z,y,vs,r,ob,es,ep,k _ _ (.inl rfl) e,c⟩
 |dT kvs=>
  obtain⟨z,y,xs,r,ob,es,ep,e,c⟩:=x;exact⟨z,y,xs,Paired.mapP r λp q z=>⟨z.1,ht _ _ z.2.1,z.2.2⟩,ob,es,ep,k _ _ (.inl rfl) e,c⟩
 |set S n=>obtain⟨ob,es,ep,t,e,c⟩:=x;exact⟨ob,es,ep,t,k _ _ (.inl rfl) e,c⟩
 |ins C dx fs=>
  obtain⟨d,z,ne,e,mA,⟨od,es,ep,e2,c⟩,r⟩:=x;exact⟨ho _ d,z,ne,k _ _ (.inl rfl) e,mA,⟨od,es,ep,k _ _ (.inr d) e2,c⟩,r⟩
 |own y=>obtain⟨ob,e⟩:=x;exact⟨ob,k _ _ (.inl rfl) e⟩
 |xd fs=>obtain⟨mA,⟨od,es,ep,e,c⟩,r⟩:=x;exact⟨mA,⟨od,es,ep,k _ _ (.inl rfl) e,c⟩,r⟩
 |rng lo hi=>obtain⟨t,u,v,e⟩:=x;exact⟨t,u,v,k _ _ (.inl rfl) e⟩
 |frz ob u ih=>obtain⟨e,q⟩:=x;exact⟨k _ _ (.inl rfl) e,ih q⟩
 |tbl ps=>
  have e:h.get? a=some {cls:=.none,data:=.fields ps}:=x;show h'.get? a=some {cls:=.none,data:=.fields ps};exact k a _ (.inl rfl) e
 |met f y=>
  have e:h.get? a=some (PySem.W.methodObj (.ref f) (.ref y)):=x;show h'.get? a=some (PySem.W.methodObj (.ref f) (.ref y));exact k a _ (.inl rfl) e
 |ext φ=>obtain⟨p,⟨o,e⟩,st⟩:=x;exact⟨st _ _ p λo q=>k _ _ (.inl rfl) q,⟨o,k _ _ (.inl rfl) e⟩,st⟩
theorem HOk.lt(x:HOk P w H h)(e:H a=some o):a<h.objs.size:=(x a o e).lt
theorem HOk.fresh(x:HOk P w H h)(e:h.objs.size<=a):H a=none:=by
 cases q:H a with
 |none=>rfl
 |some u=>exact absurd (Nat.lt_of_lt_of_le (x.lt q) e) (Nat.lt_irrefl _)
theorem HOk.kept(x:HOk P w H h)(k:∀b u,h.get? b=some u->h'.get? b=some u):HOk P w H h':=λa o e=>
 (x a o e).stay (λb u _ q=>k b u q) (λ_ q=>q) λ_ _ q=>q
theorem HOk.laid(x:HOk P w H h)(k:∀b u,h.get? b=some u->h'.get? b=some u)(hp:h.objs.size<=a)(new:cR P w (upd H a o) h' a o):HOk P w (upd H a o) h':=λb u e=>by
 have hn:=x.fresh hp;by_cases hb:b=a
 .subst hb;rw[bJ]at e;cases e;exact new
 .rw[aV hb]at e
  exact(x b u e).stay (λc v _ q=>k c v q) (λc q=>by rw[aV (bh q hn)];exact q) λc xs q=>by rw[aV (bh q hn)];exact q
end
def Rd(H:Hp)(a:Addr)(u:HO):Prop:=H a=some u∨∃o,H a=some (.frz o u)
theorem Rd.ok{P:Program}{w:World}{H:Hp}{h:Heap}{a:Addr}{u:HO}(r:Rd H a u)(x:HOk P w H h):cR P w H h a u:=by
 rcases r with r|⟨o,r⟩
 .exact x a u r
 .obtain⟨_,q⟩:=x a _ r
  exact q
def Mut:Option HO->Prop
 |some (.lst _)=>True
 |some (.dK _)=>True
 |some (.dT _)=>True
 |some (.set _ _)=>True
 |some (.ins _ _ _)=>True
 |some (.ext _)=>True
 |_=>False
section
variable{P:Program}{w:World}{H:Hp}{h h':Heap}{x e:Addr}{o':HO}
theorem HOk.write(ok:HOk P w H h)(mu:Mut (H x))(he:e=x∨H e=some (.own x))(k:∀b u,b≠e->h.get? b=some u->h'.get? b=some u)(heo:∃u,h'.get? e=some u)
  (new:cR P w (upd H x o') h' x o'):HOk P w (upd H x o') h':=λb u q=>by
 have nown:∀c y,H c=some (.own y)->c≠x:=λc y r z=>by subst z;rw[r]at mu;exact mu
 have ntup:∀c xs,H c=some (.tup xs)->c≠x:=λc xs r z=>by subst z;rw[r]at mu;exact mu
 by_cases hb:b=x
 .subst hb;rw[bJ]at q;cases q;exact new
 .rw[aV hb]at q
  by_cases hbe:b=e
  .have q':H b=some (.own x):=by
    rcases he with z|z
    .exact absurd (hbe.trans z) hb
    .rw[hbe];exact z
   rw[q]at q';cases q';obtain⟨v,hv⟩:=heo;exact⟨v,by rw[hbe];exact hv⟩
  .refine(ok b u q).stay (λc v hc r=>k c v ?_ r) (λc r=>by rw[aV (nown c b r)];exact r) λc xs r=>by rw[aV (ntup c xs r)];exact r
   rcases hc with rfl|hc
   .exact hbe
   .rintro rfl
    rcases he with z|z
    .exact nown c b hc z
    .rw[hc]at z;cases z;exact hb rfl
end
structure Un(fs ex:List Addr)(H H':Hp)(h h':Heap):Prop where
 keep:∀b o,h.get? b=some o->H b=none->b∉fs->b∉ex->h'.get? b=some o
 slot:∀b o,h.get? b=some o->H b=none->b∈fs->b∉ex->∃sl,h'.get? b=some {o with slots:=sl}
 free:∀b o,h.get? b=some o->H b=none->b∉ex->H' b=none
 there:∀b o,h.get? b=some o->b∉ex->∃o',h'.get? b=some o'
 tups:∀b xs,H b=some (.tup xs)->H' b=some (.tup xs)
 frzs:∀b o u,H b=some (.frz o u)->H' b=some (.frz o u)
 tbls:∀b ps,H b=some (.tbl ps)->∃more,H' b=some (.tbl (ps++more))
section
variable{fs fs' ex ex':List Addr}{H H1 H2:Hp}{h h1 h2 h':Heap}{a x e:Addr}{o:HO}
theorem Un.any(u:Un fs ex H H1 h h1){b:Addr}{ob:Obj}(q:h.get? b=some ob)(n:H b=none)(hx:b∉ex):∃sl,h1.get? b=some {ob with slots:=sl}:=by
 by_cases hb:b∈fs
 .exact u.slot b ob q n hb hx
 .exact⟨ob.slots,u.keep b ob q n hb hx⟩
theorem Un.kept(k:∀b u,h.get? b=some u->h'.get? b=some u):Un fs ex H H h h':=
 ⟨λb ob q _ _ _=>k b ob q,λb ob q _ _ _=>⟨ob.slots,k b ob q⟩,λ_ _ _ n _=>n,λb ob q _=>⟨ob,k b ob q⟩,λ_ _ q=>q,λ_ _ _ q=>q,λ_ ps q=>⟨#[],by rw[q];simp⟩⟩
theorem Un.refl:Un fs ex H H h h:=Un.kept λ_ _ q=>q
theorem Un.laid(k:∀b u,h.get? b=some u->h'.get? b=some u)(hp:h.objs.size<=a)(hn:H a=none):Un fs ex H (upd H a o) h h' where
 keep:=λb u q _ _ _=>k b u q
 slot:=λb u q _ _ _=>⟨u.slots,k b u q⟩
 free:=λb u q n _=>by rw[aV (Nat.ne_of_lt (Nat.lt_of_lt_of_le (Heap.lt_size q) hp))];exact n
 there:=λb u q _=>⟨u,k b u q⟩
 tups:=λb xs q=>by rw[aV (bh q hn)];exact q
 frzs:=λb u xs q=>by rw[aV (bh q hn)];exact q
 tbls:=λb ps q=>⟨#[],by rw[aV (bh q hn),q];simp⟩
theorem Un.write(mu:Mut (H x))(he:e=x∨H e=some (.own x))(k:∀b u,b≠e->h.get? b=some u->h'.get? b=some u)(heo:∃u,h'.get? e=some u):Un fs ex H (upd H x o) h h':=by
 have hx:∀b,H b=none->b≠x:=λb n z=>by subst z;rw[n]at mu;exact mu
 have hb:∀b,H b=none->b≠e:=λb n z=>by
  subst z;rcases he with r|r
  .exact hx b n r
  .rw[n]at r;cases r
 have hm:∀b u,H b=some u->¬Mut (some u)->b≠x:=λb u q nm z=>by subst z;rw[q]at mu;exact nm mu
 refine⟨λb u q n _ _=>k b u (hb b n) q,λb u q n _ _=>⟨u.slots,k b u (hb b n) q⟩,λb u q n _=>by rw[aV (hx b n)];exact n,λb u q _=>?_,
  λb xs q=>by rw[aV (hm b _ q λz=>z)];exact q,λb u xs q=>by rw[aV (hm b _ q λz=>z)];exact q,λb ps q=>⟨#[],by rw[aV (hm b _ q λz=>z),q];simp⟩⟩
 by_cases hbe:b=e
 .subst hbe;exact heo
 .exact⟨u,k b u hbe q⟩
end
def trk(h:Heap)(H:Hp):List Addr:=(List.range h.objs.size).filter λa=>(H a).isSome
def yQ(h:Heap)(H:Hp):Heap:=PySem.W.hideAll h (trk h H)
theorem Hn(h:Heap)(H:Hp):(yQ h H).objs.size=h.objs.size:=PySem.W.hideAll_size _ _
theorem Lj{h:Heap}{H:Hp}{b:Addr}{o:Obj}(e:h.get? b=some o)(n:H b=none):(yQ h H).get? b=some o:=
 PySem.W.hideAll_get _ e λhm=>by
  have q:(H b).isSome=true:=(List.mem_filter.mp hm).2;rw[n]at q;simp at q
theorem MN{h:Heap}{H:Hp}{b:Addr}{o:Obj}(e:(yQ h H).get? b=some o):h.get? b=some o/\H b=none:=by
 have e':h.get? b=some o:=PySem.W.of_hideAll (trk h H) e;refine⟨e',?_⟩;cases q:H b with
 |none=>rfl
 |some x=>
  have hm:b∈trk h H:=List.mem_filter.mpr ⟨List.mem_range.mpr (Heap.lt_size e'),by simp[q]⟩;have z:(yQ h H).get? b=none:=PySem.W.hideAll_none (trk h H) hm;rw[z]at e;cases e
def Og(g h:Heap)(L:Addr):List (Addr×Obj):=(List.range h.objs.size).filterMap λa=>if a=L∨(g.get? a).isSome=true then none else(h.get? a).map λo=>(a,o)
def rest(g h:Heap)(L d:Addr):List (Addr×Obj):=(Og g h L).filter λp=>decide (p.1≠d)
structure Mod(K:PySem.W.Frag)(mg:Str->Option Value)(base:Heap):Prop where
 kin:K.In base
 glob:base.Ns mainGlobals mg
 blt:∃mb,base.Ns builtinsNs mb/\∀x:Str,x≠"__name__"->mb x=bootBuiltins x
 nolimit:base.NoLimit
structure Cx where
 prog:Program
 w:World
 K:PySem.W.Frag
 mg:Str->Option Value
 base:Heap
 A:Around
 N:List Str
 s₀:Shared
 H₀:Hp
 env:Env
 outer:List Env
 stack:List Env
 ex:List Addr
 fn:Str->Bool
 calm:Bool
 pn:List (Addr×Obj)
 xe:Value->Shared->Prop
def frs(l:List Env):List Addr:=l.filterMap (·.frame)
abbrev Cx.fs(X:Cx):List Addr:=frs X.outer
def Vis(sc:Scope)(x:Str):Prop:=sc.names.lookup x=some .local∨sc.names.lookup x=some .cell∨sc.names.lookup x=some .free
def Loc(sc:Scope)(x:Str):Prop:=sc.names.lookup x=some .local∨sc.names.lookup x=some .cell
def Look(env:Env)(h:Heap)(m:Str->Option Value)(x:Str)(u:Value):Prop:=
 (env.kindOf x=some .local/\m x=some u)∨((env.kindOf x=some .cell∨env.kindOf x=some .free)/\∃c,env.cells.lookup x=some c/\h.IsCell c (some u))
structure Cx.Ok(X:Cx):Prop where
 mod:Mod X.K X.mg X.base
 kind:X.env.scope.kind= .function
 glob:X.env.globals=mainGlobals
 blt:X.env.builtins=builtinsNs
 above:X.s₀.heap.objs.size<=X.env.locals
 inj:∀x y c,X.env.cells.lookup x=some c->X.env.cells.lookup y=some c->x=y
 has:∀x,(X.env.kindOf x=some .cell∨X.env.kindOf x=some .free)->∃c,X.env.cells.lookup x=some c
 cab:∀x c,X.fn x=true->X.env.cells.lookup x=some c->X.s₀.heap.objs.size<=c
 hd:X.calm=true->X.A.handled=none
 frames:X.A.frames=some X.stack
 stk:X.stack=X.outer∨(X.stack=X.env::X.outer/\X.env.frame=some X.env.locals)
 exf:∀b∈X.ex,b≠X.env.locals/\∀x c,X.env.cells.lookup x=some c->c≠b
 bs:∀b o,X.base.get? b=some o->X.s₀.heap.get? b=some o/\X.H₀ b=none
 bsz:X.base.objs.size<=X.s₀.heap.objs.size
 noex:∀b o,X.base.get? b=some o->b∉X.ex
 exfs:∀b∈X.ex,b∉X.fs
 funs:X.s₀.heap.FunFrames X.base X.outer
 frf:∀b∈X.fs,X.H₀ b=none
structure Inv(X:Cx)(pins:List (Addr×Obj))(σ:List (Option V))(H:Hp)(s:Shared):Prop where
 ok:X.Ok
 os:s.os=X.s₀.os
 bare:AllBare s.gens
 base:Un X.fs X.ex X.H₀ H X.s₀.heap s.heap
 loc:∃m,s.heap.Ns X.env.locals m/\∀(i:Nat)(x:Str)(v:V),X.N[i]? =some x->σ[i]? =some (some v)->Vis X.env.scope x->∃u,RelV v u/\Look X.env s.heap m x u
 cell:∀x c,X.env.cells.lookup x=some c->∃v,s.heap.IsCell c v
 free:H X.env.locals=none
 freeC:∀x c,X.env.cells.lookup x=some c->H c=none
 pin:∀p∈X.pn++pins,s.heap.get? p.1=some p.2/\H p.1=none/\p.1≠X.env.locals/\p.1∉X.fs/\∀v,p.2.data≠.cell v
 hok:HOk X.prog X.w H s.heap
 len:σ.length=X.N.length
section
variable{X:Cx}{pins:List (Addr×Obj)}{σ:List (Option V)}{H H':Hp}{s:Shared}{h':Heap}
theorem Cx.Ok.nofr(ok:X.Ok){b:Addr}{o:Obj}(e:X.base.get? b=some o):b∉X.fs:=λhb=>by
 have:=(ok.funs.mem hb).1;rw[e]at this;cases this
theorem Inv.bs(I:Inv X pins σ H s):∀b o,X.base.get? b=some o->s.heap.get? b=some o/\H b=none:=λb o e=>
 ⟨I.base.keep b o (I.ok.bs b o e).1 (I.ok.bs b o e).2 (I.ok.nofr e) (I.ok.noex b o e),I.base.free b o (I.ok.bs b o e).1 (I.ok.bs b o e).2 (I.ok.noex b o e)⟩
theorem Inv.bk(I:Inv X pins σ H s):∀b o,X.base.get? b=some o->s.heap.get? b=some o:=λb o e=>(I.bs b o e).1
theorem Inv.mod(I:Inv X pins σ H s):Mod X.K X.mg X.base:=I.ok.mod
theorem Inv.kIn(I:Inv X pins σ H s):X.K.In s.heap:=I.ok.mod.kin.keeps I.bk
theorem Inv.fr(I:Inv X pins σ H s):∃m,Fr X.base X.env.locals s.heap m:=
 let⟨m,hn,_⟩:=I.loc
 ⟨m,hn,I.bk,Nat.le_trans I.ok.bsz I.ok.above⟩
theorem Inv.lt(I:Inv X pins σ H s):X.env.locals<s.heap.objs.size:=let⟨_,hn,_⟩:=I.loc;hn.lt
theorem Inv.sz(I:Inv X pins σ H s):X.s₀.heap.objs.size<=s.heap.objs.size:=Nat.le_trans I.ok.above (Nat.le_of_lt I.lt)
theorem Inv.nofs(I:Inv X pins σ H s){a:Addr}(h:s.heap.objs.size<=a):a∉X.fs:=λhb=>by
 obtain⟨_,o,ho,_⟩:=I.ok.funs.mem hb;exact absurd (Nat.lt_of_lt_of_le (Heap.lt_size ho) (Nat.le_trans I.sz h)) (Nat.lt_irrefl _)
theorem Inv.cne(I:Inv X pins σ H s):∀x c,X.env.cells.lookup x=some c->c≠X.env.locals:=λx c e z=>by
 obtain⟨v,o,ho,hd⟩:=I.cell x c e;obtain⟨m,⟨o',es,ep,ho',hd',_⟩,_⟩:=I.loc;rw[z,ho']at ho;cases ho;rw[hd']at hd;cases hd
theorem Inv.funs(I:Inv X pins σ H s):s.heap.FunFrames X.base X.outer:=by
 have all:∀(l:List Env),(∀b∈frs l,b∈X.fs)->X.s₀.heap.FunFrames X.base l->s.heap.FunFrames X.base l:=by
  intro l
  induction l with
  |nil=>intro _ _;trivial
  |cons env r ih=>
   intro hs hl;obtain⟨hk,⟨L,o,hf,hn,ho,hd⟩,hr⟩:=hl;have hL:L∈X.fs:=hs L (by unfold frs;rw[List.filterMap_cons,hf];exact List.mem_cons_self);obtain⟨sl,e⟩:=I.base.slot L o ho (I.ok.frf L hL) hL λz=>I.ok.exfs L z hL;exact⟨hk,⟨L,_,hf,hn,e,hd⟩,ih (λb hb=>hs b (by unfold frs;rw[List.filterMap_cons,hf];exact List.mem_cons_of_mem _ hb)) hr⟩
 exact all X.outer (λ_ hb=>hb) I.ok.funs
theorem Inv.stack(I:Inv X pins σ H s):s.heap.FunFrames X.base X.stack:=by
 rcases I.ok.stk with e|⟨e,hf⟩
 .rw[e];exact I.funs
 .rw[e]
  obtain⟨m,hn,_⟩:=I.loc;refine .cons (by rw[I.ok.kind];decide) hf hn ?_ I.funs;exact Heap.get?_none_of_le (Nat.le_trans I.ok.bsz I.ok.above)
theorem Inv.stkSub(I:Inv X pins σ H s):∀b∈frs X.stack,b∈X.env.locals::X.fs:=λb hb=>by
 rcases I.ok.stk with e|⟨e,hf⟩
 .rw[e]at hb;exact List.mem_cons_of_mem _ hb
 .rw[e]at hb
  unfold frs at hb;rw[List.filterMap_cons,hf]at hb;exact hb
theorem Inv.stkFree(I:Inv X pins σ H s):∀b∈frs X.stack,H b=none:=λb hb=>by
 rcases List.mem_cons.mp (I.stkSub b hb)with e|hb
 .rw[e];exact I.free
 .obtain⟨_,o,ho,_⟩:=I.ok.funs.mem hb
  exact I.base.free b o ho (I.ok.frf b hb) λz=>I.ok.exfs b z hb
theorem Inv.step{g':Array GenState}{t':Nat}{d':Drawn}{ch:List Addr}(I:Inv X pins σ H s)
  (hch:∀b∈ch,(b∈X.ex∨X.s₀.heap.objs.size<=b)/\b≠X.env.locals/\(∀x c,X.env.cells.lookup x=some c->c≠b)/\∀p∈X.pn++pins,p.1≠b)
  (keep:∀b o,b≠X.env.locals->b∉X.fs->b∉ch->s.heap.get? b=some o->H b=none->h'.get? b=some o)
  (slot:∀b o,b≠X.env.locals->b∈X.fs->b∉ch->s.heap.get? b=some o->H b=none->∃sl,h'.get? b=some {o with slots:=sl}) (free:∀b o,b∉ch->s.heap.get? b=some o->H b=none->H' b=none)
  (there:∀b o,b∉ch->s.heap.get? b=some o->∃o',h'.get? b=some o')
  (tups:∀b xs,H b=some (.tup xs)->H' b=some (.tup xs)) (frzs:∀b o u,H b=some (.frz o u)->H' b=some (.frz o u)) (tbls:∀b ps,H b=some (.tbl ps)->∃more,H' b=some (.tbl (ps++more)))
  (ns:∀m,s.heap.Ns X.env.locals m->h'.Ns X.env.locals m) (hok:HOk X.prog X.w H' h') (hg:AllBare g') :
  Inv X pins σ H' {s with heap:=h',gens:=g',drawn:=d',toks:=t'}:=by
 have neL:∀b o,X.s₀.heap.get? b=some o->b≠X.env.locals:=λb o e=>Nat.ne_of_lt (Nat.lt_of_lt_of_le (Heap.lt_size e) I.ok.above);have neC:∀b o,X.s₀.heap.get? b=some o->b∉X.ex->b∉ch:=λb o e hx hb=>by
  rcases(hch b hb).1 with z|z
  .exact hx z
  .exact absurd (Nat.lt_of_lt_of_le (Heap.lt_size e) z) (Nat.lt_irrefl _)
 have cellK:∀x c,X.env.cells.lookup x=some c->∀v,s.heap.IsCell c v->h'.IsCell c v:=λx c e v ⟨o,ho,hd⟩=>by
  have nch:c∉ch:=λz=>(hch c z).2.2.1 x c e rfl;by_cases hc:c∈X.fs
  .obtain⟨sl,q⟩:=slot c o (I.cne x c e) hc nch ho (I.freeC x c e)
   exact⟨_,q,hd⟩
  .exact⟨o,keep c o (I.cne x c e) hc nch ho (I.freeC x c e),hd⟩
 refine⟨I.ok,I.os,hg,⟨λb o e n hb hx=>?_,λb o e n hb hx=>?_,λb o e n hx=>?_,λb o e hx=>?_,λb xs e=>tups b xs (I.base.tups b xs e),λb o xs e=>frzs b o xs (I.base.frzs b o xs e),λb ps e=>?_⟩,?_,λx c e=>?_,?_,λx c e=>?_,λp hp=>?_,hok,I.len⟩
 .exact keep b o (neL b o e) hb (neC b o e hx) (I.base.keep b o e n hb hx) (I.base.free b o e n hx)
 .obtain⟨sl,e1⟩:=I.base.slot b o e n hb hx
  obtain⟨sl',e2⟩:=slot b _ (neL b o e) hb (neC b o e hx) e1 (I.base.free b o e n hx);exact⟨sl',e2⟩
 .obtain⟨o',e1⟩:=I.base.there b o e hx
  exact free b o' (neC b o e hx) e1 (I.base.free b o e n hx)
 .obtain⟨o',e1⟩:=I.base.there b o e hx
  exact there b o' (neC b o e hx) e1
 .obtain⟨m1,e1⟩:=I.base.tbls b ps e
  obtain⟨m2,e2⟩:=tbls b _ e1;exact⟨m1++m2,by rw[e2,Array.append_assoc]⟩
 .obtain⟨m,hn,hl⟩:=I.loc
  refine⟨m,ns m hn,λi x v e1 e2 e3=>?_⟩;obtain⟨u,r,l⟩:=hl i x v e1 e2 e3;refine⟨u,r,?_⟩;rcases l with l|⟨k,c,e,z⟩
  .exact .inl l
  .exact .inr ⟨k,c,e,cellK x c e _ z⟩
 .obtain⟨v,z⟩:=I.cell x c e
  exact⟨v,cellK x c e v z⟩
 .obtain⟨m,⟨o,_,_,ho,_⟩,_⟩:=I.loc
  exact free _ o (λz=>(hch _ z).2.1 rfl) ho I.free
 .obtain⟨v,o,ho,hd⟩:=I.cell x c e
  exact free c o (λz=>(hch c z).2.2.1 x c e rfl) ho (I.freeC x c e)
 .obtain⟨e,n,ne,nf,d⟩:=I.pin p hp
  have nch:p.1∉ch:=λz=>(hch p.1 z).2.2.2 p hp rfl;exact⟨keep p.1 p.2 ne nf nch e n,free p.1 p.2 nch e n,ne,nf,d⟩
theorem Inv.un{t':Nat}(I:Inv X pins σ H s)(u:Un X.fs [] H H' s.heap h')(hok:HOk X.prog X.w H' h'):Inv X pins σ H' {s with heap:=h',toks:=t'}:=by
 obtain⟨m,⟨o,es,ep,ho,r⟩,_⟩:=id I.loc;obtain⟨sl,hL⟩:=u.any ho I.free (by simp);exact I.step (g':=s.gens) (d':=s.drawn) (ch:=[]) (λ_ z=>nomatch z) (λb o _ hb _ e n=>u.keep b o e n hb (by simp)) (λb o _ hb _ e n=>u.slot b o e n hb (by simp)) (λb o _ e n=>u.free b o e n (by simp)) (λb o _ e=>u.there b o e (by simp)) u.tups u.frzs u.tbls (λm' hm=>by
  obtain⟨o',es',ep',ho',r'⟩:=hm;rw[ho]at ho';cases ho';exact⟨_,es',ep',hL,r'⟩) hok I.bare
theorem Inv.call{g':Array GenState}{t':Nat}{d':Drawn}{ch:List Addr}(I:Inv X pins σ H s)(u:Un (frs X.stack) ch H H' s.heap h')(hok:HOk X.prog X.w H' h')(hg:AllBare g')
  (hch:∀b∈ch,(b∈X.ex∨X.s₀.heap.objs.size<=b)/\b≠X.env.locals/\(∀x c,X.env.cells.lookup x=some c->c≠b)/\∀p∈X.pn++pins,p.1≠b) :
  Inv X pins σ H' {s with heap:=h',gens:=g',drawn:=d',toks:=t'}:=by
 obtain⟨m,⟨o,es,ep,ho,r⟩,_⟩:=id I.loc;obtain⟨sl,hL⟩:=u.any ho I.free λz=>(hch _ z).2.1 rfl;exact I.step (ch:=ch) hch (λb o hL hb hc e n=>u.keep b o e n (λz=>(List.mem_cons.mp (I.stkSub b z)).elim hL hb) hc) (λb o _ _ hc e n=>u.any e n hc) (λb o hc e n=>u.free b o e n hc) (λb o hc e=>u.there b o e hc) u.tups u.frzs u.tbls (λm' hm=>by
  obtain⟨o',es',ep',ho',r'⟩:=hm;rw[ho]at ho';cases ho';exact⟨_,es',ep',hL,r'⟩) hok hg
theorem Inv.turned{t':Nat}{it:Addr}(I:Inv X pins σ H s)(k:∀b o,b≠it->s.heap.get? b=some o->h'.get? b=some o)(hn:H it=none)(hL:it≠X.env.locals)
  (h1:it∈X.ex∨X.s₀.heap.objs.size<=it) (h2:∀x c,X.env.cells.lookup x=some c->c≠it) (h3:∀p∈X.pn++pins,p.1≠it):Inv X pins σ H {s with heap:=h',toks:=t'}:=by
 have nit:∀b u,H b=some u->b≠it:=λb u e z=>by rw[z,hn]at e;cases e
 refine I.step (g':=s.gens) (d':=s.drawn) (ch:=[it]) (λb hb=>?_) (λb o _ _ hc e _=>k b o (λz=>hc (by simp[z])) e) (λb o _ _ hc e _=>⟨o.slots,k b o (λz=>hc (by simp[z])) e⟩) (λ_ _ _ _ n=>n)
  (λb o hc e=>⟨o,k b o (λz=>hc (by simp[z])) e⟩) (λ_ _ e=>e) (λ_ _ _ e=>e) (λb ps e=>⟨#[],by rw[e];simp⟩) (λm hm=>?_) (λb u e=>?_) I.bare
 .have e:b=it:=by simpa using hb
  subst e;exact⟨h1,hL,h2,h3⟩
 .obtain⟨o,es,ep,ho,r⟩:=hm
  exact⟨o,es,ep,k _ o (Ne.symm hL) ho,r⟩
 .refine(I.hok b u e).stay (λc v hc q=>k c v ?_ q) (λ_ q=>q) λ_ _ q=>q
  rcases hc with z|z
  .rw[z];exact nit b u e
  .exact nit c _ z
theorem Inv.tok(I:Inv X pins σ H s)(t:Nat):Inv X pins σ H {s with toks:=t}:=I.un (h':=s.heap) (t':=t) Un.refl I.hok
theorem Inv.kept{t':Nat}(I:Inv X pins σ H s)(k:∀b u,s.heap.get? b=some u->h'.get? b=some u):Inv X pins σ H {s with heap:=h',toks:=t'}:=I.un (Un.kept k) (I.hok.kept k)
theorem Inv.laid{a:Addr}{o:HO}{t':Nat}(I:Inv X pins σ H s)(k:∀b u,s.heap.get? b=some u->h'.get? b=some u)(hp:s.heap.objs.size<=a)(new:cR X.prog X.w (upd H a o) h' a o) :
 Inv X pins σ (upd H a o) {s with heap:=h',toks:=t'}:=I.un (Un.laid k hp (I.hok.fresh hp)) (I.hok.laid k hp new)
theorem Inv.write{x e:Addr}{o:HO}{t':Nat}(I:Inv X pins σ H s)(mu:Mut (H x))(he:e=x∨H e=some (.own x))(k:∀b u,b≠e->s.heap.get? b=some u->h'.get? b=some u)(heo:∃u,h'.get? e=some u)
 (new:cR X.prog X.w (upd H x o) h' x o):Inv X pins σ (upd H x o) {s with heap:=h',toks:=t'}:=I.un (Un.write mu he k heo) (I.hok.write mu he k heo new)
theorem Inv.weak{σ':List (Option V)}(I:Inv X pins σ H s)(hl:σ'.length=σ.length)(w:∀(i:Nat) v,σ'[i]? =some (some v)->σ[i]? =some (some v)):Inv X pins σ' H s:=
 ⟨I.ok,I.os,I.bare,I.base,let⟨m,hn,hl'⟩:=I.loc;⟨m,hn,λi x v e1 e2 e3=>hl' i x v e1 (w i v e2) e3⟩,I.cell,I.free,I.freeC,I.pin,I.hok,hl.trans I.len⟩
theorem Inv.pins_of{pins':List (Addr×Obj)}(I:Inv X pins σ H s)(h:∀p∈pins',s.heap.get? p.1=some p.2/\H p.1=none/\p.1≠X.env.locals/\p.1∉X.fs/\∀v,p.2.data≠.cell v):Inv X pins' σ H s:=
 ⟨I.ok,I.os,I.bare,I.base,I.loc,I.cell,I.free,I.freeC,λp hp=>(List.mem_append.mp hp).elim (λz=>I.pin p (List.mem_append_left _ z)) (h p),I.hok,I.len⟩
theorem Ag{N:List Str}(hN:N.Nodup){i j:Nat}{x:Str}(a:N[i]? =some x)(b:N[j]? =some x):i=j:=by
 obtain⟨h1,e1⟩:=List.getElem?_eq_some_iff.mp a;obtain⟨h2,e2⟩:=List.getElem?_eq_some_iff.mp b;exact(List.getElem_inj hN).mp (e1.trans e2.symm)
theorem HY{M:Model}{A:Around}{E:Value->Shared->Prop}{i:Nat}{x:Str}{v:V}{u:Value}{Q:Unit->Shared->Prop}(I:Inv X pins σ H s)(hN:X.N.Nodup)(hi:X.N[i]? =some x)(hx:Loc X.env.scope x)(r:RelV v u)
  (h:∀s',Inv X pins (σ.set i (some v)) H s'->(∃a,Heap.SameBut a s.heap s'.heap/\(a=X.env.locals∨X.env.cells.lookup x=some a))->Q () s') (hf:X.fn x=true∨X.env.scope.names.lookup x=some .local:=by first|exact .inl rfl|exact .inr rfl|assumption):wpAny M A (storeName X.env x u) Q E s:=by
 obtain⟨m,hn,hl⟩:=id I.loc;have hcls:(X.env.scope.kind== .class||(X.env.scope.kind== .module&&X.env.locals !=X.env.globals))=false:=by rw[I.ok.kind];rfl
 have hiσ:i<σ.length:=by rw[I.len];exact(List.getElem?_eq_some_iff.mp hi).1
 have cne:=I.cne;have tracked:∀{a:Addr}{h':Heap},(∃o,s.heap.get? a=some o/\H a=none)->Heap.SameBut a s.heap h'->HOk X.prog X.w H h':=λ{a h'} ha hs b ob e=>by
  obtain⟨_,_,hfree⟩:=ha;refine(I.hok b ob e).stay (λc w' hc q=>(hs.2 c ?_).trans q) (λ_ q=>q) λ_ _ q=>q;rintro rfl;rcases hc with rfl|hc
  .rw[hfree]at e;cases e
  .rw[hfree]at hc;cases hc
 rcases hx with hk|hk
 .refine wpAny_storeName_local hk hn (λh' hn' hs=>?_) hcls
  obtain⟨oL,_,_,hoL,_⟩:=id hn;refine h _ ⟨I.ok,I.os,I.bare,⟨λb o e n hb hx=>?_,λb o e n hb hx=>?_,I.base.free,λb o e hx=>?_,I.base.tups,I.base.frzs,I.base.tbls⟩,⟨_,hn',λj y v' e1 e2 e3=>?_⟩,λy c e=>?_,I.free,I.freeC,λp hp=>?_,tracked ⟨oL,hoL,I.free⟩ hs,by simpa using I.len⟩ ⟨_,hs,.inl rfl⟩
  .exact(hs.2 b (Nat.ne_of_lt (Nat.lt_of_lt_of_le (Heap.lt_size e) I.ok.above))).trans (I.base.keep b o e n hb hx)
  .obtain⟨sl,e1⟩:=I.base.slot b o e n hb hx
   exact⟨sl,(hs.2 b (Nat.ne_of_lt (Nat.lt_of_lt_of_le (Heap.lt_size e) I.ok.above))).trans e1⟩
  .obtain⟨o',e1⟩:=I.base.there b o e hx
   exact⟨o',(hs.2 b (Nat.ne_of_lt (Nat.lt_of_lt_of_le (Heap.lt_size e) I.ok.above))).trans e1⟩
  .by_cases hj:j=i
   .subst hj
    rw[hi]at e1;cases e1;rw[List.getElem?_set_self hiσ]at e2;cases e2;exact⟨u,r,.inl ⟨hk,by simp⟩⟩
   .rw[List.getElem?_set_ne (Ne.symm hj)]at e2
    obtain⟨u',r',q⟩:=hl j y v' e1 e2 e3;refine⟨u',r',?_⟩;rcases q with⟨k,e⟩|⟨k,c,e,z⟩
    .refine .inl ⟨k,?_⟩
     have:y≠x:=λe=>hj (Ag hN e1 (e▸hi));simp[this,e]
    .exact .inr ⟨k,c,e,z.sameBut hs (cne y c e)⟩
  .obtain⟨w',z⟩:=I.cell y c e
   exact⟨w',z.sameBut hs (cne y c e)⟩
  .obtain⟨e,n,ne,nf,d⟩:=I.pin p hp
   exact⟨(hs.2 p.1 ne).trans e,n,ne,nf,d⟩
 .have hfn:X.fn x=true:=by
   rcases hf with z|z
   .exact z
   .rw[z]at hk;cases hk
  obtain⟨c,hc⟩:=I.ok.has x (.inl hk);obtain⟨w',z⟩:=I.cell x c hc;refine wpAny_storeName_cell I.ok.kind hk hc z (λh' hc' hs=>?_);obtain⟨oc,hoc,hocd⟩:=id z;refine h {s with heap:=h'} ⟨I.ok,I.os,I.bare,⟨λb o e n hb hx=>?_,λb o e n hb hx=>?_,I.base.free,λb o e hx=>?_,I.base.tups,I.base.frzs,I.base.tbls⟩,⟨m,hn.sameBut hs (Ne.symm (cne x c hc)),λj y v' e1 e2 e3=>?_⟩,λy c' e=>?_,I.free,I.freeC,λp hp=>?_,tracked ⟨oc,hoc,I.freeC x c hc⟩ hs,by simpa using I.len⟩ ⟨c,hs,.inr hc⟩
  .exact(hs.2 b (Nat.ne_of_lt (Nat.lt_of_lt_of_le (Heap.lt_size e) (I.ok.cab x c hfn hc)))).trans (I.base.keep b o e n hb hx)
  .obtain⟨sl,e1⟩:=I.base.slot b o e n hb hx
   exact⟨sl,(hs.2 b (Nat.ne_of_lt (Nat.lt_of_lt_of_le (Heap.lt_size e) (I.ok.cab x c hfn hc)))).trans e1⟩
  .obtain⟨o',e1⟩:=I.base.there b o e hx
   exact⟨o',(hs.2 b (Nat.ne_of_lt (Nat.lt_of_lt_of_le (Heap.lt_size e) (I.ok.cab x c hfn hc)))).trans e1⟩
  .by_cases hj:j=i
   .subst hj
    rw[hi]at e1;cases e1;rw[List.getElem?_set_self hiσ]at e2;cases e2;exact⟨u,r,.inr ⟨.inl hk,c,hc,hc'⟩⟩
   .rw[List.getElem?_set_ne (Ne.symm hj)]at e2
    obtain⟨u',r',q⟩:=hl j y v' e1 e2 e3;refine⟨u',r',?_⟩;rcases q with q|⟨k,c',e,z'⟩
    .exact .inl q
    .refine .inr ⟨k,c',e,z'.sameBut hs ?_⟩
     rintro rfl;exact hj (Ag hN e1 (I.ok.inj _ _ _ e hc▸hi))
  .by_cases hcc:c'=c
   .subst hcc;exact⟨_,hc'⟩
   .obtain⟨w2,z2⟩:=I.cell y c' e
    exact⟨w2,z2.sameBut hs hcc⟩
  .obtain⟨e,n,ne,nf,d⟩:=I.pin p hp
   refine⟨(hs.2 p.1 ?_).trans e,n,ne,nf,d⟩;intro q;rw[q,hoc]at e;have q':oc=p.2:=Option.some.inj e;exact d w' (by rw[←q'];exact hocd)
theorem nM{M:Model}{A:Around}{E:Value->Shared->Prop}{i:Nat}{x:Str}{v:V}{u:Value}{Q:Unit->Shared->Prop}(I:Inv X pins σ H s)(hN:X.N.Nodup)(hi:X.N[i]? =some x)(hx:Loc X.env.scope x)(r:RelV v u)
  (h:∀s',Inv X pins (σ.set i (some v)) H s'->Q () s') (hf:X.fn x=true∨X.env.scope.names.lookup x=some .local:=by first|exact .inl rfl|exact .inr rfl|assumption):wpAny M A (storeName X.env x u) Q E s:=
 HY I hN hi hx r (λs' I' _=>h s' I') hf
theorem Inv.call'{s':Shared}{ch:List Addr}(I:Inv X pins σ H s)(ho:s'.os=s.os)(u:Un (frs X.stack) ch H H' s.heap s'.heap)(hok:HOk X.prog X.w H' s'.heap)(hg:AllBare s'.gens)
  (hch:∀b∈ch,(b∈X.ex∨X.s₀.heap.objs.size<=b)/\b≠X.env.locals/\(∀x c,X.env.cells.lookup x=some c->c≠b)/\∀p∈X.pn++pins,p.1≠b):Inv X pins σ H' s':=by
 obtain⟨h',g',d',t',o'⟩:=s';have e:o'=s.os:=ho;subst e;exact I.call (g':=g') (t':=t') (d':=d') u hok hg hch
end
abbrev XK:=Value->Option Addr->Hp->Prop
abbrev St:=List (Option V)
abbrev VK:=V->Hp->Prop
abbrev TE:=St->Hp->VK->Prop
abbrev TT:=St->Hp->(Bool->Hp->Prop)->Prop
abbrev TA:=St->Hp->(List V->Hp->Prop)->Prop
structure Ends where
 nx:St->Hp->Prop
 rt:VK
 bk:St->Hp->Prop:=λ_ _=>False
 ct:St->Hp->Prop:=λ_ _=>False
abbrev TS:=Ends->St->Hp->Prop
def EP(X:Cx)(pins:List (Addr×Obj))(σ:St)(Q:VK)(u:Value)(s':Shared):Prop:=∃v H',Inv X pins σ H' s'/\RelV v u/\Q v H'
def TP(X:Cx)(pins:List (Addr×Obj))(σ:St)(Q:Bool->Hp->Prop)(b:Bool)(s':Shared):Prop:=∃H',Inv X pins σ H' s'/\Q b H'
def AP(X:Cx)(pins:List (Addr×Obj))(σ:St)(Q:List V->Hp->Prop)(us:List Value)(s':Shared):Prop:=∃vs H',Inv X pins σ H' s'/\Vals vs us/\Q vs H'
def SP(X:Cx)(pins:List (Addr×Obj))(D:Ends)(f:Flow)(s':Shared):Prop:=
 match f with
 |.next=>∃σ' H',Inv X pins σ' H' s'/\D.nx σ' H'
 |.brk=>∃σ' H',Inv X pins σ' H' s'/\D.bk σ' H'
 |.cont=>∃σ' H',Inv X pins σ' H' s'/\D.ct σ' H'
 |.ret u=>∃v σ' H',Inv X pins σ' H' s'/\RelV v u/\D.rt v H'
def PE(X:Cx)(e:Expr)(t:TE):Prop:=
 ∀(pins:List (Addr×Obj))(s:Shared)(σ:St)(H:Hp)(Q:VK),Inv X pins σ H s->t σ H Q->wpAny (model X.prog X.w) X.A (eval e X.env) (EP X pins σ Q) X.xe s
def PT(X:Cx)(e:Expr)(t:TT):Prop:=
 ∀(pins:List (Addr×Obj))(s:Shared)(σ:St)(H:Hp)(Q:Bool->Hp->Prop),Inv X pins σ H s->t σ H Q->wpAny (model X.prog X.w) X.A (isTrue e X.env (eval e X.env)) (TP X pins σ Q) X.xe s
def PW(X:Cx)(e:Expr)(t:TT):Prop:=
 ∀(whole:Sem Value)(pins:List (Addr×Obj))(s:Shared)(σ:St)(H:Hp)(Q:Bool->Hp->Prop),Inv X pins σ H s->t σ H Q->wpAny (model X.prog X.w) X.A (isTrue e X.env whole) (TP X pins σ Q) X.xe s
theorem PW.pt{X:Cx}{e:Expr}{t:TT}(h:PW X e t):PT X e t:=h _
def PA(X:Cx)(es:List Expr)(t:TA):Prop:=
 ∀(pos:Pos)(pins:List (Addr×Obj))(s:Shared)(σ:St)(H:Hp)(Q:List V->Hp->Prop),Inv X pins σ H s->t σ H Q->wpAny (model X.prog X.w) X.A (spliced (backTo pos (starEach es X.env))) (AP X pins σ Q) X.xe s
def PS(X:Cx)(st:Stmt)(t:TS):Prop:=
 ∀(pins:List (Addr×Obj))(s:Shared)(σ:St)(H:Hp)(D:Ends),Inv X pins σ H s->t D σ H->wpAny (model X.prog X.w) X.A (exec st X.env) (SP X pins D) X.xe s
def PSs(X:Cx)(st:List Stmt)(t:TS):Prop:=
 ∀(pins:List (Addr×Obj))(s:Shared)(σ:St)(H:Hp)(D:Ends),Inv X pins σ H s->t D σ H->wpAny (model X.prog X.w) X.A (execs st X.env) (SP X pins D) X.xe s
theorem thn{α:Type}{t:Sem α}{Q Q':α->Shared->Prop}{M:Model}{A:Around}{E:Value->Shared->Prop}{s:Shared}(h:wpAny M A t Q E s)(hQ:∀a s,Q a s->Q' a s):wpAny M A t Q' E s:=wpAny_mono h hQ λ_ _ x=>x
section
variable{X:Cx}
theorem bin{a b:Expr}{ta tb:TE}(ha:PE X a ta)(hb:PE X b tb){pins:List (Addr×Obj)}{s:Shared}{σ:St}{H:Hp}{R:V->V->Hp->Prop}(I:Inv X pins σ H s)(h:ta σ H λx H1=>tb σ H1 λy H2=>R x y H2)
  {α:Type} {Q:α->Shared->Prop} {f:Value->Value->Sem α}
  (hf:∀v u s2 x y H2,Inv X pins σ H2 s2->RelV x v->RelV y u->R x y H2->wpAny (model X.prog X.w) X.A (f v u) Q X.xe s2) :
  wpAny (model X.prog X.w) X.A (eval a X.env) (λv s₁=>wpAny (model X.prog X.w) X.A (eval b X.env) (λu s₂=>wpAny (model X.prog X.w) X.A (f v u) Q X.xe s₂) X.xe s₁) X.xe s:=by
 refine thn (ha pins s σ H _ I h) λv s1 ⟨x,H1,I1,r1,q1⟩=>?_;refine thn (hb pins s1 σ H1 _ I1 q1) λu s2 ⟨y,H2,I2,r2,q2⟩=>?_;exact hf v u s2 x y H2 I2 r1 r2 q2
def Nu(i:Nat):TE:=λσ H Q=>∃v,σ[i]? =some (some v)/\Q v H
def tC(v:V):TE:=λ_ H Q=>Q v H
theorem R1{i:Nat}{x:Str}{pos:Pos}(hN:X.N[i]? =some x)(hv:Vis X.env.scope x)(hd:(x==("__debug__":Str))=false:=by decide)(hcd:(x==("__classdict__":Str))=false:=by decide):PE X (.Name x pos) (Nu i):=by
 intro pins s σ H Q I h;obtain⟨v,e,h⟩:=h;obtain⟨m,hn,hl⟩:=I.loc;obtain⟨u,r,l⟩:=hl i x v hN e hv;have fin:EP X pins σ Q u s:=⟨v,H,I,r,h⟩;rcases l with⟨hk,hm⟩|⟨hk,c,hc,hcell⟩
 .exact wpAny_Name (wpAny_loadName_local I.ok.kind hk hn hm fin) hd
 .rcases hk with hk|hk
  .exact wpAny_Name (wpAny_loadName_cell I.ok.kind hk hc hcell fin) hd
  .exact wpAny_Name (wpAny_loadName_free I.ok.kind hk hc hcell fin hcd) hd
theorem Tj{i j pos}:PE X (.Constant (.int i) j pos) (tC (.int i)):=λ_ _ _ H _ I h=>wpAny_Constant_int ⟨.int i,H,I.tok _,⟨_,rfl⟩,h⟩
theorem Vb{b j pos}:PE X (.Constant (.bool b) j pos) (tC (.bl b)):=λ_ _ _ H _ I h=>Constant_bool ⟨.bl b,H,I,rfl,h⟩
theorem RL{j pos}:PE X (.Constant .none j pos) (tC .non):=λ_ _ _ H _ I h=>Constant_none ⟨.non,H,I,rfl,h⟩
theorem Rp{x j pos}:PE X (.Constant (.str x) j pos) (tC (.str x)):=λ_ _ _ H _ I h=>Calls.Constant_str ⟨.str x,H,I.tok _,⟨_,rfl⟩,h⟩
def Gl(X:Cx)(x:Str):Prop:=X.env.kindOf x=some .globalImplicit
theorem Pa{E:Value->Shared->Prop}{pins:List (Addr×Obj)}{s:Shared}{σ:St}{H:Hp}{x:Str}{u:Value}{pos:Pos}{Q:Value->Shared->Prop}(I:Inv X pins σ H s)(hg:Gl X x)(hm:X.mg x=some u)(h:Q u s)
  (hd:(x==("__debug__":Str))=false:=by decide):wpAny (model X.prog X.w) X.A (eval (.Name x pos) X.env) Q E s:=
 Calls.Name_function_global I.ok.kind hg (Calls.loadGlobal_global (by rw[I.ok.glob];exact I.mod.glob.keeps I.bk) hm h) hd
theorem pZ{E:Value->Shared->Prop}{pins:List (Addr×Obj)}{s:Shared}{σ:St}{H:Hp}{x:Str}{u:Value}{pos:Pos}{Q:Value->Shared->Prop}(I:Inv X pins σ H s)(hg:Gl X x)(hm:X.mg x=none)(hv:bootBuiltins x=some u)(h:Q u s)
  (hn:x≠"__name__":=by decide) (hd:(x==("__debug__":Str))=false:=by decide):wpAny (model X.prog X.w) X.A (eval (.Name x pos) X.env) Q E s:=by
 obtain⟨mb,h1,h2⟩:=I.mod.blt;exact Calls.Name_function_global I.ok.kind hg (Calls.loadGlobal_builtin (by rw[I.ok.glob];exact I.mod.glob.keeps I.bk) hm (by rw[I.ok.blt];exact h1.keeps I.bk) ((h2 x hn).trans hv) h) hd
theorem MP{x:Str}{v:V}{u:Value}{pos:Pos}(hg:Gl X x)(hm:X.mg x=none)(hv:bootBuiltins x=some u)(r:RelV v u)(hn:x≠"__name__":=by decide)(hd:(x==("__debug__":Str))=false:=by decide):PE X (.Name x pos) (tC v):=
 λ_ _ _ H _ I h=>pZ I hg hm hv ⟨v,H,I,r,h⟩ hn hd
variable{a b:Expr}{ta tb:TE}{pos:Pos}
variable{tA tB':TT}{rest:List Expr}
def Te(t u:TT):TT:=λσ H Q=>t σ H λc H1=>if c=true then u σ H1 Q else Q false H1
def tOr(t u:TT):TT:=λσ H Q=>t σ H λc H1=>if c=true then Q true H1 else u σ H1 Q
def Rm(t:TT):TT:=λσ H Q=>t σ H λc H1=>Q (!c) H1
theorem Ez(ha:PT X a tA):PW X (.BoolOp .And [a] pos) tA:=by
 intro wh pins s σ H Q I h;refine isTrue_and (thn (ha pins s σ H Q I h) λc s1 e=>?_);cases c with
 |true=>exact isTrue_and_nil e
 |false=>exact e
theorem IW(ha:PT X a tA):PW X (.BoolOp .Or [a] pos) tA:=by
 intro wh pins s σ H Q I h;refine isTrue_or (thn (ha pins s σ H Q I h) λc s1 e=>?_);cases c with
 |false=>exact isTrue_or_nil e
 |true=>exact e
theorem Iw(ha:PT X a tA)(hb:PW X (.BoolOp .And (b::rest) pos) tB'):PW X (.BoolOp .And (a::b::rest) pos) (Te tA tB'):=by
 intro wh pins s σ H Q I h;refine isTrue_and (thn (ha pins s σ H _ I h) λc s1 ⟨H1,I1,q1⟩=>?_);cases c with
 |true=>exact hb wh pins s1 σ H1 Q I1 q1
 |false=>exact⟨H1,I1,q1⟩
theorem Qg(ha:PT X a tA)(hb:PW X (.BoolOp .Or (b::rest) pos) tB'):PW X (.BoolOp .Or (a::b::rest) pos) (tOr tA tB'):=by
 intro wh pins s σ H Q I h;refine isTrue_or (thn (ha pins s σ H _ I h) λc s1 ⟨H1,I1,q1⟩=>?_);cases c with
 |true=>exact⟨H1,I1,q1⟩
 |false=>exact hb wh pins s1 σ H1 Q I1 q1
theorem Ir(ha:PT X a tA):PT X (.UnaryOp .Not a pos) (Rm tA):=by
 intro pins s σ H Q I h;exact isTrue_not (ha pins s σ H (λc H1=>Q (!c) H1) I h)
def QL(ta tb:TE):TE:=λσ H Q=>ta σ H λx H1=>∃c,x= .bl c/\if c=true then tb σ H1 Q else Q (.bl false) H1
def Qc(ta:TE):TE:=λσ H Q=>ta σ H λx H1=>∃c,x= .bl c/\Q (.bl (!c)) H1
theorem QW{op}{t:TE}(h:PE X a t):PE X (.BoolOp op [a] pos) t:=λpins s σ H Q I hw=>BoolOp_one (h pins s σ H Q I hw)
theorem Q0(ha:PE X a ta)(hb:PE X (.BoolOp .And (b::rest) pos) tb):PE X (.BoolOp .And (a::b::rest) pos) (QL ta tb):=by
 intro pins s σ H Q I h;refine BoolOp_and (thn (ha pins s σ H _ I h) λv s1 ⟨x,H1,I1,r1,q1⟩=>?_);obtain⟨c,rfl,q1⟩:=q1;cases r1;refine wpAny_truthy_bool ?_;cases c with
 |true=>exact hb pins s1 σ H1 Q I1 q1
 |false=>exact⟨.bl false,H1,I1,rfl,q1⟩
theorem Sd(ha:PE X a ta):PE X (.UnaryOp .Not a pos) (Qc ta):=by
 intro pins s σ H Q I h;refine UnaryOp_ (thn (ha pins s σ H _ I h) λv s1 ⟨x,H1,I1,r1,q1⟩=>?_);obtain⟨c,rfl,q1⟩:=q1;cases r1;exact not_of (wpAny_truthy_bool ⟨.bl (!c),H1,I1,rfl,q1⟩)
def tIf(t:TT)(ta tb:TE):TE:=λσ H Q=>t σ H λc H1=>if c=true then ta σ H1 Q else tb σ H1 Q
theorem K8{c:Expr}(hc:PT X c tA)(ha:PE X a ta)(hb:PE X b tb):PE X (.IfExp c a b pos) (tIf tA ta tb):=by
 intro pins s σ H Q I h;refine wpAny_IfExp (thn (hc pins s σ H _ I h) λd s1 ⟨H1,I1,q1⟩=>?_);cases d with
 |true=>exact ha pins s1 σ H1 Q I1 q1
 |false=>exact hb pins s1 σ H1 Q I1 q1
end
def SqL(K:PySem.W.Frag)(H:Hp)(a:Addr)(xs:List V):Prop:=
 Rd H a (.lst xs)∨
  ∃(o:Obj)(its:Array Value)(n:Nat),K.lookup a=some o/\o.cls= .type "list"/\o.dict=none/\o.data= .seq its n/\its.size<=sizeLine/\Vals xs its.toList
def SqT(K:PySem.W.Frag)(H:Hp)(a:Addr)(xs:List V):Prop:=
 Rd H a (.tup xs)∨
  ∃(o:Obj)(its:Array Value)(n:Nat),K.lookup a=some o/\o.cls= .type "tuple"/\o.data= .seq its n/\its.size<=sizeLine/\Vals xs its.toList
def Vy:Value->Option V
 |.none=>some .non
 |.bool b=>some (.bl b)
 |.int i _=>some (.int i)
 |.str x _=>some (.str x)
 |.bytes b _=>some (.byt b)
 |.float b _=>some (.flt b)
 |.ref a=>some (.ref a)
 |.type n=>some (.ty n)
 |_=>none
theorem RelV.abs{x:V}{u:Value}(r:RelV x u):Vy u=some x:=by
 cases x with
 |non=>cases r;rfl
 |bl _=>cases r;rfl
 |int _=>obtain⟨t,rfl⟩:=r;rfl
 |str _=>obtain⟨t,rfl⟩:=r;rfl
 |byt _=>obtain⟨t,rfl⟩:=r;rfl
 |flt _=>obtain⟨t,rfl⟩:=r;rfl
 |ref _=>cases r;rfl
 |ty _=>cases r;rfl
theorem RelV.inj{x y:V}{u:Value}(r:RelV x u)(q:RelV y u):x=y:=Option.some.inj (r.abs.symm.trans q.abs)
theorem Vals.inj:∀{xs ys:List V}{us:List Value},Vals xs us->Vals ys us->xs=ys
 |_,_,_,.nil,.nil=>rfl
 |_,_,_,.cons r t,.cons r' t'=>by rw[r.inj r',Vals.inj t t']
section
variable{X:Cx}{pins:List (Addr×Obj)}{σ:St}{H:Hp}{s:Shared}{a:Addr}{xs ys:List V}
theorem SqL.of{K:PySem.W.Frag}(h:H a=some (.lst xs)):SqL K H a xs:=.inl (.inl h)
theorem SqT.of{K:PySem.W.Frag}(h:H a=some (.tup xs)):SqT K H a xs:=.inl (.inl h)
theorem Inv.list(I:Inv X pins σ H s)(h:SqL X.K H a xs):∃its:List Value,Vals xs its/\PlainL s.heap a its.toArray/\xs.length<=sizeLine:=by
 rcases h with h|⟨o,its,n,hk,hc,hd,hs,hz,r⟩
 .obtain⟨z,its,n,r,e⟩:=h.ok I.hok
  exact⟨its,r,⟨_,n,e,rfl,rfl,rfl⟩,z⟩
 .refine⟨its.toList,r,⟨o,n,I.kIn a o hk,hc,hd,by simpa using hs⟩,?_⟩
  have e:=r.length;simp only[Array.length_toList]at e;omega
theorem Inv.tuple(I:Inv X pins σ H s)(h:SqT X.K H a xs):∃its:List Value,Vals xs its/\IsTup s.heap a its.toArray/\xs.length<=sizeLine:=by
 rcases h with h|⟨o,its,n,hk,hc,hs,hz,r⟩
 .obtain⟨z,its,r,p⟩:=h.ok I.hok
  exact⟨its,r,p,z⟩
 .refine⟨its.toList,r,⟨o,I.kIn a o hk,hc,n,by simpa using hs⟩,?_⟩
  have e:=r.length;simp only[Array.length_toList]at e;omega
theorem Inv.list_inj(I:Inv X pins σ H s)(h:SqL X.K H a xs)(h':SqL X.K H a ys):xs=ys:=by
 obtain⟨its,r,⟨o,n,e,_,_,d⟩,_⟩:=I.list h;obtain⟨its',r',⟨o',n',e',_,_,d'⟩,_⟩:=I.list h';rw[e]at e';cases e';rw[d]at d';injection d' with d1 _;have:its=its':=by simpa using congrArg Array.toList d1
 subst this;exact r.inj r'
theorem Inv.tuple_inj(I:Inv X pins σ H s)(h:SqT X.K H a xs)(h':SqT X.K H a ys):xs=ys:=by
 obtain⟨its,r,⟨o,e,_,n,d⟩,_⟩:=I.tuple h;obtain⟨its',r',⟨o',e',_,n',d'⟩,_⟩:=I.tuple h';rw[e]at e';cases e';rw[d]at d';injection d' with d1 _;have:its=its':=by simpa using congrArg Array.toList d1
 subst this;exact r.inj r'
end
abbrev Cx.wish(X:Cx)(E:Value->Shared->Prop):Cx:={X with xe:=E}
abbrev Cx.nox(X:Cx):Cx:=X.wish λ_ _=>False
theorem Cx.Ok.wish{X:Cx}(ok:X.Ok)(E:Value->Shared->Prop):(X.wish E).Ok:=
 ⟨ok.mod,ok.kind,ok.glob,ok.blt,ok.above,ok.inj,ok.has,ok.cab,ok.hd,ok.frames,ok.stk,ok.exf,ok.bs,ok.bsz,ok.noex,ok.exfs,ok.funs,ok.frf⟩
theorem Cx.Ok.unwish{X:Cx}{E:Value->Shared->Prop}(ok:(X.wish E).Ok):X.Ok:=
 ⟨ok.mod,ok.kind,ok.glob,ok.blt,ok.above,ok.inj,ok.has,ok.cab,ok.hd,ok.frames,ok.stk,ok.exf,ok.bs,ok.bsz,ok.noex,ok.exfs,ok.funs,ok.frf⟩
section
variable{X:Cx}{pins:List (Addr×Obj)}{σ:St}{H:Hp}{s:Shared}{E:Value->Shared->Prop}
theorem Inv.wish(I:Inv X pins σ H s)(E:Value->Shared->Prop):Inv (X.wish E) pins σ H s:=⟨I.ok.wish E,I.os,I.bare,I.base,I.loc,I.cell,I.free,I.freeC,I.pin,I.hok,I.len⟩
theorem Inv.unwish(I:Inv (X.wish E) pins σ H s):Inv X pins σ H s:=⟨I.ok.unwish,I.os,I.bare,I.base,I.loc,I.cell,I.free,I.freeC,I.pin,I.hok,I.len⟩
theorem SP.unwish{D:Ends}{f:Flow}{s':Shared}(h:SP (X.wish E) pins D f s'):SP X pins D f s':=by
 cases f with
 |next=>obtain⟨σ',H',I,q⟩:=h;exact⟨σ',H',I.unwish,q⟩
 |brk=>obtain⟨σ',H',I,q⟩:=h;exact⟨σ',H',I.unwish,q⟩
 |cont=>obtain⟨σ',H',I,q⟩:=h;exact⟨σ',H',I.unwish,q⟩
 |ret u=>obtain⟨v,σ',H',I,r,q⟩:=h;exact⟨v,σ',H',I.unwish,r,q⟩
theorem PSs.nox{st:List Stmt}{t:TS}(h:PSs X.nox st t):PSs X st t:=λpins s σ H D I hw=>
 wpAny_mono (h pins s σ H D (I.wish _) hw) (λ_ _ q=>q.unwish) λ_ _ z=>False.elim z
end
section
variable{X:Cx}{st:Stmt}{rest:List Stmt}{t u:TS}{e:Expr}{te:TE}{pos:Pos}
def Qe:TS:=λD σ H=>D.nx σ H
def Uj(t u:TS):TS:=λD σ H=>t {D with nx:=u D} σ H
theorem Pj:PSs X [] Qe:=λ_ _ σ H _ I h=>wpAny_execs_nil ⟨σ,H,I,h⟩
theorem Mj(h1:PS X st t)(h2:PSs X rest u):PSs X (st::rest) (Uj t u):=by
 intro pins s σ H D I h;refine wpAny_execs_cons (thn (h1 pins s σ H {D with nx:=u D} I h) λf s1 q=>?_);cases f with
 |next=>
  obtain⟨σ',H',I',q⟩:=q;exact h2 pins s1 σ' H' D I' q
 |ret v=>exact q
 |brk=>exact q
 |cont=>exact q
theorem O1(h1:PS X st t):PSs X [st] t:=by
 intro pins s σ H D I h;refine wpAny_execs_cons (thn (h1 pins s σ H D I h) λf s1 q=>?_);cases f with
 |next=>exact wpAny_execs_nil q
 |ret v=>exact q
 |brk=>exact q
 |cont=>exact q
theorem Inv.quiet{pins:List (Addr×Obj)}{σ:St}{H:Hp}{s:Shared}(I:Inv X pins σ H s):interactive X.env=false:=by simp[interactive,I.ok.kind]
def Lq(te:TE):TS:=λD σ H=>te σ H λ_ H1=>D.nx σ H1
theorem Gj(he:PE X e te)(hs:swapsWith e none pos.line X.env=pure false:=by rfl):PS X (.Expr e pos) (Lq te):=by
 intro pins s σ H D I h;exact wpAny_Expr_any (thn (he pins s σ H _ I h) λv s1 ⟨x,H1,I1,r1,q1⟩=>⟨σ,H1,I1,q1⟩) I.quiet hs
def Ri(te:TE):TS:=λD σ H=>te σ H D.rt
theorem Dl(he:PE X e te):PS X (.Return (some e) pos) (Ri te):=by
 intro pins s σ H D I h;exact wpAny_Return_some (thn (he pins s σ H _ I h) λv s1 ⟨x,H1,I1,r1,q1⟩=>⟨x,σ,H1,I1,r1,q1⟩)
def Tz(c:TT)(t u:TS):TS:=λD σ H=>c σ H λb H1=>if b=true then t D σ H1 else u D σ H1
theorem Qz{c:Expr}{a b:List Stmt}{tc:TT}(hc:PT X c tc)(ha:PSs X a t)(hb:PSs X b u):PS X (.If c a b pos) (Tz tc t u):=by
 intro pins s σ H D I h;refine wpAny_If (thn (hc pins s σ H _ I h) λd s1 ⟨H1,I1,q1⟩=>?_);cases d with
 |true=>exact ha pins s1 σ H1 D I1 q1
 |false=>exact hb pins s1 σ H1 D I1 q1
end
abbrev TG:=V->St->Hp->(St->Hp->Prop)->Prop
abbrev TGs:=List V->St->Hp->(St->Hp->Prop)->Prop
def PG(X:Cx)(target:Expr)(t:TG):Prop:=
 ∀(pins:List (Addr×Obj))(s:Shared)(σ:St)(H:Hp)(v:V)(u:Value)(Q:St->Hp->Prop),Inv X pins σ H s->RelV v u->t v σ H Q->
  wpAny (model X.prog X.w) X.A (assign target X.env u) (λ_ s'=>∃σ' H',Inv X pins σ' H' s'/\Q σ' H') X.xe s
def PGs(X:Cx)(ts:List Expr)(t:TGs):Prop:=
 ∀(pins:List (Addr×Obj))(s:Shared)(σ:St)(H:Hp)(vs:List V)(us:List Value)(Q:St->Hp->Prop),Inv X pins σ H s->Vals vs us->t vs σ H Q->
  wpAny (model X.prog X.w) X.A (assignInOrder ((assignEach ts X.env).map (·.2)) us) (λ_ s'=>∃σ' H',Inv X pins σ' H' s'/\Q σ' H') X.xe s
abbrev GZ:=V->V->V->Hp->(Hp->Prop)->Prop
def O9(X:Cx)(t:GZ):Prop:=
 ∀(pins:List (Addr×Obj))(s:Shared)(σ:St)(H:Hp)(o i v:V)(ov iv u:Value)(Q:Hp->Prop),Inv X pins σ H s->RelV o ov->RelV i iv->RelV v u->t o i v H Q->
  wpAny (model X.prog X.w) X.A (setItem ov iv u) (λ_ s'=>∃H',Inv X pins σ H' s'/\Q H') X.xe s
section
variable{X:Cx}{pos:Pos}
def yH(i:Nat):TG:=λv σ H Q=>Q (σ.set i (some v)) H
theorem zr{i:Nat}{x:Str}(hN:X.N.Nodup)(hi:X.N[i]? =some x)(hx:Loc X.env.scope x)(hf:X.fn x=true∨X.env.scope.names.lookup x=some .local:=by first|exact .inl rfl|exact .inr rfl|assumption):PG X (.Name x pos) (yH i):=by
 intro pins s σ H v u Q I r h;exact wpAny_assign_Name (nM I hN hi hx r (λs' I'=>⟨_,H,I',h⟩) hf)
def Nk:TGs:=λvs σ H Q=>vs=[]/\Q σ H
def JR(t:TG)(u:TGs):TGs:=λvs σ H Q=>∃v r,vs=v::r/\t v σ H λσ' H'=>u r σ' H' Q
theorem FQ:PGs X [] Nk:=by
 intro pins s σ H vs us Q I r h;obtain⟨e,h⟩:=h;subst e;cases r;exact assignInOrder_nil ⟨σ,H,I,h⟩
theorem Bb{e:Expr}{es:List Expr}{t:TG}{u:TGs}(h1:PG X e t)(h2:PGs X es u)
  (hs:(assignEach (e::es) X.env).map (·.2)=assign e X.env::(assignEach es X.env).map (·.2):=by rfl):PGs X (e::es) (JR t u):=by
 intro pins s σ H vs us Q I r h;obtain⟨v,vr,e1,h⟩:=h;subst e1;cases r with
 |cons r rr=>
  rw[hs];refine assignInOrder_cons (thn (h1 pins s σ H _ _ _ I r h) λ_ s1 ⟨σ1,H1,I1,q1⟩=>?_);exact h2 pins s1 σ1 H1 _ _ Q I1 rr q1
def Tq(K:PySem.W.Frag)(n:Nat)(t:TGs):TG:=λv σ H Q=>∃a xs,v= .ref a/\SqT K H a xs/\xs.length=n/\t xs σ H Q
theorem Ib{es:List Expr}{k:Nat}{t:TGs}{n:Nat}(hc:X.calm=true)(h:PGs X es t)
  (hn:(assignEach es X.env).length=n:=by rfl) (hst:(assignEach es X.env).findIdx? (·.1)=none:=by rfl):PG X (.Tuple es k pos) (Tq X.K n t):=by
 intro pins s σ H v u Q I r hw;obtain⟨a,xs,e1,hq,hl,hw⟩:=hw;subst e1;cases r;obtain⟨its,rv,ht,hz⟩:=I.tuple hq;refine assign_Tuple_tuple (I.ok.hd hc) ht (by simp[hn,←hl,rv.length]) hst λh' hx=>?_;have I1:Inv X pins σ H {s with heap:=h'}:=I.kept (t':=s.toks) λb o e=>hx b o (Nat.ne_of_lt (Heap.lt_size e)) e;exact h pins _ σ H xs _ Q I1 (by simpa using rv) hw
def m_(to ti:TE)(t:GZ):TG:=λv σ H Q=>to σ H λo H1=>ti σ H1 λi H2=>t o i v H2 λH3=>Q σ H3
theorem S6{o i:Expr}{to ti:TE}{t:GZ}(ho:PE X o to)(hi:PE X i ti)(hs:O9 X t)
  (ha:∀v,assign (.Subscript o i pos) X.env v=(do
   let ov ←holding [v] (eval o X.env)
   let iv ←holding [v,ov] (eval i X.env)
   standAt pos
   holding [v,ov,iv] (setItem ov iv v)
   release [v,ov,iv] []):=by intro _;rfl):PG X (.Subscript o i pos) (m_ to ti t):=by
 intro pins s σ H v u Q I r h;rw[ha];refine wpAny_bind (wpAny_holding (thn (ho pins s σ H _ I h) λov s1 ⟨x,H1,I1,r1,q1⟩=>?_));refine wpAny_bind (wpAny_holding (thn (hi pins s1 σ H1 _ I1 q1) λiv s2 ⟨y,H2,I2,r2,q2⟩=>?_));refine wpAny_bind (wpAny_standAt (wpAny_bind (wpAny_holding (thn (hs pins s2 σ H2 x y v ov iv u _ I2 r1 r2 r q2) λ_ s3 ⟨H3,I3,q3⟩=>?_))));exact wpAny_release ⟨σ,H3,I3,q3⟩
def Om(te:TE)(g:TG):TS:=λD σ H=>te σ H λx H1=>g x σ H1 D.nx
theorem IK{tg e:Expr}{te:TE}{g:TG}(he:PE X e te)(hg:PG X tg g)(hs:swapsWithSole [tg] e pos.line X.env=pure false:=by rfl)(hw:swappedStores [tg] e X.env=pure none:=by rfl)
  (h1:(assignEach [tg] X.env).map (·.2)=[assign tg X.env]:=by rfl):PS X (.Assign [tg] e pos) (Om te g):=by
 intro pins s σ H D I h;refine wpAny_Assign_stores (thn (he pins s σ H _ I h) λv s1 ⟨x,H1,I1,r1,q1⟩=>?_) hs hw;rw[h1];exact thn (hg pins s1 σ H1 x v _ I1 r1 q1) λ_ s2 q=>q
theorem Jq{i:Nat}{x:Str}{e:Expr}{te:TE}{pos':Pos}(hN:X.N.Nodup)(hi:X.N[i]? =some x)(hx:Loc X.env.scope x)(he:PE X e te)(hs:swapsWith e (some (.Name x pos')) pos.line X.env=pure false:=by rfl)(hf:X.fn x=true∨X.env.scope.names.lookup x=some .local:=by first|exact .inl rfl|exact .inr rfl|assumption) :
  PS X (.Assign [.Name x pos'] e pos) (Om te (yH i)):=by
 intro pins s σ H D I h;refine wpAny_Assign_Name (thn (he pins s σ H _ I h) λv s1 ⟨y,H1,I1,r1,q1⟩=>?_) hs;exact nM I1 hN hi hx r1 (λs2 I2=>⟨_,H1,I2,q1⟩) hf
def Ua(i j:Nat)(ta:TA):TS:=λD σ H=>ta σ H λvs H1=>∃v w,vs=[v,w]/\D.nx ((σ.set i (some v)).set j (some w)) H1
theorem LK{i j:Nat}{x y:Str}{a b:Expr}{ta:TA}{px py pt:Pos}{kt k2 pt2}(hc:X.calm=true)(hN:X.N.Nodup)(hi:X.N[i]? =some x)(hj:X.N[j]? =some y)(hij:i≠j)
  (hx:X.env.scope.names.lookup x=some .local) (hy:X.env.scope.names.lookup y=some .local) (ha:PA X [a,b] ta)
  (hw:swappedStores [.Tuple [.Name x px,.Name y py] kt pt] (.Tuple [a,b] k2 pt2) X.env=pure (some [x,y]))
  (hs:swapsWithSole [.Tuple [.Name x px,.Name y py] kt pt] (.Tuple [a,b] k2 pt2) pos.line X.env=pure false:=by rfl) :
  PS X (.Assign [.Tuple [.Name x px,.Name y py] kt pt] (.Tuple [a,b] k2 pt2) pos) (Ua i j ta):=by
 intro pins s σ H D I h;rw[exec_Assign_arm];refine wpAny_bind (wpAny_standAt ?_);rw[hs];refine wpAny_bind (wpAny_pure ?_);rw[if_neg (by decide)];refine wpAny_bind (Tuple_ (thn (ha _ pins s σ H _ I h) λus s1 ⟨vs,H1,I1,r1,q1⟩=>?_));obtain⟨v,w,e1,q1⟩:=q1;subst e1;obtain⟨u1,u2,rfl,rv,rw'⟩:∃u1 u2,us=[u1,u2]/\RelV v u1/\RelV w u2:=by
  cases r1 with
  |cons p q=>
   cases q with
   |cons p' q'=>
    cases q';exact⟨_,_,rfl,p,p'⟩
 refine wpAny_newObj_type ?_ (by show 2<=sizeLine;decide);have I2:Inv X pins σ H1 {s1 with heap:=s1.heap.push {cls:=.type "tuple",data:=.seq [u1,u2].toArray}}:=I1.kept (t':=s1.toks) λb o e=>Heap.get?_push_of_some _ e;rw[hw];refine wpAny_bind (wpAny_pure ?_);show wpAny (model X.prog X.w) X.A (do rule "assign.swapped-stores";let items ←unpackItems (.ref s1.heap.objs.size) 2 none;assignInOrder [λv=>bindName X.env y v,λv=>bindName X.env x v] items.reverse;pure Flow.next) _ _ _;refine wpAny_bind (wpAny_rule (wpAny_bind (unpackItems_tuple (items:=#[u1,u2]) (I.ok.hd hc) (IsTup.new s1.heap _) λh' hx'=>?_)));have I3:=I2.kept (h':=h') (t':=s1.toks) λb o e=>hx' b o (Nat.ne_of_lt (Heap.lt_size e)) e;show wpAny _ _ (assignInOrder [λv=>bindName X.env y v,λv=>bindName X.env x v] [u2,u1] >>=λ_=>pure Flow.next) _ _ _;refine wpAny_bind (assignInOrder_cons (wpAny_bindName (nM I3 hN hj (.inl hy) rw' (λs2 I4=>?_) (.inr hy))));refine assignInOrder_cons (wpAny_bindName (nM I4 hN hi (.inl hx) rv (λs3 I5=>assignInOrder_nil (wpAny_pure ?_)) (.inr hx)));rw[List.set_comm _ _ (Ne.symm hij)]at I5;exact⟨_,H1,I5,q1⟩
end
structure It where
 go:Nat->Hp->Prop
 yld:Nat->Hp->V->Hp->Prop
 stop:Nat->Hp->Prop
def mL(X:Cx)(pins:List (Addr×Obj))(H:Hp)(b:Addr):Prop:=
 H b=none/\b≠X.env.locals/\b∉X.fs/\(b∈X.ex∨X.s₀.heap.objs.size<=b)/\(∀x c,X.env.cells.lookup x=some c->c≠b)/\∀p∈X.pn++pins,p.1≠b
theorem Inv.fpOk{X:Cx}{pins:List (Addr×Obj)}{σ:St}{H H':Hp}{s:Shared}{b:Addr}(I:Inv X pins σ H s)(hb:s.heap.objs.size<=b)(hn:H' b=none):mL X pins H' b:=by
 refine⟨hn,Nat.ne_of_gt (Nat.lt_of_lt_of_le I.lt hb),I.nofs hb,.inr (Nat.le_trans I.sz hb),λx c e z=>?_,λp hp z=>?_⟩
 .obtain⟨v,q⟩:=I.cell x c e
  exact absurd (Nat.lt_of_lt_of_le q.lt (by rw[z];exact hb)) (Nat.lt_irrefl _)
 .exact absurd (Nat.lt_of_lt_of_le (Heap.lt_size (I.pin p hp).1) (by rw[z];exact hb)) (Nat.lt_irrefl _)
structure Turn(P:Program)(w:World)(K:PySem.W.Frag)(tg:Expr)(J:It)(fp:List Addr)(it:Addr)(tn:Nat->Heap->Prop):Prop where
 mem:it∈fp
 obj:∀i h,tn i h->∀b∈fp,∃o,h.get? b=some o/\∀v,o.data≠.cell v
 keep:∀i h h',tn i h->(∀b∈fp,∀o,h.get? b=some o->h'.get? b=some o)->tn i h'
 item:∀(X:Cx),X.prog=P->X.w=w->X.K=K->X.calm=true->∀(i:Nat)(pins:List (Addr×Obj))(s:Shared)(σ:St)(H:Hp)(E:Value->Shared->Prop),Inv X pins σ H s->(∀b∈fp,mL X pins H b)->tn i s.heap->J.go i H->
  wpAny (model P w) X.A (pyNext (.ref it)) (λr s1=>∃u,r=some u/\
   wpAny (model P w) X.A (letOwnedTupleGo tg (.ref it) u) (λ_ s2=>∃x H',Inv X pins σ H' s2/\RelV x u/\J.yld i H x H'/\tn (i+1) s2.heap/\∀b∈fp,H' b=none) E s1) E s
 done:∀(X:Cx),X.prog=P->X.w=w->X.K=K->X.calm=true->∀(i:Nat)(pins:List (Addr×Obj))(s:Shared)(σ:St)(H:Hp)(E:Value->Shared->Prop),Inv X pins σ H s->(∀b∈fp,mL X pins H b)->tn i s.heap->J.stop i H->
  wpAny (model P w) X.A (pyNext (.ref it)) (λr s1=>r=none/\Inv X pins σ H s1) E s
 self:∀(A:Around)(i:Nat)(s:Shared)(Q:Value->Shared->Prop)(E:Value->Shared->Prop),tn i s.heap->Q (.ref it) s->wpAny (model P w) A (pyIter (.ref it)) Q E s
abbrev TI:=St->Hp->(It->Hp->Prop)->Prop
def PIE(X:Cx)(pins:List (Addr×Obj))(σ:St)(tg:Expr)(R:It->Hp->Prop)(itv:Value)(s2:Shared):Prop:=
 ∃(it:Addr)(fp:List Addr)(tn:Nat->Heap->Prop)(J:It)(H':Hp),itv= .ref it/\Inv X pins σ H' s2/\Turn X.prog X.w X.K tg J fp it tn/\tn 0 s2.heap/\(∀b∈fp,mL X pins H' b)/\R J H'
def PI(X:Cx)(tg iter:Expr)(wi:TI):Prop:=
 ∀(pins:List (Addr×Obj))(s:Shared)(σ:St)(H:Hp)(R:It->Hp->Prop),Inv X pins σ H s->wi σ H R->
  wpAny (model X.prog X.w) X.A (eval iter X.env) (λv s1=>wpAny (model X.prog X.w) X.A (pyIter v) (PIE X pins σ tg R) X.xe s1) X.xe s
theorem Ls {M:Model} {A:Around} {E:Value->Shared->Prop} {s:Shared} {tg:Expr} {it:Addr} {u:Value} {o:Obj} {n:String} {vs:Array Value} {Q:Unit->Shared->Prop} (ho:s.heap.get? it=some o) (hc:o.cls = .type n) (hd:o.data = .fields vs)
    (hn:["enumerate", "zip", "dict_itemiterator", "dict_reverseitemiterator", "odict_iterator", "itertools.zip_longest", "itertools.pairwise"].contains n=false) (hQ:Q () s):wpAny M A (letOwnedTupleGo tg (.ref it) u) Q E s:=by
  unfold letOwnedTupleGo
  cases tg <;> first
    | exact wpAny_pure hQ
    | (cases u <;> first
        | exact wpAny_pure hQ
        | (refine wpAny_bind (wpAny_load ho ?_)
           rw [hc,hd]
           show wpAny M A (if (["enumerate", "zip", "dict_itemiterator", "dict_reverseitemiterator", "odict_iterator", "itertools.zip_longest", "itertools.pairwise"].contains n && vs[0]? == some (rawInt _))=true then _ else _) Q E s
           rw [if_neg (by intro h; rw [hn,Bool.false_and] at h; cases h)]
           exact wpAny_pure hQ))
def Itl(K:PySem.W.Frag)(a:Addr):It:=
 ⟨λi H=>∃xs x,SqL K H a xs/\xs[i]? =some x,λi H x H'=>H'=H/\∀xs,SqL K H a xs->xs[i]? =some x,λi H=>∃xs,SqL K H a xs/\xs.length<=i⟩
def Itt(K:PySem.W.Frag)(a:Addr):It:=
 ⟨λi H=>∃xs x,SqT K H a xs/\xs[i]? =some x,λi H x H'=>H'=H/\∀xs,SqT K H a xs->xs[i]? =some x,λi H=>∃xs,SqT K H a xs/\xs.length<=i⟩
def Itr(lo:Int)(n:Nat):It:=⟨λi _=>i<n,λi H x H'=>H'=H/\x= .int (lo+i),λi _=>n<=i⟩
theorem Hm{P:Program}{w:World}{K:PySem.W.Frag}{tg:Expr}(a it:Addr):Turn P w K tg (Itl K a) [it] it (λi h=>h.IsListIter it a i)where
 mem:=by simp
 obj:=λi h st b hb=>by
  have e:b=it:=by simpa using hb
  subst e;obtain⟨o,e,c,d⟩:=st;exact⟨o,e,λv z=>by rw[d]at z;cases z⟩
 keep:=λi h h' st k=>st.at λo e=>k it (by simp) o e
 item:=by
  intro X hP hw hK hc i pins s σ H E I hf st hg;subst hP hw hK;obtain⟨xs,x,hq,hx⟩:=hg;obtain⟨its,rv,p,hz⟩:=I.list hq;obtain⟨u,hu,ru⟩:=rv.get hx;obtain⟨f0,f1,f2,f3,f4,f5⟩:=hf it (by simp);refine wpAny_pyNext_list_item st p.isList (x:=u) (by simpa using hu) λh' st' sb=>?_;have I1:Inv X pins σ H {s with heap:=h'}:=I.turned (t':=s.toks) (λb o hb e=>(sb.2 b hb).trans e) f0 f1 f3 f4 f5;obtain⟨o,e,c,d⟩:=id st';exact⟨u,rfl,Ls (s:={s with heap:=h'}) e c d (by decide) ⟨x,H,I1,ru,⟨rfl,λys hy=>by rw[I.list_inj hy hq];exact hx⟩,st',λb hb=>(hf b hb).1⟩⟩
 done:=by
  intro X hP hw hK hc i pins s σ H E I hf st hg;subst hP hw hK;obtain⟨xs,hq,hx⟩:=hg;obtain⟨its,rv,p,hz⟩:=I.list hq;obtain⟨f0,f1,f2,f3,f4,f5⟩:=hf it (by simp);have hl:=rv.length;exact wpAny_pyNext_list_end (I.ok.hd hc) st p.isList (by simp;omega) λh' eb=>⟨rfl,I.turned (t':=s.toks) (λb o hb e=>eb b o hb e) f0 f1 f3 f4 f5⟩
 self:=λ_ _ _ _ _ st h=>wpAny_pyIter_listiter st h
theorem DW{P:Program}{w:World}{K:PySem.W.Frag}{tg:Expr}(a it:Addr):Turn P w K tg (Itt K a) [it] it (λi h=>h.IsTupleIter it a i)where
 mem:=by simp
 obj:=λi h st b hb=>by
  have e:b=it:=by simpa using hb
  subst e;obtain⟨o,e,c,d⟩:=st;exact⟨o,e,λv z=>by rw[d]at z;cases z⟩
 keep:=λi h h' st k=>st.at λo e=>k it (by simp) o e
 item:=by
  intro X hP hw hK hc i pins s σ H E I hf st hg;subst hP hw hK;obtain⟨xs,x,hq,hx⟩:=hg;obtain⟨its,rv,p,hz⟩:=I.tuple hq;obtain⟨u,hu,ru⟩:=rv.get hx;obtain⟨f0,f1,f2,f3,f4,f5⟩:=hf it (by simp);refine wpAny_pyNext_tuple_item st (show s.heap.IsTuple a its.toArray from p) (x:=u) (by simpa using hu) λh' st' sb=>?_;have I1:Inv X pins σ H {s with heap:=h'}:=I.turned (t':=s.toks) (λb o hb e=>(sb.2 b hb).trans e) f0 f1 f3 f4 f5;obtain⟨o,e,c,d⟩:=id st';exact⟨u,rfl,Ls (s:={s with heap:=h'}) e c d (by decide) ⟨x,H,I1,ru,⟨rfl,λys hy=>by rw[I.tuple_inj hy hq];exact hx⟩,st',λb hb=>(hf b hb).1⟩⟩
 done:=by
  intro X hP hw hK hc i pins s σ H E I hf st hg;subst hP hw hK;obtain⟨xs,hq,hx⟩:=hg;obtain⟨its,rv,p,hz⟩:=I.tuple hq;obtain⟨f0,f1,f2,f3,f4,f5⟩:=hf it (by simp);have hl:=rv.length;exact wpAny_pyNext_tuple_end (I.ok.hd hc) st (show s.heap.IsTuple a its.toArray from p) (by simp;omega) λh' eb=>⟨rfl,I.turned (t':=s.toks) (λb o hb e=>eb b o hb e) f0 f1 f3 f4 f5⟩
 self:=λ_ _ _ _ _ st h=>wpAny_pyIter_tupleiter st h
theorem Eg{P:Program}{w:World}{K:PySem.W.Frag}{tg:Expr}(it:Addr)(lo:Int)(n:Nat):Turn P w K tg (Itr lo n) [it] it (λi h=>IsRangeIter h it (lo+(i:Nat)*1) ((n:Int)-(i:Nat)) 1)where
 mem:=by simp
 obj:=λi h st b hb=>by
  have e:b=it:=by simpa using hb
  subst e;exact⟨_,st,λv z=>by
   have z':Data.fields _=Data.cell v:=z;cases z'⟩
 keep:=λi h h' st k=>k it (by simp) _ st
 item:=by
  intro X hP hw hK hc i pins s σ H E I hf st hg;subst hP hw hK;obtain⟨f0,f1,f2,f3,f4,f5⟩:=hf it (by simp);have W:=Walks.range (prog:=X.prog) (w:=X.w) (I.ok.hd hc) it lo 1 n;refine W.item i s _ _ hg st λv h' tk hv st' kk=>?_;obtain⟨t,rfl⟩:=hv;have I1:Inv X pins σ H {s with heap:=h',toks:=tk}:=I.turned (λb o hb e=>kk b o (by simpa using hb) e) f0 f1 f3 f4 f5;refine⟨_,rfl,Ls (s:={s with heap:=h',toks:=tk}) (n:="range_iterator") st' rfl rfl (by decide) ⟨.int (lo+i),H,I1,⟨t,?_⟩,⟨rfl,rfl⟩,st',λb hb=>(hf b hb).1⟩⟩;rw[Int.mul_one]
 done:=by
  intro X hP hw hK hc i pins s σ H E I hf st hg;subst hP hw hK;obtain⟨f0,f1,f2,f3,f4,f5⟩:=hf it (by simp);exact wpAny_pyNext_range_end (I.ok.hd hc) st (by have:n<=i:=hg;omega) λh' eb=>⟨rfl,I.turned (t':=s.toks) (λb o hb e=>eb b o hb e) f0 f1 f3 f4 f5⟩
 self:=λ_ _ _ _ _ st h=>wpAny_pyIter_rangeiter st h
section
variable{X:Cx}{tg:Expr}
theorem JF{pins:List (Addr×Obj)}{σ:St}{H:Hp}{s:Shared}{R:It->Hp->Prop}{E:Value->Shared->Prop}{lo hi:Int}{t u v:Tok}{tk:Nat}(I:Inv X pins σ H s)(h1: -(2 ^ 62)<=lo)(h2:lo<2 ^ 62)(h3: -(2 ^ 62)<=hi)(h4:hi<2 ^ 62)
  (q:R (Itr lo (hi-lo).toNat) H):wpAny (model X.prog X.w) X.A (pyIter (.ref s.heap.objs.size)) (PIE X pins σ tg R) E {s with heap:=s.heap.push {cls:=.type "range",data:=.fields #[.int lo t,.int hi u,.int 1 v]},toks:=tk}:=by
 refine wpAny_pyIter_range (IsRange.new ..) (small_one h1 h2 h3 h4) ?_;have I1:Inv X pins σ H {s with heap:=s.heap.push {cls:=.type "range",data:=.fields #[.int lo t,.int hi u,.int 1 v]},toks:=tk}:=I.kept λb o e=>Heap.get?_push_of_some _ e;refine⟨(s.heap.push {cls:=.type "range",data:=.fields #[.int lo t,.int hi u,.int 1 v]}).objs.size,[(s.heap.push {cls:=.type "range",data:=.fields #[.int lo t,.int hi u,.int 1 v]}).objs.size],_,_,H,rfl,
  I1.kept (t':=tk) λb o e=>Heap.get?_push_of_some _ e,Eg _ lo (hi-lo).toNat,?_,λb hb=>?_,q⟩
 .have e1:lo+((0:Nat):Int)*1=lo:=by simp
  have e2:(((hi-lo).toNat:Nat):Int)-((0:Nat):Int)=Builtin.Range.rangeSize lo hi 1:=by rw[rangeSize_one];split<;>omega
  show IsRangeIter _ _ (lo+((0:Nat):Int)*1) ((((hi-lo).toNat:Nat):Int)-((0:Nat):Int)) 1;rw[e1,e2];exact Heap.get?_push_size _ rfl
 .have e:b=(s.heap.push {cls:=.type "range",data:=.fields #[.int lo t,.int hi u,.int 1 v]}).objs.size:=by simpa using hb
  subst e;exact I1.fpOk (Nat.le_refl _) (I1.hok.fresh (Nat.le_refl _))
def KC(ta:TA):TI:=λσ H R=>ta σ H λvs H1=>∃j:Int,vs=[.int j]/\-(2 ^ 62)<=j/\j<2 ^ 62/\R (Itr 0 j.toNat) H1
theorem yK{a:Expr}{ta:TA}{p pos:Pos}(hg:Gl X "range")(hm:X.mg "range"=none)(ha:PA X [a] ta)(hs:starEach [a] X.env=[(false,eval a X.env)]:=by rfl):PI X tg (.Call (.Name "range" p) [a] [] pos) (KC ta):=by
 intro pins s σ H R I h;refine Call_ (pZ I hg hm boot_range (PyProof.Rows.callWith_type1 (thn (ha pos pins s σ H _ I h) λus s1 ⟨vs,H1,I1,r1,q1⟩=>?_) hs rfl));obtain⟨j,e,q1,q2,q⟩:=q1;subst e;cases r1 with
 |cons r rr=>
  cases rr;obtain⟨t,rfl⟩:=r;exact call_range_1 (JF I1 (by omega) (by omega) q1 q2 (by simpa using q))
def RB(wi:TI)(g:TG)(tb:TS):TS:=λD σ H=>wi σ H λJ H1=>∃W:Nat->Nat->St->Hp->Prop,(∃m,W 0 m σ H1)/\∀i m σ H,W i m σ H->
 (J.stop i H/\D.nx σ H)∨(J.go i H/\∃N:St->Hp->Prop,(∀σ' H',N σ' H'->∃m',m'<m/\W (i+1) m' σ' H')/\∀x H',J.yld i H x H'->g x σ H' λσ2 H2=>tb {D with nx:=N,ct:=N,bk:=D.nx} σ2 H2)
def qt(fp:List Addr)(h:Heap):List (Addr×Obj):=fp.filterMap λb=>(h.get? b).map λo=>(b,o)
theorem il{fp:List Addr}{h:Heap}{b:Addr}{o:Obj}(hb:b∈fp)(e:h.get? b=some o):(b,o)∈qt fp h:=List.mem_filterMap.mpr ⟨b,hb,by rw[e];rfl⟩
theorem xW{fp:List Addr}{h:Heap}{p:Addr×Obj}(hp:p∈qt fp h):p.1∈fp/\h.get? p.1=some p.2:=by
 obtain⟨b,hb,e⟩:=List.mem_filterMap.mp hp;cases q:h.get? b with
 |none=>rw[q]at e;cases e
 |some o=>
  rw[q]at e;have e':(b,o)=p:=Option.some.inj e;subst e';exact⟨hb,q⟩
theorem Inv.pinned{pins:List (Addr×Obj)}{σ:St}{H:Hp}{s:Shared}{fp:List Addr}(I:Inv X pins σ H s)(hf:∀b∈fp,mL X pins H b)(ho:∀b∈fp,∃o,s.heap.get? b=some o/\∀v,o.data≠.cell v):Inv X (pins++qt fp s.heap) σ H s:=
 I.pins_of λp hp=>(List.mem_append.mp hp).elim (λz=>I.pin p (List.mem_append_right _ z)) λz=>by
  obtain⟨hb,e⟩:=xW z;obtain⟨f0,f1,f2,_⟩:=hf p.1 hb;obtain⟨o,e',d⟩:=ho p.1 hb;rw[e]at e';cases e';exact⟨e,f0,f1,f2,d⟩
theorem Inv.unpinned{pins pl:List (Addr×Obj)}{σ:St}{H:Hp}{s:Shared}(I:Inv X (pins++pl) σ H s):Inv X pins σ H s:=I.pins_of λp hp=>I.pin p (List.mem_append_right _ (List.mem_append_left _ hp))
theorem KD{iter:Expr}{body:List Stmt}{wi:TI}{g:TG}{tb:TS}{pos:Pos}(hp:PassesOwn (model X.prog X.w) X.A X.env X.xe)(hc:X.calm=true)(hi:PI X tg iter wi)(hg:PG X tg g)(hb:PSs X body tb)
  (hs:∀x,foldedSetIterable iter X.env x=pure x:=by intro _;rfl):PS X (.For tg iter body [] pos) (RB wi g tb):=by
 intro pins s σ H D I h;refine wpAny_For (thn (hi pins s σ H _ I h) λv s1 h1=>thn h1 λitv s2 h2=>?_) hs;obtain⟨it,fp,tn,J,H2,e,I2,T,st2,f2,W,⟨m0,w0⟩,turn⟩:=h2;subst e;have stat:∀{H':Hp},(∀b∈fp,H' b=none)->∀b∈fp,mL X pins H' b:=λhn b hb=>⟨hn b hb,(f2 b hb).2⟩;refine codeAny_forLoop_any (λn s'=>∃i σ' H',Inv X pins σ' H' s'/\tn i s'.heap/\(∀b∈fp,H' b=none)/\W i n σ' H') ?_ m0 ⟨0,σ,H2,I2,st2,λb hb=>(f2 b hb).1,w0⟩;rintro n s3 ⟨i,σ3,H3,I3,st3,fr3,w3⟩;rcases turn i n σ3 H3 w3 with⟨stop,qn⟩|⟨go,N,hN,step⟩
 .refine wpAny_passesOwn hp (thn (T.done X rfl rfl rfl hc i pins s3 σ3 H3 X.xe I3 (stat fr3) st3 stop) λr s4 ⟨hr,I4⟩=>?_)
  subst hr;exact wpAny_execs_nil ⟨σ3,H3,I4,qn⟩
 .refine wpAny_passesOwn hp (thn (T.item X rfl rfl rfl hc i pins s3 σ3 H3 X.xe I3 (stat fr3) st3 go) λr s4 ⟨u,hr,h4⟩=>?_)
  subst hr;refine wpAny_passesOwn hp (thn h4 λ_ s5 ⟨x,H5,I5,r5,y5,st5,fr5⟩=>?_);have I5':=I5.pinned (stat fr5) (T.obj _ _ st5);refine wpAny_passesOwn hp (thn (hg _ s5 σ3 H5 x u _ I5' r5 (step x H5 y5)) λ_ s6 ⟨σ6,H6,I6,q6⟩=>?_);refine wpAny_passesOwn hp (thn (hb _ s6 σ6 H6 _ I6 q6) λf s7 q7=>?_);have again:∀{σ7:St}{H7:Hp},Inv X (pins++qt fp s5.heap) σ7 H7 s7->N σ7 H7->∃m,m<n/\∃i σ' H',Inv X pins σ' H' s7/\tn i s7.heap/\(∀b∈fp,H' b=none)/\W i m σ' H':=λ{σ7 H7} I7 n7=>by
   obtain⟨m',hm,w7⟩:=hN σ7 H7 n7;refine⟨m',hm,i+1,σ7,H7,I7.unpinned,T.keep _ _ _ st5 λb hb o e=>(I7.pin (b,o) (List.mem_append_right _ (List.mem_append_right _ (il hb e)))).1,λb hb=>?_,w7⟩;obtain⟨o,e,d⟩:=T.obj _ _ st5 b hb;exact(I7.pin (b,o) (List.mem_append_right _ (List.mem_append_right _ (il hb e)))).2.1
  cases f with
  |next=>obtain⟨σ7,H7,I7,n7⟩:=q7;exact again I7 n7
  |cont=>obtain⟨σ7,H7,I7,n7⟩:=q7;exact again I7 n7
  |brk=>obtain⟨σ7,H7,I7,q7⟩:=q7;exact⟨σ7,H7,I7.unpinned,q7⟩
  |ret v=>obtain⟨x7,σ7,H7,I7,r7,q7⟩:=q7;exact⟨x7,σ7,H7,I7.unpinned,r7,q7⟩
end
abbrev R2:=V->V->Hp->VK->Prop
def OpR(X:Cx)(f:Value->Value->Sem Value)(r:R2):Prop:=
 ∀(pins:List (Addr×Obj))(s:Shared)(σ:St)(H:Hp)(x y:V)(v u:Value)(Q:VK),Inv X pins σ H s->RelV x v->RelV y u->r x y H Q->
  wpAny (model X.prog X.w) X.A (f v u) (EP X pins σ Q) X.xe s
def UnR(X:Cx)(f:Value->Sem Value)(r:V->Hp->VK->Prop):Prop:=
 ∀(pins:List (Addr×Obj))(s:Shared)(σ:St)(H:Hp)(x:V)(v:Value)(Q:VK),Inv X pins σ H s->RelV x v->r x H Q->
  wpAny (model X.prog X.w) X.A (f v) (EP X pins σ Q) X.xe s
def fD(X:Cx)(f:Value)(r:List V->Hp->VK->Prop):Prop:=
 ∀(pins:List (Addr×Obj))(s:Shared)(σ:St)(H:Hp)(xs:List V)(us:List Value)(Q:VK),Inv X pins σ H s->Vals xs us->r xs H Q->
  wpAny (model X.prog X.w) X.A (call f us) (EP X pins σ Q) X.xe s
def Vs(X:Cx)(r:V->Hp->(Bool->Hp->Prop)->Prop):Prop:=
 ∀(pins:List (Addr×Obj))(s:Shared)(σ:St)(H:Hp)(x:V)(v:Value)(Q:Bool->Hp->Prop),Inv X pins σ H s->RelV x v->r x H Q->
  wpAny (model X.prog X.w) X.A (truthy v) (TP X pins σ Q) X.xe s
def tOp(r:R2)(ta tb:TE):TE:=λσ H Q=>ta σ H λx H1=>tb σ H1 λy H2=>r x y H2 Q
def tUn(r:V->Hp->VK->Prop)(ta:TE):TE:=λσ H Q=>ta σ H λx H1=>r x H1 Q
def rI(C:Int->Int->Prop)(g:Int->Int->V):R2:=λx y H Q=>∃i j,x= .int i/\y= .int j/\C i j/\Q (g i j) H
def rI0(g:Int->Int->V):R2:=λx y H Q=>∃i j,x= .int i/\y= .int j/\Q (g i j) H
def rU(g:Int->V):V->Hp->VK->Prop:=λx H Q=>∃i,x= .int i/\Q (g i) H
section
variable{X:Cx}{a b c:Expr}{ta tb tc:TE}{pos:Pos}
theorem S_(ha:PE X a ta)(hb:PE X b tb){pins:List (Addr×Obj)}{s:Shared}{σ:St}{H:Hp}{R:V->V->Hp->Prop}(I:Inv X pins σ H s)
  (h:ta σ H λx H1=>tb σ H1 λy H2=>R x y H2) {Q:Value->Shared->Prop} {f:Value->Value->Sem Value}
  (hf:∀v u s2 x y H2,Inv X pins σ H2 s2->RelV x v->RelV y u->R x y H2->wpAny (model X.prog X.w) X.A (f v u) Q X.xe s2) :
  wpAny (model X.prog X.w) X.A (eval a X.env) (λv s₁=>wpAny (model X.prog X.w) X.A (eval b X.env) (λu s₂=>wpAny (model X.prog X.w) X.A (f v u) Q X.xe s₂) X.xe s₁) X.xe s:=by
 refine thn (ha pins s σ H _ I h) λv s1 ⟨x,H1,I1,r1,q1⟩=>?_;refine thn (hb pins s1 σ H1 _ I1 q1) λu s2 ⟨y,H2,I2,r2,q2⟩=>?_;exact hf v u s2 x y H2 I2 r1 r2 q2
theorem QC{op:Operator}{r:R2}(ho:OpR X (binaryOp op) r)(ha:PE X a ta)(hb:PE X b tb):PE X (.BinOp a op b pos) (tOp r ta tb):=by
 intro pins s σ H Q I h;exact wpAny_BinOp (S_ ha hb I h λv u s2 x y H2 I2 rx ry q=>ho pins s2 σ H2 x y v u Q I2 rx ry q)
theorem Vl{op:UnaryOp}{r:V->Hp->VK->Prop}(ho:UnR X (unaryOp op) r)(ha:PE X a ta):PE X (.UnaryOp op a pos) (tUn r ta):=by
 intro pins s σ H Q I h;exact UnaryOp_ (thn (ha pins s σ H _ I h) λv s1 ⟨x,H1,I1,r1,q1⟩=>ho pins s1 σ H1 x v Q I1 r1 q1)
theorem opI{f:Value->Value->Sem Value}{C:Int->Int->Prop}{g:Int->Int->Int}
  (rule:∀(i j:Int)(t u:Tok)(s:Shared)(Q:Value->Shared->Prop)(E:Value->Shared->Prop),C i j->Q (.int (g i j) s.toks) {s with toks:=s.toks+1}->wpAny (model X.prog X.w) X.A (f (.int i t) (.int j u)) Q E s) :
  OpR X f (rI C λi j=>.int (g i j)):=by
 intro pins s σ H x y v u Q I rx ry h;obtain⟨i,j,rfl,rfl,hc,q⟩:=h;obtain⟨t,rfl⟩:=rx;obtain⟨t',rfl⟩:=ry;exact rule i j t t' s _ _ hc ⟨.int (g i j),H,I.tok _,⟨_,rfl⟩,q⟩
theorem Va{f:Value->Value->Sem Value}{g:Int->Int->Int}
  (rule:∀(i j:Int)(t u:Tok)(s:Shared)(Q:Value->Shared->Prop)(E:Value->Shared->Prop),Q (.int (g i j) s.toks) {s with toks:=s.toks+1}->wpAny (model X.prog X.w) X.A (f (.int i t) (.int j u)) Q E s) :
  OpR X f (rI0 λi j=>.int (g i j)):=by
 intro pins s σ H x y v u Q I rx ry h;obtain⟨i,j,rfl,rfl,q⟩:=h;obtain⟨t,rfl⟩:=rx;obtain⟨t',rfl⟩:=ry;exact rule i j t t' s _ _ ⟨.int (g i j),H,I.tok _,⟨_,rfl⟩,q⟩
theorem M7{f:Value->Value->Sem Value}{g:Int->Int->Bool}
  (rule:∀(i j:Int)(t u:Tok)(s:Shared)(Q:Value->Shared->Prop)(E:Value->Shared->Prop),Q (.bool (g i j)) s->wpAny (model X.prog X.w) X.A (f (.int i t) (.int j u)) Q E s) :
  OpR X f (rI0 λi j=>.bl (g i j)):=by
 intro pins s σ H x y v u Q I rx ry h;obtain⟨i,j,rfl,rfl,q⟩:=h;obtain⟨t,rfl⟩:=rx;obtain⟨t',rfl⟩:=ry;exact rule i j t t' s _ _ ⟨.bl (g i j),H,I,rfl,q⟩
def VF(i j:Int):Prop:=0<=j/\j<=1000000/\i.natAbs<2 ^ 64
def Sg(i j:Int):Prop:=(-(2 ^ 64)<i/\i<2 ^ 64)∨(-(2 ^ 64)<j/\j<2 ^ 64)
theorem Sg.ok{i j:Int}(h:Sg i j):IntMulOk i j:=by
 rcases h with⟨h1,h2⟩|⟨h1,h2⟩
 .exact .of_left (intBits_le_64 h1 h2)
 .exact .of_right (intBits_le_64 h1 h2)
theorem Tf:OpR X (binaryOp .Add) (rI0 λi j=>.int (i+j)):=Va λ_ _ _ _ _ _ _ q=>add_int q
theorem Q8:OpR X (binaryOp .Sub) (rI0 λi j=>.int (i-j)):=Va λ_ _ _ _ _ _ _ q=>sub_int q
theorem SN:OpR X (binaryOp .Mult) (rI Sg λi j=>.int (i*j)):=opI λ_ _ _ _ _ _ _ hc q=>mul_int q hc.ok
theorem RK:OpR X (binaryOp .Mod) (rI (λ_ j=>0<j) λi j=>.int (i % j)):=opI λi j _ _ _ _ _ hc q=>by
 have h1:(0:Int)<j:=hc;exact mod_int' (by omega) (by rw[Int.fmod_eq_emod_of_nonneg i (by omega)];exact q)
theorem S9:OpR X (binaryOp .Pow) (rI VF λi j=>.int (i ^ j.toNat)):=opI λ_ _ _ _ _ _ _ hc q=>pow_int_small hc.1 hc.2.1 hc.2.2 q
theorem unI{f:Value->Sem Value}{g:Int->Int}
  (rule:∀(i:Int)(t:Tok)(s:Shared)(Q:Value->Shared->Prop)(E:Value->Shared->Prop),Q (.int (g i) s.toks) {s with toks:=s.toks+1}->wpAny (model X.prog X.w) X.A (f (.int i t)) Q E s) :
  UnR X f (rU λi=>.int (g i)):=by
 intro pins s σ H x v Q I rx h;obtain⟨i,rfl,q⟩:=h;obtain⟨t,rfl⟩:=rx;exact rule i t s _ _ ⟨.int (g i),H,I.tok _,⟨_,rfl⟩,q⟩
theorem RW:UnR X (unaryOp .USub) (rU λi=>.int (-i)):=unI λ_ _ _ _ _ q=>neg_int q
end
section
variable{X:Cx}{a b c:Expr}{ta tb tc:TE}{pos:Pos}
theorem DK{pins:List (Addr×Obj)}{σ:St}{H:Hp}{s:Shared}{Q:VK}{k k':Bool}(I:Inv X pins σ H s)(q:Q (.bl k) H)(e:k=k'):EP X pins σ Q (.bool k') s:=by
 subst e;exact⟨.bl k,H,I,rfl,q⟩
theorem U6:OpR X (compareOp .Lt) (rI0 λi j=>.bl (decide (i<j))):=M7 λ_ _ _ _ _ _ _ q=>lt_int q
theorem Tu:OpR X (compareOp .LtE) (rI0 λi j=>.bl (decide (i<=j))):=M7 λ_ _ _ _ _ _ _ q=>le_int q
theorem TJ:OpR X (compareOp .Gt) (rI0 λi j=>.bl (decide (j<i))):=M7 λ_ _ _ _ _ _ _ q=>gt_int q
theorem Uk:OpR X (compareOp .GtE) (rI0 λi j=>.bl (decide (j<=i))):=M7 λ_ _ _ _ _ _ _ q=>ge_int q
theorem GQ:OpR X (compareOp .Lt) (λx y H Q=>∃i j,x= .str i/\y= .str j/\Q (.bl (decide (i.cps.toList<j.cps.toList))) H):=by
 intro pins s σ H x y v u Q I rx ry h;obtain⟨i,j,rfl,rfl,q⟩:=h;obtain⟨t,rfl⟩:=rx;obtain⟨t',rfl⟩:=ry;exact lt_str (DK I q rfl)
theorem G6:OpR X (compareOp .In) (λx y H Q=>∃i j,x= .str i/\y= .str j/\Q (.bl (!(Builtin.Str.occurrences j i 0 j.length 1).isEmpty)) H):=by
 intro pins s σ H x y v u Q I rx ry h;obtain⟨i,j,rfl,rfl,q⟩:=h;obtain⟨t,rfl⟩:=rx;obtain⟨t',rfl⟩:=ry;exact in_str (DK I q rfl)
theorem M6:OpR X (compareOp .IsNot) (λx y H Q=>y= .non/\Q (.bl (!decide (x= .non))) H):=by
 intro pins s σ H x y v u Q I rx ry h;obtain⟨rfl,q⟩:=h;cases ry;refine isnot_none_gen (DK I q ?_);cases x<;>first
  |(cases rx;rfl)
  |(obtain⟨t,rfl⟩:=rx;rfl)
theorem Fp{op:CmpOp}{r:R2}(ho:OpR X (compareOp op) r)(ha:PE X a ta)(hb:PE X b tb)(hm:behindInMarks op b=false):PE X (.Compare a [op] [b] pos) (tOp r ta tb):=by
 intro pins s σ H Q I h;exact wpAny_Compare1 (S_ ha hb I h λv u s2 x y H2 I2 rx ry q=>ho pins s2 σ H2 x y v u Q I2 rx ry q) hm
def FN(t:TE):TT:=λσ H Q=>t σ H λx H'=>∃k,x= .bl k/\Q k H'
theorem Fx{op:CmpOp}{r:R2}(ho:OpR X (compareOp op) r)(ha:PE X a ta)(hb:PE X b tb)(hm:behindInMarks op b=false):PT X (.Compare a [op] [b] pos) (FN (tOp r ta tb)):=by
 intro pins s σ H Q I h;refine wpAny_isTrue_Compare1 (thn (ha pins s σ H _ I h) λv s1 ⟨x,H1,I1,r1,q1⟩=>thn (hb pins s1 σ H1 _ I1 q1) λu s2 ⟨y,H2,I2,r2,q2⟩=>
  thn (ho pins s2 σ H2 x y v u _ I2 r1 r2 q2) λc s3 ⟨z,H3,I3,r3,k,e,q3⟩=>?_) hm
 subst e;cases r3;exact wpAny_truthy_bool ⟨H3,I3,q3⟩
def Di(r r':R2)(ta tb tc:TE):TE:=λσ H Q=>ta σ H λx H1=>tb σ H1 λy H2=>r x y H2 λz H3=>∃k,z= .bl k/\
 (if k=true then tc σ H3 λw' H4=>r' y w' H4 Q else Q (.bl false) H3)
theorem JN{op op':CmpOp}{r r':R2}(ho:OpR X (compareOp op) r)(ho':OpR X (compareOp op') r')(ha:PE X a ta)(hb:PE X b tb)(hc:PE X c tc)
  (hm:lastMarks [op,op'] [b,c]=false:=by with_unfolding_all rfl):PE X (.Compare a [op,op'] [b,c] pos) (Di r r' ta tb tc):=by
 intro pins s σ H Q I h;refine Compare_chain (thn (ha pins s σ H _ I h) λv s1 ⟨x,H1,I1,r1,q1⟩=>chain_link (thn (hb pins s1 σ H1 _ I1 q1) λu s2 ⟨y,H2,I2,r2,q2⟩=>
  thn (ho pins s2 σ H2 x y v u _ I2 r1 r2 q2) λd s3 ⟨z,H3,I3,r3,k,e,q3⟩=>?_)) hm
 subst e;cases r3;refine wpAny_truthy_bool ?_;cases k with
 |false=>exact ite_ff ⟨.bl false,H3,I3,rfl,q3⟩
 |true=>exact ite_tt (chain_last (thn (hc pins s3 σ H3 _ I3 q3) λw' s4 ⟨z',H4,I4,r4,q4⟩=>ho' pins s4 σ H4 y z' u w' Q I4 r2 r4 q4))
theorem LQ{op op':CmpOp}{r r':R2}(ho:OpR X (compareOp op) r)(ho':OpR X (compareOp op') r')(ha:PE X a ta)(hb:PE X b tb)(hc:PE X c tc)
  (hm:lastMarks [op,op'] [b,c]=false:=by with_unfolding_all rfl):PT X (.Compare a [op,op'] [b,c] pos) (FN (Di r r' ta tb tc)):=by
 intro pins s σ H Q I h;refine isTrue_chain (thn (ha pins s σ H _ I h) λv s1 ⟨x,H1,I1,r1,q1⟩=>test_link (thn (hb pins s1 σ H1 _ I1 q1) λu s2 ⟨y,H2,I2,r2,q2⟩=>
  thn (ho pins s2 σ H2 x y v u _ I2 r1 r2 q2) λd s3 ⟨z,H3,I3,r3,k,e,q3⟩=>?_)) hm
 subst e;cases r3;refine wpAny_truthy_bool ?_;cases k with
 |false=>
  obtain⟨k',e',q'⟩:=q3;cases e';exact ite_ff ⟨H3,I3,q'⟩
 |true=>
  refine ite_tt (test_last (thn (hc pins s3 σ H3 _ I3 q3) λw' s4 ⟨z',H4,I4,r4,q4⟩=>thn (ho' pins s4 σ H4 y z' u w' _ I4 r2 r4 q4) λd' s5 ⟨z2,H5,I5,r5,k2,e2,q5⟩=>?_));subst e2;cases r5;exact wpAny_truthy_bool ⟨H5,I5,q5⟩
def Ik(K:PySem.W.Frag)(x:V)(H:Hp)(k:Bool):Prop:=
 match x with
 |.non=>k=false
 |.bl b=>k=b
 |.int i=>k=(i !=0)
 |.str y=>y.length<=sizeLine/\k=((y.length:Int)!=0)
 |.byt y=>y.size<=sizeLine/\k=((y.size:Int)!=0)
 |.ref p=>(∃xs,SqL K H p xs/\k= !xs.isEmpty)∨(∃xs,SqT K H p xs/\k= !xs.isEmpty)∨∃kvs,H p=some (.dK kvs)/\k= !kvs.isEmpty
 |_=>False
theorem Dk{κ:Type}{kvs:List (κ×V)}{vs:List (κ×Value)}(r:KV kvs vs):(!vs.isEmpty)= !kvs.isEmpty:=by
 cases r<;>rfl
theorem v_{xs:List V}{its:List Value}(r:Vals xs its):(!its.toArray.isEmpty)= !xs.isEmpty:=by
 cases r<;>simp
theorem qj:(sizeLine:Nat)<2 ^ 63:=by rw[sizeLine_eq];decide
theorem Rr:Vs X (λx H Q=>∃k,Ik X.K x H k/\Q k H):=by
 intro pins s σ H x v Q I rx h;obtain⟨k,e,q⟩:=h;have hl:=qj;have hs:sizeLine=16777216:=sizeLine_eq;cases x with
 |non=>
  cases rx;have e':k=false:=e;subst e';exact truthy_none ⟨H,I,q⟩
 |bl b=>
  cases rx;have e':k=b:=e;subst e';exact wpAny_truthy_bool ⟨H,I,q⟩
 |int i=>
  obtain⟨t,rfl⟩:=rx;have e':k=(i !=0):=e;subst e';exact PySem.P.truthy_int ⟨H,I,q⟩
 |str y=>
  obtain⟨t,rfl⟩:=rx;obtain⟨hy,e'⟩:y.length<=sizeLine/\k=((y.length:Int)!=0):=e;subst e';exact PySem.P.truthy_str (by omega) ⟨H,I.tok _,q⟩
 |byt y=>
  obtain⟨t,rfl⟩:=rx;obtain⟨hy,e'⟩:y.size<=sizeLine/\k=((y.size:Int)!=0):=e;subst e';exact PySem.W.truthy_bytes (by omega) ⟨H,I.tok _,q⟩
 |ref p=>
  cases rx;have e':(∃xs,SqL X.K H p xs/\k= !xs.isEmpty)∨(∃xs,SqT X.K H p xs/\k= !xs.isEmpty)∨∃kvs,H p=some (.dK kvs)/\k= !kvs.isEmpty:=e;rcases e' with⟨xs,hx,e'⟩|⟨xs,hx,e'⟩|⟨kvs,hx,e'⟩
  .subst e'
   obtain⟨its,r,pl,hz⟩:=I.list hx;have hlen:=r.length;exact wpAny_truthy_list pl.isList (by simp only[List.size_toArray];omega) ⟨H,I.tok _,by rw[v_ r];exact q⟩
  .subst e'
   obtain⟨its,r,pl,hz⟩:=I.tuple hx;have hlen:=r.length;exact truthy_tuple pl (by simp only[List.size_toArray];omega) ⟨H,I.tok _,by rw[v_ r];exact q⟩
  .subst e'
   obtain⟨hz,hS,vs,r,m⟩:kvs.length<=sizeLine/\(p==sysModules)=false/\∃vs,KV kvs vs/\s.heap.DictOf (bL X.prog X.w) p vs:=I.hok p _ hx;have hlen:kvs.length=vs.length:=Paired.length r;exact wpAny_truthy_dict hS m (by omega) ⟨H,I.tok _,by rw[Dk r];exact q⟩
 |_=>exact(show False from e).elim
theorem Cg(ha:PE X a ta)(he:∀whole,isTrue a X.env whole=(do let v ←whole;standAt a.pos;holding [v] (truthy v))) :
  PT X a (λσ H Q=>ta σ H λx H'=>∃k,Ik X.K x H' k/\Q k H'):=by
 intro pins s σ H Q I h;exact isTrue_plain (thn (ha pins s σ H _ I h) λv s1 ⟨x,H1,I1,r1,q1⟩=>Rr pins s1 σ H1 x v Q I1 r1 q1) (he _)
theorem C_:OpR X (binaryOp .Add) (λx y H Q=>∃i j,x= .str i/\y= .str j/\i.length+j.length<=sizeLine/\Q (.str (i++j)) H):=by
 intro pins s σ H x y v u Q I rx ry h;obtain⟨i,j,rfl,rfl,hz,q⟩:=h;obtain⟨t,rfl⟩:=rx;obtain⟨t',rfl⟩:=ry;exact add_str (λt' tk=>⟨.str (i++j),H,I.tok _,⟨_,rfl⟩,q⟩) hz
theorem vals1{x:V}{us:List Value}(r:Vals [x] us):∃u,us=[u]/\RelV x u:=by
 cases r with
 |cons r1 r2=>cases r2;exact⟨_,rfl,r1⟩
theorem vals2{x y:V}{us:List Value}(r:Vals [x,y] us):∃u w',us=[u,w']/\RelV x u/\RelV y w':=by
 cases r with
 |cons r1 r2=>
  cases r2 with
  |cons r3 r4=>cases r4;exact⟨_,_,rfl,r1,r3⟩
theorem KN:fD X (.builtin "abs") (λxs H Q=>∃i,xs=[.int i]/\Q (.int (if i<0 then -i else i)) H):=by
 intro pins s σ H xs us Q I r h;obtain⟨i,rfl,q⟩:=h;obtain⟨u,rfl,t,rfl⟩:=vals1 r;exact call_abs_int λu tk=>⟨.int (if i<0 then -i else i),H,I.tok _,⟨_,rfl⟩,q⟩
theorem Hs(hc:X.calm=true):fD X (.builtin "min") (λxs H Q=>∃i j,xs=[.int i,.int j]/\Q (.int (if j<i then j else i)) H):=by
 intro pins s σ H xs us Q I r h;obtain⟨i,j,rfl,q⟩:=h;obtain⟨u,w',rfl,⟨t,rfl⟩,⟨t',rfl⟩⟩:=vals2 r;refine min_two_ints (I.ok.hd hc) λh' tk k=>⟨_,H,I.kept k,?_,q⟩;by_cases hj:j<i
 .rw[if_pos hj,if_pos hj];exact⟨_,rfl⟩
 .rw[if_neg hj,if_neg hj];exact⟨_,rfl⟩
theorem HQ:fD X (.type "int") (λxs H Q=>(∃i,xs=[.int i]/\Q (.int i) H)∨∃k,xs=[.bl k]/\Q (.int (if k then 1 else 0)) H):=by
 intro pins s σ H xs us Q I r h;rcases h with⟨i,rfl,q⟩|⟨k,rfl,q⟩
 .obtain⟨u,rfl,t,rfl⟩:=vals1 r
  exact call_int_int ⟨.int i,H,I,⟨_,rfl⟩,q⟩
 .obtain⟨u,rfl,r1⟩:=vals1 r
  cases r1;exact call_int_bool ⟨.int (if k then 1 else 0),H,I.tok _,⟨_,rfl⟩,q⟩
theorem zX:fD X (.type "str") (λxs H Q=>∃i,xs=[.int i]/\i.natAbs.log2<1920/\Q (.str (toString i)) H):=by
 intro pins s σ H xs us Q I r h;obtain⟨i,rfl,hz,q⟩:=h;obtain⟨u,rfl,t,rfl⟩:=vals1 r;exact PySem.P.str_of_int hz ⟨.str _,H,I.tok _,⟨_,rfl⟩,q⟩
end
structure Q_(h:Heap)(x dx C:Addr)(mA:Str->Option Value):Prop where
 obj:h.get? x=some (PySem.W.instObj C dx)
 ns:h.Ns1 dx mA
 ne:dx≠x
theorem Hb{h:Heap}{dx:Addr}{mA:Str->Option Value}(n:h.Ns1 dx mA):∃od,h.get? dx=some od/\∀name,PySem.W.lookIn name od=some (mA name):=by
 obtain⟨o,es,ep,ho,hd,hk,_,hm⟩:=n;refine⟨o,ho,λname=>?_⟩;have e:=hm name;unfold nsFind findBy at e;rw[←Array.find?_toList]at e;unfold PySem.W.lookIn;rw[hd];dsimp only;split
 .rename_i y q
  rw[q]at e;exact congrArg some e
 .rename_i q
  rw[q]at e;have a:es.toList.any (·.refKey)=false:=by
   rw[List.any_eq_false];intro y hy;obtain⟨z,t,hkey⟩:=hk y (Array.mem_toList_iff.mp hy);simp[DictEntry.refKey,hkey]
  have a':¬es.toList.any (·.refKey)=true:=by rw[a];exact Bool.false_ne_true
  rw[if_neg a'];exact congrArg some e
theorem Q_.look{h:Heap}{x dx C:Addr}{mA:Str->Option Value}(I:Q_ h x dx C mA):∃od,PySem.W.InstAt h x (PySem.W.instObj C dx) C (some od)/\∀name,PySem.W.lookIn name od=some (mA name):=
 let⟨od,ho,hl⟩:=Hb I.ns
 ⟨od,⟨I.obj,rfl,rfl,ho⟩,hl⟩
theorem sS.some_of{v:V}{o:Option Value}(r:sS (some v) o):∃u,o=some u/\RelV v u:=by
 cases o with
 |none=>exact(show False from r).elim
 |some u=>exact⟨u,rfl,r⟩
section
variable{P:Program}{w:World}{H H':Hp}{h h':Heap}{a C dx:Addr}{fs fs':List (Str×V)}
theorem Fo(hok:HOk P w H h)(e:H a=some (.ins C dx fs)):∃mA,Q_ h a dx C mA/\(∀f,sS (fs.lookup f) (mA f))/\PySem.Within mA (fs.map (·.1))/\fs.length<=1000/\H dx=some (.own a):=by
 obtain⟨d,z,ne,ob,mA,n,r,q⟩:=(show cR P w H h a (.ins C dx fs)from hok a _ e);exact⟨mA,⟨ob,n,ne⟩,r,q,z,d⟩
end
structure Cls(K:PySem.W.Frag)(C:Addr):Prop where
 pg:PySem.W.plainGet K C Str.empty=true
 hd:PySem.W.hasDictIn K C=true
 po:PySem.W.plainOver K C=true
 sa:PySem.W.findIn K (.ref C) "__setattr__"=some (some (.builtin "object.__setattr__"))
theorem Cls.get{K:PySem.W.Frag}{C:Addr}(c:Cls K C)(f:Str):PySem.W.plainGet K C f=true:=c.pg
section
variable{X:Cx}{pins:List (Addr×Obj)}{σ:St}{H:Hp}{s:Shared}{A:Around}{E:Value->Shared->Prop}{Q:Value->Shared->Prop}{c:Value}{b:Bool}
inductive nu(K:PySem.W.Frag)(H:Hp):V->Value->Prop where
 |non:nu K H .non (.type "NoneType")
 |bl (x:Bool):nu K H (.bl x) (.type "bool")
 |int (i:Int):nu K H (.int i) (.type "int")
 |str (x:Str):nu K H (.str x) (.type "str")
 |flt (x:UInt64):nu K H (.flt x) (.type "float")
 |lst {a:Addr} {xs:List V} (e:H a=some (.lst xs)):nu K H (.ref a) (.type "list")
 |frz {a:Addr} {o:Obj} {xs:List V} (e:H a=some (.frz o (.lst xs))):nu K H (.ref a) (.type "list")
 |tup {a:Addr} {xs:List V} (e:H a=some (.tup xs)):nu K H (.ref a) (.type "tuple")
 |dK {a:Addr} {kvs:List (Key×V)} (e:H a=some (.dK kvs)):nu K H (.ref a) (.type "dict")
 |dT {a:Addr} {kvs:List (List Key×V)} (e:H a=some (.dT kvs)):nu K H (.ref a) (.type "dict")
 |ins {a C dx:Addr} {fs:List (Str×V)} (e:H a=some (.ins C dx fs)) (cl:Cls K C) (ha:PySem.W.findIn K (.ref C) "__class__"=some (some (.builtin "object.__class__")))
  (hn:PySem.W.specialIn K (.builtin "object.__class__") "__get__"=some (some (.builtin "getset_descriptor.__get__"))) (htk:PySem.W.takesIn K (.builtin "object.__class__")=some true)
  (hm:PySem.W.mroIn K C (.type "object")=some true):nu K H (.ref a) (.ref C)
theorem GJ{x:V}{u t:Value}(I:Inv X pins σ H s)(rx:RelV x u)(ty:nu X.K H x t)(e:PySem.W.kitOne X.K t c=some b)(h:∀tk,Q (.bool b) {s with toks:=tk}) :
  wpAny (model X.prog X.w) A (call (.builtin "isinstance") [u,c]) Q E s:=by
 cases ty with
 |non=>cases (show u=Value.none from rx);exact PySem.W.kia_one PySem.W.kitx_none I.kIn True.intro e (λz=>nomatch z) h
 |bl y=>cases (show u=Value.bool y from rx);exact PySem.W.kia_one PySem.W.kitx_bool I.kIn True.intro e (λz=>nomatch z) h
 |int i=>obtain⟨t,q⟩:=(show ∃t,u=Value.int i t from rx);cases q;exact PySem.W.kia_one PySem.W.kitx_int I.kIn True.intro e (λz=>nomatch z) h
 |str y=>obtain⟨t,q⟩:=(show ∃t,u=Value.str y t from rx);cases q;exact PySem.W.kia_one PySem.W.kitx_str I.kIn True.intro e (λz=>nomatch z) h
 |flt y=>obtain⟨t,q⟩:=(show ∃t,u=Value.float y t from rx);cases q;exact PySem.W.kia_one PySem.W.kitx_float I.kIn True.intro e (λz=>nomatch z) h
 |@lst a xs ea=>
  cases (show u=Value.ref a from rx);obtain⟨_,_,n,_,h1⟩:=(show cR X.prog X.w H s.heap a (.lst xs)from I.hok a _ ea);exact PySem.W.kia_one PySem.W.kitx_list I.kIn ⟨_,h1,rfl⟩ e (λz=>nomatch z) h
 |@frz a ob xs ea=>
  cases (show u=Value.ref a from rx);obtain⟨_,_,_,n,_,h1⟩:=(show cR X.prog X.w H s.heap a (.frz ob (.lst xs))from I.hok a _ ea);exact PySem.W.kia_one PySem.W.kitx_list I.kIn ⟨_,h1,rfl⟩ e (λz=>nomatch z) h
 |@tup a xs ea=>
  cases (show u=Value.ref a from rx);obtain⟨_,_,_,p⟩:=(show cR X.prog X.w H s.heap a (.tup xs)from I.hok a _ ea);obtain⟨o,h1,h2,_⟩:=p;exact PySem.W.kia_one PySem.W.kitx_tuple I.kIn ⟨o,h1,h2⟩ e (λz=>nomatch z) h
 |@dK a kvs ea=>
  cases (show u=Value.ref a from rx);obtain⟨_,_,vs,_,p⟩:=(show cR X.prog X.w H s.heap a (.dK kvs)from I.hok a _ ea);obtain⟨o,es,ep,h1,h2,_⟩:=p;exact PySem.W.kia_one PySem.W.kitx_dict I.kIn ⟨o,h1,h2.1⟩ e (λz=>nomatch z) h
 |@dT a kvs ea=>
  cases (show u=Value.ref a from rx);obtain⟨_,_,xs,_,o,es,ep,h1,h2,_⟩:=(show cR X.prog X.w H s.heap a (.dT kvs)from I.hok a _ ea);exact PySem.W.kia_one PySem.W.kitx_dict I.kIn ⟨o,h1,h2.1⟩ e (λz=>nomatch z) h
 |@ins a C dx fs ea cl ha hn htk hm=>
  cases (show u=Value.ref a from rx);obtain⟨mA,O,_⟩:=Fo I.hok ea;obtain⟨od,J,_⟩:=O.look;exact PySem.W.kia_one (PySem.W.kitx_own (cl.get _) cl.hd ha hn htk hm) I.kIn J e (λz=>nomatch z) h
end
structure jK(k:Nat)(A:Around):Prop where
 hd:A.handled=none
 dp:A.depth+3*k+5<recursionLimit
 un:A.units+16*k+200<cLine
 gd:A.guards=some []
theorem jK.mono{j k:Nat}{A:Around}(r:jK k A)(h:j<=k):jK j A:=⟨r.hd,by have:=r.dp;omega,by have:=r.un;omega,r.gd⟩
theorem jK.deeper{k:Nat}{A:Around}(r:jK (k+1) A)(env:Env):jK k (A.deeper env):=
 ⟨r.hd,by have:=r.dp;show A.depth+1+3*k+5<_;omega,by have:=r.un;show A.units+3+16*k+200<_;omega,r.gd⟩
theorem jK.depth{k:Nat}{A:Around}(r:jK k A):A.depth<recursionLimit:=by have:=r.dp;omega
theorem jK.units{k:Nat}{A:Around}(r:jK k A):A.units+64<cLine:=by have:=r.un;omega
def Uh:TA:=λ_ H Q=>Q [] H
def Kc(ta:TE)(tr:TA):TA:=λσ H Q=>ta σ H λx H1=>tr σ H1 λxs H2=>Q (x::xs) H2
section
variable{X:Cx}{e:Expr}{es:List Expr}{te:TE}{t:TA}{pos:Pos}
theorem Ry:PA X [] Uh:=λ_ _ _ _ H Q I h=>Calls.spliced_nil ⟨[],H,I,.nil,h⟩
theorem zA(ha:PE X e te)(hr:PA X es t)(hs:starEach (e::es) X.env=(false,eval e X.env)::starEach es X.env:=by rfl):PA X (e::es) (Kc te t):=by
 intro pos pins s σ H Q I h;rw[hs];show wpAny _ _ (spliced ((false,eval e X.env)::backTo pos (starEach es X.env))) _ _ s;refine Calls.spliced_cons (thn (ha pins s σ H _ I h) λu s1 ⟨x,H1,I1,r1,q1⟩=>?_);exact thn (hr pos pins s1 σ H1 _ I1 q1) λus s2 ⟨xs,H2,I2,r2,q2⟩=>⟨x::xs,H2,I2,.cons r1 r2,q2⟩
def V1(t:TA):TE:=λσ H Q=>t σ H λxs H1=>xs.length<=sizeLine/\∀p,H1 p=none->Q (.ref p) (upd H1 p (.tup xs))
def Vx(t:TA):TE:=λσ H Q=>t σ H λxs H1=>xs.length<=sizeLine/\∀p,H1 p=none->Q (.ref p) (upd H1 p (.lst xs))
theorem Jh{x1}(h:PA X es t):PE X (.Tuple es x1 pos) (V1 t):=by
 intro pins s σ H Q I hq;refine wpAny_Tuple_spliced (thn (h pos pins s σ H _ I hq) λus s1 ⟨xs,H1,I1,r,z,q⟩=>⟨by rw[←r.length];exact z,?_⟩);have hf:H1 s1.heap.objs.size=none:=I1.hok.fresh (Nat.le_refl _);refine⟨.ref s1.heap.objs.size,upd H1 s1.heap.objs.size (.tup xs),I1.laid (t':=s1.toks) (λb u e=>Heap.get?_push_of_some _ e) (Nat.le_refl _) ?_,rfl,q _ hf⟩;exact⟨z,us,r,⟨_,Heap.get?_push_size _ rfl,rfl,_,rfl⟩⟩
theorem Kh(h:PA X es t):PE X (.List es pos) (Vx t):=by
 intro pins s σ H Q I hq;refine wpAny_List_spliced (thn (h pos pins s σ H _ I hq) λus s1 ⟨xs,H1,I1,r,z,q⟩=>⟨by rw[←r.length];exact z,?_⟩);have hf:H1 s1.heap.objs.size=none:=I1.hok.fresh (Nat.le_refl _);refine⟨.ref s1.heap.objs.size,upd H1 s1.heap.objs.size (.lst xs),I1.laid (t':=s1.toks) (λb u e=>Heap.get?_push_of_some _ e) (Nat.le_refl _) ?_,rfl,q _ hf⟩;exact⟨z,us,0,r,Heap.get?_push_size _ rfl⟩
end
abbrev Sp:=List V->Hp->VK->XK->Prop
abbrev CXT:=List Env->Hp->Shared->XK->Value->Shared->Prop
structure Nq(P:Program)(w:World)(K:PySem.W.Frag)(mg:Str->Option Value)(base:Heap)(A:Around)(outer:List Env)(s:Shared)(H:Hp):Prop where
 frames:A.frames=some outer
 mod:Mod K mg base
 bs:∀b o,base.get? b=some o->s.heap.get? b=some o/\H b=none
 bsz:base.objs.size<=s.heap.objs.size
 funs:s.heap.FunFrames base outer
 frf:∀b∈frs outer,H b=none
 hok:HOk P w H s.heap
 bare:AllBare s.gens
def CE(outer:List Env)(P:Program)(w:World)(H:Hp)(s:Shared)(Q:VK)(u:Value)(s':Shared):Prop:=
 ∃v H',s'.os=s.os/\AllBare s'.gens/\Un (frs outer) [] H H' s.heap s'.heap/\HOk P w H' s'.heap/\RelV v u/\Q v H'
def CR(CX:CXT)(outer:List Env)(P:Program)(w:World)(H:Hp)(s:Shared)(Q:VK)(E:XK)(r:Result)(s':Shared):Prop:=
 match r with
 |.ok (.ret u)=>CE outer P w H s Q u s'
 |.ok _=>False
 |.error e=>CX outer H s E e s'
structure fj(P:Program)(w:World)(K:PySem.W.Frag)(mg:Str->Option Value)(base:Heap)(CX:CXT)(k:Nat)(f:Addr)(fd:FuncData)(ps:List Str)(sp:Sp):Prop where
 len:∀vs H Q E,sp vs H Q E->vs.length=ps.length
 run:∀(A:Around)(outer:List Env)(s:Shared)(H:Hp)(args:Args)(us:List Value)(vs:List V)(Q:VK)(E:XK),jK k A->Nq P w K mg base A outer s H->BindsTo s fd args (ps.zip us)->Vals vs us->sp vs H Q E->
  codeAny (model P w) A (.call (.ref f) args) (CR CX outer P w H s Q E) s
theorem fj.imp{P:Program}{w:World}{K:PySem.W.Frag}{mg:Str->Option Value}{base:Heap}{CX:CXT}{k:Nat}{f:Addr}{fd:FuncData}{ps:List Str}{sp sp':Sp}(F:fj P w K mg base CX k f fd ps sp)
  (h:∀vs H Q E,sp' vs H Q E->sp vs H Q E):fj P w K mg base CX k f fd ps sp':=
 ⟨λvs H Q E q=>F.len vs H Q E (h _ _ _ _ q),λA outer s H args us vs Q E hr he hb hv hs=>F.run A outer s H args us vs Q E hr he hb hv (h _ _ _ _ hs)⟩
section
variable{X:Cx}{pins:List (Addr×Obj)}{σ:St}{H:Hp}{s s':Shared}
theorem Inv.env0(I:Inv X pins σ H s):Nq X.prog X.w X.K X.mg X.base X.A X.stack s H:=
 ⟨I.ok.frames,I.ok.mod,I.bs,Nat.le_trans I.ok.bsz I.sz,I.stack,I.stkFree,I.hok,I.bare⟩
theorem Inv.after{Q:VK}{u:Value}(I:Inv X pins σ H s)(h:CE X.stack X.prog X.w H s Q u s'):EP X pins σ Q u s':=by
 obtain⟨v,H',os,bare,un,hok,r,q⟩:=h;obtain⟨hh,g,d,t,os'⟩:=s';obtain rfl:os'=s.os:=os;exact⟨v,H',I.call (h':=hh) (g':=g) (d':=d) (t':=t) (ch:=[]) un hok bare (λb z=>absurd z (by simp)),r,q⟩
end
def Qq(sp:Sp)(dvs:List V)(E:XK)(t:TA):TE:=λσ H Q=>t σ H λvs H1=>sp (vs++dvs) H1 Q E
def Binds(K:PySem.W.Frag)(fd:FuncData)(ps:List Str)(ds:List Value):Prop:=
 ∀(s:Shared)(us:List Value),K.In s.heap->(us++ds).length=ps.length->BindsTo s fd ⟨us,[]⟩ (ps.zip (us++ds))
theorem Binds.all{K:PySem.W.Frag}{fd:FuncData}{ps:List Str}(h:∀us:List Value,us.length=ps.length->bindArgs fd ⟨us,[]⟩=pure (ps.zip us)):Binds K fd ps []:=λs us _ hl=>by
 rw[List.append_nil]at hl⊢;exact .of_eq (h us hl)
def Dv(CX:CXT)(X:Cx)(E:XK):Prop:=∀(pins:List (Addr×Obj))(σ:St)(H:Hp)(s:Shared)(e:Value)(s':Shared),Inv X pins σ H s->CX X.stack H s E e s'->X.xe e s'
section
variable{X:Cx}{CX:CXT}{k:Nat}{f C:Addr}{fd:FuncData}{ps:List Str}{sp:Sp}{dvs:List V}{ds:List Value}{E:XK}{x m:Str}{p pos apos:Pos}{e o:Expr}{es:List Expr}{ta:TE}{t:TA}
theorem Rq{pins:List (Addr×Obj)}{σ:St}{H:Hp}{s:Shared}{Q:VK}{us:List Value}{vs:List V}(F:fj X.prog X.w X.K X.mg X.base CX k f fd ps sp)(hr:jK k X.A)(hb:Binds X.K fd ps ds)(hd:Vals dvs ds)(hx:Dv CX X E)
  (I:Inv X pins σ H s) (r:Vals vs us) (h:sp (vs++dvs) H Q E):wpAny (model X.prog X.w) X.A (call (.ref f) us) (EP X pins σ Q) X.xe s:=by
 have r2:Vals (vs++dvs) (us++ds):=r.append hd;have hl:(us++ds).length=ps.length:=by rw[←r2.length];exact F.len _ _ _ _ h
 refine wpAny_call (codeAny_mono (F.run X.A X.stack s H ⟨us,[]⟩ (us++ds) (vs++dvs) Q E hr I.env0 (hb s us I.kIn hl) r2 h) λr s' hq=>?_);cases r with
 |error e=>exact hx pins σ H s e s' I hq
 |ok fl=>
  cases fl with
  |ret u=>exact I.after hq
  |next=>exact False.elim hq
  |brk=>exact False.elim hq
  |cont=>exact False.elim hq
theorem PK(F:fj X.prog X.w X.K X.mg X.base CX k f fd ps sp)(hr:jK k X.A)(hg:Gl X x)(hm:X.mg x=some (.ref f))(hk:PySem.W.keepIn X.K (.ref f)=true)(hb:Binds X.K fd ps ds)(hd:Vals dvs ds)(hx:Dv CX X E)
  (ha:PA X (e::es) t) (hdb:(x==("__debug__":Str))=false:=by decide) (he:starEach (e::es) X.env=(false,eval e X.env)::starEach es X.env:=by rfl) (hpl:(backTo pos (starEach es X.env)).any (·.1)=false:=by rfl) :
  PE X (.Call (.Name x p) (e::es) [] pos) (Qq sp dvs E t):=by
 intro pins s σ H Q I h;refine wpAny_Call_Name_kw (Pa I hg hm ?_ hdb);refine PySem.W.callWith_K (h₀:=X.base) I.ok.mod.kin hk (thn (ha pos pins s σ H _ I h) λus s1 ⟨vs,H1,I1,r,q⟩=>⟨I1.kIn,?_⟩) he hpl;exact Rq F hr hb hd hx I1 r q
end
structure bC(N P:List Str)(sc:Scope):Prop where
 kind:sc.kind= .function
 co:sc.isCoroutine=false
 gen:sc.isGenerator=false
 nd:N.Nodup
 pre:N.take P.length=P
 par:∀x∈P,sc.names.lookup x=some .local∨sc.names.lookup x=some .cell
 nofree:∀y∈sc.names,y.2≠.free
theorem yh{kindOf:Str->Option NameKind}{x:Str}:∀{binds:List (Str×Value)}{m:Str->Option Value},(∀v,(x,v)∉binds)->bindL kindOf binds m x=m x
 |[],_,_=>rfl
 |(n,v)::r,m,h=>by
  unfold bindL;rw[yh λw hw=>h w (List.mem_cons_of_mem _ hw)];split
  .have:x≠n:=by rintro rfl;exact h v List.mem_cons_self
   simp[this]
  .rfl
theorem yg{kindOf:Str->Option NameKind}{x:Str}:∀{binds:List (Str×Value)}{m:Str->Option Value},(∀v,(x,v)∉binds)->bindC kindOf binds m x=m x
 |[],_,_=>rfl
 |(n,v)::r,m,h=>by
  unfold bindC;rw[yg λw hw=>h w (List.mem_cons_of_mem _ hw)];split
  .rfl
  .have:x≠n:=by rintro rfl;exact h v List.mem_cons_self
   simp[this]
theorem yG{kindOf:Str->Option NameKind}{x:Str}{v:Value}:∀{P:List Str}{vs:List Value}{i:Nat}{m:Str->Option Value},P.Nodup->P[i]? =some x->vs[i]? =some v->kindOf x=some .local->
  bindL kindOf (P.zip vs) m x=some v
 |[],_,_,_,_,h,_,_=>by simp at h
 |_::_,[],_,_,_,_,h,_=>by simp at h
 |p::P,w::vs,0,m,nd,h1,h2,hk=>by
  simp at h1 h2;subst h1;subst h2;show bindL kindOf ((p,w)::P.zip vs) m p=_;unfold bindL;rw[yh λv hv=>(List.nodup_cons.mp nd).1 (List.of_mem_zip hv).1,if_pos hk];simp
 |p::P,w::vs,i+1,m,nd,h1,h2,hk=>by
  show bindL kindOf ((p,w)::P.zip vs) m x=_;unfold bindL;exact yG (i:=i) (List.nodup_cons.mp nd).2 (by simpa using h1) (by simpa using h2) hk
theorem yt{kindOf:Str->Option NameKind}{x:Str}{v:Value}:∀{P:List Str}{vs:List Value}{i:Nat}{m:Str->Option Value},P.Nodup->P[i]? =some x->vs[i]? =some v->kindOf x≠some .local->
  bindC kindOf (P.zip vs) m x=some v
 |[],_,_,_,_,h,_,_=>by simp at h
 |_::_,[],_,_,_,_,h,_=>by simp at h
 |p::P,w::vs,0,m,nd,h1,h2,hk=>by
  simp at h1 h2;subst h1;subst h2;show bindC kindOf ((p,w)::P.zip vs) m p=_;unfold bindC;rw[yg λv hv=>(List.nodup_cons.mp nd).1 (List.of_mem_zip hv).1,if_neg hk];simp
 |p::P,w::vs,i+1,m,nd,h1,h2,hk=>by
  show bindC kindOf ((p,w)::P.zip vs) m x=_;unfold bindC;exact yt (i:=i) (List.nodup_cons.mp nd).2 (by simpa using h1) (by simpa using h2) hk
def start(N:List Str)(vs:List V):St:=vs.map some++List.replicate (N.length-vs.length) none
def Aq(CX:CXT)(P:Program)(w:World)(K:PySem.W.Frag)(mg:Str->Option Value)(base:Heap)(N:List Str)(qual:Str)(scope:Scope)(f:Addr)(cd:Value)(A:Around)(outer:List Env)(s:Shared)(H:Hp)(E:XK):Cx where
 prog:=P
 w:=w
 K:=K
 mg:=mg
 base:=base
 A:=A.deeper (envOfC qual scope s.heap.objs.size f cd)
 N:=N
 s₀:=s
 H₀:=H
 env:=envOfC qual scope s.heap.objs.size f cd
 outer:=outer
 stack:=envOfC qual scope s.heap.objs.size f cd::outer
 ex:=[]
 calm:=true
 fn:=λ_=>true
 pn:=[]
 xe:=λe s'=>wpAny (model P w) (A.deeper (envOfC qual scope s.heap.objs.size f cd)) (leaving (envOfC qual scope s.heap.objs.size f cd) e) (λ_ s''=>CX outer H s E e s'') (λe' s''=>CX outer H s E e' s'') s'
theorem BR{sc:Scope}{n:Nat}{x:Str}(h:sc.names.lookup x=some .cell):∃c,(cellsFrom n sc.names []).lookup x=some c:=by
 have q:=PySem.W.cellsFrom_some sc.names n [] (.inl h);exact Option.isSome_iff_exists.mp q
theorem Hz{CX:CXT}{P:Program}{w:World}{K:PySem.W.Frag}{mg:Str->Option Value}{base:Heap}{N ps:List Str}{qual:Str}{scope:Scope}{f:Addr}{cd:Value}{A:Around}{outer:List Env}{s s1:Shared}{H:Hp}{E:XK}{us:List Value}{vs:List V}
  (S:bC N ps scope) (hd:A.handled=none) (e0:Nq P w K mg base A outer s H) (hl:vs.length=ps.length) (r:Vals vs us)
  (x:InCallC s s.heap.objs.size (bindL (envOfC qual scope s.heap.objs.size f cd).kindOf (ps.zip us) λ_=>none) (cellsFrom (s.heap.objs.size+1) scope.names []) (bindC (envOfC qual scope s.heap.objs.size f cd).kindOf (ps.zip us) λ_=>none) s1) :
  Inv (Aq CX P w K mg base N qual scope f cd A outer s H E) [] (start N vs) H s1:=by
 have hpl:ps.length<=N.length:=by have:=congrArg List.length S.pre;rw[List.length_take]at this;omega
 obtain⟨h1,tk,rfl,hk⟩:=x.done;have noA:∀b:Addr,b∉(Aq CX P w K mg base N qual scope f cd A outer s H E).ex:=λb z=>absurd (show b∈([]:List Addr)from z) (by simp);refine⟨⟨e0.mod,S.kind,rfl,rfl,Nat.le_refl _,λy z c h1 h2=>?_,λy hy=>?_,λy c _ h=>?_,λ_=>hd,Around.frames_deeper e0.frames,.inr ⟨rfl,rfl⟩,λb z=>absurd z (noA b),e0.bs,e0.bsz,λb _ _=>noA b,λb z=>absurd z (noA b),e0.funs,e0.frf⟩,
  rfl,e0.bare,Un.kept hk,⟨_,x.toInCall.ns,λi y v h1 h2 h3=>?_⟩,λy c h=>⟨_,x.cell y c h⟩,e0.hok.fresh (Nat.le_refl _),λy c h=>?_,λp hp=>absurd (show p∈([]:List (Addr×Obj))from hp) (by simp),e0.hok.kept hk,?_⟩
 .exact name_of_addr x.apart (PySem.mem_of_lookup h1) (PySem.mem_of_lookup h2)
 .have hy:scope.names.lookup y=some .cell∨scope.names.lookup y=some .free:=hy
  rcases hy with hy|hy
  .exact BR hy
  .exact absurd rfl (S.nofree _ (PySem.mem_of_lookup hy))
 .exact Nat.le_of_lt (x.above y c (PySem.mem_of_lookup h))
 .have hi:i<vs.length:=by
   unfold start at h2;by_cases hi:i<vs.length
   .exact hi
   .rw[List.getElem?_append_right (by simpa using hi)]at h2
    rw[List.getElem?_replicate]at h2;split at h2<;>cases h2
  have ha:vs[i]? =some v:=by
   unfold start at h2;rw[List.getElem?_append_left (by simpa using hi),List.getElem?_map]at h2;cases e:vs[i]? with
   |none=>rw[e]at h2;cases h2
   |some a=>rw[e]at h2;cases h2;rfl
  obtain⟨u,hu,rv⟩:=r.get ha;have hp:ps[i]? =some y:=by
   rw[←S.pre,List.getElem?_take_of_lt (by omega)];exact h1
  have ndP:ps.Nodup:=by rw[←S.pre];exact S.nd.sublist (List.take_sublist _ _)
  refine⟨u,rv,?_⟩;rcases S.par y (List.mem_of_getElem? hp)with k|k
  .exact .inl ⟨k,yG ndP hp hu k⟩
  .obtain⟨c,e⟩:=BR (n:=s.heap.objs.size+1) k
   refine .inr ⟨.inl k,c,e,?_⟩;have q:=x.cell y c e;rw[yt ndP hp hu (by show scope.names.lookup y≠_;rw[k];decide)]at q;exact q
 .exact e0.hok.fresh (Nat.le_of_lt (x.above y c (PySem.mem_of_lookup h)))
 .unfold start
  show _=N.length;rw[List.length_append,List.length_map,List.length_replicate];omega
theorem T5{CX:CXT}{P:Program}{w:World}{K:PySem.W.Frag}{mg:Str->Option Value}{base:Heap}{k:Nat}{f:Addr}{name qual:Str}{params:Arguments}{body:List Stmt}{scope:Scope}{dV kV doc pm cdv ct oc:Value}{an od:Option Addr}
  {osl:Array (Option Value)} {N ps:List Str} {sp:Sp} (lk:K.lookup f=some ⟨oc,od,.func (PySem.W.fnOf name qual params body scope dV kV doc pm an cdv ct),osl⟩) (hcd:PySem.W.codeIn K cdv qual=true) (S:bC N ps scope)
  (len:∀vs H Q E,sp vs H Q E->vs.length=ps.length)
  (hbody:∀(A:Around)(outer:List Env)(s:Shared)(H:Hp)(vs:List V)(Q:VK)(E:XK),jK k (A.deeper (envOfC qual scope s.heap.objs.size f cdv))->sp vs H Q E->
   ∃t,PSs (Aq CX P w K mg base N qual scope f cdv A outer s H E) body t/\t {nx:=λ_ H'=>Q .non H',rt:=Q} (start N vs) H) :
  fj P w K mg base CX (k+1) f (PySem.W.fnOf name qual params body scope dV kV doc pm an cdv ct) ps sp:=by
 refine⟨len,λA outer s H args us vs Q E hr e0 hb r hsp=>?_⟩;have hl:=len _ _ _ _ hsp;have KX:K.In s.heap:=e0.mod.kin.keeps λb o e=>(e0.bs b o e).1;have lim:s.heap.NoLimit:=e0.mod.nolimit.keeps λb o e=>(e0.bs b o e).1;have hkind:∀y∈ps.zip us,scope.names.lookup y.1=some .local∨(scope.names.lookup y.1=some .cell/\((cellsFrom (s.heap.objs.size+1) scope.names []).lookup y.1).isSome=true):=λ⟨n,v⟩ hy=>by
  rcases S.par n (List.of_mem_zip hy).1 with q|q
  .exact .inl q
  .exact .inr ⟨q,PySem.W.cellsFrom_some _ _ _ (.inl q)⟩
 refine codeAny_call_function hr.depth (KX _ _ lk) rfl S.co S.gen rfl (PySem.W.codeRec_of KX hcd) (hb _ _ _ _ ?_);refine wpAny_newFunctionEnv_cells S.kind hkind λenv he s1 x=>?_;subst he;refine⟨lim.keeps x.toInCall.keep,codeAny_func ?_⟩;obtain⟨t,ht,hq⟩:=hbody A outer s H vs Q E (hr.deeper _) hsp;have I:Inv (Aq CX P w K mg base N qual scope f cdv A outer s H E) [] (start N vs) H s1:=Hz S hr.hd e0 hl r x;refine wpAny_mono (ht [] s1 (start N vs) H _ I hq) (λfl s' hs=>?_) λe s' hs=>hs;have fin:∀{σ':St}{H':Hp}{v:V}{u:Value},Inv (Aq CX P w K mg base N qual scope f cdv A outer s H E) [] σ' H' s'->RelV v u->Q v H'->CE outer P w H s Q u s':=
  λ{σ' H' v u} J rv q=>⟨v,H',J.os,J.bare,J.base,J.hok,rv,q⟩
 cases fl with
 |ret u=>
  obtain⟨v,σ',H',J,rv,q⟩:=hs;exact fin J rv q
 |next=>
  obtain⟨σ',H',J,q⟩:=hs;exact fin (v:=V.non) (u:=Value.none) J rfl q
 |brk=>
  obtain⟨_,_,_,q⟩:=hs;exact False.elim q
 |cont=>
  obtain⟨_,_,_,q⟩:=hs;exact False.elim q
section
variable{X:Cx}{x:Str}{p pos:Pos}{e:Expr}{es:List Expr}{t:TA}{id T:String}{r:List V->Hp->VK->Prop}
def tCB(r:List V->Hp->VK->Prop)(t:TA):TE:=λσ H Q=>t σ H λvs H1=>r vs H1 Q
theorem Al(hc:fD X (.builtin id) r)(hg:Gl X x)(hm:X.mg x=none)(hv:bootBuiltins x=some (.builtin id))(ha:PA X (e::es) t)(hn:x≠"__name__":=by decide)(hdb:(x==("__debug__":Str))=false:=by decide)
  (he:starEach (e::es) X.env=(false,eval e X.env)::starEach es X.env:=by rfl) (hpl:(backTo pos (starEach es X.env)).any (·.1)=false:=by rfl):PE X (.Call (.Name x p) (e::es) [] pos) (tCB r t):=by
 intro pins s σ H Q I h;refine wpAny_Call_Name_kw (pZ I hg hm hv ?_ hn hdb);exact PyProof.Rows.callWith_builtin1 (thn (ha pos pins s σ H _ I h) λus s1 ⟨vs,H1,I1,r1,q1⟩=>hc pins s1 σ H1 vs us Q I1 r1 q1) he hpl
theorem yI(hc:fD X (.type T) r)(hg:Gl X x)(hm:X.mg x=none)(hv:bootBuiltins x=some (.type T))(ha:PA X (e::es) t)(hn:x≠"__name__":=by decide)(hdb:(x==("__debug__":Str))=false:=by decide)
  (he:starEach (e::es) X.env=(false,eval e X.env)::starEach es X.env:=by rfl) (hpl:(backTo pos (starEach es X.env)).any (·.1)=false:=by rfl):PE X (.Call (.Name x p) (e::es) [] pos) (tCB r t):=by
 intro pins s σ H Q I h;refine wpAny_Call_Name_kw (pZ I hg hm hv ?_ hn hdb);exact PyProof.Rows.callWith_type1 (thn (ha pos pins s σ H _ I h) λus s1 ⟨vs,H1,I1,r1,q1⟩=>hc pins s1 σ H1 vs us Q I1 r1 q1) he hpl
end
end L2
namespace HT
open PySem PyProof.Rows
section
variable{prog:Program}{w:World}{A:Around}{E:Value->Shared->Prop}{s:Shared}
theorem cat_tup{t b:Addr}{vs ws:List Value}{Q:Value->Shared->Prop}(ht:IsTup s.heap t vs.toArray)(hb:IsTup s.heap b ws.toArray)(hv:vs≠[])
  (h1:ws=[]->Q (.ref t) s) (h2:ws≠[]->Q (.ref s.heap.objs.size) {s with heap:=s.heap.push {cls:=.type "tuple",data:=.seq (vs++ws).toArray}})
  (hsz:vs.length+ws.length<=sizeLine):wpAny (model prog w) A (binaryOp .Add (.ref t) (.ref b)) Q E s:=by
 obtain⟨⟨cls,dd,data,sl⟩,ho,hc,n,hd⟩:=id ht;obtain⟨⟨cls2,dd2,data2,sl2⟩,ho2,hc2,n2,hd2⟩:=id hb;simp only at hc hd hc2 hd2;subst hc hd hc2 hd2;have e:vs.toArray++ws.toArray=(vs++ws).toArray:=by simp
 by_cases hw:ws=[]
 .exact concat_meets ⟨_,ho,rfl⟩ ⟨_,ho2,rfl⟩ noFill_tuple_add seq_tuple_add PySem.F.slot_tuple_add PySem.F.entry_tuple_add (PySem.F.args_tuple_add_2 _ _)
   (tuple_addW1 t b vs.toArray ws.toArray n n2 dd dd2 sl sl2 (by simpa using hv) (by simp[hw])) ⟨ho,ho2,h1 hw⟩
 .refine concat_meets ⟨_,ho,rfl⟩ ⟨_,ho2,rfl⟩ noFill_tuple_add seq_tuple_add PySem.F.slot_tuple_add PySem.F.entry_tuple_add (PySem.F.args_tuple_add_2 _ _)
   (tuple_addW2 t b vs.toArray ws.toArray n n2 dd dd2 sl sl2 (by simpa using hv) (by simpa using hw) (by rw[List.size_toArray,List.size_toArray];exact hsz)) ⟨ho,ho2,?_⟩
  rw[e];exact h2 hw
def sIx(n d:Nat):Option Int->Nat
 |none=>d
 |some v=>if v<0 then(v+(n:Int)).toNat else min v.toNat n
theorem Ra(n d:Nat)(hd:d<=n)(o:Option Int):sIx n d o<=n:=by
 cases o with
 |none=>exact hd
 |some v=>
  show(if v<0 then(v+(n:Int)).toNat else min v.toNat n)<=n;by_cases hv:v<0
  .rw[if_pos hv];omega
  .rw[if_neg hv];exact Nat.min_le_right _ _
theorem Fy(v:Int)(n d:Nat):(if v<0 then max (v+(n:Int)) 0 else min v (n:Int))=((sIx n d (some v):Nat):Int):=by
 show(if v<0 then max (v+(n:Int)) 0 else min v (n:Int))=(((if v<0 then(v+(n:Int)).toNat else min v.toNat n):Nat):Int);by_cases hv:v<0
 .simp only[if_pos hv];omega
 .simp only[if_neg hv];omega
theorem adjust_gen(lo hi:Option Int)(n:Nat):Builtin.Slice.sliceAdjust lo hi 1 (n:Int)=(((sIx n 0 lo:Nat):Int),((sIx n n hi:Nat):Int)):=by
 have h1:¬((1:Int)<0):=by omega
 unfold Builtin.Slice.sliceAdjust;simp only[h1,if_false];refine Prod.ext ?_ ?_
 .cases lo with
  |none=>rfl
  |some v=>exact Fy v n 0
 .cases hi with
  |none=>rfl
  |some v=>exact Fy v n n
theorem places_gen(i j:Nat):Builtin.Slice.slicePlaces (i:Int) (j:Int) 1=j-i:=by
 unfold Builtin.Slice.slicePlaces;have h1:(1:Int)>0:=by omega
 simp only[h1,if_true,Int.ediv_one];split<;>omega
theorem slicePart_{v:Value}{o:Option Int}{Q:Option Int->Shared->Prop}(p:IsPart v o)(h:Q o s):wpAny (model prog w) A (Builtin.Slice.slicePartIndex v) Q E s:=by
 cases p with
 |none=>exact slicePart_none h
 |int i t=>exact slicePart_int h
theorem tU{sl:Addr}{vl vu:Value}{lo hi:Option Int}{n:Nat}{Q:Int×Int×Nat->Shared->Prop}(hs:s.heap.IsSliceOf sl vl vu .none)(pl:IsPart vl lo)(pu:IsPart vu hi)
  (h:Q (((sIx n 0 lo:Nat):Int),1,sIx n n hi-sIx n 0 lo) s):wpAny (model prog w) A (Builtin.Slice.sliceApplied (.ref sl) (pure (n:Int))) Q E s:=by
 obtain⟨os,hos,hcs,hds⟩:=id hs;unfold Builtin.Slice.sliceApplied Builtin.Slice.sliceFields;refine wpAny_bind (wpAny_bind (wpAny_field hos hds (x:=vl) rfl (wpAny_bind (wpAny_field hos hds (x:=vu) rfl (wpAny_bind (wpAny_field hos hds (x:=.none) rfl (wpAny_pure ?_)))))));refine wpAny_bind (slicePart_none ?_);show wpAny _ _ (if((1:Int)==0)=true then _ else _) _ _ s;rw[if_neg (by decide)];refine wpAny_bind (slicePart_ pl (wpAny_bind (slicePart_ pu (wpAny_bind (wpAny_pure ?_)))));show wpAny _ _ (match Builtin.Slice.sliceAdjust lo hi 1 (n:Int)with|(lo,hi)=>pure (lo,(1:Int),Builtin.Slice.slicePlaces lo hi 1)) _ _ s;rw[adjust_gen lo hi n];show wpAny _ _ (pure (((sIx n 0 lo:Nat):Int),(1:Int),Builtin.Slice.slicePlaces ((sIx n 0 lo:Nat):Int) ((sIx n n hi:Nat):Int) 1)) _ _ s;rw[places_gen];exact wpAny_pure h
theorem K4(xs:Array Value)(i k:Nat):((List.range k).filterMap λ(m:Nat)=>xs[((i:Int)+(m:Int)*1).toNat]?).toArray=((xs.toList.drop i).take k).toArray:=by
 have e:(λ(m:Nat)=>xs[((i:Int)+(m:Int)*1).toNat]?)=λm=>xs[i+m]?:=by
  funext m;have:((i:Int)+(m:Int)*1).toNat=i+m:=by omega
  rw[this]
 rw[e];have:=pick_run xs i k;rw[List.filterMap_map]at this;have e2:((λx=>xs[x]?)∘λx=>i+x)=λm=>xs[i+m]?:=rfl;rw[e2]at this;rw[this]
theorem getItem_tuple_cut{t sl:Addr}{items:Array Value}{vl vu:Value}{lo hi:Option Int}{Q:Value->Shared->Prop}(ht:IsTup s.heap t items)(hs:s.heap.IsSliceOf sl vl vu .none)(pl:IsPart vl lo)(pu:IsPart vu hi)
  (hw:¬(sIx items.size 0 lo=0/\sIx items.size items.size hi=items.size))
  (h:Q (.ref s.heap.objs.size) {s with heap:=s.heap.push {cls:=.type "tuple",data:=.seq ((items.toList.drop (sIx items.size 0 lo)).take (sIx items.size items.size hi-sIx items.size 0 lo)).toArray}})
  (hsz:items.size<=sizeLine):wpAny (model prog w) A (getItem (.ref t) (.ref sl)) Q E s:=by
 have htake:sizeOk (.seq ((items.toList.drop (sIx items.size 0 lo)).take (sIx items.size items.size hi-sIx items.size 0 lo)).toArray):=by
  show((items.toList.drop (sIx items.size 0 lo)).take (sIx items.size items.size hi-sIx items.size 0 lo)).toArray.size<=sizeLine;rw[List.size_toArray,List.length_take,List.length_drop,Array.length_toList];omega
 have hj:sIx items.size items.size hi<=items.size:=Ra _ _ (Nat.le_refl _) hi;obtain⟨os,hos,hcs,hds⟩:=id hs;have hTs:s.TypeIs (.ref sl) "slice":=⟨os,hos,hcs⟩;unfold getItem
 try with_reducible refine wpAny_holding ?_
 first|refine wpAny_bind (wpAny_pure ?_)|skip
 refine wpAny_bind (wpAny_sequenceKey ht.typeIs (by decide) ?_);refine wpAny_bind (wpAny_callSpecial?_slot (name:=Str.ofString "__getitem__") ht.typeIs PyProof.Rows.slot_tuple_getitem
  (wpAny_call_entry PyProof.Rows.slot_tuple_getitem ht.typeIs entry_tuple_getitem ?_ (args_tuple_getitem _ _)))
 show wpAny _ _ (Builtin.Tuple.tupleItemsOf (.ref t) >>=_) _ _ s;refine wpAny_bind (tupleItemsOf_ ht ?_);refine wpAny_bind (wpAny_typeOf hTs ?_);rw[if_pos (by decide)];refine wpAny_bind (tU hs pl pu ?_);have hno:¬((((sIx items.size 0 lo:Nat):Int)==0&&(1:Int)==1&&(sIx items.size items.size hi-sIx items.size 0 lo)==items.size)=true):=by
  intro q;rw[Bool.and_eq_true,Bool.and_eq_true]at q;have q1:((sIx items.size 0 lo:Nat):Int)=0:=eq_of_beq q.1.1;have q2:sIx items.size items.size hi-sIx items.size 0 lo=items.size:=eq_of_beq q.2;exact hw ⟨by omega,by omega⟩
 show wpAny _ _ (if(((sIx items.size 0 lo:Nat):Int)==0&&(1:Int)==1&&(sIx items.size items.size hi-sIx items.size 0 lo)==items.size)=true then _ else _) _ _ s;rw[if_neg hno,K4]
 first
  |exact wpAny_bind (m:=Builtin.Tuple.tupleExact _) (wpAny_newObj_type (wpAny_pure ⟨_,rfl,wpAny_pure h⟩) htake)
  |exact wpAny_bind (m:=Builtin.Tuple.tupleExact _) (wpAny_newObj_type (wpAny_bind (wpAny_pure (wpAny_pure ⟨_,rfl,wpAny_pure h⟩))) htake)
  |exact wpAny_bind (wpAny_bind (m:=Builtin.Tuple.tupleExact _) (wpAny_newObj_type (wpAny_pure (wpAny_pure ⟨_,rfl,wpAny_pure h⟩)) htake))
  |exact wpAny_bind (wpAny_bind (m:=Builtin.Tuple.tupleExact _) (wpAny_newObj_type (wpAny_pure ⟨_,rfl,wpAny_pure h⟩) htake))
end
end HT
namespace L2
open PySem PySem.Spec PyProof.Rows
abbrev TO:=St->Hp->(Option Int->Hp->Prop)->Prop
def PO(X:Cx)(e:Option Expr)(t:TO):Prop:=
 ∀(pins:List (Addr×Obj))(s:Shared)(σ:St)(H:Hp)(Q:Option Int->Hp->Prop),Inv X pins σ H s->t σ H Q->
  wpAny (model X.prog X.w) X.A (evalPart e X.env) (λu s'=>∃o H',Inv X pins σ H' s'/\IsPart u o/\Q o H') X.xe s
def Ng:TO:=λ_ H Q=>Q none H
def Vc(t:TE):TO:=λσ H Q=>t σ H λx H1=>∃i,x= .int i/\Q (some i) H1
section
variable{X:Cx}{e:Expr}{te:TE}{lo hi:Option Expr}{tl th:TO}{pos p2:Pos}
theorem M4:PO X none Ng:=by
 intro pins s σ H Q I h;rw[evalPart_none];exact wpAny_pure ⟨none,H,I,.none,h⟩
theorem Ot(h:PE X e te):PO X (some e) (Vc te):=by
 intro pins s σ H Q I hw;rw[evalPart_some];refine thn (h pins s σ H _ I hw) λu s1 ⟨x,H1,I1,r1,q1⟩=>?_;obtain⟨i,rfl,q⟩:=q1;obtain⟨t,rfl⟩:=r1;exact⟨some i,H1,I1,.int i t,q⟩
def SlR(X:Cx)(r:V->Option Int->Option Int->Hp->VK->Prop):Prop:=
 ∀(pins:List (Addr×Obj))(s:Shared)(σ:St)(H:Hp)(x:V)(v vl vu:Value)(lo hi:Option Int)(sl:Addr)(Q:VK),Inv X pins σ H s->RelV x v->s.heap.IsSliceOf sl vl vu .none->IsPart vl lo->IsPart vu hi->r x lo hi H Q->
  ∃T id,typeLookup (.type T) "__getitem__"=pure (some (.builtin id))/\s.TypeIs v T/\wpAny (model X.prog X.w) X.A (getItem v (.ref sl)) (EP X pins σ Q) X.xe s
theorem SlR.or{r r':V->Option Int->Option Int->Hp->VK->Prop}(h:SlR X r)(h':SlR X r'):SlR X (λx lo hi H Q=>r x lo hi H Q∨r' x lo hi H Q):=by
 intro pins s σ H x v vl vu lo hi sl Q I rx hs pl pu q;rcases q with q|q
 .exact h pins s σ H x v vl vu lo hi sl Q I rx hs pl pu q
 .exact h' pins s σ H x v vl vu lo hi sl Q I rx hs pl pu q
def tSl(r:V->Option Int->Option Int->Hp->VK->Prop)(te:TE)(tl th:TO):TE:=λσ H Q=>te σ H λx H1=>tl σ H1 λl H2=>th σ H2 λu H3=>r x l u H3 Q
theorem Cz{r:V->Option Int->Option Int->Hp->VK->Prop}(hr:SlR X r)(he:PE X e te)(hl:PO X lo tl)(hu:PO X hi th):PE X (.Subscript e (.Slice lo hi none p2) pos) (tSl r te tl th):=by
 intro pins s σ H Q I h;refine Subscript_ (thn (he pins s σ H _ I h) λv s1 ⟨x,H1,I1,r1,q1⟩=>?_);refine wpAny_Slice (thn (hl pins s1 σ H1 _ I1 q1) λvl s2 ⟨l,H2,I2,pl,q2⟩=>thn (hu pins s2 σ H2 _ I2 q2) λvu s3 ⟨u,H3,I3,pu,q3⟩=>?_);rw[evalPart_none];refine wpAny_pure ?_;have I4:Inv X pins σ H3 {s3 with heap:=s3.heap.push {cls:=.type "slice",data:=.fields #[vl,vu,.none]}}:=I3.kept (t':=s3.toks) λb ob q=>Heap.get?_push_of_some _ q;obtain⟨T,id,hT,ht,hg⟩:=hr pins {s3 with heap:=s3.heap.push {cls:=.type "slice",data:=.fields #[vl,vu,.none]}} σ H3 x v vl vu l u s3.heap.objs.size Q I4 r1 (Heap.IsSliceOf.new ..) pl pu q3;show wpAny (model X.prog X.w) X.A (subscriptTail e (.Slice lo hi none p2) v (.ref s3.heap.objs.size)) (EP X pins σ Q) X.xe {s3 with heap:=s3.heap.push {cls:=.type "slice",data:=.fields #[vl,vu,.none]}};exact tail_any (ops:=[.ref s3.heap.objs.size,v]) ht hT hg (by with_unfolding_all rfl)
def vM(xs:List V)(lo hi:Option Int):List V:=(xs.drop (HT.sIx xs.length 0 lo)).take (HT.sIx xs.length xs.length hi-HT.sIx xs.length 0 lo)
theorem uC(xs:List V)(lo hi:Option Int):(vM xs lo hi).length<=xs.length:=by
 unfold vM;rw[List.length_take,List.length_drop];omega
def VN(K:PySem.W.Frag):V->Option Int->Option Int->Hp->VK->Prop:=λx lo hi H Q=>∃a xs,x= .ref a/\SqT K H a xs/\
 ¬(HT.sIx xs.length 0 lo=0/\HT.sIx xs.length xs.length hi=xs.length)/\∀p,H p=none->Q (.ref p) (upd H p (.tup (vM xs lo hi)))
theorem RJ:SlR X (VN X.K):=by
 intro pins s σ H x v vl vu lo hi sl Q I rx hs pl pu h;obtain⟨a,xs,rfl,hx,hw,q⟩:=h;cases rx;obtain⟨its,r,ht,hz⟩:=I.tuple hx;have hlen:its.toArray.size=xs.length:=by rw[List.size_toArray];exact r.length.symm
 refine⟨"tuple",_,PyProof.Rows.slot_tuple_getitem.lookup,ht.typeIs,?_⟩;refine HT.getItem_tuple_cut ht hs pl pu (by rw[hlen];exact hw) ?_ (by rw[hlen];exact hz);rw[hlen];refine⟨.ref s.heap.objs.size,_,I.laid (t':=s.toks) (o:=.tup (vM xs lo hi)) (λb ob q=>Heap.get?_push_of_some _ q) (Nat.le_refl _) ?_,rfl,q _ (I.hok.fresh (Nat.le_refl _))⟩;exact⟨Nat.le_trans (uC xs lo hi) hz,_,(r.drop (HT.sIx xs.length 0 lo)).take (HT.sIx xs.length xs.length hi-HT.sIx xs.length 0 lo),IsTup.new _ _⟩
def T3(K:PySem.W.Frag):R2:=λx y H Q=>∃a b xs ys,x= .ref a/\y= .ref b/\SqT K H a xs/\SqT K H b ys/\xs≠[]/\xs.length+ys.length<=sizeLine/\
 (ys=[]->Q (.ref a) H)/\(ys≠[]->∀p,H p=none->Q (.ref p) (upd H p (.tup (xs++ys))))
theorem Vals.nil_iff{xs:List V}{us:List Value}(r:Vals xs us):us=[]↔xs=[]:=by
 cases r with
 |nil=>simp
 |cons _ _=>simp
theorem PX:OpR X (binaryOp .Add) (T3 X.K):=by
 intro pins s σ H x y v u Q I rx ry h;obtain⟨a,b,xs,ys,rfl,rfl,ha,hb,hx,hz,q1,q2⟩:=h;cases rx;cases ry;obtain⟨its,r1,p1,_⟩:=I.tuple ha;obtain⟨its2,r2,p2,_⟩:=I.tuple hb;refine HT.cat_tup p1 p2 (λz=>hx (r1.nil_iff.mp z)) (λz=>⟨.ref a,H,I,rfl,q1 (r2.nil_iff.mp z)⟩) (λz=>?_) (by rw[←r1.length,←r2.length];exact hz);refine⟨.ref s.heap.objs.size,_,I.laid (t':=s.toks) (o:=.tup (xs++ys)) (λb ob q=>Heap.get?_push_of_some _ q) (Nat.le_refl _) ?_,rfl,q2 (λw=>z (r2.nil_iff.mpr w)) _ (I.hok.fresh (Nat.le_refl _))⟩;exact⟨by rw[List.length_append];exact hz,_,r1.append r2,IsTup.new _ _⟩
end
def ixN(n:Nat)(i:Int):Option Nat:=if 0<=i then(if i<n then some i.toNat else none)else if -(n:Int)<=i then some (i+n).toNat else none
def atI{α:Type}(xs:List α)(i:Int):Option α:=(ixN xs.length i).bind λj=>xs[j]?
theorem Eu{n:Nat}{i:Int}{j:Nat}(h:ixN n i=some j):seqIndex? i n=some j/\j<n/\-(n:Int)<=i/\i<n:=by
 unfold ixN at h;by_cases h0:0<=i
 .rw[if_pos h0]at h
  by_cases h1:i<n
  .rw[if_pos h1]at h
   have e:i.toNat=j:=Option.some.inj h;exact⟨by rw[seqIndex_of h0 h1,e],by omega,by omega,h1⟩
  .rw[if_neg h1]at h;cases h
 .rw[if_neg h0]at h
  by_cases h1: -(n:Int)<=i
  .rw[if_pos h1]at h
   have e:(i+n).toNat=j:=Option.some.inj h;exact⟨by rw[seqIndex_neg (by omega) h1,e],by omega,h1,by omega⟩
  .rw[if_neg h1]at h;cases h
theorem qH{α:Type}{xs:List α}{i:Int}{v:α}(h:atI xs i=some v):∃j,seqIndex? i xs.length=some j/\xs[j]? =some v/\j<xs.length/\-(xs.length:Int)<=i/\i<xs.length:=by
 unfold atI at h;cases e:ixN xs.length i with
 |none=>rw[e]at h;cases h
 |some j=>
  rw[e]at h;obtain⟨h1,h2,h3,h4⟩:=Eu e;exact⟨j,h1,h,h2,h3,h4⟩
theorem oJ{α:Type}(xs:List α)(v:α):atI (xs++[v]) (-1)=some v:=by
 have hl:(xs++[v]).length=xs.length+1:=by simp
 have e:ixN (xs++[v]).length (-1)=some xs.length:=by
  unfold ixN;rw[hl,if_neg (by decide),if_pos (by omega)];congr 1;omega
 unfold atI;rw[e];show(xs++[v])[xs.length]? =some v;simp
def yZ(b:Expr):Prop:=∀o i,subscripted b false o i=operate [o,i] (getItem o i)
def IxR(X:Cx)(r:R2):Prop:=
 ∀(value slice:Expr)(pins:List (Addr×Obj))(s:Shared)(σ:St)(H:Hp)(x y:V)(v u:Value)(Q:VK),Inv X pins σ H s->RelV x v->RelV y u->r x y H Q->
  subscripted slice false v u=operate [v,u] (getItem v u)->wpAny (model X.prog X.w) X.A (subscriptTail value slice v u) (EP X pins σ Q) X.xe s
def MtR(X:Cx)(id:String)(r:V->List V->Hp->VK->Prop):Prop:=
 ∀(pins:List (Addr×Obj))(s:Shared)(σ:St)(H:Hp)(x:V)(xs:List V)(v:Value)(us:List Value)(Q:VK),Inv X pins σ H s->RelV x v->Vals xs us->r x xs H Q->
  wpAny (model X.prog X.w) X.A (call (.builtin id) (v::us)) (EP X pins σ Q) X.xe s
section
variable{X:Cx}{a b:Expr}{ta tb:TE}{pos:Pos}
theorem IxR.or{r r':R2}(h:IxR X r)(h':IxR X r'):IxR X (λx y H Q=>r x y H Q∨r' x y H Q):=by
 intro value slice pins s σ H x y v u Q I rx ry q hs;rcases q with q|q
 .exact h value slice pins s σ H x y v u Q I rx ry q hs
 .exact h' value slice pins s σ H x y v u Q I rx ry q hs
theorem QH{r:R2}(hr:IxR X r)(ha:PE X a ta)(hb:PE X b tb)(hs:yZ b):PE X (.Subscript a b pos) (tOp r ta tb):=by
 intro pins s σ H Q I h;exact Subscript_ (S_ ha hb I h λv u s2 x y H2 I2 rx ry q=>hr a b pins s2 σ H2 x y v u Q I2 rx ry q (hs _ _))
def UG(K:PySem.W.Frag):R2:=λx y H Q=>∃p xs i v,x= .ref p/\y= .int i/\SqL K H p xs/\atI xs i=some v/\Q v H
def U_(K:PySem.W.Frag):R2:=λx y H Q=>∃p xs i v,x= .ref p/\y= .int i/\SqT K H p xs/\atI xs i=some v/\Q v H
def Ub:R2:=λx y H Q=>∃z i c,x= .str z/\y= .int i/\z.length<=sizeLine/\atI z.cps.toList i=some c/\Q (.str ⟨#[c]⟩) H
theorem O5:IxR X (UG X.K):=by
 intro value slice pins s σ H x y v u Q I rx ry h hs;obtain⟨p,xs,i,z,rfl,rfl,hq,he,q⟩:=h;cases rx;obtain⟨t,rfl⟩:=ry;obtain⟨its,r,pl,hz⟩:=I.list hq;obtain⟨j,h1,h2,h3,h4,h5⟩:=qH he;obtain⟨w,ew,rw'⟩:=r.get h2;have hl:=r.length;have hn:=qj;have fin:EP X pins σ Q w s:=⟨z,H,I,rw',q⟩;by_cases h0:0<=i
 .have hj:i.toNat=j:=by
   rw[seqIndex_of h0 h5]at h1;exact Option.some.inj h1
  exact item_listR pl.isList h0 (by omega) (by rw[hj];simpa using ew) fin hs
 .have hj:(i+(its.toArray.size:Int)).toNat=j:=by
   rw[seqIndex_neg (by omega) h4]at h1;rw[List.size_toArray,←hl];exact Option.some.inj h1
  exact subscriptTail_builtinR (x:=w) pl.isList.typeIs slot_list_getitem.lookup
   (wpAny_getItem_list_neg (Q:=λr s'=>r=w/\EP X pins σ Q r s') pl.isList (by omega) (by rw[List.size_toArray]<;>omega) (by omega) (by rw[hj];simpa using ew) ⟨rfl,fin⟩) hs
theorem SX:IxR X (U_ X.K):=by
 intro value slice pins s σ H x y v u Q I rx ry h hs;obtain⟨p,xs,i,z,rfl,rfl,hq,he,q⟩:=h;cases rx;obtain⟨t,rfl⟩:=ry;obtain⟨its,r,pl,hz⟩:=I.tuple hq;obtain⟨j,h1,h2,h3,h4,h5⟩:=qH he;obtain⟨w,ew,rw'⟩:=r.get h2;have hl:=r.length;have hn:=qj;have fin:EP X pins σ Q w s:=⟨z,H,I,rw',q⟩;exact subscriptTail_builtinR (x:=w) pl.typeIs slot_tuple_getitem.lookup
  (getItem_tuple (j:=j) (Q:=λr s'=>r=w/\EP X pins σ Q r s') pl (by omega) (by omega) (by rw[List.size_toArray,←hl];exact h1) (by simpa using ew) ⟨rfl,fin⟩) hs
theorem Rw:IxR X Ub:=by
 intro value slice pins s σ H x y v u Q I rx ry h hs;obtain⟨z,i,c,rfl,rfl,hz,he,q⟩:=h;obtain⟨t,rfl⟩:=rx;obtain⟨t',rfl⟩:=ry;obtain⟨j,h1,h2,h3,h4,h5⟩:=qH he;have hl:z.cps.toList.length=z.length:=by simp[Str.length]
 rw[hl]at h1 h4 h5;have hn:=qj;exact tail_any (typeIs_str s z t) slot_str_getitem.lookup (getItem_str (c:=c) (by
  have e1:decide (i< -(2 ^ 63:Int))=false:=decide_eq_false (by omega);have e2:decide (i>=2 ^ 63)=false:=decide_eq_false (by omega);rw[e1,e2,Bool.or_false]) (by rw[h1];simpa using h2) ⟨.str ⟨#[c]⟩,H,I.tok _,⟨_,rfl⟩,q⟩) hs
def rIx(K:PySem.W.Frag):R2:=λx y H Q=>UG K x y H Q∨U_ K x y H Q∨Ub x y H Q
theorem Rv:IxR X (rIx X.K):=O5.or (SX.or Rw)
theorem DY(its:List Value)(n j:Nat)(u:Value):Obj.mapSeq (·.setIfInBounds j u) {cls:=.type "list",data:=.seq its.toArray n}={cls:=.type "list",data:=.seq (its.set j u).toArray n}:=by
 simp[Obj.mapSeq]
theorem Inv.lst{pins:List (Addr×Obj)}{σ:St}{H:Hp}{s:Shared}{p:Addr}{xs:List V}(I:Inv X pins σ H s)(h:H p=some (.lst xs)) :
  ∃(its:List Value)(n:Nat),Vals xs its/\s.heap.get? p=some {cls:=.type "list",data:=.seq its.toArray n}/\xs.length<=sizeLine:=by
 obtain⟨z,its,n,r,e⟩:=I.hok p _ h;exact⟨its,n,r,e,z⟩
theorem Inv.lstUpd{pins:List (Addr×Obj)}{σ:St}{H:Hp}{s:Shared}{p:Addr}{xs ys:List V}{its its':List Value}{n n':Nat}{f:Obj->Obj}(I:Inv X pins σ H s)(h:H p=some (.lst xs))
  (ho:s.heap.get? p=some {cls:=.type "list",data:=.seq its.toArray n}) (hf:f {cls:=.type "list",data:=.seq its.toArray n}={cls:=.type "list",data:=.seq its'.toArray n'}) (r:Vals ys its') (hz:ys.length<=sizeLine) (t:Nat) :
  Inv X pins σ (upd H p (.lst ys)) {s with heap:=s.heap.update p f,toks:=t}:=by
 have e:(s.heap.update p f).get? p=some {cls:=.type "list",data:=.seq its'.toArray n'}:=by
  rw[Heap.get?_update_self f ho (by rw[hf]<;>rfl),hf]
 refine I.write (x:=p) (e:=p) (by rw[h];trivial) (.inl rfl) (λb u hb q=>(Heap.get?_update_other _ _ (Ne.symm hb)).trans q) ⟨_,e⟩ ?_;exact⟨hz,its',n',r,e⟩
def Qo:V->V->V->Hp->(Hp->Prop)->Prop:=λo i v H Q=>∃p xs k j,o= .ref p/\i= .int k/\H p=some (.lst xs)/\ixN xs.length k=some j/\Q (upd H p (.lst (xs.set j v)))
theorem set_list:O9 X Qo:=by
 intro pins s σ H o i v ov iv u Q I ro ri rv h;obtain⟨p,xs,k,j,rfl,rfl,hp,hj,q⟩:=h;cases ro;obtain⟨t,rfl⟩:=ri;obtain⟨its,n,r,ho,hz⟩:=I.lst hp;obtain⟨h1,h2,h3,h4⟩:=Eu hj;have hl:=r.length;have hn:=qj;have I':Inv X pins σ (upd H p (.lst (xs.set j v))) {s with heap:=s.heap.update p (Obj.mapSeq (·.setIfInBounds j u))}:=
  I.lstUpd hp ho (DY its n j u) (r.set rv j) (by rw[List.length_set];exact hz) s.toks
 by_cases h0:0<=k
 .have hk:k.toNat=j:=by
   rw[seqIndex_of h0 h4]at h1;exact Option.some.inj h1
  exact PySem.W.ki_setAt ho h0 (by omega) (by rw[List.size_toArray,←hl];exact h4) (by rw[hk];exact⟨_,I',q⟩)
 .have hk:(k+(its.toArray.size:Int)).toNat=j:=by
   rw[seqIndex_neg (by omega) h3]at h1;rw[List.size_toArray,←hl];exact Option.some.inj h1
  exact PySem.W.ki_setBack ho (by omega) (by rw[List.size_toArray,←hl];exact h3) (by omega) (by rw[hk];exact⟨_,I',q⟩)
theorem yW(lo hi:Option Int)(n:Nat):(sliceBounds lo hi none n).1=((HT.sIx n 0 lo:Nat):Int)/\(sliceBounds lo hi none n).2.1=((HT.sIx n n hi:Nat):Int)/\(sliceBounds lo hi none n).2.2=1:=by
 refine⟨?_,?_,rfl⟩
 .cases lo with
  |none=>simp[sliceBounds,HT.sIx]
  |some i=>
   simp only[sliceBounds,HT.sIx,Option.getD_none,show(1:Int)>0 by decide,if_true];by_cases h:i<0
   .simp only[h,if_true]<;>omega
   .simp only[h,if_false]<;>omega
 .cases hi with
  |none=>simp[sliceBounds,HT.sIx]
  |some i=>
   simp only[sliceBounds,HT.sIx,Option.getD_none,show(1:Int)>0 by decide,if_true];by_cases h:i<0
   .simp only[h,if_true]<;>omega
   .simp only[h,if_false]<;>omega
theorem xF(its:List Value)(lo hi:Option Int):slicePick its.toArray lo hi none=((its.drop (HT.sIx its.length 0 lo)).take (HT.sIx its.length its.length hi-HT.sIx its.length 0 lo)).toArray:=by
 obtain⟨h1,h2,h3⟩:=yW lo hi its.toArray.size;unfold slicePick;rw[h1,h2,h3];simp only[sliceRange_one,pick_run,List.size_toArray]<;>rfl
def U5(K:PySem.W.Frag):V->Option Int->Option Int->Hp->VK->Prop:=λx lo hi H Q=>∃a xs,x= .ref a/\SqL K H a xs/\∀p,H p=none->Q (.ref p) (upd H p (.lst (vM xs lo hi)))
theorem O3:SlR X (U5 X.K):=by
 intro pins s σ H x v vl vu lo hi sl Q I rx hs pl pu h;obtain⟨a,xs,rfl,hx,q⟩:=h;cases rx;obtain⟨its,r,ht,hz⟩:=I.list hx;have hlen:=r.length;refine⟨"list",_,slot_list_getitem.lookup,ht.isList.typeIs,?_⟩;refine wpAny_getItem_list_slice ht.isList hs pl pu .none (by simp) ?_ (by rw[List.size_toArray]<;>omega);rw[xF,←hlen];refine⟨.ref s.heap.objs.size,_,I.laid (t':=s.toks) (o:=.lst (vM xs lo hi)) (λb ob q=>Heap.get?_push_of_some _ q) (Nat.le_refl _) ?_,rfl,q _ (I.hok.fresh (Nat.le_refl _))⟩;exact⟨Nat.le_trans (uC xs lo hi) hz,_,0,(r.drop (HT.sIx xs.length 0 lo)).take (HT.sIx xs.length xs.length hi-HT.sIx xs.length 0 lo),Heap.get?_push_size _ rfl⟩
def m6:V->Bool
 |.non=>true
 |.bl _=>true
 |.int _=>true
 |.str _=>true
 |_=>false
def eqV:V->V->Bool
 |.non,.non=>true
 |.bl a,.bl b=>a==b
 |.bl a,.int b=>(if a then 1 else 0)==b
 |.int a,.bl b=>a==(if b then 1 else 0)
 |.int a,.int b=>a==b
 |.str a,.str b=>a==b
 |_,_=>false
theorem Ru{A:Around}{s:Shared}{y x:V}{u v:Value}(ry:RelV y u)(rx:RelV x v)(fy:m6 y=true)(fx:m6 x=true):SeqAt.EqAt A s u v (eqV y x):=by
 cases y with
 |non=>
  cases ry;cases x with
  |non=>cases rx;exact SeqAt.EqAt.same _
  |bl b=>cases rx;exact SeqAt.EqAt.none_bool b
  |int b=>obtain⟨t,rfl⟩:=rx;exact SeqAt.EqAt.none_int b t
  |str b=>obtain⟨t,rfl⟩:=rx;exact SeqAt.EqAt.none_str b t
  |_=>exact absurd (show false=true from fx) Bool.false_ne_true
 |bl a=>
  cases ry;cases x with
  |non=>cases rx;exact SeqAt.EqAt.bool_none a
  |bl b=>cases rx;exact SeqAt.EqAt.bool_bool a b
  |int b=>obtain⟨t,rfl⟩:=rx;exact SeqAt.EqAt.bool_int a b t
  |str b=>obtain⟨t,rfl⟩:=rx;exact SeqAt.EqAt.bool_str a b t
  |_=>exact absurd (show false=true from fx) Bool.false_ne_true
 |int a=>
  obtain⟨t',rfl⟩:=ry;cases x with
  |non=>cases rx;exact SeqAt.EqAt.int_none a t'
  |bl b=>cases rx;exact SeqAt.EqAt.int_bool a t' b
  |int b=>obtain⟨t,rfl⟩:=rx;exact SeqAt.EqAt.int_int a t' b t
  |str b=>obtain⟨t,rfl⟩:=rx;exact SeqAt.EqAt.int_str a t' b t
  |_=>exact absurd (show false=true from fx) Bool.false_ne_true
 |str a=>
  obtain⟨t',rfl⟩:=ry;cases x with
  |non=>cases rx;exact SeqAt.EqAt.str_none a t'
  |bl b=>cases rx;exact SeqAt.EqAt.str_bool a t' b
  |int b=>obtain⟨t,rfl⟩:=rx;exact SeqAt.EqAt.str_int a t' b t
  |str b=>obtain⟨t,rfl⟩:=rx;exact SeqAt.EqAt.str_str a t' b t
  |_=>exact absurd (show false=true from fx) Bool.false_ne_true
 |_=>exact absurd (show false=true from fy) Bool.false_ne_true
def eqU(x:V)(u:Value):Bool:=match u with
 |.none=>eqV .non x
 |.bool b=>eqV (.bl b) x
 |.int i _=>eqV (.int i) x
 |.str z _=>eqV (.str z) x
 |_=>false
theorem Jd{x y:V}{u:Value}(r:RelV y u)(f:m6 y=true):eqU x u=eqV y x:=by
 cases y with
 |non=>cases r;rfl
 |bl b=>cases r;rfl
 |int i=>obtain⟨t,rfl⟩:=r;rfl
 |str z=>obtain⟨t,rfl⟩:=r;rfl
 |_=>exact absurd (show false=true from f) Bool.false_ne_true
theorem qT{x:V}:∀{xs:List V}{us:List Value},Vals xs us->xs.all m6=true->us.any (eqU x)=xs.any λy=>eqV y x
 |_,_,.nil,_=>rfl
 |y::xs,u::us,.cons r t,f=>by
  rw[List.all_cons,Bool.and_eq_true]at f;rw[List.any_cons,List.any_cons,Jd r f.1,qT t f.2]
theorem oZ{A:Around}{s:Shared}{x:V}{v:Value}(rx:RelV x v)(fx:m6 x=true):∀{xs:List V}{us:List Value},Vals xs us->xs.all m6=true->∀u∈us,SeqAt.EqAt A s u v (eqU x u)
 |_,_,.nil,_=>λu hu=>by cases hu
 |y::xs,u::us,.cons r t,f=>λu' hu=>by
  rw[List.all_cons,Bool.and_eq_true]at f;rcases List.mem_cons.mp hu with rfl|hu
  .rw[Jd r f.1];exact Ru r rx f.1 fx
  .exact oZ rx fx t f.2 u' hu
def inV(x:V)(xs:List V):Bool:=xs.any λy=>eqV y x
def rIn(K:PySem.W.Frag)(neg:Bool):R2:=λx y H Q=>∃p xs,y= .ref p/\(SqL K H p xs∨SqT K H p xs)/\m6 x=true/\xs.all m6=true/\Q (.bl (if neg then !inV x xs else inV x xs)) H
theorem Hl:OpR X (compareOp .In) (rIn X.K false):=by
 intro pins s σ H x y v u Q I rx ry h;obtain⟨p,xs,rfl,hq,fx,fs,q⟩:=h;cases ry;rcases hq with hq|hq
 .obtain⟨its,r,pl,hz⟩:=I.list hq
  refine SeqAt.in_listAt (eqU x) pl.isList (λw hw=>oZ rx fx r fs w (by simpa using hw)) ⟨.bl _,H,I,rfl,?_⟩;rw[show its.toArray.any (eqU x)=its.any (eqU x)by simp,qT r fs];exact q
 .obtain⟨its,r,pl,hz⟩:=I.tuple hq
  refine SeqAt.in_tupleAt (eqU x) pl (λw hw=>oZ rx fx r fs w (by simpa using hw)) ⟨.bl _,H,I,rfl,?_⟩;rw[show its.toArray.any (eqU x)=its.any (eqU x)by simp,qT r fs];exact q
theorem zy:OpR X (compareOp .NotIn) (rIn X.K true):=by
 intro pins s σ H x y v u Q I rx ry h;obtain⟨p,xs,rfl,hq,fx,fs,q⟩:=h;cases ry;rcases hq with hq|hq
 .obtain⟨its,r,pl,hz⟩:=I.list hq
  refine SeqAt.notIn_listAt (eqU x) pl.isList (λw hw=>oZ rx fx r fs w (by simpa using hw)) ⟨.bl _,H,I,rfl,?_⟩;rw[show its.toArray.any (eqU x)=its.any (eqU x)by simp,qT r fs];exact q
 .obtain⟨its,r,pl,hz⟩:=I.tuple hq
  refine SeqAt.notIn_tupleAt (eqU x) pl (λw hw=>oZ rx fx r fs w (by simpa using hw)) ⟨.bl _,H,I,rfl,?_⟩;rw[show its.toArray.any (eqU x)=its.any (eqU x)by simp,qT r fs];exact q
theorem y_:OpR X (compareOp .NotIn) (λx y H Q=>∃i j,x= .str i/\y= .str j/\Q (.bl (!(!(Builtin.Str.occurrences j i 0 j.length 1).isEmpty))) H):=by
 intro pins s σ H x y v u Q I rx ry h;obtain⟨i,j,rfl,rfl,q⟩:=h;obtain⟨t,rfl⟩:=rx;obtain⟨t',rfl⟩:=ry;exact notIn_str ⟨.bl _,H,I,rfl,q⟩
theorem zK:fD X (.builtin "len") (λxs H Q=>∃p ys,xs=[.ref p]/\(SqL X.K H p ys∨SqT X.K H p ys)/\Q (.int ys.length) H):=by
 intro pins s σ H xs us Q I r h;obtain⟨p,ys,rfl,hq,q⟩:=h;obtain⟨u,rfl,rx⟩:=vals1 r;cases rx;have hn:=qj;rcases hq with hq|hq
 .obtain⟨its,r',pl,hz⟩:=I.list hq
  have hlen:=r'.length;exact Calls.call_len_list pl.isList (by simp only[List.size_toArray]<;>omega) ⟨.int ys.length,H,I.tok _,⟨s.toks+1,by rw[List.size_toArray,hlen]⟩,q⟩
 .obtain⟨its,r',pl,hz⟩:=I.tuple hq
  have hlen:=r'.length;exact len_tuple pl (by simp only[List.size_toArray]<;>omega) ⟨.int ys.length,H,I.tok _,⟨s.toks+1,by rw[List.size_toArray,hlen]⟩,q⟩
theorem zm:fD X (.builtin "len") (λxs H Q=>∃z,xs=[.str z]/\z.length<=sizeLine/\Q (.int z.length) H):=by
 intro pins s σ H xs us Q I r h;obtain⟨z,rfl,hz,q⟩:=h;obtain⟨u,rfl,t,rfl⟩:=vals1 r;have hn:=qj;exact len_str (by omega) ⟨.int z.length,H,I.tok _,⟨_,rfl⟩,q⟩
theorem zz:fD X (.type "list") (λxs H Q=>∃p ys,xs=[.ref p]/\(SqL X.K H p ys∨SqT X.K H p ys)/\∀l,H l=none->Q (.ref l) (upd H l (.lst ys))):=by
 intro pins s σ H xs us Q I r h;obtain⟨p,ys,rfl,hq,q⟩:=h;obtain⟨u,rfl,rx⟩:=vals1 r;cases rx;have fin:∀(its:List Value),Vals ys its->ys.length<=sizeLine->∀(h':Heap)(c':Nat),(∀b o',s.heap.get? b=some o'->h'.get? b=some o')->
   h'.get? s.heap.objs.size=some {cls:=.type "list",dict:=none,data:=.seq its.toArray c',slots:=#[]}->EP X pins σ Q (.ref s.heap.objs.size) {s with heap:=h'}:=λits r' hz h' c' kp e=>
  ⟨.ref s.heap.objs.size,_,I.laid (t':=s.toks) kp (Nat.le_refl _) (show cR X.prog X.w _ h' _ (.lst ys)from⟨hz,its,c',r',e⟩),rfl,q _ (I.hok.fresh (Nat.le_refl _))⟩
 rcases hq with hq|hq
 .obtain⟨its,r',pl,hz⟩:=I.list hq
  have hlen:=r'.length;obtain⟨o,ho,hc,n,hd⟩:=pl.isList;exact call_list_seq p (.inl rfl) ho hc hd (λh' c' kp e=>fin its r' hz h' c' kp e) (by simp only[List.size_toArray]<;>omega)
 .obtain⟨its,r',pl,hz⟩:=I.tuple hq
  have hlen:=r'.length;obtain⟨o,ho,hc,n,hd⟩:=pl;exact call_list_seq p (.inr rfl) ho hc hd (λh' c' kp e=>fin its r' hz h' c' kp e) (by simp only[List.size_toArray]<;>omega)
theorem xH:fD X (.type "tuple") (λxs H Q=>∃p ys,xs=[.ref p]/\((SqL X.K H p ys/\∀l,H l=none->Q (.ref l) (upd H l (.tup ys)))∨(SqT X.K H p ys/\Q (.ref p) H))):=by
 intro pins s σ H xs us Q I r h;obtain⟨p,ys,rfl,h⟩:=h;obtain⟨u,rfl,rx⟩:=vals1 r;cases rx;rcases h with⟨hq,q⟩|⟨hq,q⟩
 .obtain⟨its,r',pl,hz⟩:=I.list hq
  have hlen:=r'.length;refine call_tuple_list pl.isList (λh' kp=>?_) (by simp only[List.size_toArray]<;>omega);have I1:Inv X pins σ H {s with heap:=h'}:=I.kept (t':=s.toks) kp;have I2:Inv X pins σ (upd H h'.objs.size (.tup ys)) {s with heap:=h'.push {cls:=.type "tuple",data:=.seq its.toArray}}:=
   I1.laid (t':=s.toks) (λb o e=>Heap.get?_push_of_some _ e) (Nat.le_refl _) (show cR X.prog X.w _ _ _ (.tup ys)from⟨hz,its,r',IsTup.new _ _⟩)
  exact⟨.ref h'.objs.size,_,I2,rfl,q _ (I1.hok.fresh (Nat.le_refl _))⟩
 .obtain⟨its,r',pl,hz⟩:=I.tuple hq
  exact call_tuple_same pl ⟨.ref p,H,I,rfl,q⟩
def tyV(K:PySem.W.Frag)(T:String)(x:V)(H:Hp):Prop:=match x with
 |.str _=>T="str"
 |.int _=>T="int"
 |.ref p=>(T="list"/\∃xs,SqL K H p xs)∨(T="tuple"/\∃o,K.lookup p=some o/\o.cls= .type "tuple"/\o.dict=none)∨
  (T="dict"/\((∃kvs,H p=some (.dK kvs))∨∃kvs,H p=some (.dT kvs)))∨(T="set"/\∃S n,H p=some (.set S n))
 |_=>False
theorem Ss{pins:List (Addr×Obj)}{σ:St}{H:Hp}{s:Shared}{T:String}{x:V}{v:Value}(I:Inv X pins σ H s)(r:RelV x v)(ty:tyV X.K T x H) :
  s.TypeIs v T/\∀a,v= .ref a->∃ob,s.heap.get? a=some ob/\ob.dict=none:=by
 cases x with
 |str z=>
  obtain⟨t,rfl⟩:=r;cases (show T="str" from ty);exact⟨typeIs_str s z t,λ_ e=>nomatch e⟩
 |int i=>
  obtain⟨t,rfl⟩:=r;cases (show T="int" from ty);exact⟨typeIs_int s i t,λ_ e=>nomatch e⟩
 |ref p=>
  cases r;rcases ty with⟨rfl,xs,hq⟩|⟨rfl,o,hk,hc,hd⟩|⟨rfl,hk⟩|⟨rfl,S,n,hk⟩
  .obtain⟨its,_,pl,_⟩:=I.list hq
   refine⟨pl.isList.typeIs,λa e=>?_⟩;cases e;obtain⟨o,n,e,c,hd,_⟩:=pl;exact⟨o,e,hd⟩
  .refine⟨⟨o,I.kIn p o hk,hc⟩,λa e=>?_⟩
   cases e;exact⟨o,I.kIn _ o hk,hd⟩
  .have z:∃o,s.heap.get? p=some o/\o.ExactDict:=by
    rcases hk with⟨kvs,hk⟩|⟨kvs,hk⟩
    .obtain⟨_,_,_,_,o,_,_,e,ex,_⟩:=I.hok p _ hk
     exact⟨o,e,ex⟩
    .obtain⟨_,_,_,_,o,_,_,e,ex,_⟩:=I.hok p _ hk
     exact⟨o,e,ex⟩
   obtain⟨o,e,ex⟩:=z;refine⟨⟨o,e,ex.1⟩,λa e2=>?_⟩;cases e2;exact⟨o,e,ex.2.1⟩
  .obtain⟨o,_,_,_,e,ex,_⟩:=I.hok p _ hk
   refine⟨⟨o,e,ex.1⟩,λa e2=>?_⟩;cases e2;exact⟨o,e,ex.2.1⟩
 |_=>exact False.elim ty
def tBM(K:PySem.W.Frag)(T:String)(r:V->List V->Hp->VK->Prop)(to:TE)(t:TA):TE:=λσ H Q=>to σ H λx H1=>tyV K T x H1/\t σ H1 λxs H2=>r x xs H2 Q
variable{o e:Expr}{es:List Expr}{to:TE}{t:TA}{name:Str}{apos cpos:Pos}{T id:String}{r:V->List V->Hp->VK->Prop}
theorem JP(pa:PlainAttrs T)(slot:Slot T name id)(hty:typeOf (.builtin id)=pure (.type "method_descriptor"))(hm:MtR X id r)(ho:PE X o to)(ha:PA X (e::es) t)
  (hbase:attributeBase o name X.env (eval o X.env)=eval o X.env:=by rfl)
  (hfew:((backTo cpos (starEach (e::es) X.env)).all (λx=>!x.1)&&(backToKw cpos (keywordEach [] X.env)).all (λx=>x.1.isSome)
   &&decide ((e::es).length+([]:List Keyword).length+(if([]:List Keyword).isEmpty then 0 else 1)<30))=true:=by rfl)
  (hline:(apos.endLine==cpos.line)=true:=by rfl) (hs:starEach (e::es) X.env=(false,eval e X.env)::starEach es X.env:=by rfl) (hplain:(backTo cpos (starEach es X.env)).any (·.1)=false:=by rfl) :
  PE X (.Call (.Attribute o name apos) (e::es) [] cpos) (tBM X.K T r to t):=by
 intro pins s σ H Q I h;refine wpAny_Call_method_late hbase hfew hline rfl (thn (ho pins s σ H _ I h) λv s1 ⟨x,H1,I1,r1,ty,q1⟩=>?_);obtain⟨h1,h2⟩:=Ss I1 r1 ty;refine⟨T,id,pa,slot,hty,h1,h2,?_⟩;have hA:=ha cpos pins s1 σ H1 _ I1 q1;rw[hs]at hA⊢;refine Calls.callWith_builtin (by show(false||(backTo cpos (starEach es X.env)).any (·.1))=false;rw[hplain]<;>rfl) (Calls.evalArgs_plain ?_);exact thn hA λus s2 ⟨vs,H2,I2,r2,q2⟩=>hm pins s2 σ H2 x vs v us Q I2 r1 r2 q2
end
def MtM(X:Cx)(id:String)(r:V->List V->Hp->VK->Prop):Prop:=
 ∀(pins:List (Addr×Obj))(s:Shared)(σ:St)(H:Hp)(x:V)(xs:List V)(v:Value)(us:List Value)(Q:VK),Inv X pins σ H s->RelV x v->Vals xs us->r x xs H Q->
  wpAny (model X.prog X.w) X.A (call (.builtin id) (v::us)) (EP X pins σ Q) X.xe s
theorem Vals.one:∀{x:V}{us:List Value},Vals [x] us->∃u,us=[u]/\RelV x u
 |_,_,.cons r .nil=>⟨_,rfl,r⟩
theorem Vals.reverse{xs:List V}{us:List Value}(h:Vals xs us):Vals xs.reverse us.reverse:=by
 induction h with
 |nil=>exact .nil
 |cons r t ih=>rw[List.reverse_cons,List.reverse_cons];exact Vals.append ih (.cons r .nil)
section
variable{X:Cx}{pins:List (Addr×Obj)}{σ:St}{H:Hp}{s:Shared}{l b:Addr}{xs ys zs:List V}
theorem Inv.lset{its its':List Value}{n:Nat}{f:Array Value->Array Value}{t':Nat}(I:Inv X pins σ H s)(hH:H l=some (.lst xs))
  (e:s.heap.get? l=some {cls:=.type "list",data:=.seq its.toArray n}) (hf:f its.toArray=its'.toArray) (hv:Vals ys its') (hz:ys.length<=sizeLine) :
  Inv X pins σ (upd H l (.lst ys)) {s with heap:=s.heap.update l (Obj.mapSeq f),toks:=t'}:=by
 have q:=PySem.IsL.update e f;rw[hf]at q;refine I.write (x:=l) (e:=l) (by rw[hH];exact trivial) (.inl rfl) (λb' u hb hu=>(Heap.get?_update_other s.heap (Obj.mapSeq f) (Ne.symm hb)).trans hu) ⟨_,q⟩ ?_;exact⟨hz,its',_,hv,q⟩
theorem Inv.lnew{its:List Value}{t':Nat}(I:Inv X pins σ H s)(hv:Vals ys its)(hz:ys.length<=sizeLine) :
  Inv X pins σ (upd H s.heap.objs.size (.lst ys)) {s with heap:=s.heap.push {cls:=.type "list",data:=.seq its.toArray},toks:=t'}:=
 I.laid (λ_ _ q=>Heap.get?_push_of_some _ q) (Nat.le_refl _) ⟨hz,its,0,hv,Heap.get?_push_size _ rfl⟩
theorem Inv.fresh(I:Inv X pins σ H s):H s.heap.objs.size=none:=I.hok.fresh (Nat.le_refl _)
theorem Inv.lstM(I:Inv X pins σ H s)(hH:H l=some (.lst xs)):xs.length<=sizeLine/\∃(its:List Value)(n:Nat),Vals xs its/\xs.length=its.length/\s.heap.get? l=some {cls:=.type "list",data:=.seq its.toArray n}:=by
 obtain⟨z,its,n,r,e⟩:=I.hok l _ hH;exact⟨z,its,n,r,r.length,e⟩
theorem Ig{n:Nat}(h:n<=sizeLine):Builtin.List.listTooLong n=false:=by
 unfold Builtin.List.listTooLong;exact decide_eq_false (by omega)
end
section
variable{X:Cx}
def E_:V->List V->Hp->VK->Prop:=λx vs H Q=>∃l xs y,x= .ref l/\vs=[y]/\H l=some (.lst xs)/\xs.length<sizeLine/\Q .non (upd H l (.lst (xs++[y])))
theorem G8:MtM X "list.append" E_:=by
 intro pins s σ H x vs v us Q I rx rv h;obtain⟨l,xs,y,rfl,rfl,hH,hz,q⟩:=h;cases rx;obtain⟨u,rfl,ru⟩:=rv.one;obtain⟨z,its,n,r,hl,e⟩:=I.lstM hH;refine call_meets F.slot_list_append ⟨_,e,rfl⟩ F.entry_list_append (F.args_list_append_2 _ _) (PySem.list_append l its.toArray n u (by rw[List.size_toArray];omega)) ⟨e,?_⟩;refine⟨.non,_,I.lset (its':=its++[u]) hH e (by simp) (r.append (.cons ru .nil)) ?_,rfl,q⟩;rw[List.length_append,List.length_singleton];omega
def Oa:V->List V->Hp->VK->Prop:=λx vs H Q=>∃l b xs zs,x= .ref l/\vs=[.ref b]/\H l=some (.lst xs)/\H b=some (.lst zs)/\xs.length+zs.length<=sizeLine/\Q .non (upd H l (.lst (xs++zs)))
theorem mt_extend:MtM X "list.extend" Oa:=by
 intro pins s σ H x vs v us Q I rx rv h;obtain⟨l,b,xs,zs,rfl,rfl,hH,hB,hz,q⟩:=h;cases rx;obtain⟨u,rfl,ru⟩:=rv.one;cases ru;obtain⟨z,its,n,r,hl,e⟩:=I.lstM hH;obtain⟨z2,its2,n2,r2,hl2,e2⟩:=I.lstM hB;have hsz:its.toArray.size+its2.toArray.size<=sizeLine:=by rw[List.size_toArray,List.size_toArray];omega
 have hlong:¬(!its.toArray.isEmpty&&Builtin.List.listTooLong (its.toArray.size+its2.toArray.size))=true:=by
  rw[Ig hsz,Bool.and_false];exact Bool.false_ne_true
 refine call_meets F.slot_list_extend ⟨_,e,rfl⟩ F.entry_list_extend (F.args_list_extend_2 _ _)
  (AutoSeq1.list_extend_list_list_0 l its.toArray n b its2.toArray n2 hlong (by rw[List.size_toArray];omega) (by omega)) ⟨e,e2,?_⟩
 refine⟨.non,_,I.lset (its':=its++its2) hH e (by simp) (r.append r2) ?_,rfl,q⟩;rw[List.length_append];omega
def U0:R2:=λx y H Q=>∃l b xs zs,x= .ref l/\y= .ref b/\H l=some (.lst xs)/\H b=some (.lst zs)/\xs.length+zs.length<=sizeLine/\∀p,H p=none->Q (.ref p) (upd H p (.lst (xs++zs)))
theorem QX:OpR X (binaryOp .Add) U0:=by
 intro pins s σ H x y v u Q I rx ry h;obtain⟨l,b,xs,zs,rfl,rfl,hH,hB,hz,q⟩:=h;cases rx;cases ry;obtain⟨z,its,n,r,hl,e⟩:=I.lstM hH;obtain⟨z2,its2,n2,r2,hl2,e2⟩:=I.lstM hB;refine PySem.P.add_list e e2 ?_ (by rw[List.size_toArray,List.size_toArray];omega);have ea:its.toArray++its2.toArray=(its++its2).toArray:=by simp
 rw[ea];exact⟨.ref _,_,I.lnew (t':=s.toks) (r.append r2) (by rw[List.length_append];omega),rfl,q _ I.fresh⟩
end
section
variable{κ:Type}[DecidableEq κ]
def mJ(kvs:List (κ×V))(k:κ):Option V:=(kvs.find? λkv=>decide (kv.1=k)).map (·.2)
def putK(kvs:List (κ×V))(k:κ)(v:V):List (κ×V):=
 if(kvs.any λkv=>decide (kv.1=k))=true then kvs.map (λkv=>if kv.1=k then(kv.1,v)else kv)else kvs++[(k,v)]
theorem vQ{p:κ×V}{r:List (κ×V)}{k:κ}(e:p.1=k):mJ (p::r) k=some p.2:=by simp[mJ,List.find?_cons,e]
theorem wV{p:κ×V}{r:List (κ×V)}{k:κ}(e:¬p.1=k):mJ (p::r) k=mJ r k:=by simp[mJ,List.find?_cons,e]
theorem vV(k:κ):∀kvs:List (κ×V),(kvs.any λkv=>decide (kv.1=k))=(mJ kvs k).isSome
 |[]=>rfl
 |p::r=>by
  rw[List.any_cons];by_cases e:p.1=k
  .simp only[vQ e,decide_eq_true e,Bool.true_or,Option.isSome_some]
  .rw[wV e,decide_eq_false e,Bool.false_or];exact vV k r
theorem kO(kvs:List (κ×V))(k:κ)(v:V):(putK kvs k v).length<=kvs.length+1:=by
 unfold putK;split
 .rw[List.length_map];omega
 .rw[List.length_append,List.length_cons,List.length_nil];omega
theorem vL{kvs:List (κ×V)}{k:κ}(v:V)(h:mJ kvs k=none):putK kvs k v=kvs++[(k,v)]:=by
 unfold putK;rw[vV,h];exact if_neg (by decide)
theorem sS.isSome_eq{o:Option V}{u:Option Value}(r:sS o u):o.isSome=u.isSome:=by
 cases o with
 |none=>cases u with
  |none=>rfl
  |some _=>exact(show False from r).elim
 |some _=>cases u with
  |none=>exact(show False from r).elim
  |some _=>rfl
theorem sS.getD{o:Option V}{u:Option Value}{d:V}{d':Value}(r:sS o u)(rd:RelV d d'):RelV (o.getD d) (u.getD d'):=by
 cases o with
 |none=>cases u with
  |none=>exact rd
  |some _=>exact(show False from r).elim
 |some _=>cases u with
  |none=>exact(show False from r).elim
  |some _=>exact r
theorem KV.val{kvs:List (κ×V)}{vs:List (κ×Value)}(r:KV kvs vs)(k:κ):sS (mJ kvs k) (valueAt vs k):=by
 unfold KV at r
 induction r with
 |nil=>exact True.intro
 |@cons p q ps qs h t ih=>
  obtain⟨h1,h2⟩:=h;by_cases e:p.1=k
  .have e':q.1=k:=h1.symm.trans e
   have b:valueAt (q::qs) k=some q.2:=by simp[valueAt,List.find?_cons,e']
   rw[vQ e,b];exact h2
  .have e':¬q.1=k:=λz=>e (h1.trans z)
   have b:valueAt (q::qs) k=valueAt qs k:=by simp[valueAt,List.find?_cons,e']
   rw[wV e,b];exact ih
theorem KV.any{kvs:List (κ×V)}{vs:List (κ×Value)}(r:KV kvs vs)(k:κ):(kvs.any λkv=>decide (kv.1=k))=vs.any λkv=>decide (kv.1=k):=by
 unfold KV at r
 induction r with
 |nil=>rfl
 |cons h t ih=>rw[List.any_cons,List.any_cons,ih,h.1]
theorem KV.repl{kvs:List (κ×V)}{vs:List (κ×Value)}(r:KV kvs vs)(k:κ){y:V}{u:Value}(ry:RelV y u) :
  KV (kvs.map λkv=>if kv.1=k then(kv.1,y)else kv) (vs.map λkv=>if kv.1=k then(kv.1,u)else kv):=by
 unfold KV at r⊢
 induction r with
 |nil=>exact .nil
 |@cons p q ps qs h t ih=>
  rw[List.map_cons,List.map_cons];refine .cons ?_ ih;obtain⟨h1,h2⟩:=h;by_cases e:p.1=k
  .rw[if_pos e,if_pos (h1.symm.trans e)];exact⟨h1,ry⟩
  .rw[if_neg e,if_neg (λz=>e (h1.trans z))];exact⟨h1,h2⟩
theorem KV.put{kvs:List (κ×V)}{vs:List (κ×Value)}(r:KV kvs vs)(k:κ){y:V}{u:Value}(ry:RelV y u):KV (putK kvs k y) (stored vs k u):=by
 unfold putK stored;rw[r.any k];by_cases e:(vs.any λkv=>decide (kv.1=k))=true
 .rw[if_pos e,if_pos e];exact r.repl k ry
 .rw[if_neg e,if_neg e];exact Paired.snoc r ⟨rfl,ry⟩
theorem KV.keys{kvs:List (κ×V)}{vs:List (κ×Value)}(r:KV kvs vs):kvs.map (·.1)=vs.map (·.1):=by
 unfold KV at r
 induction r with
 |nil=>rfl
 |cons h t ih=>rw[List.map_cons,List.map_cons,ih,h.1]
theorem KV.length{kvs:List (κ×V)}{vs:List (κ×Value)}(r:KV kvs vs):kvs.length=vs.length:=Paired.length r
end
theorem pY{P:Program}{w:World}{k:Key}{u:Value}(r:RelV (kV k) u):(bL P w).is k u=true:=by
 cases k with
 |inl i=>obtain⟨t,e⟩:=(show ∃t,u=Value.int i t from r);subst e;exact CV P w i t
 |inr x=>obtain⟨t,e⟩:=(show ∃t,u=Value.str x t from r);subst e;exact Ba P w x t
theorem yx{P:Program}{w:World}:∀{ks:List Key}{us:List Value},Vals (ks.map kV) us->ItemsAre (bL P w) ks us
 |[],_,r=>by rw[List.map_nil]at r;cases r;exact .nil
 |k::ks,_,r=>by
  rw[List.map_cons]at r;cases r with
  |cons h t=>exact .cons (pY h) (yx t)
abbrev KT(H:Hp):List (List Key×V)->List (List Key×Addr×Value)->Prop:=Paired λp q=>p.1=q.1/\H q.2.1=some (.tup (p.1.map kV))/\RelV p.2 q.2.2
theorem KT.val{H:Hp}{kvs:List (List Key×V)}{xs:List (List Key×Addr×Value)}(r:KT H kvs xs)(k:List Key):sS (mJ kvs k) ((atKey xs k).map (·.2)):=by
 induction r with
 |nil=>exact True.intro
 |@cons p q ps qs h t ih=>
  obtain⟨h1,_,h2⟩:=h;by_cases e:p.1=k
  .have e':q.1=k:=h1.symm.trans e
   have b:atKey (q::qs) k=some q.2:=by simp[atKey,List.find?_cons,e']
   rw[vQ e,b];exact h2
  .have e':¬q.1=k:=λz=>e (h1.trans z)
   have b:atKey (q::qs) k=atKey qs k:=by simp[atKey,List.find?_cons,e']
   rw[wV e,b];exact ih
theorem KT.repl{H:Hp}{kvs:List (List Key×V)}{xs:List (List Key×Addr×Value)}(r:KT H kvs xs)(k:List Key){y:V}{u:Value}(ry:RelV y u) :
  KT H (kvs.map λkv=>if kv.1=k then(kv.1,y)else kv) (xs.map (putAt k u)):=by
 induction r with
 |nil=>exact .nil
 |@cons p q ps qs h t ih=>
  rw[List.map_cons,List.map_cons];refine .cons ?_ ih;obtain⟨h1,h2,h3⟩:=h;unfold putAt;by_cases e:p.1=k
  .rw[if_pos e,if_pos (h1.symm.trans e)];exact⟨h1,h2,ry⟩
  .rw[if_neg e,if_neg (λz=>e (h1.trans z))];exact⟨h1,h2,h3⟩
theorem KT.put{H:Hp}{kvs:List (List Key×V)}{xs:List (List Key×Addr×Value)}(r:KT H kvs xs)(k:List Key){b:Addr}{y:V}{u:Value}(hb:H b=some (.tup (k.map kV)))(ry:RelV y u) :
  KT H (putK kvs k y) (storedH xs k b u):=by
 have e:(kvs.any λkv=>decide (kv.1=k))=(atKey xs k).isSome:=by
  rw[vV,(r.val k).isSome_eq,Option.isSome_map]
 unfold putK storedH;rw[e];by_cases q:(atKey xs k).isSome=true
 .rw[if_pos q,if_pos q];exact r.repl k ry
 .rw[if_neg q,if_neg q];exact Paired.snoc r ⟨rfl,hb,ry⟩
theorem KT.keeps{H H':Hp}{kvs:List (List Key×V)}{xs:List (List Key×Addr×Value)}(r:KT H kvs xs)(ht:∀b ys,H b=some (.tup ys)->H' b=some (.tup ys)):KT H' kvs xs:=
 Paired.mapP r λ_ _ z=>⟨z.1,ht _ _ z.2.1,z.2.2⟩
section
variable{P:Program}{w:World}{H:Hp}{h:Heap}{a:Addr}
theorem Qp{u:HO}(ok:HOk P w H h)(e:Rd H a u):cR P w H h a u:=e.ok ok
theorem xX{kvs:List (Key×V)}(ok:HOk P w H h)(e:Rd H a (.dK kvs)):kvs.length<=sizeLine/\(a==sysModules)=false/\∃vs,KV kvs vs/\h.DictOf (bL P w) a vs:=
 show cR P w H h a (.dK kvs)from Qp ok e
theorem Qm{kvs:List (Key×V)}(ok:HOk P w H h)(e:H a=some (.dK kvs)):kvs.length<=sizeLine/\(a==sysModules)=false/\∃vs,KV kvs vs/\h.DictOf (bL P w) a vs:=xX ok (.inl e)
theorem wy{ks:List Key}(ok:HOk P w H h)(e:H a=some (.tup (ks.map kV))):(tupleKind (bL P w)).is h ks a:=by
 obtain⟨_,its,r,o,h1,h2,n,h3⟩:=(show cR P w H h a (.tup (ks.map kV))from ok a _ e);exact⟨o,its.toArray,n,h1,h2,h3,by simpa using yx r⟩
theorem BL{kvs:List (List Key×V)}(ok:HOk P w H h)(e:Rd H a (.dT kvs)):kvs.length<=sizeLine/\(a==sysModules)=false/\
  ∃xs,KT H kvs xs/\h.DictOfH (tupleKind (bL P w)) a xs:=by
 obtain⟨z,y,xs,r,o,es,ep,h1,h2,h3,h4,h5⟩:=(show cR P w H h a (.dT kvs)from Qp ok e);refine⟨z,y,xs,r,o,es,ep,h1,h2,h3,h4,λx hx=>?_,h5⟩;have all:∀{l:List (List Key×V)}{m:List (List Key×Addr×Value)},KT H l m->∀x∈m,(tupleKind (bL P w)).is h x.1 x.2.1:=by
  intro l m q
  induction q with
  |nil=>intro x hx;exact nomatch hx
  |@cons p q ps qs hq t ih=>
   intro x hx;rcases List.mem_cons.mp hx with e|hx
   .subst e
    exact wy ok (by rw[←hq.1];exact hq.2.1)
   .exact ih x hx
 exact all r x hx
theorem Uq{kvs:List (List Key×V)}(ok:HOk P w H h)(e:H a=some (.dT kvs)):kvs.length<=sizeLine/\(a==sysModules)=false/\
 ∃xs,KT H kvs xs/\h.DictOfH (tupleKind (bL P w)) a xs:=BL ok (.inl e)
end
def rQ(H:Hp)(a:Addr)(y:V)(r:Option V):Prop:=
 (∃kvs k,Rd H a (.dK kvs)/\y=kV k/\r=mJ kvs k)∨∃kvs k b,Rd H a (.dT kvs)/\y= .ref b/\H b=some (.tup (k.map kV))/\r=mJ kvs k
def Df(H:Hp)(a:Addr)(y v:V)(H':Hp):Prop:=
 (∃kvs k,H a=some (.dK kvs)/\y=kV k/\kvs.length<sizeLine/\H'=upd H a (.dK (putK kvs k v)))∨
 ∃kvs k b,H a=some (.dT kvs)/\y= .ref b/\H b=some (.tup (k.map kV))/\kvs.length<sizeLine/\H'=upd H a (.dT (putK kvs k v))
theorem rQ.k{H:Hp}{a:Addr}{kvs:List (Key×V)}{k:Key}(e:H a=some (.dK kvs)):rQ H a (kV k) (mJ kvs k):=.inl ⟨kvs,k,.inl e,rfl,rfl⟩
theorem rQ.t{H:Hp}{a b:Addr}{kvs:List (List Key×V)}{k:List Key}(e:H a=some (.dT kvs))(eb:H b=some (.tup (k.map kV))):rQ H a (.ref b) (mJ kvs k):=.inr ⟨kvs,k,b,.inl e,rfl,eb,rfl⟩
theorem Df.k{H:Hp}{a:Addr}{kvs:List (Key×V)}{k:Key}{v:V}(e:H a=some (.dK kvs))(hl:kvs.length<sizeLine):Df H a (kV k) v (upd H a (.dK (putK kvs k v))):=.inl ⟨kvs,k,e,rfl,hl,rfl⟩
theorem Df.t{H:Hp}{a b:Addr}{kvs:List (List Key×V)}{k:List Key}{v:V}(e:H a=some (.dT kvs))(eb:H b=some (.tup (k.map kV)))(hl:kvs.length<sizeLine) :
 Df H a (.ref b) v (upd H a (.dT (putK kvs k v))):=.inr ⟨kvs,k,b,e,rfl,eb,hl,rfl⟩
section
variable{X:Cx}{pins:List (Addr×Obj)}{σ:St}{H:Hp}{s:Shared}{a:Addr}{y v:V}{u r:Value}{o:Option V}{A:Around}{E:Value->Shared->Prop}
theorem Inv.big(I:Inv X pins σ H s):sysModules<s.heap.objs.size:=by
 have h:mainGlobals<s.heap.objs.size:=(I.mod.glob.keeps I.bk).lt;exact Nat.lt_trans (by decide) h
theorem Hy{Q:Value->Shared->Prop}(hu:A.units+1<cLine)(I:Inv X pins σ H s)(g:rQ H a y (some v))(ry:RelV y u)(h:∀w' s',Inv X pins σ H s'->RelV v w'->Q w' s') :
  wpAny (model X.prog X.w) A (getItem (.ref a) u) Q E s:=by
 rcases g with⟨kvs,k,e,ey,l⟩|⟨kvs,k,b,e,ey,eb,l⟩
 .subst ey
  obtain⟨z,hd,vs,rel,dd⟩:=xX I.hok e;obtain⟨w',hw,rw'⟩:=sS.some_of (v:=v) (o:=valueAt vs k) (by rw[l];exact rel.val k);exact wpAny_getItem_of (pY ry) dd.mapOf hw (h w' _ (I.tok _) rw')
 .subst ey
  cases (show u=Value.ref b from ry);obtain⟨z,hd,xs,rel,dd⟩:=BL I.hok e;obtain⟨w',hw,rw'⟩:=sS.some_of (v:=v) (o:=(atKey xs k).map (·.2)) (by rw[l];exact rel.val k);obtain⟨p,hp,hp2⟩:=Option.map_eq_some_iff.mp hw;refine wpAny_getItem_heap (tupleKind_room_in1 hu) (wy I.hok eb) dd hp ?_;rw[hp2];exact h w' _ (I.tok _) rw'
theorem VP{Q:Value->Shared->Prop}(hu:A.units+1<cLine)(I:Inv X pins σ H s)(g:rQ H a y o)(ry:RelV y u)(h:∀s',Inv X pins σ H s'->Q (.bool o.isSome) s') :
  wpAny (model X.prog X.w) A (compareOp .In u (.ref a)) Q E s:=by
 rcases g with⟨kvs,k,e,ey,l⟩|⟨kvs,k,b,e,ey,eb,l⟩
 .subst ey
  obtain⟨z,hd,vs,rel,dd⟩:=xX I.hok e;refine wpAny_in_of (pY ry) hd dd.mapOf ?_;rw[←(rel.val k).isSome_eq,←l];exact h _ (I.tok _)
 .subst ey
  cases (show u=Value.ref b from ry);obtain⟨z,hd,xs,rel,dd⟩:=BL I.hok e;refine wpAny_in_heap (tupleKind_room_in1 hu) (wy I.hok eb) hd dd ?_;have q:=(rel.val k).isSome_eq;rw[Option.isSome_map]at q;rw[←q,←l];exact h _ (I.tok _)
theorem Oi{Q:Value->Shared->Prop}(hu:A.units+1<cLine)(I:Inv X pins σ H s)(g:rQ H a y o)(ry:RelV y u)(h:∀s',Inv X pins σ H s'->Q (.bool (!o.isSome)) s') :
  wpAny (model X.prog X.w) A (compareOp .NotIn u (.ref a)) Q E s:=by
 rcases g with⟨kvs,k,e,ey,l⟩|⟨kvs,k,b,e,ey,eb,l⟩
 .subst ey
  obtain⟨z,hd,vs,rel,dd⟩:=xX I.hok e;refine wpAny_notIn_of (pY ry) hd dd.mapOf ?_;rw[←(rel.val k).isSome_eq,←l];exact h _ (I.tok _)
 .subst ey
  cases (show u=Value.ref b from ry);obtain⟨z,hd,xs,rel,dd⟩:=BL I.hok e;refine wpAny_notIn_heap (tupleKind_room_in1 hu) (wy I.hok eb) hd dd ?_;have q:=(rel.val k).isSome_eq;rw[Option.isSome_map]at q;rw[←q,←l];exact h _ (I.tok _)
theorem yN{h':Heap}{t':Nat}{ob:HO}(I:Inv X pins σ H s)(mu:Mut (H a))(hs:Heap.SameBut a s.heap h')(he:∃q,h'.get? a=some q)(new:cR X.prog X.w (upd H a ob) h' a ob) :
  Inv X pins σ (upd H a ob) {s with heap:=h',toks:=t'}:=
 I.write (x:=a) (e:=a) mu (.inl rfl) (λb q hb z=>(hs.2 b hb).trans z) he new
theorem L_{P:Program}{w:World}{H':Hp}{h':Heap}{kvs:List (Key×V)}{vs:List (Key×Value)}(z:kvs.length<=sizeLine)(hd:(a==sysModules)=false)(rel:KV kvs vs)(dd:h'.DictOf (bL P w) a vs) :
 cR P w H' h' a (.dK kvs):=⟨z,hd,vs,rel,dd⟩
theorem HF{H':Hp}{Q:Unit->Shared->Prop}(hu:A.units+1<cLine)(I:Inv X pins σ H s)(g:Df H a y v H')(ry:RelV y u)(rv:RelV v r)(h:∀s',Inv X pins σ H' s'->Q () s') :
  wpAny (model X.prog X.w) A (setItem (.ref a) u r) Q E s:=by
 rcases g with⟨kvs,k,e,ey,l,eH⟩|⟨kvs,k,b,e,ey,eb,l,eH⟩
 .subst ey eH
  obtain⟨z,hd,vs,rel,dd⟩:=Qm I.hok e;have hz:vs.length<=sizeLine:=by rw[←rel.length];exact z
  have hl:(putK kvs k v).length<=sizeLine:=by have:=kO kvs k v;omega
  refine wpAny_setItem_pairs (hsz:=hz) (pY ry) dd λh' dd' hs=>h _ ?_;have he:∃q,h'.get? a=some q:=let⟨q,_,_,hq,_⟩:=dd';⟨q,hq⟩;exact yN I (by rw[e];exact True.intro) hs he (L_ hl hd (rel.put k rv) dd')
 .subst ey eH
  cases (show u=Value.ref b from ry);obtain⟨z,hd,xs,rel,dd⟩:=Uq I.hok e;have hz:xs.length<=sizeLine:=by rw[←Paired.length rel];exact z
  have hl:(putK kvs k v).length<=sizeLine:=by have:=kO kvs k v;omega
  refine wpAny_setItem_heap (hsz:=hz) (tupleKind_room_in1 hu) (wy I.hok eb) dd λh' dd' hs=>h _ ?_;obtain⟨q,es,ep,hq,h2,h3,h4,_,h5⟩:=dd';refine yN I (by rw[e];exact True.intro) hs ⟨q,hq⟩ ⟨hl,hd,_,(rel.put k eb rv).keeps λc ys ec=>?_,q,es,ep,hq,h2,h3,h4,h5⟩;rw[aV (Fe ec e (λz=>nomatch z))];exact ec
end
section
variable{X:Cx}{pins:List (Addr×Obj)}{σ:St}{H:Hp}{s:Shared}{a:Addr}{kvs:List (Key×V)}{k:Key}{u:Value}{A:Around}{E:Value->Shared->Prop}
theorem Vn{Q:Value->Shared->Prop}(I:Inv X pins σ H s)(e:Rd H a (.dK kvs))(h:∀t s',Inv X pins σ H s'->Q (.int kvs.length t) s'):wpAny (model X.prog X.w) A (call (.builtin "len") [.ref a]) Q E s:=by
 obtain⟨z,hd,vs,rel,dd⟩:=xX I.hok e;refine call_len_dict hd dd (by rw[←rel.length];rw[sizeLine_eq]at z;omega) ?_;rw[←rel.length];exact h _ _ (I.tok _)
end
theorem Cv{X:Cx}{pins:List (Addr×Obj)}{σ:St}{H:Hp}{s:Shared}{a:Addr}{y:V}{o:Option V}(I:Inv X pins σ H s)(g:rQ H a y o):s.TypeIs (.ref a) "dict":=by
 rcases g with⟨kvs,k,e,_,_⟩|⟨kvs,k,b,e,_,_,_⟩
 .obtain⟨_,_,vs,_,dd⟩:=xX I.hok e
  exact dd.typeIs
 .obtain⟨_,_,xs,_,dd⟩:=BL I.hok e
  exact dd.typeIs
theorem Iv{P:Program}{w:World}{H:Hp}(h:Heap)(hb:sysModules<h.objs.size):cR P w H (h.push {cls:=.type "dict",data:=.dict #[]}) h.objs.size (.dK []):=
 ⟨Nat.zero_le _,beq_eq_false_iff_ne.mpr (Ne.symm (Nat.ne_of_lt hb)),[],.nil,Heap.DictOf.new h⟩
end L2
namespace Att
open PySem PySem.W PySem.Calls PyProof.Rows
theorem uY{P:Params}{h:Heap}:∀(ns:List Int)(vs:List Value),WellAll P h vs (ns.map WData.int)->IntsAre vs ns:=by
 intro ns
 induction ns with
 |nil=>
  intro vs w;rw[List.map_nil]at w;cases w;exact .nil
 |cons n ns ih=>
  intro vs w;rw[List.map_cons]at w;cases w with
  |cons a b=>
   cases a;exact .cons _ _ (ih _ b)
theorem GR{l:OpenLaw}{n:Nat}(hn:l.most=some n){P:Params}{h:Heap}{args:List WData}{vals:List Value}
  (hpre:l.row.toRowW.claim.pre args=true) (hwl:WellAll P h vals args) :
  ∃a vs ns,vals=[Value.ref a]/\args=[WData.list (ns.map WData.int)]/\h.get? a=some {cls:=.type "list",data:=.seq vs.toArray}/\IntsAre vs ns/\ns.length<=n:=by
 have hsh:WShape.hasAll [] args [.list .int]=true:=(pre_splitW hpre).1;have hc:l.pre.holds [] {args:=args}=true:=(pre_splitW hpre).2;obtain⟨d,r,rfl,h1,h2⟩:=hasAllW_cons hsh;obtain rfl:=hasAllW_nil h2;obtain⟨xs,rfl,h3⟩:=hasW_list h1;obtain⟨ns,rfl⟩:=items_int h3;have hlen:ns.length<=n:=by
  unfold OpenLaw.pre at hc;have h4:(WTm.not (.lt (.lit (.int (n:Int))) (.len (.arg 0)))).holds [] {args:=[.list (ns.map .int)]}=true:=by
   have h4:=(holds_andW hc).1;rw[hn]at h4;exact h4
  have h5:=condW_of h4 (w_not (w_lt w_lit (w_len_list (w_arg rfl))));rw[List.length_map]at h5;refine Nat.le_of_not_lt λq=>?_;have q':(n:Int)<((ns.length:Nat):Int):=by omega
  first
   |(rw[decide_eq_true q']at h5;exact absurd h5 (by decide))
   |(simp at h5;omega)
 cases hwl with
 |cons w1 w2=>
  cases w2;cases w1 with
  |list ho hall=>exact⟨_,_,ns,rfl,rfl,ho,uY ns _ hall,hlen⟩
theorem Hc(l:OpenLaw)(args:List WData):l.row.toRowW.claim.post args (.bool true) args=true:=
 postW_of (r:=l.row.toRowW) (X:=(true==true))
  (show WShape.has [] (.bool true) .bool=true by first|rfl|decide|simp[WShape.has,WShape.arms,WShape.armsAll])
  (show(WTm.eq .res (.lit (.bool true))).value [] {args:=args,res:=some (.bool true),after:=args}=some (.bool (true==true))from w_eq_bool (w_res rfl) w_lit) rfl
theorem attach_call{l:OpenLaw}{n:Nat}{q:Program}{loose:List Str}{XP:(Str->Option Value)->Heap->Prop}{YP:World->Heap->Prop}{d:DefRec}
  (hn:l.most=some n) (hdf:d.params.defaults=[])
  (call:∀(w:World)(s₀ s₁:Shared)(mg mb:Str->Option Value)(fa:Addr)(o:Obj)(pm cd doc:Value)(a:Addr)(vs:List Value)(ns:List Int),
   Ground q loose [] XP w s₀ mg mb s₁.heap->YP w s₁.heap->
   s₁.heap.get? fa=some o->o.data= .func (docDef d.name d.params d.body d.scope pm cd doc)->s₁.heap.CodeRec cd d.name->mg d.name=some (.ref fa)->
   s₁.heap.get? a=some {cls:=.type "list",data:=.seq vs.toArray}->IntsAre vs ns->ns.length<=n->s₁.gens= #[]->
   codeAny (model l.prog w) callerA (.call (.ref fa) ⟨[.ref a],[]⟩) (λr s'=>r= .ok (.ret (.bool true))/\OldK s₁.heap s'.heap/\s'.os=s₁.os/\AllBare s'.gens) s₁) :
  WalkO q loose XP YP l.row.toRowW d [] (λf vs=>PySem.call f vs):=by
 intro w s₀ s₁ mg mb G Y fa o pm cd doc dV kV ho hd hcd hD hmg hg args vals as hpre hlay hrd hwl hlo;obtain rfl:dV= .none:=Dflts.none hD hdf;obtain rfl:kV= .none:=Dflts.noKw hD;obtain⟨a,vs,ns,rfl,rfl,hobj,hints,hlen⟩:=GR hn hpre hwl;refine enter_call (codeAny_mono (call w s₀ s₁ mg mb fa o pm cd doc a vs ns G Y ho (fd_plain hd) hcd hmg hobj hints hlen hg) λr s' hq=>?_);obtain⟨rfl,h2,h3,h4⟩:=hq;exact⟨.inl ⟨.bool true,.bool true,[],rfl,λ_=>rfl,.bool true,Hc l _,λ_=>⟨List.Pairwise.nil,λ_ hm=>(nomatch hm)⟩⟩,h2,h3,h4⟩
end Att
namespace L2
open PySem PySem.Spec PyProof.Rows
theorem yr:∀{vs:List Value}{ns:List Int},IntsAre vs ns->Vals (ns.map V.int) vs
 |_,_,.nil=>.nil
 |_,_,.cons n t h=>.cons ⟨t,rfl⟩ (yr h)
def Only(H:Hp):Prop:=∀b,H b=none∨∃o xs,H b=some (.frz o (.lst xs))
theorem K5{P:Program}{w:World}{K:PySem.W.Frag}{mg mb:Str->Option Value}{CX:CXT}{k:Nat}{fa a:Addr}{fd:FuncData}{x:Str}{sp:Sp}{s₁:Shared}{vs:List Value}{ns:List Int}
  (KX:K.In s₁.heap) (hns:s₁.heap.Ns mainGlobals mg) (hb:s₁.heap.Ns builtinsNs mb) (hbb:∀x:Str,x≠"__name__"->mb x=bootBuiltins x) (hlim:s₁.heap.NoLimit) (hg:s₁.gens= #[])
  (ha:s₁.heap.get? a=some {cls:=.type "list",data:=.seq vs.toArray}) (hi:IntsAre vs ns) (hl:ns.length<=sizeLine) (hr:jK k callerA)
  (F:∀base:Heap,K.In base->base.Ns mainGlobals mg->fj P w K mg base CX k fa fd [x] sp) (hbind:∀(s:Shared)(u:Value),BindsTo s fd ⟨[u],[]⟩ [(x,u)])
  (hsp:∀H:Hp,Only H->SqL K H a (ns.map V.int)->sp [.ref a] H (λv _=>v= .bl true) λ_ _ _=>False)
  (hCX:∀H e s',CX [] H s₁ (λ_ _ _=>False) e s'->False) :
  codeAny (model P w) callerA (.call (.ref fa) ⟨[.ref a],[]⟩) (λr s'=>r= .ok (.ret (.bool true))/\OldK s₁.heap s'.heap/\s'.os=s₁.os/\AllBare s'.gens) s₁:=by
 have rv:=yr hi;have lenV:=hi.length;have core:∀H:Hp,Only H->SqL K H a (ns.map V.int)->HOk P w H s₁.heap->(∀b,H b≠none->b=a)->(H a≠none->K.lookup a=none)->
   codeAny (model P w) callerA (.call (.ref fa) ⟨[.ref a],[]⟩) (λr s'=>r= .ok (.ret (.bool true))/\OldK s₁.heap s'.heap/\s'.os=s₁.os/\AllBare s'.gens) s₁:=by
  intro H hO hS hok hA hK;have base_of:∀{b:Addr}{o:Obj},s₁.heap.get? b=some o->H b=none->(yQ s₁.heap H).get? b=some o:=λe n=>Lj e n;have noA:∀{b:Addr}{o:Obj}{es:Array DictEntry}{ep:Nat},s₁.heap.get? b=some o->o.data= .dict es ep->H b=none:=λ{b o es ep} e d=>by
   cases q:H b with
   |none=>rfl
   |some u=>
    have e':b=a:=hA b (by rw[q];simp);subst e';rw[ha]at e;cases e;have d':Data.seq vs.toArray _=Data.dict es ep:=d;cases d'
  have nsK:∀{b:Addr}{m:Str->Option Value},s₁.heap.Ns b m->(yQ s₁.heap H).Ns b m:=λ{b m}⟨o,es,ep,e,d,r⟩=>⟨o,es,ep,base_of e (noA e d),d,r⟩;have hKb:K.In (yQ s₁.heap H):=λb o e=>base_of (KX b o e) (by
   cases q:H b with
   |none=>rfl
   |some u=>
    have e':b=a:=hA b (by rw[q];simp);subst e';rw[hK (by rw[q];simp)]at e;cases e)
  have hM:Mod K mg (yQ s₁.heap H):=⟨hKb,nsK hns,⟨mb,nsK hb,hbb⟩,let⟨mc,h1,h2⟩:=hlim;⟨mc,nsK h1,h2⟩⟩;have e0:Nq P w K mg (yQ s₁.heap H) callerA [] s₁ H:=⟨rfl,hM,λb o e=>MN e,Nat.le_of_eq (Hn _ _),trivial,λb hb=>absurd (show b∈([]:List Addr)from hb) (by simp),hok,.of_eq hg⟩;refine codeAny_mono ((F _ hKb (nsK hns)).run callerA [] s₁ H ⟨[.ref a],[]⟩ [.ref a] [.ref a] _ _ hr e0 (hbind s₁ (.ref a)) (.cons rfl .nil) (hsp H hO hS)) λr s' h=>?_;cases r with
  |error e=>exact(hCX H e s' h).elim
  |ok fl=>
   cases fl with
   |next=>exact False.elim h
   |brk=>exact False.elim h
   |cont=>exact False.elim h
   |ret u=>
    obtain⟨v,H',os,bare,un,hok',r',q⟩:=h;have q':v= .bl true:=q;subst q';obtain rfl:u=Value.bool true:=r';refine⟨rfl,OldK.of_keep λb o e=>?_,os,bare⟩;cases q:H b with
    |none=>exact un.keep b o e q (by intro z;exact absurd (show b∈([]:List Addr)from z) (by simp)) (by simp)
    |some u=>
     rcases hO b with z|⟨ob,xs,z⟩
     .rw[q]at z;cases z
     .have z2:=un.frzs b ob _ z
      obtain⟨e1,_⟩:=hok b _ z;obtain⟨e2,_⟩:=hok' b _ z2;rw[e]at e1;cases e1;exact e2
 cases hk:K.lookup a with
 |some o=>
  have e:=KX a o hk;rw[ha]at e;cases e;refine core (λ_=>none) (λ_=>.inl rfl) (.inr ⟨_,vs.toArray,_,hk,rfl,rfl,rfl,by rw[List.size_toArray,lenV];exact hl,by simpa using rv⟩) (λb u z=>by have z':(none:Option HO)=some u:=z;cases z') (λb z=>absurd rfl z) λz=>absurd rfl z
 |none=>
  refine core (λb=>if b=a then some (.frz {cls:=.type "list",data:=.seq vs.toArray} (.lst (ns.map V.int)))else none) (λb=>?_) (.inl (.inr ⟨{cls:=.type "list",data:=.seq vs.toArray},if_pos rfl⟩)) (λb u z=>?_) (λb z=>?_) λ_=>hk
  .by_cases hb:b=a
   .exact .inr ⟨_,_,if_pos hb⟩
   .exact .inl (if_neg hb)
  .by_cases hb:b=a
   .have z':=(if_pos hb).symm.trans z
    cases z';subst hb;exact⟨ha,by rw[List.length_map];exact hl,vs,_,rv,ha⟩
   .have z':=(if_neg hb).symm.trans z
    cases z'
  .by_cases hb:b=a
   .exact hb
   .exact absurd (if_neg hb) z
theorem walk_of{l:PySem.W.OpenLaw}{n k:Nat}{q:Program}{loose:List Str}{XP:(Str->Option Value)->Heap->Prop}{YP:World->Heap->Prop}{d:DefRec}{K:Params->PySem.W.Frag}{CX:World->CXT}{sp:World->Sp}{x:Str}
  (hn:l.most=some n) (hn2:n<=sizeLine) (hdf:d.params.defaults=[]) (hr:jK k callerA)
  (hY:∀(w:World)(h:Heap),YP w h->(K w.params).In h)
  (F:∀(w:World)(mg:Str->Option Value)(fa:Addr)(h:Heap),(K w.params).In h->h.Ns mainGlobals mg->mg d.name=some (.ref fa)->
   ∃fd:FuncData,(∀(s:Shared)(u:Value),BindsTo s fd ⟨[u],[]⟩ [(x,u)])/\
    ∀base:Heap,(K w.params).In base->base.Ns mainGlobals mg->fj l.prog w (K w.params) mg base (CX w) k fa fd [x] (sp w))
  (hsp:∀(w:World)(H:Hp)(a:Addr)(ns:List Int),ns.length<=n->Only H->SqL (K w.params) H a (ns.map V.int)->sp w [.ref a] H (λv _=>v= .bl true) λ_ _ _=>False)
  (hCX:∀(w:World)(H:Hp)(s:Shared)(e:Value)(s':Shared),CX w [] H s (λ_ _ _=>False) e s'->False) :
  PySem.W.WalkO q loose XP YP l.row.toRowW d [] (λf vs=>PySem.call f vs):=by
 refine Att.attach_call hn hdf λw s₀ s₁ mg mb fa o pm cd doc a vs ns G Y ho hd hcd hmg hobj hints hlen hg=>?_;have KX:=hY w _ Y;obtain⟨fd,hb,hF⟩:=F w mg fa _ KX G.T.g hmg;exact K5 KX G.T.g G.T.b G.T.builtins G.T.nolimit hg hobj hints (Nat.le_trans hlen hn2) hr hF hb (λH hO hS=>hsp w H a ns hlen hO hS) λH e s'=>hCX w H s₁ e s'
def bG(s:Stmt):Arguments:=match s with
 |.FunctionDef _ a _ _ _ _ _ _ _ _=>a
 |_=>{posonlyargs:=[],args:=[],vararg:=none,kwonlyargs:=[],kw_defaults:=[],kwarg:=none,defaults:=[]}
def bw(s:Stmt):List Stmt:=match s with
 |.FunctionDef _ _ b _ _ _ _ _ _ _=>b
 |_=>[]
def aB(s:Stmt):Scope:=match s with
 |.FunctionDef _ _ _ _ _ _ sc _ _ _=>sc
 |_=>{kind:=.function,names:=[],isGenerator:=false,isCoroutine:=false}
abbrev CX0:CXT:=λ_ _ _ _ _ _=>False
abbrev E0:XK:=λ_ _ _=>False
theorem Vg{X:Cx}:Dv CX0 X E0:=λ_ _ _ _ _ _ _ h=>h.elim
structure Fun(K:PySem.W.Frag)(x qual:Str)(st:Stmt)(f:Addr)(fd:FuncData):Prop where
 ex:∃(oc:Value)(od:Option Addr)(kV doc pm:Value)(an:Option Addr)(cdv ct:Value)(osl:Array (Option Value)),
  fd=PySem.W.fnOf x qual (bG st) (bw st) (aB st) .none kV doc pm an cdv ct/\K.lookup f=some ⟨oc,od,.func fd,osl⟩/\PySem.W.codeIn K cdv qual=true
 kp:PySem.W.keepIn K (.ref f)=true
section
variable{P:Program}{w:World}{K:PySem.W.Frag}{mg:Str->Option Value}{base:Heap}
theorem Fun.ok{x qual:Str}{st:Stmt}{f:Addr}{fd:FuncData}{N ps:List Str}{k:Nat}{sp:Sp}(F:Fun K x qual st f fd)(S:bC N ps (aB st))(len:∀vs H Q E,sp vs H Q E->vs.length=ps.length)
  (hbody:∀(cdv:Value)(A:Around)(outer:List Env)(s:Shared)(H:Hp)(vs:List V)(Q:VK)(E:XK),jK k (A.deeper (envOfC qual (aB st) s.heap.objs.size f cdv))->sp vs H Q E->
   ∃t,PSs (Aq CX0 P w K mg base N qual (aB st) f cdv A outer s H E).nox (bw st) t/\t {nx:=λ_ H'=>Q .non H',rt:=Q} (start N vs) H):fj P w K mg base CX0 (k+1) f fd ps sp:=by
 obtain⟨oc,od,kV,doc,pm,an,cdv,ct,osl,rfl,lk,hcd⟩:=F.ex;refine T5 lk hcd S len λA outer s H vs Q E hr hsp=>?_;obtain⟨t,h,q⟩:=hbody cdv A outer s H vs Q E hr hsp;exact⟨t,h.nox,q⟩
theorem Fun.binds{x qual:Str}{st:Stmt}{f:Addr}{fd:FuncData}{ps:List Str}(F:Fun K x qual st f fd)
  (h:∀(kV doc pm:Value)(an:Option Addr)(cdv ct:Value)(us:List Value),us.length=ps.length->bindArgs (PySem.W.fnOf x qual (bG st) (bw st) (aB st) .none kV doc pm an cdv ct) ⟨us,[]⟩=pure (ps.zip us)):Binds K fd ps []:=by
 obtain⟨oc,od,kV,doc,pm,an,cdv,ct,osl,rfl,lk,hcd⟩:=F.ex;exact .all (h kV doc pm an cdv ct)
theorem cV{x qual:Str}{st:Stmt}{f:Addr}{oc:Value}{od an:Option Addr}{osl:Array (Option Value)}{kV doc pm cdv ct:Value}(l:K.lookup f=some ⟨oc,od,.func (PySem.W.fnOf x qual (bG st) (bw st) (aB st) .none kV doc pm an cdv ct),osl⟩)
 (c:PySem.W.codeIn K cdv qual=true) (k:PySem.W.keepIn K (.ref f)=true):Fun K x qual st f (PySem.W.fnOf x qual (bG st) (bw st) (aB st) .none kV doc pm an cdv ct):=⟨⟨oc,od,kV,doc,pm,an,cdv,ct,osl,rfl,l,c⟩,k⟩
end
section
variable{X:Cx}
theorem pv(i:Nat){x:Str}{pos:Pos}(hN:X.N[i]? =some x:=by rfl)(hv:Vis X.env.scope x:=by first|exact Or.inl rfl|exact Or.inr (Or.inl rfl)|exact Or.inr (Or.inr rfl))(hd:(x==("__debug__":Str))=false:=by decide)
 (hcd:(x==("__classdict__":Str))=false:=by decide):PE X (.Name x pos) (Nu i):=R1 hN hv hd hcd
end
theorem uZ{A B:Prop}(h:B):if false=true then A else B:=by
 rw[if_neg Bool.false_ne_true];exact h
theorem pL{A B:Prop}(h:A):if true=true then A else B:=by
 rw[if_pos rfl];exact h
def Same(H H':Hp):Prop:=∀b o,H b=some o->H' b=some o
theorem Same.refl(H:Hp):Same H H:=λ_ _ h=>h
theorem Same.trans{H H1 H2:Hp}(a:Same H H1)(b:Same H1 H2):Same H H2:=λc o h=>b c o (a c o h)
theorem Same.free{H H':Hp}(e:Same H H'){l:Addr}(h:H' l=Option.none):H l=Option.none:=by
 cases q:H l with
 |none=>rfl
 |some o=>
  rw[e l o q]at h;cases h
theorem Same.seq{K:PySem.W.Frag}{H H':Hp}{a:Addr}{xs:List V}(e:Same H H')(h:SqL K H a xs):SqL K H' a xs:=by
 rcases h with(h|⟨o,h⟩)|h
 .exact .inl (.inl (e _ _ h))
 .exact .inl (.inr ⟨o,e _ _ h⟩)
 .exact .inr h
section
variable{X:Cx}
theorem Ht:fD X (.builtin "len") (λxs H Q=>∃a kvs,xs=[V.ref a]/\H a=some (.dK kvs)/\Q (.int kvs.length) H):=by
 intro pins s σ H xs us Q I r h;obtain⟨a,kvs,rfl,ha,q⟩:=h;obtain⟨u,rfl,ru⟩:=vals1 r;cases ru;exact Vn I (.inl ha) λt s' I'=>⟨.int kvs.length,H,I',⟨t,rfl⟩,q⟩
end
end L2
set_option maxHeartbeats 4000000
namespace Jb
open PySem PySem.Spec PyProof.Rows L2
structure Cal(P:Program)(w:World)(K:PySem.W.Frag)(mg:Str->Option Value)(base:Heap)(k:Nat)(x:Str)(ps:List Str)(sp:Sp):Prop where
 ex:∃f fd,fj P w K mg base CX0 k f fd ps sp/\mg x=some (.ref f)/\PySem.W.keepIn K (.ref f)=true/\Binds K fd ps []
section
variable{X:Cx}{e:Expr}{es:List Expr}{t:TA}{p pos:Pos}{a b:Expr}{ta tb:TE}
theorem Jm{k:Nat}{x:Str}{ps:List Str}{sp:Sp}(C:Cal X.prog X.w X.K X.mg X.base k x ps sp)(hr:jK k X.A)(hg:Gl X x)(ha:PA X (e::es) t)
  (hdb:(x==("__debug__":Str))=false:=by decide) (he:starEach (e::es) X.env=(false,eval e X.env)::starEach es X.env:=by rfl) (hpl:(backTo pos (starEach es X.env)).any (·.1)=false:=by rfl) :
  PE X (.Call (.Name x p) (e::es) [] pos) (Qq sp [] E0 t):=by
 obtain⟨f,fd,F,hm,hk,hb⟩:=C.ex;exact PK F hr hg hm hk hb .nil Vg ha hdb he hpl
theorem Vp{x:Str}{n:String}(hg:Gl X x)(hm:X.mg x=none)(hv:bootBuiltins x=some (.type n))(hn:x≠"__name__":=by decide)(hd:(x==("__debug__":Str))=false:=by decide):PE X (.Name x pos) (tC (.ty n)):=
 MP hg hm hv rfl hn hd
def T9(_ j:Int):Prop:=0<j/\j<18446744073709551616
theorem Kg:OpR X (binaryOp .FloorDiv) (rI T9 λi j=>.int (i / j)):=opI λi j _ _ _ _ _ hc q=>by
 have h1:(0:Int)<j:=hc.1;have h2:j<18446744073709551616:=hc.2;have h3:j.natAbs<2 ^ 64:=by omega
 have h4:j.natAbs≠0:=by omega
 have h5:j.natAbs.log2<64:=(Nat.log2_lt h4).mpr h3;exact floordiv_int (by omega) (by rw[Int.fdiv_eq_ediv_of_nonneg i (by omega)];exact q) (.inl (PyProof.noPylong_of_log2 (by omega)))
theorem Bq:fD X (.builtin "isinstance") (λxs H Q=>∃x n t b,xs=[x,.ty n]/\nu X.K H x t/\PySem.W.kitOne X.K t (.type n)=some b/\Q (.bl b) H):=by
 intro pins s σ H xs us Q I r h;obtain⟨x,n,t,b,rfl,ty,e,q⟩:=h;obtain⟨u,w',rfl,r1,r2⟩:=vals2 r;cases r2;exact GJ I r1 ty e λtk=>⟨.bl b,H,I.tok tk,rfl,q⟩
end
theorem Same.new{q:Addr}{H:Hp}{o:HO}(h:H q=none):Same H (L2.upd H q o):=λb u e=>by rw[aV (bh e h)];exact e
theorem Ea{α β:Type}{l:List α}{f:α->β->Sem (ForInStep β)}(g:β->α->β):∀(init:β),(∀x∈l,∀c,f x c=pure (.yield (g c x)))->forIn l init f=pure (l.foldl g init):=by
 induction l with
 |nil=>intro init _;rfl
 |cons x r ih=>
  intro init h;rw[List.forIn_cons,h x List.mem_cons_self init];show(pure (ForInStep.yield (g init x)) >>=_)=_;rw[pure_bind];exact ih (g init x) λy hy c=>h y (List.mem_cons_of_mem _ hy) c
def pP(env:Env)(cs:List (Str×Addr))(y:Str×NameKind):List (Str×Addr):=if y.2== .free then(y.1,(env.cells.lookup y.1).getD 0)::cs else cs
def wC(scope:Scope)(env:Env):List (Str×Addr):=scope.names.foldl (pP env) []
theorem pU{scope:Scope}{env:Env}(h:∀y∈scope.names,y.2= .free->∃c,env.cells.lookup y.1=some c):closureFor scope env=pure (wC scope env):=by
 unfold closureFor;dsimp only;rw[Ea (pP env) [] λy hy c=>?_]
 .rw[pure_bind]
  rfl
 .obtain⟨n,k⟩:=y
  unfold pP;dsimp only;by_cases hk:(k==NameKind.free)=true
  .rw[if_pos hk,if_pos hk]
   obtain⟨a,ha⟩:=h (n,k) hy (by simpa using hk);have ha:env.cells.lookup n=some a:=ha;unfold cellOf;rw[ha];rfl
  .rw[if_neg hk,if_neg hk]
theorem xP{env:Env}(R:Str->Addr->Prop):∀(l:List (Str×NameKind))(acc:List (Str×Addr)),(∀x c,acc.lookup x=some c->R x c)->(∀y∈l,y.2= .free->R y.1 ((env.cells.lookup y.1).getD 0))->
  ∀x c,(l.foldl (pP env) acc).lookup x=some c->R x c
 |[],acc,h,_=>h
 |y::r,acc,h,hy=>by
  refine xP R r (pP env acc y) (λx c e=>?_) λz hz=>hy z (List.mem_cons_of_mem _ hz);unfold pP at e;split at e
  .rename_i hk
   rw[List.lookup_cons]at e;cases hx:(x==y.1)with
   |true=>
    rw[hx]at e;have ex:x=y.1:=by simpa using hx
    cases e;rw[ex];exact hy y List.mem_cons_self (by simpa using hk)
   |false=>
    rw[hx]at e;exact h x c e
  .exact h x c e
theorem sW{env:Env}:∀(l:List (Str×NameKind))(acc:List (Str×Addr))(x:Str),((∃c,acc.lookup x=some c)∨(x,NameKind.free)∈l)->∃c,(l.foldl (pP env) acc).lookup x=some c
 |[],acc,x,h=>by
  rcases h with h|h
  .exact h
  .cases h
 |y::r,acc,x,h=>by
  refine sW r (pP env acc y) x ?_;rcases h with⟨c,h⟩|h
  .left
   unfold pP;split
   .rw[List.lookup_cons]
    cases hx:(x==y.1)with
    |true=>exact⟨_,rfl⟩
    |false=>exact⟨c,h⟩
   .exact⟨c,h⟩
  .rcases List.mem_cons.mp h with e|e
   .left
    unfold pP;subst e;rw[if_pos (by rfl),List.lookup_cons,show(x==x)=true by simp];exact⟨_,rfl⟩
   .exact .inr e
def dY(X:Cx)(N':List Str)(scope:Scope)(C:Addr)(s₂:Shared)(H₂:Hp)(fp:List Addr):Cx:=
 {X with N:=N',s₀:=s₂,H₀:=H₂,env:=compEnvC scope (wC scope X.env) C X.env,outer:=X.stack,stack:=X.stack,ex:=fp,fn:=λ_=>false,pn:=[],xe:=λ_ _=>False}
def iT(cap:List (Option Nat))(σ:L2.St):L2.St:=cap.map λo=>o.bind λj=>(σ[j]?).bind id
structure bR(sc:Scope)(N N':List Str)(scope:Scope)(cap:List (Option Nat)):Prop where
 kind:scope.kind= .function
 nocell:∀y∈scope.names,y.2≠.cell
 nm:∀y∈scope.names,y.2= .local->scope.names.lookup y.1=some .local
 free:∀y∈scope.names,y.2= .free->sc.names.lookup y.1=some .cell∨sc.names.lookup y.1=some .free
 len:cap.length=N'.length
 cap:∀i∈List.range cap.length,∀j∈List.range N.length,cap[i]? =some (some j)->N[j]? =N'[i]?/\∀x∈N'[i]?,scope.names.lookup x=some .free
theorem n6{α:Type}{l:List (Str×α)}{x:Str}{k:α}(h:l.lookup x=some k):(x,k)∈l:=PySem.mem_of_lookup h
theorem qC{scope:Scope}{env:Env}{x:Str}{k:NameKind}(hk:(relabel scope env).names.lookup x=some k)(hk2:k= .cell∨k= .free)(hnc:∀y∈scope.names,y.2≠.cell):(x,NameKind.free)∈scope.names:=by
 have h:=n6 hk;obtain⟨⟨n,q⟩,hm,e⟩:=List.mem_map.mp h;dsimp only at e;split at e
 .rename_i hc
  cases e;have:q= .free:=by
   have:=(Bool.and_eq_true_iff.mp (Bool.and_eq_true_iff.mp hc).1).1;simpa using this
  subst this;exact hm
 .cases e
  rcases hk2 with z|z
  .subst z;exact absurd rfl (hnc _ hm)
  .subst z;exact hm
section
variable{X:Cx}{pins:List (Addr×Obj)}{σ:L2.St}{H:Hp}{s:Shared}{scope:Scope}{N':List Str}{cap:List (Option Nat)}{fp:List Addr}{C:Addr}
theorem jW(I:Inv X pins σ H s)(O:bR X.env.scope X.N N' scope cap){x:Str}{c:Addr}(h:(wC scope X.env).lookup x=some c):X.env.cells.lookup x=some c:=by
 refine xP (λx c=>X.env.cells.lookup x=some c) scope.names [] (λx c e=>by simp at e) (λy hy hk=>?_) x c h;obtain⟨c,e⟩:=I.ok.has y.1 (O.free y hy hk);rw[e];rfl
theorem Nb(I:Inv X pins σ H s)(O:bR X.env.scope X.N N' scope cap)(hf:∀b∈fp,mL X pins H b)(hlt:∀b∈fp,b<s.heap.objs.size)(hC:s.heap.objs.size<=C):(dY X N' scope C s H fp).Ok where
 mod:=I.ok.mod
 kind:=O.kind
 glob:=I.ok.glob
 blt:=I.ok.blt
 above:=hC
 inj:=λx y c h1 h2=>I.ok.inj x y c (jW I O h1) (jW I O h2)
 has:=λx h=>by
  refine sW scope.names [] x (.inr ?_);rcases h with h|h
  .exact qC h (.inl rfl) O.nocell
  .exact qC h (.inr rfl) O.nocell
 cab:=λx c h _=>by cases h
 hd:=I.ok.hd
 frames:=I.ok.frames
 stk:=.inl rfl
 exf:=λb hb=>⟨Nat.ne_of_lt (Nat.lt_of_lt_of_le (hlt b hb) hC),λx c e=>(hf b hb).2.2.2.2.1 x c (jW I O e)⟩
 bs:=I.bs
 bsz:=Nat.le_trans I.ok.bsz I.sz
 noex:=λb o e hb=>by
  rcases(hf b hb).2.2.2.1 with z|z
  .exact I.ok.noex b o e z
  .exact absurd (Nat.lt_of_lt_of_le (Heap.lt_size (I.ok.bs b o e).1) z) (Nat.lt_irrefl _)
 exfs:=λb hb z=>by
  rcases List.mem_cons.mp (I.stkSub b z)with q|q
  .exact(hf b hb).2.1 q
  .exact(hf b hb).2.2.1 q
 funs:=I.stack
 frf:=I.stkFree
theorem Jg{h₁:Heap}{tk:Nat}{D:Addr}{o:Obj}(I:Inv X pins σ H s)(O:bR X.env.scope X.N N' scope cap)(hf:∀b∈fp,mL X pins H b)(hlt:∀b∈fp,b<s.heap.objs.size)
  (hC:s.heap.objs.size<=C) (hD:s.heap.objs.size<=D) (hDC:D≠C) (old:∀b u,s.heap.get? b=some u->h₁.get? b=some u) {m:Str->Option Value} (hns:h₁.Ns C m) (hDo:h₁.get? D=some o) (hoc:∀v,o.data≠.cell v) :
  Inv (dY X N' scope C s H fp) [(D,o)] (iT cap σ) H {s with heap:=h₁,toks:=tk}where
 ok:=Nb I O hf hlt hC
 os:=rfl
 bare:=I.bare
 base:=Un.kept old
 loc:=by
  refine⟨m,hns,λi x v e1 e2 e3=>?_⟩;have e1:N'[i]? =some x:=e1;unfold iT at e2;rw[List.getElem?_map]at e2;cases hc:cap[i]? with
  |none=>rw[hc]at e2;cases e2
  |some q=>
   rw[hc]at e2;cases q with
   |none=>cases e2
   |some j=>
    have e2:(σ[j]?).bind id=some v:=Option.some.inj e2;have e2':σ[j]? =some (some v):=by
     cases z:σ[j]? with
     |none=>rw[z]at e2;cases e2
     |some y=>
      rw[z]at e2;have:y=some v:=e2;rw[this]
    have hi:i<cap.length:=(List.getElem?_eq_some_iff.mp hc).1;have hj:j<X.N.length:=by
     have:=(List.getElem?_eq_some_iff.mp e2').1;rw[I.len]at this;exact this
    obtain⟨c1,c2⟩:=O.cap i (List.mem_range.mpr hi) j (List.mem_range.mpr hj) hc;have hfr:scope.names.lookup x=some .free:=c2 x (by rw[e1];rfl);have hN:X.N[j]? =some x:=c1.trans e1;have hfm:=n6 hfr;have hvis:Vis X.env.scope x:=(O.free _ hfm rfl).elim (λz=>.inr (.inl z)) λz=>.inr (.inr z);obtain⟨m0,_,hl⟩:=I.loc;obtain⟨u,r,lk⟩:=hl j x v hN e2' hvis;refine⟨u,r,?_⟩;rcases lk with⟨k,_⟩|⟨_,c,ec,hcell⟩
    .have k:X.env.scope.names.lookup x=some .local:=k
     rcases O.free _ hfm rfl with z|z
     .rw[k]at z;cases z
     .rw[k]at z;cases z
    .right
     obtain⟨c',ec'⟩:=sW (env:=X.env) scope.names [] x (.inr hfm);have e3':=jW I O ec';rw[ec]at e3';cases e3';refine⟨?_,c,ec',?_⟩
     .have e3:Vis (relabel scope X.env) x:=e3
      rcases e3 with e3|e3|e3
      .exfalso
       have hm:=n6 e3;obtain⟨⟨n,q⟩,hm',e⟩:=List.mem_map.mp hm;dsimp only at e;split at e
       .cases e
       .cases e
        have:=O.nm _ hm' rfl;rw[hfr]at this;cases this
      .exact .inl e3
      .exact .inr e3
     .obtain⟨oc,h1,h2⟩:=hcell
      exact⟨oc,old _ _ h1,h2⟩
 cell:=λx c e=>by
  obtain⟨v,oc,h1,h2⟩:=I.cell x c (jW I O e);exact⟨v,oc,old _ _ h1,h2⟩
 free:=I.hok.fresh hC
 freeC:=λx c e=>I.freeC x c (jW I O e)
 pin:=λp hp=>by
  have e:p=(D,o):=by simpa[dY]using hp
  subst e;refine⟨hDo,I.hok.fresh hD,hDC,λz=>?_,hoc⟩;obtain⟨b,hb,e⟩:=List.mem_filterMap.mp z;have hz:D∈X.env.locals::X.fs:=I.stkSub D z;rcases List.mem_cons.mp hz with q|q
  .exact absurd (Nat.lt_of_lt_of_le (by rw[q];exact I.lt) hD) (Nat.lt_irrefl _)
  .exact I.nofs hD q
 hok:=I.hok.kept old
 len:=by
  unfold iT;rw[List.length_map];exact O.len
end
abbrev NoX:Value->Shared->Prop:=λ_ _=>False
section
variable{prog:Program}{w:World}{A:Around}{R:Result->Shared->Prop}{s:Shared}
theorem zq{elt target iter:Expr}{ifs:List Expr}{scope:Scope}{pos:Pos}{it acc:Value}{env:Env}(I:Nat->Shared->Prop)
  (turn:∀n s,I n s->wpAny (model prog w) A (pyNext it) (λr s₁=>match r with
   |none=>R (.ok .next) s₁
   |some v=>wpAny (model prog w) A (letOwnedTupleGo target it v) (λ_ s₁'=>wpAny (model prog w) A (assign target env v) (λ_ s₂=>
    wpAny (model prog w) A (forIn ifs true λc r=>if r=true then do let ok ←isTrue c env (eval c env);pure (ForInStep.yield ok)else pure (ForInStep.yield r)) (λok s₃=>
     if ok=true then wpAny (model prog w) A (eval elt env) (λx s₄=>wpAny (model prog w) A (call (.builtin "list.append") [acc,x]) (λ_ s₅=>∃m,m<n/\I m s₅) NoX s₄) NoX s₃
     else ∃m,m<n/\I m s₃) NoX s₂) NoX s₁') NoX s₁) NoX s)
  (n:Nat) (h:I n s):codeAny (model prog w) A (.compLoop (.ListComp elt [⟨target,iter,ifs,0⟩] scope pos) 0 it acc env) R s:=by
 refine codeAny_loop rfl I (λn s hI=>?_) n h;show wpAny _ A ((compTurn (.ListComp elt [⟨target,iter,ifs,0⟩] scope pos) 0 it acc env).onRaise (λx=>do noteFrame x env;theTreesLotGoes x)) _ _ s;refine wpAny_noted ?_;rw[compTurn_list];refine wpAny_bind (wpAny_standAt (wpAny_bind (wpAny_mono (turn n s hI) (λr s₁ h₁=>?_) λ_ _ h'=>h'.elim)));cases r with
 |none=>exact wpAny_pure h₁
 |some v=>
  refine wpAny_bind (wpAny_mono h₁ (λ_ s₁' h₁'=>?_) λ_ _ h'=>h'.elim);refine wpAny_bind (wpAny_mono h₁' (λ_ s₂ h₂=>wpAny_bind (wpAny_mono h₂ (λok s₃ h₃=>?_) λ_ _ h'=>h'.elim)) λ_ _ h'=>h'.elim);cases ok with
  |false=>exact wpAny_pure ⟨rfl,h₃⟩
  |true=>
   exact wpAny_bind (wpAny_bind (wpAny_mono h₃ (λx s₄ h₄=>wpAny_bind (wpAny_mono h₄ (λ_ s₅ h₅=>wpAny_pure (wpAny_pure ⟨rfl,h₅⟩)) λ_ _ h'=>h'.elim)) λ_ _ h'=>h'.elim))
end
def PTs(X:Cx)(ifs:List Expr)(t:TT):Prop:=
 ∀(pins:List (Addr×Obj))(s:Shared)(σ:L2.St)(H:Hp)(Q:Bool->Hp->Prop),Inv X pins σ H s->t σ H Q->
  wpAny (model X.prog X.w) X.A (forIn ifs true λc r=>if r=true then do let ok ←isTrue c X.env (eval c X.env);pure (ForInStep.yield ok)else pure (ForInStep.yield r)) (TP X pins σ Q) X.xe s
def UT:TT:=λ_ H Q=>Q true H
theorem N7{X:Cx}:PTs X [] UT:=λ_ _ _ H _ I h=>wpAny_tests_nil ⟨H,I,h⟩
theorem FW{X:Cx}{c:Expr}{t:TT}(h:PT X c t):PTs X [c] t:=λpins s σ H Q I q=>wpAny_tests_one (h pins s σ H Q I q)
def Kp(σ τ:L2.St):Prop:=∀(i:Nat) v,σ[i]? =some (some v)->τ[i]? =some (some v)
theorem Kp.nil:Kp [] []:=λi v h=>h
theorem Kp.none{σ τ:L2.St}{a:Option V}(h:Kp σ τ):Kp (Option.none::σ) (a::τ):=λi v e=>by
 cases i with
 |zero=>cases e
 |succ i=>exact h i v e
theorem Kp.cons{σ τ:L2.St}{a:Option V}(h:Kp σ τ):Kp (a::σ) (a::τ):=λi v e=>by
 cases i with
 |zero=>exact e
 |succ i=>exact h i v e
def Qs(J:It)(H:Hp)(g:TG)(tt:TT)(te:TE)(σ:L2.St)(Q:List V->Hp->Prop):Prop:=
 ∃W:Nat->Nat->List V->Hp->Prop,(∃m,W 0 m [] H)/\∀i m ys H,W i m ys H->
  (J.stop i H/\Q ys H)∨(J.go i H/\ys.length<sizeLine/\∃N:List V->Hp->Prop,(∀ys' H',N ys' H'->∃m',m'<m/\W (i+1) m' ys' H')/\
   ∀x H',J.yld i H x H'->g x σ H' λσ2 H2=>Kp σ σ2/\tt σ2 H2 λb H3=>if b=true then te σ2 H3 λv H4=>N (ys++[v]) H4 else N ys H3)
def BZ(cap:List (Option Nat))(wi:TI)(g:TG)(tt:TT)(te:TE):TE:=λσ H Q=>wi σ H λJ H1=>
 Qs J H1 g tt te (iT cap σ) λys H2=>ys.length<=sizeLine/\∀D,H2 D=none->Q (.ref D) (upd H2 D (.lst ys))
section
variable{X:Cx}{elt target iter:Expr}{ifs:List Expr}{scope:Scope}{pos:Pos}{N':List Str}{cap:List (Option Nat)}{wi:TI}{g:TG}{tt:TT}{te:TE}
def lobj(its:List Value)(n:Nat):Obj:={cls:=.type "list",data:=.seq its.toArray n}
theorem vK{pins:List (Addr×Obj)}{σ:L2.St}{H:Hp}{s₂:Shared}{it:Addr}{fp:List Addr}{tn:Nat->Heap->Prop}{J:It}{Q:List V->Hp->Prop}{RR:Value->Addr->Result->Shared->Prop}{E:Value->Shared->Prop}
  (hc:X.calm=true) (O:bR X.env.scope X.N N' scope cap) (I:Inv X pins σ H s₂) (T:Turn X.prog X.w X.K target J fp it tn) (st:tn 0 s₂.heap) (f2:∀b∈fp,mL X pins H b)
  (hg:∀C,PG (dY X N' scope C s₂ H fp) target g) (ht:∀C,PTs (dY X N' scope C s₂ H fp) ifs tt) (he:∀C,PE (dY X N' scope C s₂ H fp) elt te) (cw:Qs J H g tt te (iT cap σ) Q)
  (hRR:∀(D C:Addr)(s':Shared)(H':Hp)(ys:List V)(its:List Value)(n:Nat)(σ':L2.St),s₂.heap.objs.size<=D->s₂.heap.objs.size<=C->D≠C->Inv (dY X N' scope C s₂ H fp) [(D,lobj its n)] σ' H' s'->Vals ys its->Q ys H'->
   RR (.ref D) C (.ok .next) s') :
  wpAny (model X.prog X.w) X.A (newList []) (λacc s₃=>wpAny (model X.prog X.w) X.A (newFunctionEnv scope X.env.globals (wC scope X.env) [] X.env.qual none .none (some X.env)) (λcenv s₄=>
   codeAny (model X.prog X.w) X.A (.compStart (.ListComp elt [⟨target,iter,ifs,0⟩] scope pos) 0 (.ref it) acc {cenv with scope:=relabel scope X.env}) (RR acc cenv.locals) s₄) E s₃) E s₂:=by
 refine wpAny_newObj_type (wpAny_newFunctionEnv O.nocell (by intro y hy;simp at hy) (λh₁ hns₁ hsb₁=>?_) O.kind);dsimp only at hns₁ hsb₁⊢;generalize hH2:s₂.heap.push {cls:=.type "list",dict:=none,data:=.seq ([]:List Value).toArray}=H2 at hns₁ hsb₁⊢;have hC:H2.objs.size=s₂.heap.objs.size+1:=by rw[←hH2,Heap.size_push]
 have hDC:s₂.heap.objs.size≠H2.objs.size:=by rw[hC];exact Nat.ne_of_lt (Nat.lt_succ_self _)
 have hCle:s₂.heap.objs.size<=H2.objs.size:=by rw[hC];exact Nat.le_succ _
 have old:∀b o,s₂.heap.get? b=some o->h₁.get? b=some o:=λb o e=>hsb₁.extBut b o (by rw[hC];exact Nat.ne_of_lt (Nat.lt_succ_of_lt (Heap.lt_size e))) (Heap.get?_push_of_some _ (hH2▸Heap.get?_push_of_some _ e));have hacc:h₁.get? s₂.heap.objs.size=some (lobj [] 0):=hsb₁.extBut _ _ hDC (Heap.get?_push_of_some _ (hH2▸Heap.get?_push_size _ rfl));have hlt:∀b∈fp,b<s₂.heap.objs.size:=λb hb=>by
  obtain⟨o,e,_⟩:=T.obj 0 _ st b hb;exact Heap.lt_size e
 have I1:=Jg (tk:=s₂.toks+([]:List (Str×Value)).length) I O f2 hlt hCle (Nat.le_refl _) hDC old hns₁ hacc (λv z=>by cases z);have st1:tn 0 h₁:=T.keep _ _ _ st λb _ o e=>old b o e;obtain⟨W,⟨m0,w0⟩,turn⟩:=cw;generalize hD:s₂.heap.objs.size=D at *
 generalize hCC:H2.objs.size=C at *
 have stat:∀{H':Hp}{o:Obj},(∀b∈fp,H' b=none)->∀b∈fp,mL (dY X N' scope C s₂ H fp) [(D,o)] H' b:=λ{H' o} hn b hb=>by
  refine⟨hn b hb,Nat.ne_of_lt (Nat.lt_of_lt_of_le (hlt b hb) hCle),I1.ok.exfs b hb,.inl hb,(I1.ok.exf b hb).2,λp hp=>?_⟩;have e:p=(D,o):=by simpa[dY]using hp
  subst e;exact Nat.ne_of_gt (hlt b hb)
 have loop:codeAny (model X.prog X.w) X.A (.compLoop (.ListComp elt [⟨target,iter,ifs,0⟩] scope pos) 0 (.ref it) (.ref D) (compEnvC scope (wC scope X.env) C X.env)) (RR (.ref D) C) {s₂ with heap:=h₁,toks:=s₂.toks+([]:List (Str×Value)).length}:=by
  refine zq (λn s'=>∃i ys its k H',Inv (dY X N' scope C s₂ H fp) [(D,lobj its k)] (iT cap σ) H' s'/\Vals ys its/\tn i s'.heap/\(∀b∈fp,H' b=none)/\W i n ys H') ?_ m0 ⟨0,[],[],0,H,I1,.nil,st1,λb hb=>(f2 b hb).1,w0⟩;rintro n s3 ⟨i,ys,its,k,H3,I3,rv,st3,fr3,w3⟩;rcases turn i n ys H3 w3 with⟨stop,qn⟩|⟨go,hsz,N,hN,step⟩
  .refine thn (T.done (dY X N' scope C s₂ H fp) rfl rfl rfl hc i _ s3 _ H3 NoX I3 (stat fr3) st3 stop) λr s4 ⟨hr,I4⟩=>?_
   subst hr;exact hRR D C s4 H3 ys its k _ (Nat.le_refl _) hCle hDC I4 rv qn
  .refine thn (T.item (dY X N' scope C s₂ H fp) rfl rfl rfl hc i _ s3 _ H3 NoX I3 (stat fr3) st3 go) λr s4 ⟨u,hr,h4⟩=>?_
   subst hr;refine thn h4 λ_ s5 ⟨x,H5,I5,r5,y5,st5,fr5⟩=>?_;have I5':=I5.pinned (stat fr5) (T.obj _ _ st5);refine thn (hg C _ s5 _ H5 x u _ I5' r5 (step x H5 y5)) λ_ s6 ⟨σ6,H6,I6,kp6,q6⟩=>?_;refine thn (ht C _ s6 σ6 H6 _ I6 q6) λok s7 ⟨H7,I7,q7⟩=>?_;have keepT:∀{s':Shared}{H':Hp}{σ':L2.St},Inv (dY X N' scope C s₂ H fp) ([(D,lobj its k)]++qt fp s5.heap) σ' H' s'->tn (i+1) s'.heap/\∀b∈fp,H' b=none:=λ{s' H' σ'} Ix=>by
    refine⟨T.keep _ _ _ st5 λb hb o e=>(Ix.pin (b,o) (List.mem_append_right _ (List.mem_append_right _ (il hb e)))).1,λb hb=>?_⟩;obtain⟨o,e,d⟩:=T.obj _ _ st5 b hb;exact(Ix.pin (b,o) (List.mem_append_right _ (List.mem_append_right _ (il hb e)))).2.1
   have ln6:(iT cap σ).length=σ6.length:=by rw[I6.len,I1.len]
   cases ok with
   |false=>
    have n7:N ys H7:=by simpa using q7
    obtain⟨m',hm,w7⟩:=hN _ _ n7;exact⟨m',hm,i+1,ys,its,k,H7,I7.unpinned.weak ln6 kp6,rv,(keepT I7).1,(keepT I7).2,w7⟩
   |true=>
    have q7:te σ6 H7 λv H4=>N (ys++[v]) H4:=by simpa using q7
    refine thn (he C _ s7 σ6 H7 _ I7 q7) λu8 s8 ⟨v,H8,I8,r8,n8⟩=>?_;obtain⟨eD,nD,_,nfD,_⟩:=I8.pin (D,lobj its k) (List.mem_append_right _ (List.mem_append_left _ List.mem_cons_self));have lv:=rv.length;refine call_meets F.slot_list_append ⟨_,eD,rfl⟩ F.entry_list_append (F.args_list_append_2 _ _) (PySem.list_append D its.toArray k u8 (by rw[List.size_toArray];omega)) ⟨eD,?_⟩;obtain⟨m',hm,w8⟩:=hN _ _ n8;obtain⟨k',eN⟩:∃k',(s8.heap.update D (Obj.mapSeq (·.push u8))).get? D=some (lobj (its++[u8]) k'):=by
     have q:=PySem.IsL.update eD (·.push u8);dsimp only at q;rw[List.push_toArray]at q;exact⟨_,q⟩
    have I9:Inv (dY X N' scope C s₂ H fp) (qt fp s5.heap) σ6 H8 {s8 with heap:=s8.heap.update D (Obj.mapSeq (·.push u8))}:=by
     refine Inv.turned (it:=D) (t':=s8.toks) (I8.pins_of λp hp=>I8.pin p (List.mem_append_right _ (List.mem_append_right _ hp))) (λb o hb e=>(Heap.get?_update_other s8.heap (Obj.mapSeq _) (Ne.symm hb)).trans e) nD hDC (.inr (by rw[←hD];exact Nat.le_refl _)) (λx c e z=>?_) (λp hp z=>?_)
     .obtain⟨vc,oc,h1,_⟩:=I.cell x c (jW I O e)
      have hh:=Heap.lt_size h1;rw[z,hD]at hh;exact Nat.lt_irrefl _ hh
     .have hp:p∈qt fp s5.heap:=hp
      have hh:=hlt p.1 (xW hp).1;rw[z]at hh;exact Nat.lt_irrefl _ hh
    refine⟨m',hm,i+1,ys++[v],its++[u8],k',H8,(I9.weak ln6 kp6).pins_of (λp hp=>?_),rv.append (.cons r8 .nil),?_,λb hb=>?_,w8⟩
    .have e:p=(D,lobj (its++[u8]) k'):=List.mem_singleton.mp hp
     rw[e];exact⟨eN,nD,hDC,nfD,λv z=>by cases z⟩
    .exact T.keep _ _ _ st5 λb hb o e=>(I9.pin (b,o) (List.mem_append_right _ (il hb e))).1
    .obtain⟨o,e,d⟩:=T.obj _ _ st5 b hb
     exact(I9.pin (b,o) (List.mem_append_right _ (il hb e))).2.1
 exact codeAny_compStart_list loop (T.self _ 0 _ _ _ st1 loop)
theorem zF(hx:X.xe=NoX)(hc:X.calm=true)(O:bR X.env.scope X.N N' scope cap)(hi:PI X target iter wi)
  (hg:∀C s₂ H fp,PG (dY X N' scope C s₂ H fp) target g) (ht:∀C s₂ H fp,PTs (dY X N' scope C s₂ H fp) ifs tt) (he:∀C s₂ H fp,PE (dY X N' scope C s₂ H fp) elt te)
  (hs:∀x,foldedSetIterable iter X.env x=pure x:=by intro _;rfl):PE X (.ListComp elt [⟨target,iter,ifs,0⟩] scope pos) (BZ cap wi g tt te):=by
 intro pins s σ H Q I h;rw[eval_ListComp];refine wpAny_comprehension_free (use:=none) rfl hs (pU λy hy hk=>I.ok.has y.1 (O.free y hy hk)) O.kind O.nm (thn (hi pins s σ H _ I h) λv s1 h1=>thn h1 λitv s2 h2=>?_);obtain⟨it,fp,tn,J,H2,e,I2,T,st2,f2,cw⟩:=h2;subst e;refine vK (RR:=λacc C=>compPost (model X.prog X.w) X.A X.xe none (EP X pins σ Q) acc C) hc O I2 T st2 f2 (λC=>hg C _ _ _) (λC=>ht C _ _ _) (λC=>he C _ _ _) cw ?_;intro D C s' H' ys its n σ' hD hC hDC I' rv q;obtain⟨hz,q⟩:=q;obtain⟨m,hns,_⟩:=I'.loc;refine⟨m,hns,λh' sb=>?_⟩;obtain⟨eD,nD,_,nfD,_⟩:=I'.pin (D,lobj its n) (List.mem_append_right _ List.mem_cons_self);have I'':Inv X pins σ (upd H' D (.lst ys)) {s' with heap:=h'}:=by
  refine I2.call' (ch:=fp) I'.os ?_ ?_ I'.bare (λb hb=>⟨(f2 b hb).2.2.2.1,(f2 b hb).2.1,(f2 b hb).2.2.2.2.1,(f2 b hb).2.2.2.2.2⟩)
  .have ne:∀b o,s2.heap.get? b=some o->b≠C/\b≠D:=λb o e=>⟨Nat.ne_of_lt (Nat.lt_of_lt_of_le (Heap.lt_size e) hC),Nat.ne_of_lt (Nat.lt_of_lt_of_le (Heap.lt_size e) hD)⟩
   refine⟨λb o e n hb he=>sb.extBut b o (ne b o e).1 (I'.base.keep b o e n hb he),λb o e n hb he=>?_,λb o e n he=>?_,λb o e he=>?_,λb xs e=>?_,λb o u e=>?_,λb ps e=>?_⟩
   .obtain⟨sl,e1⟩:=I'.base.slot b o e n hb he
    exact⟨sl,sb.extBut b _ (ne b o e).1 e1⟩
   .rw[aV (ne b o e).2]
    exact I'.base.free b o e n he
   .obtain⟨o',e1⟩:=I'.base.there b o e he
    exact⟨o',sb.extBut b _ (ne b o e).1 e1⟩
   .have e1:=I'.base.tups b xs e
    rw[aV (bh e1 nD)];exact e1
   .have e1:=I'.base.frzs b o u e
    rw[aV (bh e1 nD)];exact e1
   .obtain⟨more,e1⟩:=I'.base.tbls b ps e
    refine⟨more,?_⟩;rw[aV (bh e1 nD)];exact e1
  .intro b u e
   by_cases hb:b=D
   .subst hb
    rw[bJ]at e;cases e;exact⟨hz,its,n,rv,sb.extBut _ _ hDC eD⟩
   .rw[aV hb]at e
    have nC:∀b u,H' b=some u->b≠C:=λb u e z=>by
     have hf:H' C=none:=I'.free;rw[z,hf]at e;cases e
    refine(I'.hok b u e).stay (λc v hc q=>sb.extBut c v ?_ q) (λc q=>by rw[aV (bh q nD)];exact q) λc xs q=>by rw[aV (bh q nD)];exact q
    rcases hc with z|z
    .rw[z]
     exact nC b u e
    .exact nC c _ z
 exact⟨.ref D,_,I'',rfl,q D nD⟩
end
section
variable{X:Cx}{pins:List (Addr×Obj)}{σ:L2.St}{H:Hp}{s:Shared}
theorem RX{x:V}{u t:Value}(I:Inv X pins σ H s)(rx:RelV x u)(ty:nu X.K H x t):∃Hq,PySem.W.KitX X.K u t Hq/\Hq s.heap/\u≠.builtin "__main__.__loader__#opaque":=by
 cases ty with
 |non=>cases (show u=Value.none from rx);exact⟨_,PySem.W.kitx_none,True.intro,λz=>nomatch z⟩
 |bl y=>cases (show u=Value.bool y from rx);exact⟨_,PySem.W.kitx_bool,True.intro,λz=>nomatch z⟩
 |int i=>obtain⟨t,q⟩:=(show ∃t,u=Value.int i t from rx);cases q;exact⟨_,PySem.W.kitx_int,True.intro,λz=>nomatch z⟩
 |str y=>obtain⟨t,q⟩:=(show ∃t,u=Value.str y t from rx);cases q;exact⟨_,PySem.W.kitx_str,True.intro,λz=>nomatch z⟩
 |flt y=>obtain⟨t,q⟩:=(show ∃t,u=Value.float y t from rx);cases q;exact⟨_,PySem.W.kitx_float,True.intro,λz=>nomatch z⟩
 |@lst a xs ea=>
  cases (show u=Value.ref a from rx);obtain⟨_,_,n,_,h1⟩:=(show cR X.prog X.w H s.heap a (.lst xs)from I.hok a _ ea);exact⟨_,PySem.W.kitx_list,⟨_,h1,rfl⟩,λz=>nomatch z⟩
 |@frz a ob xs ea=>
  cases (show u=Value.ref a from rx);obtain⟨_,_,_,n,_,h1⟩:=(show cR X.prog X.w H s.heap a (.frz ob (.lst xs))from I.hok a _ ea);exact⟨_,PySem.W.kitx_list,⟨_,h1,rfl⟩,λz=>nomatch z⟩
 |@tup a xs ea=>
  cases (show u=Value.ref a from rx);obtain⟨_,_,_,p⟩:=(show cR X.prog X.w H s.heap a (.tup xs)from I.hok a _ ea);obtain⟨o,h1,h2,_⟩:=p;exact⟨_,PySem.W.kitx_tuple,⟨o,h1,h2⟩,λz=>nomatch z⟩
 |@dK a kvs ea=>
  cases (show u=Value.ref a from rx);obtain⟨_,_,vs,_,p⟩:=(show cR X.prog X.w H s.heap a (.dK kvs)from I.hok a _ ea);obtain⟨o,es,ep,h1,h2,_⟩:=p;exact⟨_,PySem.W.kitx_dict,⟨o,h1,h2.1⟩,λz=>nomatch z⟩
 |@dT a kvs ea=>
  cases (show u=Value.ref a from rx);obtain⟨_,_,xs,_,o,es,ep,h1,h2,_⟩:=(show cR X.prog X.w H s.heap a (.dT kvs)from I.hok a _ ea);exact⟨_,PySem.W.kitx_dict,⟨o,h1,h2.1⟩,λz=>nomatch z⟩
 |@ins a C dx fs ea cl ha hn htk hm=>
  cases (show u=Value.ref a from rx);obtain⟨mA,O,_⟩:=Fo I.hok ea;obtain⟨od,J,_⟩:=O.look;exact⟨_,PySem.W.kitx_own (cl.get _) cl.hd ha hn htk hm,J,λz=>nomatch z⟩
theorem Gd:∀{tys:List String}{us:List Value},Vals (tys.map V.ty) us->us=tys.map Value.type
 |[],_,.nil=>rfl
 |t::r,_,.cons h q=>by cases (show _=Value.type t from h);rw[Gd q];rfl
theorem zj:fD X (.builtin "isinstance") (λxs H Q=>∃x tp tys t b,xs=[x,.ref tp]/\H tp=some (.tup (List.map V.ty tys))/\nu X.K H x t/\PySem.W.kitAny X.K t (tys.map Value.type)=some b/\Q (.bl b) H):=by
 intro pins s σ H xs us Q I r h;obtain⟨x,tp,tys,t,b,rfl,htp,ty,e,q⟩:=h;obtain⟨u,w',rfl,r1,r2⟩:=vals2 r;cases r2;obtain⟨Hq,Z,hz,hn⟩:=RX I r1 ty;obtain⟨_,its,rv,o,h1,h2,n,h3⟩:=(show cR X.prog X.w H s.heap tp (.tup (tys.map V.ty))from I.hok tp _ htp);rw[Gd rv]at h3;obtain⟨cls,dd,data,sl⟩:=o;cases h2;cases h3;exact PySem.W.kia_tup Z I.kIn hz h1 e hn λtk=>⟨.bl b,H,I.tok tk,rfl,q⟩
theorem yf:∀(tk:Nat)(l:List Str),Vals (l.map V.str) (strsFrom tk l)
 |_,[]=>.nil
 |tk,x::r=>.cons ⟨_,rfl⟩ (yf (tk+1) r)
def Rc:V->List V->Hp->VK->Prop:=λx vs H Q=>∃(a b:Str)(l:List Str),x= .str a/\vs=[.str b]/\(decide (a.length<b.length)||decide (Builtin.Str.strKind a<Builtin.Str.strKind b))=false/\(b.length==0)=false/\
 (Builtin.Str.occurrences a b 0 a.length (a.length+1)).isEmpty=false/\a.length<=sizeLine/\Builtin.Str.partsBetween a (Builtin.Str.occurrences a b 0 a.length (a.length+1)) b.length=l/\l.length<=sizeLine/\
 ∀p,H p=none->Q (.ref p) (upd H p (.lst (l.map V.str)))
theorem J7:MtR X "str.split" Rc:=by
 intro pins s σ H x vs v us Q I rx rv h;obtain⟨a,b,l,rfl,rfl,c1,c2,c3,c4,rfl,c5,q⟩:=h;obtain⟨t,rfl⟩:=rx;obtain⟨u,rfl,t',rfl⟩:=rv.one;refine call_meets F.slot_str_split (typeIs_str s a t) F.entry_str_split (F.args_str_split_2 _ _) (meets_str_split_sep a b t t' c1 c2 c3 c4 c5) ?_;exact⟨.ref s.heap.objs.size,_,I.lnew (yf _ _) (by rw[List.length_map];exact c5),rfl,q _ I.fresh⟩
end
inductive Dt where
 |non|bl (b:Bool)|int (i:Int)|str (x:Str)|lst (ds:List Dt)|tup (ds:List Dt)
mutual
def eqD:Dt->Dt->Bool
 |.non,.non=>true
 |.bl a,.bl b=>a==b
 |.int a,.int b=>a==b
 |.bl a,.int b=>(if a then 1 else 0)==b
 |.int a,.bl b=>a==(if b then 1 else 0)
 |.str a,.str b=>a==b
 |.lst a,.lst b=>eqL a b
 |.tup a,.tup b=>eqL a b
 |_,_=>false
def eqL:List Dt->List Dt->Bool
 |[],[]=>true
 |a::r,b::q=>eqD a b&&eqL r q
 |_,_=>false
end
mutual
def dp:Dt->Nat
 |.lst ds=>dpL ds+1
 |.tup ds=>dpL ds+1
 |_=>0
def dpL:List Dt->Nat
 |[]=>0
 |d::r=>max (dp d) (dpL r)
end
mutual
def Brs(K:PySem.W.Frag)(H:Hp):Dt->V->Prop
 |.non,v=>v= .non
 |.bl b,v=>v= .bl b
 |.int i,v=>v= .int i
 |.str x,v=>v= .str x
 |.lst ds,v=>∃a xs,v= .ref a/\SqL K H a xs/\gB K H ds xs
 |.tup ds,v=>∃a xs,v= .ref a/\SqT K H a xs/\gB K H ds xs
def gB(K:PySem.W.Frag)(H:Hp):List Dt->List V->Prop
 |[],xs=>xs=[]
 |d::r,xs=>∃x ys,xs=x::ys/\Brs K H d x/\gB K H r ys
end
mutual
theorem vP:∀d:Dt,eqD d d=true
 |.non=>by simp[eqD]
 |.bl _=>by simp[eqD]
 |.int _=>by simp[eqD]
 |.str _=>by simp[eqD]
 |.lst ds=>by simp[eqD,vR ds]
 |.tup ds=>by simp[eqD,vR ds]
theorem vR:∀ds:List Dt,eqL ds ds=true
 |[]=>by simp[eqL]
 |d::r=>by simp[eqL,vP d,vR r]
end
theorem gB.length{K:PySem.W.Frag}{H:Hp}:∀{ds:List Dt}{xs:List V},gB K H ds xs->ds.length=xs.length
 |[],xs,h=>by
  have h:xs=[]:=by simpa[gB]using h
  rw[h];rfl
 |d::r,xs,h=>by
  obtain⟨x,ys,rfl,_,h⟩:=(by simpa[gB]using h:∃x ys,xs=x::ys/\Brs K H d x/\gB K H r ys);simp[gB.length h]
theorem gB.get{K:PySem.W.Frag}{H:Hp}:∀{ds:List Dt}{xs:List V}{j:Nat}{x:V},gB K H ds xs->xs[j]? =some x->∃d,ds[j]? =some d/\Brs K H d x
 |[],xs,j,x,h,e=>by
  have h:xs=[]:=by simpa[gB]using h
  rw[h]at e;simp at e
 |d::r,xs,j,x,h,e=>by
  obtain⟨y,ys,rfl,hd,h⟩:=(by simpa[gB]using h:∃x ys,xs=x::ys/\Brs K H d x/\gB K H r ys);cases j with
  |zero=>
   have:y=x:=by simpa using e
   subst this;exact⟨d,rfl,hd⟩
  |succ j=>
   obtain⟨d',h1,h2⟩:=gB.get h (j:=j) (x:=x) (by simpa using e);exact⟨d',by simpa using h1,h2⟩
theorem mK:∀{ds es:List Dt},ds.length≠es.length->eqL ds es=false
 |[],[],h=>absurd rfl h
 |[],_::_,_=>by simp[eqL]
 |_::_,[],_=>by simp[eqL]
 |d::r,e::q,h=>by
  have:r.length≠q.length:=by simpa using h
  simp[eqL,mK this]
def eqJ(ds es:List Dt)(j:Nat):Bool:=eqD (ds.getD j .non) (es.getD j .non)
theorem mR:∀{ds es:List Dt},ds.length=es.length->(List.range ds.length).all (eqJ ds es)=eqL ds es
 |[],[],_=>by simp[eqL]
 |[],_::_,h=>by simp at h
 |_::_,[],h=>by simp at h
 |d::r,e::q,h=>by
  have h':r.length=q.length:=by simpa using h
  have ih:=mR h';rw[List.length_cons,List.range_succ_eq_map,List.all_cons,List.all_map,eqL];congr 1
section
variable{X:Cx}{pins:List (Addr×Obj)}{σ:L2.St}{H:Hp}{s:Shared}
theorem Bm(I:Inv X pins σ H s){a:Addr}{xs ys:List V}(h1:SqL X.K H a xs)(h2:SqT X.K H a ys):False:=by
 obtain⟨its,_,p,_⟩:=I.list h1;obtain⟨jts,_,q,_⟩:=I.tuple h2;obtain⟨o,e1,c1,_⟩:=p.isList;obtain⟨o',e2,c2,_⟩:=q;rw[e1]at e2;cases e2;rw[c1]at c2;injection c2 with z;exact absurd z (by decide)
mutual
theorem vB(I:Inv X pins σ H s):∀(d e:Dt){v:V},Brs X.K H d v->Brs X.K H e v->d=e
 |.non,e,v,h,h'=>by
  simp only[Brs]at h;subst h;cases e<;>simp[Brs]at h'<;>rfl
 |.bl b,e,v,h,h'=>by
  simp only[Brs]at h;subst h;cases e<;>simp[Brs]at h'<;>simp[h']
 |.int b,e,v,h,h'=>by
  simp only[Brs]at h;subst h;cases e<;>simp[Brs]at h'<;>simp[h']
 |.str b,e,v,h,h'=>by
  simp only[Brs]at h;subst h;cases e<;>simp[Brs]at h'<;>simp[h']
 |.lst ds,e,v,h,h'=>by
  simp only[Brs]at h;obtain⟨a,xs,rfl,hq,hb⟩:=h;cases e with
  |lst es=>
   simp only[Brs]at h';obtain⟨a',ys,e1,hq',hb'⟩:=h';cases e1;have:=I.list_inj hq hq';subst this;rw[v9 I ds es hb hb']
  |tup es=>
   simp only[Brs]at h';obtain⟨a',ys,e1,hq',hb'⟩:=h';cases e1;exact(Bm I hq hq').elim
  |_=>simp[Brs]at h'
 |.tup ds,e,v,h,h'=>by
  simp only[Brs]at h;obtain⟨a,xs,rfl,hq,hb⟩:=h;cases e with
  |tup es=>
   simp only[Brs]at h';obtain⟨a',ys,e1,hq',hb'⟩:=h';cases e1;have:=I.tuple_inj hq hq';subst this;rw[v9 I ds es hb hb']
  |lst es=>
   simp only[Brs]at h';obtain⟨a',ys,e1,hq',hb'⟩:=h';cases e1;exact(Bm I hq' hq).elim
  |_=>simp[Brs]at h'
theorem v9(I:Inv X pins σ H s):∀(ds es:List Dt){xs:List V},gB X.K H ds xs->gB X.K H es xs->ds=es
 |[],es,xs,h,h'=>by
  simp only[gB]at h;subst h;cases es with
  |nil=>rfl
  |cons e r=>simp[gB]at h'
 |d::r,es,xs,h,h'=>by
  simp only[gB]at h;obtain⟨x,ys,rfl,hd,hr⟩:=h;cases es with
  |nil=>simp[gB]at h'
  |cons e q=>
   simp only[gB]at h';obtain⟨x',ys',e1,he,hq⟩:=h';cases e1;rw[vB I d e hd he,v9 I r q hr hq]
end
open PySem.SeqAt in
mutual
theorem Qh(I:Inv X pins σ H s):∀(d e:Dt){A:Around}{v u:V}{v' u':Value},Brs X.K H d v->Brs X.K H e u->RelV v v'->RelV u u'->A.units+dp d<cLine->A.units+dp e<cLine->EqAt A s v' u' (eqD d e)
 |.non,e,A,v,u,v',u',h,h',r,r',hu,hu'=>by
  have hz:A.units<cLine:=by omega
  simp only[Brs]at h;subst h;cases (show v'=Value.none from r);cases e with
  |non=>simp only[Brs]at h';subst h';cases (show u'=Value.none from r');exact EqAt.same _
  |bl b=>simp only[Brs]at h';subst h';cases (show u'=Value.bool b from r');exact EqAt.none_bool b
  |int b=>simp only[Brs]at h';subst h';obtain⟨t,q⟩:=(show ∃t,u'=Value.int b t from r');cases q;exact EqAt.none_int b t
  |str b=>simp only[Brs]at h';subst h';obtain⟨t,q⟩:=(show ∃t,u'=Value.str b t from r');cases q;exact EqAt.none_str b t
  |lst es=>simp only[Brs]at h';obtain⟨a,xs,rfl,hq,_⟩:=h';cases (show u'=Value.ref a from r');obtain⟨its,_,p,_⟩:=I.list hq;exact EqAt.none_list p.isList hz
  |tup es=>simp only[Brs]at h';obtain⟨a,xs,rfl,hq,_⟩:=h';cases (show u'=Value.ref a from r');obtain⟨its,_,p,_⟩:=I.tuple hq;exact EqAt.none_tuple p hz
 |.bl c,e,A,v,u,v',u',h,h',r,r',hu,hu'=>by
  have hz:A.units<cLine:=by omega
  simp only[Brs]at h;subst h;cases (show v'=Value.bool c from r);cases e with
  |non=>simp only[Brs]at h';subst h';cases (show u'=Value.none from r');exact EqAt.bool_none c
  |bl b=>simp only[Brs]at h';subst h';cases (show u'=Value.bool b from r');exact EqAt.bool_bool c b
  |int b=>simp only[Brs]at h';subst h';obtain⟨t,q⟩:=(show ∃t,u'=Value.int b t from r');cases q;exact EqAt.bool_int c b t
  |str b=>simp only[Brs]at h';subst h';obtain⟨t,q⟩:=(show ∃t,u'=Value.str b t from r');cases q;exact EqAt.bool_str c b t
  |lst es=>simp only[Brs]at h';obtain⟨a,xs,rfl,hq,_⟩:=h';cases (show u'=Value.ref a from r');obtain⟨its,_,p,_⟩:=I.list hq;exact EqAt.bool_list c p.isList hz
  |tup es=>simp only[Brs]at h';obtain⟨a,xs,rfl,hq,_⟩:=h';cases (show u'=Value.ref a from r');obtain⟨its,_,p,_⟩:=I.tuple hq;exact EqAt.bool_tuple c p hz
 |.int c,e,A,v,u,v',u',h,h',r,r',hu,hu'=>by
  have hz:A.units<cLine:=by omega
  simp only[Brs]at h;subst h;obtain⟨tc,q⟩:=(show ∃t,v'=Value.int c t from r);cases q;cases e with
  |non=>simp only[Brs]at h';subst h';cases (show u'=Value.none from r');exact EqAt.int_none c tc
  |bl b=>simp only[Brs]at h';subst h';cases (show u'=Value.bool b from r');exact EqAt.int_bool c tc b
  |int b=>simp only[Brs]at h';subst h';obtain⟨t,q⟩:=(show ∃t,u'=Value.int b t from r');cases q;exact EqAt.int_int c tc b t
  |str b=>simp only[Brs]at h';subst h';obtain⟨t,q⟩:=(show ∃t,u'=Value.str b t from r');cases q;exact EqAt.int_str c tc b t
  |lst es=>simp only[Brs]at h';obtain⟨a,xs,rfl,hq,_⟩:=h';cases (show u'=Value.ref a from r');obtain⟨its,_,p,_⟩:=I.list hq;exact EqAt.int_list c tc p.isList hz
  |tup es=>simp only[Brs]at h';obtain⟨a,xs,rfl,hq,_⟩:=h';cases (show u'=Value.ref a from r');obtain⟨its,_,p,_⟩:=I.tuple hq;exact EqAt.int_tuple c tc p hz
 |.str c,e,A,v,u,v',u',h,h',r,r',hu,hu'=>by
  have hz:A.units<cLine:=by omega
  simp only[Brs]at h;subst h;obtain⟨tc,q⟩:=(show ∃t,v'=Value.str c t from r);cases q;cases e with
  |non=>simp only[Brs]at h';subst h';cases (show u'=Value.none from r');exact EqAt.str_none c tc
  |bl b=>simp only[Brs]at h';subst h';cases (show u'=Value.bool b from r');exact EqAt.str_bool c tc b
  |int b=>simp only[Brs]at h';subst h';obtain⟨t,q⟩:=(show ∃t,u'=Value.int b t from r');cases q;exact EqAt.str_int c tc b t
  |str b=>simp only[Brs]at h';subst h';obtain⟨t,q⟩:=(show ∃t,u'=Value.str b t from r');cases q;exact EqAt.str_str c tc b t
  |lst es=>simp only[Brs]at h';obtain⟨a,xs,rfl,hq,_⟩:=h';cases (show u'=Value.ref a from r');obtain⟨its,_,p,_⟩:=I.list hq;exact EqAt.str_list c tc p.isList hz
  |tup es=>simp only[Brs]at h';obtain⟨a,xs,rfl,hq,_⟩:=h';cases (show u'=Value.ref a from r');obtain⟨its,_,p,_⟩:=I.tuple hq;exact EqAt.str_tuple c tc p hz
 |.lst ds,e,A,v,u,v',u',h,h',r,r',hu,hu'=>by
  have hz:A.units<cLine:=by omega
  have hd:A.in1.units+dpL ds<cLine:=by
   have:dp (.lst ds)=dpL ds+1:=by simp[dp]
   show A.units+1+dpL ds<cLine;omega
  have h0:=h;simp only[Brs]at h;obtain⟨b,ys,rfl,hp,hb⟩:=h;cases (show v'=Value.ref b from r);obtain⟨jts,rw',pw,_⟩:=I.list hp;cases e with
  |non=>simp only[Brs]at h';subst h';cases (show u'=Value.none from r');exact EqAt.list_none pw.isList hz
  |bl c=>simp only[Brs]at h';subst h';cases (show u'=Value.bool c from r');exact EqAt.list_bool c pw.isList hz
  |int c=>simp only[Brs]at h';subst h';obtain⟨t,q⟩:=(show ∃t,u'=Value.int c t from r');cases q;exact EqAt.list_int c t pw.isList hz
  |str c=>simp only[Brs]at h';subst h';obtain⟨t,q⟩:=(show ∃t,u'=Value.str c t from r');cases q;exact EqAt.list_str c t pw.isList hz
  |tup es=>simp only[Brs]at h';obtain⟨a,xs,rfl,hq,_⟩:=h';cases (show u'=Value.ref a from r');obtain⟨its,_,p,_⟩:=I.tuple hq;exact EqAt.list_tuple pw.isList p hz
  |lst es=>
   have h0':=h';simp only[Brs]at h';obtain⟨a,xs,rfl,hq,hb'⟩:=h';cases (show u'=Value.ref a from r');obtain⟨its,rv,p,_⟩:=I.list hq;have he:A.in1.units+dpL es<cLine:=by
    have:dp (.lst es)=dpL es+1:=by simp[dp]
    show A.units+1+dpL es<cLine;omega
   by_cases hab:b=a
   .subst hab
    rw[vB I _ _ h0 h0',vP];exact EqAt.same _
   .refine EqAt.of_refs hab ?_
    have l1:=hb.length;have l2:=hb'.length;have l3:=rw'.length;have l4:=rv.length;rw[show eqD (.lst ds) (.lst es)=eqL ds es by simp[eqD]];by_cases hl:ds.length=es.length
    .rw[←mR hl,show ds.length=jts.toArray.size by rw[List.size_toArray];omega]
     exact RcAt.lists pw.isList p.isList (by rw[List.size_toArray,List.size_toArray];omega) hz (qg I ds es hb hb' rw' rv hd he)
    .rw[mK hl]
     exact RcAt.lists_lengths pw.isList p.isList (by rw[List.size_toArray,List.size_toArray];exact bne_iff_ne.mpr (by omega)) hz
 |.tup ds,e,A,v,u,v',u',h,h',r,r',hu,hu'=>by
  have hz:A.units<cLine:=by omega
  have hd:A.in1.units+dpL ds<cLine:=by
   have:dp (.tup ds)=dpL ds+1:=by simp[dp]
   show A.units+1+dpL ds<cLine;omega
  have h0:=h;simp only[Brs]at h;obtain⟨b,ys,rfl,hp,hb⟩:=h;cases (show v'=Value.ref b from r);obtain⟨jts,rw',pw,_⟩:=I.tuple hp;cases e with
  |non=>simp only[Brs]at h';subst h';cases (show u'=Value.none from r');exact EqAt.tuple_none pw hz
  |bl c=>simp only[Brs]at h';subst h';cases (show u'=Value.bool c from r');exact EqAt.tuple_bool c pw hz
  |int c=>simp only[Brs]at h';subst h';obtain⟨t,q⟩:=(show ∃t,u'=Value.int c t from r');cases q;exact EqAt.tuple_int c t pw hz
  |str c=>simp only[Brs]at h';subst h';obtain⟨t,q⟩:=(show ∃t,u'=Value.str c t from r');cases q;exact EqAt.tuple_str c t pw hz
  |lst es=>simp only[Brs]at h';obtain⟨a,xs,rfl,hq,_⟩:=h';cases (show u'=Value.ref a from r');obtain⟨its,_,p,_⟩:=I.list hq;exact EqAt.tuple_list pw p.isList hz
  |tup es=>
   have h0':=h';simp only[Brs]at h';obtain⟨a,xs,rfl,hq,hb'⟩:=h';cases (show u'=Value.ref a from r');obtain⟨its,rv,p,_⟩:=I.tuple hq;have he:A.in1.units+dpL es<cLine:=by
    have:dp (.tup es)=dpL es+1:=by simp[dp]
    show A.units+1+dpL es<cLine;omega
   by_cases hab:b=a
   .subst hab
    rw[vB I _ _ h0 h0',vP];exact EqAt.same _
   .refine EqAt.of_refs hab ?_
    have l1:=hb.length;have l2:=hb'.length;have l3:=rw'.length;have l4:=rv.length;rw[show eqD (.tup ds) (.tup es)=((List.range (min jts.toArray.size its.toArray.size)).all (eqJ ds es)&&jts.toArray.size==its.toArray.size)from ?_]
    .exact RcAt.tuples pw p hz (qg I ds es hb hb' rw' rv hd he)
    .rw[show eqD (.tup ds) (.tup es)=eqL ds es by simp[eqD],List.size_toArray,List.size_toArray]
     by_cases hl:ds.length=es.length
     .rw[show min jts.length its.length=ds.length by omega,mR hl,show(jts.length==its.length)=true by simp;omega,Bool.and_true]
     .rw[mK hl,show(jts.length==its.length)=false by simp;omega,Bool.and_false]
theorem qg(I:Inv X pins σ H s):∀(ds es:List Dt){A:Around}{ys xs:List V}{jts its:List Value},gB X.K H ds ys->gB X.K H es xs->Vals ys jts->Vals xs its->A.units+dpL ds<cLine->A.units+dpL es<cLine->
  ∀j (h1:j<jts.toArray.size)(h2:j<its.toArray.size),EqAt A s jts.toArray[j] its.toArray[j] (eqJ ds es j)
 |[],es,A,ys,xs,jts,its,h,h',r,r',hu,hu',j,h1,h2=>by
  simp only[gB]at h;subst h;cases r;simp at h1
 |d::ds,es,A,ys,xs,jts,its,h,h',r,r',hu,hu',j,h1,h2=>by
  simp only[gB]at h;obtain⟨y,ys',rfl,hd,hr⟩:=h;cases r with
  |cons ra rb=>
   cases es with
   |nil=>
    simp only[gB]at h';subst h';cases r';simp at h2
   |cons e es=>
    simp only[gB]at h';obtain⟨x,xs',rfl,hd',hr'⟩:=h';cases r' with
    |cons ra' rb'=>
     have m1:dpL (d::ds)=max (dp d) (dpL ds):=by simp[dpL]
     have m2:dpL (e::es)=max (dp e) (dpL es):=by simp[dpL]
     cases j with
     |zero=>exact Qh I d e hd hd' ra ra' (by omega) (by omega)
     |succ j=>exact qg I ds es hr hr' rb rb' (by omega) (by omega) j (by simpa using h1) (by simpa using h2)
end
open PySem.SeqAt in
theorem Ud(I:Inv X pins σ H s)(d e:Dt){A:Around}{v u:V}{v' u':Value}(h1:Brs X.K H d v)(h2:Brs X.K H e u)(r1:RelV v v')(r2:RelV u u')(hu:A.units+dp d<cLine)(hu':A.units+dp e<cLine):RcAt A s v' u' (eqD d e):=by
 have hz:A.units<cLine:=by omega
 cases d with
 |non=>
  simp only[Brs]at h1;subst h1;cases (show _=Value.none from r1);cases e with
  |non=>(simp only[Brs]at h2;subst h2;cases (show _=Value.none from r2));exact RcAt.none_none
  |bl c2=>(simp only[Brs]at h2;subst h2;cases (show _=Value.bool c2 from r2));exact RcAt.none_bool c2
  |int c2=>(simp only[Brs]at h2;subst h2;obtain⟨t2,q2⟩:=(show ∃t,_=Value.int c2 t from r2);cases q2);exact RcAt.none_int c2 t2
  |str c2=>(simp only[Brs]at h2;subst h2;obtain⟨t2,q2⟩:=(show ∃t,_=Value.str c2 t from r2);cases q2);exact RcAt.none_str c2 t2
  |lst es=>(simp only[Brs]at h2;obtain⟨a2,xs2,rfl,hq2,hb2⟩:=h2;cases (show _=Value.ref a2 from r2);obtain⟨its2,rv2,p2,_⟩:=I.list hq2);exact RcAt.none_list p2.isList hz
  |tup es=>(simp only[Brs]at h2;obtain⟨a2,xs2,rfl,hq2,hb2⟩:=h2;cases (show _=Value.ref a2 from r2);obtain⟨its2,rv2,p2,_⟩:=I.tuple hq2);exact RcAt.none_tuple p2 hz
 |bl c1=>
  simp only[Brs]at h1;subst h1;cases (show _=Value.bool c1 from r1);cases e with
  |non=>(simp only[Brs]at h2;subst h2;cases (show _=Value.none from r2));exact RcAt.bool_none c1
  |bl c2=>(simp only[Brs]at h2;subst h2;cases (show _=Value.bool c2 from r2));exact RcAt.bool_bool c1 c2
  |int c2=>(simp only[Brs]at h2;subst h2;obtain⟨t2,q2⟩:=(show ∃t,_=Value.int c2 t from r2);cases q2);exact RcAt.bool_int c1 c2 t2
  |str c2=>(simp only[Brs]at h2;subst h2;obtain⟨t2,q2⟩:=(show ∃t,_=Value.str c2 t from r2);cases q2);exact RcAt.bool_str c1 c2 t2
  |lst es=>(simp only[Brs]at h2;obtain⟨a2,xs2,rfl,hq2,hb2⟩:=h2;cases (show _=Value.ref a2 from r2);obtain⟨its2,rv2,p2,_⟩:=I.list hq2);exact RcAt.bool_list c1 p2.isList hz
  |tup es=>(simp only[Brs]at h2;obtain⟨a2,xs2,rfl,hq2,hb2⟩:=h2;cases (show _=Value.ref a2 from r2);obtain⟨its2,rv2,p2,_⟩:=I.tuple hq2);exact RcAt.bool_tuple c1 p2 hz
 |int c1=>
  simp only[Brs]at h1;subst h1;obtain⟨t1,q1⟩:=(show ∃t,_=Value.int c1 t from r1);cases q1;cases e with
  |non=>(simp only[Brs]at h2;subst h2;cases (show _=Value.none from r2));exact RcAt.int_none c1 t1
  |bl c2=>(simp only[Brs]at h2;subst h2;cases (show _=Value.bool c2 from r2));exact RcAt.int_bool c1 t1 c2
  |int c2=>(simp only[Brs]at h2;subst h2;obtain⟨t2,q2⟩:=(show ∃t,_=Value.int c2 t from r2);cases q2);exact RcAt.int_int c1 t1 c2 t2
  |str c2=>(simp only[Brs]at h2;subst h2;obtain⟨t2,q2⟩:=(show ∃t,_=Value.str c2 t from r2);cases q2);exact RcAt.int_str c1 t1 c2 t2
  |lst es=>(simp only[Brs]at h2;obtain⟨a2,xs2,rfl,hq2,hb2⟩:=h2;cases (show _=Value.ref a2 from r2);obtain⟨its2,rv2,p2,_⟩:=I.list hq2);exact RcAt.int_list c1 t1 p2.isList hz
  |tup es=>(simp only[Brs]at h2;obtain⟨a2,xs2,rfl,hq2,hb2⟩:=h2;cases (show _=Value.ref a2 from r2);obtain⟨its2,rv2,p2,_⟩:=I.tuple hq2);exact RcAt.int_tuple c1 t1 p2 hz
 |str c1=>
  simp only[Brs]at h1;subst h1;obtain⟨t1,q1⟩:=(show ∃t,_=Value.str c1 t from r1);cases q1;cases e with
  |non=>(simp only[Brs]at h2;subst h2;cases (show _=Value.none from r2));exact RcAt.str_none c1 t1
  |bl c2=>(simp only[Brs]at h2;subst h2;cases (show _=Value.bool c2 from r2));exact RcAt.str_bool c1 t1 c2
  |int c2=>(simp only[Brs]at h2;subst h2;obtain⟨t2,q2⟩:=(show ∃t,_=Value.int c2 t from r2);cases q2);exact RcAt.str_int c1 t1 c2 t2
  |str c2=>(simp only[Brs]at h2;subst h2;obtain⟨t2,q2⟩:=(show ∃t,_=Value.str c2 t from r2);cases q2);exact RcAt.str_str c1 t1 c2 t2
  |lst es=>(simp only[Brs]at h2;obtain⟨a2,xs2,rfl,hq2,hb2⟩:=h2;cases (show _=Value.ref a2 from r2);obtain⟨its2,rv2,p2,_⟩:=I.list hq2);exact RcAt.str_list c1 t1 p2.isList hz
  |tup es=>(simp only[Brs]at h2;obtain⟨a2,xs2,rfl,hq2,hb2⟩:=h2;cases (show _=Value.ref a2 from r2);obtain⟨its2,rv2,p2,_⟩:=I.tuple hq2);exact RcAt.str_tuple c1 t1 p2 hz
 |lst ds=>
  simp only[Brs]at h1;obtain⟨a1,xs1,rfl,hq1,hb1⟩:=h1;cases (show _=Value.ref a1 from r1);obtain⟨its1,rv1,p1,_⟩:=I.list hq1;cases e with
  |non=>(simp only[Brs]at h2;subst h2;cases (show _=Value.none from r2));exact RcAt.list_none p1.isList hz
  |bl c2=>(simp only[Brs]at h2;subst h2;cases (show _=Value.bool c2 from r2));exact RcAt.list_bool c2 p1.isList hz
  |int c2=>(simp only[Brs]at h2;subst h2;obtain⟨t2,q2⟩:=(show ∃t,_=Value.int c2 t from r2);cases q2);exact RcAt.list_int c2 t2 p1.isList hz
  |str c2=>(simp only[Brs]at h2;subst h2;obtain⟨t2,q2⟩:=(show ∃t,_=Value.str c2 t from r2);cases q2);exact RcAt.list_str c2 t2 p1.isList hz
  |lst es=>
   simp only[Brs]at h2;obtain⟨a2,xs2,rfl,hq2,hb2⟩:=h2;cases (show _=Value.ref a2 from r2);obtain⟨its2,rv2,p2,_⟩:=I.list hq2;have hd:A.in1.units+dpL ds<cLine:=by
    have:dp (.lst ds)=dpL ds+1:=by simp[dp]
    show A.units+1+dpL ds<cLine;omega
   have he:A.in1.units+dpL es<cLine:=by
    have:dp (.lst es)=dpL es+1:=by simp[dp]
    show A.units+1+dpL es<cLine;omega
   have l1:=hb1.length;have l2:=hb2.length;have l3:=rv1.length;have l4:=rv2.length;rw[show eqD (.lst ds) (.lst es)=eqL ds es by simp[eqD]];by_cases hl:ds.length=es.length
   .rw[←mR hl,show ds.length=its1.toArray.size by rw[List.size_toArray];omega]
    exact RcAt.lists p1.isList p2.isList (by rw[List.size_toArray,List.size_toArray];omega) hz (qg I ds es hb1 hb2 rv1 rv2 hd he)
   .rw[mK hl]
    exact RcAt.lists_lengths p1.isList p2.isList (by rw[List.size_toArray,List.size_toArray];exact bne_iff_ne.mpr (by omega)) hz
  |tup es=>(simp only[Brs]at h2;obtain⟨a2,xs2,rfl,hq2,hb2⟩:=h2;cases (show _=Value.ref a2 from r2);obtain⟨its2,rv2,p2,_⟩:=I.tuple hq2);exact RcAt.list_tuple p1.isList p2 hz
 |tup ds=>
  simp only[Brs]at h1;obtain⟨a1,xs1,rfl,hq1,hb1⟩:=h1;cases (show _=Value.ref a1 from r1);obtain⟨its1,rv1,p1,_⟩:=I.tuple hq1;cases e with
  |non=>(simp only[Brs]at h2;subst h2;cases (show _=Value.none from r2));exact RcAt.tuple_none p1 hz
  |bl c2=>(simp only[Brs]at h2;subst h2;cases (show _=Value.bool c2 from r2));exact RcAt.tuple_bool c2 p1 hz
  |int c2=>(simp only[Brs]at h2;subst h2;obtain⟨t2,q2⟩:=(show ∃t,_=Value.int c2 t from r2);cases q2);exact RcAt.tuple_int c2 t2 p1 hz
  |str c2=>(simp only[Brs]at h2;subst h2;obtain⟨t2,q2⟩:=(show ∃t,_=Value.str c2 t from r2);cases q2);exact RcAt.tuple_str c2 t2 p1 hz
  |lst es=>(simp only[Brs]at h2;obtain⟨a2,xs2,rfl,hq2,hb2⟩:=h2;cases (show _=Value.ref a2 from r2);obtain⟨its2,rv2,p2,_⟩:=I.list hq2);exact RcAt.tuple_list p1 p2.isList hz
  |tup es=>
   simp only[Brs]at h2;obtain⟨a2,xs2,rfl,hq2,hb2⟩:=h2;cases (show _=Value.ref a2 from r2);obtain⟨its2,rv2,p2,_⟩:=I.tuple hq2;have hd:A.in1.units+dpL ds<cLine:=by
    have:dp (.tup ds)=dpL ds+1:=by simp[dp]
    show A.units+1+dpL ds<cLine;omega
   have he:A.in1.units+dpL es<cLine:=by
    have:dp (.tup es)=dpL es+1:=by simp[dp]
    show A.units+1+dpL es<cLine;omega
   have l1:=hb1.length;have l2:=hb2.length;have l3:=rv1.length;have l4:=rv2.length;rw[show eqD (.tup ds) (.tup es)=((List.range (min its1.toArray.size its2.toArray.size)).all (eqJ ds es)&&its1.toArray.size==its2.toArray.size)from ?_]
   .exact RcAt.tuples p1 p2 hz (qg I ds es hb1 hb2 rv1 rv2 hd he)
   .rw[show eqD (.tup ds) (.tup es)=eqL ds es by simp[eqD],List.size_toArray,List.size_toArray]
    by_cases hl:ds.length=es.length
    .rw[show min its1.length its2.length=ds.length by omega,mR hl,show(its1.length==its2.length)=true by simp;omega,Bool.and_true]
    .rw[mK hl,show(its1.length==its2.length)=false by simp;omega,Bool.and_false]
open PySem.SeqAt in
theorem M8(I:Inv X pins σ H s)(d e:Dt){A:Around}{v u:V}{v' u':Value}(h1:Brs X.K H d v)(h2:Brs X.K H e u)(r1:RelV v v')(r2:RelV u u')(hu:A.units+dp d<cLine)(hu':A.units+dp e<cLine):RcNeAt A s v' u' (!eqD d e):=by
 have hz:A.units<cLine:=by omega
 cases d with
 |non=>
  simp only[Brs]at h1;subst h1;cases (show _=Value.none from r1);cases e with
  |non=>(simp only[Brs]at h2;subst h2;cases (show _=Value.none from r2));exact RcNeAt.none_none
  |bl c2=>(simp only[Brs]at h2;subst h2;cases (show _=Value.bool c2 from r2));exact RcNeAt.none_bool c2
  |int c2=>(simp only[Brs]at h2;subst h2;obtain⟨t2,q2⟩:=(show ∃t,_=Value.int c2 t from r2);cases q2);exact RcNeAt.none_int c2 t2
  |str c2=>(simp only[Brs]at h2;subst h2;obtain⟨t2,q2⟩:=(show ∃t,_=Value.str c2 t from r2);cases q2);exact RcNeAt.none_str c2 t2
  |lst es=>(simp only[Brs]at h2;obtain⟨a2,xs2,rfl,hq2,hb2⟩:=h2;cases (show _=Value.ref a2 from r2);obtain⟨its2,rv2,p2,_⟩:=I.list hq2);exact RcNeAt.none_list p2.isList hz
  |tup es=>(simp only[Brs]at h2;obtain⟨a2,xs2,rfl,hq2,hb2⟩:=h2;cases (show _=Value.ref a2 from r2);obtain⟨its2,rv2,p2,_⟩:=I.tuple hq2);exact RcNeAt.none_tuple p2 hz
 |bl c1=>
  simp only[Brs]at h1;subst h1;cases (show _=Value.bool c1 from r1);cases e with
  |non=>(simp only[Brs]at h2;subst h2;cases (show _=Value.none from r2));exact RcNeAt.bool_none c1
  |bl c2=>(simp only[Brs]at h2;subst h2;cases (show _=Value.bool c2 from r2));exact RcNeAt.bool_bool c1 c2
  |int c2=>(simp only[Brs]at h2;subst h2;obtain⟨t2,q2⟩:=(show ∃t,_=Value.int c2 t from r2);cases q2);exact RcNeAt.bool_int c1 c2 t2
  |str c2=>(simp only[Brs]at h2;subst h2;obtain⟨t2,q2⟩:=(show ∃t,_=Value.str c2 t from r2);cases q2);exact RcNeAt.bool_str c1 c2 t2
  |lst es=>(simp only[Brs]at h2;obtain⟨a2,xs2,rfl,hq2,hb2⟩:=h2;cases (show _=Value.ref a2 from r2);obtain⟨its2,rv2,p2,_⟩:=I.list hq2);exact RcNeAt.bool_list c1 p2.isList hz
  |tup es=>(simp only[Brs]at h2;obtain⟨a2,xs2,rfl,hq2,hb2⟩:=h2;cases (show _=Value.ref a2 from r2);obtain⟨its2,rv2,p2,_⟩:=I.tuple hq2);exact RcNeAt.bool_tuple c1 p2 hz
 |int c1=>
  simp only[Brs]at h1;subst h1;obtain⟨t1,q1⟩:=(show ∃t,_=Value.int c1 t from r1);cases q1;cases e with
  |non=>(simp only[Brs]at h2;subst h2;cases (show _=Value.none from r2));exact RcNeAt.int_none c1 t1
  |bl c2=>(simp only[Brs]at h2;subst h2;cases (show _=Value.bool c2 from r2));exact RcNeAt.int_bool c1 t1 c2
  |int c2=>(simp only[Brs]at h2;subst h2;obtain⟨t2,q2⟩:=(show ∃t,_=Value.int c2 t from r2);cases q2);exact RcNeAt.int_int c1 t1 c2 t2
  |str c2=>(simp only[Brs]at h2;subst h2;obtain⟨t2,q2⟩:=(show ∃t,_=Value.str c2 t from r2);cases q2);exact RcNeAt.int_str c1 t1 c2 t2
  |lst es=>(simp only[Brs]at h2;obtain⟨a2,xs2,rfl,hq2,hb2⟩:=h2;cases (show _=Value.ref a2 from r2);obtain⟨its2,rv2,p2,_⟩:=I.list hq2);exact RcNeAt.int_list c1 t1 p2.isList hz
  |tup es=>(simp only[Brs]at h2;obtain⟨a2,xs2,rfl,hq2,hb2⟩:=h2;cases (show _=Value.ref a2 from r2);obtain⟨its2,rv2,p2,_⟩:=I.tuple hq2);exact RcNeAt.int_tuple c1 t1 p2 hz
 |str c1=>
  simp only[Brs]at h1;subst h1;obtain⟨t1,q1⟩:=(show ∃t,_=Value.str c1 t from r1);cases q1;cases e with
  |non=>(simp only[Brs]at h2;subst h2;cases (show _=Value.none from r2));exact RcNeAt.str_none c1 t1
  |bl c2=>(simp only[Brs]at h2;subst h2;cases (show _=Value.bool c2 from r2));exact RcNeAt.str_bool c1 t1 c2
  |int c2=>(simp only[Brs]at h2;subst h2;obtain⟨t2,q2⟩:=(show ∃t,_=Value.int c2 t from r2);cases q2);exact RcNeAt.str_int c1 t1 c2 t2
  |str c2=>(simp only[Brs]at h2;subst h2;obtain⟨t2,q2⟩:=(show ∃t,_=Value.str c2 t from r2);cases q2);exact RcNeAt.str_str c1 t1 c2 t2
  |lst es=>(simp only[Brs]at h2;obtain⟨a2,xs2,rfl,hq2,hb2⟩:=h2;cases (show _=Value.ref a2 from r2);obtain⟨its2,rv2,p2,_⟩:=I.list hq2);exact RcNeAt.str_list c1 t1 p2.isList hz
  |tup es=>(simp only[Brs]at h2;obtain⟨a2,xs2,rfl,hq2,hb2⟩:=h2;cases (show _=Value.ref a2 from r2);obtain⟨its2,rv2,p2,_⟩:=I.tuple hq2);exact RcNeAt.str_tuple c1 t1 p2 hz
 |lst ds=>
  simp only[Brs]at h1;obtain⟨a1,xs1,rfl,hq1,hb1⟩:=h1;cases (show _=Value.ref a1 from r1);obtain⟨its1,rv1,p1,_⟩:=I.list hq1;cases e with
  |non=>(simp only[Brs]at h2;subst h2;cases (show _=Value.none from r2));exact RcNeAt.list_none p1.isList hz
  |bl c2=>(simp only[Brs]at h2;subst h2;cases (show _=Value.bool c2 from r2));exact RcNeAt.list_bool c2 p1.isList hz
  |int c2=>(simp only[Brs]at h2;subst h2;obtain⟨t2,q2⟩:=(show ∃t,_=Value.int c2 t from r2);cases q2);exact RcNeAt.list_int c2 t2 p1.isList hz
  |str c2=>(simp only[Brs]at h2;subst h2;obtain⟨t2,q2⟩:=(show ∃t,_=Value.str c2 t from r2);cases q2);exact RcNeAt.list_str c2 t2 p1.isList hz
  |lst es=>
   simp only[Brs]at h2;obtain⟨a2,xs2,rfl,hq2,hb2⟩:=h2;cases (show _=Value.ref a2 from r2);obtain⟨its2,rv2,p2,_⟩:=I.list hq2;have hd:A.in1.units+dpL ds<cLine:=by
    have:dp (.lst ds)=dpL ds+1:=by simp[dp]
    show A.units+1+dpL ds<cLine;omega
   have he:A.in1.units+dpL es<cLine:=by
    have:dp (.lst es)=dpL es+1:=by simp[dp]
    show A.units+1+dpL es<cLine;omega
   have l1:=hb1.length;have l2:=hb2.length;have l3:=rv1.length;have l4:=rv2.length;rw[show eqD (.lst ds) (.lst es)=eqL ds es by simp[eqD]];by_cases hl:ds.length=es.length
   .rw[←mR hl,show ds.length=its1.toArray.size by rw[List.size_toArray];omega]
    exact RcNeAt.lists p1.isList p2.isList (by rw[List.size_toArray,List.size_toArray];omega) hz (qg I ds es hb1 hb2 rv1 rv2 hd he)
   .rw[mK hl]
    exact RcNeAt.lists_lengths p1.isList p2.isList (by rw[List.size_toArray,List.size_toArray];exact bne_iff_ne.mpr (by omega)) hz
  |tup es=>(simp only[Brs]at h2;obtain⟨a2,xs2,rfl,hq2,hb2⟩:=h2;cases (show _=Value.ref a2 from r2);obtain⟨its2,rv2,p2,_⟩:=I.tuple hq2);exact RcNeAt.list_tuple p1.isList p2 hz
 |tup ds=>
  simp only[Brs]at h1;obtain⟨a1,xs1,rfl,hq1,hb1⟩:=h1;cases (show _=Value.ref a1 from r1);obtain⟨its1,rv1,p1,_⟩:=I.tuple hq1;cases e with
  |non=>(simp only[Brs]at h2;subst h2;cases (show _=Value.none from r2));exact RcNeAt.tuple_none p1 hz
  |bl c2=>(simp only[Brs]at h2;subst h2;cases (show _=Value.bool c2 from r2));exact RcNeAt.tuple_bool c2 p1 hz
  |int c2=>(simp only[Brs]at h2;subst h2;obtain⟨t2,q2⟩:=(show ∃t,_=Value.int c2 t from r2);cases q2);exact RcNeAt.tuple_int c2 t2 p1 hz
  |str c2=>(simp only[Brs]at h2;subst h2;obtain⟨t2,q2⟩:=(show ∃t,_=Value.str c2 t from r2);cases q2);exact RcNeAt.tuple_str c2 t2 p1 hz
  |lst es=>(simp only[Brs]at h2;obtain⟨a2,xs2,rfl,hq2,hb2⟩:=h2;cases (show _=Value.ref a2 from r2);obtain⟨its2,rv2,p2,_⟩:=I.list hq2);exact RcNeAt.tuple_list p1 p2.isList hz
  |tup es=>
   simp only[Brs]at h2;obtain⟨a2,xs2,rfl,hq2,hb2⟩:=h2;cases (show _=Value.ref a2 from r2);obtain⟨its2,rv2,p2,_⟩:=I.tuple hq2;have hd:A.in1.units+dpL ds<cLine:=by
    have:dp (.tup ds)=dpL ds+1:=by simp[dp]
    show A.units+1+dpL ds<cLine;omega
   have he:A.in1.units+dpL es<cLine:=by
    have:dp (.tup es)=dpL es+1:=by simp[dp]
    show A.units+1+dpL es<cLine;omega
   have l1:=hb1.length;have l2:=hb2.length;have l3:=rv1.length;have l4:=rv2.length;rw[show eqD (.tup ds) (.tup es)=((List.range (min its1.toArray.size its2.toArray.size)).all (eqJ ds es)&&its1.toArray.size==its2.toArray.size)from ?_]
   .exact RcNeAt.tuples p1 p2 hz (qg I ds es hb1 hb2 rv1 rv2 hd he)
   .rw[show eqD (.tup ds) (.tup es)=eqL ds es by simp[eqD],List.size_toArray,List.size_toArray]
    by_cases hl:ds.length=es.length
    .rw[show min its1.length its2.length=ds.length by omega,mR hl,show(its1.length==its2.length)=true by simp;omega,Bool.and_true]
    .rw[mK hl,show(its1.length==its2.length)=false by simp;omega,Bool.and_false]
def TF(K:PySem.W.Frag)(A:Around):R2:=λx y H Q=>∃d e,Brs K H d x/\Brs K H e y/\A.units+dp d<cLine/\A.units+dp e<cLine/\Q (.bl (eqD d e)) H
def U3(K:PySem.W.Frag)(A:Around):R2:=λx y H Q=>∃d e,Brs K H d x/\Brs K H e y/\A.units+dp d<cLine/\A.units+dp e<cLine/\Q (.bl (!eqD d e)) H
theorem SM:OpR X (compareOp .Eq) (TF X.K X.A):=by
 intro pins s σ H x y v u Q I rx ry h;obtain⟨d,e,h1,h2,hu,hu',q⟩:=h;exact Ud I d e h1 h2 rx ry hu hu' _ _ _ _ ⟨.bl (eqD d e),H,I,rfl,q⟩
theorem R3:OpR X (compareOp .NotEq) (U3 X.K X.A):=by
 intro pins s σ H x y v u Q I rx ry h;obtain⟨d,e,h1,h2,hu,hu',q⟩:=h;exact M8 I d e h1 h2 rx ry hu hu' _ _ _ _ ⟨.bl (!eqD d e),H,I,rfl,q⟩
end
section
variable{prog:Program}{w:World}{A:Around}{E:Value->Shared->Prop}{s:Shared}
theorem uW{sl:Addr}{vl vu vs:Value}{lo hi st:Option Int}{n:Nat}{Q:Int×Int×Nat->Shared->Prop}(hs:s.heap.IsSliceOf sl vl vu vs)(pl:IsPart vl lo)(pu:IsPart vu hi)(ps:IsPart vs st)(h0:st.getD 1≠0)
  (h:Q ((Builtin.Slice.sliceAdjust lo hi (st.getD 1) (n:Int)).1,st.getD 1,Builtin.Slice.slicePlaces (Builtin.Slice.sliceAdjust lo hi (st.getD 1) (n:Int)).1 (Builtin.Slice.sliceAdjust lo hi (st.getD 1) (n:Int)).2 (st.getD 1)) s) :
  wpAny (model prog w) A (Builtin.Slice.sliceApplied (.ref sl) (pure (n:Int))) Q E s:=by
 obtain⟨os,hos,hcs,hds⟩:=id hs;unfold Builtin.Slice.sliceApplied;refine wpAny_bind (wpAny_bind (wpAny_field hos hds (x:=vl) rfl (wpAny_bind (wpAny_field hos hds (x:=vu) rfl (wpAny_bind (wpAny_field hos hds (x:=vs) rfl (wpAny_pure ?_)))))));refine wpAny_bind (HT.slicePart_ ps ?_);have h1:(st.getD 1==0)=false:=by simpa using h0
 simp only[h1,Bool.false_eq_true,if_false,pure_bind];exact wpAny_bind (HT.slicePart_ pl (wpAny_bind (HT.slicePart_ pu (wpAny_pure h))))
def n_{α:Type}(xs:List α)(l st:Int)(k:Nat):List α:=(List.range k).filterMap λ(m:Nat)=>xs[(l+(m:Int)*st).toNat]?
theorem jk{t sl:Addr}{items:List Value}{vl vu vs:Value}{lo hi st:Option Int}{Q:Value->Shared->Prop}(ht:IsTup s.heap t items.toArray)(hs:s.heap.IsSliceOf sl vl vu vs)(pl:IsPart vl lo)(pu:IsPart vu hi)(ps:IsPart vs st)(h0:st.getD 1≠0)
  {l h':Int} (ea:Builtin.Slice.sliceAdjust lo hi (st.getD 1) (items.length:Int)=(l,h')) {k:Nat} (ek:Builtin.Slice.slicePlaces l h' (st.getD 1)=k)
  (hw:(l=0/\st.getD 1=1/\k=items.length)->Q (.ref t) s)
  (hn:¬(l=0/\st.getD 1=1/\k=items.length)->Q (.ref s.heap.objs.size) {s with heap:=s.heap.push {cls:=.type "tuple",data:=.seq (n_ items l (st.getD 1) k).toArray}})
  (hsz:(n_ items l (st.getD 1) k).length<=sizeLine):wpAny (model prog w) A (getItem (.ref t) (.ref sl)) Q E s:=by
 have htake:sizeOk (.seq (n_ items l (st.getD 1) k).toArray):=by
  show(n_ items l (st.getD 1) k).toArray.size<=sizeLine;rw[List.size_toArray];exact hsz
 obtain⟨os,hos,hcs,hds⟩:=id hs;have hTs:s.TypeIs (.ref sl) "slice":=⟨os,hos,hcs⟩;unfold getItem
 try with_reducible refine wpAny_holding ?_
 first|refine wpAny_bind (wpAny_pure ?_)|skip
 refine wpAny_bind (wpAny_sequenceKey ht.typeIs (by decide) ?_);refine wpAny_bind (wpAny_callSpecial?_slot (name:=Str.ofString "__getitem__") ht.typeIs PyProof.Rows.slot_tuple_getitem
  (wpAny_call_entry PyProof.Rows.slot_tuple_getitem ht.typeIs entry_tuple_getitem ?_ (args_tuple_getitem _ _)))
 show wpAny _ _ (Builtin.Tuple.tupleItemsOf (.ref t) >>=_) _ _ s;refine wpAny_bind (tupleItemsOf_ ht ?_);refine wpAny_bind (wpAny_typeOf hTs ?_);rw[if_pos (by decide)];rw[List.size_toArray];refine wpAny_bind (uW hs pl pu ps h0 ?_);rw[ea,ek];dsimp only;by_cases hc:(l=0/\st.getD 1=1/\k=items.length)
 .rw[if_pos (by simp[hc])]
  refine wpAny_bind ?_;unfold Builtin.Tuple.tupleIsExact;refine wpAny_bind (wpAny_typeOf ht.typeIs (wpAny_pure ?_));rw[if_pos (by decide)];exact wpAny_bind (wpAny_rule (wpAny_pure ⟨_,rfl,wpAny_pure (hw hc)⟩))
 .rw[if_neg (by simpa using hc)]
  have e:(List.filterMap (λ(k:Nat)=>items.toArray[(l+(k:Int)*st.getD 1).toNat]?) (List.range k)).toArray=(n_ items l (st.getD 1) k).toArray:=by
   unfold n_;simp
  rw[e];exact wpAny_bind (m:=Builtin.Tuple.tupleExact _) (wpAny_newObj_type (wpAny_pure ⟨_,rfl,wpAny_pure (hn hc)⟩) htake)
end
theorem wj{α:Type}(xs:List α)(l st:Int)(k:Nat):(n_ xs l st k).length<=k:=by
 unfold n_;have:=List.length_filterMap_le (λ(m:Nat)=>xs[(l+(m:Int)*st).toNat]?) (List.range k);rw[List.length_range]at this;exact this
theorem Kl{α:Type}(xs:List α):n_ xs ((xs.length:Int)-1) (-1) xs.length=xs.reverse:=by
 unfold n_;apply List.ext_getElem?;intro j;have key:∀n,n<=xs.length->(List.range n).filterMap (λ(m:Nat)=>xs[((xs.length:Int)-1+(m:Int)* -1).toNat]?)=(xs.reverse).take n:=by
  intro n
  induction n with
  |zero=>intro _;simp
  |succ n ih=>
   intro hn;rw[List.range_succ,List.filterMap_append,ih (by omega),List.take_add_one];congr 1;have e1:((xs.length:Int)-1+(n:Int)* -1).toNat=xs.length-1-n:=by omega
   rw[List.getElem?_reverse (by omega)];simp only[List.filterMap_cons,List.filterMap_nil,e1];rw[List.getElem?_eq_getElem (by omega)]
   try rfl
 rw[key xs.length (Nat.le_refl _),List.take_of_length_le (by simp)]
section
variable{X:Cx}{e:Expr}{te:TE}{p2 pos:Pos}
def TQ(K:PySem.W.Frag):V->Option Int->Option Int->Hp->VK->Prop:=λx lo hi H Q=>∃a xs,x= .ref a/\SqT K H a xs/\(vM xs lo hi=xs->Q (.ref a) H)/\∀p,H p=none->Q (.ref p) (upd H p (.tup (vM xs lo hi)))
theorem QV:SlR X (TQ X.K):=by
 intro pins s σ H x v vl vu lo hi sl Q I rx hs pl pu h;obtain⟨a,xs,rfl,hx,q1,q2⟩:=h;by_cases hw:(HT.sIx xs.length 0 lo=0/\HT.sIx xs.length xs.length hi=xs.length)
 .have rx0:=rx
  cases rx;obtain⟨its,r,ht,hz⟩:=I.tuple hx;have hlen:=r.length;refine⟨"tuple",_,PyProof.Rows.slot_tuple_getitem.lookup,ht.typeIs,?_⟩;have e1:Builtin.Slice.sliceAdjust lo hi ((none:Option Int).getD 1) (its.length:Int)=(((0:Nat):Int),((xs.length:Nat):Int)):=by
   have e1:=HT.adjust_gen lo hi its.length;rw[←hlen,hw.1,hw.2]at e1;rw[←hlen];exact e1
  refine jk (items:=its) (st:=none) ht hs pl pu .none (by decide) e1 rfl (λ_=>?_) (λhc=>?_) ?_
  .refine⟨.ref a,H,I,rfl,q1 ?_⟩
   unfold vM;rw[hw.1,hw.2];simp
  .refine absurd ⟨rfl,rfl,?_⟩ hc
   show Builtin.Slice.slicePlaces ((0:Nat):Int) ((xs.length:Nat):Int) 1=its.length;rw[HT.places_gen];omega
  .refine Nat.le_trans (wj _ _ _ _) ?_
   show Builtin.Slice.slicePlaces ((0:Nat):Int) ((xs.length:Nat):Int) 1<=sizeLine;rw[HT.places_gen];omega
 .exact RJ pins s σ H _ v vl vu lo hi sl Q I rx hs pl pu ⟨a,xs,rfl,hx,hw,q2⟩
def T_(K:PySem.W.Frag):R2:=λx y H Q=>∃a xs,x= .ref a/\SqT K H a xs/\((y= .int 1/\Q (.ref a) H)∨(y= .int (-1)/\∀p,H p=none->Q (.ref p) (upd H p (.tup xs.reverse))))
def J8(K:PySem.W.Frag):R2:=λx y H Q=>∃a b xs ys,x= .ref a/\y= .ref b/\SqT K H a xs/\SqT K H b ys/\xs.length+ys.length<=sizeLine/\
 (xs=[]->Q (.ref b) H)/\(xs≠[]->ys=[]->Q (.ref a) H)/\(xs≠[]->ys≠[]->∀p,H p=none->Q (.ref p) (upd H p (.tup (xs++ys))))
theorem JS:OpR X (binaryOp .Add) (J8 X.K):=by
 intro pins s σ H x y v u Q I rx ry h;obtain⟨a,b,xs,ys,rfl,rfl,ha,hb,hz,q0,q1,q2⟩:=h;by_cases hx:xs=[]
 .cases rx
  cases ry;obtain⟨its,r1,p1,_⟩:=I.tuple ha;obtain⟨its2,r2,p2,_⟩:=I.tuple hb;obtain⟨⟨cls,dd,data,sl⟩,ho,hc,n,hd⟩:=id p1;obtain⟨⟨cls2,dd2,data2,sl2⟩,ho2,hc2,n2,hd2⟩:=id p2;simp only at hc hd hc2 hd2;subst hc hd hc2 hd2;exact concat_meets ⟨_,ho,rfl⟩ ⟨_,ho2,rfl⟩ noFill_tuple_add seq_tuple_add PySem.F.slot_tuple_add PySem.F.entry_tuple_add (PySem.F.args_tuple_add_2 _ _)
   (tuple_addW0 a b its.toArray its2.toArray n n2 dd dd2 sl sl2 (by rw[r1.nil_iff.mpr hx];rfl)) ⟨ho,ho2,⟨.ref b,H,I,rfl,q0 hx⟩⟩
 .exact PX pins s σ H _ _ v u Q I rx ry ⟨a,b,xs,ys,rfl,rfl,ha,hb,hx,hz,q1 hx,q2 hx⟩
end
section
variable{X:Cx}{pins:List (Addr×Obj)}{σ:L2.St}{H:Hp}{s:Shared}{h':Heap}
theorem BK{fp:List Addr}{t':Nat}{p:Addr}{o:HO}(I:Inv X pins σ H s)(hf:∀b∈fp,mL X pins H b)(keep:∀b u,b∉fp->s.heap.get? b=some u->h'.get? b=some u)(hp:s.heap.objs.size<=p)
  (new:cR X.prog X.w (upd H p o) h' p o):Inv X pins σ (upd H p o) {s with heap:=h',toks:=t'}:=by
 have hn:H p=none:=I.hok.fresh hp;have nf:∀b u,H b=some u->b∉fp:=λb u e hb=>by rw[(hf b hb).1]at e;cases e
 have np:∀b u,s.heap.get? b=some u->b≠p:=λb u e=>Nat.ne_of_lt (Nat.lt_of_lt_of_le (Heap.lt_size e) hp);refine I.step (g':=s.gens) (d':=s.drawn) (ch:=fp) (λb hb=>⟨(hf b hb).2.2.2.1,(hf b hb).2.1,(hf b hb).2.2.2.2.1,(hf b hb).2.2.2.2.2⟩) (λb u _ _ hc e _=>keep b u hc e) (λb u _ _ hc e _=>⟨u.slots,keep b u hc e⟩)
  (λb u _ e n=>by rw[aV (np b u e)];exact n) (λb u hc e=>⟨u,keep b u hc e⟩) (λb xs e=>by rw[aV (bh e hn)];exact e) (λb ob u e=>by rw[aV (bh e hn)];exact e)
  (λb ps e=>⟨#[],by rw[aV (bh e hn),e];simp⟩) (λm hm=>?_) (λb u e=>?_) I.bare
 .obtain⟨ob,es,ep,ho,r⟩:=hm
  exact⟨ob,es,ep,keep _ ob (λz=>(hf _ z).2.1 rfl) ho,r⟩
 .by_cases hb:b=p
  .subst hb
   rw[bJ]at e;cases e;exact new
  .rw[aV hb]at e
   refine(I.hok b u e).stay (λc v hc q=>keep c v ?_ q) (λc q=>by rw[aV (bh q hn)];exact q) λc xs q=>by rw[aV (bh q hn)];exact q
   rcases hc with z|z
   .rw[z]
    exact nf b u e
   .exact nf c _ z
theorem o9{fp:List Addr}{t':Nat}(I:Inv X pins σ H s)(hf:∀b∈fp,mL X pins H b)(keep:∀b u,b∉fp->s.heap.get? b=some u->h'.get? b=some u):Inv X pins σ H {s with heap:=h',toks:=t'}:=by
 have nf:∀b u,H b=some u->b∉fp:=λb u e hb=>by rw[(hf b hb).1]at e;cases e
 refine I.step (g':=s.gens) (d':=s.drawn) (ch:=fp) (λb hb=>⟨(hf b hb).2.2.2.1,(hf b hb).2.1,(hf b hb).2.2.2.2.1,(hf b hb).2.2.2.2.2⟩) (λb u _ _ hc e _=>keep b u hc e) (λb u _ _ hc e _=>⟨u.slots,keep b u hc e⟩)
  (λb u _ e n=>n) (λb u hc e=>⟨u,keep b u hc e⟩) (λb xs e=>e) (λb ob u e=>e) (λb ps e=>⟨#[],by rw[e];simp⟩) (λm hm=>?_) (λb u e=>?_) I.bare
 .obtain⟨ob,es,ep,ho,r⟩:=hm
  exact⟨ob,es,ep,keep _ ob (λz=>(hf _ z).2.1 rfl) ho,r⟩
 .refine(I.hok b u e).stay (λc v hc q=>keep c v ?_ q) (λc q=>q) λc xs q=>q
  rcases hc with z|z
  .rw[z]
   exact nf b u e
  .exact nf c _ z
end
def Ite(K:PySem.W.Frag)(a:Addr):It:=
 ⟨λi H=>∃xs x,SqL K H a xs/\xs[i]? =some x,λi H x H'=>∃p v,H p=none/\x= .ref p/\(∀xs,SqL K H a xs->xs[i]? =some v)/\H'=upd H p (.tup [.int i,v]),λi H=>∃xs,SqL K H a xs/\xs.length<=i⟩
theorem Hd{P:Program}{w:World}{K:PySem.W.Frag}{elts:List Expr}{x1}{pos:Pos}(a e it:Addr)(hne:e≠it) :
  Turn P w K (.Tuple elts x1 pos) (Ite K a) [e,it] e (λi h=>(∃old,IsEnum h e it (i:Int) old)/\h.IsListIter it a i)where
 mem:=by simp
 obj:=λi h st b hb=>by
  obtain⟨⟨old,he⟩,o,ho,c,d⟩:=st;rcases List.mem_cons.mp hb with z|z
  .subst z
   exact⟨_,he,λv z=>by cases z⟩
  .have z:b=it:=by simpa using z
   subst z;exact⟨o,ho,λv z=>by rw[d]at z;cases z⟩
 keep:=λi h h' st k=>by
  obtain⟨⟨old,he⟩,hit⟩:=st;exact⟨⟨old,k e (by simp) _ he⟩,hit.at λo q=>k it (by simp) o q⟩
 item:=by
  intro X hP hw hK hc i pins s σ H E I hf st hg;subst hP hw hK;obtain⟨xs,x,hq,hx⟩:=hg;obtain⟨its,rv,p,hz⟩:=I.list hq;obtain⟨u,hu,ru⟩:=rv.get hx;obtain⟨⟨old,he⟩,hit⟩:=st;refine wpAny_pyNext_enum_item he hit p.isList (x:=u) (by simpa using hu) hne λh1 ho1 hit1 ht1 hsz1 k1=>?_;refine⟨.ref s.heap.objs.size,rfl,wpAny_letOwnedTupleGo_enum ho1 λh2 he2 sb2=>?_⟩;have hel:e<s.heap.objs.size:=Heap.lt_size he;have hpe:s.heap.objs.size≠e:=Nat.ne_of_gt hel;have ht2:h2.get? s.heap.objs.size=some {cls:=.type "tuple",data:=.seq #[.int i s.toks,u]}:=sb2.extBut _ _ hpe ht1;have I2:Inv X pins σ (upd H s.heap.objs.size (.tup [.int i,x])) {s with heap:=h2,toks:=s.toks+1}:=by
   refine BK (fp:=[e,it]) (t':=s.toks+1) I hf (λb o hb q=>?_) (Nat.le_refl _) ?_
   .have n1:b≠e:=λz=>hb (by simp[z])
    have n2:b≠it:=λz=>hb (by simp[z]);exact sb2.extBut b o n1 (k1 b o n1 n2 q)
   .exact⟨by show 2<=sizeLine;decide,[.int i s.toks,u],.cons ⟨_,rfl⟩ (.cons ru .nil),_,ht2,rfl,_,rfl⟩
  refine⟨.ref s.heap.objs.size,upd H s.heap.objs.size (.tup [.int i,x]),I2,rfl,⟨_,x,I.hok.fresh (Nat.le_refl _),rfl,λys hy=>by rw[I.list_inj hy hq];exact hx,rfl⟩,?_,λb hb=>?_⟩
  .refine⟨⟨u,?_⟩,hit1.extBut sb2.extBut (Ne.symm hne)⟩
   have e1:(((i+1:Nat)):Int)=(i:Int)+1:=by omega
   rw[e1];exact he2
  .rw[aV]
   .exact(hf b hb).1
   .intro z
    rw[z]at hb;rcases List.mem_cons.mp hb with q|q
    .exact hpe q
    .have q:s.heap.objs.size=it:=by simpa using q
     obtain⟨o,ho,_⟩:=hit;exact absurd (Heap.lt_size ho) (by rw[q];exact Nat.lt_irrefl _)
 done:=by
  intro X hP hw hK hc i pins s σ H E I hf st hg;subst hP hw hK;obtain⟨xs,hq,hx⟩:=hg;obtain⟨its,rv,p,hz⟩:=I.list hq;obtain⟨⟨old,he⟩,hit⟩:=st;have hl:=rv.length;refine wpAny_pyNext_enum_end (I.ok.hd hc) he hit p.isList (by simp;omega) λh1 eb=>⟨rfl,?_⟩;exact o9 (fp:=[e,it]) (t':=s.toks) I hf λb o hb q=>eb b o (λz=>hb (by simp[z])) q
 self:=λA i s Q E st h=>by
  obtain⟨⟨old,he⟩,_⟩:=st;exact wpAny_pyIter_enum he h
end Jb
namespace PySem
open Sem (wp)
theorem F.first_AttributeError:((Manifest.find? "AttributeError").elim false λt=>t.mro.contains "StopIteration"||t.mro.contains "SystemExit")=false:=by decide +kernel
theorem F.sub_AttributeError:isSubtype (.type "AttributeError") (.type "AttributeError")=pure true:=by rw[isSubtype_type];kernel_rfl
section
variable{prog:Program}{w:World}{A:Around}{E:Value->Shared->Prop}
theorem uM{α:Type}{o:Value}{name msg:Str}{Q:α->Shared->Prop}{h:Heap}{g:Array GenState}{d:Drawn}{t:Nat}{os:OsState}(hh:A.handled=none)(hm:msg.length<=sizeLine)
  (hq:∀h' tk e,(∀b u,h.get? b=some u->h'.get? b=some u)->(∃oe,h'.get? e=some oe/\oe.cls= .type "AttributeError")->E (.ref e) ⟨h',g,d,tk,os⟩):wpAny (model prog w) A (raiseAttrError o name msg:Sem α) Q E ⟨h,g,d,t,os⟩:=by
 unfold raiseAttrError;refine wpAny_bind (wpAny_mkStr (wpAny_bind ?_) hm);unfold newExc newTuple;refine wpAny_bind (wpAny_newObj_type ?_);refine wpAny_bind (m:=firstArgMember _ _) (wpAny_of_eq (a:=Value.none) (by simp only[firstArgMember,F.first_AttributeError];rfl) ?_);refine wpAny_newObj_type ?_;refine wpAny_bind (wpAny_mkText (wpAny_bind ?_));dsimp only;generalize hH1:h.push {cls:=.type "tuple",dict:=none,data:=.seq [Value.str msg t].toArray}=H1;generalize hob:({cls:=.type "AttributeError",dict:=none,data:=.fields (#[.ref h.objs.size,.none,.none,.none,.bool false,.none]++ownMembersOf (.type "AttributeError") [Value.str msg t])}:Obj)=ob;have he:(H1.push ob).get? H1.objs.size=some ob:=Heap.get?_push_size _ (by subst hob;rfl);have hT:(⟨H1.push ob,g,d,t+1+1,os⟩:Shared).TypeIs (.ref H1.objs.size) "AttributeError":=⟨_,he,by subst hob;rfl⟩;have f1:=F.sub_AttributeError;have old:∀b u,h.get? b=some u->(H1.push ob).get? b=some u:=λb u e=>Heap.get?_push_of_some _ (hH1▸Heap.get?_push_of_some _ e);have hcls:ob.cls= .type "AttributeError":=by subst hob;rfl
 obtain⟨vs,hds,hv6,hv7⟩:∃vs,ob.data= .fields vs/\vs[6]? =some unsetMember/\vs[7]? =some unsetMember:=by subst hob;exact⟨_,rfl,rfl,rfl⟩
 unfold noteAttr;dsimp only;refine wpAny_bind ?_;unfold lacksNameAndObj;refine wpAny_bind (wpAny_isInstance hT f1 ?_);simp only[Bool.not_true,Bool.false_eq_true,if_false];refine wpAny_bind (wpAny_load he ?_);rw[hds];dsimp only;rw[hv6,hv7];show wpAny (model prog w) A (pure true) _ _ _;refine wpAny_pure ?_;rw[if_pos rfl];refine wpAny_bind (wpAny_rule (wpAny_bind (wpAny_typeOf hT ?_)));dsimp only;unfold layMembers;refine wpAny_bind (wpAny_load he ?_);rw[hds];dsimp only;refine wpAny_update he ?_;unfold raiseNew;refine wpAny_bind (wpAny_handled ?_);rw[hh];dsimp only;have hlt:h.objs.size<H1.objs.size:=by rw[←hH1,Heap.size_push];exact Nat.lt_succ_self _
 refine wpAny_throw (hq _ _ _ (λb u e=>?_) ⟨_,Heap.get?_update_self _ he (Obj.isFreed_of_fields (Obj.data_mapFields hds _)),(Obj.cls_mapFields ..).trans hcls⟩);exact(Heap.get?_update_other (H1.push ob) _ (Ne.symm (Nat.ne_of_lt (Nat.lt_trans (Heap.lt_size e) hlt)))).trans (old b u e)
theorem F.lk_list_keys:typeLookup (.type "list") "keys"=pure none:=by rw[typeLookup_type,builtinLookup_eq_fast];kernel_rfl
theorem F.lk_list_getattr:typeLookup (.type "list") "__getattr__"=pure none:=by rw[typeLookup_type,builtinLookup_eq_fast];kernel_rfl
variable{h:Heap}{g:Array GenState}{d:Drawn}{t:Nat}{os:OsState}{a:Addr}{items:Array Value}{n:Nat}
def Eh(E:Value->Shared->Prop)(h:Heap)(g:Array GenState)(d:Drawn)(os:OsState):Prop:=∀h' tk e,(∀b u,h.get? b=some u->h'.get? b=some u)->(∃oe,h'.get? e=some oe/\oe.cls= .type "AttributeError")->E (.ref e) ⟨h',g,d,tk,os⟩
theorem uO{tk:Tok}{Q:Fin->Shared->Prop}(hh:A.handled=none)(hx:h.get? a=some {cls:=.type "list",data:=.seq items n})(hq:Eh E h g d os) :
  wpAny (model prog w) A (Builtin.«object.__getattribute__» ⟨[.ref a,.str "keys" tk],[]⟩) Q E ⟨h,g,d,t,os⟩:=by
 have hT:(⟨h,g,d,t,os⟩:Shared).TypeIs (.ref a) "list":=⟨_,hx,rfl⟩;have f4:=F.lk_list_keys
 repeat(any_goals(first|assumption|wp_step))
 exact uM hh (by decide +kernel) hq
theorem wz{tk:Tok}{R:Result->Shared->Prop}(hh:A.handled=none)(hx:h.get? a=some {cls:=.type "list",data:=.seq items n})(hq:Eh (λe s=>R (.error e) s) h g d os) :
  codeAny (model prog w) A (.call (.builtin "list.__getattribute__") ⟨[.ref a,.str "keys" tk],[]⟩) R ⟨h,g,d,t,os⟩:=
 codeAny_call_builtin F.slot_list_getattribute.plain F.entry_list_ga (F.slot_list_getattribute.check _ _ _ _ _ _ _ _ (show(⟨h,g,d,t,os⟩:Shared).TypeIs (.ref a) "list" from⟨_,hx,rfl⟩) (F.args_list_getattribute_2 _ _) (uO hh hx hq))
theorem zB{tk:Tok}{Q:Value->Shared->Prop}(hh:A.handled=none)(hx:h.get? a=some {cls:=.type "list",data:=.seq items n})(hq:Eh E h g d os):wpAny (model prog w) A (getAttrBy (.ref a) (.str "keys" tk) false) Q E ⟨h,g,d,t,os⟩:=by
 have hT:(⟨h,g,d,t,os⟩:Shared).TypeIs (.ref a) "list":=⟨_,hx,rfl⟩;have f2:=F.slot_list_getattribute.lookup;have f3:=F.slot_list_getattribute.bind (.ref a)
 repeat(any_goals(first|assumption|wp_step))
 refine wz hh hx λh' tk' e old he=>?_;obtain⟨oe,he1,he2⟩:=id he;have hT':(⟨h',g,d,tk',os⟩:Shared).TypeIs (.ref e) "AttributeError":=⟨oe,he1,he2⟩;dsimp only;unfold getattributeRaised;refine wpAny_bind (wpAny_isInstance hT' F.sub_AttributeError ?_);rw[if_pos rfl];refine wpAny_bind (wpAny_of_eq (show hookBehind (.type "list") none=pure none from F.lk_list_getattr) ?_);show wpAny (model prog w) A (attributeErrorLeaves (.ref a) (.str "keys" tk) (.ref e) false false) Q E ⟨h',g,d,tk',os⟩;unfold attributeErrorLeaves;dsimp only;rw[if_pos (show(!false)=true from rfl)]
 first|exact wpAny_throw (hq h' tk' e old he)|exact wpAny_bind (wpAny_throw (hq h' tk' e old he))
theorem wW{Q:Option Value->Shared->Prop}(hh:A.handled=none)(hx:h.get? a=some {cls:=.type "list",data:=.seq items n})
  (hq:∀h' tk,(∀b u,h.get? b=some u->h'.get? b=some u)->Q none ⟨h',g,d,tk,os⟩):wpAny (model prog w) A (getAttr? (.ref a) "keys") Q E ⟨h,g,d,t,os⟩:=by
 unfold getAttr? getAttrBy?;refine wpAny_bind (wpAny_mkText (wpAny_bind (wpAny_attempt (zB hh hx λh' tk' e old he=>?_))));obtain⟨oe,he1,he2⟩:=id he;have hT':(⟨h',g,d,tk',os⟩:Shared).TypeIs (.ref e) "AttributeError":=⟨oe,he1,he2⟩;dsimp only;refine wpAny_bind (wpAny_isInstance hT' F.sub_AttributeError ?_);rw[if_pos rfl];exact wpAny_pure (hq h' tk' old)
end
namespace F
theorem entry_dict_update_loop:entryFor table "dict.update.loop"=some Builtin.«dict.update.loop»:=entryFor_of_tree (by kernel_rfl)
theorem plain_dict_update_loop:plainId "dict.update.loop"=true:=by decide +kernel
end F
end PySem
namespace Jb
open PySem PySem.Spec PyProof.Rows L2
section
variable{X:Cx}{pins:List (Addr×Obj)}{σ:L2.St}{A:Around}
def putAll(kvs:List (Key×V))(prs:List (Key×V)):List (Key×V):=prs.foldl (λacc kv=>putK acc kv.1 kv.2) kvs
theorem H9{D it l:Addr}{xs:List V}{prs:List (Key×V)}{R:Result->Shared->Prop}(hh:A.handled=none)(hlen:prs.length=xs.length):∀(m i:Nat)(kvs:List (Key×V))(H:Hp)(s:Shared),xs.length-i=m->i<=xs.length->
  Inv X pins σ H s->H D=some (.dK kvs)->SqL X.K H l xs->mL X pins H it->s.heap.IsListIter it l i->(∀(j:Nat)(k:Key)(v:V),prs[j]? =some (k,v)->∃p:Addr,xs[j]? =some (V.ref p)/\H p=some (.tup [kV k,v]))->kvs.length+m<=100000->
  (∀s',Inv X pins σ (upd H D (.dK (putAll kvs (prs.drop i)))) s'->R (.ok (.ret .none)) s')->codeAny (model X.prog X.w) A (.builtin "dict.update.loop" ⟨[.ref D,.ref it,rawInt i,.none],[]⟩) R s:=by
 intro m
 induction m with
 |zero=>
  intro i kvs H s hm hi I hD hq hf hit hp hz k;have e:i=xs.length:=by omega
  subst e;obtain⟨its,rv,p,_⟩:=I.list hq;have hl:=rv.length;refine codeAny_builtin F.entry_dict_update_loop ?_;rw[Around.under_plainId F.plain_dict_update_loop _];unfold Builtin.«dict.update.loop»;dsimp only;refine wpAny_bind (wpAny_pyNext_list_end (show A.in1.handled=none from hh) hit p.isList (by simp;omega) λh' eb=>?_);dsimp only;have I1:Inv X pins σ H {s with heap:=h'}:=o9 (fp:=[it]) (t':=s.toks) I (λb hb=>by rw[List.mem_singleton.mp hb];exact hf) λb o hb q=>eb b o (λz=>hb (by simp[z])) q;have e1:prs.drop xs.length=[]:=by rw[←hlen,List.drop_length]
  have k1:=k _ (by
   rw[e1];show Inv X pins σ (upd H D (.dK kvs)) {s with heap:=h'};have:upd H D (.dK kvs)=H:=by
    funext b;unfold upd;split
    .rename_i z
     rw[z,hD]
    .rfl
   rw[this];exact I1)
  show wpAny (model X.prog X.w) A.in1 (Builtin.Dict.addKeywords D [] >>=λ_=>ret .none) _ _ _;exact wpAny_bind (wpAny_pure (wpAny_pure k1))
 |succ m ih=>
  intro i kvs H s hm hi I hD hq hf hit hp hz k;have hlt:i<xs.length:=by omega
  obtain⟨its,rv,p,_⟩:=I.list hq;have hl:=rv.length;have hlp:i<prs.length:=by omega
  obtain⟨t,ht,hT⟩:=hp i prs[i].1 prs[i].2 (by rw[List.getElem?_eq_getElem hlp]);obtain⟨u,hu,ru⟩:=rv.get ht;cases ru;refine codeAny_builtin F.entry_dict_update_loop ?_;rw[Around.under_plainId F.plain_dict_update_loop _];unfold Builtin.«dict.update.loop»;dsimp only;refine wpAny_bind (wpAny_pyNext_list_item hit p.isList (x:=.ref t) (by simpa using hu) λh1 hit1 sb1=>?_);dsimp only;have I1:Inv X pins σ H {s with heap:=h1}:=o9 (fp:=[it]) (t':=s.toks) I (λb hb=>by rw[List.mem_singleton.mp hb];exact hf) λb o hb q=>(sb1.2 b (λz=>hb (by simp[z]))).trans q;obtain⟨_,jts,rj,oj,ej,cj,nj,dj⟩:=(show cR X.prog X.w H h1 t (.tup [kV prs[i].1,prs[i].2])from I1.hok t _ hT);obtain⟨ku,vu,rfl,rk,rw'⟩:=vals2 rj;have hTT:(({s with heap:=h1}:Shared)).TypeIs (.ref t) "tuple":=⟨oj,ej,cj⟩;refine wpAny_bind (wpAny_holding (wpAny_bind (wpAny_tryCatch ?_)));unfold Builtin.Dict.pairItems;refine wpAny_bind (wpAny_typeOf hTT ?_);rw[if_pos (by decide)];refine wpAny_bind (wpAny_seqItems ej dj (wpAny_pure ?_));show wpAny (model X.prog X.w) A.in1 (holding [ku,vu] (dictSet D ku vu)) _ _ _;obtain⟨z,hd,vs,rel,dd⟩:=Qm I1.hok hD;have hz2:vs.length<=sizeLine:=by rw[←rel.length];exact z
  have hsl:200000<=sizeLine:=by decide
  have hl2:(putK kvs prs[i].1 prs[i].2).length<=sizeLine:=by have:=kO kvs prs[i].1 prs[i].2;omega
  refine wpAny_holding (wpAny_dictSet_pairs (hsz:=hz2) (pY rk) dd λh2 dd2 sb2=>?_);have I2:Inv X pins σ (upd H D (.dK (putK kvs prs[i].1 prs[i].2))) {s with heap:=h2,toks:=s.toks+1}:=by
   have he:∃q,h2.get? D=some q:=let⟨q,_,_,hq,_⟩:=dd2;⟨q,hq⟩;exact yN (s:=({s with heap:=h1}:Shared)) (t':=s.toks+1) I1 (by rw[hD];exact True.intro) sb2 he (L_ hl2 hd (rel.put prs[i].1 rw') dd2)
  have nDt:∀p ys,H p=some (.tup ys)->p≠D:=λp ys e=>Fe e hD (by intro z;cases z);have nDi:it≠D:=λz=>by have:=hf.1;rw[z,hD]at this;cases this
  show wpAny (model X.prog X.w) A.in1 (again (.builtin "dict.update.loop" ⟨[.ref D,.ref it,rawInt ((i:Int)+1),.none],[]⟩)) _ _ _;refine wpAny_pure ⟨plainId_quiet F.plain_dict_update_loop _,?_⟩;have ei:((i:Int)+1)=((i+1:Nat):Int):=by omega
  rw[ei];have hlk:=kO kvs prs[i].1 prs[i].2;refine ih (i+1) (putK kvs prs[i].1 prs[i].2) _ _ (by omega) hlt I2 bJ ?_ ?_ (hit1.extBut sb2.extBut nDi) ?_ (by omega) (λs' I'=>k s' ?_)
  .rcases hq with(hq|⟨o,hq⟩)|hq
   .exact .inl (.inl (by rw[aV (Fe hq hD (by intro z;cases z))];exact hq))
   .exact .inl (.inr ⟨o,by rw[aV (Fe hq hD (by intro z;cases z))];exact hq⟩)
   .exact .inr hq
  .exact⟨by rw[aV nDi];exact hf.1,hf.2⟩
  .intro j kk vv e
   obtain⟨p,h1,h2⟩:=hp j kk vv e;exact⟨p,h1,by rw[aV (nDt p _ h2)];exact h2⟩
  .rw[Ex]at I'
   rw[List.drop_eq_getElem_cons hlp];exact I'
theorem uL(hc:X.calm=true):fD X (.type "dict") (λxs H Q=>∃l ys prs,xs=[.ref l]/\H l=some (.lst ys)/\List.length prs=List.length ys/\List.length prs<=50000/\
  (∀(j:Nat)(k:Key)(v:V),prs[j]? =some (k,v)->∃p:Addr,ys[j]? =some (V.ref p)/\H p=some (.tup [kV k,v]))/\∀D,H D=none->Q (.ref D) (upd H D (.dK (putAll [] prs)))):=by
 intro pins s σ H xs us Q I r h;obtain⟨l,ys,prs,rfl,hl,hlen,hsz,hp,q⟩:=h;obtain⟨u,rfl,ru⟩:=vals1 r;cases ru;have hh:X.A.handled=none:=I.ok.hd hc;refine callType_codes (Q₁:=λobj s₁=>obj= .ref s.heap.objs.size/\s₁={s with heap:=s.heap.push {cls:=.type "dict",data:=.dict #[]}}) F.kt_called_dict (F.kt_typeCall_dict_1 _) F.entry_dict_init (kt_code_dict_new _ ⟨rfl,rfl⟩) ?_;rintro obj s₁ ⟨rfl,rfl⟩;have hD0:H s.heap.objs.size=none:=I.fresh;have I1:Inv X pins σ (upd H s.heap.objs.size (.dK [])) {s with heap:=s.heap.push {cls:=.type "dict",data:=.dict #[]}}:=I.laid (t':=s.toks) (λ_ _ z=>Heap.get?_push_of_some _ z) (Nat.le_refl _) (Iv s.heap I.big);have hnew:(s.heap.push {cls:=.type "dict",data:=.dict #[]}).DictOf (bL X.prog X.w) s.heap.objs.size []:=Heap.DictOf.new s.heap;have nl:l≠s.heap.objs.size:=bh hl hD0;have hl1:(upd H s.heap.objs.size (.dK [])) l=some (.lst ys):=by rw[aV nl];exact hl
 obtain⟨_,its,n,rv,el⟩:=(show cR X.prog X.w _ _ l (.lst ys)from I1.hok l _ hl1);have hTl:({s with heap:=s.heap.push {cls:=.type "dict",data:=.dict #[]}}:Shared).TypeIs (.ref l) "list":=⟨_,el,rfl⟩;refine⟨hnew.typeIs,F.args_dict_init_2 _ _,?_⟩;unfold Builtin.«dict.__init__»;refine wpAny_bind ?_;unfold Builtin.Dict.selfAndRest;refine wpAny_bind (wpAny_notOrdered_dict hnew.typeIs ?_);show wpAny _ _ (pure (s.heap.objs.size,[Value.ref l])) _ _ _;refine wpAny_pure ?_;show wpAny _ _ (Builtin.Dict.updateFrom "dict.__init__" s.heap.objs.size (.ref l) [] .none) _ _ _;unfold Builtin.Dict.updateFrom;refine wpAny_bind (wpAny_typeOf hTl ?_);rw[if_pos (by decide)];refine wpAny_bind (wW (show X.A.in1.in1.handled=none from hh) el λh2 tk2 old2=>?_);rw[if_pos (by rfl)];have I2:Inv X pins σ (upd H s.heap.objs.size (.dK [])) {s with heap:=h2,toks:=tk2}:=I1.kept (t':=tk2) old2;obtain⟨its2,rv2,p2,_⟩:=I2.list (SqL.of hl1);refine wpAny_bind (wpAny_rule (wpAny_bind (wpAny_pyIter_list p2.isList ?_)));have I3:Inv X pins σ (upd H s.heap.objs.size (.dK [])) {s with heap:=h2.push {cls:=.type "list_iterator",data:=.fields #[.ref l,.int 0 0]},toks:=tk2}:=I2.kept (t':=tk2) λb o e=>Heap.get?_push_of_some _ e;have fit:mL X pins (upd H s.heap.objs.size (.dK [])) h2.objs.size:=I2.fpOk (Nat.le_refl _) (I2.hok.fresh (Nat.le_refl _));refine wpAny_pure ⟨plainId_quiet F.plain_dict_update_loop _,?_⟩;refine H9 (A:=X.A.in1) (l:=l) (xs:=ys) (prs:=prs) hh hlen ys.length 0 [] _ _ rfl (Nat.zero_le _) I3 bJ (SqL.of hl1) fit ⟨_,Heap.get?_push_size _ rfl,rfl,rfl⟩ ?_ (by simp;omega) λs' I'=>?_
 .intro j k v e
  obtain⟨p,h1,h2⟩:=hp j k v e;exact⟨p,h1,by rw[aV (bh h2 hD0)];exact h2⟩
 .rw[Ex,List.drop_zero]at I'
  exact⟨rfl,.ref _,_,I',rfl,q _ hD0⟩
end
theorem Mg{X:Cx}{pins:List (Addr×Obj)}{σ σ':L2.St}{H2 H':Hp}{s2 s':Shared}{fp:List Addr}{N':List Str}{scope:Scope}{D C:Addr}{o:Obj}{ob:HO}(I2:Inv X pins σ H2 s2)(f2:∀b∈fp,mL X pins H2 b)
  (hD:s2.heap.objs.size<=D) (hC:s2.heap.objs.size<=C) (hDC:D≠C) (I':Inv (dY X N' scope C s2 H2 fp) [(D,o)] σ' H' s') (new:∀h',h'.get? D=some o->cR X.prog X.w (upd H' D ob) h' D ob)
  (h':Heap) (sb:Heap.SameBut C s'.heap h'):Inv X pins σ (upd H' D ob) {s' with heap:=h'}:=by
 obtain⟨eD,nD,_,nfD,_⟩:=I'.pin (D,o) (List.mem_append_right _ List.mem_cons_self);refine I2.call' (ch:=fp) I'.os ?_ ?_ I'.bare (λb hb=>⟨(f2 b hb).2.2.2.1,(f2 b hb).2.1,(f2 b hb).2.2.2.2.1,(f2 b hb).2.2.2.2.2⟩)
 .have ne:∀b o,s2.heap.get? b=some o->b≠C/\b≠D:=λb o e=>⟨Nat.ne_of_lt (Nat.lt_of_lt_of_le (Heap.lt_size e) hC),Nat.ne_of_lt (Nat.lt_of_lt_of_le (Heap.lt_size e) hD)⟩
  refine⟨λb o e n hb he=>sb.extBut b o (ne b o e).1 (I'.base.keep b o e n hb he),λb o e n hb he=>?_,λb o e n he=>?_,λb o e he=>?_,λb xs e=>?_,λb o u e=>?_,λb ps e=>?_⟩
  .obtain⟨sl,e1⟩:=I'.base.slot b o e n hb he
   exact⟨sl,sb.extBut b _ (ne b o e).1 e1⟩
  .rw[aV (ne b o e).2]
   exact I'.base.free b o e n he
  .obtain⟨o',e1⟩:=I'.base.there b o e he
   exact⟨o',sb.extBut b _ (ne b o e).1 e1⟩
  .have e1:=I'.base.tups b xs e
   rw[aV (bh e1 nD)];exact e1
  .have e1:=I'.base.frzs b o u e
   rw[aV (bh e1 nD)];exact e1
  .obtain⟨more,e1⟩:=I'.base.tbls b ps e
   refine⟨more,?_⟩;rw[aV (bh e1 nD)];exact e1
 .intro b u e
  by_cases hb:b=D
  .subst hb
   rw[bJ]at e;cases e;exact new h' (sb.extBut _ _ hDC eD)
  .rw[aV hb]at e
   have nC:∀b u,H' b=some u->b≠C:=λb u e z=>by
    have hf:H' C=none:=I'.free;rw[z,hf]at e;cases e
   refine(I'.hok b u e).stay (λc v hc q=>sb.extBut c v ?_ q) (λc q=>by rw[aV (bh q nD)];exact q) λc xs q=>by rw[aV (bh q nD)];exact q
   rcases hc with z|z
   .rw[z]
    exact nC b u e
   .exact nC c _ z
section
variable{X:Cx}{elt kx vx target iter:Expr}{ifs:List Expr}{scope:Scope}{pos pos' pos2:Pos}{N':List Str}{cap:List (Option Nat)}{wi:TI}{g:TG}{tt:TT}{te tk tv:TE}
theorem O8{pins:List (Addr×Obj)}{σ σ':L2.St}{H2 H':Hp}{s2 s':Shared}{fp:List Addr}{D C:Addr}{o:Obj}{ob:HO}{i:Nat}{x:Str}{Dn:Ends}(I2:Inv X pins σ H2 s2)(f2:∀b∈fp,mL X pins H2 b)
  (hD:s2.heap.objs.size<=D) (hC:s2.heap.objs.size<=C) (hDC:D≠C) (I':Inv (dY X N' scope C s2 H2 fp) [(D,o)] σ' H' s') (new:∀h',h'.get? D=some o->cR X.prog X.w (upd H' D ob) h' D ob)
  (hN:X.N.Nodup) (hi:X.N[i]? =some x) (hx:Loc X.env.scope x) (hf:X.fn x=true∨X.env.scope.names.lookup x=some .local) (q:Dn.nx (σ.set i (some (.ref D))) (upd H' D ob)) :
  wpAny (model X.prog X.w) X.A (assignAll (.ref D) ((assignEach [.Name x pos'] X.env).map (·.2))) (λ_ s''=>∃m,s''.heap.Ns C m/\∀h',Heap.SameBut C s''.heap h'->SP X pins Dn .next {s'' with heap:=h'}) X.xe s':=by
 have I3:Inv X pins σ (upd H' D ob) s':=Mg I2 f2 hD hC hDC I' new s'.heap ⟨rfl,λ_ _=>rfl⟩;obtain⟨m,hns,_⟩:=I'.loc;obtain⟨nD1,nD,_,nfD,_⟩:=I'.pin (D,o) (List.mem_append_right _ List.mem_cons_self);have hns:s'.heap.Ns C m:=hns;have hC0:upd H' D ob C=none:=by
  rw[aV (Ne.symm hDC)];exact I'.free
 obtain⟨f0,f1,f2',f3,f4,f5⟩:=I2.fpOk hC (I2.hok.fresh hC);have fC:mL X pins (upd H' D ob) C:=⟨hC0,f1,f2',f3,f4,f5⟩;obtain⟨oC,es,ep,gC,dC,k1,k2⟩:=hns;have I4:=I3.pinned (fp:=[C]) (λb hb=>by rw[List.mem_singleton.mp hb];exact fC) λb hb=>⟨oC,by rw[List.mem_singleton.mp hb];exact gC,λv z=>by rw[dC]at z;cases z⟩;have ea:assignAll (.ref D) ((assignEach [.Name x pos'] X.env).map (·.2))=assign (.Name x pos') X.env (.ref D):=by
  unfold assignAll;simp[assignEach]
 rw[ea];refine wpAny_assign_Name (nM I4 hN hi hx (v:=.ref D) rfl (λs'' I5=>⟨m,?_,λh' sb=>?_⟩) hf)
 .exact⟨oC,es,ep,(I5.pin (C,oC) (List.mem_append_right _ (List.mem_append_right _ (il (List.mem_singleton.mpr rfl) gC)))).1,dC,k1,k2⟩
 .exact⟨_,_,I5.unpinned.turned (t':=s''.toks) (λb o hb e=>sb.extBut b o hb e) hC0 f1 f3 f4 f5,q⟩
theorem Gs{i:Nat}{x:Str}(hx:X.xe=NoX)(hc:X.calm=true)(hN:X.N.Nodup)(hi:X.N[i]? =some x)(hl:Loc X.env.scope x)(O:bR X.env.scope X.N N' scope cap)(hit:PI X target iter wi)
  (hg:∀C s₂ H fp,PG (dY X N' scope C s₂ H fp) target g) (ht:∀C s₂ H fp,PTs (dY X N' scope C s₂ H fp) ifs tt) (he:∀C s₂ H fp,PE (dY X N' scope C s₂ H fp) elt te)
  (hw:swapsWith (.ListComp elt [⟨target,iter,ifs,0⟩] scope pos) (some (.Name x pos')) pos2.line X.env=pure true:=by rfl) (hs:∀x,foldedSetIterable iter X.env x=pure x:=by intro _;rfl)
  (hf:X.fn x=true∨X.env.scope.names.lookup x=some .local:=by first|exact .inl rfl|exact .inr rfl|assumption):PS X (.Assign [.Name x pos'] (.ListComp elt [⟨target,iter,ifs,0⟩] scope pos) pos2) (Om (BZ cap wi g tt te) (yH i)):=by
 intro pins s σ H Dn I h;rw[exec_Assign_arm];refine wpAny_bind (wpAny_standAt ?_);rw[show swapsWithSole [.Name x pos'] (.ListComp elt [⟨target,iter,ifs,0⟩] scope pos) pos2.line X.env=pure true from hw];refine wpAny_bind (wpAny_pure ?_);rw[if_pos rfl,arm_evalThenUse_ListComp];refine wpAny_bind (wpAny_bind (wpAny_comprehension_free (use:=some _) rfl hs (pU λy hy hk=>I.ok.has y.1 (O.free y hy hk)) O.kind O.nm (thn (hit pins s σ H _ I h) λv s1 h1=>thn h1 λitv s2 h2=>?_)));obtain⟨it,fp,tn,J,H2,e,I2,T,st2,f2,cw⟩:=h2;subst e;refine vK (RR:=λacc C=>compPost (model X.prog X.w) X.A X.xe (some _) _ acc C) hc O I2 T st2 f2 (λC=>hg C _ _ _) (λC=>ht C _ _ _) (λC=>he C _ _ _) cw ?_;intro D C s' H' ys its n σ' hD hC hDC I' rv q;obtain⟨hz,q⟩:=q;have nD:=(I'.pin (D,lobj its n) (List.mem_append_right _ List.mem_cons_self)).2.1;refine thn (O8 (ob:=.lst ys) (Dn:=Dn) (pos':=pos') I2 f2 hD hC hDC I' (λh' e=>⟨hz,its,n,rv,e⟩) hN hi hl hf (q D nD)) λ_ s'' ⟨m,h1,h2⟩=>⟨m,h1,λh' sb=>wpAny_pure (wpAny_pure (h2 h' sb))⟩
end
mutual
def pyD:Dt->PyData
 |.non=>.none
 |.bl b=>.bool b
 |.int i=>.int i
 |.str x=>.str x
 |.lst ds=>.list (pyL ds)
 |.tup ds=>.tuple (pyL ds)
def pyL:List Dt->List PyData
 |[]=>[]
 |d::r=>pyD d::pyL r
end
mutual
theorem noDict:∀d:Dt,PyData.hasDict (pyD d)=false
 |.non=>by simp[pyD,PyData.hasDict]
 |.bl _=>by simp[pyD,PyData.hasDict]
 |.int _=>by simp[pyD,PyData.hasDict]
 |.str _=>by simp[pyD,PyData.hasDict]
 |.lst ds=>by simp[pyD,PyData.hasDict,zH ds]
 |.tup ds=>by simp[pyD,PyData.hasDict,zH ds]
theorem zH:∀ds:List Dt,PyData.hasDictAll (pyL ds)=false
 |[]=>by simp[pyL,PyData.hasDictAll]
 |d::r=>by simp[pyL,PyData.hasDictAll,noDict d,zH r]
end
mutual
theorem Be{X:Cx}{pins:List (Addr×Obj)}{σ:L2.St}{H:Hp}{s:Shared}(I:Inv X pins σ H s):∀(d:Dt)(x:V)(u:Value),Brs X.K H d x->RelV x u->∃as,Reads s.heap u (pyD d) as
 |.non,x,u,h,r=>by simp only[Brs]at h;subst h;cases (show u=Value.none from r);exact⟨_,.none⟩
 |.bl b,x,u,h,r=>by simp only[Brs]at h;subst h;cases (show u=Value.bool b from r);exact⟨_,.bool b⟩
 |.int i,x,u,h,r=>by simp only[Brs]at h;subst h;obtain⟨t,rfl⟩:=(show ∃t,u=Value.int i t from r);exact⟨_,.int i t⟩
 |.str y,x,u,h,r=>by simp only[Brs]at h;subst h;obtain⟨t,rfl⟩:=(show ∃t,u=Value.str y t from r);exact⟨_,.str y t⟩
 |.lst ds,x,u,h,r=>by
  simp only[Brs]at h;obtain⟨a,xs,rfl,hq,hb⟩:=h;cases (show u=Value.ref a from r);obtain⟨its,rv,p,_⟩:=I.list hq;obtain⟨as,ha⟩:=tZ I ds xs its hb rv;obtain⟨o,h1,h2,n,h3⟩:=p.isList;exact⟨_,.list h1 h2 h3 ha⟩
 |.tup ds,x,u,h,r=>by
  simp only[Brs]at h;obtain⟨a,xs,rfl,hq,hb⟩:=h;cases (show u=Value.ref a from r);obtain⟨its,rv,p,_⟩:=I.tuple hq;obtain⟨as,ha⟩:=tZ I ds xs its hb rv;obtain⟨o,h1,h2,n,h3⟩:=p;exact⟨_,.tuple h1 h2 h3 ha⟩
theorem tZ{X:Cx}{pins:List (Addr×Obj)}{σ:L2.St}{H:Hp}{s:Shared}(I:Inv X pins σ H s):∀(ds:List Dt)(xs:List V)(us:List Value),gB X.K H ds xs->Vals xs us->∃as,ReadsAll s.heap us (pyL ds) as
 |[],xs,us,h,r=>by simp only[gB]at h;subst h;cases r;exact⟨_,.nil⟩
 |d::ds,xs,us,h,r=>by
  simp only[gB]at h;obtain⟨x,ys,rfl,h1,h2⟩:=h;cases r with
  |cons p q=>
   obtain⟨as,ha⟩:=Be I d x _ h1 p;obtain⟨bs,hb⟩:=tZ I ds ys _ h2 q;exact⟨_,.cons ha hb⟩
end
end Jb
namespace PySem
open PySem.Builtin PySem.Builtin.SmallTypes
def yS(id:String):Builtin:=λargs=>do
 let x ←slotArgs "__next__" 0 args
 match x with
 |(self,snd)=>do
  let seq ←field self 0
  let jp:Unit->Sem PySem.Fin:=λ_=>do
   let y ←field self 1
   match y with
   |Value.int i tok=>do
    let z ←seqItems? seq
    match z with
    |some xs=>
     match xs[i.toNat]? with
     |some v=>do
      setField self 1 (rawInt (i+1))
      ret v
     |none=>do
      rule (toString id++toString ".end")
      setField self 0 Value.none
      stopIteration
    |_=>unsupported (toString "internal:"++toString id)
   |_=>unsupported (toString "internal:"++toString id)
  if(seq==Value.none)=true then do
   rule (toString id++toString ".ended")
   let r ←stopIteration
   jp r
  else jp ()
theorem uq:Builtin.«tuple_iterator.__next__»=yS "tuple_iterator.__next__":=rfl
section
variable{prog:Program}{w:World}{A:Around}{E:Value->Shared->Prop}{it t:Addr}{i:Nat}{items:Array Value}{h:Heap}{g:Array GenState}{d:Drawn}{tk:Nat}{os:OsState}
theorem rB{x:Value}{Q:Value->Shared->Prop}(st:h.IsTupleIter it t i)(p:h.IsTuple t items)(hx:items[i]? =some x)
  (hq:∀h',h'.IsTupleIter it t (i+1)->Heap.SameBut it h h'->Q x ⟨h',g,d,tk,os⟩):wpAny (model prog w) A (Builtin.SmallTypes.nextOf (.ref it)) Q E ⟨h,g,d,tk,os⟩:=by
 have hT:(⟨h,g,d,tk,os⟩:Shared).TypeIs (.ref it) "tuple_iterator":=st.typeIs;unfold Builtin.SmallTypes.nextOf;refine wpAny_bind (wpAny_callSpecial?_slot hT F.slot_tuple_iterator_next ?_);obtain⟨o,ho,hc,hd⟩:=st;obtain⟨ot,h1,h2,n,h3⟩:=p
 repeat(any_goals(first|assumption|wp_step))
 refine codeAny_call_builtin F.slot_tuple_iterator_next.plain F.entry_tuple_iterator_next (F.slot_tuple_iterator_next.check _ _ _ _ _ _ _ _ hT (F.args_tuple_iterator_next_1 _) ?_);rw[uq];unfold yS
 repeat(any_goals(first|assumption|wp_step))
 rw[hd];refine wpAny_pure (wpAny_pure ?_);show wpAny _ _ (if(Value.ref t==Value.none)=true then _ else _) _ _ _;rw[show(Value.ref t==Value.none)=false from rfl,if_neg Bool.false_ne_true]
 repeat(any_goals(first|assumption|wp_step))
 rw[hd];refine wpAny_pure (wpAny_pure ?_);show wpAny _ _ (seqItems? (Value.ref t) >>=_) _ _ _;refine wpAny_bind (wpAny_seqItems h1 h3 ?_);dsimp only;have hi:(i:Int).toNat=i:=Int.toNat_natCast i;rw[hi,hx];dsimp only;refine wpAny_bind (wpAny_setField ho hd (by show 1<2;decide) ?_);refine wpAny_pure ?_;dsimp only;refine wpAny_pure (hq _ ?_ ⟨Heap.size_update ..,λb hb=>Heap.get?_update_other h _ (Ne.symm hb)⟩);refine⟨_,Heap.get?_update_self _ ho (Obj.isFreed_of_fields (Obj.data_mapFields hd _)),(Obj.cls_mapFields ..).trans hc,?_⟩;rw[Obj.data_mapFields hd];have e1:(((i+1:Nat)):Int)=(i:Int)+1:=by omega
 rw[e1];rfl
theorem La{α:Type}{Q:α->Shared->Prop}(hh:A.handled=none)
  (hq:∀h' e,(∀b o,h.get? b=some o->h'.get? b=some o)->(∃o,h'.get? e=some o/\o.cls= .type "StopIteration")->E (.ref e) ⟨h',g,d,tk,os⟩):wpAny (model prog w) A (stopIteration:Sem α) Q E ⟨h,g,d,tk,os⟩:=by
 unfold stopIteration
 repeat(any_goals(first|assumption|wp_step))
 unfold raiseNew;refine wpAny_bind (wpAny_handled ?_);rw[hh];dsimp only;exact wpAny_throw (hq _ _ (λb o e=>Heap.get?_push_of_some _ (Heap.get?_push_of_some _ e)) ⟨_,Heap.get?_push_size _ rfl,rfl⟩)
theorem lH{Q:Value->Shared->Prop}(hh:A.handled=none)(st:h.IsTupleIter it t i)(p:h.IsTuple t items)(hx:items[i]? =none)
  (hq:∀h' e,Heap.ExtBut it h h'->(∃o,h'.get? e=some o/\o.cls= .type "StopIteration")->E (.ref e) ⟨h',g,d,tk,os⟩):wpAny (model prog w) A (Builtin.SmallTypes.nextOf (.ref it)) Q E ⟨h,g,d,tk,os⟩:=by
 have hT:(⟨h,g,d,tk,os⟩:Shared).TypeIs (.ref it) "tuple_iterator":=st.typeIs;unfold Builtin.SmallTypes.nextOf;refine wpAny_bind (wpAny_callSpecial?_slot hT F.slot_tuple_iterator_next ?_);obtain⟨o,ho,hc,hd⟩:=st;obtain⟨ot,h1,h2,n,h3⟩:=p
 repeat(any_goals(first|assumption|wp_step))
 refine codeAny_call_builtin F.slot_tuple_iterator_next.plain F.entry_tuple_iterator_next (F.slot_tuple_iterator_next.check _ _ _ _ _ _ _ _ hT (F.args_tuple_iterator_next_1 _) ?_);rw[uq];unfold yS
 repeat(any_goals(first|assumption|wp_step))
 rw[hd];refine wpAny_pure (wpAny_pure ?_);show wpAny _ _ (if(Value.ref t==Value.none)=true then _ else _) _ _ _;rw[show(Value.ref t==Value.none)=false from rfl,if_neg Bool.false_ne_true]
 repeat(any_goals(first|assumption|wp_step))
 rw[hd];refine wpAny_pure (wpAny_pure ?_);show wpAny _ _ (seqItems? (Value.ref t) >>=_) _ _ _;refine wpAny_bind (wpAny_seqItems h1 h3 ?_);dsimp only;have hi:(i:Int).toNat=i:=Int.toNat_natCast i;rw[hi,hx];dsimp only;refine wpAny_bind (wpAny_rule ?_);refine wpAny_bind (wpAny_setField ho hd (by show 0<2;decide) ?_);refine La (show A.in1.handled=none from hh) λh' e old he=>?_;exact hq h' e (λb ob hb hg=>old b ob ((Heap.get?_update_other h _ (Ne.symm hb)).trans hg)) he
theorem Draws.tuple(hh:A.handled=none)(it t:Addr)(hne:t≠it)(items:Array Value):Draws prog w A it [it,t] items.size (λi v=>items[i]? =some v) λi h=>h.IsTupleIter it t i/\h.IsTuple t items where
 live:=λi h st=>let⟨o,ho,_⟩:=st.1;⟨o,ho⟩
 frame:=λi h h' st k=>⟨st.1.at λo e=>k it (by simp) o e,let⟨o,h1,h2⟩:=st.2;⟨o,k t (by simp) o h1,h2⟩⟩
 item:=λi s Q E hi st k=>by
  obtain⟨h,g,d,tk,os⟩:=s;refine rB st.1 st.2 (x:=items[i]) (by simp[hi]) λh' st' sb=>k _ h' tk (by simp[hi]) ⟨st',?_⟩ sb;obtain⟨o,h1,h2⟩:=st.2;exact⟨o,(sb.2 t hne).trans h1,h2⟩
 done:=λs Q E st k=>by
  obtain⟨h,g,d,tk,os⟩:=s;exact lH hh st.1 st.2 (by simp) λh' e eb he=>k h' e eb he
theorem Draws.tupleEnd(hh:A.handled=none)(it t:Addr)(i:Nat)(items:Array Value)(hx:items[i]? =none):Draws prog w A it [it,t] i (λ_ _=>False) λj h=>j=i/\h.IsTupleIter it t i/\h.IsTuple t items where
 live:=λj h st=>let⟨o,ho,_⟩:=st.2.1;⟨o,ho⟩
 frame:=λj h h' st k=>⟨st.1,st.2.1.at λo e=>k it (by simp) o e,let⟨o,h1,h2⟩:=st.2.2;⟨o,k t (by simp) o h1,h2⟩⟩
 item:=λj s Q E hj st k=>absurd st.1 (Nat.ne_of_lt hj)
 done:=λs Q E st k=>by
  obtain⟨h,g,d,tk,os⟩:=s;exact lH hh st.2.1 st.2.2 hx λh' e eb he=>k h' e eb he
theorem wL{Q:PySem.Fin->Shared->Prop}(hp:h.IsTuple t items)
  (hq:Q (.done (.ret (.ref (h.objs.size+1)))) ⟨(h.push {cls:=.type "tuple_iterator",data:=.fields #[.ref t,.int 0 0]}).push {cls:=.type "enumerate",data:=.fields #[.none,.bool false,.ref h.objs.size,rawInt 0,.none,.none]},g,d,tk,os⟩) :
  wpAny (model prog w) A (Builtin.«enumerate.__new__» ⟨[.type "enumerate",.ref t],[]⟩) Q E ⟨h,g,d,tk,os⟩:=by
 have f1:=sub_enumerate
 repeat(any_goals(first|assumption|wp_step))
 refine wpAny_stack λst _ _ _=>?_;refine wpAny_pure ?_;have key:wpAny (model prog w) A (do let it ←pyIter (.ref t);let r ←Builtin.SmallTypes.newRecord (Value.type "enumerate") (Builtin.SmallTypes.ownedTupleFields++[it,rawInt 0,Value.none,Value.none]);ret r) Q E ⟨h,g,d,tk,os⟩:=by
  refine wpAny_bind (wpAny_pyIter_tuple hp ?_)
  repeat(any_goals(first|assumption|wp_step))
  rw[Heap.size_push];exact hq
 dsimp only;split
 .split
  .refine wpAny_bind (wpAny_of_eq (a:=(Value.ref t,none)) (by rfl) ?_)
   exact key
  .refine wpAny_bind (wpAny_of_eq (a:=(Value.ref t,none)) (by rfl) ?_)
   exact key
 .rw[if_neg (by decide)]
  refine wpAny_bind (wpAny_of_eq (a:=(Value.ref t,none)) (by rfl) ?_);exact key
theorem oN{Q:Value->Shared->Prop}(hp:h.IsTuple t items)
  (hq:∀h',IsEnum h' (h.objs.size+1) h.objs.size 0 .none->h'.IsTupleIter h.objs.size t 0->h'.objs.size=h.objs.size+2->(∀b o,h.get? b=some o->h'.get? b=some o)->Q (.ref (h.objs.size+1)) ⟨h',g,d,tk,os⟩) :
  wpAny (model prog w) A (call (.type "enumerate") [.ref t]) Q E ⟨h,g,d,tk,os⟩:=by
 have e1:((h.push {cls:=.type "tuple_iterator",data:=.fields #[.ref t,.int 0 0]}).push {cls:=.type "enumerate",data:=.fields #[.none,.bool false,.ref h.objs.size,rawInt 0,.none,.none]}).get? (h.objs.size+1)=some {cls:=.type "enumerate",data:=.fields #[.none,.bool false,.ref h.objs.size,rawInt 0,.none,.none]}:=by
  rw[←Heap.size_push h {cls:=.type "tuple_iterator",data:=.fields #[.ref t,.int 0 0]}];exact Heap.get?_push_size _ rfl
 refine callType_newIn F.called_enumerate (by decide) (F.typeCall_enumerate_1 _) (F.newCall_enumerate_1 _) (λobj=>F.args_object_init_2 _ _) F.entry_enumerate_new (S:=λA' R s'=>s'=⟨h,g,d,tk,os⟩/\R (.ok (.ret (.ref (h.objs.size+1)))) ⟨(h.push {cls:=.type "tuple_iterator",data:=.fields #[.ref t,.int 0 0]}).push {cls:=.type "enumerate",data:=.fields #[.none,.bool false,.ref h.objs.size,rawInt 0,.none,.none]},g,d,tk,os⟩) ?_ ⟨rfl,⟨⟨_,e1,rfl⟩,hq _ e1 ⟨_,Heap.get?_push_of_some _ (Heap.get?_push_size _ rfl),rfl,rfl⟩ (by rw[Heap.size_push,Heap.size_push]) λb o e=>Heap.get?_push_of_some _ (Heap.get?_push_of_some _ e)⟩⟩;rintro A' R s' ⟨rfl,hR⟩;exact wL hp hR
end
end PySem
namespace Jb
open PySem PySem.Spec PyProof.Rows L2
def U7(K:PySem.W.Frag)(a:Addr):It:=
 ⟨λi H=>∃xs x,SqT K H a xs/\xs[i]? =some x,λi H x H'=>∃p v,H p=none/\x= .ref p/\(∀xs,SqT K H a xs->xs[i]? =some v)/\H'=upd H p (.tup [.int i,v]),λi H=>∃xs,SqT K H a xs/\xs.length<=i⟩
theorem Dm{P:Program}{w:World}{K:PySem.W.Frag}{elts:List Expr}{x1}{pos:Pos}(a e it:Addr)(hne:e≠it)(hea:e≠a)(hia:it≠a) :
  Turn P w K (.Tuple elts x1 pos) (U7 K a) [e,it] e (λi h=>(∃old,IsEnum h e it (i:Int) old)/\h.IsTupleIter it a i)where
 mem:=by simp
 obj:=λi h st b hb=>by
  obtain⟨⟨old,he⟩,o,ho,c,d⟩:=st;rcases List.mem_cons.mp hb with z|z
  .subst z
   exact⟨_,he,λv z=>by cases z⟩
  .have z:b=it:=by simpa using z
   subst z;exact⟨o,ho,λv z=>by rw[d]at z;cases z⟩
 keep:=λi h h' st k=>by
  obtain⟨⟨old,he⟩,hit⟩:=st;exact⟨⟨old,k e (by simp) _ he⟩,hit.at λo q=>k it (by simp) o q⟩
 item:=by
  intro X hP hw hK hc i pins s σ H E I hf st hg;subst hP hw hK;obtain⟨xs,x,hq,hx⟩:=hg;obtain⟨its,rv,p,hz⟩:=I.tuple hq;obtain⟨u,hu,ru⟩:=rv.get hx;obtain⟨⟨old,he⟩,hit⟩:=st;have hil:i<its.toArray.size:=by simp;exact(List.getElem?_eq_some_iff.mp hu).1
  have p':s.heap.IsTuple a its.toArray:=p;refine wpAny_pyNext_enum_itemD (Draws.tuple (show X.A.in1.handled=none from I.ok.hd hc) it a (Ne.symm hia) its.toArray) he ⟨hit,p'⟩ hil hne (λz=>by rcases List.mem_cons.mp z with q|q;exact hne q;exact hea (List.mem_singleton.mp q)) λy h1 tk hy ho1 hit1 ht1 hsz1 k1=>?_;have ey:y=u:=by
   have:its[i]? =some y:=by simpa using hy
   rw[hu]at this;exact(Option.some.inj this).symm
  subst ey;refine⟨.ref s.heap.objs.size,rfl,wpAny_letOwnedTupleGo_enum ho1 λh2 he2 sb2=>?_⟩;have hel:e<s.heap.objs.size:=Heap.lt_size he;have hpe:s.heap.objs.size≠e:=Nat.ne_of_gt hel;have ht2:h2.get? s.heap.objs.size=some {cls:=.type "tuple",data:=.seq #[.int i tk,y]}:=sb2.extBut _ _ hpe ht1;have I2:Inv X pins σ (upd H s.heap.objs.size (.tup [.int i,x])) {s with heap:=h2,toks:=tk+1}:=by
   refine BK (fp:=[e,it]) (t':=tk+1) I hf (λb o hb q=>?_) (Nat.le_refl _) ?_
   .have n1:b≠e:=λz=>hb (by simp[z])
    have n2:b≠it:=λz=>hb (by simp[z]);exact sb2.extBut b o n1 (k1 b o n1 n2 q)
   .exact⟨by show 2<=sizeLine;decide,[.int i tk,y],.cons ⟨_,rfl⟩ (.cons ru .nil),_,ht2,rfl,_,rfl⟩
  refine⟨.ref s.heap.objs.size,upd H s.heap.objs.size (.tup [.int i,x]),I2,rfl,⟨_,x,I.hok.fresh (Nat.le_refl _),rfl,λys hy=>by rw[I.tuple_inj hy hq];exact hx,rfl⟩,?_,λb hb=>?_⟩
  .refine⟨⟨y,?_⟩,hit1.1.extBut sb2.extBut (Ne.symm hne)⟩
   have e1:(((i+1:Nat)):Int)=(i:Int)+1:=by omega
   rw[e1];exact he2
  .rw[aV]
   .exact(hf b hb).1
   .intro z
    rw[z]at hb;rcases List.mem_cons.mp hb with q|q
    .exact hpe q
    .have q:s.heap.objs.size=it:=by simpa using q
     obtain⟨o,ho,_⟩:=hit;exact absurd (Heap.lt_size ho) (by rw[q];exact Nat.lt_irrefl _)
 done:=by
  intro X hP hw hK hc i pins s σ H E I hf st hg;subst hP hw hK;obtain⟨xs,hq,hx⟩:=hg;obtain⟨its,rv,p,hz⟩:=I.tuple hq;obtain⟨⟨old,he⟩,hit⟩:=st;have hl:=rv.length;have p':s.heap.IsTuple a its.toArray:=p;refine wpAny_pyNext_enum_endD (Draws.tupleEnd (show X.A.in1.handled=none from I.ok.hd hc) it a i its.toArray (by simp;omega)) he ⟨rfl,hit,p'⟩ λh1 eb=>⟨rfl,?_⟩;exact o9 (fp:=[e,it]) (t':=s.toks) I hf λb o hb q=>eb b o (λz=>hb (by simp[z])) q
 self:=λA i s Q E st h=>by
  obtain⟨⟨old,he⟩,_⟩:=st;exact wpAny_pyIter_enum he h
section
variable{X:Cx}{elts:List Expr}{x1:Nat}{tpos:Pos}{tg e:Expr}{te:TE}
def Kr(K:PySem.W.Frag)(ta:TA):TI:=λσ H R=>ta σ H λvs H1=>∃a,vs=[.ref a]/\(((∃xs,SqL K H1 a xs)/\R (Ite K a) H1)∨((∃xs,SqT K H1 a xs)/\R (U7 K a) H1))
theorem Kz{a:Expr}{ta:TA}{p pos:Pos}{x1}(hg:Gl X "enumerate")(hm:X.mg "enumerate"=none)(ha:PA X [a] ta)(hs:starEach [a] X.env=[(false,eval a X.env)]:=by rfl):PI X (.Tuple elts x1 tpos) (.Call (.Name "enumerate" p) [a] [] pos) (Kr X.K ta):=by
 intro pins s σ H R I h;refine Call_ (pZ I hg hm boot_enumerate (PyProof.Rows.callWith_type1 (thn (ha pos pins s σ H _ I h) λus s1 ⟨vs,H1,I1,r1,q1⟩=>?_) hs rfl));obtain⟨l,e,q⟩:=q1;subst e;obtain⟨u,rfl,ru⟩:=vals1 r1;cases ru;have fin:∀b∈[s1.heap.objs.size+1,s1.heap.objs.size],mL X pins H1 b:=λb hb=>by
  have hb2:s1.heap.objs.size<=b:=by
   rcases List.mem_cons.mp hb with z|z
   .rw[z];exact Nat.le_succ _
   .have z:b=s1.heap.objs.size:=by simpa using z
    rw[z];exact Nat.le_refl _
  exact I1.fpOk hb2 (I1.hok.fresh hb2)
 rcases q with⟨⟨xs,hq⟩,q⟩|⟨⟨xs,hq⟩,q⟩
 .obtain⟨its,rv,pl,hz⟩:=I1.list hq
  refine call_enumerate_list pl.isList λh1 he hit hsz k1=>?_;have I2:Inv X pins σ H1 {s1 with heap:=h1}:=I1.kept (t':=s1.toks) k1;refine wpAny_pyIter_enum he ?_;exact⟨s1.heap.objs.size+1,[s1.heap.objs.size+1,s1.heap.objs.size],_,_,H1,rfl,I2,Hd l _ _ (Nat.succ_ne_self _),⟨⟨_,he⟩,hit⟩,fin,q⟩
 .obtain⟨its,rv,pl,hz⟩:=I1.tuple hq
  have pl':s1.heap.IsTuple l its.toArray:=pl;have hlt:l<s1.heap.objs.size:=let⟨_,h1,_⟩:=pl';Heap.lt_size h1;obtain⟨hp,g,d,tk,os⟩:=s1;refine oN pl' λh1 he hit hsz k1=>?_;have I2:Inv X pins σ H1 {heap:=h1,gens:=g,drawn:=d,toks:=tk,os:=os}:=I1.kept (t':=tk) k1;refine wpAny_pyIter_enum he ?_;exact⟨hp.objs.size+1,[hp.objs.size+1,hp.objs.size],_,_,H1,rfl,I2,Dm l _ _ (Nat.succ_ne_self _) (Nat.ne_of_gt (Nat.lt_succ_of_lt hlt)) (Nat.ne_of_gt hlt),⟨⟨_,he⟩,hit⟩,fin,q⟩
def Ve(K:PySem.W.Frag)(te:TE):TI:=λσ H R=>te σ H λx H1=>∃a,x= .ref a/\(((∃xs,SqL K H1 a xs)/\R (Itl K a) H1)∨((∃xs,SqT K H1 a xs)/\R (Itt K a) H1))
theorem Rn(hl:PE X e te):PI X tg e (Ve X.K te):=by
 intro pins s σ H R I h;refine thn (hl pins s σ H _ I h) λv s1 ⟨x,H1,I1,r1,q1⟩=>?_;obtain⟨a,ex,q⟩:=q1;subst ex;cases r1;have fin:∀b∈[s1.heap.objs.size],mL X pins H1 b:=λb hb=>by
  rw[List.mem_singleton.mp hb];exact I1.fpOk (Nat.le_refl _) (I1.hok.fresh (Nat.le_refl _))
 rcases q with⟨⟨xs,hq⟩,q⟩|⟨⟨xs,hq⟩,q⟩
 .obtain⟨its,rv,p,hz⟩:=I1.list hq
  refine wpAny_pyIter_list p.isList ?_;exact⟨s1.heap.objs.size,[s1.heap.objs.size],_,_,H1,rfl,I1.kept (t':=s1.toks) λb o e=>Heap.get?_push_of_some _ e,Hm a _,⟨_,Heap.get?_push_size _ rfl,rfl,rfl⟩,fin,q⟩
 .obtain⟨its,rv,p,hz⟩:=I1.tuple hq
  refine wpAny_pyIter_tuple (show s1.heap.IsTuple a its.toArray from p) ?_;exact⟨s1.heap.objs.size,[s1.heap.objs.size],_,_,H1,rfl,I1.kept (t':=s1.toks) λb o e=>Heap.get?_push_of_some _ e,DW a _,⟨_,Heap.get?_push_size _ rfl,rfl,rfl⟩,fin,q⟩
end
section
variable{X:Cx}
def QD(K:PySem.W.Frag)(A:Around):List V->Hp->VK->Prop:=λxs H Q=>∃a d,xs=[.ref a]/\Brs K H d (.ref a)/\A.guards=some []/\A.units+((pyD d).depth+3)<cLine/\(pyD d).showable=true/\(pyD d).shown.length<=sizeLine/\Q (.str (pyD d).shown) H
theorem Hv:fD X (.type "str") (QD X.K X.A):=by
 intro pins s σ H xs us Q I r h;obtain⟨a,d,rfl,hb,hg,hu,hsh,hl,q⟩:=h;obtain⟨u,rfl,ru⟩:=vals1 r;cases ru;obtain⟨as,ha⟩:=Be I d (.ref a) (.ref a) hb rfl;exact str_of_reads ha hsh (λz=>by rw[noDict d]at z;cases z) hg hu (λ_ _ e=>e) (λh' u tk old=>⟨.str _,H,I.kept (t':=tk) old,⟨_,rfl⟩,q⟩) hl
end
def inK(S:List Key)(k:Key):Bool:=S.any λx=>decide (x=k)
def lJ(S:List Key)(k:Key):List Key:=if inK S k then S else S++[k]
def uJ(ks:List Key):List Key:=ks.foldl lJ []
theorem yU{S:List Key}{k:Key}:inK S k=true↔k∈S:=by
 unfold inK;rw[List.any_eq_true];constructor
 .rintro⟨x,h1,h2⟩
  rw[←of_decide_eq_true h2];exact h1
 .exact λh=>⟨k,h,by simp⟩
theorem F_{S:List Key}{k x:Key}:inK (lJ S k) x=(inK S x||decide (x=k)):=by
 rw[Bool.eq_iff_iff,Bool.or_eq_true,yU,yU,decide_eq_true_iff];unfold lJ;split
 .rename_i h
  rw[yU]at h;exact⟨.inl,λz=>z.elim id λz=>by rw[z];exact h⟩
 .simp
theorem nH{S:List Key}{k:Key}:(lJ S k).length=if inK S k then S.length else S.length+1:=by
 unfold lJ;split<;>simp
theorem BX{P:Program}{w:World}{k:Key}{u:Value}(r:RelV (kV k) u):u.scannable=true:=by
 cases k with
 |inl i=>obtain⟨t,rfl⟩:=r;rfl
 |inr x=>obtain⟨t,rfl⟩:=r;rfl
section
variable{prog:Program}{w:World}
theorem JV{S it l:Addr}{its:List Value}{ks:List Key}{A:Around}{R:Result->Shared->Prop}(hh:A.handled=none)(hl:ks.length=its.length)(hk:∀(j:Nat)(k:Key)(v:Value),ks[j]? =some k->its[j]? =some v->RelV (kV k) v)(hb:its.length+1<scanBound)(nS:S≠it)(nl:l≠it)(nlS:l≠S):∀(m i:Nat)(acc:List Key)(s:Shared),its.length-i=m->i<=its.length->s.heap.IsList l its.toArray->s.heap.IsListIter it l i->s.heap.SetOf (bL prog w) S (inK acc) acc.length->acc.length<=i->
  (∀h' tk,(∀b o,b≠S->b≠it->s.heap.get? b=some o->h'.get? b=some o)->h'.SetOf (bL prog w) S (inK ((ks.drop i).foldl lJ acc)) ((ks.drop i).foldl lJ acc).length->R (.ok (.ret .none)) {s with heap:=h',toks:=tk})->
  codeAny (model prog w) A (.builtin "set.update.loop" ⟨[.ref S,.ref it],[]⟩) R s:=by
 intro m
 induction m with
 |zero=>
  intro i acc s hm hi pl hit hS ha k;have e:i=its.length:=by omega
  subst e;refine codeAny_builtin F.entry_set_update_loop ?_;rw[Around.under_plainId F.plain_set_update_loop _];unfold Builtin.«set.update.loop»;dsimp only;refine wpAny_bind (wpAny_pyNext_list_end (show A.in1.handled=none from hh) hit pl (by simp) λh' eb=>?_);dsimp only;refine wpAny_pure (k h' _ (λb o _ b2 e=>eb b o b2 e) ?_);rw[←hl,List.drop_length];obtain⟨o,es,ep,t,ho,rest⟩:=hS;exact⟨o,es,ep,t,eb S _ nS ho,rest⟩
 |succ m ih=>
  intro i acc s hm hi pl hit hS ha k;have hlt:i<its.length:=by omega
  have hlk:i<ks.length:=by omega
  refine codeAny_builtin F.entry_set_update_loop ?_;rw[Around.under_plainId F.plain_set_update_loop _];unfold Builtin.«set.update.loop»;dsimp only;refine wpAny_bind (wpAny_pyNext_list_item hit pl (x:=its[i]) (by simp[hlt]) λh1 hit1 sb1=>?_);dsimp only;have hS1:h1.SetOf (bL prog w) S (inK acc) acc.length:=by
   obtain⟨o,es,ep,t,ho,rest⟩:=hS;exact⟨o,es,ep,t,(sb1.2 S nS).trans ho,rest⟩
  have rk:=hk i ks[i] its[i] (List.getElem?_eq_getElem hlk) (List.getElem?_eq_getElem hlt);refine wpAny_bind (wpAny_holding ?_);unfold setAdd;refine wpAny_holding ?_;refine wpAny_bind ((bL prog w).pyHash (k:=ks[i]) (pY rk) ?_);refine wpAny_setAddHashed_of (knd:=bL prog w) (pY rk) (BX (P:=prog) (w:=w) rk) hS1 (by omega) λh2 sb2 hS2=>?_;refine wpAny_pure ⟨plainId_quiet F.plain_set_update_loop _,?_⟩;have hS3:h2.SetOf (bL prog w) S (inK (lJ acc ks[i])) (lJ acc ks[i]).length:=by
   have e1:(λk'=>inK acc k'||decide (k'=ks[i]))=inK (lJ acc ks[i]):=funext λk'=>F_.symm;rw[←e1,nH];exact hS2
  refine ih (i+1) (lJ acc ks[i]) _ (by omega) hlt ?_ ?_ hS3 ?_ λh' tk kp hS'=>k h' tk (λb o b1 b2 e=>kp b o b1 b2 ((sb2.2 b b1).trans ((sb1.2 b b2).trans e))) ?_
  .obtain⟨o,h1',h2'⟩:=pl
   exact⟨o,(sb2.2 l nlS).trans ((sb1.2 l nl).trans h1'),h2'⟩
  .exact hit1.extBut sb2.extBut (Ne.symm nS)
  .rw[nH]
   split<;>omega
  .rw[List.drop_eq_getElem_cons hlk]
   exact hS'
abbrev iI(led:Bool):Obj:={cls:=.type "set",dict:=none,data:=.set #[] 0 (.fresh 0 0 led)}
def sY(prog:Program)(w:World)(s:Shared)(ks:List Key)(s2:Shared):Prop:=∃h' tk,s2={s with heap:=h',toks:=tk}/\h'.SetOf (bL prog w) s.heap.objs.size (inK (uJ ks)) (uJ ks).length/\∀b o,s.heap.get? b=some o->h'.get? b=some o
theorem J1{l:Addr}{its:List Value}{ks:List Key}{A:Around}{s:Shared}{led:Bool}{E:Value->Shared->Prop}(hh:A.handled=none)(hl:ks.length=its.length)(hk:∀(j:Nat)(k:Key)(v:Value),ks[j]? =some k->its[j]? =some v->RelV (kV k) v)(hb:its.length+1<scanBound)(pl:s.heap.IsList l its.toArray){R:PySem.Fin->Shared->Prop}
  (hR:∀s2,sY prog w s ks s2->R (.done (.ret .none)) s2):wpAny (model prog w) A (Builtin.«set.__init__» ⟨[.ref s.heap.objs.size,.ref l],[]⟩) R E {s with heap:=s.heap.push (iI led)}:=by
 obtain⟨ol,hol,hcl,nl,hdl⟩:=pl;obtain⟨ocls,odict,odata,oslots⟩:=ol;simp only at hcl hdl;subst hcl hdl;have hS:(s.heap.push (iI led)).get? s.heap.objs.size=some (iI led):=Heap.get?_push_size _ rfl;have hT:Shared.TypeIs {s with heap:=s.heap.push (iI led)} (.ref s.heap.objs.size) "set":=⟨_,hS,rfl⟩;have hol':(s.heap.push (iI led)).get? l=some {cls:=.type "list",dict:=odict,data:=.seq its.toArray nl,slots:=oslots}:=Heap.get?_push_of_some _ hol;have hsls:=F.sub_list_set;have hslf:=F.sub_list_frozenset;have hne:(Value.type "list"==Value.type "dict")=false:=by decide
 have hl1:(s.heap.push (iI led)).IsList l its.toArray:=⟨_,hol',rfl,nl,rfl⟩;unfold Builtin.«set.__init__» noKeywords Builtin.Frozenset.updateFrom;generalize hPI:pyIter=PI
 wp_walk
 subst hPI;refine wpAny_pyIter_list hl1 ?_;refine wpAny_bind (wpAny_runValue ?_);have hlS:l<s.heap.objs.size:=Heap.lt_size hol;refine JV (prog:=prog) (w:=w) (its:=its) (ks:=ks) (A:=A) (S:=s.heap.objs.size) (l:=l) hh hl hk hb ?_ ?_ (Nat.ne_of_lt hlS) (its.length-0) 0 [] _ rfl (Nat.zero_le _) ?_ ?_ ?_ (Nat.le_refl _) λh' tk kp hS'=>?_
 .show s.heap.objs.size≠(s.heap.push (iI led)).objs.size
  rw[Heap.size_push];exact Nat.ne_of_lt (Nat.lt_succ_self _)
 .show l≠(s.heap.push (iI led)).objs.size
  rw[Heap.size_push];exact Nat.ne_of_lt (Nat.lt_succ_of_lt hlS)
 .exact hl1.push _
 .exact⟨_,Heap.get?_push_size _ rfl,rfl,rfl⟩
 .have hget:((s.heap.push (iI led)).push {cls:=.type "list_iterator",data:=.fields #[.ref l,.int 0 0]}).get? s.heap.objs.size=some (iI led):=Heap.get?_push_of_some _ hS
  letI:BEq Key:=instBEqOfDecidableEq
  haveI:LawfulBEq Key:=inferInstance
  have e0:(λ_:Key=>false)=inK []:=funext λ_=>rfl;rw[←e0];exact(PyProof.Rows.setObjOf_fresh (knd:=bL prog w) led).setOf hget (by unfold scanBound;omega)
 .refine wpAny_pure ?_
  show wpAny _ _ (ret Value.none) _ _ _;refine wpAny_pure (hR _ ⟨h',tk,rfl,by rw[List.drop_zero]at hS';exact hS',λb o e=>?_⟩);have hb0:b<s.heap.objs.size:=Heap.lt_size e;refine kp b o (Nat.ne_of_lt hb0) ?_ (Heap.get?_push_of_some _ (Heap.get?_push_of_some _ e));show b≠(s.heap.push (iI led)).objs.size;rw[Heap.size_push];exact Nat.ne_of_lt (Nat.lt_succ_of_lt hb0)
theorem HX{l:Addr}{its:List Value}{ks:List Key}{A:Around}{s:Shared}{E:Value->Shared->Prop}{Q:Value->Shared->Prop}(hh:A.handled=none)(hlk:ks.length=its.length)(hk:∀(j:Nat)(k:Key)(v:Value),ks[j]? =some k->its[j]? =some v->RelV (kV k) v)(hb:its.length+1<scanBound)(pl:s.heap.IsList l its.toArray)
  (h:∀s2,sY prog w s ks s2->Q (.ref s.heap.objs.size) s2):wpAny (model prog w) A (call (.type "set") [.ref l]) Q E s:=by
 obtain⟨c,tl,hmro⟩:=F.called_set.mro;have hmade:=F.called_set.made;have hsub:=F.called_set.sub;refine wpAny_call (codeAny_of_tree ?_);show wpAny _ _ (callAny (.type "set") _) _ _ _;refine wpAny_pure ⟨Code.quiet_builtin _ (by decide +kernel),codeAny_builtin F.entry_type_call ?_⟩;rw[Around.under_plain (weight_type_call_type "set" [.ref l] []) rfl];have h1:=F.called_set.notType;have h2:=F.called_set.canCreate;have hct:=F.typeCall_set_1 (.ref l)
 repeat(any_goals(first|assumption|wp_step))
 refine codeAny_mono (code_set_new_1 (.ref l) (E:=E) (Q₁:=λobj s₁=>∃led:Bool,obj= .ref s.heap.objs.size/\s₁={s with heap:=s.heap.push (iI led)}) λled=>⟨led,rfl,rfl⟩) λr s₁ hr=>?_;cases r with
 |error e=>exact hr
 |ok fl=>
  cases fl with
  |ret obj=>
   obtain⟨led,rfl,rfl⟩:=hr;have hS:(s.heap.push (iI led)).get? s.heap.objs.size=some (iI led):=Heap.get?_push_size _ rfl;have hT:Shared.TypeIs {s with heap:=s.heap.push (iI led)} (.ref s.heap.objs.size) "set":=⟨_,hS,rfl⟩;have hli:=F.called_set.init.lookup;have hbi:=F.called_set.init.bind (.ref s.heap.objs.size)
   repeat(any_goals(first|assumption|wp_step))
   refine codeAny_mono (codeAny_call_builtin (R:=wants (λr s₂=>r= .none/\sY prog w s ks s₂) E) F.called_set.init.plain F.entry_set_init (check_set_init_1 hT ?_)) λr₂ s₂ hr₂=>?_
   .exact J1 (led:=led) (by simp[hh]) hlk hk hb pl λs2 hs=>⟨rfl,hs⟩
   .cases r₂ with
    |error e=>exact hr₂
    |ok fl₂=>
     cases fl₂ with
     |ret r=>
      obtain⟨rfl,hs⟩:=hr₂
      repeat(any_goals(first|assumption|wp_step))
      exact h _ hs
     |_=>exact hr₂.elim
  |_=>exact hr.elim
end
section
variable{prog:Program}{w:World}
theorem HJ{S it l:Addr}{its:List Value}{ks:List Key}{A:Around}{R:Result->Shared->Prop}(hh:A.handled=none)(hl:ks.length=its.length)(hk:∀(j:Nat)(k:Key)(v:Value),ks[j]? =some k->its[j]? =some v->RelV (kV k) v)(hb:its.length+1<scanBound)(nS:S≠it)(nl:l≠it)(nlS:l≠S):∀(m i:Nat)(acc:List Key)(s:Shared),its.length-i=m->i<=its.length->s.heap.IsTuple l its.toArray->s.heap.IsTupleIter it l i->s.heap.SetOf (bL prog w) S (inK acc) acc.length->acc.length<=i->
  (∀h' tk,(∀b o,b≠S->b≠it->s.heap.get? b=some o->h'.get? b=some o)->h'.SetOf (bL prog w) S (inK ((ks.drop i).foldl lJ acc)) ((ks.drop i).foldl lJ acc).length->R (.ok (.ret .none)) {s with heap:=h',toks:=tk})->
  codeAny (model prog w) A (.builtin "set.update.loop" ⟨[.ref S,.ref it],[]⟩) R s:=by
 intro m
 induction m with
 |zero=>
  intro i acc s hm hi pl hit hS ha k;have e:i=its.length:=by omega
  subst e;refine codeAny_builtin F.entry_set_update_loop ?_;rw[Around.under_plainId F.plain_set_update_loop _];unfold Builtin.«set.update.loop»;dsimp only;refine wpAny_bind (wpAny_pyNext_tuple_end (show A.in1.handled=none from hh) hit pl (by simp) λh' eb=>?_);dsimp only;refine wpAny_pure (k h' _ (λb o _ b2 e=>eb b o b2 e) ?_);rw[←hl,List.drop_length];obtain⟨o,es,ep,t,ho,rest⟩:=hS;exact⟨o,es,ep,t,eb S _ nS ho,rest⟩
 |succ m ih=>
  intro i acc s hm hi pl hit hS ha k;have hlt:i<its.length:=by omega
  have hlk:i<ks.length:=by omega
  refine codeAny_builtin F.entry_set_update_loop ?_;rw[Around.under_plainId F.plain_set_update_loop _];unfold Builtin.«set.update.loop»;dsimp only;refine wpAny_bind (wpAny_pyNext_tuple_item hit pl (x:=its[i]) (by simp[hlt]) λh1 hit1 sb1=>?_);dsimp only;have hS1:h1.SetOf (bL prog w) S (inK acc) acc.length:=by
   obtain⟨o,es,ep,t,ho,rest⟩:=hS;exact⟨o,es,ep,t,(sb1.2 S nS).trans ho,rest⟩
  have rk:=hk i ks[i] its[i] (List.getElem?_eq_getElem hlk) (List.getElem?_eq_getElem hlt);refine wpAny_bind (wpAny_holding ?_);unfold setAdd;refine wpAny_holding ?_;refine wpAny_bind ((bL prog w).pyHash (k:=ks[i]) (pY rk) ?_);refine wpAny_setAddHashed_of (knd:=bL prog w) (pY rk) (BX (P:=prog) (w:=w) rk) hS1 (by omega) λh2 sb2 hS2=>?_;refine wpAny_pure ⟨plainId_quiet F.plain_set_update_loop _,?_⟩;have hS3:h2.SetOf (bL prog w) S (inK (lJ acc ks[i])) (lJ acc ks[i]).length:=by
   have e1:(λk'=>inK acc k'||decide (k'=ks[i]))=inK (lJ acc ks[i]):=funext λk'=>F_.symm;rw[←e1,nH];exact hS2
  refine ih (i+1) (lJ acc ks[i]) _ (by omega) hlt ?_ ?_ hS3 ?_ λh' tk kp hS'=>k h' tk (λb o b1 b2 e=>kp b o b1 b2 ((sb2.2 b b1).trans ((sb1.2 b b2).trans e))) ?_
  .obtain⟨o,h1',h2'⟩:=pl
   exact⟨o,(sb2.2 l nlS).trans ((sb1.2 l nl).trans h1'),h2'⟩
  .exact hit1.extBut sb2.extBut (Ne.symm nS)
  .rw[nH]
   split<;>omega
  .rw[List.drop_eq_getElem_cons hlk]
   exact hS'
theorem Ha{l:Addr}{its:List Value}{ks:List Key}{A:Around}{s:Shared}{led:Bool}{E:Value->Shared->Prop}(hh:A.handled=none)(hl:ks.length=its.length)(hk:∀(j:Nat)(k:Key)(v:Value),ks[j]? =some k->its[j]? =some v->RelV (kV k) v)(hb:its.length+1<scanBound)(pl:s.heap.IsTuple l its.toArray){R:PySem.Fin->Shared->Prop}
  (hR:∀s2,sY prog w s ks s2->R (.done (.ret .none)) s2):wpAny (model prog w) A (Builtin.«set.__init__» ⟨[.ref s.heap.objs.size,.ref l],[]⟩) R E {s with heap:=s.heap.push (iI led)}:=by
 obtain⟨ol,hol,hcl,nl,hdl⟩:=pl;obtain⟨ocls,odict,odata,oslots⟩:=ol;simp only at hcl hdl;subst hcl hdl;have hS:(s.heap.push (iI led)).get? s.heap.objs.size=some (iI led):=Heap.get?_push_size _ rfl;have hT:Shared.TypeIs {s with heap:=s.heap.push (iI led)} (.ref s.heap.objs.size) "set":=⟨_,hS,rfl⟩;have hol':(s.heap.push (iI led)).get? l=some {cls:=.type "tuple",dict:=odict,data:=.seq its.toArray nl,slots:=oslots}:=Heap.get?_push_of_some _ hol;have hsls:=F.sub_tuple_set;have hslf:=F.sub_tuple_frozenset;have hne:(Value.type "tuple"==Value.type "dict")=false:=by decide
 have hl1:(s.heap.push (iI led)).IsTuple l its.toArray:=⟨_,hol',rfl,nl,rfl⟩;unfold Builtin.«set.__init__» noKeywords Builtin.Frozenset.updateFrom;generalize hPI:pyIter=PI
 wp_walk
 subst hPI;refine wpAny_pyIter_tuple hl1 ?_;refine wpAny_bind (wpAny_runValue ?_);have hlS:l<s.heap.objs.size:=Heap.lt_size hol;refine HJ (prog:=prog) (w:=w) (its:=its) (ks:=ks) (A:=A) (S:=s.heap.objs.size) (l:=l) hh hl hk hb ?_ ?_ (Nat.ne_of_lt hlS) (its.length-0) 0 [] _ rfl (Nat.zero_le _) ?_ ?_ ?_ (Nat.le_refl _) λh' tk kp hS'=>?_
 .show s.heap.objs.size≠(s.heap.push (iI led)).objs.size
  rw[Heap.size_push];exact Nat.ne_of_lt (Nat.lt_succ_self _)
 .show l≠(s.heap.push (iI led)).objs.size
  rw[Heap.size_push];exact Nat.ne_of_lt (Nat.lt_succ_of_lt hlS)
 .exact hl1.push _
 .exact⟨_,Heap.get?_push_size _ rfl,rfl,rfl⟩
 .have hget:((s.heap.push (iI led)).push {cls:=.type "tuple_iterator",data:=.fields #[.ref l,.int 0 0]}).get? s.heap.objs.size=some (iI led):=Heap.get?_push_of_some _ hS
  letI:BEq Key:=instBEqOfDecidableEq
  haveI:LawfulBEq Key:=inferInstance
  have e0:(λ_:Key=>false)=inK []:=funext λ_=>rfl;rw[←e0];exact(PyProof.Rows.setObjOf_fresh (knd:=bL prog w) led).setOf hget (by unfold scanBound;omega)
 .refine wpAny_pure ?_
  show wpAny _ _ (ret Value.none) _ _ _;refine wpAny_pure (hR _ ⟨h',tk,rfl,by rw[List.drop_zero]at hS';exact hS',λb o e=>?_⟩);have hb0:b<s.heap.objs.size:=Heap.lt_size e;refine kp b o (Nat.ne_of_lt hb0) ?_ (Heap.get?_push_of_some _ (Heap.get?_push_of_some _ e));show b≠(s.heap.push (iI led)).objs.size;rw[Heap.size_push];exact Nat.ne_of_lt (Nat.lt_succ_of_lt hb0)
theorem Dd{l:Addr}{its:List Value}{ks:List Key}{A:Around}{s:Shared}{E:Value->Shared->Prop}{Q:Value->Shared->Prop}(hh:A.handled=none)(hlk:ks.length=its.length)(hk:∀(j:Nat)(k:Key)(v:Value),ks[j]? =some k->its[j]? =some v->RelV (kV k) v)(hb:its.length+1<scanBound)(pl:s.heap.IsTuple l its.toArray)
  (h:∀s2,sY prog w s ks s2->Q (.ref s.heap.objs.size) s2):wpAny (model prog w) A (call (.type "set") [.ref l]) Q E s:=by
 obtain⟨c,tl,hmro⟩:=F.called_set.mro;have hmade:=F.called_set.made;have hsub:=F.called_set.sub;refine wpAny_call (codeAny_of_tree ?_);show wpAny _ _ (callAny (.type "set") _) _ _ _;refine wpAny_pure ⟨Code.quiet_builtin _ (by decide +kernel),codeAny_builtin F.entry_type_call ?_⟩;rw[Around.under_plain (weight_type_call_type "set" [.ref l] []) rfl];have h1:=F.called_set.notType;have h2:=F.called_set.canCreate;have hct:=F.typeCall_set_1 (.ref l)
 repeat(any_goals(first|assumption|wp_step))
 refine codeAny_mono (code_set_new_1 (.ref l) (E:=E) (Q₁:=λobj s₁=>∃led:Bool,obj= .ref s.heap.objs.size/\s₁={s with heap:=s.heap.push (iI led)}) λled=>⟨led,rfl,rfl⟩) λr s₁ hr=>?_;cases r with
 |error e=>exact hr
 |ok fl=>
  cases fl with
  |ret obj=>
   obtain⟨led,rfl,rfl⟩:=hr;have hS:(s.heap.push (iI led)).get? s.heap.objs.size=some (iI led):=Heap.get?_push_size _ rfl;have hT:Shared.TypeIs {s with heap:=s.heap.push (iI led)} (.ref s.heap.objs.size) "set":=⟨_,hS,rfl⟩;have hli:=F.called_set.init.lookup;have hbi:=F.called_set.init.bind (.ref s.heap.objs.size)
   repeat(any_goals(first|assumption|wp_step))
   refine codeAny_mono (codeAny_call_builtin (R:=wants (λr s₂=>r= .none/\sY prog w s ks s₂) E) F.called_set.init.plain F.entry_set_init (check_set_init_1 hT ?_)) λr₂ s₂ hr₂=>?_
   .exact Ha (led:=led) (by simp[hh]) hlk hk hb pl λs2 hs=>⟨rfl,hs⟩
   .cases r₂ with
    |error e=>exact hr₂
    |ok fl₂=>
     cases fl₂ with
     |ret r=>
      obtain⟨rfl,hs⟩:=hr₂
      repeat(any_goals(first|assumption|wp_step))
      exact h _ hs
     |_=>exact hr₂.elim
  |_=>exact hr.elim
end
section
variable{X:Cx}{e:Expr}{t:TA}{p1 p2 q1 q2:Pos}
def N6(K:PySem.W.Frag)(t:TA):TE:=λσ H Q=>t σ H λvs H1=>∃a ks,vs=[.ref a]/\(SqL K H1 a (List.map kV ks)∨SqT K H1 a (List.map kV ks))/\List.length ks<4000/\Q (.int (uJ ks).length) H1
theorem BV(ks:List Key):(uJ ks).length<=ks.length:=by
 have:∀(ks acc:List Key),(ks.foldl lJ acc).length<=acc.length+ks.length:=by
  intro ks
  induction ks with
  |nil=>intro acc;simp
  |cons k r ih=>
   intro acc;have h1:=ih (lJ acc k);have h2:(lJ acc k).length<=acc.length+1:=by rw[nH];split<;>omega
   simp only[List.foldl_cons,List.length_cons];omega
 have:=this ks [];rw[List.length_nil,Nat.zero_add]at this;exact this
theorem Hi(hg:Gl X "len")(hm:X.mg "len"=none)(hms:X.mg "set"=none)(ha:PA X [e] t)(hg2:Gl X "set":=by rfl)(hs:starEach [e] X.env=[(false,eval e X.env)]:=by rfl)(hc:X.calm=true:=by rfl) :
  PE X (.Call (.Name "len" p1) [.Call (.Name "set" p2) [e] [] q2] [] q1) (N6 X.K t):=by
 intro pins s σ H Q I h;refine wpAny_Call_Name_kw (pZ I hg hm boot_len ?_);refine Calls.callWith_builtin rfl (Calls.evalArgs_plain ?_);show wpAny _ _ (spliced ((false,eval (.Call (.Name "set" p2) [e] [] q2) X.env)::backTo q1 (starEach [] X.env))) _ _ s;refine Calls.spliced_cons ?_;refine wpAny_Call_Name_kw (pZ I hg2 hms boot_set ?_);refine PyProof.Rows.callWith_type1 (thn (ha q2 pins s σ H _ I h) λus s1 ⟨vs,H1,I1,r1,q1'⟩=>?_) hs rfl;obtain⟨a,ks,ev,hq,hz,q⟩:=q1';subst ev;obtain⟨u,rfl,ru⟩:=vals1 r1;cases ru;have hh:X.A.handled=none:=I1.ok.hd hc;rcases hq with hq|hq
 .obtain⟨its,rv,pl,hz2⟩:=I1.list hq
  have hlen:=rv.length;rw[List.length_map]at hlen;refine HX (its:=its) (ks:=ks) hh hlen (λj k v e1 e2=>?_) (by show its.length+1<4096;omega) pl.isList λs2 hs2=>?_
  .have:(List.map kV ks)[j]? =some (kV k):=by rw[List.getElem?_map,e1];rfl
   obtain⟨w',h1,h2⟩:=rv.get this;rw[e2]at h1;cases h1;exact h2
  .refine Calls.spliced_nil ?_
   obtain⟨h',tk,rfl,hS,old⟩:=hs2;have I2:Inv X pins σ H1 {s1 with heap:=h',toks:=tk}:=I1.kept (t':=tk) old;obtain⟨o,es,ep,tb,ho,hex,hd,hel,hmem,hb,hf,hn⟩:=hS;have hdl:=BV ks;refine call_len_set ho hex hd hf (by rw[hn];omega) ?_;rw[hn];exact⟨.int (uJ ks).length,H1,I2.tok _,⟨_,rfl⟩,q⟩
 .obtain⟨its,rv,pl,hz2⟩:=I1.tuple hq
  have hlen:=rv.length;rw[List.length_map]at hlen;refine Dd (its:=its) (ks:=ks) hh hlen (λj k v e1 e2=>?_) (by show its.length+1<4096;omega) pl λs2 hs2=>?_
  .have:(List.map kV ks)[j]? =some (kV k):=by rw[List.getElem?_map,e1];rfl
   obtain⟨w',h1,h2⟩:=rv.get this;rw[e2]at h1;cases h1;exact h2
  .refine Calls.spliced_nil ?_
   obtain⟨h',tk,rfl,hS,old⟩:=hs2;have I2:Inv X pins σ H1 {s1 with heap:=h',toks:=tk}:=I1.kept (t':=tk) old;obtain⟨o,es,ep,tb,ho,hex,hd,hel,hmem,hb,hf,hn⟩:=hS;have hdl:=BV ks;refine call_len_set ho hex hd hf (by rw[hn];omega) ?_;rw[hn];exact⟨.int (uJ ks).length,H1,I2.tok _,⟨_,rfl⟩,q⟩
end
section
variable{X:Cx}
theorem range_all{bs:List Bool}:((List.range bs.length).all λi=>bs.getD i true)=bs.all id:=by
 induction bs with
 |nil=>rfl
 |cons b r ih=>
  rw[List.length_cons,List.range_succ_eq_map,List.all_cons,List.all_map,List.all_cons,←ih];rfl
theorem Uo{bs:List Bool}{its:List Value}(rv:Vals (bs.map V.bl) its){i:Nat}{v:Value}(h:its.toArray[i]? =some v):v= .bool (bs.getD i true):=by
 have h:its[i]? =some v:=by simpa using h
 have hl:=rv.length;rw[List.length_map]at hl;have hi:i<bs.length:=by rw[hl];exact(List.getElem?_eq_some_iff.mp h).1
 obtain⟨u,h1,h2⟩:=rv.get (show(bs.map V.bl)[i]? =some (V.bl bs[i])by rw[List.getElem?_map,List.getElem?_eq_getElem hi];rfl);rw[h]at h1;cases h1;cases h2;simp[List.getD,hi]
theorem G_{pins:List (Addr×Obj)}{σ:L2.St}{H:Hp}{s:Shared}{a:Addr}{xs:List V}(I:Inv X pins σ H s){its:List Value}(pl:s.heap.IsList a its.toArray) :
  a≠s.heap.objs.size:=by
 obtain⟨o,h,_⟩:=pl;exact Nat.ne_of_lt (Heap.lt_size h)
theorem G7(hc:X.calm=true):fD X (.builtin "all") (λxs H Q=>∃a bs,xs=[.ref a]/\SqL X.K H a (List.map V.bl bs)/\Q (.bl (List.all bs id)) H):=by
 intro pins s σ H xs us Q I r h;obtain⟨a,bs,rfl,hq,q⟩:=h;obtain⟨u,rfl,ru⟩:=vals1 r;cases ru;obtain⟨its,rv,pl,hz⟩:=I.list hq;have hh:X.A.handled=none:=I.ok.hd hc;have ne:a≠s.heap.objs.size:=G_ (xs:=[]) I pl.isList;have hl:=rv.length;rw[List.length_map]at hl;refine call_all_walk (wpAny_pyIter_list pl.isList ⟨s.heap.objs.size,[s.heap.objs.size,a],[s.heap.objs.size],its.toArray.size,_,_,λi=>bs.getD i true,rfl,Walks.list (show X.A.in1.handled=none from hh) s.heap.objs.size a ne its.toArray,⟨⟨_,Heap.get?_push_size _ rfl,rfl,rfl⟩,pl.isList.push _⟩,λi v s2 Q2 E2 hP hQ=>?_,λh' tk kp=>?_⟩)
 .rw[Uo rv hP]
  exact wpAny_truthy_bool hQ
 .rw[List.size_toArray,←hl,range_all]
  exact⟨.bl _,H,I.kept (t':=tk) λb o e=>kp b o (by simp;exact Nat.ne_of_lt (Heap.lt_size e)) (Heap.get?_push_of_some _ e),rfl,q⟩
end
section
variable{X:Cx}{e es:Expr}{te ts:TE}{p2 pos:Pos}
def Kv(K:PySem.W.Frag):R2:=λx y H Q=>T_ K x y H Q∨∃a xs,x= .ref a/\SqL K H a xs/\y= .int (-1)/\∀p,H p=none->Q (.ref p) (upd H p (.lst xs.reverse))
theorem Ie(he:PE X e te)(hs:PE X es ts):PE X (.Subscript e (.Slice none none (some es) p2) pos) (tOp (Kv X.K) te ts):=by
 intro pins s σ H Q I h;refine Subscript_ (thn (he pins s σ H _ I h) λv s1 ⟨x,H1,I1,r1,q1⟩=>?_);refine wpAny_Slice ?_;rw[evalPart_none];refine wpAny_pure (wpAny_pure (wpAny_evalPart_some (thn (hs pins s1 σ H1 _ I1 q1) λvs s2 ⟨y,H2,I2,r2,q2⟩=>?_)));rcases q2 with q2|⟨a,xs,rfl,hx,rfl,q⟩
 .have I4:Inv X pins σ H2 {s2 with heap:=s2.heap.push {cls:=.type "slice",data:=.fields #[.none,.none,vs]}}:=I2.kept (t':=s2.toks) λb ob q=>Heap.get?_push_of_some _ q
  have hsl:Heap.IsSliceOf (s2.heap.push {cls:=.type "slice",data:=.fields #[.none,.none,vs]}) s2.heap.objs.size .none .none vs:=Heap.IsSliceOf.new ..;obtain⟨a,xs,rfl,hx,q⟩:=q2;cases r1;obtain⟨its,r,ht,hz⟩:=I4.tuple hx;have hlen:=r.length;show wpAny (model X.prog X.w) X.A (subscriptTail e (.Slice none none (some es) p2) (.ref a) (.ref s2.heap.objs.size)) (EP X pins σ Q) X.xe {s2 with heap:=s2.heap.push {cls:=.type "slice",data:=.fields #[.none,.none,vs]}};refine tail_any (ops:=[.ref a,.ref s2.heap.objs.size]) ht.typeIs PyProof.Rows.slot_tuple_getitem.lookup ?_ (by with_unfolding_all rfl);rcases q with⟨rfl,q⟩|⟨rfl,q⟩
  .obtain⟨t,rfl⟩:=r2
   have e1:Builtin.Slice.sliceAdjust none none ((some (1:Int)).getD 1) (its.length:Int)=(0,(its.length:Int)):=rfl;have e2:Builtin.Slice.slicePlaces 0 (its.length:Int) ((some (1:Int)).getD 1)=its.length:=by
    show Builtin.Slice.slicePlaces ((0:Nat):Int) (its.length:Int) 1=its.length;rw[HT.places_gen];omega
   refine jk (items:=its) (st:=some 1) ht hsl .none .none (.int 1 t) (by decide) e1 e2 (λ_=>⟨.ref a,H2,I4,rfl,q⟩) (λhc=>absurd ⟨rfl,rfl,rfl⟩ hc) ?_;exact Nat.le_trans (wj _ _ _ _) (by omega)
  .obtain⟨t,rfl⟩:=r2
   have e1:Builtin.Slice.sliceAdjust none none ((some (-1:Int)).getD 1) (its.length:Int)=((its.length:Int)-1,-1):=rfl;have e2:Builtin.Slice.slicePlaces ((its.length:Int)-1) (-1) ((some (-1:Int)).getD 1)=its.length:=by
    show(if(-1:Int)>0 then _ else(if(its.length:Int)-1> -1 then((its.length:Int)-1-(-1)-1) / (- (-1))+1 else 0)).toNat=its.length;rw[if_neg (by decide),show(- (-1:Int))=1 by decide,Int.ediv_one];split<;>omega
   refine jk (items:=its) (st:=some (-1)) ht hsl .none .none (.int (-1) t) (by decide) e1 e2 (λhc=>absurd hc.2.1 (by decide)) (λ_=>?_) ?_
   .show EP X pins σ Q (.ref _) {s2 with heap:=Heap.push _ {cls:=.type "tuple",data:=.seq (n_ its ((its.length:Int)-1) (-1) its.length).toArray}}
    rw[Kl];refine⟨.ref _,_,I4.laid (t':=s2.toks) (o:=.tup xs.reverse) (λb ob q=>Heap.get?_push_of_some _ q) (Nat.le_refl _) ?_,rfl,q _ (I4.hok.fresh (Nat.le_refl _))⟩;exact⟨by rw[List.length_reverse];exact hz,_,r.reverse,IsTup.new _ _⟩
   .exact Nat.le_trans (wj _ _ _ _) (by omega)
 .have I4:Inv X pins σ H2 {s2 with heap:=s2.heap.push {cls:=.type "slice",data:=.fields #[.none,.none,vs]}}:=I2.kept (t':=s2.toks) λb ob q=>Heap.get?_push_of_some _ q
  have hsl:Heap.IsSliceOf (s2.heap.push {cls:=.type "slice",data:=.fields #[.none,.none,vs]}) s2.heap.objs.size .none .none vs:=Heap.IsSliceOf.new ..;cases r1;obtain⟨t,rfl⟩:=r2;obtain⟨its,r,ht,hz⟩:=I4.list hx;have hlen:=r.length;show wpAny (model X.prog X.w) X.A (subscriptTail e (.Slice none none (some es) p2) (.ref a) (.ref s2.heap.objs.size)) (EP X pins σ Q) X.xe {s2 with heap:=s2.heap.push {cls:=.type "slice",data:=.fields #[.none,.none,.int (-1) t]}};refine tail_any (ops:=[.ref a,.ref s2.heap.objs.size]) ht.isList.typeIs slot_list_getitem.lookup ?_ (by with_unfolding_all rfl);refine wpAny_getItem_list_slice ht.isList hsl .none .none (.int (-1) t) (by decide) ?_ (by rw[List.size_toArray];omega);rw[PySem.W.krv_pick];refine⟨.ref _,_,I4.laid (t':=s2.toks) (o:=.lst xs.reverse) (λb ob q=>Heap.get?_push_of_some _ q) (Nat.le_refl _) ?_,rfl,q _ (I4.hok.fresh (Nat.le_refl _))⟩;exact⟨by rw[List.length_reverse];exact hz,_,0,r.reverse,Heap.get?_push_size _ rfl⟩
end
inductive Mk where
 |own|frz|brw|bro|scr
 deriving DecidableEq,Repr
inductive D where
 |non|bl (b:Bool)|int (i:Int)|str (x:Str)|ty (n:String)
 |tup (ds:List D)
 |lst (m:Mk) (ds:List D)
 |dct (m:Mk) (ks:List Key) (ds:List D)
 |ins (m:Mk) (c:Str) (fs:List Str) (ds:List D)
structure Gc where
 K:PySem.W.Frag
 mg:Str->Option Value
structure Wn where
 n:Addr->Prop
 s:Addr->Prop
 o:Addr->Prop
def Wn.free(W:Wn)(a:Addr):Prop:=¬W.n a/\¬W.s a/\¬W.o a
def KO(K:PySem.W.Frag)(a:Addr)(o:HO):Prop:=∃xs,o= .lst xs/\∃(ob:Obj)(its:Array Value)(n:Nat),K.lookup a=some ob/\ob.cls= .type "list"/\ob.dict=none/\ob.data= .seq its n/\its.size<=sizeLine/\Vals xs its.toList
def dZ(Kx:Addr->HO->Prop)(H:Hp)(W:Wn)(a:Addr)(o:HO):Mk->List Addr->List Addr->Prop
 |.own,L,M=>H a=some o/\L=a::M
 |.frz,L,M=>H a=some o/\W.free a/\M=[]/\L=[]
 |.brw,L,M=>H a=some o/\W.s a/\M=[]/\L=[]
 |.bro,L,M=>H a=some o/\M=[]/\L=[]
 |.scr,L,M=>((Rd H a o/\W.free a)∨Kx a o)/\M=[]/\L=[]
theorem dZ.sub{Kx:Addr->HO->Prop}{H:Hp}{W:Wn}{a:Addr}{o:HO}{m:Mk}{L M:List Addr}(h:dZ Kx H W a o m L M):List.Sublist M L:=by
 cases m with
 |own=>rw[h.2];exact List.sublist_cons_self a M
 |frz=>rw[h.2.2.1];exact List.nil_sublist L
 |brw=>rw[h.2.2.1];exact List.nil_sublist L
 |bro=>rw[h.2.1];exact List.nil_sublist L
 |scr=>rw[h.2.1];exact List.nil_sublist L
theorem dZ.rx{Kx:Addr->HO->Prop}{H:Hp}{W:Wn}{a:Addr}{o:HO}{m:Mk}{L M:List Addr}(h:dZ Kx H W a o m L M):Rd H a o∨Kx a o:=by
 cases m with
 |own=>exact .inl (.inl h.1)
 |frz=>exact .inl (.inl h.1)
 |brw=>exact .inl (.inl h.1)
 |bro=>exact .inl (.inl h.1)
 |scr=>exact h.1.imp (λz=>z.1) id
theorem dZ.sq{K:PySem.W.Frag}{H:Hp}{W:Wn}{a:Addr}{xs:List V}{m:Mk}{L M:List Addr}(h:dZ (KO K) H W a (.lst xs) m L M):SqL K H a xs:=by
 rcases h.rx with z|⟨ys,e,z⟩
 .exact .inl z
 .cases e
  exact .inr z
theorem dZ.rdD{K:PySem.W.Frag}{H:Hp}{W:Wn}{a:Addr}{kvs:List (Key×V)}{m:Mk}{L M:List Addr}(h:dZ (KO K) H W a (.dK kvs) m L M):Rd H a (.dK kvs):=by
 rcases h.rx with z|⟨ys,e,z⟩
 .exact z
 .cases e
theorem dZ.at{Kx:Addr->HO->Prop}{H:Hp}{W:Wn}{a:Addr}{o:HO}{m:Mk}{L M:List Addr}(h:dZ Kx H W a o m L M)(hm:m≠.scr):H a=some o:=by
 cases m with
 |own=>exact h.1
 |frz=>exact h.1
 |brw=>exact h.1
 |bro=>exact h.1
 |scr=>exact absurd rfl hm
mutual
def Rep(G:Gc)(H:Hp)(W:Wn):D->V->List Addr->Prop
 |.non,v,L=>v= .non/\L=[]
 |.bl b,v,L=>v= .bl b/\L=[]
 |.int i,v,L=>v= .int i/\L=[]
 |.str x,v,L=>v= .str x/\L=[]
 |.ty n,v,L=>v= .ty n/\L=[]
 |.tup ds,v,L=>∃a xs,v= .ref a/\H a=some (.tup xs)/\aK G H W ds xs L
 |.lst m ds,v,L=>∃a xs M,v= .ref a/\aK G H W ds xs M/\dZ (KO G.K) H W a (.lst xs) m L M
 |.dct m ks ds,v,L=>∃a kvs M,v= .ref a/\(List.map (·.1) kvs=ks/\ks.Nodup)/\aK G H W ds (List.map (·.2) kvs) M/\dZ (KO G.K) H W a (.dK kvs) m L M
 |.ins m c fs ds,v,L=>∃a C dx kvs M,v= .ref a/\G.mg c=some (.ref C)/\List.map (·.1) kvs=fs/\aK G H W ds (List.map (·.2) kvs) M/\dZ (KO G.K) H W a (.ins C dx kvs) m L M
def aK(G:Gc)(H:Hp)(W:Wn):List D->List V->List Addr->Prop
 |[],xs,L=>xs=[]/\L=[]
 |d::r,xs,L=>∃x ys M M',xs=x::ys/\L=M++M'/\Rep G H W d x M/\aK G H W r ys M'
end
section
variable{G:Gc}{H:Hp}{W:Wn}
theorem aK.nil:aK G H W [] [] []:=by simp[aK]
theorem aK.cons{d:D}{r:List D}{x:V}{ys:List V}{M M':List Addr}(h:Rep G H W d x M)(t:aK G H W r ys M'):aK G H W (d::r) (x::ys) (M++M'):=by
 rw[aK];exact⟨x,ys,M,M',rfl,rfl,h,t⟩
theorem aK.one{d:D}{x:V}{M:List Addr}(h:Rep G H W d x M):aK G H W [d] [x] M:=by
 have:=aK.cons h aK.nil;rwa[List.append_nil]at this
theorem aK.inv{d:D}{r:List D}{xs:List V}{L:List Addr}(h:aK G H W (d::r) xs L):∃x ys M M',xs=x::ys/\L=M++M'/\Rep G H W d x M/\aK G H W r ys M':=by
 rw[aK]at h;exact h
theorem aK.inv0{xs:List V}{L:List Addr}(h:aK G H W [] xs L):xs=[]/\L=[]:=by
 rw[aK]at h;exact h
theorem aK.length:∀{ds:List D}{xs:List V}{L:List Addr},aK G H W ds xs L->ds.length=xs.length
 |[],xs,L,h=>by rw[h.inv0.1];rfl
 |d::r,xs,L,h=>by
  obtain⟨x,ys,M,M',rfl,_,_,h⟩:=h.inv;simp[aK.length h]
theorem aK.append:∀{ds es:List D}{xs ys:List V}{L M:List Addr},aK G H W ds xs L->aK G H W es ys M->aK G H W (ds++es) (xs++ys) (L++M)
 |[],es,xs,ys,L,M,h,h'=>by obtain⟨rfl,rfl⟩:=h.inv0;exact h'
 |d::r,es,xs,ys,L,M,h,h'=>by
  obtain⟨x,zs,A,B,rfl,rfl,h1,h2⟩:=h.inv;rw[List.append_assoc];exact .cons h1 (aK.append h2 h')
theorem aK.split:∀{ds es:List D}{xs:List V}{L:List Addr},aK G H W (ds++es) xs L->∃ys zs A B,xs=ys++zs/\L=A++B/\aK G H W ds ys A/\aK G H W es zs B
 |[],es,xs,L,h=>⟨[],xs,[],L,rfl,rfl,.nil,h⟩
 |d::r,es,xs,L,h=>by
  obtain⟨x,zs,A,B,rfl,rfl,h1,h2⟩:=aK.inv (r:=r++es) h;obtain⟨ys,ws,A',B',rfl,rfl,h3,h4⟩:=aK.split h2;exact⟨x::ys,ws,A++A',B',rfl,by rw[List.append_assoc],.cons h1 h3,h4⟩
theorem aK.at{ds:List D}{xs:List V}{L:List Addr}{j:Nat}{d:D}(h:aK G H W ds xs L)(e:ds[j]? =some d) :
  ∃A B x ys zs LA M LB,ds=A++d::B/\A.length=j/\xs=ys++x::zs/\ys.length=j/\L=LA++(M++LB)/\aK G H W A ys LA/\Rep G H W d x M/\aK G H W B zs LB:=by
 have hj:j<ds.length:=(List.getElem?_eq_some_iff.mp e).1;have hd:ds=ds.take j++d::ds.drop (j+1):=by
  have:ds[j]=d:=(List.getElem?_eq_some_iff.mp e).2;rw[←this,List.getElem_cons_drop,List.take_append_drop]
 rw[hd]at h;obtain⟨ys,zs,A,B,rfl,rfl,h1,h2⟩:=aK.split h;obtain⟨x,ws,M,M',rfl,rfl,h3,h4⟩:=h2.inv;have hl:(ds.take j).length=j:=by rw[List.length_take];omega
 exact⟨_,_,x,ys,ws,A,M,M',hd,hl,rfl,by rw[←h1.length];exact hl,rfl,h1,h3,h4⟩
theorem aK.get{ds:List D}{xs:List V}{L:List Addr}{j:Nat}{d:D}(h:aK G H W ds xs L)(e:ds[j]? =some d):∃x M,xs[j]? =some x/\Rep G H W d x M/\List.Sublist M L:=by
 obtain⟨A,B,x,ys,zs,LA,M,LB,_,_,rfl,hl,rfl,_,h,_⟩:=h.at e;exact⟨x,M,by rw[List.getElem?_append_right (by omega),hl,Nat.sub_self];rfl,h,(List.sublist_append_left M LB).trans (List.sublist_append_right LA _)⟩
end
def muO:HO->Bool
 |.lst _=>true
 |.dK _=>true
 |.ins _ _ _=>true
 |_=>false
def Mu(H:Hp)(a:Addr):Prop:=∃o,H a=some o/\muO o=true
mutual
def aG:D->Bool
 |.tup ds=>aH ds
 |.lst m ds=>m != .brw&&aH ds
 |.dct m _ ds=>m != .brw&&aH ds
 |.ins m _ _ ds=>m != .brw&&aH ds
 |_=>true
def aH:List D->Bool
 |[]=>true
 |d::r=>aG d&&aH r
end
mutual
def aD:D->Bool
 |.tup ds=>aJ ds
 |.lst m ds=>m != .bro&&aJ ds
 |.dct m _ ds=>m != .bro&&aJ ds
 |.ins m _ _ ds=>m != .bro&&aJ ds
 |_=>true
def aJ:List D->Bool
 |[]=>true
 |d::r=>aD d&&aJ r
end
def clean(d:D):Bool:=aG d&&aD d
structure Evo(H H':Hp)(W W':Wn):Prop where
 k:∀b u,H b=some u->W.free b->H' b=some u/\W'.free b
 t:∀b xs,H b=some (.tup xs)->H' b=some (.tup xs)
def J_(H H':Hp)(W W':Wn):Prop:=∀b u,H b=some u->W.s b->H' b=some u/\W'.s b
theorem Evo.rd{H H':Hp}{W W':Wn}(e:Evo H H' W W'){a:Addr}{o:HO}(h:Rd H a o)(f:W.free a):Rd H' a o/\W'.free a:=by
 rcases h with h|⟨u,h⟩
 .exact⟨.inl (e.k a _ h f).1,(e.k a _ h f).2⟩
 .exact⟨.inr ⟨u,(e.k a _ h f).1⟩,(e.k a _ h f).2⟩
section
variable{G:Gc}{H H':Hp}{W W':Wn}
theorem dZ.mono{Kx:Addr->HO->Prop}{a:Addr}{o:HO}{m:Mk}{L M:List Addr}(e:Evo H H' W W')(h:dZ Kx H W a o m L M)(hb:m≠.brw∨J_ H H' W W')(ho:m≠.bro∨Same H H')(hL:∀c∈L,∀u,H c=some u->H' c=some u):dZ Kx H' W' a o m L M:=by
 cases m with
 |own=>exact⟨hL a (by rw[h.2];simp) o h.1,h.2⟩
 |frz=>exact⟨(e.k a o h.1 h.2.1).1,(e.k a o h.1 h.2.1).2,h.2.2⟩
 |brw=>
  have q:=(hb.resolve_left λz=>z rfl) a o h.1 h.2.1;exact⟨q.1,q.2,h.2.2⟩
 |bro=>exact⟨(ho.resolve_left λz=>z rfl) a o h.1,h.2⟩
 |scr=>exact⟨h.1.imp (λz=>e.rd z.1 z.2) id,h.2⟩
theorem Same.rd{H H':Hp}{a:Addr}{o:HO}(s:Same H H')(h:Rd H a o):Rd H' a o:=h.imp (s _ _) λ⟨u,z⟩=>⟨u,s _ _ z⟩
mutual
theorem Rep.mono(e:Evo H H' W W'):∀{d:D}{v:V}{L:List Addr},Rep G H W d v L->(aG d=true∨J_ H H' W W')->(aD d=true∨Same H H')->(∀c∈L,∀u,H c=some u->H' c=some u)->Rep G H' W' d v L
 |.non,v,L,h,_,_,_=>by rw[Rep]at h⊢;exact h
 |.bl _,v,L,h,_,_,_=>by rw[Rep]at h⊢;exact h
 |.int _,v,L,h,_,_,_=>by rw[Rep]at h⊢;exact h
 |.str _,v,L,h,_,_,_=>by rw[Rep]at h⊢;exact h
 |.ty _,v,L,h,_,_,_=>by rw[Rep]at h⊢;exact h
 |.tup ds,v,L,h,b,o,hl=>by
  rw[Rep]at h⊢;obtain⟨a,xs,rfl,ht,hr⟩:=h;exact⟨a,xs,rfl,e.t a xs ht,aK.mono e hr (by simpa[aG]using b) (by simpa[aD]using o) hl⟩
 |.lst m ds,v,L,h,b,o,hl=>by
  rw[Rep]at h⊢;obtain⟨a,xs,M,rfl,hr,hs⟩:=h;exact⟨a,xs,M,rfl,aK.mono e hr (b.imp (λz=>by simp[aG]at z;exact z.2) id) (o.imp (λz=>by simp[aD]at z;exact z.2) id) λc hc=>hl c (hs.sub.subset hc),hs.mono e (b.imp (λz=>by simp[aG]at z;exact z.1) id) (o.imp (λz=>by simp[aD]at z;exact z.1) id) hl⟩
 |.dct m ks ds,v,L,h,b,o,hl=>by
  rw[Rep]at h⊢;obtain⟨a,xs,M,rfl,hk,hr,hs⟩:=h;exact⟨a,xs,M,rfl,hk,aK.mono e hr (b.imp (λz=>by simp[aG]at z;exact z.2) id) (o.imp (λz=>by simp[aD]at z;exact z.2) id) λc hc=>hl c (hs.sub.subset hc),hs.mono e (b.imp (λz=>by simp[aG]at z;exact z.1) id) (o.imp (λz=>by simp[aD]at z;exact z.1) id) hl⟩
 |.ins m c fs ds,v,L,h,b,o,hl=>by
  rw[Rep]at h⊢;obtain⟨a,C,dx,xs,M,rfl,hC,hk,hr,hs⟩:=h;exact⟨a,C,dx,xs,M,rfl,hC,hk,aK.mono e hr (b.imp (λz=>by simp[aG]at z;exact z.2) id) (o.imp (λz=>by simp[aD]at z;exact z.2) id) λc hc=>hl c (hs.sub.subset hc),hs.mono e (b.imp (λz=>by simp[aG]at z;exact z.1) id) (o.imp (λz=>by simp[aD]at z;exact z.1) id) hl⟩
theorem aK.mono(e:Evo H H' W W'):∀{ds:List D}{vs:List V}{L:List Addr},aK G H W ds vs L->(aH ds=true∨J_ H H' W W')->(aJ ds=true∨Same H H')->(∀c∈L,∀u,H c=some u->H' c=some u)->aK G H' W' ds vs L
 |[],vs,L,h,_,_,_=>by rw[aK]at h⊢;exact h
 |d::r,vs,L,h,b,o,hl=>by
  obtain⟨x,ys,M,M',rfl,rfl,h1,h2⟩:=h.inv;exact .cons (Rep.mono e h1 (b.imp (λz=>by simp[aH]at z;exact z.1) id) (o.imp (λz=>by simp[aJ]at z;exact z.1) id) λb hb=>hl b (List.mem_append_left _ hb))
   (aK.mono e h2 (b.imp (λz=>by simp[aH]at z;exact z.2) id) (o.imp (λz=>by simp[aJ]at z;exact z.2) id) λb hb=>hl b (List.mem_append_right _ hb))
end
structure Up(H H':Hp)(W W':Wn):Prop where
 s:Same H H'
 f:∀b u,H b=some u->W.free b->W'.free b
 n:∀b u,H b=some u->W.s b->W'.s b
theorem Up.evo(u:Up H H' W W'):Evo H H' W W':=⟨λb o h f=>⟨u.s b o h,u.f b o h f⟩,λb xs h=>u.s b _ h⟩
theorem Up.evoN(u:Up H H' W W'):J_ H H' W W':=λb o h f=>⟨u.s b o h,u.n b o h f⟩
theorem Up.refl:Up H H W W:=⟨Same.refl H,λ_ _ _ f=>f,λ_ _ _ f=>f⟩
theorem Up.trans{H2:Hp}{W2:Wn}(a:Up H H' W W')(b:Up H' H2 W' W2):Up H H2 W W2:=⟨a.s.trans b.s,λc u h f=>b.f c u (a.s c u h) (a.f c u h f),λc u h f=>b.n c u (a.s c u h) (a.n c u h f)⟩
theorem Rep.up{d:D}{v:V}{L:List Addr}(h:Rep G H W d v L)(u:Up H H' W W'):Rep G H' W' d v L:=h.mono u.evo (.inr u.evoN) (.inr u.s) λc _ o e=>u.s c o e
theorem aK.up{d:List D}{v:List V}{L:List Addr}(h:aK G H W d v L)(u:Up H H' W W'):aK G H' W' d v L:=h.mono u.evo (.inr u.evoN) (.inr u.s) λc _ o e=>u.s c o e
def Wn.add(W:Wn)(L:List Addr):Wn:=⟨λa=>a∈L∨W.n a,W.s,W.o⟩
theorem Up.add{L:List Addr}(s:Same H H')(hL:∀a∈L,H a=none):Up H H' W (W.add L):=⟨s,λb u h f=>⟨λz=>z.elim (λz=>by rw[hL b z]at h;cases h) f.1,f.2⟩,λb u h f=>f⟩
theorem Up.same(s:Same H H'):Up H H' W W:=⟨s,λ_ _ _ f=>f,λ_ _ _ f=>f⟩
end
def mkV(ob:Bool):Mk->Mk
 |.own=>if ob then .bro else .brw
 |m=>m
def mkF:Mk->Mk
 |.scr=>.scr
 |_=>.frz
mutual
def view(ob:Bool):D->D
 |.tup ds=>.tup (gW ob ds)
 |.lst m ds=>.lst (mkV ob m) (gW ob ds)
 |.dct m ks ds=>.dct (mkV ob m) ks (gW ob ds)
 |.ins m c fs ds=>.ins (mkV ob m) c fs (gW ob ds)
 |d=>d
def gW(ob:Bool):List D->List D
 |[]=>[]
 |d::r=>view ob d::gW ob r
end
mutual
def fz:D->D
 |.tup ds=>.tup (fzL ds)
 |.lst m ds=>.lst (mkF m) (fzL ds)
 |.dct m ks ds=>.dct (mkF m) ks (fzL ds)
 |.ins m c fs ds=>.ins (mkF m) c fs (fzL ds)
 |d=>d
def fzL:List D->List D
 |[]=>[]
 |d::r=>fz d::fzL r
end
theorem dN(ob:Bool):∀ds:List D,gW ob ds=ds.map (view ob)
 |[]=>rfl
 |d::r=>by rw[gW,dN ob r];rfl
theorem gh:∀ds:List D,fzL ds=ds.map fz
 |[]=>rfl
 |d::r=>by rw[fzL,gh r];rfl
section
variable{G:Gc}{H:Hp}{W W':Wn}
theorem dZ.view{Kx:Addr->HO->Prop}{ob:Bool}{a:Addr}{o:HO}{m:Mk}{L M:List Addr}(hn:ob=false->∀c∈L,W.s c)(h:dZ Kx H W a o m L M):dZ Kx H W a o (mkV ob m) [] []:=by
 cases m with
 |own=>
  cases ob with
  |false=>exact⟨h.1,hn rfl a (by rw[h.2];simp),rfl,rfl⟩
  |true=>exact⟨h.1,rfl,rfl⟩
 |frz=>exact⟨h.1,h.2.1,rfl,rfl⟩
 |brw=>exact⟨h.1,h.2.1,rfl,rfl⟩
 |bro=>exact⟨h.1,rfl,rfl⟩
 |scr=>exact⟨h.1,rfl,rfl⟩
mutual
theorem Rep.view{ob:Bool}:∀{d:D}{v:V}{L:List Addr},Rep G H W d v L->(ob=false->∀c∈L,W.s c)->Rep G H W (view ob d) v []
 |.non,v,L,h,_=>by rw[Rep]at h;simp[Jb.view,Rep,h]
 |.bl _,v,L,h,_=>by rw[Rep]at h;simp[Jb.view,Rep,h]
 |.int _,v,L,h,_=>by rw[Rep]at h;simp[Jb.view,Rep,h]
 |.str _,v,L,h,_=>by rw[Rep]at h;simp[Jb.view,Rep,h]
 |.ty _,v,L,h,_=>by rw[Rep]at h;simp[Jb.view,Rep,h]
 |.tup ds,v,L,h,hn=>by
  rw[Rep]at h;rw[Jb.view,Rep];obtain⟨a,xs,rfl,ht,hr⟩:=h;exact⟨a,xs,rfl,ht,aK.view hr hn⟩
 |.lst m ds,v,L,h,hn=>by
  rw[Rep]at h;rw[Jb.view,Rep];obtain⟨a,xs,M,rfl,hr,hs⟩:=h;exact⟨a,xs,[],rfl,aK.view hr λz c hc=>hn z c (hs.sub.subset hc),hs.view hn⟩
 |.dct m ks ds,v,L,h,hn=>by
  rw[Rep]at h;rw[Jb.view,Rep];obtain⟨a,xs,M,rfl,hk,hr,hs⟩:=h;exact⟨a,xs,[],rfl,hk,aK.view hr λz c hc=>hn z c (hs.sub.subset hc),hs.view hn⟩
 |.ins m c fs ds,v,L,h,hn=>by
  rw[Rep]at h;rw[Jb.view,Rep];obtain⟨a,C,dx,xs,M,rfl,hC,hk,hr,hs⟩:=h;exact⟨a,C,dx,xs,[],rfl,hC,hk,aK.view hr λz c hc=>hn z c (hs.sub.subset hc),hs.view hn⟩
theorem aK.view{ob:Bool}:∀{ds:List D}{vs:List V}{L:List Addr},aK G H W ds vs L->(ob=false->∀c∈L,W.s c)->aK G H W (gW ob ds) vs []
 |[],vs,L,h,_=>by obtain⟨rfl,_⟩:=h.inv0;rw[gW];exact .nil
 |d::r,vs,L,h,hn=>by
  obtain⟨x,ys,M,M',rfl,rfl,h1,h2⟩:=h.inv;rw[gW];exact .cons (M:=[]) (M':=[]) (Rep.view h1 λz c hc=>hn z c (List.mem_append_left _ hc)) (aK.view h2 λz c hc=>hn z c (List.mem_append_right _ hc))
end
structure Les(H:Hp)(W W':Wn)(L:List Addr):Prop where
 f:∀a,W.free a->W'.free a
 l:∀a∈L,W'.free a
theorem Les.sub{L M:List Addr}(h:Les H W W' L)(s:∀a∈M,a∈L):Les H W W' M:=⟨h.f,λa ha=>h.l a (s a ha)⟩
def pq(W:Wn):Prop:=∀a,W.free a
theorem dZ.fz{Kx:Addr->HO->Prop}{a:Addr}{o:HO}{m:Mk}{L M:List Addr}(hs:Les H W W' L)(hn:(m≠.brw/\m≠.bro)∨pq W')(h:dZ Kx H W a o m L M):dZ Kx H W' a o (mkF m) [] []:=by
 cases m with
 |own=>exact⟨h.1,hs.l a (by rw[h.2];simp),rfl,rfl⟩
 |frz=>exact⟨h.1,hs.f a h.2.1,rfl,rfl⟩
 |brw=>exact⟨h.1,hn.elim (λz=>absurd rfl z.1) λz=>z a,rfl,rfl⟩
 |bro=>exact⟨h.1,hn.elim (λz=>absurd rfl z.2) λz=>z a,rfl,rfl⟩
 |scr=>exact⟨h.1.imp (λz=>⟨z.1,hs.f a z.2⟩) id,rfl,rfl⟩
mutual
theorem Rep.fz:∀{d:D}{v:V}{L:List Addr},Rep G H W d v L->Les H W W' L->(clean d=true∨pq W')->Rep G H W' (fz d) v []
 |.non,v,L,h,_,_=>by rw[Rep]at h;simp[Jb.fz,Rep,h]
 |.bl _,v,L,h,_,_=>by rw[Rep]at h;simp[Jb.fz,Rep,h]
 |.int _,v,L,h,_,_=>by rw[Rep]at h;simp[Jb.fz,Rep,h]
 |.str _,v,L,h,_,_=>by rw[Rep]at h;simp[Jb.fz,Rep,h]
 |.ty _,v,L,h,_,_=>by rw[Rep]at h;simp[Jb.fz,Rep,h]
 |.tup ds,v,L,h,hs,c=>by
  rw[Rep]at h;rw[Jb.fz,Rep];obtain⟨a,xs,rfl,ht,hr⟩:=h;exact⟨a,xs,rfl,ht,aK.fz hr hs (c.imp (λz=>by simpa[clean,aG,aD]using z) id)⟩
 |.lst m ds,v,L,h,he,c=>by
  rw[Rep]at h;rw[Jb.fz,Rep];obtain⟨a,xs,M,rfl,hr,hs⟩:=h;exact⟨a,xs,[],rfl,aK.fz hr (he.sub λc hc=>hs.sub.subset hc) (c.imp (λz=>by simp[clean,aG,aD]at z;exact⟨z.1.2,z.2.2⟩) id),hs.fz he (c.imp (λz=>by simp[clean,aG,aD]at z;exact⟨z.1.1,z.2.1⟩) id)⟩
 |.dct m ks ds,v,L,h,he,c=>by
  rw[Rep]at h;rw[Jb.fz,Rep];obtain⟨a,xs,M,rfl,hk,hr,hs⟩:=h;exact⟨a,xs,[],rfl,hk,aK.fz hr (he.sub λc hc=>hs.sub.subset hc) (c.imp (λz=>by simp[clean,aG,aD]at z;exact⟨z.1.2,z.2.2⟩) id),hs.fz he (c.imp (λz=>by simp[clean,aG,aD]at z;exact⟨z.1.1,z.2.1⟩) id)⟩
 |.ins m c' fs ds,v,L,h,he,c=>by
  rw[Rep]at h;rw[Jb.fz,Rep];obtain⟨a,C,dx,xs,M,rfl,hC,hk,hr,hs⟩:=h;exact⟨a,C,dx,xs,[],rfl,hC,hk,aK.fz hr (he.sub λc hc=>hs.sub.subset hc) (c.imp (λz=>by simp[clean,aG,aD]at z;exact⟨z.1.2,z.2.2⟩) id),hs.fz he (c.imp (λz=>by simp[clean,aG,aD]at z;exact⟨z.1.1,z.2.1⟩) id)⟩
theorem aK.fz:∀{ds:List D}{vs:List V}{L:List Addr},aK G H W ds vs L->Les H W W' L->((aH ds=true/\aJ ds=true)∨pq W')->aK G H W' (fzL ds) vs []
 |[],vs,L,h,_,_=>by obtain⟨rfl,_⟩:=h.inv0;rw[fzL];exact .nil
 |d::r,vs,L,h,he,c=>by
  obtain⟨x,ys,M,M',rfl,rfl,h1,h2⟩:=h.inv;rw[fzL];exact .cons (M:=[]) (M':=[]) (Rep.fz h1 (he.sub λc hc=>List.mem_append_left _ hc) (c.imp (λz=>by simp[clean,aH,aJ]at z⊢;exact⟨z.1.1,z.2.1⟩) id))
   (aK.fz h2 (he.sub λc hc=>List.mem_append_right _ hc) (c.imp (λz=>by simp[clean,aH,aJ]at z⊢;exact⟨z.1.2,z.2.2⟩) id))
end
mutual
theorem Ci:∀d:D,aG (Jb.fz d)=true
 |.non=>rfl|.bl _=>rfl|.int _=>rfl|.str _=>rfl|.ty _=>rfl
 |.tup ds=>by simp[Jb.fz,aG,iw ds]
 |.lst m ds=>by cases m<;>simp[Jb.fz,aG,iw ds,mkF]
 |.dct m _ ds=>by cases m<;>simp[Jb.fz,aG,iw ds,mkF]
 |.ins m _ _ ds=>by cases m<;>simp[Jb.fz,aG,iw ds,mkF]
theorem iw:∀ds:List D,aH (fzL ds)=true
 |[]=>rfl
 |d::r=>by simp[fzL,aH,Ci d,iw r]
end
mutual
theorem Cw:∀d:D,aD (Jb.fz d)=true
 |.non=>rfl|.bl _=>rfl|.int _=>rfl|.str _=>rfl|.ty _=>rfl
 |.tup ds=>by simp[Jb.fz,aD,iG ds]
 |.lst m ds=>by cases m<;>simp[Jb.fz,aD,iG ds,mkF]
 |.dct m _ ds=>by cases m<;>simp[Jb.fz,aD,iG ds,mkF]
 |.ins m _ _ ds=>by cases m<;>simp[Jb.fz,aD,iG ds,mkF]
theorem iG:∀ds:List D,aJ (fzL ds)=true
 |[]=>rfl
 |d::r=>by simp[fzL,aJ,Cw d,iG r]
end
theorem Jw(d:D):clean (Jb.fz d)=true:=by simp[clean,Ci,Cw]
mutual
theorem Rep.dom:∀{d:D}{v:V}{L:List Addr},Rep G H W d v L->∀a∈L,Mu H a
 |.non,v,L,h=>by rw[Rep]at h;rw[h.2];simp
 |.bl _,v,L,h=>by rw[Rep]at h;rw[h.2];simp
 |.int _,v,L,h=>by rw[Rep]at h;rw[h.2];simp
 |.str _,v,L,h=>by rw[Rep]at h;rw[h.2];simp
 |.ty _,v,L,h=>by rw[Rep]at h;rw[h.2];simp
 |.tup ds,v,L,h=>by
  rw[Rep]at h;obtain⟨a,xs,rfl,ht,hr⟩:=h;exact aK.dom hr
 |.lst m ds,v,L,h=>by
  rw[Rep]at h;obtain⟨a,xs,M,rfl,hr,hs⟩:=h;intro b hb;cases m with
  |own=>
   rw[hs.2]at hb;rcases List.mem_cons.mp hb with z|z
   .rw[z];exact⟨_,hs.1,rfl⟩
   .exact aK.dom hr b z
  |frz=>rw[hs.2.2.2]at hb;cases hb
  |brw=>rw[hs.2.2.2]at hb;cases hb
  |bro=>rw[hs.2.2]at hb;cases hb
  |scr=>rw[hs.2.2]at hb;cases hb
 |.dct m ks ds,v,L,h=>by
  rw[Rep]at h;obtain⟨a,xs,M,rfl,hk,hr,hs⟩:=h;intro b hb;cases m with
  |own=>
   rw[hs.2]at hb;rcases List.mem_cons.mp hb with z|z
   .rw[z];exact⟨_,hs.1,rfl⟩
   .exact aK.dom hr b z
  |frz=>rw[hs.2.2.2]at hb;cases hb
  |brw=>rw[hs.2.2.2]at hb;cases hb
  |bro=>rw[hs.2.2]at hb;cases hb
  |scr=>rw[hs.2.2]at hb;cases hb
 |.ins m c fs ds,v,L,h=>by
  rw[Rep]at h;obtain⟨a,C,dx,xs,M,rfl,hC,hk,hr,hs⟩:=h;intro b hb;cases m with
  |own=>
   rw[hs.2]at hb;rcases List.mem_cons.mp hb with z|z
   .rw[z];exact⟨_,hs.1,rfl⟩
   .exact aK.dom hr b z
  |frz=>rw[hs.2.2.2]at hb;cases hb
  |brw=>rw[hs.2.2.2]at hb;cases hb
  |bro=>rw[hs.2.2]at hb;cases hb
  |scr=>rw[hs.2.2]at hb;cases hb
theorem aK.dom:∀{ds:List D}{vs:List V}{L:List Addr},aK G H W ds vs L->∀a∈L,Mu H a
 |[],vs,L,h=>by rw[h.inv0.2];simp
 |d::r,vs,L,h=>by
  obtain⟨x,ys,M,M',rfl,rfl,h1,h2⟩:=h.inv;intro a ha;rcases List.mem_append.mp ha with z|z
  .exact Rep.dom h1 a z
  .exact aK.dom h2 a z
end
end
abbrev En:=List (Option D)
abbrev Ad:=Nat->List Addr
def Rel(G:Gc)(H:Hp)(W:Wn)(ob:Nat->Bool)(ρ:En)(σ:L2.St):Prop:=∀(i:Nat)(d:D),ρ[i]? =some (some d)->∃v L,σ[i]? =some (some v)/\Rep G H W d v L/\(ob i=false->∀c∈L,W.s c)
def WOk(H:Hp)(W:Wn):Prop:=∀a,W.n a∨W.s a∨W.o a->Mu H a
theorem Rel.up{G:Gc}{H H':Hp}{W W':Wn}{ob:Nat->Bool}{ρ:En}{σ:L2.St}(r:Rel G H W ob ρ σ)(u:Up H H' W W'):Rel G H' W' ob ρ σ:=λi d e=>let⟨v,L,h1,h2,h3⟩:=r i d e;⟨v,L,h1,h2.up u,λz c hc=>let⟨o,ho,_⟩:=h2.dom c hc;u.n c o ho (h3 z c hc)⟩
theorem WOk.add{H H':Hp}{W:Wn}{L:List Addr}(h:WOk H W)(s:Same H H')(hL:∀a∈L,Mu H' a):WOk H' (W.add L):=λa ha=>by
 rcases ha with(z|z)|z
 .exact hL a z
 .obtain⟨o,h1,h2⟩:=h a (.inl z);exact⟨o,s a o h1,h2⟩
 .obtain⟨o,h1,h2⟩:=h a (.inr z);exact⟨o,s a o h1,h2⟩
def wn(ob:Nat->Bool)(S:Ad)(Fr:Addr->Prop):Wn:=⟨Fr,λa=>∃i,ob i=false/\a∈S i,λa=>∃i,ob i=true/\a∈S i⟩
def inS(S:Ad)(a:Addr):Prop:=∃i,a∈S i
def inO(ob:Nat->Bool)(S:Ad)(a:Addr):Prop:=∃i,ob i=true/\a∈S i
def plus(M:List Addr)(Fr:Addr->Prop):Addr->Prop:=λa=>a∈M∨Fr a
structure Sta(G:Gc)(H:Hp)(ob:Nat->Bool)(ρ:En)(σ:L2.St)(S:Ad)(Fr:Addr->Prop):Prop where
 len:ρ.length=σ.length
 sl:∀(i:Nat)(d:D),ρ[i]? =some (some d)->∃v,σ[i]? =some (some v)/\Rep G H (wn ob S Fr) d v (S i)/\clean d=true
 em:∀i,(∀d,ρ[i]?≠some (some d))->S i=[]
 nd:∀i,(S i).Nodup
 dj:∀i j a,a∈S i->a∈S j->i=j
 fdj:∀i a,Fr a->a∉S i
 fdm:∀a,Fr a->Mu H a
section
variable{G:Gc}{H H':Hp}{ob:Nat->Bool}{ρ:En}{σ:L2.St}{S S':Ad}{Fr Fr':Addr->Prop}
theorem Sta.mu(s:Sta G H ob ρ σ S Fr){i:Nat}{a:Addr}(h:a∈S i):Mu H a:=by
 by_cases e:∃d,ρ[i]? =some (some d)
 .obtain⟨d,e⟩:=e
  obtain⟨v,_,r,_⟩:=s.sl i d e;exact r.dom a h
 .rw[s.em i λd z=>e ⟨d,z⟩]at h
  cases h
theorem Sta.wok(s:Sta G H ob ρ σ S Fr):WOk H (wn ob S Fr):=λa ha=>by
 rcases ha with z|⟨i,_,z⟩|⟨i,_,z⟩
 .exact s.fdm a z
 .exact s.mu z
 .exact s.mu z
theorem Sta.rel(s:Sta G H ob ρ σ S Fr):Rel G H (wn ob S Fr) ob ρ σ:=λi d e=>by
 obtain⟨v,h1,h2,_⟩:=s.sl i d e;exact⟨v,S i,h1,h2,λz c hc=>⟨i,z,hc⟩⟩
theorem Sta.grow(s:Sta G H ob ρ σ S Fr)(sm:Same H H')(h1:∀a,Fr' a->Fr a∨(H a=none/\Mu H' a)):Sta G H' ob ρ σ S Fr' where
 len:=s.len
 sl:=λi d e=>by
  obtain⟨v,q1,q2,q3⟩:=s.sl i d e;have hc:aG d=true/\aD d=true:=by simpa[clean]using q3
  have ev:Evo H H' (wn ob S Fr) (wn ob S Fr'):=⟨λb u h f=>⟨sm b u h,⟨λz=>(h1 b z).elim f.1 (λz=>by rw[z.1]at h;cases h),f.2⟩⟩,λb xs h=>sm b _ h⟩;exact⟨v,q1,q2.mono ev (.inl hc.1) (.inl hc.2) λc _ u e=>sm c u e,q3⟩
 em:=s.em
 nd:=s.nd
 dj:=s.dj
 fdj:=λi a h z=>by
  rcases h1 a h with q|q
  .exact s.fdj i a q z
  .obtain⟨o,ho,_⟩:=s.mu z
   rw[q.1]at ho;cases ho
 fdm:=λa h=>by
  rcases h1 a h with q|q
  .obtain⟨o,ho,hm⟩:=s.fdm a q
   exact⟨o,sm a o ho,hm⟩
  .exact q.2
theorem Sta.lessF(s:Sta G H ob ρ σ S Fr)(h1:∀a,Fr' a->Fr a):Sta G H ob ρ σ S Fr':=s.grow (Same.refl H) λa h=>.inl (h1 a h)
end
def RfE(G:Gc)(ob:Nat->Bool)(t:TE)(f:En->Option D):Prop:=∀(ρ:En)(d:D),f ρ=some d->∀(σ:L2.St)(H:Hp)(W:Wn),Rel G H W ob ρ σ->WOk H W->∀Q:VK,
 (∀v H' L,Same H H'->Rep G H' (W.add L) d v L->(∀a∈L,H a=none)->L.Nodup->Q v H')->t σ H Q
def RfT(G:Gc)(ob:Nat->Bool)(t:TT)(f:En->Option Bool):Prop:=∀(ρ:En)(b:Bool),f ρ=some b->∀(σ:L2.St)(H:Hp)(W:Wn),Rel G H W ob ρ σ->WOk H W->∀Q:Bool->Hp->Prop,
 (∀H',Same H H'->Q b H')->t σ H Q
def RfA(G:Gc)(ob:Nat->Bool)(t:TA)(f:En->Option (List D)):Prop:=∀(ρ:En)(ds:List D),f ρ=some ds->∀(σ:L2.St)(H:Hp)(W:Wn),Rel G H W ob ρ σ->WOk H W->∀Q:List V->Hp->Prop,
 (∀vs H' L,Same H H'->aK G H' (W.add L) ds vs L->(∀a∈L,H a=none)->L.Nodup->Q vs H')->t σ H Q
structure Eff(ob:Nat->Bool)(H H':Hp)(S S':Ad)(M:List Addr):Prop where
 kp:∀b u,H b=some u->¬inO ob S b->H' b=some u
 sn:∀i,ob i=false->S' i=S i
 gr:∀i a,ob i=true->a∈S' i->inO ob S a∨H a=none
 fm:∀a∈M,inO ob S a∨H a=none
def kh(G:Gc)(ob:Nat->Bool)(t:TE)(f:En->Option (D×En)):Prop:=∀(ρ:En)(d:D)(ρ':En),f ρ=some (d,ρ')->∀(σ:L2.St)(H:Hp)(S:Ad)(Fr:Addr->Prop),Sta G H ob ρ σ S Fr->∀Q:VK,
 (∀v H' M S',Sta G H' ob ρ' σ S' (plus M Fr)->Rep G H' (wn ob S' (plus M Fr)) d v M->M.Nodup->Eff ob H H' S S' M->Q v H')->t σ H Q
def pM(G:Gc)(ob:Nat->Bool)(t:TT)(f:En->Option (Bool×En)):Prop:=∀(ρ:En)(b:Bool)(ρ':En),f ρ=some (b,ρ')->∀(σ:L2.St)(H:Hp)(S:Ad)(Fr:Addr->Prop),Sta G H ob ρ σ S Fr->∀Q:Bool->Hp->Prop,
 (∀H' S',Sta G H' ob ρ' σ S' Fr->Eff ob H H' S S' []->Q b H')->t σ H Q
def BP(G:Gc)(ob:Nat->Bool)(t:TA)(f:En->Option (List D×En)):Prop:=∀(ρ:En)(ds:List D)(ρ':En),f ρ=some (ds,ρ')->∀(σ:L2.St)(H:Hp)(S:Ad)(Fr:Addr->Prop),Sta G H ob ρ σ S Fr->∀Q:List V->Hp->Prop,
 (∀vs H' M S',Sta G H' ob ρ' σ S' (plus M Fr)->aK G H' (wn ob S' (plus M Fr)) ds vs M->M.Nodup->Eff ob H H' S S' M->Q vs H')->t σ H Q
inductive Fl where
 |nx (ρ:En)|ret (d:D) (ρ:En)|brk (ρ:En)|cnt (ρ:En)
def Dq(P:Nat->Bool)(σ σ':L2.St):Prop:=∀i,P i=true->σ'[i]? =σ[i]?
theorem Dq.refl{P:Nat->Bool}{σ:L2.St}:Dq P σ σ:=λ_ _=>rfl
theorem Dq.trans{P:Nat->Bool}{σ σ1 σ2:L2.St}(a:Dq P σ σ1)(b:Dq P σ1 σ2):Dq P σ σ2:=λi h=>(b i h).trans (a i h)
structure Mv(P:Nat->Bool)(H H':Hp)(σ σ':L2.St)(S S':Ad)(M:List Addr):Prop where
 kp:∀b u,H b=some u->¬inS S b->b∉M->H' b=some u
 gr:∀i a,a∈S' i->inS S a∨a∈M∨H a=none
 pr:Dq P σ σ'
theorem Mv.trans{P:Nat->Bool}{H H1 H2:Hp}{σ σ1 σ2:L2.St}{S S1 S2:Ad}{M:List Addr}(a:Mv P H H1 σ σ1 S S1 M)(b:Mv P H1 H2 σ1 σ2 S1 S2 []):Mv P H H2 σ σ2 S S2 M where
 kp:=λc u h n m=>b.kp c u (a.kp c u h n m) (λ⟨i,z⟩=>(a.gr i c z).elim n λz=>z.elim m λe=>by rw[h]at e;cases e) (by simp)
 gr:=λi c z=>by
  rcases b.gr i c z with⟨j,q⟩|q|q
  .exact a.gr j c q
  .cases q
  .by_cases h:inS S c
   .exact .inl h
   .by_cases hm:c∈M
    .exact .inr (.inl hm)
    .refine .inr (.inr ?_)
     cases e:H c with
     |none=>rfl
     |some u=>rw[a.kp c u e h hm]at q;cases q
 pr:=a.pr.trans b.pr
theorem Eff.mv{P:Nat->Bool}{ob:Nat->Bool}{H H':Hp}{σ:L2.St}{S S':Ad}{M:List Addr}(e:Eff ob H H' S S' M):Mv P H H' σ σ S S' []where
 kp:=λb u h n _=>e.kp b u h λ⟨i,_,z⟩=>n ⟨i,z⟩
 gr:=λi a z=>by
  cases h:ob i with
  |false=>rw[e.sn i h]at z;exact .inl ⟨i,z⟩
  |true=>exact(e.gr i a h z).imp (λ⟨j,_,q⟩=>⟨j,q⟩) .inr
 pr:=.refl
def Aft(G:Gc)(ob P:Nat->Bool)(H:Hp)(σ:L2.St)(S:Ad)(Fr:Addr->Prop)(E:Ends):Fl->Prop
 |.nx ρ'=>∀σ' H' S',Sta G H' ob ρ' σ' S' Fr->Mv P H H' σ σ' S S' []->E.nx σ' H'
 |.brk ρ'=>∀σ' H' S',Sta G H' ob ρ' σ' S' Fr->Mv P H H' σ σ' S S' []->E.bk σ' H'
 |.cnt ρ'=>∀σ' H' S',Sta G H' ob ρ' σ' S' Fr->Mv P H H' σ σ' S S' []->E.ct σ' H'
 |.ret d ρ'=>∀v σ' H' M S',Sta G H' ob ρ' σ' S' (plus M Fr)->Rep G H' (wn ob S' (plus M Fr)) d v M->clean d=true->M.Nodup->(∀a∈M,inS S a∨H a=none)->Mv P H H' σ σ' S S' []->E.rt v H'
def RfS(G:Gc)(ob P:Nat->Bool)(t:TS)(f:En->Option Fl):Prop:=∀(ρ:En)(r:Fl),f ρ=some r->∀(σ:L2.St)(H:Hp)(S:Ad)(Fr:Addr->Prop),Sta G H ob ρ σ S Fr->∀E:Ends,Aft G ob P H σ S Fr E r->t E σ H
def RfG(G:Gc)(ob P:Nat->Bool)(g:TG)(f:D->En->Option En):Prop:=∀(d:D)(ρ ρ':En),f d ρ=some ρ'->∀(v:V)(σ:L2.St)(H:Hp)(S:Ad)(M:List Addr)(Fr:Addr->Prop),Sta G H ob ρ σ S (plus M Fr)->Rep G H (wn ob S (plus M Fr)) d v M->M.Nodup->(∀a∈M,¬Fr a)->
 ∀Q:L2.St->Hp->Prop,(∀σ' H' S',Sta G H' ob ρ' σ' S' Fr->Mv P H H' σ σ' S S' M->Q σ' H')->g v σ H Q
def VL(G:Gc)(ob P:Nat->Bool)(g:TGs)(f:List D->En->Option En):Prop:=∀(ds:List D)(ρ ρ':En),f ds ρ=some ρ'->∀(vs:List V)(σ:L2.St)(H:Hp)(S:Ad)(M:List Addr)(Fr:Addr->Prop),Sta G H ob ρ σ S (plus M Fr)->aK G H (wn ob S (plus M Fr)) ds vs M->M.Nodup->(∀a∈M,¬Fr a)->
 ∀Q:L2.St->Hp->Prop,(∀σ' H' S',Sta G H' ob ρ' σ' S' Fr->Mv P H H' σ σ' S S' M->Q σ' H')->g vs σ H Q
structure PV{ι:Type}(X:ι->Cx)(G:Gc)(ob:Nat->Bool)(e:Expr)(f:En->Option D):Prop where
 mk::(ex:∃t,(∀c,PE (X c) e t)/\RfE G ob t f)
structure PVT{ι:Type}(X:ι->Cx)(G:Gc)(ob:Nat->Bool)(e:Expr)(f:En->Option Bool):Prop where
 mk::(ex:∃t,(∀c,PT (X c) e t)/\RfT G ob t f)
structure PVW{ι:Type}(X:ι->Cx)(G:Gc)(ob:Nat->Bool)(e:Expr)(f:En->Option Bool):Prop where
 mk::(ex:∃t,(∀c,PW (X c) e t)/\RfT G ob t f)
structure PVA{ι:Type}(X:ι->Cx)(G:Gc)(ob:Nat->Bool)(es:List Expr)(f:En->Option (List D)):Prop where
 mk::(ex:∃t,(∀c,PA (X c) es t)/\RfA G ob t f)
structure PVe{ι:Type}(X:ι->Cx)(G:Gc)(ob:Nat->Bool)(e:Expr)(f:En->Option (D×En)):Prop where
 mk::(ex:∃t,(∀c,PE (X c) e t)/\kh G ob t f)
structure vh{ι:Type}(X:ι->Cx)(G:Gc)(ob:Nat->Bool)(e:Expr)(f:En->Option (Bool×En)):Prop where
 mk::(ex:∃t,(∀c,PT (X c) e t)/\pM G ob t f)
structure Du{ι:Type}(X:ι->Cx)(G:Gc)(ob:Nat->Bool)(e:Expr)(f:En->Option (Bool×En)):Prop where
 mk::(ex:∃t,(∀c,PW (X c) e t)/\pM G ob t f)
structure w6{ι:Type}(X:ι->Cx)(G:Gc)(ob:Nat->Bool)(es:List Expr)(f:En->Option (List D×En)):Prop where
 mk::(ex:∃t,(∀c,PA (X c) es t)/\BP G ob t f)
structure PVS{ι:Type}(X:ι->Cx)(G:Gc)(ob P:Nat->Bool)(st:Stmt)(f:En->Option Fl):Prop where
 mk::(ex:∃t,(∀c,PS (X c) st t)/\RfS G ob P t f)
structure uN{ι:Type}(X:ι->Cx)(G:Gc)(ob P:Nat->Bool)(st:List Stmt)(f:En->Option Fl):Prop where
 mk::(ex:∃t,(∀c,PSs (X c) st t)/\RfS G ob P t f)
structure PVG{ι:Type}(X:ι->Cx)(G:Gc)(ob P:Nat->Bool)(tg:Expr)(f:D->En->Option En):Prop where
 mk::(ex:∃t,(∀c,PG (X c) tg t)/\RfG G ob P t f)
theorem fK{L M:List Addr}(h1:L.Nodup)(h2:M.Nodup)(h3:∀a∈L,a∉M):(L++M).Nodup:=List.nodup_append.mpr ⟨h1,h2,λa ha b hb e=>h3 a ha (e▸hb)⟩
def Wn.drop(W:Wn)(L:List Addr):Wn:=⟨λa=>W.n a/\a∉L,W.s,W.o⟩
def Wn.tmp(W:Wn)(a:Addr):Prop:=W.n a/\¬W.s a/\¬W.o a
theorem WOk.tmp{H:Hp}{W:Wn}{L:List Addr}(w:WOk H W)(fr:∀a∈L,H a=none):∀a∈L,(W.add L).tmp a:=λa ha=>by
 refine⟨.inl ha,λz=>?_,λz=>?_⟩
 .obtain⟨o,ho,_⟩:=w a (.inr (.inl z));rw[fr a ha]at ho;cases ho
 .obtain⟨o,ho,_⟩:=w a (.inr (.inr z));rw[fr a ha]at ho;cases ho
def Done(G:Gc)(H:Hp)(W:Wn)(L0:List Addr)(d:D)(Q:VK):Prop:=∀v H' L,Same H H'->Rep G H' ((W.drop L0).add L) d v L->(∀a∈L,a∈L0∨H a=none)->L.Nodup->Q v H'
def OpV(G:Gc)(r:R2)(g:D->D->Option D):Prop:=∀(dx dy d:D),g dx dy=some d->∀(x y:V)(H:Hp)(W:Wn)(Lx Ly:List Addr),Rep G H W dx x Lx->Rep G H W dy y Ly->(Lx++Ly).Nodup->(∀a∈Lx++Ly,W.tmp a)->WOk H W->∀Q:VK,Done G H W (Lx++Ly) d Q->r x y H Q
def UnV(G:Gc)(r:V->Hp->VK->Prop)(g:D->Option D):Prop:=∀(dx d:D),g dx=some d->∀(x:V)(H:Hp)(W:Wn)(Lx:List Addr),Rep G H W dx x Lx->Lx.Nodup->(∀a∈Lx,W.tmp a)->WOk H W->∀Q:VK,Done G H W Lx d Q->r x H Q
def CaV(G:Gc)(r:List V->Hp->VK->Prop)(g:List D->Option D):Prop:=∀(ds:List D)(d:D),g ds=some d->∀(xs:List V)(H:Hp)(W:Wn)(L0:List Addr),aK G H W ds xs L0->L0.Nodup->(∀a∈L0,W.tmp a)->WOk H W->∀Q:VK,Done G H W L0 d Q->r xs H Q
def MtV(G:Gc)(r:V->List V->Hp->VK->Prop)(g:D->List D->Option D):Prop:=∀(dx:D)(ds:List D)(d:D),g dx ds=some d->∀(x:V)(xs:List V)(H:Hp)(W:Wn)(Lx L0:List Addr),Rep G H W dx x Lx->aK G H W ds xs L0->(Lx++L0).Nodup->(∀a∈Lx++L0,W.tmp a)->WOk H W->∀Q:VK,Done G H W (Lx++L0) d Q->r x xs H Q
theorem WOk.new{H:Hp}{W:Wn}{L:List Addr}(w:WOk H W)(fr:∀a∈L,H a=none){a:Addr}(h:W.n a):a∉L:=λz=>by
 obtain⟨o,ho,_⟩:=w a (.inl h);rw[fr a z]at ho;cases ho
theorem Done.scal{G:Gc}{H:Hp}{W:Wn}{L0:List Addr}{d:D}{Q:VK}{v:V}(h:Done G H W L0 d Q)(r:∀W,Rep G H W d v []):Q v H:=h v H [] (Same.refl H) (r _) (by simp) List.nodup_nil
section
variable{G:Gc}{ob:Nat->Bool}{ta tb:TE}
theorem _root_.L2.Same.none'{H H':Hp}(s:Same H H'){a:Addr}(h:H' a=none):H a=none:=Same.free s h
theorem RfE.two{fa fb:En->Option D}(ha:RfE G ob ta fa)(hb:RfE G ob tb fb){ρ:En}{dx dy:D}(e1:fa ρ=some dx)(e2:fb ρ=some dy){σ:L2.St}{H:Hp}{W:Wn}(r:Rel G H W ob ρ σ)(w:WOk H W){R:V->V->Hp->Prop}
  (h:∀x y H' L M,Same H H'->Rep G H' (W.add (L++M)) dx x L->Rep G H' (W.add (L++M)) dy y M->(∀a∈L++M,H a=none)->(L++M).Nodup->WOk H' (W.add (L++M))->R x y H'):ta σ H λx H1=>tb σ H1 λy H2=>R x y H2:=by
 refine ha ρ dx e1 σ H W r w _ λx H1 L s1 rx fx nx=>?_;have u1:Up H H1 W (W.add L):=.add s1 fx;have w1:WOk H1 (W.add L):=w.add s1 rx.dom;refine hb ρ dy e2 σ H1 (W.add L) (r.up u1) w1 _ λy H2 M s2 ry fy ny=>?_;have hLM:∀a∈L,a∉M:=λa h1 h2=>by
  obtain⟨o,ho,_⟩:=rx.dom a h1;rw[fy a h2]at ho;cases ho
 have eW:∀a,((W.add L).add M).n a↔(W.add (L++M)).n a:=λa=>by
  show(a∈M∨a∈L∨W.n a)↔(a∈L++M∨W.n a);rw[List.mem_append];constructor
  .rintro(z|z|z)
   .exact .inl (.inr z)
   .exact .inl (.inl z)
   .exact .inr z
  .rintro((z|z)|z)
   .exact .inr (.inl z)
   .exact .inl z
   .exact .inr (.inr z)
 have eW':(W.add L).add M=W.add (L++M):=by
  show Wn.mk _ _ _=Wn.mk _ _ _;congr 1;funext a;exact propext (eW a)
 have u2:Up H1 H2 (W.add L) (W.add (L++M)):=by rw[←eW'];exact .add s2 fy
 rw[eW']at ry;refine h x y H2 L M (s1.trans s2) (rx.up u2) ry (λa ha=>?_) (fK nx ny hLM) ?_
 .rcases List.mem_append.mp ha with z|z
  .exact fx a z
  .exact s1.none' (fy a z)
 .rw[←eW']
  exact w1.add s2 ry.dom
end
def aq(b:Bool)(i:Nat):En->Option D:=λρ=>match ρ[i]? with
 |some (some d)=>some (view b d)
 |_=>none
def eC(d:D):En->Option D:=λ_=>some d
section
variable{ι:Type}{X:ι->Cx}{G:Gc}{ob:Nat->Bool}
theorem yL(W:Wn):W.add []=W:=by
 cases W;simp[Wn.add]
theorem R8{i:Nat}:RfE G ob (Nu i) (aq (ob i) i):=λρ d e σ H W r w Q q=>by
 unfold aq at e;split at e
 .rename_i d0 e0
  cases e;obtain⟨v,L,h1,h2,h3⟩:=r i d0 e0;refine⟨v,h1,q v H [] (Same.refl H) ?_ (by simp) List.nodup_nil⟩;rw[yL];exact h2.view h3
 .cases e
theorem aj(b:Bool)(i:Nat){x:Str}{pos:Pos}(hb:ob i=b:=by rfl)(hN:∀c,(X c).N[i]? =some x:=by intro _;rfl)(hv:∀c,Vis (X c).env.scope x:=by intro _;first|exact Or.inl rfl|exact Or.inr (Or.inl rfl)|exact Or.inr (Or.inr rfl))(hd:(x==("__debug__":Str))=false:=by decide)(hcd:(x==("__classdict__":Str))=false:=by decide):PV X G ob (.Name x pos) (aq b i):=⟨_,λc=>pv i (hN c) (hv c) hd hcd,by rw[←hb];exact R8⟩
theorem Jl{d:D}{v:V}(h:∀H W,Rep G H W d v []):RfE G ob (tC v) (eC d):=λρ d' e σ H W r w Q q=>by
 cases e;exact q v H [] (Same.refl H) (h _ _) (by simp) List.nodup_nil
theorem au{i j pos}:PV X G ob (.Constant (.int i) j pos) (eC (.int i)):=⟨_,λc=>Tj,Jl λ_ _=>by simp[Rep]⟩
theorem jF{b j pos}:PV X G ob (.Constant (.bool b) j pos) (eC (.bl b)):=⟨_,λc=>Vb,Jl λ_ _=>by simp[Rep]⟩
theorem mQ{j pos}:PV X G ob (.Constant .none j pos) (eC .non):=⟨_,λc=>RL,Jl λ_ _=>by simp[Rep]⟩
theorem j4{x j pos}:PV X G ob (.Constant (.str x) j pos) (eC (.str x)):=⟨_,λc=>Rp,Jl λ_ _=>by simp[Rep]⟩
theorem jZ{x:Str}{n:String}{pos:Pos}(hg:∀c,Gl (X c) x)(hm:∀c,(X c).mg x=none)(hv:bootBuiltins x=some (.type n))(hn:x≠"__name__":=by decide)(hd:(x==("__debug__":Str))=false:=by decide):PV X G ob (.Name x pos) (eC (.ty n)):=⟨_,λc=>Vp (hg c) (hm c) hv hn hd,Jl λ_ _=>by simp[Rep]⟩
structure OpB{ι:Type}(X:ι->Cx)(G:Gc)(f:Value->Value->Sem Value)(g:D->D->Option D):Prop where
 ex:∃r,(∀c,OpR (X c) f r)/\OpV G r g
structure UnB{ι:Type}(X:ι->Cx)(G:Gc)(f:Value->Sem Value)(g:D->Option D):Prop where
 ex:∃r,(∀c,UnR (X c) f r)/\UnV G r g
structure IxB{ι:Type}(X:ι->Cx)(G:Gc)(g:D->D->Option D):Prop where
 ex:∃r,(∀c,IxR (X c) r)/\OpV G r g
structure CaB{ι:Type}(X:ι->Cx)(G:Gc)(f:Value)(g:List D->Option D):Prop where
 ex:∃r,(∀c,fD (X c) f r)/\CaV G r g
structure MtB{ι:Type}(X:ι->Cx)(G:Gc)(T id:String)(g:D->List D->Option D):Prop where
 ex:∃r,(∀c,MtR (X c) id r)/\MtV G r g/\∀dx ds d,g dx ds=some d->∀(x:V)(H:Hp)(W:Wn)(Lx:List Addr),Rep G H W dx x Lx->tyV G.K T x H
def e2(g:D->D->Option D)(fa fb:En->Option D):En->Option D:=λρ=>(fa ρ).bind λx=>(fb ρ).bind λy=>g x y
def e1(g:D->Option D)(fa:En->Option D):En->Option D:=λρ=>(fa ρ).bind g
theorem Cp{r:R2}{g:D->D->Option D}{ta tb:TE}{fa fb:En->Option D}(ho:OpV G r g)(ha:RfE G ob ta fa)(hb:RfE G ob tb fb):RfE G ob (tOp r ta tb) (e2 g fa fb):=λρ d e σ H W rl w Q q=>by
 unfold e2 at e;cases h1:fa ρ with
 |none=>rw[h1]at e;cases e
 |some dx=>
  rw[h1]at e;cases h2:fb ρ with
  |none=>simp[h2]at e
  |some dy=>
   have e:g dx dy=some d:=by simpa[h2]using e
   refine RfE.two ha hb h1 h2 rl w λx y H' L M s rx ry fr nd w'=>?_;refine ho dx dy d e x y H' _ L M rx ry nd (w.tmp fr) w' Q λv H2 L2 s2 r2 f2 n2=>?_;refine q v H2 L2 (s.trans s2) ?_ (λa ha=>(f2 a ha).elim (fr a) λz=>s.none' z) n2;exact r2.up ⟨Same.refl _,λb u hb f=>⟨λz=>z.elim (λz=>f.1 (.inl z)) λz=>f.1 (.inr ⟨.inr z,WOk.new w fr z⟩),f.2⟩,λ_ _ _ f=>f⟩
theorem Uw{r:V->Hp->VK->Prop}{g:D->Option D}{ta:TE}{fa:En->Option D}(ho:UnV G r g)(ha:RfE G ob ta fa):RfE G ob (tUn r ta) (e1 g fa):=λρ d e σ H W rl w Q q=>by
 unfold e1 at e;cases h1:fa ρ with
 |none=>rw[h1]at e;cases e
 |some dx=>
  rw[h1]at e;have e:g dx=some d:=by simpa using e
  refine ha ρ dx h1 σ H W rl w _ λx H' L s rx fr nd=>?_;refine ho dx d e x H' _ L rx nd (w.tmp fr) (w.add s rx.dom) Q λv H2 L2 s2 r2 f2 n2=>?_;refine q v H2 L2 (s.trans s2) ?_ (λa ha=>(f2 a ha).elim (fr a) λz=>s.none' z) n2;exact r2.up ⟨Same.refl _,λb u hb f=>⟨λz=>z.elim (λz=>f.1 (.inl z)) λz=>f.1 (.inr ⟨.inr z,WOk.new w fr z⟩),f.2⟩,λ_ _ _ f=>f⟩
def aC:En->Option (List D):=λ_=>some []
def ao(fa:En->Option D)(fr:En->Option (List D)):En->Option (List D):=λρ=>(fa ρ).bind λx=>(fr ρ).bind λxs=>some (x::xs)
theorem RM:RfA G ob Uh aC:=λρ ds e σ H W rl w Q q=>by
 cases e;exact q [] H [] (Same.refl H) .nil (by simp) List.nodup_nil
theorem Mm{ta:TE}{t:TA}{fa:En->Option D}{fr:En->Option (List D)}(ha:RfE G ob ta fa)(hr:RfA G ob t fr):RfA G ob (Kc ta t) (ao fa fr):=λρ ds e σ H W rl w Q q=>by
 unfold ao at e;cases h1:fa ρ with
 |none=>rw[h1]at e;cases e
 |some dx=>
  rw[h1]at e;cases h2:fr ρ with
  |none=>simp[h2]at e
  |some es=>
   have e:dx::es=ds:=by simpa[h2]using e
   subst e;refine ha ρ dx h1 σ H W rl w _ λx H1 L s1 rx fx nx=>?_;have u1:Up H H1 W (W.add L):=.add s1 fx;have w1:WOk H1 (W.add L):=w.add s1 rx.dom;refine hr ρ es h2 σ H1 (W.add L) (rl.up u1) w1 _ λys H2 M s2 ry fy ny=>?_;have hLM:∀a∈L,a∉M:=λa h1 h2=>by
    obtain⟨o,ho,_⟩:=rx.dom a h1;rw[fy a h2]at ho;cases ho
   have u2:Up H1 H2 (W.add L) (W.add (L++M)):=⟨s2,λb u hb f=>⟨λz=>z.elim (λz=>(List.mem_append.mp z).elim (λz=>f.1 (.inl z)) λz=>by rw[fy b z]at hb;cases hb) λz=>f.1 (.inr z),f.2⟩,λ_ _ _ f=>f⟩;refine q (x::ys) H2 (L++M) (s1.trans s2) (.cons (rx.up u2) (ry.up ⟨Same.refl _,λb u hb f=>⟨λz=>?_,f.2⟩,λ_ _ _ f=>f⟩)) (λa ha=>?_) (fK nx ny hLM)
   .rcases z with z|z
    .exact(List.mem_append.mp z).elim (λz=>f.1 (.inr (.inl z))) λz=>f.1 (.inl z)
    .exact f.1 (.inr (.inr z))
   .rcases List.mem_append.mp ha with z|z
    .exact fx a z
    .exact s1.none' (fy a z)
theorem yl{r:List V->Hp->VK->Prop}{g:List D->Option D}{t:TA}{f:En->Option (List D)}(ho:CaV G r g)(h:RfA G ob t f):RfE G ob (λσ H Q=>t σ H λvs H1=>r vs H1 Q) (λρ=>(f ρ).bind g):=λρ d e σ H W rl w Q q=>by
 cases h1:f ρ with
 |none=>simp[h1]at e
 |some ds=>
  have e:g ds=some d:=by simpa[h1]using e
  refine h ρ ds h1 σ H W rl w _ λxs H' L s rx fr nd=>?_;refine ho ds d e xs H' _ L rx nd (w.tmp fr) (w.add s rx.dom) Q λv H2 L2 s2 r2 f2 n2=>?_;refine q v H2 L2 (s.trans s2) ?_ (λa ha=>(f2 a ha).elim (fr a) λz=>s.none' z) n2;exact r2.up ⟨Same.refl _,λb u hb f=>⟨λz=>z.elim (λz=>f.1 (.inl z)) λz=>f.1 (.inr ⟨.inr z,WOk.new w fr z⟩),f.2⟩,λ_ _ _ f=>f⟩
def eAp(g:List D->Option D)(f:En->Option (List D)):En->Option D:=λρ=>(f ρ).bind g
theorem U9{r:V->List V->Hp->VK->Prop}{g:D->List D->Option D}{T:String}{to:TE}{t:TA}{fo:En->Option D}{f:En->Option (List D)}(ho:MtV G r g)(hty:∀dx ds d,g dx ds=some d->∀(x:V)(H:Hp)(W:Wn)(Lx:List Addr),Rep G H W dx x Lx->tyV G.K T x H)
  (h0:RfE G ob to fo) (h:RfA G ob t f):RfE G ob (tBM G.K T r to t) (λρ=>(fo ρ).bind λx=>(f ρ).bind λds=>g x ds):=λρ d e σ H W rl w Q q=>by
 cases h1:fo ρ with
 |none=>simp[h1]at e
 |some dx=>
  cases h2:f ρ with
  |none=>simp[h1,h2]at e
  |some ds=>
   have e:g dx ds=some d:=by simpa[h1,h2]using e
   refine h0 ρ dx h1 σ H W rl w _ λx H1 L s1 rx fx nx=>⟨hty dx ds d e x H1 _ L rx,?_⟩;have u1:Up H H1 W (W.add L):=.add s1 fx;have w1:WOk H1 (W.add L):=w.add s1 rx.dom;refine h ρ ds h2 σ H1 (W.add L) (rl.up u1) w1 _ λys H2 M s2 ry fy ny=>?_;have hLM:∀a∈L,a∉M:=λa h1 h2=>by
    obtain⟨o,ho,_⟩:=rx.dom a h1;rw[fy a h2]at ho;cases ho
   have u2:Up H1 H2 (W.add L) (W.add (L++M)):=⟨s2,λb u hb f=>⟨λz=>z.elim (λz=>(List.mem_append.mp z).elim (λz=>f.1 (.inl z)) λz=>by rw[fy b z]at hb;cases hb) λz=>f.1 (.inr z),f.2⟩,λ_ _ _ f=>f⟩;have u3:Up H2 H2 ((W.add L).add M) (W.add (L++M)):=⟨Same.refl _,λb u hb f=>⟨λz=>by
    rcases z with z|z
    .exact(List.mem_append.mp z).elim (λz=>f.1 (.inr (.inl z))) λz=>f.1 (.inl z)
    .exact f.1 (.inr (.inr z)),f.2⟩,λ_ _ _ f=>f⟩
   have w2:WOk H2 (W.add (L++M)):=w.add (s1.trans s2) λa ha=>(List.mem_append.mp ha).elim (λz=>let⟨o,h,m⟩:=rx.dom a z;⟨o,s2 a o h,m⟩) (ry.dom a);refine ho dx ds d e x ys H2 (W.add (L++M)) L M (rx.up u2) (ry.up u3) (fK nx ny hLM) (w.tmp λa ha=>(List.mem_append.mp ha).elim (fx a) λz=>s1.none' (fy a z)) w2 Q λv H3 L3 s3 r3 f3 n3=>?_;refine q v H3 L3 ((s1.trans s2).trans s3) ?_ (λa ha=>(f3 a ha).elim (λz=>?_) λz=>(s1.trans s2).none' z) n3
   .exact r3.up ⟨Same.refl _,λb u hb f=>⟨λz=>z.elim (λz=>f.1 (.inl z)) λz=>f.1 (.inr ⟨.inr z,WOk.new w (λa ha=>(List.mem_append.mp ha).elim (fx a) λz=>s1.none' (fy a z)) z⟩),f.2⟩,λ_ _ _ f=>f⟩
   .rcases List.mem_append.mp z with z|z
    .exact fx a z
    .exact s1.none' (fy a z)
variable{a b:Expr}{fa fb:En->Option D}{pos:Pos}
theorem bK{op:Operator}{g:D->D->Option D}(o:OpB X G (binaryOp op) g)(ha:PV X G ob a fa)(hb:PV X G ob b fb):PV X G ob (.BinOp a op b pos) (e2 g fa fb):=let⟨r,o1,o2⟩:=o.ex;let⟨t,a1,a2⟩:=ha.ex;let⟨u,b1,b2⟩:=hb.ex;⟨_,λc=>QC (o1 c) (a1 c) (b1 c),Cp o2 a2 b2⟩
theorem fU{op:CmpOp}{g:D->D->Option D}(o:OpB X G (compareOp op) g)(ha:PV X G ob a fa)(hb:PV X G ob b fb)(hm:behindInMarks op b=false:=by with_unfolding_all rfl):PV X G ob (.Compare a [op] [b] pos) (e2 g fa fb):=let⟨r,o1,o2⟩:=o.ex;let⟨t,a1,a2⟩:=ha.ex;let⟨u,b1,b2⟩:=hb.ex;⟨_,λc=>Fp (o1 c) (a1 c) (b1 c) hm,Cp o2 a2 b2⟩
theorem j_{op:UnaryOp}{g:D->Option D}(o:UnB X G (unaryOp op) g)(ha:PV X G ob a fa):PV X G ob (.UnaryOp op a pos) (e1 g fa):=let⟨r,o1,o2⟩:=o.ex;let⟨t,a1,a2⟩:=ha.ex;⟨_,λc=>Vl (o1 c) (a1 c),Uw o2 a2⟩
theorem eE{g:D->D->Option D}(o:IxB X G g)(ha:PV X G ob a fa)(hb:PV X G ob b fb)(hs:yZ b:=by exact λ_ _=>rfl):PV X G ob (.Subscript a b pos) (e2 g fa fb):=let⟨r,o1,o2⟩:=o.ex;let⟨t,a1,a2⟩:=ha.ex;let⟨u,b1,b2⟩:=hb.ex;⟨_,λc=>QH (o1 c) (a1 c) (b1 c) hs,Cp o2 a2 b2⟩
theorem ak:PVA X G ob [] aC:=⟨_,λc=>Ry,RM⟩
theorem aa{e:Expr}{es:List Expr}{f:En->Option D}{fr:En->Option (List D)}(ha:PV X G ob e f)(hr:PVA X G ob es fr)(hs:∀c,starEach (e::es) (X c).env=(false,eval e (X c).env)::starEach es (X c).env:=by intro _;rfl):PVA X G ob (e::es) (ao f fr):=let⟨t,a1,a2⟩:=ha.ex;let⟨u,b1,b2⟩:=hr.ex;⟨_,λc=>zA (a1 c) (b1 c) (hs c),Mm a2 b2⟩
section
variable{e:Expr}{es:List Expr}{f:En->Option (List D)}{p:Pos}{x:Str}
theorem aO{id:String}{g:List D->Option D}(o:CaB X G (.builtin id) g)(hg:∀c,Gl (X c) x)(hm:∀c,(X c).mg x=none)(hv:bootBuiltins x=some (.builtin id))(ha:PVA X G ob (e::es) f)(hn:x≠"__name__":=by decide)(hdb:(x==("__debug__":Str))=false:=by decide)(he:∀c,starEach (e::es) (X c).env=(false,eval e (X c).env)::starEach es (X c).env:=by intro _;rfl)(hpl:∀c,(backTo pos (starEach es (X c).env)).any (·.1)=false:=by intro _;rfl):PV X G ob (.Call (.Name x p) (e::es) [] pos) (eAp g f):=let⟨r,o1,o2⟩:=o.ex;let⟨t,a1,a2⟩:=ha.ex;⟨_,λc=>Al (o1 c) (hg c) (hm c) hv (a1 c) hn hdb (he c) (hpl c),yl o2 a2⟩
theorem dM{T:String}{g:List D->Option D}(o:CaB X G (.type T) g)(hg:∀c,Gl (X c) x)(hm:∀c,(X c).mg x=none)(hv:bootBuiltins x=some (.type T))(ha:PVA X G ob (e::es) f)(hn:x≠"__name__":=by decide)(hdb:(x==("__debug__":Str))=false:=by decide)(he:∀c,starEach (e::es) (X c).env=(false,eval e (X c).env)::starEach es (X c).env:=by intro _;rfl)(hpl:∀c,(backTo pos (starEach es (X c).env)).any (·.1)=false:=by intro _;rfl):PV X G ob (.Call (.Name x p) (e::es) [] pos) (eAp g f):=let⟨r,o1,o2⟩:=o.ex;let⟨t,a1,a2⟩:=ha.ex;⟨_,λc=>yI (o1 c) (hg c) (hm c) hv (a1 c) hn hdb (he c) (hpl c),yl o2 a2⟩
end
def bI(ds:List D):Option D:=if ds.length<=1000 then some (.tup ds)else none
def aU(ds:List D):Option D:=if ds.length<=1000 then some (.lst .own ds)else none
theorem A_{n:Nat}(h:n<=1000):n<=sizeLine:=Nat.le_trans h (by decide)
theorem Gf:CaV G (λxs H Q=>xs.length<=sizeLine/\∀p,H p=none->Q (.ref p) (upd H p (.tup xs))) bI:=λds d e xs H W L0 r nd hn w Q q=>by
 unfold bI at e;split at e
 .rename_i hl
  cases e;refine⟨A_ (by rw[←r.length];exact hl),λp hp=>?_⟩;have sm:Same H (upd H p (.tup xs)):=Same.new hp;refine q (.ref p) _ L0 sm ?_ (λa ha=>.inl ha) nd;rw[Rep];exact⟨p,xs,rfl,bJ,r.up ⟨sm,λb u hb f=>⟨λz=>z.elim (λz=>f.1 (hn b z).1) λz=>f.1 z.1,f.2⟩,λ_ _ _ f=>f⟩⟩
 .cases e
theorem Ff:CaV G (λxs H Q=>xs.length<=sizeLine/\∀p,H p=none->Q (.ref p) (upd H p (.lst xs))) aU:=λds d e xs H W L0 r nd hn w Q q=>by
 unfold aU at e;split at e
 .rename_i hl
  cases e;refine⟨A_ (by rw[←r.length];exact hl),λp hp=>?_⟩;have sm:Same H (upd H p (.lst xs)):=Same.new hp;refine q (.ref p) _ (p::L0) sm ?_ (λa ha=>(List.mem_cons.mp ha).elim (λz=>.inr (by rw[z];exact hp)) .inl) (List.nodup_cons.mpr ⟨λz=>?_,nd⟩)
  .rw[Rep]
   exact⟨p,xs,L0,rfl,r.up ⟨sm,λb u hb f=>⟨λz=>z.elim (λz=>(List.mem_cons.mp z).elim (λz=>by rw[z,hp]at hb;cases hb) λz=>f.1 (hn b z).1) λz=>f.1 z.1,f.2⟩,λ_ _ _ f=>f⟩,bJ,rfl⟩
  .obtain⟨o,ho,_⟩:=r.dom p z
   rw[hp]at ho;cases ho
 .cases e
theorem cT{es:List Expr}{k:Nat}{f:En->Option (List D)}(h:PVA X G ob es f):PV X G ob (.Tuple es k pos) (eAp bI f):=let⟨t,a1,a2⟩:=h.ex;⟨_,λc=>Jh (a1 c),yl Gf a2⟩
theorem bN{es:List Expr}{f:En->Option (List D)}(h:PVA X G ob es f):PV X G ob (.List es pos) (eAp aU f):=let⟨t,a1,a2⟩:=h.ex;⟨_,λc=>Kh (a1 c),yl Ff a2⟩
end
section
variable{G:Gc}{ob:Nat->Bool}{H H1 H2:Hp}{S S1 S2:Ad}{L M:List Addr}{ρ ρ1:En}{σ:L2.St}{Fr:Addr->Prop}
theorem Eff.refl:Eff ob H H S S []:=⟨λ_ _ h _=>h,λ_ _=>rfl,λi a h z=>.inl ⟨i,h,z⟩,by simp⟩
theorem Eff.back(e:Eff ob H H1 S S1 L){a:Addr}(h:H1 a=none):inO ob S a∨H a=none:=by
 by_cases z:inO ob S a
 .exact .inl z
 .refine .inr ?_
  cases q:H a with
  |none=>rfl
  |some u=>rw[e.kp a u q z]at h;cases h
theorem Eff.inO(e:Eff ob H H1 S S1 L){a:Addr}(h:inO ob S1 a):inO ob S a∨H a=none:=let⟨i,h1,h2⟩:=h;e.gr i a h1 h2
theorem Eff.notO(e:Eff ob H H1 S S1 L){a:Addr}{u:HO}(h:H a=some u)(n:¬Jb.inO ob S a):¬Jb.inO ob S1 a:=λz=>(e.inO z).elim n λz=>by rw[h]at z;cases z
theorem Eff.trans(a:Eff ob H H1 S S1 L)(b:Eff ob H1 H2 S1 S2 M):Eff ob H H2 S S2 (L++M)where
 kp:=λc u h n=>b.kp c u (a.kp c u h n) (a.notO h n)
 sn:=λi h=>(b.sn i h).trans (a.sn i h)
 gr:=λi c h z=>(b.gr i c h z).elim a.inO a.back
 fm:=λc hc=>(List.mem_append.mp hc).elim (a.fm c) λz=>(b.fm c z).elim a.inO a.back
theorem Eff.same(a:Eff ob H H1 S S1 L)(s:Same H1 H2)(h:∀c∈M,c∈L∨H1 c=none):Eff ob H H2 S S1 M where
 kp:=λc u hc n=>s c u (a.kp c u hc n)
 sn:=a.sn
 gr:=a.gr
 fm:=λc hc=>(h c hc).elim (a.fm c) a.back
theorem Sta.notO(s:Sta G H ob ρ σ S Fr){a:Addr}(h:Fr a):¬inO ob S a:=λ⟨i,_,z⟩=>s.fdj i a h z
theorem Sta.tmp(s:Sta G H ob ρ σ S Fr){a:Addr}(h:Fr a):(wn ob S Fr).tmp a:=⟨h,λ⟨i,_,z⟩=>s.fdj i a h z,λ⟨i,_,z⟩=>s.fdj i a h z⟩
theorem Eff.evo(s:Sta G H ob ρ σ S Fr)(e:Eff ob H H1 S S1 M):Evo H H1 (wn ob S Fr) (wn ob S1 (plus M Fr))where
 k:=λb u h f=>⟨e.kp b u h f.2.2,λz=>z.elim (λz=>(e.fm b z).elim f.2.2 λq=>by rw[h]at q;cases q) f.1,λ⟨i,h1,h2⟩=>f.2.1 ⟨i,h1,by rw[←e.sn i h1];exact h2⟩,e.notO h f.2.2⟩
 t:=λb xs h=>by
  have no:∀u,H b=some u->muO u=false->H1 b=some u:=λu hu m=>e.kp b u hu λ⟨i,_,z⟩=>by
   obtain⟨o,ho,hm⟩:=s.mu z;rw[hu]at ho;cases ho;rw[m]at hm;cases hm
  exact no _ h rfl
theorem Eff.evoN(s:Sta G H ob ρ σ S Fr)(e:Eff ob H H1 S S1 M):J_ H H1 (wn ob S Fr) (wn ob S1 (plus M Fr)):=λb u h ⟨i,h1,h2⟩=>
 ⟨e.kp b u h (λ⟨j,q1,q2⟩=>by rw[s.dj i j b h2 q2,q1]at h1;cases h1),⟨i,h1,by rw[e.sn i h1];exact h2⟩⟩
theorem Eff.keepsF(s:Sta G H ob ρ σ S Fr)(e:Eff ob H H1 S S1 M){a:Addr}(h:Fr a):∀u,H a=some u->H1 a=some u:=λu hu=>e.kp a u hu (s.notO h)
theorem jP{L M:List Addr}:plus M (plus L Fr)=plus (L++M) Fr:=by
 funext a;simp only[plus,List.mem_append,eq_iff_iff];constructor
 .rintro(z|z|z)
  .exact .inl (.inr z)
  .exact .inl (.inl z)
  .exact .inr z
 .rintro((z|z)|z)
  .exact .inr (.inl z)
  .exact .inl z
  .exact .inr (.inr z)
theorem JT{L3:List Addr}{d:D}{v:V}(s:Sta G H1 ob ρ1 σ S1 (plus L Fr))(e:Eff ob H H1 S S1 L)(sm:Same H1 H2)(r:Rep G H2 (((wn ob S1 (plus L Fr)).drop L).add L3) d v L3)(f:∀a∈L3,a∈L∨H1 a=none)(s0:Sta G H ob ρ σ S Fr) :
  Sta G H2 ob ρ1 σ S1 (plus L3 Fr)/\Rep G H2 (wn ob S1 (plus L3 Fr)) d v L3/\Eff ob H H2 S S1 L3:=by
 refine⟨s.grow sm λa h=>?_,r.up ⟨Same.refl _,λb u hb q=>⟨λz=>?_,q.2⟩,λ_ _ _ q=>q⟩,e.same sm f⟩
 .rcases h with h|h
  .exact(f a h).imp .inl λz=>⟨z,r.dom a h⟩
  .exact .inl (.inr h)
 .rcases z with z|z
  .exact q.1 (.inl z)
  .refine q.1 (.inr ⟨.inr z,λh=>?_⟩)
   rcases e.fm b h with y|y
   .exact s0.notO z y
   .obtain⟨o,ho,_⟩:=s0.fdm b z
    rw[y]at ho;cases ho
end
section
variable{ι:Type}{X:ι->Cx}{G:Gc}{ob:Nat->Bool}{ta tb:TE}
def eUp(f:En->Option D):En->Option (D×En):=λρ=>(f ρ).map λd=>(d,ρ)
theorem CP{f:En->Option D}(h:RfE G ob ta f):kh G ob ta (eUp f):=λρ d ρ' e σ H S Fr s Q q=>by
 unfold eUp at e;cases h1:f ρ with
 |none=>rw[h1]at e;cases e
 |some d0=>
  rw[h1]at e;cases e;refine h ρ d h1 σ H _ s.rel s.wok Q λv H' L sm r fr nd=>?_;exact q v H' L S (s.grow sm λa z=>z.elim (λz=>.inr ⟨fr a z,r.dom a z⟩) .inl) r nd ⟨λb u hb _=>sm b u hb,λ_ _=>rfl,λi a h z=>.inl ⟨i,h,z⟩,λa ha=>.inr (fr a ha)⟩
def yX(f:En->Option Bool):En->Option (Bool×En):=λρ=>(f ρ).map λd=>(d,ρ)
theorem Jc{t:TT}{f:En->Option Bool}(h:RfT G ob t f):pM G ob t (yX f):=λρ d ρ' e σ H S Fr s Q q=>by
 unfold yX at e;cases h1:f ρ with
 |none=>rw[h1]at e;cases e
 |some d0=>
  rw[h1]at e;cases e;refine h ρ d h1 σ H _ s.rel s.wok Q λH' sm=>?_;exact q H' S (s.grow sm λa z=>.inl z) ⟨λb u hb _=>sm b u hb,λ_ _=>rfl,λi a h z=>.inl ⟨i,h,z⟩,by simp⟩
def bT(f:En->Option (List D)):En->Option (List D×En):=λρ=>(f ρ).map λd=>(d,ρ)
theorem K6{t:TA}{f:En->Option (List D)}(h:RfA G ob t f):BP G ob t (bT f):=λρ d ρ' e σ H S Fr s Q q=>by
 unfold bT at e;cases h1:f ρ with
 |none=>rw[h1]at e;cases e
 |some d0=>
  rw[h1]at e;cases e;refine h ρ d h1 σ H _ s.rel s.wok Q λv H' L sm r fr nd=>?_;exact q v H' L S (s.grow sm λa z=>z.elim (λz=>.inr ⟨fr a z,r.dom a z⟩) .inl) r nd ⟨λb u hb _=>sm b u hb,λ_ _=>rfl,λi a h z=>.inl ⟨i,h,z⟩,λa ha=>.inr (fr a ha)⟩
theorem bO{e:Expr}{f:En->Option D}(h:PV X G ob e f):PVe X G ob e (eUp f):=let⟨t,a1,a2⟩:=h.ex;⟨t,a1,CP a2⟩
theorem zb{e:Expr}{f:En->Option Bool}(h:PVT X G ob e f):vh X G ob e (yX f):=let⟨t,a1,a2⟩:=h.ex;⟨t,a1,Jc a2⟩
theorem aN{e:List Expr}{f:En->Option (List D)}(h:PVA X G ob e f):w6 X G ob e (bT f):=let⟨t,a1,a2⟩:=h.ex;⟨t,a1,K6 a2⟩
theorem kh.two{fa fb:En->Option (D×En)}(ha:kh G ob ta fa)(hb:kh G ob tb fb){ρ ρ1 ρ2:En}{dx dy:D}(e1:fa ρ=some (dx,ρ1))(e2:fb ρ1=some (dy,ρ2))(hx:aD dx=true){σ:L2.St}{H:Hp}{S:Ad}{Fr:Addr->Prop}(s:Sta G H ob ρ σ S Fr){R:V->V->Hp->Prop}
  (h:∀x y H' L M S',Sta G H' ob ρ2 σ S' (plus (L++M) Fr)->Rep G H' (wn ob S' (plus (L++M) Fr)) dx x L->Rep G H' (wn ob S' (plus (L++M) Fr)) dy y M->(L++M).Nodup->Eff ob H H' S S' (L++M)->R x y H'):ta σ H λx H1=>tb σ H1 λy H2=>R x y H2:=by
 refine ha ρ dx ρ1 e1 σ H S Fr s _ λx H1 L S1 s1 rx nx f1=>?_;refine hb ρ1 dy ρ2 e2 σ H1 S1 (plus L Fr) s1 _ λy H2 M S2 s2 ry ny f2=>?_;have rx2:=rx.mono (f2.evo s1) (.inr (f2.evoN s1)) (.inl hx) λc hc u hu=>f2.keepsF s1 (.inl hc) u hu;rw[jP]at s2 ry rx2;refine h x y H2 L M S2 s2 rx2 ry (fK nx ny λa h1 h2=>?_) (f1.trans f2);rcases f2.fm a h2 with z|z
 .exact s1.notO (.inl h1) z
 .obtain⟨o,ho,_⟩:=rx.dom a h1
  rw[z]at ho;cases ho
def ee2(g:D->D->Option D)(fa fb:En->Option (D×En)):En->Option (D×En):=λρ=>(fa ρ).bind λp=>(fb p.2).bind λq=>if aD p.1 then(g p.1 q.1).map λd=>(d,q.2)else none
theorem zc{r:R2}{g:D->D->Option D}{fa fb:En->Option (D×En)}(ho:OpV G r g)(ha:kh G ob ta fa)(hb:kh G ob tb fb):kh G ob (tOp r ta tb) (ee2 g fa fb):=λρ d ρ' e σ H S Fr s Q q=>by
 unfold ee2 at e;cases h1:fa ρ with
 |none=>simp[h1]at e
 |some p=>
  obtain⟨dx,ρ1⟩:=p;cases h2:fb ρ1 with
  |none=>simp[h1,h2]at e
  |some p=>
   obtain⟨dy,ρ2⟩:=p;cases hx:aD dx with
   |false=>simp[h1,h2,hx]at e
   |true=>
    cases h3:g dx dy with
    |none=>simp[h1,h2,hx,h3]at e
    |some d'=>
     obtain⟨rfl,rfl⟩:d'=d/\ρ2=ρ':=by simpa[h1,h2,hx,h3]using e
     refine kh.two ha hb h1 h2 hx s λx y H' L M S' s' rx ry nd ef=>?_;refine ho dx dy _ h3 x y H' _ L M rx ry nd (λa ha=>s'.tmp (.inl ha)) s'.wok Q λv H3 L3 s3 r3 f3 n3=>?_;obtain⟨q1,q2,q3⟩:=JT s' ef s3 r3 f3 s;exact q v H3 L3 S' q1 q2 n3 q3
def ee1(g:D->Option D)(fa:En->Option (D×En)):En->Option (D×En):=λρ=>(fa ρ).bind λp=>(g p.1).map λd=>(d,p.2)
def bW(fa:En->Option (D×En))(fr:En->Option (List D×En)):En->Option (List D×En):=λρ=>(fa ρ).bind λp=>(fr p.2).bind λq=>if aD p.1 then some (p.1::q.1,q.2)else none
theorem Kf{t:TA}{fa:En->Option (D×En)}{fr:En->Option (List D×En)}(ha:kh G ob ta fa)(hr:BP G ob t fr):BP G ob (Kc ta t) (bW fa fr):=λρ ds ρ' e σ H S Fr s Q q=>by
 unfold bW at e;cases h1:fa ρ with
 |none=>simp[h1]at e
 |some p=>
  obtain⟨dx,ρ1⟩:=p;cases h2:fr ρ1 with
  |none=>simp[h1,h2]at e
  |some p=>
   obtain⟨es,ρ2⟩:=p;cases hx:aD dx with
   |false=>simp[h1,h2,hx]at e
   |true=>
    obtain⟨rfl,rfl⟩:dx::es=ds/\ρ2=ρ':=by simpa[h1,h2,hx]using e
    refine ha ρ dx ρ1 h1 σ H S Fr s _ λx H1 L S1 s1 rx nx f1=>?_;refine hr ρ1 es _ h2 σ H1 S1 (plus L Fr) s1 _ λys H2 M S2 s2 ry ny f2=>?_;have rx2:=rx.mono (f2.evo s1) (.inr (f2.evoN s1)) (.inl hx) λc hc u hu=>f2.keepsF s1 (.inl hc) u hu;rw[jP]at s2 ry rx2;refine q (x::ys) H2 (L++M) S2 s2 (.cons rx2 ry) (fK nx ny λa h1 h2=>?_) (f1.trans f2);rcases f2.fm a h2 with z|z
    .exact s1.notO (.inl h1) z
    .obtain⟨o,ho,_⟩:=rx.dom a h1
     rw[z]at ho;cases ho
def lF(g:List D->Option D)(f:En->Option (List D×En)):En->Option (D×En):=λρ=>(f ρ).bind λp=>(g p.1).map λd=>(d,p.2)
theorem zJ{r:List V->Hp->VK->Prop}{g:List D->Option D}{t:TA}{f:En->Option (List D×En)}(ho:CaV G r g)(h:BP G ob t f):kh G ob (λσ H Q=>t σ H λvs H1=>r vs H1 Q) (lF g f):=λρ d ρ' e σ H S Fr s Q q=>by
 unfold lF at e;cases h1:f ρ with
 |none=>simp[h1]at e
 |some p=>
  obtain⟨ds,ρ1⟩:=p;cases h3:g ds with
  |none=>simp[h1,h3]at e
  |some d'=>
   obtain⟨rfl,rfl⟩:d'=d/\ρ1=ρ':=by simpa[h1,h3]using e
   refine h ρ ds _ h1 σ H S Fr s _ λxs H' L S' s' rx nd ef=>?_;refine ho ds _ h3 xs H' _ L rx nd (λa ha=>s'.tmp (.inl ha)) s'.wok Q λv H3 L3 s3 r3 f3 n3=>?_;obtain⟨q1,q2,q3⟩:=JT s' ef s3 r3 f3 s;exact q v H3 L3 S' q1 q2 n3 q3
variable{a b:Expr}{fa fb:En->Option (D×En)}{pos:Pos}
theorem j7{op:Operator}{g:D->D->Option D}(o:OpB X G (binaryOp op) g)(ha:PVe X G ob a fa)(hb:PVe X G ob b fb):PVe X G ob (.BinOp a op b pos) (ee2 g fa fb):=let⟨r,o1,o2⟩:=o.ex;let⟨t,a1,a2⟩:=ha.ex;let⟨u,b1,b2⟩:=hb.ex;⟨_,λc=>QC (o1 c) (a1 c) (b1 c),zc o2 a2 b2⟩
theorem pve_cmp{op:CmpOp}{g:D->D->Option D}(o:OpB X G (compareOp op) g)(ha:PVe X G ob a fa)(hb:PVe X G ob b fb)(hm:behindInMarks op b=false:=by with_unfolding_all rfl):PVe X G ob (.Compare a [op] [b] pos) (ee2 g fa fb):=let⟨r,o1,o2⟩:=o.ex;let⟨t,a1,a2⟩:=ha.ex;let⟨u,b1,b2⟩:=hb.ex;⟨_,λc=>Fp (o1 c) (a1 c) (b1 c) hm,zc o2 a2 b2⟩
theorem fZ{g:D->D->Option D}(o:IxB X G g)(ha:PVe X G ob a fa)(hb:PVe X G ob b fb)(hs:yZ b:=by exact λ_ _=>rfl):PVe X G ob (.Subscript a b pos) (ee2 g fa fb):=let⟨r,o1,o2⟩:=o.ex;let⟨t,a1,a2⟩:=ha.ex;let⟨u,b1,b2⟩:=hb.ex;⟨_,λc=>QH (o1 c) (a1 c) (b1 c) hs,zc o2 a2 b2⟩
theorem aZ{e:Expr}{es:List Expr}{f:En->Option (D×En)}{fr:En->Option (List D×En)}(ha:PVe X G ob e f)(hr:w6 X G ob es fr)(hs:∀c,starEach (e::es) (X c).env=(false,eval e (X c).env)::starEach es (X c).env:=by intro _;rfl):w6 X G ob (e::es) (bW f fr):=let⟨t,a1,a2⟩:=ha.ex;let⟨u,b1,b2⟩:=hr.ex;⟨_,λc=>zA (a1 c) (b1 c) (hs c),Kf a2 b2⟩
section
variable{e:Expr}{es:List Expr}{f:En->Option (List D×En)}{p:Pos}{x:Str}
theorem Hw{id:String}{g:List D->Option D}(o:CaB X G (.builtin id) g)(hg:∀c,Gl (X c) x)(hm:∀c,(X c).mg x=none)(hv:bootBuiltins x=some (.builtin id))(ha:w6 X G ob (e::es) f)(hn:x≠"__name__":=by decide)(hdb:(x==("__debug__":Str))=false:=by decide)(he:∀c,starEach (e::es) (X c).env=(false,eval e (X c).env)::starEach es (X c).env:=by intro _;rfl)(hpl:∀c,(backTo pos (starEach es (X c).env)).any (·.1)=false:=by intro _;rfl):PVe X G ob (.Call (.Name x p) (e::es) [] pos) (lF g f):=let⟨r,o1,o2⟩:=o.ex;let⟨t,a1,a2⟩:=ha.ex;⟨_,λc=>Al (o1 c) (hg c) (hm c) hv (a1 c) hn hdb (he c) (hpl c),zJ o2 a2⟩
theorem wH{T:String}{g:List D->Option D}(o:CaB X G (.type T) g)(hg:∀c,Gl (X c) x)(hm:∀c,(X c).mg x=none)(hv:bootBuiltins x=some (.type T))(ha:w6 X G ob (e::es) f)(hn:x≠"__name__":=by decide)(hdb:(x==("__debug__":Str))=false:=by decide)(he:∀c,starEach (e::es) (X c).env=(false,eval e (X c).env)::starEach es (X c).env:=by intro _;rfl)(hpl:∀c,(backTo pos (starEach es (X c).env)).any (·.1)=false:=by intro _;rfl):PVe X G ob (.Call (.Name x p) (e::es) [] pos) (lF g f):=let⟨r,o1,o2⟩:=o.ex;let⟨t,a1,a2⟩:=ha.ex;⟨_,λc=>yI (o1 c) (hg c) (hm c) hv (a1 c) hn hdb (he c) (hpl c),zJ o2 a2⟩
end
theorem zQ{es:List Expr}{k:Nat}{f:En->Option (List D×En)}(h:w6 X G ob es f):PVe X G ob (.Tuple es k pos) (lF bI f):=let⟨t,a1,a2⟩:=h.ex;⟨_,λc=>Jh (a1 c),zJ Gf a2⟩
theorem qG{es:List Expr}{f:En->Option (List D×En)}(h:w6 X G ob es f):PVe X G ob (.List es pos) (lF aU f):=let⟨t,a1,a2⟩:=h.ex;⟨_,λc=>Kh (a1 c),zJ Ff a2⟩
end
def truth:D->Option Bool
 |.non=>some false
 |.bl b=>some b
 |.int i=>some (i !=0)
 |.str y=>if y.length<=sizeLine then some ((y.length:Int)!=0)else none
 |.lst _ ds=>some (!ds.isEmpty)
 |.tup ds=>some (!ds.isEmpty)
 |.dct m _ ds=>if m= .scr then none else some (!ds.isEmpty)
 |_=>none
theorem sJ{G:Gc}{H:Hp}{W:Wn}{ds:List D}{xs:List V}{L:List Addr}(r:aK G H W ds xs L):ds.isEmpty=xs.isEmpty:=by
 have:=r.length;cases ds<;>cases xs<;>simp_all
theorem Bk{G:Gc}{H:Hp}{W:Wn}{d:D}{v:V}{L:List Addr}{k:Bool}(r:Rep G H W d v L)(h:truth d=some k):Ik G.K v H k:=by
 cases d with
 |non=>rw[Rep]at r;obtain⟨rfl,_⟩:=r;cases h;rfl
 |bl b=>rw[Rep]at r;obtain⟨rfl,_⟩:=r;cases h;rfl
 |int i=>rw[Rep]at r;obtain⟨rfl,_⟩:=r;cases h;rfl
 |str y=>
  rw[Rep]at r;obtain⟨rfl,_⟩:=r;simp only[truth]at h;split at h
  .cases h;exact⟨‹_›,rfl⟩
  .cases h
 |ty n=>cases h
 |tup ds=>
  rw[Rep]at r;obtain⟨a,xs,rfl,ht,hr⟩:=r;cases h;exact .inr (.inl ⟨xs,SqT.of ht,by rw[sJ hr]⟩)
 |lst m ds=>
  rw[Rep]at r;obtain⟨a,xs,M,rfl,hr,hs⟩:=r;cases h;exact .inl ⟨xs,hs.sq,by rw[sJ hr]⟩
 |dct m ks ds=>
  rw[Rep]at r;obtain⟨a,kvs,M,rfl,hk,hr,hs⟩:=r;simp only[truth]at h;split at h
  .cases h
  .cases h
   refine .inr (.inr ⟨kvs,hs.at ‹_›,?_⟩);rw[sJ hr];cases kvs<;>rfl
 |ins m c fs ds=>cases h
section
variable{ι:Type}{X:ι->Cx}{G:Gc}{ob:Nat->Bool}{a b:Expr}{pos:Pos}
def nU(f:En->Option D):En->Option Bool:=λρ=>(f ρ).bind truth
def yz(f:En->Option (D×En)):En->Option (Bool×En):=λρ=>(f ρ).bind λp=>(truth p.1).map λb=>(b,p.2)
theorem R5{ta:TE}{f:En->Option D}(h:RfE G ob ta f):RfT G ob (λσ H Q=>ta σ H λx H'=>∃k,Ik G.K x H' k/\Q k H') (nU f):=λρ k e σ H W rl w Q q=>by
 unfold nU at e;cases h1:f ρ with
 |none=>simp[h1]at e
 |some d=>
  have e:truth d=some k:=by simpa[h1]using e
  exact h ρ d h1 σ H W rl w _ λx H' L s r fr nd=>⟨k,Bk r e,q H' s⟩
theorem Nr{ta:TE}{f:En->Option (D×En)}(h:kh G ob ta f):pM G ob (λσ H Q=>ta σ H λx H'=>∃k,Ik G.K x H' k/\Q k H') (yz f):=λρ k ρ' e σ H S Fr s Q q=>by
 unfold yz at e;cases h1:f ρ with
 |none=>simp[h1]at e
 |some p=>
  obtain⟨d,ρ1⟩:=p;cases h2:truth d with
  |none=>simp[h1,h2]at e
  |some k'=>
   obtain⟨rfl,rfl⟩:k'=k/\ρ1=ρ':=by simpa[h1,h2]using e
   exact h ρ d _ h1 σ H S Fr s _ λx H' M S' s' r nd ef=>⟨_,Bk r h2,q H' S' (s'.lessF λa z=>.inr z) (ef.same (Same.refl _) (by simp))⟩
theorem g_{f:En->Option D}(h:PV X G ob a f)(he:∀c,∀whole,isTrue a (X c).env whole=(do let v ←whole;standAt a.pos;holding [v] (truthy v)):=by intro _;intro _;rfl)(hK:∀c,(X c).K=G.K:=by intro _;rfl):PVT X G ob a (nU f):=let⟨t,a1,a2⟩:=h.ex;⟨_,λc=>(by have h:=Cg (a1 c) (he c);rw[hK c]at h;exact h),R5 a2⟩
theorem Bj{f:En->Option (D×En)}(h:PVe X G ob a f)(he:∀c,∀whole,isTrue a (X c).env whole=(do let v ←whole;standAt a.pos;holding [v] (truthy v)):=by intro _;intro _;rfl)(hK:∀c,(X c).K=G.K:=by intro _;rfl):vh X G ob a (yz f):=let⟨t,a1,a2⟩:=h.ex;⟨_,λc=>(by have h:=Cg (a1 c) (he c);rw[hK c]at h;exact h),Nr a2⟩
def isB:D->Option Bool
 |.bl b=>some b
 |_=>none
def eB(f:En->Option D):En->Option Bool:=λρ=>(f ρ).bind isB
def eeB(f:En->Option (D×En)):En->Option (Bool×En):=λρ=>(f ρ).bind λp=>(isB p.1).map λb=>(b,p.2)
theorem qJ{d:D}{k:Bool}(h:isB d=some k):d= .bl k:=by
 cases d<;>simp[isB]at h;rw[h]
theorem UL{ta:TE}{f:En->Option D}(h:RfE G ob ta f):RfT G ob (FN ta) (eB f):=λρ k e σ H W rl w Q q=>by
 unfold eB at e;cases h1:f ρ with
 |none=>simp[h1]at e
 |some d=>
  have e:isB d=some k:=by simpa[h1]using e
  have:=qJ e;subst this;refine h ρ _ h1 σ H W rl w _ λx H' L s r fr nd=>⟨k,?_,q H' s⟩;rw[Rep]at r;exact r.1
theorem Vf{ta:TE}{f:En->Option (D×En)}(h:kh G ob ta f):pM G ob (FN ta) (eeB f):=λρ k ρ' e σ H S Fr s Q q=>by
 unfold eeB at e;cases h1:f ρ with
 |none=>simp[h1]at e
 |some p=>
  obtain⟨d,ρ1⟩:=p;cases h2:isB d with
  |none=>simp[h1,h2]at e
  |some k'=>
   obtain⟨rfl,rfl⟩:k'=k/\ρ1=ρ':=by simpa[h1,h2]using e
   have:=qJ h2;subst this;refine h ρ _ _ h1 σ H S Fr s _ λx H' M S' s' r nd ef=>⟨k',?_,q H' S' (s'.lessF λa z=>.inr z) (ef.same (Same.refl _) (by simp))⟩;rw[Rep]at r;exact r.1
theorem bj{fa fb:En->Option D}{op:CmpOp}{g:D->D->Option D}(o:OpB X G (compareOp op) g)(ha:PV X G ob a fa)(hb:PV X G ob b fb)(hm:behindInMarks op b=false:=by with_unfolding_all rfl):PVT X G ob (.Compare a [op] [b] pos) (eB (e2 g fa fb)):=let⟨r,o1,o2⟩:=o.ex;let⟨t,a1,a2⟩:=ha.ex;let⟨u,b1,b2⟩:=hb.ex;⟨_,λc=>Fx (o1 c) (a1 c) (b1 c) hm,UL (Cp o2 a2 b2)⟩
theorem qR{fa fb:En->Option (D×En)}{op:CmpOp}{g:D->D->Option D}(o:OpB X G (compareOp op) g)(ha:PVe X G ob a fa)(hb:PVe X G ob b fb)(hm:behindInMarks op b=false:=by with_unfolding_all rfl):vh X G ob (.Compare a [op] [b] pos) (eeB (ee2 g fa fb)):=let⟨r,o1,o2⟩:=o.ex;let⟨t,a1,a2⟩:=ha.ex;let⟨u,b1,b2⟩:=hb.ex;⟨_,λc=>Fx (o1 c) (a1 c) (b1 c) hm,Vf (zc o2 a2 b2)⟩
def uV(f g:En->Option Bool):En->Option Bool:=λρ=>(f ρ).bind λc=>if c then g ρ else some false
def eOr(f g:En->Option Bool):En->Option Bool:=λρ=>(f ρ).bind λc=>if c then some true else g ρ
def tu(f:En->Option Bool):En->Option Bool:=λρ=>(f ρ).map λc=>!c
def xR(f g:En->Option (Bool×En)):En->Option (Bool×En):=λρ=>(f ρ).bind λp=>if p.1 then g p.2 else some (false,p.2)
def Ks(f g:En->Option (Bool×En)):En->Option (Bool×En):=λρ=>(f ρ).bind λp=>if p.1 then some (true,p.2)else g p.2
def xJ(f:En->Option (Bool×En)):En->Option (Bool×En):=λρ=>(f ρ).map λp=>(!p.1,p.2)
theorem Sy{t u:TT}{f g:En->Option Bool}(h:RfT G ob t f)(h':RfT G ob u g):RfT G ob (Te t u) (uV f g):=λρ k e σ H W rl w Q q=>by
 unfold uV at e;cases h1:f ρ with
 |none=>simp[h1]at e
 |some c=>
  refine h ρ c h1 σ H W rl w _ λH1 s1=>?_;cases c with
  |false=>
   have:false=k:=by simpa[h1]using e
   subst this;exact uZ (q H1 s1)
  |true=>
   have e:g ρ=some k:=by simpa[h1]using e
   exact pL (h' ρ k e σ H1 W (rl.up (Up.same s1)) (λa ha=>let⟨o,z,m⟩:=w a ha;⟨o,s1 a o z,m⟩) Q λH2 s2=>q H2 (s1.trans s2))
theorem Uc{t u:TT}{f g:En->Option Bool}(h:RfT G ob t f)(h':RfT G ob u g):RfT G ob (tOr t u) (eOr f g):=λρ k e σ H W rl w Q q=>by
 unfold eOr at e;cases h1:f ρ with
 |none=>simp[h1]at e
 |some c=>
  refine h ρ c h1 σ H W rl w _ λH1 s1=>?_;cases c with
  |true=>
   have:true=k:=by simpa[h1]using e
   subst this;exact pL (q H1 s1)
  |false=>
   have e:g ρ=some k:=by simpa[h1]using e
   exact uZ (h' ρ k e σ H1 W (rl.up (Up.same s1)) (λa ha=>let⟨o,z,m⟩:=w a ha;⟨o,s1 a o z,m⟩) Q λH2 s2=>q H2 (s1.trans s2))
theorem QS{t:TT}{f:En->Option Bool}(h:RfT G ob t f):RfT G ob (Rm t) (tu f):=λρ k e σ H W rl w Q q=>by
 unfold tu at e;cases h1:f ρ with
 |none=>simp[h1]at e
 |some c=>
  have:(!c)=k:=by simpa[h1]using e
  subst this;exact h ρ c h1 σ H W rl w _ λH1 s1=>q H1 s1
theorem Ph{t u:TT}{f g:En->Option (Bool×En)}(h:pM G ob t f)(h':pM G ob u g):pM G ob (Te t u) (xR f g):=λρ k ρ' e σ H S Fr s Q q=>by
 unfold xR at e;cases h1:f ρ with
 |none=>simp[h1]at e
 |some p=>
  obtain⟨c,ρ1⟩:=p;refine h ρ c ρ1 h1 σ H S Fr s _ λH1 S1 s1 f1=>?_;cases c with
  |false=>
   obtain⟨rfl,rfl⟩:false=k/\ρ1=ρ':=by simpa[h1]using e
   exact uZ (q H1 S1 s1 f1)
  |true=>
   have e:g ρ1=some (k,ρ'):=by simpa[h1]using e
   exact pL (h' ρ1 k ρ' e σ H1 S1 Fr s1 Q λH2 S2 s2 f2=>q H2 S2 s2 (f1.trans f2))
theorem Rg{t u:TT}{f g:En->Option (Bool×En)}(h:pM G ob t f)(h':pM G ob u g):pM G ob (tOr t u) (Ks f g):=λρ k ρ' e σ H S Fr s Q q=>by
 unfold Ks at e;cases h1:f ρ with
 |none=>simp[h1]at e
 |some p=>
  obtain⟨c,ρ1⟩:=p;refine h ρ c ρ1 h1 σ H S Fr s _ λH1 S1 s1 f1=>?_;cases c with
  |true=>
   obtain⟨rfl,rfl⟩:true=k/\ρ1=ρ':=by simpa[h1]using e
   exact pL (q H1 S1 s1 f1)
  |false=>
   have e:g ρ1=some (k,ρ'):=by simpa[h1]using e
   exact uZ (h' ρ1 k ρ' e σ H1 S1 Fr s1 Q λH2 S2 s2 f2=>q H2 S2 s2 (f1.trans f2))
theorem Oo{t:TT}{f:En->Option (Bool×En)}(h:pM G ob t f):pM G ob (Rm t) (xJ f):=λρ k ρ' e σ H S Fr s Q q=>by
 unfold xJ at e;cases h1:f ρ with
 |none=>simp[h1]at e
 |some p=>
  obtain⟨c,ρ1⟩:=p;obtain⟨rfl,rfl⟩:(!c)=k/\ρ1=ρ':=by simpa[h1]using e
  exact h ρ c ρ1 h1 σ H S Fr s _ λH1 S1 s1 f1=>q H1 S1 s1 f1
variable{rest:List Expr}{fa fb:En->Option Bool}{ga gb:En->Option (Bool×En)}
theorem qP(ha:PVT X G ob a fa)(hb:PVW X G ob (.BoolOp .And (b::rest) pos) fb):PVW X G ob (.BoolOp .And (a::b::rest) pos) (uV fa fb):=let⟨t,a1,a2⟩:=ha.ex;let⟨u,b1,b2⟩:=hb.ex;⟨_,λc=>Iw (a1 c) (b1 c),Sy a2 b2⟩
theorem sH(ha:PVT X G ob a fa)(hb:PVW X G ob (.BoolOp .Or (b::rest) pos) fb):PVW X G ob (.BoolOp .Or (a::b::rest) pos) (eOr fa fb):=let⟨t,a1,a2⟩:=ha.ex;let⟨u,b1,b2⟩:=hb.ex;⟨_,λc=>Qg (a1 c) (b1 c),Uc a2 b2⟩
theorem rz(ha:PVT X G ob a fa):PVW X G ob (.BoolOp .And [a] pos) fa:=let⟨t,a1,a2⟩:=ha.ex;⟨_,λc=>Ez (a1 c),a2⟩
theorem rN(ha:PVT X G ob a fa):PVW X G ob (.BoolOp .Or [a] pos) fa:=let⟨t,a1,a2⟩:=ha.ex;⟨_,λc=>IW (a1 c),a2⟩
theorem rW(h:PVW X G ob a fa):PVT X G ob a fa:=let⟨t,a1,a2⟩:=h.ex;⟨_,λc=>PW.pt (a1 c),a2⟩
theorem jM(ha:PVT X G ob a fa):PVT X G ob (.UnaryOp .Not a pos) (tu fa):=let⟨t,a1,a2⟩:=ha.ex;⟨_,λc=>Ir (a1 c),QS a2⟩
theorem Cd(ha:vh X G ob a ga)(hb:Du X G ob (.BoolOp .And (b::rest) pos) gb):Du X G ob (.BoolOp .And (a::b::rest) pos) (xR ga gb):=let⟨t,a1,a2⟩:=ha.ex;let⟨u,b1,b2⟩:=hb.ex;⟨_,λc=>Iw (a1 c) (b1 c),Ph a2 b2⟩
theorem Oj(ha:vh X G ob a ga)(hb:Du X G ob (.BoolOp .Or (b::rest) pos) gb):Du X G ob (.BoolOp .Or (a::b::rest) pos) (Ks ga gb):=let⟨t,a1,a2⟩:=ha.ex;let⟨u,b1,b2⟩:=hb.ex;⟨_,λc=>Qg (a1 c) (b1 c),Rg a2 b2⟩
theorem yM(ha:vh X G ob a ga):Du X G ob (.BoolOp .And [a] pos) ga:=let⟨t,a1,a2⟩:=ha.ex;⟨_,λc=>Ez (a1 c),a2⟩
theorem Mh(ha:vh X G ob a ga):Du X G ob (.BoolOp .Or [a] pos) ga:=let⟨t,a1,a2⟩:=ha.ex;⟨_,λc=>IW (a1 c),a2⟩
theorem DX(h:Du X G ob a ga):vh X G ob a ga:=let⟨t,a1,a2⟩:=h.ex;⟨_,λc=>PW.pt (a1 c),a2⟩
theorem Aj(ha:vh X G ob a ga):vh X G ob (.UnaryOp .Not a pos) (xJ ga):=let⟨t,a1,a2⟩:=ha.ex;⟨_,λc=>Ir (a1 c),Oo a2⟩
def jJ(f g:En->Option D):En->Option D:=λρ=>(f ρ).bind λx=>(isB x).bind λc=>if c then g ρ else some (.bl false)
def vOr(f g:En->Option D):En->Option D:=λρ=>(f ρ).bind λx=>(isB x).bind λc=>if c then some (.bl true)else g ρ
def z_(x:D):Option D:=(isB x).map λc=>.bl !c
def Jj(c:En->Option Bool)(f g:En->Option D):En->Option D:=λρ=>(c ρ).bind λb=>if b then f ρ else g ρ
def T6(c:En->Option (Bool×En))(f g:En->Option (D×En)):En->Option (D×En):=λρ=>(c ρ).bind λp=>if p.1 then f p.2 else g p.2
theorem WOk.up{H H':Hp}{W:Wn}(w:WOk H W)(s:Same H H'):WOk H' W:=λa ha=>let⟨o,z,m⟩:=w a ha;⟨o,s a o z,m⟩
theorem Ij{G:Gc}{H:Hp}{W:Wn}{b:Bool}:Rep G H W (.bl b) (.bl b) []:=by rw[Rep];exact⟨rfl,rfl⟩
theorem Oz{ta tb:TE}{f g:En->Option D}(h:RfE G ob ta f)(h':RfE G ob tb g):RfE G ob (QL ta tb) (jJ f g):=λρ d e σ H W rl w Q q=>by
 unfold jJ at e;cases h1:f ρ with
 |none=>simp[h1]at e
 |some x=>
  cases h2:isB x with
  |none=>simp[h1,h2]at e
  |some c=>
   have:=qJ h2;subst this;refine h ρ _ h1 σ H W rl w _ λv H1 L s1 r fr nd=>?_;rw[Rep]at r;refine⟨c,r.1,?_⟩;cases c with
   |false=>
    have:D.bl false=d:=by simpa[h1,isB]using e
    subst this;exact uZ (q _ H1 [] s1 Ij (by simp) List.nodup_nil)
   |true=>
    have e:g ρ=some d:=by simpa[h1,isB]using e
    exact pL (h' ρ d e σ H1 W (rl.up (Up.same s1)) (w.up s1) Q λv H2 L s2 r fr nd=>q v H2 L (s1.trans s2) r (λa ha=>s1.none' (fr a ha)) nd)
theorem Pz{ta:TE}{f:En->Option D}(h:RfE G ob ta f):RfE G ob (Qc ta) (e1 z_ f):=λρ d e σ H W rl w Q q=>by
 unfold e1 at e;cases h1:f ρ with
 |none=>simp[h1]at e
 |some x=>
  cases h2:isB x with
  |none=>simp[h1,h2,z_]at e
  |some c=>
   have:=qJ h2;subst this;have:D.bl (!c)=d:=by simpa[h1,z_,isB]using e
   subst this;refine h ρ _ h1 σ H W rl w _ λv H1 L s1 r fr nd=>?_;rw[Rep]at r;exact⟨c,r.1,q _ H1 [] s1 Ij (by simp) List.nodup_nil⟩
theorem RQ{t:TT}{ta tb:TE}{c:En->Option Bool}{f g:En->Option D}(hc:RfT G ob t c)(h:RfE G ob ta f)(h':RfE G ob tb g):RfE G ob (tIf t ta tb) (Jj c f g):=λρ d e σ H W rl w Q q=>by
 unfold Jj at e;cases h1:c ρ with
 |none=>simp[h1]at e
 |some b=>
  refine hc ρ b h1 σ H W rl w _ λH1 s1=>?_;cases b with
  |true=>
   have e:f ρ=some d:=by simpa[h1]using e
   exact pL (h ρ d e σ H1 W (rl.up (Up.same s1)) (w.up s1) Q λv H2 L s2 r fr nd=>q v H2 L (s1.trans s2) r (λa ha=>s1.none' (fr a ha)) nd)
  |false=>
   have e:g ρ=some d:=by simpa[h1]using e
   exact uZ (h' ρ d e σ H1 W (rl.up (Up.same s1)) (w.up s1) Q λv H2 L s2 r fr nd=>q v H2 L (s1.trans s2) r (λa ha=>s1.none' (fr a ha)) nd)
section
variable{c:Expr}{fa fb:En->Option D}{fc:En->Option Bool}
theorem gV(ha:PV X G ob a fa)(hb:PV X G ob (.BoolOp .And (b::rest) pos) fb):PV X G ob (.BoolOp .And (a::b::rest) pos) (jJ fa fb):=let⟨t,a1,a2⟩:=ha.ex;let⟨u,b1,b2⟩:=hb.ex;⟨_,λc=>Q0 (a1 c) (b1 c),Oz a2 b2⟩
theorem lA{op}(ha:PV X G ob a fa):PV X G ob (.BoolOp op [a] pos) fa:=let⟨t,a1,a2⟩:=ha.ex;⟨_,λc=>QW (a1 c),a2⟩
theorem J5(ha:PV X G ob a fa):PV X G ob (.UnaryOp .Not a pos) (e1 z_ fa):=let⟨t,a1,a2⟩:=ha.ex;⟨_,λc=>Sd (a1 c),Pz a2⟩
theorem Sw(hc:PVT X G ob c fc)(ha:PV X G ob a fa)(hb:PV X G ob b fb):PV X G ob (.IfExp c a b pos) (Jj fc fa fb):=let⟨v,c1,c2⟩:=hc.ex;let⟨t,a1,a2⟩:=ha.ex;let⟨u,b1,b2⟩:=hb.ex;⟨_,λc=>K8 (c1 c) (a1 c) (b1 c),RQ c2 a2 b2⟩
end
end
section
variable{G:Gc}{ob P:Nat->Bool}{H H1 H2:Hp}{S S1 S2:Ad}{L M:List Addr}{ρ ρ1:En}{σ:L2.St}{Fr:Addr->Prop}
def iZ(S:Ad)(i:Nat)(M:List Addr):Ad:=λj=>if j=i then M else S j
theorem eQ{i:Nat}:iZ S i M i=M:=if_pos rfl
theorem e_{i j:Nat}(h:j≠i):iZ S i M j=S j:=if_neg h
theorem dU{i j:Nat}{a:Addr}(h:a∈iZ S i M j):(j=i/\a∈M)∨(j≠i/\a∈S j):=by
 by_cases e:j=i
 .rw[e,eQ]at h;exact .inl ⟨e,h⟩
 .rw[e_ e]at h;exact .inr ⟨e,h⟩
theorem Mv.refl:Mv P H H σ σ S S M:=⟨λ_ _ h _ _=>h,λi a z=>.inl ⟨i,z⟩,.refl⟩
theorem Sta.store{i:Nat}{d:D}{v:V}(s:Sta G H ob ρ σ S (plus M Fr))(r:Rep G H (wn ob S (plus M Fr)) d v M)(hc:clean d=true)(nd:M.Nodup)(hF:∀a∈M,¬Fr a) :
  ∃S',Sta G H ob (ρ.set i (some d)) (σ.set i (some v)) S' Fr/\∀j a,a∈S' j->inS S a∨a∈M:=by
 by_cases hi:i<ρ.length
 .refine⟨iZ S i M,⟨by simp[s.len],λj e he=>?_,λj hj=>?_,λj=>?_,λj k a h1 h2=>?_,λj a h1 h2=>?_,λa h=>s.fdm a (.inr h)⟩,λj a h=>?_⟩
  .have ev:Evo H H (wn ob S (plus M Fr)) (wn ob (iZ S i M) Fr):=⟨λb u h f=>⟨h,⟨λz=>f.1 (.inr z),λ⟨k,h1,h2⟩=>?_,λ⟨k,h1,h2⟩=>?_⟩⟩,λ_ _ h=>h⟩
   .by_cases e:j=i
    .subst e
     have:d=e:=by simpa[hi]using he
     have:d=e:=this;subst this;have hl:j<σ.length:=by rw[←s.len];exact hi
     refine⟨v,by simp[hl],?_,hc⟩;rw[eQ];have hcc:aG d=true/\aD d=true:=by simpa[clean]using hc
     exact r.mono ev (.inl hcc.1) (.inl hcc.2) λ_ _ _ h=>h
    .rw[List.getElem?_set_ne (Ne.symm e)]at he
     obtain⟨v',h1,h2,h3⟩:=s.sl j _ he;refine⟨v',by rw[List.getElem?_set_ne (Ne.symm e)];exact h1,?_,h3⟩;rw[e_ e];have hcc:=(by simpa[clean]using h3:aG _=true/\aD _=true);exact h2.mono ev (.inl hcc.1) (.inl hcc.2) λ_ _ _ h=>h
   .rcases dU h2 with⟨_,z⟩|⟨_,z⟩
    .exact f.1 (.inl z)
    .exact f.2.1 ⟨k,h1,z⟩
   .rcases dU h2 with⟨_,z⟩|⟨_,z⟩
    .exact f.1 (.inl z)
    .exact f.2.2 ⟨k,h1,z⟩
  .by_cases e:j=i
   .subst e
    exact absurd (by simp[hi]) (hj d)
   .rw[e_ e]
    exact s.em j λd'=>by have:=hj d';rwa[List.getElem?_set_ne (Ne.symm e)]at this
  .by_cases e:j=i
   .rw[e,eQ];exact nd
   .rw[e_ e];exact s.nd j
  .rcases dU h1 with⟨e1,z1⟩|⟨e1,z1⟩<;>rcases dU h2 with⟨e2,z2⟩|⟨e2,z2⟩
   .rw[e1,e2]
   .exact absurd z2 (s.fdj k a (.inl z1))
   .exact absurd z1 (s.fdj j a (.inl z2))
   .exact s.dj j k a z1 z2
  .rcases dU h2 with⟨_,z⟩|⟨_,z⟩
   .exact hF a z h1
   .exact s.fdj j a (.inr h1) z
  .rcases dU h with⟨_,z⟩|⟨_,z⟩
   .exact .inr z
   .exact .inl ⟨j,z⟩
 .have h1:ρ.set i (some d)=ρ:=List.set_eq_of_length_le (by omega)
  have h2:σ.set i (some v)=σ:=List.set_eq_of_length_le (by rw[←s.len];omega);rw[h1,h2];exact⟨S,s.lessF λa z=>.inr z,λj a h=>.inl ⟨j,h⟩⟩
end
section
variable{ι:Type}{X:ι->Cx}{G:Gc}{ob P:Nat->Bool}
def gm:En->Option Fl:=λρ=>some (.nx ρ)
def aX(f g:En->Option Fl):En->Option Fl:=λρ=>match f ρ with
 |some (.nx ρ')=>g ρ'
 |r=>r
theorem Aft.from{G:Gc}{H H1:Hp}{σ σ1:L2.St}{S S1:Ad}{Fr:Addr->Prop}{E:Ends}(m:Mv P H H1 σ σ1 S S1 []):∀{r:Fl},Aft G ob P H σ S Fr E r->Aft G ob P H1 σ1 S1 Fr E r
 |.nx ρ',h=>λσ' H' S' s m'=>h σ' H' S' s (m.trans m')
 |.brk ρ',h=>λσ' H' S' s m'=>h σ' H' S' s (m.trans m')
 |.cnt ρ',h=>λσ' H' S' s m'=>h σ' H' S' s (m.trans m')
 |.ret d ρ',h=>λv σ' H' M S' s r c n f m'=>h v σ' H' M S' s r c n (λa ha=>by
  rcases f a ha with⟨i,z⟩|z
  .exact(m.gr i a z).elim .inl λz=>z.elim (λz=>by cases z) .inr
  .by_cases q:inS S a
   .exact .inl q
   .refine .inr ?_
    cases e:H a with
    |none=>rfl
    |some u=>rw[m.kp a u e q (by simp)]at z;cases z) (m.trans m')
theorem Mq:RfS G ob P Qe gm:=λρ r e σ H S Fr s E h=>by
 cases e;exact h σ H S s .refl
theorem Nt{t u:TS}{f g:En->Option Fl}(h1:RfS G ob P t f)(h2:RfS G ob P u g):RfS G ob P (Uj t u) (aX f g):=λρ r e σ H S Fr s E h=>by
 unfold aX at e;cases h3:f ρ with
 |none=>rw[h3]at e;cases e
 |some fl=>
  rw[h3]at e;refine h1 ρ fl h3 σ H S Fr s _ ?_;cases fl with
  |nx ρ'=>exact λσ' H' S' s' m=>h2 ρ' r e σ' H' S' Fr s' E (h.from m)
  |brk ρ'=>cases e;exact h
  |cnt ρ'=>cases e;exact h
  |ret d ρ'=>cases e;exact h
theorem bD:uN X G ob P [] gm:=⟨_,λc=>Pj,Mq⟩
theorem az{st:Stmt}{rest:List Stmt}{f g:En->Option Fl}(h1:PVS X G ob P st f)(h2:uN X G ob P rest g):uN X G ob P (st::rest) (aX f g):=let⟨t,a1,a2⟩:=h1.ex;let⟨u,b1,b2⟩:=h2.ex;⟨_,λc=>Mj (a1 c) (b1 c),Nt a2 b2⟩
theorem aL{st:Stmt}{f:En->Option Fl}(h1:PVS X G ob P st f):uN X G ob P [st] f:=let⟨t,a1,a2⟩:=h1.ex;⟨_,λc=>O1 (a1 c),a2⟩
def Vu:En->Option Fl:=λρ=>some (.brk ρ)
def Vr:En->Option Fl:=λρ=>some (.cnt ρ)
def tgN(i:Nat):D->En->Option En:=λd ρ=>if clean d then some (ρ.set i (some d))else none
theorem j6{i:Nat}(hP:P i=false):RfG G ob P (yH i) (tgN i):=λd ρ ρ' e v σ H S M Fr s r nd hF Q q=>by
 unfold tgN at e;split at e
 .rename_i hc
  cases e;obtain⟨S',s',h⟩:=s.store r hc nd hF (i:=i);refine q _ H S' s' ⟨λb u h _ _=>h,λj a z=>(h j a z).imp id .inl,λj hj=>?_⟩;have:j≠i:=λz=>by rw[z,hP]at hj;cases hj
  rw[List.getElem?_set_ne (Ne.symm this)]
 .cases e
def dF:List D->En->Option En:=λds ρ=>match ds with
 |[]=>some ρ
 |_=>none
def aP(f:D->En->Option En)(g:List D->En->Option En):List D->En->Option En:=λds ρ=>match ds with
 |d::r=>(f d ρ).bind λρ1=>g r ρ1
 |[]=>none
def tgT(n:Nat)(g:List D->En->Option En):D->En->Option En:=λd ρ=>match d with
 |.tup ds=>if ds.length=n/\aJ ds=true/\aH ds=true then g ds ρ else none
 |_=>none
theorem Lb:VL G ob P Nk dF:=λds ρ ρ' e vs σ H S M Fr s r nd hF Q q=>by
 cases ds with
 |nil=>
  cases e;obtain⟨rfl,rfl⟩:=r.inv0;exact⟨rfl,q σ H S (s.lessF λa z=>.inr z) .refl⟩
 |cons d r=>cases e
def JL(G:Gc)(ob P:Nat->Bool)(g:TGs)(f:List D->En->Option En):Prop:=∀(ds:List D)(ρ ρ':En),aH ds=true->aJ ds=true->f ds ρ=some ρ'->∀(vs:List V)(σ:L2.St)(H:Hp)(S:Ad)(M:List Addr)(Fr:Addr->Prop),Sta G H ob ρ σ S (plus M Fr)->aK G H (wn ob S (plus M Fr)) ds vs M->M.Nodup->(∀a∈M,¬Fr a)->
 ∀Q:L2.St->Hp->Prop,(∀σ' H' S',Sta G H' ob ρ' σ' S' Fr->Mv P H H' σ σ' S S' M->Q σ' H')->g vs σ H Q
theorem Cq:JL G ob P Nk dF:=λds ρ ρ' _ _ e=>Lb ds ρ ρ' e
theorem sV{t:TG}{u:TGs}{f:D->En->Option En}{g:List D->En->Option En}(h1:RfG G ob P t f)(h2:JL G ob P u g):JL G ob P (JR t u) (aP f g):=λds ρ ρ' c1 c2 e vs σ H S M Fr s r nd hF Q q=>by
 cases ds with
 |nil=>cases e
 |cons d ds=>
  obtain⟨x,ys,M1,M2,rfl,rfl,hx,hr⟩:=r.inv;simp only[aH,aJ,Bool.and_eq_true]at c1 c2;simp only[aP]at e;cases h3:f d ρ with
  |none=>rw[h3]at e;cases e
  |some ρ1=>
   have e:g ds ρ1=some ρ':=by simpa[h3]using e
   have nd2:=List.nodup_append.mp nd;have hpl:plus (M1++M2) Fr=plus M1 (plus M2 Fr):=by
    funext a;simp only[plus,List.mem_append,or_assoc]
   rw[hpl]at s hx hr;refine⟨x,ys,rfl,h1 d ρ ρ1 h3 x σ H S M1 (plus M2 Fr) s hx nd2.1 (λa ha z=>?_) _ λσ1 H1 S1 s1 m1=>?_⟩
   .rcases z with z|z
    .exact nd2.2.2 a ha a z rfl
    .exact hF a (List.mem_append_left _ ha) z
   .have ev:Evo H H1 (wn ob S (plus M1 (plus M2 Fr))) (wn ob S1 (plus M2 Fr)):=⟨λb u hb f=>?_,λb xs h=>?_⟩
    .have hr1:aK G H1 (wn ob S1 (plus M2 Fr)) ds ys M2:=hr.mono ev (.inl c1.2) (.inl c2.2) λc hc u hu=>m1.kp c u hu (λ⟨i,z⟩=>s.fdj i c (.inr (.inl hc)) z) λz=>nd2.2.2 c z c hc rfl
     refine h2 ds ρ1 ρ' c1.2 c2.2 e ys σ1 H1 S1 M2 Fr s1 hr1 nd2.2.1 (λa ha=>hF a (List.mem_append_right _ ha)) Q λσ2 H2 S2 s2 m2=>q σ2 H2 S2 s2 ⟨λb u hb n1 n2=>?_,λi a z=>?_,m1.pr.trans m2.pr⟩
     .have n3:b∉M1:=λz=>n2 (List.mem_append_left _ z)
      exact m2.kp b u (m1.kp b u hb n1 n3) (λ⟨i,z⟩=>(m1.gr i b z).elim n1 λz=>z.elim n3 λz=>by rw[hb]at z;cases z) λz=>n2 (List.mem_append_right _ z)
     .rcases m2.gr i a z with⟨j,z⟩|z|z
      .exact(m1.gr j a z).imp id λz=>z.imp (List.mem_append_left _) id
      .exact .inr (.inl (List.mem_append_right _ z))
      .by_cases q1:inS S a
       .exact .inl q1
       .by_cases q2:a∈M1
        .exact .inr (.inl (List.mem_append_left _ q2))
        .refine .inr (.inr ?_)
         cases e:H a with
         |none=>rfl
         |some u=>rw[m1.kp a u e q1 q2]at z;cases z
    .have n1:¬inS S b:=λ⟨i,z⟩=>by
      cases ho:ob i with
      |false=>exact f.2.1 ⟨i,ho,z⟩
      |true=>exact f.2.2 ⟨i,ho,z⟩
     have n2:b∉M1:=λz=>f.1 (.inl z);refine⟨m1.kp b u hb n1 n2,λz=>f.1 (.inr z),λ⟨i,_,z⟩=>?_,λ⟨i,_,z⟩=>?_⟩
     .exact(m1.gr i b z).elim n1 λz=>z.elim n2 λz=>by rw[hb]at z;cases z
     .exact(m1.gr i b z).elim n1 λz=>z.elim n2 λz=>by rw[hb]at z;cases z
    .have no:∀u,H b=some u->muO u=false->H1 b=some u:=λu hu m=>m1.kp b u hu (λ⟨i,z⟩=>by
       obtain⟨o,ho,hm⟩:=s.mu z;rw[hu]at ho;cases ho;rw[m]at hm;cases hm) λz=>by
       obtain⟨o,ho,hm⟩:=hx.dom b z;rw[hu]at ho;cases ho;rw[m]at hm;cases hm
     exact no _ h rfl
theorem Pg{n:Nat}{t:TGs}{g:List D->En->Option En}(h:JL G ob P t g):RfG G ob P (Tq G.K n t) (tgT n g):=λd ρ ρ' e v σ H S M Fr s r nd hF Q q=>by
 cases d with
 |tup ds=>
  simp only[tgT]at e;split at e
  .rename_i hl
   rw[Rep]at r;obtain⟨a,xs,rfl,ht,hr⟩:=r;exact⟨a,xs,rfl,SqT.of ht,by rw[←hr.length];exact hl.1,h ds ρ ρ' hl.2.2 hl.2.1 e xs σ H S M Fr s hr nd hF Q q⟩
  .cases e
 |_=>cases e
structure MK{ι:Type}(X:ι->Cx)(G:Gc)(ob P:Nat->Bool)(tg:List Expr)(f:List D->En->Option En):Prop where
 mk::(ex:∃t,(∀c,PGs (X c) tg t)/\JL G ob P t f)
theorem aY(i:Nat){x:Str}{pos:Pos}(hN:∀c,(X c).N.Nodup)(hP:P i=false:=by rfl)(hi:∀c,(X c).N[i]? =some x:=by intro _;rfl)(hx:∀c,Loc (X c).env.scope x:=by intro _;first|exact Or.inl rfl|exact Or.inr rfl)(hf:∀c,(X c).fn x=true∨(X c).env.scope.names.lookup x=some .local:=by intro _;first|exact .inl rfl|exact .inr rfl):PVG X G ob P (.Name x pos) (tgN i):=⟨_,λc=>zr (hN c) (hi c) (hx c) (hf c),j6 hP⟩
theorem gF:MK X G ob P [] dF:=⟨_,λc=>FQ,Cq⟩
theorem bA{e:Expr}{es:List Expr}{f:D->En->Option En}{g:List D->En->Option En}(h1:PVG X G ob P e f)(h2:MK X G ob P es g)(hs:∀c,(assignEach (e::es) (X c).env).map (·.2)=assign e (X c).env::(assignEach es (X c).env).map (·.2):=by intro _;rfl):MK X G ob P (e::es) (aP f g):=let⟨t,a1,a2⟩:=h1.ex;let⟨u,b1,b2⟩:=h2.ex;⟨_,λc=>Bb (a1 c) (b1 c) (hs c),sV a2 b2⟩
theorem iV{es:List Expr}{k n:Nat}{pos:Pos}{g:List D->En->Option En}(hc:∀c,(X c).calm=true)(h:MK X G ob P es g)(hn:∀c,(assignEach es (X c).env).length=n:=by intro _;rfl)(hst:∀c,(assignEach es (X c).env).findIdx? (·.1)=none:=by intro _;rfl)(hK:∀c,(X c).K=G.K:=by intro _;rfl):PVG X G ob P (.Tuple es k pos) (tgT n g):=let⟨t,a1,a2⟩:=h.ex;⟨_,λc=>(by rw[←hK c];exact Ib (hc c) (a1 c) (hn c) (hst c)),Pg a2⟩
def du(f:En->Option D)(g:D->En->Option En):En->Option Fl:=λρ=>(f ρ).bind λd=>(g d ρ).map .nx
def dD(f:En->Option (D×En))(g:D->En->Option En):En->Option Fl:=λρ=>(f ρ).bind λp=>(g p.1 p.2).map .nx
theorem gM{Fr:Addr->Prop}:plus [] Fr=Fr:=by funext a;simp[plus]
theorem lU{te:TE}{t:TG}{f:En->Option (D×En)}{g:D->En->Option En}(h:kh G ob te f)(hg:RfG G ob P t g):RfS G ob P (Om te t) (dD f g):=λρ r e σ H S Fr s E q=>by
 unfold dD at e;cases h1:f ρ with
 |none=>simp[h1]at e
 |some p=>
  obtain⟨d,ρ1⟩:=p;cases h2:g d ρ1 with
  |none=>simp[h1,h2]at e
  |some ρ2=>
   have:Fl.nx ρ2=r:=by simpa[h1,h2]using e
   subst this;refine h ρ d ρ1 h1 σ H S Fr s _ λv H1 M S1 s1 r1 nd f1=>?_;have hF:∀a∈M,¬Fr a:=λa ha z=>by
    rcases f1.fm a ha with q|q
    .exact s.notO z q
    .obtain⟨o,ho,_⟩:=s.fdm a z
     rw[q]at ho;cases ho
   refine hg d ρ1 ρ2 h2 v σ H1 S1 M Fr s1 r1 nd hF _ λσ' H' S' s' m=>q σ' H' S' s' ⟨λb u hb n1 n2=>?_,λi a z=>?_,m.pr⟩
   .have hno:¬inO ob S b:=λ⟨i,_,z⟩=>n1 ⟨i,z⟩
    refine m.kp b u (f1.kp b u hb hno) (λ⟨i,z⟩=>?_) λz=>(f1.fm b z).elim hno λz=>by rw[hb]at z;cases z
    cases ho:ob i with
    |false=>rw[f1.sn i ho]at z;exact n1 ⟨i,z⟩
    |true=>exact(f1.gr i b ho z).elim hno λz=>by rw[hb]at z;cases z
   .rcases m.gr i a z with⟨j,z⟩|z|z
    .cases ho:ob j with
     |false=>rw[f1.sn j ho]at z;exact .inl ⟨j,z⟩
     |true=>exact(f1.gr j a ho z).imp (λ⟨k,_,z⟩=>⟨k,z⟩) .inr
    .exact(f1.fm a z).imp (λ⟨k,_,z⟩=>⟨k,z⟩) .inr
    .exact(f1.back z).imp (λ⟨k,_,z⟩=>⟨k,z⟩) .inr
theorem Dz{f:En->Option D}{g:D->En->Option En}:dD (eUp f) g=du f g:=by
 funext ρ;unfold dD du eUp;cases f ρ<;>rfl
section
variable{tg e:Expr}{pos:Pos}{g:D->En->Option En}
theorem pF{f:En->Option D}(he:PV X G ob e f)(hg:PVG X G ob P tg g)(hs:∀c,swapsWithSole [tg] e pos.line (X c).env=pure false:=by intro _;rfl)(hw:∀c,swappedStores [tg] e (X c).env=pure none:=by intro _;rfl)(h1:∀c,(assignEach [tg] (X c).env).map (·.2)=[assign tg (X c).env]:=by intro _;rfl):PVS X G ob P (.Assign [tg] e pos) (du f g):=let⟨t,a1,a2⟩:=he.ex;let⟨u,b1,b2⟩:=hg.ex;⟨_,λc=>IK (a1 c) (b1 c) (hs c) (hw c) (h1 c),by rw[←Dz];exact lU (CP a2) b2⟩
theorem vJ{f:En->Option (D×En)}(he:PVe X G ob e f)(hg:PVG X G ob P tg g)(hs:∀c,swapsWithSole [tg] e pos.line (X c).env=pure false:=by intro _;rfl)(hw:∀c,swappedStores [tg] e (X c).env=pure none:=by intro _;rfl)(h1:∀c,(assignEach [tg] (X c).env).map (·.2)=[assign tg (X c).env]:=by intro _;rfl):PVS X G ob P (.Assign [tg] e pos) (dD f g):=let⟨t,a1,a2⟩:=he.ex;let⟨u,b1,b2⟩:=hg.ex;⟨_,λc=>IK (a1 c) (b1 c) (hs c) (hw c) (h1 c),lU a2 b2⟩
theorem bH(i:Nat){x:Str}{pos':Pos}{f:En->Option D}(hN:∀c,(X c).N.Nodup)(he:PV X G ob e f)(hP:P i=false:=by rfl)(hi:∀c,(X c).N[i]? =some x:=by intro _;rfl)(hx:∀c,Loc (X c).env.scope x:=by intro _;first|exact Or.inl rfl|exact Or.inr rfl)(hs:∀c,swapsWith e (some (.Name x pos')) pos.line (X c).env=pure false:=by intro _;rfl)(hf:∀c,(X c).fn x=true∨(X c).env.scope.names.lookup x=some .local:=by intro _;first|exact .inl rfl|exact .inr rfl):PVS X G ob P (.Assign [.Name x pos'] e pos) (du f (tgN i)):=let⟨t,a1,a2⟩:=he.ex;⟨_,λc=>Jq (hN c) (hi c) (hx c) (a1 c) (hs c) (hf c),by rw[←Dz];exact lU (CP a2) (j6 hP)⟩
theorem cJ(i:Nat){x:Str}{pos':Pos}{f:En->Option (D×En)}(hN:∀c,(X c).N.Nodup)(he:PVe X G ob e f)(hP:P i=false:=by rfl)(hi:∀c,(X c).N[i]? =some x:=by intro _;rfl)(hx:∀c,Loc (X c).env.scope x:=by intro _;first|exact Or.inl rfl|exact Or.inr rfl)(hs:∀c,swapsWith e (some (.Name x pos')) pos.line (X c).env=pure false:=by intro _;rfl)(hf:∀c,(X c).fn x=true∨(X c).env.scope.names.lookup x=some .local:=by intro _;first|exact .inl rfl|exact .inr rfl):PVS X G ob P (.Assign [.Name x pos'] e pos) (dD f (tgN i)):=let⟨t,a1,a2⟩:=he.ex;⟨_,λc=>Jq (hN c) (hi c) (hx c) (a1 c) (hs c) (hf c),lU a2 (j6 hP)⟩
end
def oA(f:En->Option (List D×En))(g:List D->En->Option En):En->Option Fl:=λρ=>(f ρ).bind λp=>if aH p.1/\aJ p.1 then(g p.1 p.2).map .nx else none
def Am(f:En->Option (List D))(g:List D->En->Option En):En->Option Fl:=λρ=>(f ρ).bind λp=>if aH p/\aJ p then(g p ρ).map .nx else none
theorem Pk{f:En->Option (List D)}{g:List D->En->Option En}:oA (bT f) g=Am f g:=by
 funext ρ;unfold oA Am bT;cases f ρ<;>rfl
theorem CT{ta:TA}{i j:Nat}(hi:P i=false)(hj:P j=false){f:En->Option (List D×En)}(h:BP G ob ta f):RfS G ob P (Ua i j ta) (oA f (aP (tgN i) (aP (tgN j) dF))):=λρ r e σ H S Fr s E q=>by
 unfold oA at e;cases h1:f ρ with
 |none=>simp[h1]at e
 |some p=>
  obtain⟨ds,ρ1⟩:=p;by_cases hc:aH ds/\aJ ds
  .cases h2:(aP (tgN i) (aP (tgN j) dF)) ds ρ1 with
   |none=>simp[h1,h2,hc]at e
   |some ρ2=>
    have:Fl.nx ρ2=r:=by simpa[h1,h2,hc]using e
    subst this;refine h ρ ds ρ1 h1 σ H S Fr s _ λvs H1 M S1 s1 r1 nd f1=>?_;have hF:∀a∈M,¬Fr a:=λa ha z=>by
     rcases f1.fm a ha with q|q
     .exact s.notO z q
     .obtain⟨o,ho,_⟩:=s.fdm a z
      rw[q]at ho;cases ho
    have key:=sV (j6 (G:=G) (ob:=ob) hi) (sV (j6 hj) Cq) ds ρ1 ρ2 hc.1 hc.2 h2 vs σ H1 S1 M Fr s1 r1 nd hF (λσ' H'=>E.nx σ' H') λσ' H' S' s' m=>q σ' H' S' s' ⟨λb u hb n1 n2=>?_,λi a z=>?_,m.pr⟩
    .obtain⟨v,rr,e1,v2,r2,e2,e3,k⟩:=key
     subst e3;exact⟨v,v2,by rw[e1,e2],k⟩
    .have hno:¬inO ob S b:=λ⟨i,_,z⟩=>n1 ⟨i,z⟩
     refine m.kp b u (f1.kp b u hb hno) (λ⟨i,z⟩=>?_) λz=>(f1.fm b z).elim hno λz=>by rw[hb]at z;cases z
     cases ho:ob i with
     |false=>rw[f1.sn i ho]at z;exact n1 ⟨i,z⟩
     |true=>exact(f1.gr i b ho z).elim hno λz=>by rw[hb]at z;cases z
    .rcases m.gr i a z with⟨j,z⟩|z|z
     .cases ho:ob j with
      |false=>rw[f1.sn j ho]at z;exact .inl ⟨j,z⟩
      |true=>exact(f1.gr j a ho z).imp (λ⟨k,_,z⟩=>⟨k,z⟩) .inr
     .exact(f1.fm a z).imp (λ⟨k,_,z⟩=>⟨k,z⟩) .inr
     .exact(f1.back z).imp (λ⟨k,_,z⟩=>⟨k,z⟩) .inr
  .simp[h1,hc]at e
section
variable{x y:Str}{a b:Expr}{px py pt pos:Pos}{kt k2 pt2}
theorem BW(i j:Nat){f:En->Option (List D×En)}(hc:∀c,(X c).calm=true)(hN:∀c,(X c).N.Nodup)(ha:w6 X G ob [a,b] f)(hPi:P i=false:=by rfl)(hPj:P j=false:=by rfl)(hi:∀c,(X c).N[i]? =some x:=by intro _;rfl)(hj:∀c,(X c).N[j]? =some y:=by intro _;rfl)(hij:i≠j:=by decide)(hx:∀c,(X c).env.scope.names.lookup x=some .local:=by intro _;rfl)(hy:∀c,(X c).env.scope.names.lookup y=some .local:=by intro _;rfl)(hw:∀c,swappedStores [.Tuple [.Name x px,.Name y py] kt pt] (.Tuple [a,b] k2 pt2) (X c).env=pure (some [x,y]):=by intro _;rfl)(hs:∀c,swapsWithSole [.Tuple [.Name x px,.Name y py] kt pt] (.Tuple [a,b] k2 pt2) pos.line (X c).env=pure false:=by intro _;rfl) :
 PVS X G ob P (.Assign [.Tuple [.Name x px,.Name y py] kt pt] (.Tuple [a,b] k2 pt2) pos) (oA f (aP (tgN i) (aP (tgN j) dF))):=let⟨t,a1,a2⟩:=ha.ex;⟨_,λc=>LK (hc c) (hN c) (hi c) (hj c) hij (hx c) (hy c) (a1 c) (hw c) (hs c),CT hPi hPj a2⟩
theorem OD(i j:Nat){f:En->Option (List D)}(hc:∀c,(X c).calm=true)(hN:∀c,(X c).N.Nodup)(ha:PVA X G ob [a,b] f)(hPi:P i=false:=by rfl)(hPj:P j=false:=by rfl)(hi:∀c,(X c).N[i]? =some x:=by intro _;rfl)(hj:∀c,(X c).N[j]? =some y:=by intro _;rfl)(hij:i≠j:=by decide)(hx:∀c,(X c).env.scope.names.lookup x=some .local:=by intro _;rfl)(hy:∀c,(X c).env.scope.names.lookup y=some .local:=by intro _;rfl)(hw:∀c,swappedStores [.Tuple [.Name x px,.Name y py] kt pt] (.Tuple [a,b] k2 pt2) (X c).env=pure (some [x,y]):=by intro _;rfl)(hs:∀c,swapsWithSole [.Tuple [.Name x px,.Name y py] kt pt] (.Tuple [a,b] k2 pt2) pos.line (X c).env=pure false:=by intro _;rfl) :
 PVS X G ob P (.Assign [.Tuple [.Name x px,.Name y py] kt pt] (.Tuple [a,b] k2 pt2) pos) (Am f (aP (tgN i) (aP (tgN j) dF))):=let⟨t,a1,a2⟩:=ha.ex;⟨_,λc=>LK (hc c) (hN c) (hi c) (hj c) hij (hx c) (hy c) (a1 c) (hw c) (hs c),by rw[←Pk];exact CT hPi hPj (K6 a2)⟩
end
def sIf(c:En->Option Bool)(f g:En->Option Fl):En->Option Fl:=λρ=>(c ρ).bind λb=>if b then f ρ else g ρ
def wQ(c:En->Option (Bool×En))(f g:En->Option Fl):En->Option Fl:=λρ=>(c ρ).bind λp=>if p.1 then f p.2 else g p.2
theorem TV{c:En->Option Bool}{f g:En->Option Fl}:wQ (yX c) f g=sIf c f g:=by
 funext ρ;unfold wQ sIf yX;cases c ρ<;>rfl
theorem Gb{tc:TT}{t u:TS}{c:En->Option (Bool×En)}{f g:En->Option Fl}(hc:pM G ob tc c)(h1:RfS G ob P t f)(h2:RfS G ob P u g):RfS G ob P (Tz tc t u) (wQ c f g):=λρ r e σ H S Fr s E q=>by
 unfold wQ at e;cases h3:c ρ with
 |none=>simp[h3]at e
 |some p=>
  obtain⟨b,ρ1⟩:=p;refine hc ρ b ρ1 h3 σ H S Fr s _ λH1 S1 s1 f1=>?_;have m:Mv P H H1 σ σ S S1 []:=f1.mv;cases b with
  |true=>exact pL (h1 ρ1 r (by simpa[h3]using e) σ H1 S1 Fr s1 E (q.from m))
  |false=>exact uZ (h2 ρ1 r (by simpa[h3]using e) σ H1 S1 Fr s1 E (q.from m))
theorem cU{c:Expr}{a b:List Stmt}{pos:Pos}{fc:En->Option Bool}{f g:En->Option Fl}(hc:PVT X G ob c fc)(ha:uN X G ob P a f)(hb:uN X G ob P b g):PVS X G ob P (.If c a b pos) (sIf fc f g):=let⟨v,c1,c2⟩:=hc.ex;let⟨t,a1,a2⟩:=ha.ex;let⟨u,b1,b2⟩:=hb.ex;⟨_,λc=>Qz (c1 c) (a1 c) (b1 c),by rw[←TV];exact Gb (Jc c2) a2 b2⟩
theorem rJ{c:Expr}{a b:List Stmt}{pos:Pos}{fc:En->Option (Bool×En)}{f g:En->Option Fl}(hc:vh X G ob c fc)(ha:uN X G ob P a f)(hb:uN X G ob P b g):PVS X G ob P (.If c a b pos) (wQ fc f g):=let⟨v,c1,c2⟩:=hc.ex;let⟨t,a1,a2⟩:=ha.ex;let⟨u,b1,b2⟩:=hb.ex;⟨_,λc=>Qz (c1 c) (a1 c) (b1 c),Gb c2 a2 b2⟩
def sEx(f:En->Option (D×En)):En->Option Fl:=λρ=>(f ρ).map λp=>.nx p.2
def uy(f:En->Option (D×En)):En->Option Fl:=λρ=>(f ρ).bind λp=>if clean p.1 then some (.ret p.1 p.2)else none
def dO(f:En->Option D):En->Option Fl:=λρ=>(f ρ).bind λd=>if clean d then some (.ret d ρ)else none
theorem Q4{f:En->Option D}:uy (eUp f)=dO f:=by
 funext ρ;unfold uy dO eUp;cases f ρ<;>rfl
theorem Ai{te:TE}{f:En->Option (D×En)}(h:kh G ob te f):RfS G ob P (Ri te) (uy f):=λρ r e σ H S Fr s E q=>by
 unfold uy at e;cases h1:f ρ with
 |none=>simp[h1]at e
 |some p=>
  obtain⟨d,ρ1⟩:=p;cases hc:clean d with
  |false=>simp[h1,hc]at e
  |true=>
   have:Fl.ret d ρ1=r:=by simpa[h1,hc]using e
   subst this;exact h ρ d ρ1 h1 σ H S Fr s _ λv H1 M S1 s1 r1 nd f1=>q v σ H1 M S1 s1 r1 hc nd (λa ha=>(f1.fm a ha).imp (λ⟨i,_,z⟩=>⟨i,z⟩) id) f1.mv
theorem aW{e:Expr}{pos:Pos}{f:En->Option D}(he:PV X G ob e f):PVS X G ob P (.Return (some e) pos) (dO f):=let⟨t,a1,a2⟩:=he.ex;⟨_,λc=>Dl (a1 c),by rw[←Q4];exact Ai (CP a2)⟩
theorem Bo{e:Expr}{pos:Pos}{f:En->Option (D×En)}(he:PVe X G ob e f):PVS X G ob P (.Return (some e) pos) (uy f):=let⟨t,a1,a2⟩:=he.ex;⟨_,λc=>Dl (a1 c),Ai a2⟩
def Vk:En->Option Fl:=λρ=>some (.ret .non ρ)
theorem Sta.move{G:Gc}{H:Hp}{ρ:En}{σ:L2.St}{S:Ad}{Fr:Addr->Prop}{i:Nat}{d:D}(s:Sta G H ob ρ σ S Fr)(e:ρ[i]? =some (some d)) :
  ∃v,σ[i]? =some (some v)/\clean d=true/\Sta G H ob (ρ.set i none) σ (iZ S i []) (plus (S i) Fr)/\Rep G H (wn ob (iZ S i []) (plus (S i) Fr)) d v (S i):=by
 obtain⟨v,h1,h2,h3⟩:=s.sl i d e;have ev:Evo H H (wn ob S Fr) (wn ob (iZ S i []) (plus (S i) Fr)):=⟨λb u h f=>⟨h,⟨λz=>z.elim (λz=>?_) f.1,λ⟨k,q1,q2⟩=>?_,λ⟨k,q1,q2⟩=>?_⟩⟩,λ_ _ h=>h⟩
 .have hcc:=(by simpa[clean]using h3:aG d=true/\aD d=true)
  refine⟨v,h1,h3,⟨by simp[s.len],λj d' he=>?_,λj hj=>?_,λj=>?_,λj k a q1 q2=>?_,λj a q1 q2=>?_,λa h=>?_⟩,h2.mono ev (.inl hcc.1) (.inl hcc.2) λ_ _ _ h=>h⟩
  .by_cases e':j=i
   .subst e'
    rw[List.getElem?_set]at he;split at he
    .split at he
     .simp at he
     .cases he
    .exact absurd rfl ‹_›
   .rw[List.getElem?_set_ne (Ne.symm e')]at he
    obtain⟨v',q1,q2,q3⟩:=s.sl j _ he;refine⟨v',q1,?_,q3⟩;rw[e_ e'];have hcc:=(by simpa[clean]using q3:aG d'=true/\aD d'=true);exact q2.mono ev (.inl hcc.1) (.inl hcc.2) λ_ _ _ h=>h
  .by_cases e':j=i
   .rw[e',eQ]
   .rw[e_ e']
    exact s.em j λd'=>by have:=hj d';rwa[List.getElem?_set_ne (Ne.symm e')]at this
  .by_cases e':j=i
   .rw[e',eQ];exact List.nodup_nil
   .rw[e_ e'];exact s.nd j
  .rcases dU q1 with⟨_,z⟩|⟨_,z⟩
   .cases z
   .rcases dU q2 with⟨_,z'⟩|⟨_,z'⟩
    .cases z'
    .exact s.dj j k a z z'
  .rcases dU q2 with⟨_,z⟩|⟨n,z⟩
   .cases z
   .rcases q1 with q1|q1
    .exact n (s.dj j i a z q1)
    .exact s.fdj j a q1 z
  .rcases h with h|h
   .exact s.mu h
   .exact s.fdm a h
 .cases ho:ob i with
  |false=>exact f.2.1 ⟨i,ho,z⟩
  |true=>exact f.2.2 ⟨i,ho,z⟩
 .rcases dU q2 with⟨_,z⟩|⟨_,z⟩
  .cases z
  .exact f.2.1 ⟨k,q1,z⟩
 .rcases dU q2 with⟨_,z⟩|⟨_,z⟩
  .cases z
  .exact f.2.2 ⟨k,q1,z⟩
def uE(i:Nat):En->Option Fl:=λρ=>match ρ[i]? with
 |some (some d)=>some (.ret d (ρ.set i none))
 |_=>none
theorem JQ{i:Nat}:RfS G ob P (Ri (Nu i)) (uE i):=λρ r e σ H S Fr s E q=>by
 unfold uE at e;split at e
 .rename_i d h1
  cases e;obtain⟨v,h2,h3,h4,h5⟩:=s.move h1;exact⟨v,h2,q v σ H (S i) (iZ S i []) h4 h5 h3 (s.nd i) (λa ha=>.inl ⟨i,ha⟩) ⟨λ_ _ h _ _=>h,λj a z=>(dU z).elim (λz=>by cases z.2) λz=>.inl ⟨j,z.2⟩,.refl⟩⟩
 .cases e
theorem qW(i:Nat){x:Str}{pos pos':Pos}(hN:∀c,(X c).N[i]? =some x:=by intro _;rfl)(hv:∀c,Vis (X c).env.scope x:=by intro _;first|exact Or.inl rfl|exact Or.inr (Or.inl rfl)|exact Or.inr (Or.inr rfl))(hd:(x==("__debug__":Str))=false:=by decide)(hcd:(x==("__classdict__":Str))=false:=by decide):PVS X G ob P (.Return (some (.Name x pos)) pos') (uE i):=⟨_,λc=>Dl (pv i (hN c) (hv c) hd hcd),JQ⟩
end
def mkO:Mk->Mk
 |.own=>.frz
 |m=>m
mutual
def fzo:D->D
 |.tup ds=>.tup (i_ ds)
 |.lst m ds=>.lst (mkO m) (i_ ds)
 |.dct m ks ds=>.dct (mkO m) ks (i_ ds)
 |.ins m c fs ds=>.ins (mkO m) c fs (i_ ds)
 |d=>d
def i_:List D->List D
 |[]=>[]
 |d::r=>fzo d::i_ r
end
theorem gJ:∀ds:List D,i_ ds=ds.map fzo
 |[]=>rfl
 |d::r=>by rw[i_,gJ r];rfl
section
variable{G:Gc}{H:Hp}{W W':Wn}
theorem dZ.fzo{Kx:Addr->HO->Prop}{a:Addr}{o:HO}{m:Mk}{L M:List Addr}(hs:Les H W W' L)(hn:∀a,W.s a->W'.s a)(h:dZ Kx H W a o m L M):dZ Kx H W' a o (mkO m) [] []:=by
 cases m with
 |own=>exact⟨h.1,hs.l a (by rw[h.2];simp),rfl,rfl⟩
 |frz=>exact⟨h.1,hs.f a h.2.1,rfl,rfl⟩
 |brw=>exact⟨h.1,hn a h.2.1,rfl,rfl⟩
 |bro=>exact⟨h.1,rfl,rfl⟩
 |scr=>exact⟨h.1.imp (λz=>⟨z.1,hs.f a z.2⟩) id,rfl,rfl⟩
mutual
theorem Rep.fzo(hn:∀a,W.s a->W'.s a):∀{d:D}{v:V}{L:List Addr},Rep G H W d v L->Les H W W' L->Rep G H W' (fzo d) v []
 |.non,v,L,h,_=>by rw[Rep]at h;simp[Jb.fzo,Rep,h]
 |.bl _,v,L,h,_=>by rw[Rep]at h;simp[Jb.fzo,Rep,h]
 |.int _,v,L,h,_=>by rw[Rep]at h;simp[Jb.fzo,Rep,h]
 |.str _,v,L,h,_=>by rw[Rep]at h;simp[Jb.fzo,Rep,h]
 |.ty _,v,L,h,_=>by rw[Rep]at h;simp[Jb.fzo,Rep,h]
 |.tup ds,v,L,h,hs=>by
  rw[Rep]at h;rw[Jb.fzo,Rep];obtain⟨a,xs,rfl,ht,hr⟩:=h;exact⟨a,xs,rfl,ht,aK.fzo hn hr hs⟩
 |.lst m ds,v,L,h,he=>by
  rw[Rep]at h;rw[Jb.fzo,Rep];obtain⟨a,xs,M,rfl,hr,hs⟩:=h;exact⟨a,xs,[],rfl,aK.fzo hn hr (he.sub λc hc=>hs.sub.subset hc),hs.fzo he hn⟩
 |.dct m ks ds,v,L,h,he=>by
  rw[Rep]at h;rw[Jb.fzo,Rep];obtain⟨a,xs,M,rfl,hk,hr,hs⟩:=h;exact⟨a,xs,[],rfl,hk,aK.fzo hn hr (he.sub λc hc=>hs.sub.subset hc),hs.fzo he hn⟩
 |.ins m c' fs ds,v,L,h,he=>by
  rw[Rep]at h;rw[Jb.fzo,Rep];obtain⟨a,C,dx,xs,M,rfl,hC,hk,hr,hs⟩:=h;exact⟨a,C,dx,xs,[],rfl,hC,hk,aK.fzo hn hr (he.sub λc hc=>hs.sub.subset hc),hs.fzo he hn⟩
theorem aK.fzo(hn:∀a,W.s a->W'.s a):∀{ds:List D}{vs:List V}{L:List Addr},aK G H W ds vs L->Les H W W' L->aK G H W' (i_ ds) vs []
 |[],vs,L,h,_=>by obtain⟨rfl,_⟩:=h.inv0;rw[i_];exact .nil
 |d::r,vs,L,h,he=>by
  obtain⟨x,ys,M,M',rfl,rfl,h1,h2⟩:=h.inv;rw[i_];exact .cons (M:=[]) (M':=[]) (Rep.fzo hn h1 (he.sub λc hc=>List.mem_append_left _ hc)) (aK.fzo hn h2 (he.sub λc hc=>List.mem_append_right _ hc))
end
mutual
theorem HD:∀{d:D},aG d=true->aG (Jb.fzo d)=true
 |.non,_=>rfl|.bl _,_=>rfl|.int _,_=>rfl|.str _,_=>rfl|.ty _,_=>rfl
 |.tup ds,h=>by simp[aG]at h;simp[Jb.fzo,aG,ir h]
 |.lst m ds,h=>by simp[aG]at h;cases m<;>simp[Jb.fzo,aG,ir h.2,mkO]<;>simp at h
 |.dct m _ ds,h=>by simp[aG]at h;cases m<;>simp[Jb.fzo,aG,ir h.2,mkO]<;>simp at h
 |.ins m _ _ ds,h=>by simp[aG]at h;cases m<;>simp[Jb.fzo,aG,ir h.2,mkO]<;>simp at h
theorem ir:∀{ds:List D},aH ds=true->aH (i_ ds)=true
 |[],_=>rfl
 |d::r,h=>by simp[aH]at h;simp[i_,aH,HD h.1,ir h.2]
end
mutual
theorem GP:∀{d:D},aD d=true->aD (Jb.fzo d)=true
 |.non,_=>rfl|.bl _,_=>rfl|.int _,_=>rfl|.str _,_=>rfl|.ty _,_=>rfl
 |.tup ds,h=>by simp[aD]at h;simp[Jb.fzo,aD,ik h]
 |.lst m ds,h=>by simp[aD]at h;cases m<;>simp[Jb.fzo,aD,ik h.2,mkO]<;>simp at h
 |.dct m _ ds,h=>by simp[aD]at h;cases m<;>simp[Jb.fzo,aD,ik h.2,mkO]<;>simp at h
 |.ins m _ _ ds,h=>by simp[aD]at h;cases m<;>simp[Jb.fzo,aD,ik h.2,mkO]<;>simp at h
theorem ik:∀{ds:List D},aJ ds=true->aJ (i_ ds)=true
 |[],_=>rfl
 |d::r,h=>by simp[aJ]at h;simp[i_,aJ,GP h.1,ik h.2]
end
end
structure Wk(G:Gc)(J:It)(Lt:Hp->Wn->Prop)(items:List D):Prop where
 go:∀(i:Nat)(d:D),items[i]? =some d->∀H W,Lt H W->J.go i H
 yld:∀(i:Nat)(d:D),items[i]? =some d->∀H W,Lt H W->∀x H',J.yld i H x H'->Same H H'/\Rep G H' W d x []
 stop:∀H W,Lt H W->J.stop items.length H
def LtB(b:Bool)(H:Hp)(W:Wn):Hp->Wn->Prop:=λH2 W2=>if b=true then Evo H H2 W W2 else Up H H2 W W2
theorem LtB.up{b:Bool}{H H2:Hp}{W W2:Wn}(u:Up H H2 W W2):LtB b H W H2 W2:=by
 cases b with
 |true=>exact pL u.evo
 |false=>exact uZ u
def RfI(G:Gc)(ob:Nat->Bool)(wi:TI)(f:En->Option (Bool×List D)):Prop:=∀(ρ:En)(b:Bool)(items:List D),f ρ=some (b,items)->∀(σ:L2.St)(H:Hp)(W:Wn),Rel G H W ob ρ σ->WOk H W->∀R:It->Hp->Prop,
 (∀J H',Same H H'->Wk G J (LtB b H' W) items->R J H')->wi σ H R
structure PVI{ι:Type}(X:ι->Cx)(G:Gc)(ob:Nat->Bool)(tg it:Expr)(f:En->Option (Bool×List D)):Prop where
 mk::(ex:∃t,(∀c,PI (X c) tg it t)/\RfI G ob t f)
section
variable{ι:Type}{X:ι->Cx}{G:Gc}{ob P:Nat->Bool}
def jL(lo:Int)(n:Nat):List D:=(List.range n).map λ(k:Nat)=>D.int (lo+(k:Int))
def nZ(f:En->Option (List D)):En->Option (Bool×List D):=λρ=>(f ρ).bind λds=>match ds with
 |[.int j]=>if -(2 ^ 62)<=j/\j<2 ^ 62 then some (true,jL 0 j.toNat)else none
 |_=>none
def V0(f:En->Option (List D)):En->Option (Bool×List D):=λρ=>(f ρ).bind λds=>match ds with
 |[.int i,.int j]=>if -(2 ^ 62)<=i/\i<2 ^ 62/\-(2 ^ 62)<=j/\j<2 ^ 62 then some (true,jL i (j-i).toNat)else none
 |_=>none
theorem J9{Lt:Hp->Wn->Prop}{lo:Int}{n:Nat}:Wk G (Itr lo n) Lt (jL lo n)where
 go:=λi d e H W _=>by
  have:=(List.getElem?_eq_some_iff.mp e).1;show i<n;simpa[jL]using this
 yld:=λi d e H W _ x H' h=>by
  obtain⟨rfl,rfl⟩:=h;have:d= .int (lo+(i:Int)):=by
   unfold jL at e;rw[List.getElem?_map]at e;have hi:i<n:=by
    have:=(List.getElem?_eq_some_iff.mp (show(jL lo n)[i]? =some d by unfold jL;rw[List.getElem?_map];exact e)).1;simpa[jL]using this
   rw[List.getElem?_range hi]at e;simpa using e.symm
  subst this;exact⟨Same.refl _,by rw[Rep];exact⟨rfl,rfl⟩⟩
 stop:=λH W _=>by
  show n<=(jL lo n).length;simp[jL]
theorem Rh{t:TA}{f:En->Option (List D)}(h:RfA G ob t f):RfI G ob (KC t) (nZ f):=λρ b items e σ H W rl w R q=>by
 unfold nZ at e;cases h1:f ρ with
 |none=>simp[h1]at e
 |some ds=>
  rw[h1]at e;simp only[Option.bind_some]at e;split at e
  .rename_i j
   split at e
   .rename_i hj
    cases e;refine h ρ _ h1 σ H W rl w _ λvs H' L s r fr nd=>?_;obtain⟨x,ys,M,M',rfl,_,hx,hy⟩:=r.inv;obtain⟨rfl,_⟩:=hy.inv0;rw[Rep]at hx;obtain⟨rfl,_⟩:=hx;exact⟨j,rfl,hj.1,hj.2,q _ H' s J9⟩
   .cases e
  .cases e
def dq:D->Option (Bool×List D)
 |.lst m ds=>some (clean (.lst m ds),i_ ds)
 |.tup ds=>some (clean (.tup ds),i_ ds)
 |_=>none
def itS(f:En->Option D):En->Option (Bool×List D):=λρ=>(f ρ).bind dq
theorem HW{Kx:Addr->HO->Prop}{H H2:Hp}{W W1 W2:Wn}{b:Bool}{a:Addr}{o:HO}{m:Mk}{L M:List Addr}(h:dZ Kx H W1 a o m L M)(he:Les H W1 W L)(hn:W1.s a->W.s a)(hb:b=true->m≠.brw/\m≠.bro)(l:LtB b H W H2 W2):Rd H2 a o∨Kx a o:=by
 cases b with
 |false=>
  have u:Up H H2 W W2:=(if_neg Bool.false_ne_true).mp l;exact h.rx.imp (Same.rd u.s) id
 |true=>
  have e:Evo H H2 W W2:=(if_pos rfl).mp l;cases m with
  |own=>exact .inl (.inl (e.k a o h.1 (he.l a (by rw[h.2];simp))).1)
  |frz=>exact .inl (.inl (e.k a o h.1 (he.f a h.2.1)).1)
  |brw=>exact absurd rfl (hb rfl).1
  |bro=>exact absurd rfl (hb rfl).2
  |scr=>exact h.1.imp (λz=>(e.rd z.1 (he.f a z.2)).1) id
theorem Ul{K:PySem.W.Frag}{H:Hp}{a:Addr}{xs:List V}(h:Rd H a (.lst xs)∨KO K a (.lst xs)):SqL K H a xs:=by
 rcases h with z|⟨ys,e,z⟩
 .exact .inl z
 .cases e
  exact .inr z
theorem LtB.rep{G:Gc}{H H2:Hp}{W W2:Wn}{b:Bool}{d:D}{v:V}(l:LtB b H W H2 W2)(hb:b=true->aG d=true/\aD d=true)(r:Rep G H W d v []):Rep G H2 W2 d v []:=by
 cases b with
 |false=>exact r.up ((if_neg Bool.false_ne_true).mp l)
 |true=>exact r.mono ((if_pos rfl).mp l) (.inl (hb rfl).1) (.inl (hb rfl).2) (by simp)
theorem LtB.tup{H H2:Hp}{W W2:Wn}{b:Bool}{K:PySem.W.Frag}{a:Addr}{xs:List V}(l:LtB b H W H2 W2)(h:H a=some (.tup xs)):SqT K H2 a xs:=by
 cases b with
 |false=>exact SqT.of (((if_neg Bool.false_ne_true).mp l).s a _ h)
 |true=>exact SqT.of (((if_pos rfl).mp l).t a xs h)
theorem my{ds:List D}{i:Nat}{d:D}(h:aH ds=true)(e:ds[i]? =some d):aG d=true:=by
 induction ds generalizing i with
 |nil=>simp at e
 |cons a r ih=>
  simp only[aH,Bool.and_eq_true]at h;cases i with
  |zero=>
   have:a=d:=by simpa using e
   rw[←this];exact h.1
  |succ i=>exact ih h.2 (by simpa using e)
theorem mj{ds:List D}{i:Nat}{d:D}(h:aJ ds=true)(e:ds[i]? =some d):aD d=true:=by
 induction ds generalizing i with
 |nil=>simp at e
 |cons a r ih=>
  simp only[aJ,Bool.and_eq_true]at h;cases i with
  |zero=>
   have:a=d:=by simpa using e
   rw[←this];exact h.1
  |succ i=>exact ih h.2 (by simpa using e)
structure Parts(G:Gc)(H:Hp)(W:Wn)(b:Bool)(es:List D)(xs:List V):Prop where
 r:aK G H W es xs []
 c:b=true->aH es=true/\aJ es=true
theorem Parts.at{G:Gc}{H H2:Hp}{W W2:Wn}{b:Bool}{es:List D}{xs:List V}(p:Parts G H W b es xs)(l:LtB b H W H2 W2){i:Nat}{d:D}{x:V}(e:es[i]? =some d)(hx:xs[i]? =some x):Rep G H2 W2 d x []:=by
 obtain⟨y,M,h1,h2,h3⟩:=p.r.get e;rw[hx]at h1;cases h1;have:M=[]:=by simpa using h3
 subst this;exact l.rep (λz=>⟨my (p.c z).1 e,mj (p.c z).2 e⟩) h2
theorem Ep{G:Gc}{H H':Hp}{W:Wn}{d:D}{v:V}{L:List Addr}{b:Bool}{es:List D}(w:WOk H W)(s:Same H H')(r:Rep G H' (W.add L) d v L)(fr:∀a∈L,H a=none)(e:dq d=some (b,es)) :
  ∃a xs,v= .ref a/\Parts G H' W b es xs/\((∀H2 W2,LtB b H' W H2 W2->SqL G.K H2 a xs)∨(∀H2 W2,LtB b H' W H2 W2->SqT G.K H2 a xs)):=by
 have free:∀a∈L,W.free a:=λa ha=>⟨λz=>?_,λz=>?_,λz=>?_⟩
 .have les:Les H' (W.add L) W L:=⟨λa f=>⟨λz=>f.1 (.inr z),f.2⟩,free⟩
  cases d with
  |lst m ds=>
   simp only[dq,Option.some.injEq,Prod.mk.injEq]at e;obtain⟨rfl,rfl⟩:=e;rw[Rep]at r;obtain⟨a,xs,M,rfl,hr,hs⟩:=r;refine⟨a,xs,rfl,⟨aK.fzo (W:=W.add L) (W':=W) (λ_ z=>z) hr (les.sub λc hc=>hs.sub.subset hc),λz=>?_⟩,.inl λH2 W2 l=>Ul (HW hs les (λz=>z) (λz=>?_) l)⟩
   .simp[clean,aG,aD]at z
    exact⟨ir z.1.2,ik z.2.2⟩
   .simp[clean,aG,aD]at z
    exact⟨z.1.1,z.2.1⟩
  |tup ds=>
   simp only[dq,Option.some.injEq,Prod.mk.injEq]at e;obtain⟨rfl,rfl⟩:=e;rw[Rep]at r;obtain⟨a,xs,rfl,ht,hr⟩:=r;refine⟨a,xs,rfl,⟨aK.fzo (W:=W.add L) (W':=W) (λ_ z=>z) hr les,λz=>?_⟩,.inr λH2 W2 l=>l.tup ht⟩;simp[clean,aG,aD]at z;exact⟨ir z.1,ik z.2⟩
  |_=>simp[dq]at e
 .obtain⟨o,ho,_⟩:=w a (.inl z);rw[fr a ha]at ho;cases ho
 .obtain⟨o,ho,_⟩:=w a (.inr (.inl z));rw[fr a ha]at ho;cases ho
 .obtain⟨o,ho,_⟩:=w a (.inr (.inr z));rw[fr a ha]at ho;cases ho
theorem aK.getV{G:Gc}{H:Hp}{W:Wn}{ds:List D}{xs:List V}{L:List Addr}{i:Nat}{d:D}(h:aK G H W ds xs L)(e:ds[i]? =some d):∃x,xs[i]? =some x:=let⟨x,_,h,_⟩:=h.get e;⟨x,h⟩
theorem Ny{te:TE}{f:En->Option D}(h:RfE G ob te f):RfI G ob (Ve G.K te) (itS f):=λρ b items e σ H W rl w R q=>by
 unfold itS at e;cases h1:f ρ with
 |none=>simp[h1]at e
 |some d=>
  have e:dq d=some (b,items):=by simpa[h1]using e
  refine h ρ d h1 σ H W rl w _ λv H' L s r fr nd=>?_;obtain⟨a,xs,rfl,p,hs⟩:=Ep w s r fr e;refine⟨a,rfl,?_⟩;rcases hs with hs|hs
  .refine .inl ⟨⟨xs,hs H' W (LtB.up Up.refl)⟩,q _ H' s ⟨λi d e H2 W2 l=>?_,λi d e H2 W2 l x H3 y=>?_,λH2 W2 l=>?_⟩⟩
   .obtain⟨x,hx⟩:=p.r.getV e
    exact⟨xs,x,hs H2 W2 l,hx⟩
   .obtain⟨rfl,y⟩:=y
    exact⟨Same.refl _,p.at l e (y xs (hs _ W2 l))⟩
   .exact⟨xs,hs H2 W2 l,by rw[p.r.length];exact Nat.le_refl _⟩
  .refine .inr ⟨⟨xs,hs H' W (LtB.up Up.refl)⟩,q _ H' s ⟨λi d e H2 W2 l=>?_,λi d e H2 W2 l x H3 y=>?_,λH2 W2 l=>?_⟩⟩
   .obtain⟨x,hx⟩:=p.r.getV e
    exact⟨xs,x,hs H2 W2 l,hx⟩
   .obtain⟨rfl,y⟩:=y
    exact⟨Same.refl _,p.at l e (y xs (hs _ W2 l))⟩
   .exact⟨xs,hs H2 W2 l,by rw[p.r.length];exact Nat.le_refl _⟩
def mU:Nat->List D->List D
 |_,[]=>[]
 |i,d::r=>.tup [.int (i:Int),d]::mU (i+1) r
theorem o7:∀(ds:List D)(k i:Nat),(mU k ds)[i]? =(ds[i]?).map λd=>.tup [.int ((k+i:Nat):Int),d]
 |[],k,i=>by simp[mU]
 |d::r,k,i=>by
  cases i with
  |zero=>simp[mU]
  |succ i=>
   simp only[mU,List.getElem?_cons_succ];rw[o7 r (k+1) i,show k+1+i=k+(i+1)by omega]
theorem o_:∀(ds:List D)(k:Nat),(mU k ds).length=ds.length
 |[],k=>rfl
 |d::r,k=>by simp[mU,o_ r (k+1)]
def itE(f:En->Option (List D)):En->Option (Bool×List D):=λρ=>(f ρ).bind λds=>match ds with
 |[d]=>(dq d).map λp=>(p.1,mU 0 p.2)
 |_=>none
theorem Jz{t:TA}{f:En->Option (List D)}(h:RfA G ob t f):RfI G ob (Kr G.K t) (itE f):=λρ b items e σ H W rl w R q=>by
 unfold itE at e;cases h1:f ρ with
 |none=>simp[h1]at e
 |some ds=>
  rw[h1]at e;simp only[Option.bind_some]at e;split at e
  .rename_i d
   cases h2:dq d with
   |none=>simp[h2]at e
   |some p=>
    obtain⟨b',es⟩:=p;obtain⟨rfl,rfl⟩:b'=b/\mU 0 es=items:=by simpa[h2]using e
    refine h ρ _ h1 σ H W rl w _ λvs H' L s r fr nd=>?_;obtain⟨v,ys,M,M',rfl,rfl,hv,hy⟩:=r.inv;obtain⟨rfl,rfl⟩:=hy.inv0;rw[List.append_nil]at hv fr;obtain⟨a,xs,rfl,p,hs⟩:=Ep w s hv fr h2;have pair:∀(i:Nat)(d':D)(pa:Addr)(x:V)(H2:Hp)(W2:Wn),(mU 0 es)[i]? =some d'->LtB b' H' W H2 W2->H2 pa=none->xs[i]? =some x->Same H2 (upd H2 pa (.tup [.int i,x]))/\Rep G (upd H2 pa (.tup [.int i,x])) W2 d' (.ref pa) []:=λi d' pa x H2 W2 e l hp hx=>by
     rw[o7]at e;cases h3:es[i]? with
     |none=>rw[h3]at e;cases e
     |some d0=>
      rw[h3]at e;have e:D.tup [.int (i:Int),d0]=d':=by simpa using e
      subst e;have sm:Same H2 (upd H2 pa (.tup [.int i,x])):=Same.new hp;refine⟨sm,?_⟩;rw[Rep];refine⟨pa,_,rfl,bJ,.cons (M:=[]) (M':=[]) (by rw[Rep];exact⟨rfl,rfl⟩) (.one ((p.at l h3 hx).up (Up.same sm)))⟩
    refine⟨a,rfl,?_⟩;have hget:∀(i:Nat)(d':D),(mU 0 es)[i]? =some d'->∃x,xs[i]? =some x:=λi d' e=>by
     rw[o7]at e;cases h3:es[i]? with
     |none=>rw[h3]at e;cases e
     |some d0=>exact p.r.getV h3
    rcases hs with hs|hs
    .refine .inl ⟨⟨xs,hs H' W (LtB.up Up.refl)⟩,q _ H' s ⟨λi d e H2 W2 l=>?_,λi d e H2 W2 l x H3 y=>?_,λH2 W2 l=>?_⟩⟩
     .obtain⟨x,hx⟩:=hget i d e
      exact⟨xs,x,hs H2 W2 l,hx⟩
     .obtain⟨pa,v,hp,rfl,hv,rfl⟩:=y
      exact pair i d pa v H2 W2 e l hp (hv xs (hs _ W2 l))
     .exact⟨xs,hs H2 W2 l,by rw[o_,p.r.length];exact Nat.le_refl _⟩
    .refine .inr ⟨⟨xs,hs H' W (LtB.up Up.refl)⟩,q _ H' s ⟨λi d e H2 W2 l=>?_,λi d e H2 W2 l x H3 y=>?_,λH2 W2 l=>?_⟩⟩
     .obtain⟨x,hx⟩:=hget i d e
      exact⟨xs,x,hs H2 W2 l,hx⟩
     .obtain⟨pa,v,hp,rfl,hv,rfl⟩:=y
      exact pair i d pa v H2 W2 e l hp (hv xs (hs _ W2 l))
     .exact⟨xs,hs H2 W2 l,by rw[o_,p.r.length];exact Nat.le_refl _⟩
  .cases e
section
variable{tg a b:Expr}{p pos tpos:Pos}{elts:List Expr}{x1:Nat}
theorem sE{f:En->Option (List D)}(hg:∀c,Gl (X c) "range")(hm:∀c,(X c).mg "range"=none)(ha:PVA X G ob [a] f)(hs:∀c,starEach [a] (X c).env=[(false,eval a (X c).env)]:=by intro _;rfl):PVI X G ob tg (.Call (.Name "range" p) [a] [] pos) (nZ f):=let⟨t,a1,a2⟩:=ha.ex;⟨_,λc=>yK (hg c) (hm c) (a1 c) (hs c),Rh a2⟩
theorem bV{f:En->Option D}(ha:PV X G ob a f)(hK:∀c,(X c).K=G.K:=by intro _;rfl):PVI X G ob tg a (itS f):=let⟨t,a1,a2⟩:=ha.ex;⟨_,λc=>(by rw[←hK c];exact Rn (a1 c)),Ny a2⟩
theorem J4{f:En->Option (List D)}(hg:∀c,Gl (X c) "enumerate")(hm:∀c,(X c).mg "enumerate"=none)(ha:PVA X G ob [a] f)(hs:∀c,starEach [a] (X c).env=[(false,eval a (X c).env)]:=by intro _;rfl)(hK:∀c,(X c).K=G.K:=by intro _;rfl):PVI X G ob (.Tuple elts x1 tpos) (.Call (.Name "enumerate" p) [a] [] pos) (itE f):=let⟨t,a1,a2⟩:=ha.ex;⟨_,λc=>(by rw[←hK c];exact Kz (hg c) (hm c) (a1 c) (hs c)),Jz a2⟩
end
def forL(tg:D->En->Option En)(body:En->Option Fl):List D->En->Option Fl
 |[],ρ=>some (.nx ρ)
 |d::r,ρ=>(tg d ρ).bind λρ1=>match body ρ1 with
  |some (.nx ρ2)=>forL tg body r ρ2
  |some (.cnt ρ2)=>forL tg body r ρ2
  |some (.brk ρ2)=>some (.nx ρ2)
  |o=>o
def jr(it:En->Option (Bool×List D))(tg:D->En->Option En)(body:En->Option Fl):En->Option Fl:=λρ=>(it ρ).bind λp=>if p.1=true then forL tg body p.2 ρ else none
theorem D_{G:Gc}{H H2:Hp}{ρ:En}{σ σ2:L2.St}{S S2:Ad}{Fr:Addr->Prop}(s:Sta G H ob ρ σ S Fr)(m:Mv P H H2 σ σ2 S S2 []):Evo H H2 (wn ob S Fr) (wn ob S2 Fr)where
 k:=λb u hb f=>by
  have n1:¬inS S b:=λ⟨i,z⟩=>by
   cases ho:ob i with
   |false=>exact f.2.1 ⟨i,ho,z⟩
   |true=>exact f.2.2 ⟨i,ho,z⟩
  have n2:¬inS S2 b:=λ⟨i,z⟩=>(m.gr i b z).elim n1 λz=>z.elim (λz=>by cases z) λz=>by rw[hb]at z;cases z
  exact⟨m.kp b u hb n1 (by simp),f.1,λ⟨i,_,z⟩=>n2 ⟨i,z⟩,λ⟨i,_,z⟩=>n2 ⟨i,z⟩⟩
 t:=λb xs h=>by
  have no:∀u,H b=some u->muO u=false->H2 b=some u:=λu hu mu=>m.kp b u hu (λ⟨i,z⟩=>by
   obtain⟨o,ho,hm⟩:=s.mu z;rw[hu]at ho;cases ho;rw[mu]at hm;cases hm) (by simp)
  exact no _ h rfl
theorem N8{wi:TI}{g:TG}{tb:TS}{it:En->Option (Bool×List D)}{tg:D->En->Option En}{body:En->Option Fl}(hi:RfI G ob wi it)(hg:RfG G ob P g tg)(hb:RfS G ob P tb body):RfS G ob P (RB wi g tb) (jr it tg body):=λρ r e σ H S Fr s E q=>by
 unfold jr at e;cases h1:it ρ with
 |none=>simp[h1]at e
 |some p=>
  obtain⟨b,items⟩:=p;cases b with
  |false=>simp[h1]at e
  |true=>
   have e:forL tg body items ρ=some r:=by simpa[h1]using e
   refine hi ρ true items h1 σ H _ s.rel s.wok _ λJ H1 sm wk=>?_;have s1:Sta G H1 ob ρ σ S Fr:=s.grow sm λa z=>.inl z;have m1:Mv P H H1 σ σ S S []:=⟨λb u h _ _=>sm b u h,λi a z=>.inl ⟨i,z⟩,.refl⟩;have q1:=q.from m1;have ltof:∀{ρ2:En}{σ2:L2.St}{H2:Hp}{S2:Ad},Mv P H1 H2 σ σ2 S S2 []->LtB true H1 (wn ob S Fr) H2 (wn ob S2 Fr):=λm=>pL (D_ s1 m);refine⟨λi m σ2 H2=>i+m=items.length/\∃ρ2 S2,Sta G H2 ob ρ2 σ2 S2 Fr/\Mv P H1 H2 σ σ2 S S2 []/\forL tg body (items.drop i) ρ2=some r,⟨items.length,by omega,ρ,S,s1,.refl,e⟩,?_⟩;rintro i m σ2 H2 ⟨him,ρ2,S2,s2,m2,e2⟩;by_cases hil:i<items.length
   .refine .inr ⟨wk.go i items[i] (by simp[hil]) H2 _ (ltof (ρ2:=ρ2) m2),λσ' H'=>(i+1)+(m-1)=items.length/\∃ρ2 S2,Sta G H' ob ρ2 σ' S2 Fr/\Mv P H1 H' σ σ' S S2 []/\forL tg body (items.drop (i+1)) ρ2=some r,λσ' H' h=>⟨m-1,by omega,h⟩,λx H3 hy=>?_⟩
    obtain⟨s3,rx⟩:=wk.yld i items[i] (by simp[hil]) H2 _ (ltof (ρ2:=ρ2) m2) x H3 hy;rw[←List.getElem_cons_drop hil,forL]at e2;cases h3:tg items[i] ρ2 with
    |none=>simp[h3]at e2
    |some ρ3=>
     rw[h3]at e2;simp only[Option.bind_some]at e2;have st3:Sta G H3 ob ρ2 σ2 S2 Fr:=s2.grow s3 λa z=>.inl z;refine hg items[i] ρ2 ρ3 h3 x σ2 H3 S2 [] Fr (by rw[gM];exact st3) (by rw[gM];exact rx) List.nodup_nil (by simp) _ λσ4 H4 S4 s4 m4=>?_;have m24:Mv P H1 H4 σ σ4 S S4 []:=(m2.trans (S2:=S2) ⟨λb u h _ _=>s3 b u h,λi a z=>.inl ⟨i,z⟩,.refl⟩).trans m4;cases h5:body ρ3 with
     |none=>rw[h5]at e2;cases e2
     |some fl=>
      rw[h5]at e2;refine hb ρ3 fl h5 σ4 H4 S4 Fr s4 _ ?_;cases fl with
      |nx ρ5=>exact λσ' H' S' s' m'=>⟨by omega,ρ5,S',s',m24.trans m',e2⟩
      |cnt ρ5=>exact λσ' H' S' s' m'=>⟨by omega,ρ5,S',s',m24.trans m',e2⟩
      |brk ρ5=>cases e2;exact λσ' H' S' s' m'=>q1 σ' H' S' s' (m24.trans m')
      |ret d ρ5=>cases e2;exact q1.from m24
   .have hl:i=items.length:=by omega
    rw[hl,List.drop_length,forL]at e2;cases e2;subst hl;exact .inl ⟨wk.stop H2 _ (ltof (ρ2:=ρ2) m2),q1 σ2 H2 S2 s2 m2⟩
theorem gP{tg iter:Expr}{body:List Stmt}{pos:Pos}{it:En->Option (Bool×List D)}{g:D->En->Option En}{f:En->Option Fl}(hp:∀c,PassesOwn (model (X c).prog (X c).w) (X c).A (X c).env (X c).xe)(hc:∀c,(X c).calm=true)(hi:PVI X G ob tg iter it)(hg:PVG X G ob P tg g)(hb:uN X G ob P body f)(hs:∀c,∀x,foldedSetIterable iter (X c).env x=pure x:=by intro _;intro _;rfl):PVS X G ob P (.For tg iter body [] pos) (jr it g f):=let⟨v,c1,c2⟩:=hi.ex;let⟨t,a1,a2⟩:=hg.ex;let⟨u,b1,b2⟩:=hb.ex;⟨_,λc=>KD (hp c) (hc c) (c1 c) (a1 c) (b1 c) (hs c),N8 c2 a2 b2⟩
def yd(i:Nat)(ρ:En):Option En:=match ρ[i]? with
 |some (some d)=>some (ρ.set i (some (fz d)))
 |_=>none
theorem Sta.freeze{G:Gc}{H:Hp}{ρ ρ':En}{σ:L2.St}{S:Ad}{Fr:Addr->Prop}{i:Nat}(s:Sta G H ob ρ σ S Fr)(e:yd i ρ=some ρ'):Sta G H ob ρ' σ (iZ S i []) Fr:=by
 unfold yd at e;split at e
 .rename_i d h1
  cases e;obtain⟨v,h2,h3,h4,h5⟩:=s.move h1;have h6:Sta G H ob (ρ.set i none) σ (iZ S i []) Fr:=h4.lessF λa z=>.inr z;have hil:i<ρ.length:=(List.getElem?_eq_some_iff.mp h1).1;have rf:Rep G H (wn ob (iZ S i []) Fr) (fz d) v []:=by
   refine h5.fz ⟨λa f=>⟨λz=>f.1 (.inr z),f.2⟩,λa ha=>⟨λz=>s.fdj i a z ha,λ⟨j,q1,q2⟩=>?_,λ⟨j,q1,q2⟩=>?_⟩⟩ (.inl h3)
   .rcases dU q2 with⟨_,z⟩|⟨n,z⟩
    .cases z
    .exact n (s.dj j i a z ha)
   .rcases dU q2 with⟨_,z⟩|⟨n,z⟩
    .cases z
    .exact n (s.dj j i a z ha)
  refine⟨by simp[s.len],λj d' he=>?_,λj hj=>?_,h6.nd,h6.dj,h6.fdj,h6.fdm⟩
  .by_cases e':j=i
   .subst e'
    have:fz d=d':=by simpa[hil]using he
    subst this;exact⟨v,h2,by rw[eQ];exact rf,Jw d⟩
   .rw[List.getElem?_set_ne (Ne.symm e')]at he
    exact h6.sl j d' (by rw[List.getElem?_set_ne (Ne.symm e')];exact he)
  .by_cases e':j=i
   .rw[e',eQ]
   .exact h6.em j λd'=>by have:=hj d';rw[List.getElem?_set_ne (Ne.symm e')]at this⊢;exact this
 .cases e
def sFz(i:Nat)(f:En->Option Fl):En->Option Fl:=λρ=>(yd i ρ).bind f
theorem RC{t:TS}{f:En->Option Fl}{i:Nat}(h:RfS G ob P t f):RfS G ob P t (sFz i f):=λρ r e σ H S Fr s E q=>by
 unfold sFz at e;cases h1:yd i ρ with
 |none=>simp[h1]at e
 |some ρ1=>
  have e:f ρ1=some r:=by simpa[h1]using e
  have m:Mv P H H σ σ S (iZ S i []) []:=⟨λ_ _ h _ _=>h,λj a z=>(dU z).elim (λz=>by cases z.2) λz=>.inl ⟨j,z.2⟩,.refl⟩;exact h ρ1 r e σ H (iZ S i []) Fr (s.freeze h1) E (q.from m)
theorem jA(i:Nat){st:Stmt}{f:En->Option Fl}(h:PVS X G ob P st f):PVS X G ob P st (sFz i f):=let⟨t,a1,a2⟩:=h.ex;⟨t,a1,RC a2⟩
end
mutual
def gq:D->Bool
 |.tup ds=>gQ ds
 |.lst m ds=>m== .own&&gQ ds
 |.dct m _ ds=>m== .own&&gQ ds
 |.ins m _ _ ds=>m== .own&&gQ ds
 |_=>true
def gQ:List D->Bool
 |[]=>true
 |d::r=>gq d&&gQ r
end
section
variable{G:Gc}{H:Hp}{W W':Wn}
mutual
theorem Rep.own:∀{d:D}{v:V}{L:List Addr},Rep G H W d v L->gq d=true->Rep G H W' d v L
 |.non,v,L,h,_=>by rw[Rep]at h⊢;exact h
 |.bl _,v,L,h,_=>by rw[Rep]at h⊢;exact h
 |.int _,v,L,h,_=>by rw[Rep]at h⊢;exact h
 |.str _,v,L,h,_=>by rw[Rep]at h⊢;exact h
 |.ty _,v,L,h,_=>by rw[Rep]at h⊢;exact h
 |.tup ds,v,L,h,o=>by
  rw[Rep]at h⊢;obtain⟨a,xs,rfl,ht,hr⟩:=h;exact⟨a,xs,rfl,ht,aK.own hr (by simpa[gq]using o)⟩
 |.lst m ds,v,L,h,o=>by
  rw[Rep]at h⊢;obtain⟨a,xs,M,rfl,hr,hs⟩:=h;simp[gq]at o;obtain⟨rfl,o⟩:=o;exact⟨a,xs,M,rfl,aK.own hr o,hs⟩
 |.dct m ks ds,v,L,h,o=>by
  rw[Rep]at h⊢;obtain⟨a,xs,M,rfl,hk,hr,hs⟩:=h;simp[gq]at o;obtain⟨rfl,o⟩:=o;exact⟨a,xs,M,rfl,hk,aK.own hr o,hs⟩
 |.ins m c fs ds,v,L,h,o=>by
  rw[Rep]at h⊢;obtain⟨a,C,dx,xs,M,rfl,hC,hk,hr,hs⟩:=h;simp[gq]at o;obtain⟨rfl,o⟩:=o;exact⟨a,C,dx,xs,M,rfl,hC,hk,aK.own hr o,hs⟩
theorem aK.own:∀{ds:List D}{vs:List V}{L:List Addr},aK G H W ds vs L->gQ ds=true->aK G H W' ds vs L
 |[],vs,L,h,_=>by rw[aK]at h⊢;exact h
 |d::r,vs,L,h,o=>by
  obtain⟨x,ys,M,M',rfl,rfl,h1,h2⟩:=h.inv;simp[gQ]at o;exact .cons (Rep.own h1 o.1) (aK.own h2 o.2)
end
end
def W1(Fr:Addr->Prop):Wn:=⟨Fr,λ_=>False,λ_=>False⟩
def spP(G:Gc)(F:List D->Option D):Sp:=λvs H Q _=>∃(ds:List D)(Fr:Addr->Prop),aK G H (W1 Fr) ds vs []/\aH ds=true/\aJ ds=true/\(∀a,Fr a->Mu H a)/\∃d,F ds=some d/\
 ∀v H' L,Same H H'->Rep G H' (W1 (plus L Fr)) d v L->(∀a∈L,H a=none)->L.Nodup->clean d=true->Q v H'
def en0(n:Nat)(ds:List D):En:=ds.map some++List.replicate (n-ds.length) none
def fnP(np n:Nat)(body:En->Option Fl):List D->Option D:=λds=>if ds.length=np then(body (en0 n ds)).bind λr=>match r with
 |.ret d _=>some d
 |.nx _=>some .non
 |_=>none else none
theorem GF{n:Nat}{ds:List D}{i:Nat}{d:D}(h:(en0 n ds)[i]? =some (some d)):ds[i]? =some d:=by
 unfold en0 at h;by_cases hi:i<ds.length
 .rw[List.getElem?_append_left (by simpa using hi)]at h
  simpa using h
 .rw[List.getElem?_append_right (by simpa using Nat.le_of_not_lt hi)]at h
  rw[List.getElem?_replicate]at h;split at h
  .simp at h
  .cases h
theorem VH{G:Gc}{H:Hp}{ob:Nat->Bool}{ds:List D}{vs:List V}{N:List Str}{Fr:Addr->Prop}(r:aK G H (W1 Fr) ds vs [])(c1:aH ds=true)(c2:aJ ds=true)(fm:∀a,Fr a->Mu H a):Sta G H ob (en0 N.length ds) (L2.start N vs) (λ_=>[]) Fr where
 len:=by simp[en0,L2.start,r.length]
 sl:=λi d e=>by
  have e:=GF e;obtain⟨x,M,h1,h2,h3⟩:=r.get e;have:M=[]:=by simpa using h3
  subst this;refine⟨x,?_,h2.up ⟨Same.refl _,λb u hb f=>⟨f.1,λ⟨j,_,z⟩=>(by cases z),λ⟨j,_,z⟩=>(by cases z)⟩,λb u hb f=>f.elim⟩,by simp[clean,my c1 e,mj c2 e]⟩;unfold L2.start;have hi:i<vs.length:=(List.getElem?_eq_some_iff.mp h1).1;rw[List.getElem?_append_left (by simpa using hi)];simp[h1]
 em:=λ_ _=>rfl
 nd:=λ_=>List.nodup_nil
 dj:=λi j a h=>by cases h
 fdj:=λi a _ h=>by cases h
 fdm:=fm
section
variable{P:Program}{w:World}{K:PySem.W.Frag}{mg:Str->Option Value}{base:Heap}
theorem Tc{a:Addr}:¬inS (λ_=>[]) a:=λ⟨_,z⟩=>by cases z
theorem okP{x qual:Str}{st:Stmt}{f:Addr}{fd:FuncData}{N ps:List Str}{k:Nat}{ob Pr:Nat->Bool}{body:En->Option Fl}(F:Fun K x qual st f fd)(S:bC N ps (aB st))
  (hb:∀(cdv:Value)(A:Around)(outer:List Env)(s:Shared)(H:Hp)(E:XK),jK k (A.deeper (envOfC qual (aB st) s.heap.objs.size f cdv))->uN (λ_:Unit=>(Aq CX0 P w K mg base N qual (aB st) f cdv A outer s H E).nox) ⟨K,mg⟩ ob Pr (bw st) body) :
  fj P w K mg base CX0 (k+1) f fd ps (spP ⟨K,mg⟩ (fnP ps.length N.length body)):=by
 refine F.ok S (λvs H Q E h=>?_) (λcdv A outer s H vs Q E hr h=>?_)
 .obtain⟨ds,Fr,r,_,_,_,d,e,_⟩:=h
  unfold fnP at e;split at e
  .rename_i hl
   rw[←r.length];exact hl
  .cases e
 .obtain⟨ds,Fr,r,c1,c2,fm,d,e,q⟩:=h
  obtain⟨t,a1,a2⟩:=(hb cdv A outer s H E hr).ex;refine⟨t,a1 (),?_⟩;unfold fnP at e;split at e
  .cases h1:body (en0 N.length ds)with
   |none=>simp[h1]at e
   |some fl=>
    rw[h1]at e;simp only[Option.bind_some]at e;refine a2 _ fl h1 (L2.start N vs) H (λ_=>[]) Fr (VH (ob:=ob) r c1 c2 fm) _ ?_;have wle:∀{S':Ad}{M:List Addr}{b:Addr},(wn ob S' (plus M Fr)).free b->(W1 (plus M Fr)).free b:=λz=>⟨z.1,id,id⟩;cases fl with
    |nx ρ'=>
     cases e;exact λσ' H' S' s' m=>q .non H' [] (λb o h=>m.kp b o h Tc (by simp)) (by rw[Rep];exact⟨rfl,rfl⟩) (by simp) List.nodup_nil rfl
    |ret d' ρ'=>
     cases e;exact λv σ' H' M S' s' r' c n f m=>q v H' M (λb o h=>m.kp b o h Tc (by simp)) (by
      have hcc:=(by simpa[clean]using c:aG d=true/\aD d=true);have ev:Evo H' H' (wn ob S' (plus M Fr)) (W1 (plus M Fr)):=⟨λb u h z=>⟨h,wle z⟩,λ_ _ h=>h⟩;exact r'.mono ev (.inl hcc.1) (.inl hcc.2) λ_ _ _ h=>h) (λa ha=>(f a ha).resolve_left Tc) n c
    |brk ρ'=>cases e
    |cnt ρ'=>cases e
  .cases e
end
def fB(F:List D->Option D)(ds:List D):Option D:=(F (fzL ds)).bind λd=>if(aH ds&&aJ ds)||gq d then some d else none
theorem Ld{G:Gc}{F:List D->Option D}{E:XK}:CaV G (λvs H Q=>spP G F (vs++[]) H Q E) (fB F):=λds d e xs H W L0 r nd hn w Q q=>by
 unfold fB at e;cases h1:F (fzL ds)with
 |none=>simp[h1]at e
 |some d'=>
  rw[h1]at e;simp only[Option.bind_some]at e;split at e
  .rename_i hc
   cases e;rw[List.append_nil];by_cases hcl:aH ds=true/\aJ ds=true
   .refine⟨fzL ds,λa=>(W.n a∨W.s a∨W.o a)/\a∉L0,r.fz ⟨λa f=>⟨λz=>z.1.elim f.1 λz=>z.elim f.2.1 f.2.2,id,id⟩,λa ha=>⟨λz=>z.2 ha,id,id⟩⟩ (.inl hcl),iw ds,iG ds,λa h=>w a h.1,d,h1,λv H' L s r' fr n c=>?_⟩
    refine q v H' L s ?_ (λa ha=>.inr (fr a ha)) n;have hcc:=(by simpa[clean]using c:aG d=true/\aD d=true);have hL:∀a∈L,a∉L0:=λa ha z=>by
     obtain⟨o,ho,_⟩:=r.dom a z;rw[fr a ha]at ho;cases ho
    have ev:Evo H' H' (W1 (plus L λa=>(W.n a∨W.s a∨W.o a)/\a∉L0)) ((W.drop L0).add L):=⟨λb u h f=>⟨h,⟨λz=>z.elim (λz=>f.1 (.inl z)) λz=>f.1 (.inr ⟨.inl z.1,z.2⟩),λz=>f.1 (.inr ⟨.inr (.inl z),λy=>?_⟩),λz=>f.1 (.inr ⟨.inr (.inr z),λy=>?_⟩)⟩⟩,λ_ _ h=>h⟩
    .exact r'.mono ev (.inl hcc.1) (.inl hcc.2) λ_ _ _ h=>h
    .exact(hn b y).2.1 z
    .exact(hn b y).2.2 z
   .have ho:gq d=true:=by
     simp only[Bool.or_eq_true,Bool.and_eq_true]at hc;exact hc.resolve_left hcl
    refine⟨fzL ds,λ_=>False,r.fz ⟨λa f=>⟨id,id,id⟩,λa ha=>⟨id,id,id⟩⟩ (.inr λa=>⟨id,id,id⟩),iw ds,iG ds,λa h=>h.elim,d,h1,λv H' L s r' fr n c=>?_⟩;exact q v H' L s (r'.own ho) (λa ha=>.inr (fr a ha)) n
  .cases e
section
variable{ι:Type}{X:ι->Cx}{G:Gc}{ob:Nat->Bool}{e:Expr}{es:List Expr}{p pos:Pos}
theorem d7{k:Nat}{x:Str}{ps:List Str}{F:List D->Option D}{f:En->Option (List D)}(C:∀c,Cal (X c).prog (X c).w (X c).K (X c).mg (X c).base k x ps (spP G F))(hr:∀c,jK k (X c).A)(ha:PVA X G ob (e::es) f)(hg:∀c,Gl (X c) x:=by intro _;rfl)(hdb:(x==("__debug__":Str))=false:=by decide)(he:∀c,starEach (e::es) (X c).env=(false,eval e (X c).env)::starEach es (X c).env:=by intro _;rfl)(hpl:∀c,(backTo pos (starEach es (X c).env)).any (·.1)=false:=by intro _;rfl) :
 PV X G ob (.Call (.Name x p) (e::es) [] pos) (eAp (fB F) f):=let⟨t,a1,a2⟩:=ha.ex;⟨_,λc=>Jm (C c) (hr c) (hg c) (a1 c) hdb (he c) (hpl c),yl Ld a2⟩
end
section
variable{G:Gc}{H:Hp}{W W':Wn}
theorem dZ.fz2{Kx:Addr->HO->Prop}{a:Addr}{o:HO}{m:Mk}{L M:List Addr}(hs:Les H W W' L)(hb:m≠.brw∨∀a,W.s a->W'.free a)(ho:m≠.bro∨pq W')(h:dZ Kx H W a o m L M):dZ Kx H W' a o (mkF m) [] []:=by
 cases m with
 |own=>exact⟨h.1,hs.l a (by rw[h.2];simp),rfl,rfl⟩
 |frz=>exact⟨h.1,hs.f a h.2.1,rfl,rfl⟩
 |brw=>exact⟨h.1,hb.elim (λz=>absurd rfl z) λz=>z a h.2.1,rfl,rfl⟩
 |bro=>exact⟨h.1,ho.elim (λz=>absurd rfl z) λz=>z a,rfl,rfl⟩
 |scr=>exact⟨h.1.imp (λz=>⟨z.1,hs.f a z.2⟩) id,rfl,rfl⟩
mutual
theorem Rep.fz2:∀{d:D}{v:V}{L:List Addr},Rep G H W d v L->Les H W W' L->(aG d=true∨∀a,W.s a->W'.free a)->(aD d=true∨pq W')->Rep G H W' (fz d) v []
 |.non,v,L,h,_,_,_=>by rw[Rep]at h;simp[Jb.fz,Rep,h]
 |.bl _,v,L,h,_,_,_=>by rw[Rep]at h;simp[Jb.fz,Rep,h]
 |.int _,v,L,h,_,_,_=>by rw[Rep]at h;simp[Jb.fz,Rep,h]
 |.str _,v,L,h,_,_,_=>by rw[Rep]at h;simp[Jb.fz,Rep,h]
 |.ty _,v,L,h,_,_,_=>by rw[Rep]at h;simp[Jb.fz,Rep,h]
 |.tup ds,v,L,h,hs,c,o=>by
  rw[Rep]at h;rw[Jb.fz,Rep];obtain⟨a,xs,rfl,ht,hr⟩:=h;exact⟨a,xs,rfl,ht,aK.fz2 hr hs (by simpa[aG]using c) (by simpa[aD]using o)⟩
 |.lst m ds,v,L,h,he,c,o=>by
  rw[Rep]at h;rw[Jb.fz,Rep];obtain⟨a,xs,M,rfl,hr,hs⟩:=h;exact⟨a,xs,[],rfl,aK.fz2 hr (he.sub λc hc=>hs.sub.subset hc) (c.imp (λz=>by simp[aG]at z;exact z.2) id) (o.imp (λz=>by simp[aD]at z;exact z.2) id),hs.fz2 he (c.imp (λz=>by simp[aG]at z;exact z.1) id) (o.imp (λz=>by simp[aD]at z;exact z.1) id)⟩
 |.dct m ks ds,v,L,h,he,c,o=>by
  rw[Rep]at h;rw[Jb.fz,Rep];obtain⟨a,xs,M,rfl,hk,hr,hs⟩:=h;exact⟨a,xs,[],rfl,hk,aK.fz2 hr (he.sub λc hc=>hs.sub.subset hc) (c.imp (λz=>by simp[aG]at z;exact z.2) id) (o.imp (λz=>by simp[aD]at z;exact z.2) id),hs.fz2 he (c.imp (λz=>by simp[aG]at z;exact z.1) id) (o.imp (λz=>by simp[aD]at z;exact z.1) id)⟩
 |.ins m c' fs ds,v,L,h,he,c,o=>by
  rw[Rep]at h;rw[Jb.fz,Rep];obtain⟨a,C,dx,xs,M,rfl,hC,hk,hr,hs⟩:=h;exact⟨a,C,dx,xs,[],rfl,hC,hk,aK.fz2 hr (he.sub λc hc=>hs.sub.subset hc) (c.imp (λz=>by simp[aG]at z;exact z.2) id) (o.imp (λz=>by simp[aD]at z;exact z.2) id),hs.fz2 he (c.imp (λz=>by simp[aG]at z;exact z.1) id) (o.imp (λz=>by simp[aD]at z;exact z.1) id)⟩
theorem aK.fz2:∀{ds:List D}{vs:List V}{L:List Addr},aK G H W ds vs L->Les H W W' L->(aH ds=true∨∀a,W.s a->W'.free a)->(aJ ds=true∨pq W')->aK G H W' (fzL ds) vs []
 |[],vs,L,h,_,_,_=>by obtain⟨rfl,_⟩:=h.inv0;rw[fzL];exact .nil
 |d::r,vs,L,h,he,c,o=>by
  obtain⟨x,ys,M,M',rfl,rfl,h1,h2⟩:=h.inv;rw[fzL];exact .cons (M:=[]) (M':=[]) (Rep.fz2 h1 (he.sub λc hc=>List.mem_append_left _ hc) (c.imp (λz=>by simp[aH]at z;exact z.1) id) (o.imp (λz=>by simp[aJ]at z;exact z.1) id))
   (aK.fz2 h2 (he.sub λc hc=>List.mem_append_right _ hc) (c.imp (λz=>by simp[aH]at z;exact z.2) id) (o.imp (λz=>by simp[aJ]at z;exact z.2) id))
end
end
def spI(G:Gc)(ob pr:Nat->Bool)(F:List D->Option (D×List D)):Sp:=λvs H Q _=>∃(ds:List D)(S:Ad)(Fr:Addr->Prop),Sta G H ob (ds.map some) (vs.map some) S Fr/\(∀i,pr i=false->S i=[])/\∃d ds',F ds=some (d,ds')/\
 ∀v H' M S',Sta G H' ob (ds'.map some) (vs.map some) S' (plus M Fr)->Rep G H' (wn ob S' (plus M Fr)) d v M->clean d=true->M.Nodup->(∀a∈M,inS S a∨H a=none)->Mv (λ_=>false) H H' [] [] S S' []->Q v H'
def outs(pr:Nat->Bool)(ρ:En):Nat->List D->Option (List D)
 |_,[]=>some []
 |i,d::r=>(if pr i=true then(match ρ[i]? with
  |some (some e)=>some e
  |_=>none)else some d).bind λe=>(outs pr ρ (i+1) r).map λt=>e::t
def fnI(pr:Nat->Bool)(np n:Nat)(body:En->Option Fl):List D->Option (D×List D):=λds=>if ds.length=np then(body (en0 n ds)).bind λr=>match r with
 |.ret d ρ=>(outs pr ρ 0 ds).map λo=>(d,o)
 |.nx ρ=>(outs pr ρ 0 ds).map λo=>(.non,o)
 |_=>none else none
theorem Gw{pr:Nat->Bool}{ρ:En}:∀{ds ds':List D}{k:Nat},outs pr ρ k ds=some ds'->ds'.length=ds.length/\∀i d,ds'[i]? =some d->(pr (k+i)=true/\ρ[k+i]? =some (some d))∨(pr (k+i)=false/\ds[i]? =some d)
 |[],ds',k,e=>by
  cases e;exact⟨rfl,λi d h=>by simp at h⟩
 |d0::r,ds',k,e=>by
  rw[outs]at e;cases h2:outs pr ρ (k+1) r with
  |none=>
   rw[h2]at e;simp at e
  |some t=>
   rw[h2]at e;obtain⟨l1,l2⟩:=Gw h2;have key:∃e0,ds'=e0::t/\((pr k=true/\ρ[k]? =some (some e0))∨(pr k=false/\d0=e0)):=by
    split at e
    .rename_i hp
     split at e
     .rename_i e0 h0
      exact⟨e0,by simpa using e.symm,.inl ⟨hp,h0⟩⟩
     .simp at e
    .rename_i hp
     exact⟨d0,by simpa using e.symm,.inr ⟨by simpa using hp,rfl⟩⟩
   obtain⟨e0,rfl,hk⟩:=key;refine⟨by simp[l1],λi d h=>?_⟩;cases i with
   |zero=>
    have:e0=d:=by simpa using h
    subst this;exact hk.imp id λz=>⟨z.1,by simp[z.2]⟩
   |succ i=>
    have:=l2 i d (by simpa using h);rw[show k+1+i=k+(i+1)by omega]at this;simpa using this
theorem mz{α:Type}{xs:List α}{i:Nat}{x:α}(h:(xs.map some)[i]? =some (some x)):xs[i]? =some x:=by
 rw[List.getElem?_map]at h;cases e:xs[i]? with
 |none=>rw[e]at h;cases h
 |some y=>rw[e]at h;simpa using h
theorem gj{α:Type}{xs:List α}{i:Nat}{x:α}(h:xs[i]? =some x):(xs.map some)[i]? =some (some x):=by rw[List.getElem?_map,h];rfl
theorem Vz{G:Gc}{H:Hp}{ob:Nat->Bool}{ds:List D}{vs:List V}{N:List Str}{S:Ad}{Fr:Addr->Prop}(s:Sta G H ob (ds.map some) (vs.map some) S Fr):Sta G H ob (en0 N.length ds) (L2.start N vs) S Fr where
 len:=by have:=s.len;simp at this;simp[en0,L2.start,this]
 sl:=λi d e=>by
  obtain⟨v,h1,h2,h3⟩:=s.sl i d (gj (GF e));refine⟨v,?_,h2,h3⟩;unfold L2.start;have hi:i<(vs.map some).length:=(List.getElem?_eq_some_iff.mp h1).1;rw[List.getElem?_append_left hi];exact h1
 em:=λi h=>s.em i λd e=>h d (by
  unfold en0;have hi:i<(ds.map some).length:=(List.getElem?_eq_some_iff.mp e).1;rw[List.getElem?_append_left hi];exact e)
 nd:=s.nd
 dj:=s.dj
 fdj:=s.fdj
 fdm:=s.fdm
section
variable{P:Program}{w:World}{K:PySem.W.Frag}{mg:Str->Option Value}{base:Heap}
theorem Cm{G:Gc}{H H':Hp}{ob pr:Nat->Bool}{ds ds':List D}{vs:List V}{N:List Str}{S S1:Ad}{Fr:Addr->Prop}{ρ:En}{σ:L2.St}{M:List Addr}(s:Sta G H ob (ds.map some) (vs.map some) S Fr)(hp:∀i,pr i=false->S i=[])(s1:Sta G H' ob ρ σ S1 (plus M Fr))
  (m:Mv pr H H' (L2.start N vs) σ S S1 []) (hM:∀a∈M,inS S a∨H a=none) (e:outs pr ρ 0 ds=some ds') :
  Sta G H' ob (ds'.map some) (vs.map some) (λi=>if pr i=true/\i<ds.length then S1 i else[]) (plus M Fr):=by
 obtain⟨hl,hg⟩:=Gw e;have lv:ds.length=vs.length:=by have:=s.len;simpa using this
 have sub:∀{i a},a∈(if pr i=true/\i<ds.length then S1 i else[])->a∈S1 i:=λ{i a} z=>by
  split at z
  .exact z
  .cases z
 refine⟨by simp[hl,lv],λi d h=>?_,λi h=>?_,λi=>?_,λi j a h1 h2=>s1.dj i j a (sub h1) (sub h2),λi a h z=>s1.fdj i a h (sub z),s1.fdm⟩
 .have h:=mz h
  have hi:i<ds.length:=by rw[←hl];exact(List.getElem?_eq_some_iff.mp h).1
  rcases hg i d h with⟨h1,h2⟩|⟨h1,h2⟩
  .rw[Nat.zero_add]at h1 h2
   obtain⟨v,q1,q2,q3⟩:=s1.sl i d h2;have e1:=m.pr i h1;rw[q1]at e1;refine⟨v,?_,?_,q3⟩
   .unfold L2.start at e1
    rw[List.getElem?_append_left (by simp;omega)]at e1;exact e1.symm
   .rw[if_pos ⟨h1,hi⟩]
    have hcc:=(by simpa[clean]using q3:aG d=true/\aD d=true);have ev:Evo H' H' (wn ob S1 (plus M Fr)) (wn ob (λi=>if pr i=true/\i<ds.length then S1 i else[]) (plus M Fr)):=⟨λb u hb f=>⟨hb,⟨f.1,λ⟨j,z1,z2⟩=>f.2.1 ⟨j,z1,sub z2⟩,λ⟨j,z1,z2⟩=>f.2.2 ⟨j,z1,sub z2⟩⟩⟩,λ_ _ h=>h⟩;exact q2.mono ev (.inl hcc.1) (.inl hcc.2) λ_ _ _ h=>h
  .rw[Nat.zero_add]at h1
   obtain⟨v,q1,q2,q3⟩:=s.sl i d (gj h2);refine⟨v,q1,?_,q3⟩;rw[if_neg λz=>by rw[h1]at z;cases z.1];rw[hp i h1]at q2;have hcc:=(by simpa[clean]using q3:aG d=true/\aD d=true);have ev0:=D_ s (σ2:=σ) (H2:=H') (S2:=S1) (P:=λ_=>false) ⟨m.kp,m.gr,λi h=>by cases h⟩;have ev:Evo H H' (wn ob S Fr) (wn ob (λi=>if pr i=true/\i<ds.length then S1 i else[]) (plus M Fr)):=⟨λb u hb f=>?_,ev0.t⟩
   .exact q2.mono ev (.inl hcc.1) (.inl hcc.2) (by simp)
   .obtain⟨k1,k2⟩:=ev0.k b u hb f
    refine⟨k1,λz=>z.elim (λz=>?_) f.1,λ⟨j,z1,z2⟩=>k2.2.1 ⟨j,z1,sub z2⟩,λ⟨j,z1,z2⟩=>k2.2.2 ⟨j,z1,sub z2⟩⟩;rcases hM b z with⟨j,y⟩|y
    .cases ho:ob j with
     |false=>exact f.2.1 ⟨j,ho,y⟩
     |true=>exact f.2.2 ⟨j,ho,y⟩
    .rw[hb]at y;cases y
 .split
  .rename_i z
   exfalso;have hi:i<ds'.length:=by rw[hl];exact z.2
   exact h ds'[i] (gj (by simp[hi]))
  .rfl
 .show(if pr i=true/\i<ds.length then S1 i else[]).Nodup
  split
  .exact s1.nd i
  .exact List.nodup_nil
theorem okI{x qual:Str}{st:Stmt}{f:Addr}{fd:FuncData}{N ps:List Str}{k:Nat}{ob pr:Nat->Bool}{body:En->Option Fl}(F:Fun K x qual st f fd)(S:bC N ps (aB st))
  (hb:∀(cdv:Value)(A:Around)(outer:List Env)(s:Shared)(H:Hp)(E:XK),jK k (A.deeper (envOfC qual (aB st) s.heap.objs.size f cdv))->uN (λ_:Unit=>(Aq CX0 P w K mg base N qual (aB st) f cdv A outer s H E).nox) ⟨K,mg⟩ ob pr (bw st) body) :
  fj P w K mg base CX0 (k+1) f fd ps (spI ⟨K,mg⟩ ob pr (fnI pr ps.length N.length body)):=by
 refine F.ok S (λvs H Q E h=>?_) (λcdv A outer s H vs Q E hr h=>?_)
 .obtain⟨ds,S,Fr,st,_,d,ds',e,_⟩:=h
  unfold fnI at e;split at e
  .rename_i hl
   have:=st.len;simp at this;rw[←this];exact hl
  .cases e
 .obtain⟨ds,S0,Fr,st,hp,d,ds',e,q⟩:=h
  obtain⟨t,a1,a2⟩:=(hb cdv A outer s H E hr).ex;refine⟨t,a1 (),?_⟩;unfold fnI at e;split at e
  .cases h1:body (en0 N.length ds)with
   |none=>simp[h1]at e
   |some fl=>
    rw[h1]at e;simp only[Option.bind_some]at e;refine a2 _ fl h1 (L2.start N vs) H S0 Fr (Vz st) _ ?_;have sub:∀{S1:Ad}{i a},a∈(if pr i=true/\i<ds.length then S1 i else[])->a∈S1 i:=λ{S1 i a} z=>by
     split at z
     .exact z
     .cases z
    cases fl with
    |nx ρ'=>
     cases h2:outs pr ρ' 0 ds with
     |none=>simp[h2]at e
     |some o=>
      obtain⟨rfl,rfl⟩:D.non=d/\o=ds':=by simpa[h2]using e
      refine λσ' H' S1 s1 m=>q .non H' [] _ (Cm st hp (M:=[]) (by rw[gM];exact s1) m (by simp) h2) (by rw[Rep];exact⟨rfl,rfl⟩) rfl List.nodup_nil (by simp) ⟨m.kp,λi a z=>m.gr i a (sub z),λi h=>by cases h⟩
    |ret d' ρ'=>
     cases h2:outs pr ρ' 0 ds with
     |none=>simp[h2]at e
     |some o=>
      obtain⟨rfl,rfl⟩:d'=d/\o=ds':=by simpa[h2]using e
      refine λv σ' H' M S1 s1 r c n f m=>q v H' M _ (Cm st hp s1 m f h2) ?_ c n f ⟨m.kp,λi a z=>m.gr i a (sub z),λi h=>by cases h⟩;have hcc:=(by simpa[clean]using c:aG d'=true/\aD d'=true);have ev:Evo H' H' (wn ob S1 (plus M Fr)) (wn ob (λi=>if pr i=true/\i<ds.length then S1 i else[]) (plus M Fr)):=⟨λb u hb f=>⟨hb,⟨f.1,λ⟨j,z1,z2⟩=>f.2.1 ⟨j,z1,sub z2⟩,λ⟨j,z1,z2⟩=>f.2.2 ⟨j,z1,sub z2⟩⟩⟩,λ_ _ h=>h⟩;exact r.mono ev (.inl hcc.1) (.inl hcc.2) λ_ _ _ h=>h
    |brk ρ'=>cases e
    |cnt ρ'=>cases e
  .cases e
end
def RfM(G:Gc)(ob:Nat->Bool)(t:TA)(js:List Nat)(f:En->Option (List D×En)):Prop:=∀(ρ:En)(ds:List D)(ρ':En),f ρ=some (ds,ρ')->∀(σ:L2.St)(H:Hp)(S:Ad)(Fr:Addr->Prop),Sta G H ob ρ σ S Fr->
 ∀us:List V,js.map (λj=>σ[j]?)=us.map (λu=>some (some u))->∀Q:List V->Hp->Prop,
 (∀vs H' M S',Sta G H' ob ρ' σ S' (plus M Fr)->aK G H' (wn ob S' (plus M Fr)) ds vs M->M.Nodup->Eff ob H H' S S' M->Q (us++vs) H')->t σ H Q
structure PVM{ι:Type}(X:ι->Cx)(G:Gc)(ob:Nat->Bool)(es:List Expr)(js:List Nat)(f:En->Option (List D×En)):Prop where
 mk::(ex:∃t,(∀c,PA (X c) es t)/\RfM G ob t js f)
section
variable{ι:Type}{X:ι->Cx}{G:Gc}{ob:Nat->Bool}
theorem aR{es:List Expr}{f:En->Option (List D×En)}(h:w6 X G ob es f):PVM X G ob es [] f:=by
 obtain⟨t,a1,a2⟩:=h.ex;refine⟨t,a1,λρ ds ρ' e σ H S Fr s us hu Q q=>?_⟩;have:us=[]:=by simpa using hu
 subst this;exact a2 ρ ds ρ' e σ H S Fr s Q q
theorem aQ(i:Nat){x:Str}{pos:Pos}{es:List Expr}{js:List Nat}{f:En->Option (List D×En)}(h:PVM X G ob es js f)(hN:∀c,(X c).N[i]? =some x:=by intro _;rfl)(hv:∀c,Vis (X c).env.scope x:=by intro _;first|exact Or.inl rfl|exact Or.inr (Or.inl rfl)|exact Or.inr (Or.inr rfl))(hd:(x==("__debug__":Str))=false:=by decide)(hcd:(x==("__classdict__":Str))=false:=by decide)(hs:∀c,starEach (.Name x pos::es) (X c).env=(false,eval (.Name x pos) (X c).env)::starEach es (X c).env:=by intro _;rfl):PVM X G ob (.Name x pos::es) (i::js) f:=by
 obtain⟨t,a1,a2⟩:=h.ex;refine⟨_,λc=>zA (pv i (hN c) (hv c) hd hcd) (a1 c) (hs c),λρ ds ρ' e σ H S Fr s us hu Q q=>?_⟩;cases us with
 |nil=>simp at hu
 |cons u us=>
  rw[List.map_cons,List.map_cons]at hu;injection hu with h1 h2;exact⟨u,h1,a2 ρ ds ρ' e σ H S Fr s us h2 _ λvs H' M S' s' r n ef=>q vs H' M S' s' r n ef⟩
def objs(js:List Nat)(ρ:En):Option (List D):=js.mapM λj=>ρ[j]?.bind id
def ou:List Nat->List D->En->En
 |j::js,d::ds,ρ=>ou js ds (ρ.set j (some d))
 |_,_,ρ=>ρ
def eIo(F:List D->Option (D×List D))(js:List Nat)(f:En->Option (List D×En)):En->Option (D×En):=λρ=>if(objs js ρ).isSome=true then(f ρ).bind λp=>(objs js p.2).bind λos=>if aJ p.1=true then(F (os++fzL p.1)).bind λq=>
 if aH p.1=true∨(gq q.1=true/\gQ (q.2.take js.length)=true)then some (q.1,ou js q.2 p.2)else none else none else none
theorem zg{ρ:En}:∀{js:List Nat}{os:List D},objs js ρ=some os->os.length=js.length/\∀(k j:Nat),js[k]? =some j->∃d,os[k]? =some d/\ρ[j]? =some (some d)
 |[],os,h=>by
  have:os=[]:=by simpa[objs]using h.symm
  subst this;exact⟨rfl,λk j h=>by simp at h⟩
 |j::js,os,h=>by
  unfold objs at h;rw[List.mapM_cons]at h;cases h1:ρ[j]?.bind id with
  |none=>simp[h1]at h
  |some d=>
   cases h2:js.mapM (λj=>ρ[j]?.bind id)with
   |none=>simp[h1,h2]at h
   |some t=>
    have:os=d::t:=by simpa[h1,h2]using h.symm
    subst this;obtain⟨l,g⟩:=zg (js:=js) (os:=t) h2;refine⟨by simp[l],λk i e=>?_⟩;cases k with
    |zero=>
     have:j=i:=by simpa using e
     subst this;refine⟨d,rfl,?_⟩;cases h3:ρ[j]? with
     |none=>rw[h3]at h1;cases h1
     |some o=>rw[h3]at h1;simpa using h1
    |succ k=>simpa using g k i (by simpa using e)
theorem yu:∀(js:List Nat)(ds:List D)(ρ:En),(ou js ds ρ).length=ρ.length
 |[],ds,ρ=>by cases ds<;>rfl
 |_::_,[],ρ=>rfl
 |j::js,d::ds,ρ=>by rw[ou,yu js ds];simp
theorem o5:∀{js:List Nat}{ds:List D}{ρ:En}{j:Nat},j∉js->(ou js ds ρ)[j]? =ρ[j]?
 |[],ds,ρ,j,_=>by cases ds<;>rfl
 |_::_,[],ρ,j,_=>rfl
 |i::js,d::ds,ρ,j,h=>by
  rw[ou,o5 (λz=>h (List.mem_cons_of_mem _ z)),List.getElem?_set_ne λz=>h (by rw[z];exact List.mem_cons_self)]
theorem wg:∀{js:List Nat}{ds:List D}{ρ:En}{k j:Nat}{d:D},js.Nodup->js[k]? =some j->ds[k]? =some d->j<ρ.length->(ou js ds ρ)[j]? =some (some d)
 |[],ds,ρ,k,j,d,_,h,_,_=>by simp at h
 |_::_,[],ρ,k,j,d,_,_,h,_=>by simp at h
 |i::js,d0::ds,ρ,k,j,d,n,h1,h2,hl=>by
  rw[ou];cases k with
  |zero=>
   have e1:i=j:=by simpa using h1
   have e2:d0=d:=by simpa using h2
   subst e1 e2;rw[o5 (List.nodup_cons.mp n).1];simp[hl]
  |succ k=>exact wg (List.nodup_cons.mp n).2 (by simpa using h1) (by simpa using h2) (by simpa using hl)
def pick(S:Ad)(js:List Nat):Ad:=λi=>match js[i]? with
 |some j=>S j
 |none=>[]
theorem jt{S:Ad}{js:List Nat}{i:Nat}{a:Addr}(h:a∈pick S js i):∃j,js[i]? =some j/\a∈S j:=by
 unfold pick at h;split at h
 .rename_i j e;exact⟨j,e,h⟩
 .cases h
def back(S:Ad)(js:List Nat)(Sc:Ad):Ad:=λj=>match js.idxOf? j with
 |some i=>Sc i
 |none=>S j
theorem wA{js:List Nat}{j i:Nat}(h:js.idxOf? j=some i):js[i]? =some j:=by
 obtain⟨h1,h2,h3⟩:=List.findIdx?_eq_some_iff_getElem.mp h;have:js[i]=j:=by simpa using h2
 rw[List.getElem?_eq_getElem h1,this]
theorem CK{js:List Nat}{j:Nat}(h:js.idxOf? j=none):j∉js:=by
 intro z;have:=List.findIdx?_eq_none_iff.mp h j z;simp at this
theorem QZ{js:List Nat}(n:js.Nodup){i j:Nat}(h:js[i]? =some j):js.idxOf? j=some i:=by
 cases e:js.idxOf? j with
 |none=>exact absurd (List.mem_of_getElem? h) (CK e)
 |some k=>
  have:=wA e;have hk:k<js.length:=(List.getElem?_eq_some_iff.mp this).1;rw[(List.getElem?_inj hk n).mp (this.trans h.symm)]
theorem NT{S Sc:Ad}{js:List Nat}(n:js.Nodup){i j:Nat}(h:js[i]? =some j):back S js Sc j=Sc i:=by unfold back;rw[QZ n h]
theorem zY{S Sc:Ad}{js:List Nat}{j:Nat}(h:j∉js):back S js Sc j=S j:=by
 unfold back;split
 .rename_i i e;exact absurd (List.mem_of_getElem? (wA e)) h
 .rfl
theorem lG{S Sc:Ad}{js:List Nat}{j:Nat}{a:Addr}(h:a∈back S js Sc j):(∃i,js[i]? =some j/\a∈Sc i)∨(j∉js/\a∈S j):=by
 unfold back at h;split at h
 .rename_i i e;exact .inl ⟨i,wA e,h⟩
 .rename_i e;exact .inr ⟨CK e,h⟩
theorem zE{ds:List D}{k i:Nat}{d:D}(h:gQ (ds.take k)=true)(e:ds[i]? =some d)(hi:i<k):gq d=true:=by
 induction ds generalizing k i with
 |nil=>simp at e
 |cons a r ih=>
  cases k with
  |zero=>omega
  |succ k=>
   rw[List.take_succ_cons,gQ,Bool.and_eq_true]at h;cases i with
   |zero=>
    have:a=d:=by simpa using e
    rw[←this];exact h.1
   |succ i=>exact ih h.2 (by simpa using e) (by omega)
theorem Gh{σ:L2.St}:∀{js:List Nat},(∀j∈js,∃u,σ[j]? =some (some u))->∃us:List V,js.map (λj=>σ[j]?)=us.map (λu=>some (some u))
 |[],_=>⟨[],rfl⟩
 |j::js,h=>by
  obtain⟨us,hu⟩:=Gh (js:=js) λi hi=>h i (List.mem_cons_of_mem _ hi);obtain⟨u,hu0⟩:=h j List.mem_cons_self;exact⟨u::us,by rw[List.map_cons,List.map_cons,hu,hu0]⟩
theorem RV{oc pr:Nat->Bool}{F:List D->Option (D×List D)}{t:TA}{js:List Nat}{f:En->Option (List D×En)}(hj:js.Nodup)(ho:∀j∈js,ob j=true)(hp:∀i,i<js.length->pr i=true)(h:RfM G ob t js f){E:XK} :
  kh G ob (λσ H Q=>t σ H λvs H1=>spI G oc pr F (vs++[]) H1 Q E) (eIo F js f):=λρ d ρ' e σ H S Fr s Q q=>by
 unfold eIo at e;split at e
 .rename_i hsome
  cases h0:objs js ρ with
  |none=>rw[h0]at hsome;cases hsome
  |some os0=>
   cases h1:f ρ with
   |none=>simp[h1]at e
   |some p=>
    obtain⟨ds,ρ1⟩:=p;rw[h1]at e;simp only[Option.bind_some]at e;cases h2:objs js ρ1 with
    |none=>simp[h2]at e
    |some os=>
     rw[h2]at e;simp only[Option.bind_some]at e;split at e
     .rename_i hbro
      cases h3:F (os++fzL ds)with
      |none=>simp[h3]at e
      |some z=>
       obtain⟨d1,ds1⟩:=z;rw[h3]at e;simp only[Option.bind_some]at e;split at e
       .rename_i hcl
        obtain⟨rfl,rfl⟩:d1=d/\ou js ds1 ρ1=ρ':=by simpa using e
        obtain⟨l0,g0⟩:=zg h0;obtain⟨l1,g1⟩:=zg h2;have hus:∃us:List V,js.map (λj=>σ[j]?)=us.map (λu=>some (some u)):=by
         have:∀j∈js,∃u,σ[j]? =some (some u):=λj hj=>by
          obtain⟨k,hk⟩:=List.mem_iff_getElem?.mp hj;obtain⟨d0,_,q2⟩:=g0 k j hk;obtain⟨v,q3,_⟩:=s.sl j d0 q2;exact⟨v,q3⟩
         exact Gh this
        obtain⟨us,hus⟩:=hus;have hul:us.length=js.length:=by have:=congrArg List.length hus;simpa using this.symm
        have hua:∀(k j:Nat)(u:V),js[k]? =some j->us[k]? =some u->σ[j]? =some (some u):=λk j u h1 h2=>by
         have:=congrArg (λl=>l[k]?) hus;simp only[List.getElem?_map,h1,h2,Option.map_some,Option.some.injEq]at this;exact this
        refine h ρ ds ρ1 h1 σ H S Fr s us hus _ λvs H1 M S1 s1 r1 nd1 ef1=>?_;rw[List.append_nil];have hSc:∀{i a},a∈pick S1 js i->inO ob S1 a:=λ{i a} z=>by
         obtain⟨j,e,y⟩:=jt z;exact⟨j,ho j (List.mem_of_getElem? e),y⟩
        have hScin:∀{a},inS (pick S1 js) a->inO ob S1 a:=λ⟨i,z⟩=>hSc z;have owned:∀{i a},a∈S1 i->¬(wn ob S1 (plus M Fr)).free a:=λ{i a} z f=>by
         cases hoi:ob i with
         |false=>exact f.2.1 ⟨i,hoi,z⟩
         |true=>exact f.2.2 ⟨i,hoi,z⟩
        let Frc:Addr->Prop:=λa=>aH ds=true/\((Fr a∨inS S1 a)/\¬inS (pick S1 js) a)
        have frees:∀a,(wn ob S1 (plus M Fr)).free a->(wn oc (pick S1 js) Frc).free a:=λa f=>by
         refine⟨λz=>?_,λ⟨i,_,z⟩=>?_,λ⟨i,_,z⟩=>?_⟩
         .rcases z.2.1 with y|⟨i,y⟩
          .exact f.1 (.inr y)
          .exact owned y f
         .exact f.2.2 (hSc z)
         .exact f.2.2 (hSc z)
        have hFM:∀a∈M,¬Fr a:=λa ha z=>by
         rcases ef1.fm a ha with y|y
         .exact s.notO z y
         .obtain⟨o,ho,_⟩:=s.fdm a z
          rw[y]at ho;cases ho
        have mfree:∀a∈M,(wn oc (pick S1 js) Frc).free a:=λa ha=>by
         refine⟨λz=>?_,λ⟨i,_,z⟩=>?_,λ⟨i,_,z⟩=>?_⟩
         .rcases z.2.1 with y|⟨i,y⟩
          .exact hFM a ha y
          .exact s1.fdj i a (.inl ha) y
         .obtain⟨j,_,y⟩:=jt z;exact s1.fdj j a (.inl ha) y
         .obtain⟨j,_,y⟩:=jt z;exact s1.fdj j a (.inl ha) y
        have rfz:aK G H1 (wn oc (pick S1 js) Frc) (fzL ds) vs []:=by
         refine r1.fz2 ⟨frees,mfree⟩ ?_ (.inl hbro);by_cases hbw:aH ds=true
         .exact .inl hbw
         .refine .inr λa ha=>⟨λz=>hbw z.1,λ⟨i,_,z⟩=>?_,λ⟨i,_,z⟩=>?_⟩
          .obtain⟨i1,o1,y1⟩:=ha
           obtain⟨i2,o2,y2⟩:=hSc z;rw[s1.dj i1 i2 a y1 y2,o2]at o1;cases o1
          .obtain⟨i1,o1,y1⟩:=ha
           obtain⟨i2,o2,y2⟩:=hSc z;rw[s1.dj i1 i2 a y1 y2,o2]at o1;cases o1
        have sc:Sta G H1 oc ((os++fzL ds).map some) ((us++vs).map some) (pick S1 js) Frc:=by
         refine⟨by simp[l1,hul,rfz.length],λi d0 hi=>?_,λi hi=>?_,λi=>?_,λi k a h1 h2=>?_,λi a h1 h2=>h1.2.2 ⟨i,h2⟩,λa ha=>?_⟩
         .have hi:=mz hi
          by_cases hlt:i<js.length
          .obtain⟨dd,q1,q2⟩:=g1 i js[i] (by simp[hlt])
           rw[List.getElem?_append_left (by omega),q1]at hi;cases hi;obtain⟨v,q3,q4,q5⟩:=s1.sl _ _ q2;have hcc:=(by simpa[clean]using q5:aG d0=true/\aD d0=true);have huk:∃u,us[i]? =some u:=⟨us[i],by simp[hul,hlt]⟩;obtain⟨u,hu⟩:=huk;have:=hua i js[i] u (by simp[hlt]) hu;rw[q3]at this;cases this;refine⟨v,gj (by rw[List.getElem?_append_left (by omega)];exact hu),?_,q5⟩;have:pick S1 js i=S1 js[i]:=by unfold pick;rw[List.getElem?_eq_getElem hlt]
           rw[this];have ev:Evo H1 H1 (wn ob S1 (plus M Fr)) (wn oc (pick S1 js) Frc):=⟨λb u h f=>⟨h,frees b f⟩,λ_ _ h=>h⟩;exact q4.mono ev (.inl hcc.1) (.inl hcc.2) λ_ _ _ h=>h
          .rw[List.getElem?_append_right (by omega)]at hi
           obtain⟨x,M',q1,q2,q3⟩:=rfz.get hi;have:M'=[]:=by simpa using q3
           subst this;refine⟨x,gj (by rw[List.getElem?_append_right (by omega),hul,←l1];exact q1),?_,by simp[clean,my (iw ds) hi,mj (iG ds) hi]⟩;have:pick S1 js i=[]:=by unfold pick;rw[List.getElem?_eq_none (by omega)]
           rw[this];exact q2
         .unfold pick
          split
          .rename_i j hj'
           exfalso;obtain⟨dd,q1,q2⟩:=g1 i j hj';exact hi dd (gj (by rw[List.getElem?_append_left (by rw[l1];exact(List.getElem?_eq_some_iff.mp hj').1)];exact q1))
          .rfl
         .unfold pick
          split
          .exact s1.nd _
          .exact List.nodup_nil
         .obtain⟨j1,e1,y1⟩:=jt h1
          obtain⟨j2,e2,y2⟩:=jt h2;have:=s1.dj j1 j2 a y1 y2;rw[this,←e2]at e1;exact(List.getElem?_inj (by
           cases hh:js[i]? with
           |none=>rw[hh,e2]at e1;cases e1
           |some _=>exact(List.getElem?_eq_some_iff.mp hh).1) hj).mp e1
         .rcases ha.2.1 with y|⟨i,y⟩
          .exact s1.fdm a (.inr y)
          .exact s1.mu y
        refine⟨os++fzL ds,pick S1 js,Frc,sc,λi hi=>?_,d1,ds1,h3,λv H2 Mc Sc s2 r2 c2 n2 fm2 m2=>?_⟩
        .unfold pick
         split
         .rename_i j hj'
          rw[hp i (List.getElem?_eq_some_iff.mp hj').1]at hi;cases hi
         .rfl
        .have l2:ds1.length=(os++fzL ds).length:=by
          have h1:=s2.len;have h2:=sc.len;simp only[List.length_map]at h1 h2;rw[h1,←h2]
         have kept:∀b u,H1 b=some u->¬inS (pick S1 js) b->H2 b=some u:=λb u hb n=>m2.kp b u hb n (by simp);have newc:∀{i b},b∈Sc i->inS (pick S1 js) b∨H1 b=none:=λ{i b} z=>(m2.gr i b z).imp id λy=>y.resolve_left (by simp);have nfr:∀{b},Fr b->¬inS (pick S1 js) b:=λ{b} z ⟨i,y⟩=>by obtain⟨j,_,y⟩:=jt y;exact s1.fdj j b (.inr z) y
         have notin:∀{j b},j∉js->b∈S1 j->¬inS (pick S1 js) b:=λ{j b} hn z ⟨i,y⟩=>by
          obtain⟨k,e,y⟩:=jt y;rw[s1.dj j k b z y]at hn;exact hn (List.mem_of_getElem? e)
         have mu1:∀{i b},b∈S1 i->H1 b≠none:=λ{i b} z y=>by obtain⟨o,ho,_⟩:=s1.mu z;rw[y]at ho;cases ho
         have ev:Evo H1 H2 (wn ob S1 (plus M Fr)) (wn ob (back S1 js Sc) (plus Mc Fr)):=by
          refine⟨λb u hb f=>?_,λb xs h=>?_⟩
          .have n1:¬inS (pick S1 js) b:=λz=>f.2.2 (hScin z)
           have n2:∀i,b∉back S1 js Sc i:=λi z=>by
            rcases lG z with⟨k,_,y⟩|⟨_,y⟩
            .rcases newc y with y|y
             .exact n1 y
             .rw[hb]at y;cases y
            .exact owned y f
           refine⟨kept b u hb n1,λz=>?_,λ⟨i,_,z⟩=>n2 i z,λ⟨i,_,z⟩=>n2 i z⟩;rcases z with z|z
           .rcases fm2 b z with y|y
            .exact n1 y
            .rw[hb]at y;cases y
           .exact f.1 (.inr z)
          .have no:∀u,H1 b=some u->muO u=false->H2 b=some u:=λu hu mu=>kept b u hu λ⟨i,z⟩=>by
            obtain⟨j,_,z⟩:=jt z;obtain⟨o,ho,hm⟩:=s1.mu z;rw[hu]at ho;cases ho;rw[mu]at hm;cases hm
           exact no _ h rfl
         have conv:∀(e:D)(x:V)(L:List Addr),(aH ds=true∨gq e=true)->clean e=true->Rep G H2 (wn oc Sc (plus Mc Frc)) e x L->Rep G H2 (wn ob (back S1 js Sc) (plus Mc Fr)) e x L:=λe x L hc hcl r=>by
          rcases hc with hc|hc
          .have hcc:=(by simpa[clean]using hcl:aG e=true/\aD e=true)
           have ev':Evo H2 H2 (wn oc Sc (plus Mc Frc)) (wn ob (back S1 js Sc) (plus Mc Fr)):=⟨λb u hb f=>?_,λ_ _ h=>h⟩
           .exact r.mono ev' (.inl hcc.1) (.inl hcc.2) λ_ _ _ h=>h
           .have nSc:∀i,b∉Sc i:=λi z=>by
             cases hoi:oc i with
             |false=>exact f.2.1 ⟨i,hoi,z⟩
             |true=>exact f.2.2 ⟨i,hoi,z⟩
            have nb:∀j,b∉back S1 js Sc j:=λj z=>by
             rcases lG z with⟨k,_,y⟩|⟨hn,y⟩
             .exact nSc k y
             .exact f.1 (.inr ⟨hc,.inr ⟨j,y⟩,notin hn y⟩)
            refine⟨hb,λz=>?_,λ⟨i,_,z⟩=>nb i z,λ⟨i,_,z⟩=>nb i z⟩;rcases z with z|z
            .exact f.1 (.inl z)
            .exact f.1 (.inr ⟨hc,.inl z,nfr z⟩)
          .exact r.own hc
         have hsl:∀(j:Nat)(d0:D),(ou js ds1 ρ1)[j]? =some (some d0)->∃v,σ[j]? =some (some v)/\Rep G H2 (wn ob (back S1 js Sc) (plus Mc Fr)) d0 v (back S1 js Sc j)/\clean d0=true:=λj d0 hj0=>by
          by_cases hin:j∈js
          .obtain⟨k,hk⟩:=List.mem_iff_getElem?.mp hin
           have hkl:k<js.length:=(List.getElem?_eq_some_iff.mp hk).1;obtain⟨dd,q1,q2⟩:=g1 k j hk;have hjl:j<ρ1.length:=(List.getElem?_eq_some_iff.mp q2).1;have hk1:k<ds1.length:=by rw[l2,List.length_append];omega
           rw[wg hj hk (d:=ds1[k]) (by simp[hk1]) hjl]at hj0;cases hj0;obtain⟨v,q3,q4,q5⟩:=s2.sl k ds1[k] (gj (by simp[hk1]));have q3:=mz q3;rw[List.getElem?_append_left (by omega)]at q3;refine⟨v,hua k j v hk q3,?_,q5⟩;rw[NT hj hk];refine conv _ _ _ (hcl.imp id λz=>zE z.2 (by simp[hk1]) hkl) q5 q4
          .rw[o5 hin]at hj0
           obtain⟨v,q1,q2,q3⟩:=s1.sl j d0 hj0;have hcc:=(by simpa[clean]using q3:aG d0=true/\aD d0=true);refine⟨v,q1,?_,q3⟩;rw[zY hin];exact q2.mono ev (.inl hcc.1) (.inl hcc.2) λc hc u hu=>kept c u hu (notin hin hc)
         refine q v H2 Mc (back S1 js Sc) ⟨?_,hsl,?_,?_,?_,?_,?_⟩ (conv _ _ _ (hcl.imp id λz=>z.1) c2 r2) n2 ?_
         .rw[yu];exact s1.len
         .intro j hj0
          by_cases hin:j∈js
          .obtain⟨k,hk⟩:=List.mem_iff_getElem?.mp hin
           obtain⟨dd,q1,q2⟩:=g1 k j hk;have hjl:j<ρ1.length:=(List.getElem?_eq_some_iff.mp q2).1;have hkl:k<js.length:=(List.getElem?_eq_some_iff.mp hk).1;have hk1:k<ds1.length:=by rw[l2,List.length_append];omega
           exact absurd (wg hj hk (d:=ds1[k]) (by simp[hk1]) hjl) (hj0 _)
          .rw[zY hin]
           exact s1.em j λd0=>by have:=hj0 d0;rwa[o5 hin]at this
         .intro j
          unfold back;split
          .exact s2.nd _
          .exact s1.nd j
         .intro i k a y1 y2
          rcases lG y1 with⟨i1,e1,z1⟩|⟨e1,z1⟩<;>rcases lG y2 with⟨i2,e2,z2⟩|⟨e2,z2⟩
          .have:=s2.dj i1 i2 a z1 z2
           rw[this,e2]at e1;exact(Option.some.inj e1).symm
          .rcases newc z1 with y|y
           .exact absurd y (notin e2 z2)
           .exact absurd y (mu1 z2)
          .rcases newc z2 with y|y
           .exact absurd y (notin e1 z1)
           .exact absurd y (mu1 z1)
          .exact s1.dj i k a z1 z2
         .intro j a ha z
          rcases lG z with⟨i,_,y⟩|⟨hn,y⟩
          .rcases ha with ha|ha
           .exact s2.fdj i a (.inl ha) y
           .rcases newc y with y|y
            .exact nfr ha y
            .obtain⟨o,ho,_⟩:=s1.fdm a (.inr ha)
             rw[y]at ho;cases ho
          .rcases ha with ha|ha
           .rcases fm2 a ha with y'|y'
            .exact notin hn y y'
            .exact mu1 y y'
           .exact s1.fdj j a (.inr ha) y
         .intro a ha
          rcases ha with ha|ha
          .exact r2.dom a ha
          .obtain⟨o,ho,hm⟩:=s1.fdm a (.inr ha)
           exact⟨o,kept a o ho (nfr ha),hm⟩
         .have ef2:Eff ob H1 H2 S1 (back S1 js Sc) Mc:=by
           refine⟨λb u hb n=>kept b u hb λz=>n (hScin z),λi hi=>zY (λz=>by rw[ho i z]at hi;cases hi),λi a hi z=>?_,λa ha=>(fm2 a ha).imp (λy=>hScin y) id⟩;rcases lG z with⟨k,_,y⟩|⟨_,y⟩
           .exact(newc y).imp (λy=>hScin y) id
           .exact .inl ⟨i,hi,y⟩
          exact(ef1.trans ef2).same (Same.refl _) λc hc=>.inl (List.mem_append_right _ hc)
       .cases e
     .cases e
 .cases e
theorem bf(js:List Nat){e:Expr}{es:List Expr}{p pos:Pos}{k:Nat}{x:Str}{ps:List Str}{oc pr:Nat->Bool}{F:List D->Option (D×List D)}{f:En->Option (List D×En)}(C:∀c,Cal (X c).prog (X c).w (X c).K (X c).mg (X c).base k x ps (spI G oc pr F))(hr:∀c,jK k (X c).A)(ha:PVM X G ob (e::es) js f)(hj:js.Nodup:=by decide)(ho:∀j∈js,ob j=true:=by decide)(hp:∀i,i<js.length->pr i=true:=by decide)(hg:∀c,Gl (X c) x:=by intro _;rfl)(hdb:(x==("__debug__":Str))=false:=by decide)(he:∀c,starEach (e::es) (X c).env=(false,eval e (X c).env)::starEach es (X c).env:=by intro _;rfl)(hpl:∀c,(backTo pos (starEach es (X c).env)).any (·.1)=false:=by intro _;rfl) :
 PVe X G ob (.Call (.Name x p) (e::es) [] pos) (eIo F js f):=let⟨t,a1,a2⟩:=ha.ex;⟨_,λc=>Jm (C c) (hr c) (hg c) (a1 c) hdb (he c) (hpl c),RV hj ho hp a2⟩
end
def kids:D->List D
 |.tup ds=>ds
 |.lst _ ds=>ds
 |.dct _ _ ds=>ds
 |.ins _ _ _ ds=>ds
 |_=>[]
def Ni:D->List D->D
 |.tup _,es=>.tup es
 |.lst m _,es=>.lst m es
 |.dct m ks _,es=>.dct m ks es
 |.ins m c fs _,es=>.ins m c fs es
 |d,_=>d
def tW:List Nat->D->Option D
 |[],d=>some d
 |j::p,d=>((kids d)[j]?).bind (tW p)
def nF:List Nat->D->D->D
 |[],e,_=>e
 |j::p,e,d=>match(kids d)[j]? with
  |some c=>Ni d ((kids d).set j (nF p e c))
  |none=>d
theorem Evo.trans{H H1 H2:Hp}{W W1 W2:Wn}(a:Evo H H1 W W1)(b:Evo H1 H2 W1 W2):Evo H H2 W W2:=⟨λc u h f=>let⟨h1,f1⟩:=a.k c u h f;b.k c u h1 f1,λc xs h=>b.t c xs (a.t c xs h)⟩
structure Foc(G:Gc)(H:Hp)(W:Wn)(d0:D)(v0:V)(L:List Addr)(p:List Nat)(d:D)(v:V)(M:List Addr):Prop where
 r:Rep G H W d v M
 b:∃A B,L=A++(M++B)/\∀H' W' d' M',Evo H H' W W'->(∀c∈A++B,∀u,H c=some u->H' c=some u)->Rep G H' W' d' v M'->Rep G H' W' (nF p d' d0) v0 (A++(M'++B))
theorem Foc.nil{G:Gc}{H:Hp}{W:Wn}{d:D}{v:V}{L:List Addr}(r:Rep G H W d v L):Foc G H W d v L [] d v L:=⟨r,[],[],by simp,λH' W' d' M' _ _ h=>by simpa[nF]using h⟩
theorem Foc.mono{G:Gc}{H H1:Hp}{W W1:Wn}{d0 d:D}{v0 v:V}{L M:List Addr}{p:List Nat}(f:Foc G H W d0 v0 L p d v M)(hc:clean d=true∨Up H H1 W W1)(e:Evo H H1 W W1)(k:∀c∈L,∀u,H c=some u->H1 c=some u):Foc G H1 W1 d0 v0 L p d v M:=by
 obtain⟨A,B,hL,hb⟩:=f.b;refine⟨?_,A,B,hL,λH' W' d' M' e' k' r'=>hb H' W' d' M' (e.trans e') (λc hc u hu=>k' c hc u (k c ?_ u hu)) r'⟩
 .rcases hc with hc|hc
  .have hcc:=(by simpa[clean]using hc:aG d=true/\aD d=true)
   exact f.r.mono e (.inl hcc.1) (.inl hcc.2) λc hc u hu=>k c (by rw[hL];simp[hc]) u hu
  .exact f.r.up hc
 .rw[hL]
  simp only[List.mem_append]at hc⊢;rcases hc with z|z<;>simp[z]
theorem x_{m:Mk}{ds:List D}(h:clean (.lst m ds)=true):aH ds=true/\aJ ds=true:=by simp[clean,aG,aD]at h;exact⟨h.1.2,h.2.2⟩
theorem jl{a b:List D}:aH (a++b)=(aH a&&aH b):=by
 induction a with
 |nil=>rfl
 |cons d r ih=>rw[List.cons_append,aH,aH,ih,Bool.and_assoc]
theorem jf{a b:List D}:aJ (a++b)=(aJ a&&aJ b):=by
 induction a with
 |nil=>rfl
 |cons d r ih=>rw[List.cons_append,aJ,aJ,ih,Bool.and_assoc]
theorem aK.kid{G:Gc}{H:Hp}{W:Wn}{ds:List D}{xs:List V}{L:List Addr}{j:Nat}{c:D}(hr:aK G H W ds xs L)(hb:aH ds=true)(ho:aJ ds=true)(e:ds[j]? =some c) :
  ∃x A M B,xs[j]? =some x/\L=A++(M++B)/\Rep G H W c x M/\∀H' W' d' M',Evo H H' W W'->(∀b∈A++B,∀u,H b=some u->H' b=some u)->Rep G H' W' d' x M'->aK G H' W' (ds.set j d') xs (A++(M'++B)):=by
 obtain⟨P,Q,x,ys,zs,LA,M1,LB,rfl,hlp,rfl,hly,rfl,h1,h2,h3⟩:=hr.at e;simp only[jl,jf,aH,aJ,Bool.and_eq_true]at hb ho;refine⟨x,LA,M1,LB,by rw[List.getElem?_append_right (by omega),hly,Nat.sub_self];rfl,rfl,h2,λH' W' d' M' ev kp r'=>?_⟩;rw[←hlp,List.set_append_right _ _ (Nat.le_refl _),Nat.sub_self];exact aK.append (h1.mono ev (.inl hb.1) (.inl ho.1) λb hb u hu=>kp b (List.mem_append_left _ hb) u hu) (aK.cons r' (h3.mono ev (.inl hb.2.2) (.inl ho.2.2) λb hb u hu=>kp b (List.mem_append_right _ hb) u hu))
section
variable{G:Gc}{H:Hp}{W:Wn}{c:D}{v:V}{L:List Addr}{j:Nat}
theorem Foc.dct{ks:List Key}{ds:List D}(r:Rep G H W (.dct .own ks ds) v L)(hc:clean (.dct .own ks ds)=true)(e:ds[j]? =some c):∃a kvs x M,v= .ref a/\H a=some (.dK kvs)/\(kvs.map (·.1)=ks/\ks.Nodup)/\(kvs.map (·.2))[j]? =some x/\Foc G H W (.dct .own ks ds) v L [j] c x M:=by
 rw[Rep]at r;obtain⟨a,kvs,N,rfl,hk,hr,ha,rfl⟩:=r;have hcc:aH ds=true/\aJ ds=true:=by simp[clean,aG,aD]at hc;exact hc
 obtain⟨x,A,M,B,hx,rfl,rx,hb⟩:=hr.kid hcc.1 hcc.2 e;refine⟨a,kvs,x,M,rfl,ha,hk,hx,rx,a::A,B,by simp,λH' W' d' M' ev kp r'=>?_⟩;have hset:nF [j] d' (.dct .own ks ds)= .dct .own ks (ds.set j d'):=by simp only[nF,kids,e,Ni]
 rw[hset,Rep];exact⟨a,kvs,A++(M'++B),rfl,hk,hb H' W' d' M' ev (λb hb u hu=>kp b (List.mem_cons_of_mem _ hb) u hu) r',kp a (by simp) _ ha,by simp⟩
theorem Foc.ins{cl:Str}{fs:List Str}{ds:List D}(r:Rep G H W (.ins .own cl fs ds) v L)(hc:clean (.ins .own cl fs ds)=true)(e:ds[j]? =some c):∃a C dx kvs x M,v= .ref a/\G.mg cl=some (.ref C)/\H a=some (.ins C dx kvs)/\kvs.map (·.1)=fs/\(kvs.map (·.2))[j]? =some x/\Foc G H W (.ins .own cl fs ds) v L [j] c x M:=by
 rw[Rep]at r;obtain⟨a,C,dx,kvs,N,rfl,hC,hk,hr,ha,rfl⟩:=r;have hcc:aH ds=true/\aJ ds=true:=by simp[clean,aG,aD]at hc;exact hc
 obtain⟨x,A,M,B,hx,rfl,rx,hb⟩:=hr.kid hcc.1 hcc.2 e;refine⟨a,C,dx,kvs,x,M,rfl,hC,ha,hk,hx,rx,a::A,B,by simp,λH' W' d' M' ev kp r'=>?_⟩;have hset:nF [j] d' (.ins .own cl fs ds)= .ins .own cl fs (ds.set j d'):=by simp only[nF,kids,e,Ni]
 rw[hset,Rep];exact⟨a,C,dx,kvs,A++(M'++B),rfl,hC,hk,hb H' W' d' M' ev (λb hb u hu=>kp b (List.mem_cons_of_mem _ hb) u hu) r',kp a (by simp) _ ha,by simp⟩
end
def RfP(G:Gc)(ob:Nat->Bool)(t:TE)(i:Nat)(pf:En->Option (List Nat)):Prop:=∀(ρ:En)(p:List Nat),pf ρ=some p->∀(σ:L2.St)(H:Hp)(S:Ad)(Fr:Addr->Prop),Sta G H ob ρ σ S Fr->∃d0 d,ρ[i]? =some (some d0)/\tW p d0=some d/\∀Q:VK,
 (∀v v0 H' M,Same H H'->σ[i]? =some (some v0)->Foc G H' (wn ob S Fr) d0 v0 (S i) p d v M->Q v H')->t σ H Q
structure PVP{ι:Type}(X:ι->Cx)(G:Gc)(ob:Nat->Bool)(e:Expr)(i:Nat)(pf:En->Option (List Nat)):Prop where
 mk::(ex:∃t,(∀c,PE (X c) e t)/\RfP G ob t i pf)
def uQ(i:Nat):En->Option (List Nat):=λρ=>match ρ[i]? with
 |some (some _)=>some []
 |_=>none
section
variable{ι:Type}{X:ι->Cx}{G:Gc}{ob P:Nat->Bool}
theorem jH(i:Nat){x:Str}{pos:Pos}(hN:∀c,(X c).N[i]? =some x:=by intro _;rfl)(hv:∀c,Vis (X c).env.scope x:=by intro _;first|exact Or.inl rfl|exact Or.inr (Or.inl rfl)|exact Or.inr (Or.inr rfl))(hd:(x==("__debug__":Str))=false:=by decide)
  (hcd:(x==("__classdict__":Str))=false:=by decide):PVP X G ob (.Name x pos) i (uQ i):=by
 refine⟨_,λc=>pv i (hN c) (hv c) hd hcd,λρ p e σ H S Fr s=>?_⟩;unfold uQ at e;split at e
 .rename_i d h1
  cases e;obtain⟨v,h2,h3,h4⟩:=s.sl i d h1;exact⟨d,d,h1,rfl,λQ q=>⟨v,h2,q v v H _ (Same.refl H) h2 (.nil h3)⟩⟩
 .cases e
theorem sI{d0:D}:∀{p:List Nat}{d:D},clean d0=true->tW p d0=some d->clean d=true:=by
 intro p
 induction p generalizing d0 with
 |nil=>intro d h e;cases e;exact h
 |cons j p ih=>
  intro d h e;simp only[tW]at e;cases h1:(kids d0)[j]? with
  |none=>simp[h1]at e
  |some c=>
   have e:tW p c=some d:=by simpa[h1]using e
   refine ih ?_ e;have hk:aH (kids d0)=true/\aJ (kids d0)=true:=by
    cases d0<;>simp[kids,clean,aG,aD,aH,aJ]at h h1⊢<;>(try exact h)<;>exact⟨h.1.2,h.2.2⟩
   simp[clean,my hk.1 h1,mj hk.2 h1]
def lQ:D->Option Key
 |.int i=>some (.inl i)
 |.str x=>some (.inr x)
 |_=>none
def km(ks:List Key)(k:Key):Option Nat:=ks.findIdx? λx=>decide (x=k)
def ixP:D->D->Option Nat
 |.lst .own ds,.int i=>ixN ds.length i
 |.tup ds,.int i=>ixN ds.length i
 |.dct .own ks ds,k=>(lQ k).bind λk=>(km ks k).bind λj=>if j<ds.length then some j else none
 |_,_=>none
def VB(i:Nat)(pf:En->Option (List Nat))(fk:En->Option D):En->Option (List Nat):=λρ=>(pf ρ).bind λp=>(fk ρ).bind λk=>match ρ[i]? with
 |some (some d0)=>(tW p d0).bind λd=>(ixP d k).bind λj=>if j<(kids d).length then some (p++[j])else none
 |_=>none
end
section
variable{ι:Type}{X:ι->Cx}{G:Gc}{ob P:Nat->Bool}
def Rf:R2:=λx y H Q=>∃a v,x= .ref a/\rQ H a y (some v)/\Q v H
theorem Mp{Y:Cx}(hu:Y.A.units+1<cLine):IxR Y Rf:=by
 intro value slice pins s σ H x y v u Q I rx ry h hs;obtain⟨a,z,rfl,g,q⟩:=h;cases rx;exact tail_any (Cv I g) PySem.F.slot_dict_getitem.lookup (Hy hu I g ry λw' s3 I3 rw'=>⟨z,H,I3,rw',q⟩) hs
theorem Q3{Y:Cx}(hu:Y.A.units+1<cLine):IxR Y (λx y H Q=>rIx Y.K x y H Q∨Rf x y H Q):=Rv.or (Mp hu)
theorem wB:∀{kvs:List (Key×V)}{k:Key}{j:Nat},km (kvs.map (·.1)) k=some j->mJ kvs k=(kvs.map (·.2))[j]?
 |[],k,j,h=>by simp[km]at h
 |(k0,v)::r,k,j,h=>by
  simp only[List.map_cons,km,List.findIdx?_cons]at h;by_cases e:k0=k
  .subst e
   simp at h;subst h;simp[mJ]
  .rw[decide_eq_false e]at h
   simp only[Bool.false_eq_true,if_false]at h;cases h1:(r.map (·.1)).findIdx? (λx=>decide (x=k))with
   |none=>rw[h1]at h;cases h
   |some i=>
    rw[h1]at h;have:i+1=j:=by simpa using h
    subst this;have ih:=wB (kvs:=r) (k:=k) (j:=i) h1;simp only[mJ,List.find?_cons,decide_eq_false e,List.map_cons,List.getElem?_cons_succ];exact ih
theorem yE:∀{kvs:List (Key×V)}{k:Key},km (kvs.map (·.1)) k=none->mJ kvs k=none
 |[],k,h=>rfl
 |(k0,v)::r,k,h=>by
  simp only[List.map_cons,km,List.findIdx?_cons]at h;by_cases e:k0=k
  .subst e
   simp at h
  .rw[decide_eq_false e]at h
   simp only[Bool.false_eq_true,if_false]at h;have h1:(r.map (·.1)).findIdx? (λx=>decide (x=k))=none:=by
    cases h1:(r.map (·.1)).findIdx? (λx=>decide (x=k))with
    |none=>rfl
    |some i=>rw[h1]at h;cases h
   have ih:=yE (kvs:=r) (k:=k) h1;simp only[mJ,List.find?_cons,decide_eq_false e];exact ih
theorem o4{G:Gc}{H:Hp}{W:Wn}{d:D}{v:V}{L:List Addr}{k:Key}(r:Rep G H W d v L)(h:lQ d=some k):v=kV k:=by
 cases d<;>simp[lQ]at h<;>subst h<;>rw[Rep]at r<;>exact r.1
def MuV(G:Gc)(r:V->List V->Hp->VK->Prop)(op:D->List D->Option (D×D)):Prop:=∀(d:D)(es:List D)(d' res:D),op d es=some (d',res)->∀(v:V)(xs:List V)(H:Hp)(W:Wn)(M N:List Addr),Rep G H W d v M->aK G H W es xs N->(M++N).Nodup->(∀a∈M,¬W.free a)->
 clean d=true->aH es=true->aJ es=true->∀Q:VK,(∀x H' M' R,(∀b u,H b=some u->b∉M->H' b=some u)->(∀W',Evo H H' W W'->Rep G H' W' d' v M'/\Rep G H' W' res x R)->(M'++R).Nodup->(∀a∈M'++R,a∈M∨a∈N∨H a=none)->clean d'=true->clean res=true->Q x H')->r v xs H Q
theorem Dy{d0 e:D}:∀{p:List Nat},clean d0=true->clean e=true->clean (nF p e d0)=true:=by
 intro p
 induction p generalizing d0 with
 |nil=>intro _ h;exact h
 |cons j p ih=>
  intro h he;simp only[nF];cases h1:(kids d0)[j]? with
  |none=>exact h
  |some c=>
   have hc:clean c=true:=sI (p:=[j]) h (by simp[tW,h1]);have:=ih (d0:=c) hc he;have hset:∀{ds:List D}{j:Nat}{x:D},aH ds=true->aJ ds=true->clean x=true->aH (ds.set j x)=true/\aJ (ds.set j x)=true:=λ{ds}=>by
    induction ds with
    |nil=>intro j x a b _;simp[a,b]
    |cons y r ihr=>
     intro j x a b cx;simp only[aH,aJ,Bool.and_eq_true]at a b;have cx':=(by simpa[clean]using cx:aG x=true/\aD x=true);cases j with
     |zero=>simp[aH,aJ,cx',a,b]
     |succ j=>simp only[List.set_cons_succ,aH,aJ,Bool.and_eq_true];exact⟨⟨a.1,(ihr a.2 b.2 cx).1⟩,⟨b.1,(ihr a.2 b.2 cx).2⟩⟩
   cases d0<;>simp only[kids,List.getElem?_nil]at h1<;>(try cases h1)<;>simp only[Ni,kids]<;>simp[clean,aG,aD]at h⊢
   .exact⟨(hset h.1 h.2 this).1,(hset h.1 h.2 this).2⟩
   .exact⟨⟨h.1.1,(hset h.1.2 h.2.2 this).1⟩,h.2.1,(hset h.1.2 h.2.2 this).2⟩
   .exact⟨⟨h.1.1,(hset h.1.2 h.2.2 this).1⟩,h.2.1,(hset h.1.2 h.2.2 this).2⟩
   .exact⟨⟨h.1.1,(hset h.1.2 h.2.2 this).1⟩,h.2.1,(hset h.1.2 h.2.2 this).2⟩
theorem Sta.mut{G:Gc}{H H':Hp}{ρ:En}{σ:L2.St}{S:Ad}{Fr:Addr->Prop}{i:Nat}{p:List Nat}{d0 d d' res:D}{v v0 x:V}{M N M' R:List Addr}(s:Sta G H ob ρ σ S (plus N Fr))(e:ρ[i]? =some (some d0))(hv0:σ[i]? =some (some v0))(foc:Foc G H (wn ob S (plus N Fr)) d0 v0 (S i) p d v M)
  (hF:∀a∈N,¬Fr a) (kp:∀b u,H b=some u->b∉M->H' b=some u) (hr:∀W',Evo H H' (wn ob S (plus N Fr)) W'->Rep G H' W' d' v M'/\Rep G H' W' res x R) (nd:(M'++R).Nodup) (gr:∀a∈M'++R,a∈M∨a∈N∨H a=none) (hc:clean d'=true) :
  ∃S',Sta G H' ob (ρ.set i (some (nF p d' d0))) σ S' (plus R Fr)/\Rep G H' (wn ob S' (plus R Fr)) res x R/\(∀j,j≠i->S' j=S j)/\(∀a∈S' i,a∈S i∨a∈N∨H a=none)/\(∀a∈R,a∈S i∨a∈N∨H a=none)/\(∀b u,H b=some u->b∉S i->H' b=some u):=by
 obtain⟨A,B,hL,hb⟩:=foc.b;have hil:i<ρ.length:=(List.getElem?_eq_some_iff.mp e).1;have hMS:∀a∈M,a∈S i:=λa ha=>by rw[hL];simp[ha]
 have hAB:∀a∈A++B,a∈S i/\a∉M:=λa ha=>by
  have hn:=s.nd i;rw[hL]at hn;have h1:=List.nodup_append.mp hn;have h2:=List.nodup_append.mp h1.2.1;rcases List.mem_append.mp ha with z|z
  .exact⟨by rw[hL];simp[z],λy=>h1.2.2 a z a (by simp[y]) rfl⟩
  .exact⟨by rw[hL];simp[z],λy=>h2.2.2 a y a z rfl⟩
 have grS:∀a∈M'++R,∀j,j≠i->a∉S j:=λa ha j hj z=>by
  rcases gr a ha with y|y|y
  .exact hj (s.dj j i a z (hMS a y))
  .exact s.fdj j a (.inl y) z
  .obtain⟨o,ho,_⟩:=s.mu z;rw[y]at ho;cases ho
 have grF:∀a∈M'++R,¬Fr a:=λa ha z=>by
  rcases gr a ha with y|y|y
  .exact s.fdj i a (.inr z) (hMS a y)
  .exact hF a y z
  .obtain⟨o,ho,_⟩:=s.fdm a (.inr z);rw[y]at ho;cases ho
 have grAB:∀a∈M'++R,a∉A++B:=λa ha z=>by
  obtain⟨z1,z2⟩:=hAB a z;rcases gr a ha with y|y|y
  .exact z2 y
  .exact s.fdj i a (.inl y) z1
  .obtain⟨o,ho,_⟩:=s.mu z1;rw[y]at ho;cases ho
 let S':=iZ S i (A++(M'++B))
 have hS'i:∀a∈S' i,a∈S i∨a∈N∨H a=none:=λa ha=>by
  have ha:a∈iZ S i (A++(M'++B)) i:=ha;rw[eQ]at ha;simp only[List.mem_append]at ha;rcases ha with z|z|z
  .exact .inl (hAB a (List.mem_append_left _ z)).1
  .exact(gr a (List.mem_append_left _ z)).imp (hMS a) id
  .exact .inl (hAB a (List.mem_append_right _ z)).1
 have hfree:∀b u,H b=some u->(wn ob S (plus N Fr)).free b->H' b=some u/\(wn ob S' (plus R Fr)).free b:=λb u hb f=>by
  have nS:∀j,b∉S j:=λj z=>by
   cases ho:ob j with
   |false=>exact f.2.1 ⟨j,ho,z⟩
   |true=>exact f.2.2 ⟨j,ho,z⟩
  have nS':∀j,b∉S' j:=λj z=>by
   by_cases hj:j=i
   .subst hj
    rcases hS'i b z with y|y|y
    .exact nS j y
    .exact f.1 (.inl y)
    .rw[hb]at y;cases y
   .have z:b∈iZ S i (A++(M'++B)) j:=z
    rw[e_ hj]at z;exact nS j z
  refine⟨kp b u hb λz=>nS i (hMS b z),λz=>?_,λ⟨j,_,z⟩=>nS' j z,λ⟨j,_,z⟩=>nS' j z⟩;rcases z with z|z
  .rcases gr b (List.mem_append_right _ z)with y|y|y
   .exact nS i (hMS b y)
   .exact f.1 (.inl y)
   .rw[hb]at y;cases y
  .exact f.1 (.inr z)
 have ev:Evo H H' (wn ob S (plus N Fr)) (wn ob S' (plus R Fr)):=⟨hfree,λb xs h=>by
  have no:∀u,H b=some u->muO u=false->H' b=some u:=λu hu mu=>kp b u hu λz=>by
   obtain⟨o,ho,hm⟩:=s.mu (hMS b z);rw[hu]at ho;cases ho;rw[mu]at hm;cases hm
  exact no _ h rfl⟩
 obtain⟨r1,r2⟩:=hr _ ev;have ndM:=List.nodup_append.mp nd;refine⟨S',⟨by simp[s.len],λj dj hj=>?_,λj hj=>?_,λj=>?_,λj k a h1 h2=>?_,λj a h1 h2=>?_,λa ha=>?_⟩,r2,λj hj=>e_ hj,hS'i,λa ha=>(gr a (List.mem_append_right _ ha)).imp (hMS a) id,λb u hb n=>kp b u hb λz=>n (hMS b z)⟩
 .by_cases hji:j=i
  .subst hji
   have:nF p d' d0=dj:=by simpa[hil]using hj
   subst this;have hc0:clean d0=true:=let⟨_,_,_,h⟩:=s.sl j d0 e;h;refine⟨v0,hv0,?_,Dy hc0 hc⟩;show Rep G H' _ _ v0 (iZ S j (A++(M'++B)) j);rw[eQ];exact hb H' _ d' M' ev (λc hc u hu=>kp c u hu (hAB c hc).2) r1
  .rw[List.getElem?_set_ne (Ne.symm hji)]at hj
   obtain⟨w,q1,q2,q3⟩:=s.sl j dj hj;have hcc:=(by simpa[clean]using q3:aG dj=true/\aD dj=true);refine⟨w,q1,?_,q3⟩;show Rep G H' _ dj w (iZ S i (A++(M'++B)) j);rw[e_ hji];exact q2.mono ev (.inl hcc.1) (.inl hcc.2) λc hc u hu=>kp c u hu λz=>hji (s.dj j i c hc (hMS c z))
 .by_cases hji:j=i
  .subst hji
   exact absurd (by simp[hil]) (hj (nF p d' d0))
  .show iZ S i (A++(M'++B)) j=[]
   rw[e_ hji];exact s.em j λd1=>by have:=hj d1;rwa[List.getElem?_set_ne (Ne.symm hji)]at this
 .by_cases hji:j=i
  .subst hji
   show(iZ S j (A++(M'++B)) j).Nodup;rw[eQ];have hn:=s.nd j;rw[hL]at hn;have h1:=List.nodup_append.mp hn;have h2:=List.nodup_append.mp h1.2.1;refine fK h1.1 (fK ndM.1 h2.2.1 λa ha z=>grAB a (List.mem_append_left _ ha) (List.mem_append_right _ z)) λa ha z=>?_;rcases List.mem_append.mp z with z|z
   .exact grAB a (List.mem_append_left _ z) (List.mem_append_left _ ha)
   .exact h1.2.2 a ha a (by simp[z]) rfl
  .show(iZ S i (A++(M'++B)) j).Nodup
   rw[e_ hji];exact s.nd j
 .have key:∀{j:Nat}{a:Addr},j≠i->a∈S j->a∈S' i->False:=λ{j a} hj z1 z2=>by
   have z2:a∈iZ S i (A++(M'++B)) i:=z2;rw[eQ]at z2;simp only[List.mem_append]at z2;rcases z2 with z|z|z
   .exact hj (s.dj j i a z1 (hAB a (List.mem_append_left _ z)).1)
   .exact grS a (List.mem_append_left _ z) j hj z1
   .exact hj (s.dj j i a z1 (hAB a (List.mem_append_right _ z)).1)
  by_cases hji:j=i<;>by_cases hki:k=i
  .rw[hji,hki]
  .subst hji
   have h2:a∈iZ S j (A++(M'++B)) k:=h2;rw[e_ hki]at h2;exact(key hki h2 h1).elim
  .subst hki
   have h1:a∈iZ S k (A++(M'++B)) j:=h1;rw[e_ hji]at h1;exact(key hji h1 h2).elim
  .have h1:a∈iZ S i (A++(M'++B)) j:=h1
   have h2:a∈iZ S i (A++(M'++B)) k:=h2;rw[e_ hji]at h1;rw[e_ hki]at h2;exact s.dj j k a h1 h2
 .by_cases hji:j=i
  .subst hji
   have h2:a∈iZ S j (A++(M'++B)) j:=h2;rw[eQ]at h2;simp only[List.mem_append]at h2;rcases h1 with h1|h1
   .rcases h2 with z|z|z
    .exact grAB a (List.mem_append_right _ h1) (List.mem_append_left _ z)
    .exact ndM.2.2 a z a h1 rfl
    .exact grAB a (List.mem_append_right _ h1) (List.mem_append_right _ z)
   .rcases h2 with z|z|z
    .exact s.fdj j a (.inr h1) (hAB a (List.mem_append_left _ z)).1
    .exact grF a (List.mem_append_left _ z) h1
    .exact s.fdj j a (.inr h1) (hAB a (List.mem_append_right _ z)).1
  .have h2:a∈iZ S i (A++(M'++B)) j:=h2
   rw[e_ hji]at h2;rcases h1 with h1|h1
   .exact grS a (List.mem_append_right _ h1) j hji h2
   .exact s.fdj j a (.inr h1) h2
 .rcases ha with ha|ha
  .exact r2.dom a ha
  .obtain⟨o,ho,hm⟩:=s.fdm a (.inr ha)
   exact⟨o,kp a o ho λz=>s.fdj i a (.inr ha) (hMS a z),hm⟩
end
section
variable{ι:Type}{X:ι->Cx}{G:Gc}{ob P:Nat->Bool}
theorem vU{G:Gc}{r:V->List V->Hp->VK->Prop}{op:D->List D->Option (D×D)}{H:Hp}{ρ:En}{σ:L2.St}{S:Ad}{Fr:Addr->Prop}{i:Nat}{p:List Nat}{d0 d d' res:D}{v v0:V}{M N:List Addr}{es:List D}{xs:List V}(hm:MuV G r op)(s:Sta G H ob ρ σ S (plus N Fr))(e:ρ[i]? =some (some d0))(hv0:σ[i]? =some (some v0))(hp:tW p d0=some d)
  (foc:Foc G H (wn ob S (plus N Fr)) d0 v0 (S i) p d v M) (re:aK G H (wn ob S (plus N Fr)) es xs N) (nd:N.Nodup) (hF:∀a∈N,¬Fr a) (c1:aH es=true) (c2:aJ es=true) (h:op d es=some (d',res)) {Q:VK}
  (q:∀x H' R S',Sta G H' ob (ρ.set i (some (nF p d' d0))) σ S' (plus R Fr)->Rep G H' (wn ob S' (plus R Fr)) res x R->R.Nodup->clean res=true->(∀j,j≠i->S' j=S j)->(∀a∈S' i,a∈S i∨a∈N∨H a=none)->(∀a∈R,a∈S i∨a∈N∨H a=none)->(∀b u,H b=some u->b∉S i->H' b=some u)->Q x H'):r v xs H Q:=by
 have hMS:List.Sublist M (S i):=by
  obtain⟨A,B,hL,_⟩:=foc.b;rw[hL];exact(List.sublist_append_left M B).trans (List.sublist_append_right A _)
 have hc0:clean d0=true:=let⟨_,_,_,h⟩:=s.sl i d0 e;h;refine hm d es d' res h v xs H _ M N foc.r re (fK (hMS.nodup (s.nd i)) nd λa h1 h2=>s.fdj i a (.inl h2) (hMS.subset h1)) (λa ha f=>?_) (sI hc0 hp) c1 c2 Q λx H' M' R kp hr nd' gr hc' hcr=>?_
 .cases ho:ob i with
  |false=>exact f.2.1 ⟨i,ho,hMS.subset ha⟩
  |true=>exact f.2.2 ⟨i,ho,hMS.subset ha⟩
 .obtain⟨S',q1,q2,q3,q4,q5,q6⟩:=s.mut e hv0 foc hF kp hr nd' gr hc'
  exact q x H' R S' q1 q2 (List.nodup_append.mp nd').2.1 hcr q3 q4 q5 q6
def upS(op:D->List D->Option (D×D))(i:Nat)(p:List Nat)(es:List D)(ρ:En):Option (D×En):=match ρ[i]? with
 |some (some d0)=>(tW p d0).bind λd=>if aH es=true/\aJ es=true then(op d es).map λq=>(q.2,ρ.set i (some (nF p q.1 d0)))else none
 |_=>none
theorem DG{op:D->List D->Option (D×D)}{i:Nat}{p:List Nat}{es:List D}{ρ ρ':En}{res:D}(h:upS op i p es ρ=some (res,ρ')):∃d0 d d',ρ[i]? =some (some d0)/\tW p d0=some d/\aH es=true/\aJ es=true/\op d es=some (d',res)/\ρ'=ρ.set i (some (nF p d' d0)):=by
 unfold upS at h;split at h
 .rename_i d0 h1
  cases h2:tW p d0 with
  |none=>simp[h2]at h
  |some d=>
   by_cases hc:aH es=true/\aJ es=true
   .cases h3:op d es with
    |none=>simp[h2,hc,h3]at h
    |some q=>
     obtain⟨d',r'⟩:=q;obtain⟨rfl,rfl⟩:r'=res/\ρ.set i (some (nF p d' d0))=ρ':=by simpa[h2,hc,h3]using h
     exact⟨d0,d,d',h1,h2,hc.1,hc.2,h3,rfl⟩
   .simp[h2,hc]at h
 .cases h
def Ku(op:D->List D->Option (D×D))(i:Nat)(pf:En->Option (List Nat))(f:En->Option (List D)):En->Option (D×En):=λρ=>(pf ρ).bind λp=>(f ρ).bind λes=>upS op i p es ρ
def zN(op:D->List D->Option (D×D))(i:Nat)(pf:En->Option (List Nat))(f:En->Option (List D)):En->Option Fl:=λρ=>(Ku op i pf f ρ).map λq=>.nx q.2
def yp(op:D->List D->Option (D×D))(i:Nat)(pf:En->Option (List Nat))(f:En->Option (List D×En)):En->Option Fl:=λρ=>(pf ρ).bind λp=>(f ρ).bind λq=>(upS op i p q.1 q.2).map λq=>.nx q.2
def Jk(G:Gc)(T:String)(op:D->List D->Option (D×D)):Prop:=∀d es q,op d es=some q->∀(v:V)(H:Hp)(W:Wn)(L:List Addr),Rep G H W d v L->tyV G.K T v H
theorem R7{T:String}{r:V->List V->Hp->VK->Prop}{op:D->List D->Option (D×D)}{to:TE}{t:TA}{i:Nat}{pf:En->Option (List Nat)}{f:En->Option (List D)}(hm:MuV G r op)(ht:Jk G T op)(ho:RfP G ob to i pf)(ha:RfA G ob t f){ρ ρ':En}{res:D}(e:Ku op i pf f ρ=some (res,ρ'))
  {σ:L2.St} {H:Hp} {S:Ad} {Fr:Addr->Prop} (s:Sta G H ob ρ σ S Fr) {Q:VK}
  (q:∀x H' R S',Sta G H' ob ρ' σ S' (plus R Fr)->Rep G H' (wn ob S' (plus R Fr)) res x R->R.Nodup->clean res=true->(∀j,j≠i->S' j=S j)->(∀a∈S' i,a∈S i∨H a=none)->(∀a∈R,a∈S i∨H a=none)->(∀b u,H b=some u->b∉S i->H' b=some u)->Q x H'):tBM G.K T r to t σ H Q:=by
 unfold Ku at e;cases h1:pf ρ with
 |none=>simp[h1]at e
 |some p=>
  cases h2:f ρ with
  |none=>simp[h1,h2]at e
  |some es=>
   have e:upS op i p es ρ=some (res,ρ'):=by simpa[h1,h2]using e
   obtain⟨d0,d,d',g1,g2,c1,c2,g3,rfl⟩:=DG e;obtain⟨d0',dd,k1,k2,k3⟩:=ho ρ p h1 σ H S Fr s;rw[g1]at k1;cases k1;rw[g2]at k2;cases k2;refine k3 _ λv v0 H1 M s1 hv0 foc=>⟨ht d es _ g3 v H1 _ M foc.r,?_⟩;have st1:Sta G H1 ob ρ σ S Fr:=s.grow s1 λa z=>.inl z;refine ha ρ es h2 σ H1 _ st1.rel st1.wok _ λxs H2 N s2 re fr nd=>?_;have st2:Sta G H2 ob ρ σ S (plus N Fr):=st1.grow s2 λa z=>z.elim (λz=>.inr ⟨fr a z,re.dom a z⟩) .inl;have up:Up H1 H2 (wn ob S Fr) (wn ob S (plus N Fr)):=Up.add s2 fr;have foc2:=foc.mono (.inr up) up.evo λc _ u hu=>s2 c u hu;have hF:∀a∈N,¬Fr a:=λa ha z=>by
    obtain⟨o,ho,_⟩:=st1.fdm a z;rw[fr a ha]at ho;cases ho
   have nf:∀{a},a∈S i∨a∈N∨H2 a=none->a∈S i∨H a=none:=λ{a} z=>z.imp id λz=>z.elim (λz=>s1.none' (fr a z)) λz=>(s1.trans s2).none' z;exact vU hm st2 g1 hv0 g2 foc2 re nd hF c1 c2 g3 λx H' R S' q1 q2 q3 q4 q5 q6 q7 q8=>q x H' R S' q1 q2 q3 q4 q5 (λa ha=>nf (q6 a ha)) (λa ha=>nf (q7 a ha)) λb u hb n=>q8 b u ((s1.trans s2) b u hb) n
theorem O2{T:String}{r:V->List V->Hp->VK->Prop}{op:D->List D->Option (D×D)}{to:TE}{t:TA}{i:Nat}{pf:En->Option (List Nat)}{f:En->Option (List D)}(hm:MuV G r op)(ht:Jk G T op)(ho:RfP G ob to i pf)(ha:RfA G ob t f):RfS G ob P (Lq (tBM G.K T r to t)) (zN op i pf f):=λρ r e σ H S Fr s E q=>by
 unfold zN at e;cases h1:Ku op i pf f ρ with
 |none=>simp[h1]at e
 |some p=>
  obtain⟨res,ρ'⟩:=p;have:Fl.nx ρ'=r:=by simpa[h1]using e
  subst this;refine R7 hm ht ho ha h1 s λx H' R S' q1 q2 q3 q4 q5 q6 q7 q8=>q σ H' S' (q1.lessF λa z=>.inr z) ⟨λb u hb n _=>q8 b u hb λz=>n ⟨i,z⟩,λj a z=>?_,.refl⟩;by_cases hj:j=i
  .subst hj;exact(q6 a z).imp (λz=>⟨j,z⟩) .inr
  .rw[q5 j hj]at z;exact .inl ⟨j,z⟩
theorem Lp{T:String}{r:V->List V->Hp->VK->Prop}{op:D->List D->Option (D×D)}{to:TE}{t:TA}{i:Nat}{pf:En->Option (List Nat)}{f:En->Option (List D×En)}(hob:ob i=false)(hm:MuV G r op)(ht:Jk G T op)(ho:RfP G ob to i pf)(ha:BP G ob t f)(hsame:∀ρ q,f ρ=some q->q.2[i]? =ρ[i]?):RfS G ob P (Lq (tBM G.K T r to t)) (yp op i pf f):=λρ r e σ H S Fr s E q=>by
 unfold yp at e;cases h1:pf ρ with
 |none=>simp[h1]at e
 |some p=>
  cases h2:f ρ with
  |none=>simp[h1,h2]at e
  |some w=>
   obtain⟨es,ρ1⟩:=w;cases h3:upS op i p es ρ1 with
   |none=>simp[h1,h2,h3]at e
   |some w=>
    obtain⟨res,ρ'⟩:=w;have:Fl.nx ρ'=r:=by simpa[h1,h2,h3]using e
    subst this;obtain⟨d0,d,d',g1,g2,c1,c2,g3,rfl⟩:=DG h3;have hs:=hsame ρ _ h2;simp only at hs;obtain⟨d0',dd,k1,k2,k3⟩:=ho ρ p h1 σ H S Fr s;rw[←hs,g1]at k1;cases k1;rw[g2]at k2;cases k2;have hc0:clean d0=true:=let⟨_,_,_,h⟩:=s.sl i d0 (by rw[←hs];exact g1);h;refine k3 _ λv v0 H1 M s1 hv0 foc=>⟨ht d es _ g3 v H1 _ M foc.r,?_⟩;have st1:Sta G H1 ob ρ σ S Fr:=s.grow s1 λa z=>.inl z;refine ha ρ es ρ1 h2 σ H1 S Fr st1 _ λxs H2 N S2 st2 re nd ef=>?_;have foc2:=foc.mono (.inl (sI hc0 g2)) (ef.evo st1) λc hc u hu=>ef.kp c u hu λ⟨j,hj,z⟩=>by rw[←st1.dj i j c hc z,hob]at hj;cases hj
    have hSi:S2 i=S i:=ef.sn i hob;rw[←hSi]at foc2;have hF:∀a∈N,¬Fr a:=λa ha z=>by
     rcases ef.fm a ha with y|y
     .exact st1.notO z y
     .obtain⟨o,ho,_⟩:=st1.fdm a z
      rw[y]at ho;cases ho
    have old:∀{a},inO ob S a∨H1 a=none->inS S a∨H a=none:=λ{a} z=>z.imp (λ⟨k,_,z⟩=>⟨k,z⟩) λz=>s1.none' z;refine vU hm st2 g1 hv0 g2 foc2 re nd hF c1 c2 g3 λx H' R S' q1 q2 q3 q4 q5 q6 q7 q8=>q σ H' S' (q1.lessF λa z=>.inr z) ⟨λb u hb n _=>?_,λj a z=>?_,.refl⟩
    .exact q8 b u (ef.kp b u (s1 b u hb) λ⟨k,_,z⟩=>n ⟨k,z⟩) λz=>n ⟨i,by rw[←hSi];exact z⟩
    .by_cases hj:j=i
     .subst hj
      rcases q6 a z with y|y|y
      .rw[hSi]at y;exact .inl ⟨j,y⟩
      .exact(old (ef.fm a y)).imp id .inr
      .exact(old (ef.back y)).imp id .inr
     .rw[q5 j hj]at z
      cases hoj:ob j with
      |false=>rw[ef.sn j hoj]at z;exact .inl ⟨j,z⟩
      |true=>exact(old (ef.gr j a hoj z)).imp id .inr
structure MuB{ι:Type}(X:ι->Cx)(G:Gc)(T id:String)(op:D->List D->Option (D×D)):Prop where
 ex:∃r,(∀c,MtR (X c) id r)/\MuV G r op/\Jk G T op
section
variable{T name id:String}{op:D->List D->Option (D×D)}{o e:Expr}{es:List Expr}{apos cpos pos:Pos}{i:Nat}{pf:En->Option (List Nat)}
theorem qX{nm:Str}(m:MuB X G T id op)(pa:PlainAttrs T)(slot:Slot T nm id)(hty:typeOf (.builtin id)=pure (.type "method_descriptor")){f:En->Option (List D)}(ho:PVP X G ob o i pf)(ha:PVA X G ob (e::es) f)(hsw:∀c,swapsWith (.Call (.Attribute o nm apos) (e::es) [] cpos) none pos.line (X c).env=pure false:=by intro _;rfl)(hbase:∀c,attributeBase o nm (X c).env (eval o (X c).env)=eval o (X c).env:=by intro _;rfl)(hfew:∀c,((backTo cpos (starEach (e::es) (X c).env)).all (λx=>!x.1)&&(backToKw cpos (keywordEach [] (X c).env)).all (λx=>x.1.isSome)
  &&decide ((e::es).length+([]:List Keyword).length+(if([]:List Keyword).isEmpty then 0 else 1)<30))=true:=by intro _;rfl) (hline:(apos.endLine==cpos.line)=true:=by rfl) (hs:∀c,starEach (e::es) (X c).env=(false,eval e (X c).env)::starEach es (X c).env:=by intro _;rfl) (hplain:∀c,(backTo cpos (starEach es (X c).env)).any (·.1)=false:=by intro _;rfl) (hK:∀c,(X c).K=G.K:=by intro _;rfl) :
 PVS X G ob P (.Expr (.Call (.Attribute o nm apos) (e::es) [] cpos) pos) (zN op i pf f):=let⟨r,m1,m2,m3⟩:=m.ex;let⟨t,a1,a2⟩:=ho.ex;let⟨u,b1,b2⟩:=ha.ex;⟨_,λc=>(by rw[←hK c];exact Gj (JP pa slot hty (m1 c) (a1 c) (b1 c) (hbase c) (hfew c) hline (hs c) (hplain c)) (hsw c)),O2 m2 m3 a2 b2⟩
theorem Ce{nm:Str}(m:MuB X G T id op)(pa:PlainAttrs T)(slot:Slot T nm id)(hty:typeOf (.builtin id)=pure (.type "method_descriptor")){f:En->Option (List D×En)}(ho:PVP X G ob o i pf)(ha:w6 X G ob (e::es) f)(hsame:∀ρ q,f ρ=some q->q.2[i]? =ρ[i]?)(hob:ob i=false:=by rfl)(hsw:∀c,swapsWith (.Call (.Attribute o nm apos) (e::es) [] cpos) none pos.line (X c).env=pure false:=by intro _;rfl)(hbase:∀c,attributeBase o nm (X c).env (eval o (X c).env)=eval o (X c).env:=by intro _;rfl)(hfew:∀c,((backTo cpos (starEach (e::es) (X c).env)).all (λx=>!x.1)&&(backToKw cpos (keywordEach [] (X c).env)).all (λx=>x.1.isSome)
  &&decide ((e::es).length+([]:List Keyword).length+(if([]:List Keyword).isEmpty then 0 else 1)<30))=true:=by intro _;rfl) (hline:(apos.endLine==cpos.line)=true:=by rfl) (hs:∀c,starEach (e::es) (X c).env=(false,eval e (X c).env)::starEach es (X c).env:=by intro _;rfl) (hplain:∀c,(backTo cpos (starEach es (X c).env)).any (·.1)=false:=by intro _;rfl) (hK:∀c,(X c).K=G.K:=by intro _;rfl) :
 PVS X G ob P (.Expr (.Call (.Attribute o nm apos) (e::es) [] cpos) pos) (yp op i pf f):=let⟨r,m1,m2,m3⟩:=m.ex;let⟨t,a1,a2⟩:=ho.ex;let⟨u,b1,b2⟩:=ha.ex;⟨_,λc=>(by rw[←hK c];exact Gj (JP pa slot hty (m1 c) (a1 c) (b1 c) (hbase c) (hfew c) hline (hs c) (hplain c)) (hsw c)),Lp hob m2 m3 a2 b2 hsame⟩
end
structure MuT{ι:Type}(X:ι->Cx)(G:Gc)(op:D->List D->Option (D×D)):Prop where
 ex:∃t:GZ,(∀c,O9 (X c) t)/\MuV G (λo xs H Q=>∃i v,xs=[i,v]/\t o i v H λH'=>Q .non H') op
def yF(op:D->List D->Option (D×D))(i:Nat)(pf:En->Option (List Nat))(fk:En->Option D):D->En->Option En:=λd ρ=>(pf ρ).bind λp=>(fk ρ).bind λk=>(upS op i p [k,d] ρ).map λq=>q.2
theorem Oe{t:GZ}{op:D->List D->Option (D×D)}{to ti:TE}{i:Nat}{pf:En->Option (List Nat)}{fk:En->Option D}(hm:MuV G (λo xs H Q=>∃i v,xs=[i,v]/\t o i v H λH'=>Q .non H') op)(ho:RfP G ob to i pf)(hi:RfE G ob ti fk):RfG G ob P (m_ to ti t) (yF op i pf fk):=λd ρ ρ' e v σ H S M Fr s r nd hF Q q=>by
 unfold yF at e;cases h1:pf ρ with
 |none=>simp[h1]at e
 |some p=>
  cases h2:fk ρ with
  |none=>simp[h1,h2]at e
  |some k=>
   cases h3:upS op i p [k,d] ρ with
   |none=>simp[h1,h2,h3]at e
   |some w=>
    obtain⟨res,ρ1⟩:=w;obtain rfl:ρ1=ρ':=by simpa[h1,h2,h3]using e
    obtain⟨d0,dd,d',g1,g2,c1,c2,g3,rfl⟩:=DG h3;obtain⟨d0',dd',k1,k2,k3⟩:=ho ρ p h1 σ H S (plus M Fr) s;rw[g1]at k1;cases k1;rw[g2]at k2;cases k2;refine k3 _ λo v0 H1 M1 s1 hv0 foc=>?_;have st1:Sta G H1 ob ρ σ S (plus M Fr):=s.grow s1 λa z=>.inl z;refine hi ρ k h2 σ H1 _ st1.rel st1.wok _ λy H2 N s2 ry fr nN=>?_;have st2:Sta G H2 ob ρ σ S (plus (N++M) Fr):=st1.grow s2 λa z=>z.elim (λz=>(List.mem_append.mp z).elim (λz=>.inr ⟨fr a z,ry.dom a z⟩) λz=>.inl (.inl z)) λz=>.inl (.inr z);have up:Up H1 H2 (wn ob S (plus M Fr)) (wn ob S (plus (N++M) Fr)):=⟨s2,λb u hb f=>⟨λz=>z.elim (λz=>(List.mem_append.mp z).elim (λz=>by rw[fr b z]at hb;cases hb) λz=>f.1 (.inl z)) λz=>f.1 (.inr z),f.2⟩,λ_ _ _ f=>f⟩;have up0:Up H H2 (wn ob S (plus M Fr)) (wn ob S (plus (N++M) Fr)):=(Up.same s1).trans up;have foc2:=foc.mono (.inr up) up.evo λc _ u hu=>s2 c u hu;have eqW:(wn ob S (plus M Fr)).add N=wn ob S (plus (N++M) Fr):=by
     show Wn.mk _ _ _=Wn.mk _ _ _;congr 1;funext a;simp only[plus,List.mem_append,eq_iff_iff,or_assoc];constructor
     .rintro(z|z)
      .exact .inl z
      .exact .inr z
     .rintro(z|z)
      .exact .inl z
      .exact .inr z
    rw[eqW]at ry;have hNM:∀a∈N,a∉M:=λa h1 h2=>by
     obtain⟨o,ho,_⟩:=r.dom a h2;rw[s1.none' (fr a h1)]at ho;cases ho
    have re:aK G H2 (wn ob S (plus (N++M) Fr)) [k,d] [y,v] (N++M):=.cons ry (.one (r.up up0));have hF2:∀a∈N++M,¬Fr a:=λa ha z=>by
     rcases List.mem_append.mp ha with y|y
     .obtain⟨o,ho,_⟩:=st1.fdm a (.inr z)
      rw[fr a y]at ho;cases ho
     .exact hF a y z
    have key:=vU hm st2 g1 hv0 g2 foc2 re (fK nN nd hNM) hF2 c1 c2 g3 (Q:=λ_ H'=>Q σ H') λx H' R S' q1 q2 q3 q4 q5 q6 q7 q8=>q σ H' S' (q1.lessF λa z=>.inr z) ⟨λb u hb n m=>?_,λj a z=>?_,.refl⟩
    .obtain⟨i1,v1,e1,k⟩:=key
     cases e1;exact k
    .exact q8 b u ((s1.trans s2) b u hb) λz=>n ⟨i,z⟩
    .by_cases hj:j=i
     .subst hj
      rcases q6 a z with y|y|y
      .exact .inl ⟨j,y⟩
      .exact(List.mem_append.mp y).elim (λy=>.inr (.inr (s1.none' (fr a y)))) λy=>.inr (.inl y)
      .exact .inr (.inr ((s1.trans s2).none' y))
     .rw[q5 j hj]at z;exact .inl ⟨j,z⟩
theorem Ge{op:D->List D->Option (D×D)}{o k:Expr}{pos:Pos}{i:Nat}{pf:En->Option (List Nat)}{fk:En->Option D}(m:MuT X G op)(ho:PVP X G ob o i pf)(hk:PV X G ob k fk)(ha:∀c,∀v,assign (.Subscript o k pos) (X c).env v=(do
 let ov ←holding [v] (eval o (X c).env)
 let iv ←holding [v,ov] (eval k (X c).env)
 standAt pos
 holding [v,ov,iv] (setItem ov iv v)
 release [v,ov,iv] []):=by intro _;intro _;rfl):PVG X G ob P (.Subscript o k pos) (yF op i pf fk):=let⟨t,m1,m2⟩:=m.ex;let⟨_,a1,a2⟩:=ho.ex;let⟨_,b1,b2⟩:=hk.ex;⟨_,λc=>S6 (a1 c) (b1 c) (m1 c) (ha c),Oe m2 a2 b2⟩
theorem vy{G:Gc}{H:Hp}{W:Wn}:Rep G H W .non .non []:=by rw[Rep];exact⟨rfl,rfl⟩
theorem yq{ds:List D}(h1:aH ds=true)(h2:aJ ds=true):clean (.lst .own ds)=true:=by simp[clean,aG,aD,h1,h2]
theorem M9{G:Gc}{H:Hp}{W W':Wn}{a:Addr}{xs:List V}{ds:List D}{M:List Addr}{ys:List V}(hr:aK G H W ds xs M)(hc1:aH ds=true)(hc2:aJ ds=true)(hn:a∉M)(ev:Evo H (upd H a (.lst ys)) W W'):aK G (upd H a (.lst ys)) W' ds xs M:=
 hr.mono ev (.inl hc1) (.inl hc2) λc hc u hu=>by rw[aV (show c≠a from λz=>hn (z▸hc))];exact hu
def cu:D->List D->Option (D×D)
 |.lst .own ds,[e]=>if ds.length<1000000 then some (.lst .own (ds++[e]),.non)else none
 |_,_=>none
theorem JG{n:Nat}(h:n<1000000):n<sizeLine:=Nat.lt_of_lt_of_le h (by decide)
theorem CZ{G:Gc}:MuV G E_ cu:=λd es d' res h v xs H W M N r re nd hM hc c1 c2 Q q=>by
 unfold cu at h;split at h
 .rename_i ds e
  split at h
  .rename_i hl
   cases h;rw[Rep]at r;obtain⟨a,ys,M0,rfl,hr,ha,rfl⟩:=r;obtain⟨x,zs,N1,N2,rfl,rfl,hx,hz⟩:=re.inv;obtain⟨rfl,rfl⟩:=hz.inv0;rw[List.append_nil]at nd re;obtain⟨k1,k2⟩:=x_ hc;have nd':=List.nodup_append.mp nd;have hn:=List.nodup_cons.mp nd'.1;have haN:a∉N1:=λz=>nd'.2.2 a (by simp) a z rfl;simp only[aH,aJ,Bool.and_eq_true]at c1 c2;refine⟨a,ys,x,rfl,rfl,ha,JG (by rw[←hr.length];exact hl),q .non _ (a::(M0++N1)) [] (λb u hb n=>by rw[aV (show b≠a from λz=>n (by rw[z];simp))];exact hb) (λW' ev=>⟨?_,vy⟩) ?_ (λb hb=>?_) (yq (by rw[jl];simp[k1,aH,c1]) (by rw[jf];simp[k2,aJ,c2])) rfl⟩
   .rw[Rep]
    refine⟨a,ys++[x],M0++N1,rfl,(M9 hr k1 k2 hn.1 ev).append (.one (hx.mono ev (.inl c1.1) (.inl c2.1) λc hc u hu=>?_)),bJ,rfl⟩;rw[aV (show c≠a from λz=>haN (z▸hc))];exact hu
   .rw[List.append_nil]
    exact nd
   .rw[List.append_nil]at hb
    rcases List.mem_cons.mp hb with z|z
    .exact .inl (by simp[z])
    .rcases List.mem_append.mp z with z|z
     .exact .inl (by simp[z])
     .exact .inr (.inl (by simp[z]))
  .cases h
 .cases h
theorem Q6{T:String}{op:D->List D->Option (D×D)}(hT:T="list")(h:∀d es q,op d es=some q->∃m ds,d= .lst m ds):Jk G T op:=λd es q e v H W L r=>by
 obtain⟨m,ds,rfl⟩:=h d es q e;rw[Rep]at r;obtain⟨a,xs,M,rfl,hr,hs⟩:=r;exact .inl ⟨hT,xs,hs.sq⟩
theorem iu:MuB X G "list" "list.append" cu:=⟨_,λc=>G8,CZ,Q6 rfl λd es q e=>by
 unfold cu at e;split at e
 .exact⟨_,_,rfl⟩
 .cases e⟩
def jw(ks:List Key)(ds:List D)(k:Key)(v:D):List Key×List D:=match km ks k with
 |some j=>(ks,ds.set j v)
 |none=>(ks++[k],ds++[v])
def ur:D->List D->Option (D×D)
 |.lst .own ds,[.int k,v]=>(ixN ds.length k).map λj=>(.lst .own (ds.set j v),.non)
 |.dct .own ks ds,[k,v]=>(lQ k).bind λk=>if ks.length<1000000 then some (.dct .own (jw ks ds k v).1 (jw ks ds k v).2,.non)else none
 |_,_=>none
def Qv:GZ:=λo i v H Q=>Qo o i v H Q∨∃a H',o= .ref a/\Df H a i v H'/\Q H'
theorem Oq{Y:Cx}(hu:Y.A.units+1<cLine):O9 Y Qv:=by
 intro pins s σ H o i v ov iv u Q I ro ri rv h;rcases h with h|⟨a,H',rfl,g,q⟩
 .exact set_list pins s σ H o i v ov iv u Q I ro ri rv h
 .cases ro
  exact HF hu I g ri rv λs4 I4=>⟨H',I4,q⟩
theorem aK.set{G:Gc}{H:Hp}{W:Wn}{ds:List D}{xs:List V}{L:List Addr}{j:Nat}{c d':D}{y:V}{M':List Addr}(hr:aK G H W ds xs L)(e:ds[j]? =some c)(r':Rep G H W d' y M'):∃A M B,L=A++(M++B)/\aK G H W (ds.set j d') (xs.set j y) (A++(M'++B)):=by
 obtain⟨P,Q,x,ys,zs,LA,M1,LB,rfl,hlp,rfl,hly,rfl,h1,h2,h3⟩:=hr.at e;refine⟨LA,M1,LB,rfl,?_⟩;rw[←hlp,List.set_append_right _ _ (Nat.le_refl _),Nat.sub_self];rw[show P.length=ys.length by omega,List.set_append_right _ _ (Nat.le_refl _),Nat.sub_self];exact aK.append h1 (aK.cons r' h3)
theorem mF{ds:List D}{j:Nat}{x:D}(h:aH ds=true)(hx:aG x=true):aH (ds.set j x)=true:=by
 induction ds generalizing j with
 |nil=>simpa using h
 |cons y r ih=>
  simp only[aH,Bool.and_eq_true]at h;cases j with
  |zero=>simp[aH,hx,h]
  |succ j=>simp only[List.set_cons_succ,aH,Bool.and_eq_true];exact⟨h.1,ih h.2⟩
theorem mG{ds:List D}{j:Nat}{x:D}(h:aJ ds=true)(hx:aD x=true):aJ (ds.set j x)=true:=by
 induction ds generalizing j with
 |nil=>simpa using h
 |cons y r ih=>
  simp only[aJ,Bool.and_eq_true]at h;cases j with
  |zero=>simp[aJ,hx,h]
  |succ j=>simp only[List.set_cons_succ,aJ,Bool.and_eq_true];exact⟨h.1,ih h.2⟩
theorem R6{n:Nat}{k:Int}{j:Nat}(h:ixN n k=some j):j<n:=by
 unfold ixN at h;split at h
 .split at h
  .cases h;omega
  .cases h
 .split at h
  .cases h;omega
  .cases h
theorem vz{ks:List Key}{k:Key}{j:Nat}(h:km ks k=some j):j<ks.length:=(List.findIdx?_eq_some_iff_getElem.mp h).1
theorem Bs:∀{kvs:List (Key×V)}{k:Key}{j:Nat}{v:V},km (kvs.map (·.1)) k=some j->(kvs.map (·.1)).Nodup->(putK kvs k v).map (·.1)=kvs.map (·.1)/\(putK kvs k v).map (·.2)=(kvs.map (·.2)).set j v:=by
 intro kvs k j v h n;have hj:=List.findIdx?_eq_some_iff_getElem.mp h;obtain⟨hl,hk,_⟩:=hj;have hl':j<kvs.length:=by simpa using hl
 have hkj:kvs[j].1=k:=by simpa using hk
 have hany:(kvs.any λkv=>decide (kv.1=k))=true:=List.any_eq_true.mpr ⟨kvs[j],List.getElem_mem _,by simpa using hkj⟩;unfold putK;rw[if_pos hany];constructor
 .rw[List.map_map]
  apply List.map_congr_left;intro p _;simp only[Function.comp];split<;>rfl
 .apply List.ext_getElem?
  intro i;rw[List.map_map,List.getElem?_map];by_cases hij:j=i
  .subst hij
   rw[List.getElem?_set_self (by simpa using hl')];simp[hl',hkj]
  .rw[List.getElem?_set_ne hij,List.getElem?_map]
   cases e:kvs[i]? with
   |none=>rfl
   |some p=>
    have hil:i<kvs.length:=(List.getElem?_eq_some_iff.mp e).1;have hpi:kvs[i]=p:=(List.getElem?_eq_some_iff.mp e).2;have hne:p.1≠k:=λz=>by
     have e1:(kvs.map (·.1))[i]? =(kvs.map (·.1))[j]?:=by
      rw[List.getElem?_map,List.getElem?_map,e,List.getElem?_eq_getElem hl'];simp[z,hkj]
     exact hij ((List.getElem?_inj (by simpa using hil) n).mp e1).symm
    simp[hne]
theorem vL{kvs:List (Key×V)}{k:Key}{v:V}(h:km (kvs.map (·.1)) k=none):putK kvs k v=kvs++[(k,v)]:=by
 unfold putK;rw[if_neg];intro z;obtain⟨p,hp,e⟩:=List.any_eq_true.mp z;have:=List.findIdx?_eq_none_iff.mp h p.1 (List.mem_map.mpr ⟨p,hp,rfl⟩);simp at this e;exact this e
theorem v8{ks:List Key}{k:Key}(h:km ks k=none):k∉ks:=λz=>by
 have:=List.findIdx?_eq_none_iff.mp h k z;simp at this
theorem Ol{G:Gc}:MuV G (λo xs H Q=>∃i v,xs=[i,v]/\Qv o i v H λH'=>Q .non H') ur:=λd es d' res h v xs H W M N r re nd hM hc c1 c2 Q q=>by
 unfold ur at h;split at h
 .rename_i ds k e
  cases hj:ixN ds.length k with
  |none=>simp[hj]at h
  |some j=>
   obtain⟨rfl,rfl⟩:D.lst .own (ds.set j e)=d'/\D.non=res:=by simpa[hj]using h
   rw[Rep]at r;obtain⟨a,ys,M0,rfl,hr,ha,rfl⟩:=r;obtain⟨x1,zs,N1,N2,rfl,rfl,hx1,hz⟩:=re.inv;obtain⟨x,zs,N3,N4,rfl,rfl,hx,hz⟩:=hz.inv;obtain⟨rfl,rfl⟩:=hz.inv0;rw[Rep]at hx1;obtain⟨rfl,rfl⟩:=hx1;rw[List.append_nil,List.nil_append]at nd re;obtain⟨k1,k2⟩:=x_ hc;have nd':=List.nodup_append.mp nd;have hn:=List.nodup_cons.mp nd'.1;have haN:a∉N3:=λz=>nd'.2.2 a (by simp) a z rfl;simp only[aH,aJ,Bool.and_eq_true]at c1 c2;have hjl:=R6 hj;obtain⟨A,M1,B,hM0,hset⟩:=hr.set (List.getElem?_eq_getElem hjl) hx;have hsub:List.Sublist (A++B) M0:=by rw[hM0];exact(List.Sublist.refl A).append (List.sublist_append_right M1 B)
   refine⟨_,_,rfl,.inl ⟨a,ys,k,j,rfl,rfl,ha,by rw[←hr.length];exact hj,q .non _ (a::(A++(N3++B))) [] (λb u hb n=>by rw[aV (show b≠a from λz=>n (by rw[z];simp))];exact hb) (λW' ev=>⟨?_,vy⟩) ?_ (λb hb=>?_) (yq (mF k1 c1.2.1) (mG k2 c2.2.1)) rfl⟩⟩
   .rw[Rep]
    refine⟨a,_,A++(N3++B),rfl,?_,bJ,rfl⟩;refine hset.mono ev (.inl (mF k1 c1.2.1)) (.inl (mG k2 c2.2.1)) λc hc u hu=>?_;rw[aV (show c≠a from λz=>?_)]
    .exact hu
    .subst z
     simp only[List.mem_append]at hc;rcases hc with y|y|y
     .exact hn.1 (hsub.subset (by simp[y]))
     .exact haN y
     .exact hn.1 (hsub.subset (by simp[y]))
   .rw[List.append_nil]
    have n2:=hsub.nodup hn.2;have n3:=List.nodup_append.mp n2;have dis:∀z∈N3,z∉A++B:=λz h1 h2=>nd'.2.2 z (List.mem_cons_of_mem _ (hsub.subset h2)) z h1 rfl;refine List.nodup_cons.mpr ⟨λy=>?_,fK n3.1 (fK nd'.2.1 n3.2.1 λz h1 h2=>dis z h1 (by simp[h2])) λz h1 h2=>?_⟩
    .simp only[List.mem_append]at y
     rcases y with y|y|y
     .exact hn.1 (hsub.subset (by simp[y]))
     .exact haN y
     .exact hn.1 (hsub.subset (by simp[y]))
    .rcases List.mem_append.mp h2 with y|y
     .exact dis z y (by simp[h1])
     .exact n3.2.2 z h1 z y rfl
   .rw[List.append_nil]at hb
    rcases List.mem_cons.mp hb with z|z
    .exact .inl (by simp[z])
    .simp only[List.mem_append]at z
     rcases z with z|z|z
     .exact .inl (List.mem_cons_of_mem _ (hsub.subset (by simp[z])))
     .exact .inr (.inl (by simp[z]))
     .exact .inl (List.mem_cons_of_mem _ (hsub.subset (by simp[z])))
 .rename_i ks ds k0 e
  cases hk:lQ k0 with
  |none=>simp[hk]at h
  |some k=>
   rw[hk]at h;simp only[Option.bind_some]at h;split at h
   .rename_i hl
    cases h;rw[Rep]at r;obtain⟨a,kvs,M0,rfl,⟨rfl,hnk⟩,hr,ha,rfl⟩:=r;obtain⟨x1,zs,N1,N2,rfl,rfl,hx1,hz⟩:=re.inv;obtain⟨x,zs,N3,N4,rfl,rfl,hx,hz⟩:=hz.inv;obtain⟨rfl,rfl⟩:=hz.inv0;have hx1k:=o4 hx1 hk;subst hx1k;have hN1:N1=[]:=by
     cases k0<;>simp[lQ]at hk<;>rw[Rep]at hx1<;>exact hx1.2
    subst hN1;rw[List.append_nil,List.nil_append]at nd re;have k1:aH ds=true/\aJ ds=true:=by simp[clean,aG,aD]at hc;exact hc
    have nd':=List.nodup_append.mp nd;have hn:=List.nodup_cons.mp nd'.1;have haN:a∉N3:=λz=>nd'.2.2 a (by simp) a z rfl;simp only[aH,aJ,Bool.and_eq_true]at c1 c2;have hlk:kvs.length<sizeLine:=JG (by simpa using hl);refine⟨_,_,rfl,.inr ⟨a,_,rfl,Df.k (k:=k) ha hlk,?_⟩⟩;cases hj:km (kvs.map (·.1)) k with
    |some j=>
     have hjl:j<ds.length:=by rw[hr.length];simpa using vz hj
     obtain⟨A,M1,B,hM0,hset⟩:=hr.set (List.getElem?_eq_getElem hjl) hx;obtain⟨p1,p2⟩:=Bs (v:=x) hj hnk;have hsub:List.Sublist (A++B) M0:=by rw[hM0];exact(List.Sublist.refl A).append (List.sublist_append_right M1 B)
     refine q .non _ (a::(A++(N3++B))) [] (λb u hb n=>by rw[aV (show b≠a from λz=>n (by rw[z];simp))];exact hb) (λW' ev=>⟨?_,vy⟩) ?_ (λb hb=>?_) ?_ rfl
     .simp only[jw,hj]
      rw[Rep];refine⟨a,_,A++(N3++B),rfl,⟨p1,hnk⟩,?_,bJ,rfl⟩;rw[p2];refine hset.mono ev (.inl (mF k1.1 c1.2.1)) (.inl (mG k1.2 c2.2.1)) λc hc u hu=>?_;rw[aV (show c≠a from λz=>?_)]
      .exact hu
      .subst z
       simp only[List.mem_append]at hc;rcases hc with y|y|y
       .exact hn.1 (hsub.subset (by simp[y]))
       .exact haN y
       .exact hn.1 (hsub.subset (by simp[y]))
     .rw[List.append_nil]
      have n2:=hsub.nodup hn.2;have n3:=List.nodup_append.mp n2;have dis:∀z∈N3,z∉A++B:=λz h1 h2=>nd'.2.2 z (List.mem_cons_of_mem _ (hsub.subset h2)) z h1 rfl;refine List.nodup_cons.mpr ⟨λy=>?_,fK n3.1 (fK nd'.2.1 n3.2.1 λz h1 h2=>dis z h1 (by simp[h2])) λz h1 h2=>?_⟩
      .simp only[List.mem_append]at y
       rcases y with y|y|y
       .exact hn.1 (hsub.subset (by simp[y]))
       .exact haN y
       .exact hn.1 (hsub.subset (by simp[y]))
      .rcases List.mem_append.mp h2 with y|y
       .exact dis z y (by simp[h1])
       .exact n3.2.2 z h1 z y rfl
     .rw[List.append_nil]at hb
      rcases List.mem_cons.mp hb with z|z
      .exact .inl (by simp[z])
      .simp only[List.mem_append]at z
       rcases z with z|z|z
       .exact .inl (List.mem_cons_of_mem _ (hsub.subset (by simp[z])))
       .exact .inr (.inl (by simp[z]))
       .exact .inl (List.mem_cons_of_mem _ (hsub.subset (by simp[z])))
     .simp[jw,hj,clean,aG,aD,mF k1.1 c1.2.1,mG k1.2 c2.2.1]
    |none=>
     rw[vL hj];refine q .non _ (a::(M0++N3)) [] (λb u hb n=>by rw[aV (show b≠a from λz=>n (by rw[z];simp))];exact hb) (λW' ev=>⟨?_,vy⟩) ?_ (λb hb=>?_) ?_ rfl
     .simp only[jw,hj]
      rw[Rep];refine⟨a,_,M0++N3,rfl,⟨by simp,?_⟩,?_,bJ,rfl⟩
      .exact List.nodup_append.mpr ⟨hnk,by simp,λy hy z hz=>by
        have:z=k:=by simpa using hz
        subst this;exact λe=>v8 hj (e▸hy)⟩
      .rw[List.map_append]
       refine(hr.mono ev (.inl k1.1) (.inl k1.2) λc hc u hu=>?_).append (.one (hx.mono ev (.inl c1.2.1) (.inl c2.2.1) λc hc u hu=>?_))
       .rw[aV (show c≠a from λz=>hn.1 (z▸hc))];exact hu
       .rw[aV (show c≠a from λz=>haN (z▸hc))];exact hu
     .rw[List.append_nil];exact nd
     .rw[List.append_nil]at hb
      rcases List.mem_cons.mp hb with z|z
      .exact .inl (by simp[z])
      .rcases List.mem_append.mp z with z|z
       .exact .inl (by simp[z])
       .exact .inr (.inl (by simp[z]))
     .simp[jw,hj,clean,aG,aD,jl,jf,aH,aJ,k1,c1,c2]
   .cases h
 .cases h
theorem Ew(hu:∀c,(X c).A.units+1<cLine):MuT X G ur:=⟨_,λc=>Oq (hu c),Ol⟩
end
abbrev InX{ι:Type}(X:ι->Cx)(N':List Str)(scope:Scope):ι×(Addr×Shared×Hp×List Addr)->Cx:=λp=>dY (X p.1) N' scope p.2.1 p.2.2.1 p.2.2.2.1 p.2.2.2.2
def lM(cap:List (Option Nat))(ρ:En):En:=cap.map λo=>o.bind λj=>(ρ[j]?).bind id
def obC(cap:List (Option Nat))(ob:Nat->Bool):Nat->Bool:=λi=>match cap[i]? with
 |some (some j)=>ob j
 |_=>false
theorem rG{α:Type}{cap:List (Option Nat)}{l:List (Option α)}{i:Nat}{x:α}(h:(cap.map λo=>o.bind λj=>(l[j]?).bind id)[i]? =some (some x)):∃j,cap[i]? =some (some j)/\l[j]? =some (some x):=by
 rw[List.getElem?_map]at h;cases e:cap[i]? with
 |none=>rw[e]at h;cases h
 |some o=>
  rw[e]at h;cases o with
  |none=>simp at h
  |some j=>
   refine⟨j,rfl,?_⟩;have h:(l[j]?).bind id=some x:=by simpa using h
   cases e2:l[j]? with
   |none=>rw[e2]at h;cases h
   |some o=>rw[e2]at h;simpa using h
theorem zV{α:Type}{cap:List (Option Nat)}{l:List (Option α)}{i j:Nat}{x:α}(h:cap[i]? =some (some j))(h2:l[j]? =some (some x)):(cap.map λo=>o.bind λj=>(l[j]?).bind id)[i]? =some (some x):=by
 rw[List.getElem?_map,h];simp[h2]
section
variable{G:Gc}{ob:Nat->Bool}
theorem Rel.cap{H:Hp}{W:Wn}{ρ:En}{σ:L2.St}{cap:List (Option Nat)}(r:Rel G H W ob ρ σ):Rel G H W (obC cap ob) (lM cap ρ) (iT cap σ):=λi d e=>by
 obtain⟨j,h1,h2⟩:=rG e;obtain⟨v,L,q1,q2,q3⟩:=r j d h2;refine⟨v,L,zV h1 q1,q2,λz=>q3 ?_⟩;unfold obC at z;rw[h1]at z;exact z
def Ji(G:Gc)(ob own:Nat->Bool)(g:TG)(f:D->En->Option En):Prop:=∀(d:D)(ρ ρ':En),f d ρ=some ρ'->∀(x:V)(σ:L2.St)(H:Hp)(W:Wn),Rep G H W d x []->Rel G H W ob ρ σ->σ.length=ρ.length->∀Q:L2.St->Hp->Prop,
 (∀σ',Rel G H W ob ρ' σ'->σ'.length=ρ'.length->(∀j,own j=false->σ'[j]? =σ[j]?)->Q σ' H)->g x σ H Q
def Bd(G:Gc)(ob own:Nat->Bool)(g:TGs)(f:List D->En->Option En):Prop:=∀(ds:List D)(ρ ρ':En),f ds ρ=some ρ'->∀(xs:List V)(σ:L2.St)(H:Hp)(W:Wn),aK G H W ds xs []->Rel G H W ob ρ σ->σ.length=ρ.length->∀Q:L2.St->Hp->Prop,
 (∀σ',Rel G H W ob ρ' σ'->σ'.length=ρ'.length->(∀j,own j=false->σ'[j]? =σ[j]?)->Q σ' H)->g xs σ H Q
structure JK{ι:Type}(X:ι->Cx)(G:Gc)(ob own:Nat->Bool)(tg:Expr)(f:D->En->Option En):Prop where
 mk::(ex:∃t,(∀c,PG (X c) tg t)/\Ji G ob own t f)
structure Fz{ι:Type}(X:ι->Cx)(G:Gc)(ob own:Nat->Bool)(tg:List Expr)(f:List D->En->Option En):Prop where
 mk::(ex:∃t,(∀c,PGs (X c) tg t)/\Bd G ob own t f)
def tpN(i:Nat):D->En->Option En:=λd ρ=>some (ρ.set i (some d))
def tpT(n:Nat)(g:List D->En->Option En):D->En->Option En:=λd ρ=>match d with
 |.tup ds=>if ds.length=n then g ds ρ else none
 |_=>none
theorem GX{own:Nat->Bool}{i:Nat}(ho:own i=true):Ji G ob own (yH i) (tpN i):=λd ρ ρ' e x σ H W r rl hl Q q=>by
 cases e;refine q _ (λj d' hj=>?_) (by simp[hl]) λj hj=>?_
 .by_cases e:i=j
  .subst e
   rw[List.getElem?_set]at hj;split at hj
   .split at hj
    .rename_i h2
     have:d=d':=by simpa using hj
     subst this;exact⟨x,[],by simp[hl,h2],r,λ_ c hc=>by cases hc⟩
    .cases hj
   .exact absurd rfl ‹_›
  .rw[List.getElem?_set_ne e]at hj
   obtain⟨v,L,h1,h2,h3⟩:=rl j d' hj;exact⟨v,L,by rw[List.getElem?_set_ne e];exact h1,h2,h3⟩
 .have:i≠j:=λz=>by rw[←z,ho]at hj;cases hj
  rw[List.getElem?_set_ne this]
theorem Hf{own:Nat->Bool}:Bd G ob own Nk dF:=λds ρ ρ' e xs σ H W r rl hl Q q=>by
 cases ds with
 |nil=>
  cases e;obtain⟨rfl,_⟩:=r.inv0;exact⟨rfl,q σ rl hl λ_ _=>rfl⟩
 |cons d r=>cases e
theorem Dc{own:Nat->Bool}{t:TG}{u:TGs}{f:D->En->Option En}{g:List D->En->Option En}(h1:Ji G ob own t f)(h2:Bd G ob own u g):Bd G ob own (JR t u) (aP f g):=λds ρ ρ' e xs σ H W r rl hl Q q=>by
 cases ds with
 |nil=>cases e
 |cons d ds=>
  obtain⟨x,ys,M1,M2,rfl,hL,hx,hr⟩:=r.inv;obtain⟨rfl,rfl⟩:M1=[]/\M2=[]:=by simpa using hL.symm
  simp only[aP]at e;cases h3:f d ρ with
  |none=>rw[h3]at e;cases e
  |some ρ1=>
   have e:g ds ρ1=some ρ':=by simpa[h3]using e
   exact⟨x,ys,rfl,h1 d ρ ρ1 h3 x σ H W hx rl hl _ λσ1 rl1 hl1 k1=>h2 ds ρ1 ρ' e ys σ1 H W hr rl1 hl1 Q λσ2 rl2 hl2 k2=>q σ2 rl2 hl2 λj hj=>(k2 j hj).trans (k1 j hj)⟩
theorem JH{own:Nat->Bool}{n:Nat}{t:TGs}{g:List D->En->Option En}(h:Bd G ob own t g):Ji G ob own (Tq G.K n t) (tpT n g):=λd ρ ρ' e x σ H W r rl hl Q q=>by
 cases d with
 |tup ds=>
  simp only[tpT]at e;split at e
  .rename_i hn
   rw[Rep]at r;obtain⟨a,xs,rfl,ht,hr⟩:=r;exact⟨a,xs,rfl,SqT.of ht,by rw[←hr.length];exact hn,h ds ρ ρ' e xs σ H W hr rl hl Q q⟩
  .cases e
 |_=>cases e
end
section
variable{ι:Type}{X:ι->Cx}{G:Gc}{ob own:Nat->Bool}
theorem bz(i:Nat){x:Str}{pos:Pos}(hN:∀c,(X c).N.Nodup)(ho:own i=true:=by rfl)(hi:∀c,(X c).N[i]? =some x:=by intro _;rfl)(hx:∀c,Loc (X c).env.scope x:=by intro _;first|exact Or.inl rfl|exact Or.inr rfl)(hf:∀c,(X c).fn x=true∨(X c).env.scope.names.lookup x=some .local:=by intro _;first|exact .inl rfl|exact .inr rfl):JK X G ob own (.Name x pos) (tpN i):=⟨_,λc=>zr (hN c) (hi c) (hx c) (hf c),GX ho⟩
theorem tG:Fz X G ob own [] dF:=⟨_,λc=>FQ,Hf⟩
theorem h_{e:Expr}{es:List Expr}{f:D->En->Option En}{g:List D->En->Option En}(h1:JK X G ob own e f)(h2:Fz X G ob own es g)(hs:∀c,(assignEach (e::es) (X c).env).map (·.2)=assign e (X c).env::(assignEach es (X c).env).map (·.2):=by intro _;rfl):Fz X G ob own (e::es) (aP f g):=
 let⟨t,a1,a2⟩:=h1.ex;let⟨u,b1,b2⟩:=h2.ex;⟨_,λc=>Bb (a1 c) (b1 c) (hs c),Dc a2 b2⟩
theorem wu{es:List Expr}{k n:Nat}{pos:Pos}{g:List D->En->Option En}(hc:∀c,(X c).calm=true)(h:Fz X G ob own es g)(hn:∀c,(assignEach es (X c).env).length=n:=by intro _;rfl)(hst:∀c,(assignEach es (X c).env).findIdx? (·.1)=none:=by intro _;rfl)(hK:∀c,(X c).K=G.K:=by intro _;rfl):JK X G ob own (.Tuple es k pos) (tpT n g):=
 let⟨t,a1,a2⟩:=h.ex;⟨_,λc=>(by rw[←hK c];exact Ib (hc c) (a1 c) (hn c) (hst c)),JH a2⟩
structure Ju{ι:Type}(X:ι->Cx)(G:Gc)(ob:Nat->Bool)(ifs:List Expr)(f:En->Option Bool):Prop where
 mk::(ex:∃t,(∀c,PTs (X c) ifs t)/\RfT G ob t f)
def eTT:En->Option Bool:=λ_=>some true
theorem eY:Ju X G ob [] eTT:=⟨_,λc=>N7,λρ b e σ H W rl w Q q=>by cases e;exact q H (Same.refl H)⟩
theorem jX{c:Expr}{f:En->Option Bool}(h:PVT X G ob c f):Ju X G ob [c] f:=let⟨t,a1,a2⟩:=h.ex;⟨t,λc=>FW (a1 c),a2⟩
def fW(tg:D->En->Option En)(c:En->Option Bool)(e:En->Option D)(ρ0:En):List D->Option (List D)
 |[]=>some []
 |d::r=>(tg d ρ0).bind λρ1=>(c ρ1).bind λb=>if b=true then(e ρ1).bind λx=>(fW tg c e ρ0 r).map λt=>x::t else fW tg c e ρ0 r
def fJ(cap:List (Option Nat))(it:En->Option (Bool×List D))(tg:D->En->Option En)(c:En->Option Bool)(e:En->Option D):En->Option D:=λρ=>(it ρ).bind λp=>if p.2.length<=1000000 then(fW tg c e (lM cap ρ) p.2).map λys=>.lst .own ys else none
theorem six{n:Nat}(h:n<=1000000):n<sizeLine:=Nat.lt_of_le_of_lt h (by decide)
theorem De{cap:List (Option Nat)}{σ σ':L2.St}(hc:∀i:Nat,own i=true->cap[i]?≠none->cap[i]? =some none)(h:∀j,own j=false->σ'[j]? =(iT cap σ)[j]?):Kp (iT cap σ) σ':=λi v e=>by
 cases ho:own i with
 |false=>rw[h i ho];exact e
 |true=>
  obtain⟨j,h1,_⟩:=rG e;rw[hc i ho (by rw[h1];simp)]at h1;cases h1
theorem GD{cap:List (Option Nat)}{wi:TI}{g:TG}{tt:TT}{te:TE}{it:En->Option (Bool×List D)}{tg:D->En->Option En}{c:En->Option Bool}{e:En->Option D}(hcap:∀i:Nat,own i=true->cap[i]?≠none->cap[i]? =some none)(hi:RfI G ob wi it)(hg:Ji G (obC cap ob) own g tg)(ht:RfT G (obC cap ob) tt c)(he:RfE G (obC cap ob) te e):RfE G ob (BZ cap wi g tt te) (fJ cap it tg c e):=λρ d ee σ H W rl w Q q=>by
 unfold fJ at ee;cases h1:it ρ with
 |none=>simp[h1]at ee
 |some p=>
  obtain⟨b,items⟩:=p;rw[h1]at ee;simp only[Option.bind_some]at ee;split at ee
  .rename_i hlen
   cases h2:fW tg c e (lM cap ρ) items with
   |none=>simp[h2]at ee
   |some tot=>
    obtain rfl:D.lst .own tot=d:=by simpa[h2]using ee
    refine hi ρ b items h1 σ H W rl w _ λJ H1 s1 wk=>?_;refine⟨λi m ys H2=>i+m=items.length/\ys.length<=i/\∃acc L rest,Same H1 H2/\aK G H2 (W.add L) acc ys L/\(∀a∈L,H1 a=none)/\L.Nodup/\WOk H2 (W.add L)/\fW tg c e (lM cap ρ) (items.drop i)=some rest/\acc++rest=tot,⟨items.length,by omega,by simp,[],[],tot,Same.refl _,.nil,by simp,List.nodup_nil,?_,h2,rfl⟩,?_⟩
    .rw[yL];exact w.up s1
    rintro i m ys H2 ⟨him,hyi,acc,L,rest,s2,ra,fa,na,wa,hrest,htot⟩;have up2:Up H1 H2 W (W.add L):=Up.add s2 fa
    .by_cases hil:i<items.length
     .have hdr:=(List.getElem_cons_drop hil).symm
      rw[hdr,fW]at hrest;refine .inr ⟨wk.go i items[i] (by simp[hil]) H2 _ (LtB.up up2),by have:=six hlen;omega,λys' H'=>(i+1)+(m-1)=items.length/\ys'.length<=i+1/\∃acc L rest,Same H1 H'/\aK G H' (W.add L) acc ys' L/\(∀a∈L,H1 a=none)/\L.Nodup/\WOk H' (W.add L)/\fW tg c e (lM cap ρ) (items.drop (i+1))=some rest/\acc++rest=tot,λys' H' h=>⟨m-1,by omega,h⟩,λx H3 hy=>?_⟩;obtain⟨s3,rx⟩:=wk.yld i items[i] (by simp[hil]) H2 _ (LtB.up up2) x H3 hy;cases h3:tg items[i] (lM cap ρ)with
      |none=>simp[h3]at hrest
      |some ρ1=>
       rw[h3]at hrest;simp only[Option.bind_some]at hrest;have rl3:Rel G H3 (W.add L) (obC cap ob) (lM cap ρ) (iT cap σ):=(rl.cap).up ((Up.same s1).trans (up2.trans (Up.same s3)));have ra3:=ra.up (Up.same s3 (W:=W.add L));have wa3:WOk H3 (W.add L):=wa.up s3;refine hg items[i] _ ρ1 h3 x _ H3 (W.add L) rx rl3 (by simp[lM,iT]) _ λσ2 rl4 hl4 k4=>⟨De hcap k4,?_⟩;cases h4:c ρ1 with
       |none=>simp[h4]at hrest
       |some bb=>
        rw[h4]at hrest;simp only[Option.bind_some]at hrest;refine ht ρ1 bb h4 σ2 H3 (W.add L) rl4 wa3 _ λH4 s4=>?_;have rl5:=rl4.up (Up.same s4);have wa4:=wa3.up s4;cases bb with
        |false=>
         simp only[Bool.false_eq_true,if_false]at hrest;exact uZ ⟨by omega,by omega,acc,L,rest,((s2.trans s3).trans s4),ra3.up (Up.same s4),fa,na,wa4,hrest,htot⟩
        |true=>
         simp only[if_true]at hrest;cases h5:e ρ1 with
         |none=>simp[h5]at hrest
         |some y=>
          cases h6:fW tg c e (lM cap ρ) (items.drop (i+1))with
          |none=>simp[h5,h6]at hrest
          |some rest'=>
           obtain rfl:y::rest'=rest:=by simpa[h5,h6]using hrest
           refine pL (he ρ1 y h5 σ2 H4 (W.add L) rl5 wa4 _ λv H5 M s5 ry fy ny=>?_);have fM:∀a∈M,H1 a=none:=λa ha=>(((s2.trans s3).trans s4)).none' (fy a ha);have hLM:∀a∈L,a∉M:=λa h1 h2=>by
            obtain⟨o,ho,_⟩:=(ra3.up (Up.same s4 (W:=W.add L))).dom a h1;rw[fy a h2]at ho;cases ho
           have u5:Up H4 H5 (W.add L) (W.add (L++M)):=⟨s5,λb u hb f=>⟨λz=>z.elim (λz=>(List.mem_append.mp z).elim (λz=>f.1 (.inl z)) λz=>by rw[fy b z]at hb;cases hb) λz=>f.1 (.inr z),f.2⟩,λ_ _ _ f=>f⟩;have u6:Up H5 H5 ((W.add L).add M) (W.add (L++M)):=⟨Same.refl _,λb u hb f=>⟨λz=>by
            rcases z with z|z
            .exact(List.mem_append.mp z).elim (λz=>f.1 (.inr (.inl z))) λz=>f.1 (.inl z)
            .exact f.1 (.inr (.inr z)),f.2⟩,λ_ _ _ f=>f⟩
           refine⟨by omega,by simp;omega,acc++[y],L++M,rest',((s2.trans s3).trans s4).trans s5,((ra3.up (Up.same s4)).up u5).append (.one (ry.up u6)),λa ha=>(List.mem_append.mp ha).elim (fa a) (fM a),fK na ny hLM,?_,rfl,by rw[←htot];simp⟩;exact w.add (((s1.trans s2).trans s3).trans s4 |>.trans s5) λa ha=>(List.mem_append.mp ha).elim (λz=>let⟨o,h,m⟩:=(ra3.up (Up.same s4 (W:=W.add L))).dom a z;⟨o,s5 a o h,m⟩) (ry.dom a)
     .have hl:i=items.length:=by omega
      subst hl;rw[List.drop_length,fW]at hrest;cases hrest;refine .inl ⟨wk.stop H2 _ (LtB.up up2),Nat.le_of_lt (six (by omega)),λp hp=>?_⟩;have sm:Same H2 (upd H2 p (.lst ys)):=Same.new hp;rw[List.append_nil]at htot;subst htot;refine q (.ref p) _ (p::L) ((s1.trans s2).trans sm) ?_ (λa ha=>(List.mem_cons.mp ha).elim (λz=>by rw[z];exact(s1.trans s2).none' hp) λz=>s1.none' (fa a z)) (List.nodup_cons.mpr ⟨λz=>?_,na⟩)
      .rw[Rep]
       exact⟨p,ys,L,rfl,ra.up ⟨sm,λb u hb f=>⟨λz=>z.elim (λz=>(List.mem_cons.mp z).elim (λz=>by rw[z,hp]at hb;cases hb) λz=>f.1 (.inl z)) λz=>f.1 (.inr z),f.2⟩,λ_ _ _ f=>f⟩,bJ,rfl⟩
      .obtain⟨o,ho,_⟩:=ra.dom p z
       rw[hp]at ho;cases ho
  .cases ee
end
def lr(cap:List (Option Nat)):Prop:=∀(i k j:Nat),cap[i]? =some (some j)->cap[k]? =some (some j)->i=k
def j0(cap:List (Option Nat))(S:Ad):Ad:=λi=>match cap[i]? with
 |some (some j)=>S j
 |_=>[]
def p6(cap:List (Option Nat))(S:Ad)(Fr:Addr->Prop):Addr->Prop:=λa=>Fr a∨∃j:Nat,(∀i:Nat,cap[i]?≠some (some j))/\a∈S j
theorem jo{cap:List (Option Nat)}{S:Ad}{i:Nat}{a:Addr}(h:a∈j0 cap S i):∃j,cap[i]? =some (some j)/\a∈S j:=by
 unfold j0 at h;split at h
 .rename_i j e;exact⟨j,e,h⟩
 .cases h
theorem zU{cap:List (Option Nat)}{S:Ad}{i j:Nat}(h:cap[i]? =some (some j)):j0 cap S i=S j:=by unfold j0;rw[h]
theorem Ds{cap:List (Option Nat)}{ob:Nat->Bool}{i j:Nat}(h:cap[i]? =some (some j)):obC cap ob i=ob j:=by unfold obC;rw[h]
section
variable{G:Gc}{ob own:Nat->Bool}{cap:List (Option Nat)}
theorem vq{S:Ad}{Fr:Addr->Prop}{a:Addr}:(wn ob S Fr).free a↔(wn (obC cap ob) (j0 cap S) (p6 cap S Fr)).free a:=by
 constructor
 .intro f
  have nS:∀j,a∉S j:=λj z=>by
   cases ho:ob j with
   |false=>exact f.2.1 ⟨j,ho,z⟩
   |true=>exact f.2.2 ⟨j,ho,z⟩
  refine⟨λz=>z.elim f.1 λ⟨j,_,z⟩=>nS j z,λ⟨i,_,z⟩=>?_,λ⟨i,_,z⟩=>?_⟩
  .obtain⟨j,_,z⟩:=jo z;exact nS j z
  .obtain⟨j,_,z⟩:=jo z;exact nS j z
 .intro f
  have nS:∀j,a∉S j:=λj z=>by
   by_cases hc:∃i:Nat,cap[i]? =some (some j)
   .obtain⟨i,hi⟩:=hc
    have z':a∈j0 cap S i:=by rw[zU hi];exact z
    cases ho:obC cap ob i with
    |false=>exact f.2.1 ⟨i,ho,z'⟩
    |true=>exact f.2.2 ⟨i,ho,z'⟩
   .exact f.1 (.inr ⟨j,λi hi=>hc ⟨i,hi⟩,z⟩)
  exact⟨λz=>f.1 (.inl z),λ⟨j,_,z⟩=>nS j z,λ⟨j,_,z⟩=>nS j z⟩
theorem S8{H:Hp}{S:Ad}{Fr:Addr->Prop}{d:D}{v:V}{L:List Addr}(hc:clean d=true):Rep G H (wn ob S Fr) d v L↔Rep G H (wn (obC cap ob) (j0 cap S) (p6 cap S Fr)) d v L:=by
 have hcc:=(by simpa[clean]using hc:aG d=true/\aD d=true);constructor
 .intro r
  have ev:Evo H H (wn ob S Fr) (wn (obC cap ob) (j0 cap S) (p6 cap S Fr)):=⟨λb u hb f=>⟨hb,vq.mp f⟩,λ_ _ h=>h⟩;exact r.mono ev (.inl hcc.1) (.inl hcc.2) λ_ _ _ h=>h
 .intro r
  have ev:Evo H H (wn (obC cap ob) (j0 cap S) (p6 cap S Fr)) (wn ob S Fr):=⟨λb u hb f=>⟨hb,vq.mpr f⟩,λ_ _ h=>h⟩;exact r.mono ev (.inl hcc.1) (.inl hcc.2) λ_ _ _ h=>h
theorem Sta.inn{H:Hp}{ρ:En}{σ:L2.St}{S:Ad}{Fr:Addr->Prop}(hj:lr cap)(s:Sta G H ob ρ σ S Fr):Sta G H (obC cap ob) (lM cap ρ) (iT cap σ) (j0 cap S) (p6 cap S Fr)where
 len:=by simp[lM,iT]
 sl:=λi d e=>by
  obtain⟨j,h1,h2⟩:=rG e;obtain⟨v,q1,q2,q3⟩:=s.sl j d h2;exact⟨v,zV h1 q1,by rw[zU h1];exact(S8 q3).mp q2,q3⟩
 em:=λi h=>by
  unfold j0;split
  .rename_i j e
   exact s.em j λd hd=>h d (zV e hd)
  .rfl
 nd:=λi=>by
  unfold j0;split
  .exact s.nd _
  .exact List.nodup_nil
 dj:=λi k a h1 h2=>by
  obtain⟨j1,e1,z1⟩:=jo h1;obtain⟨j2,e2,z2⟩:=jo h2;have:=s.dj j1 j2 a z1 z2;subst this;exact hj i k j1 e1 e2
 fdj:=λi a h z=>by
  obtain⟨j,e,z⟩:=jo z;rcases h with h|⟨k,hk,h⟩
  .exact s.fdj j a h z
  .have:=s.dj j k a z h
   subst this;exact hk i e
 fdm:=λa h=>by
  rcases h with h|⟨k,_,h⟩
  .exact s.fdm a h
  .exact s.mu h
def fQ:List (Option Nat)->En->En->En
 |some j::cs,d::ds,ρ=>fQ cs ds (ρ.set j d)
 |none::cs,_::ds,ρ=>fQ cs ds ρ
 |_,_,ρ=>ρ
theorem pC:∀(cap:List (Option Nat))(ds ρ:En),(fQ cap ds ρ).length=ρ.length
 |[],ds,ρ=>by cases ds<;>rfl
 |some j::cs,[],ρ=>rfl
 |none::cs,[],ρ=>rfl
 |some j::cs,d::ds,ρ=>by rw[fQ,pC cs ds];simp
 |none::cs,d::ds,ρ=>by rw[fQ,pC cs ds]
theorem oK:∀{cap:List (Option Nat)}{ds ρ:En}{j:Nat},(∀i:Nat,cap[i]?≠some (some j))->(fQ cap ds ρ)[j]? =ρ[j]?
 |[],ds,ρ,j,_=>by cases ds<;>rfl
 |some k::cs,[],ρ,j,_=>rfl
 |none::cs,[],ρ,j,_=>rfl
 |some k::cs,d::ds,ρ,j,h=>by
  rw[fQ,oK λi e=>h (i+1) (by simpa using e),List.getElem?_set_ne λz=>h 0 (by simp[z])]
 |none::cs,d::ds,ρ,j,h=>by rw[fQ,oK λi e=>h (i+1) (by simpa using e)]
theorem qD:∀{cap:List (Option Nat)}{ds ρ:En}{i j:Nat}{x:Option D},lr cap->cap[i]? =some (some j)->ds[i]? =some x->j<ρ.length->(fQ cap ds ρ)[j]? =some x
 |[],ds,ρ,i,j,x,_,h,_,_=>by simp at h
 |some k::cs,[],ρ,i,j,x,_,_,h,_=>by simp at h
 |none::cs,[],ρ,i,j,x,_,_,h,_=>by simp at h
 |some k::cs,d::ds,ρ,i,j,x,hj,h1,h2,hl=>by
  rw[fQ];cases i with
  |zero=>
   have e1:k=j:=by simpa using h1
   have e2:d=x:=by simpa using h2
   subst e1 e2;rw[oK λi e=>?_]
   .simp[hl]
   .have:=hj 0 (i+1) k (by simp) (by simpa using e)
    omega
  |succ i=>exact qD (λa b c h1 h2=>by have:=hj (a+1) (b+1) c (by simpa using h1) (by simpa using h2);omega) (by simpa using h1) (by simpa using h2) (by simpa using hl)
 |none::cs,d::ds,ρ,i,j,x,hj,h1,h2,hl=>by
  rw[fQ];cases i with
  |zero=>simp at h1
  |succ i=>exact qD (λa b c h1 h2=>by have:=hj (a+1) (b+1) c (by simpa using h1) (by simpa using h2);omega) (by simpa using h1) (by simpa using h2) hl
def vp(cap:List (Option Nat))(Si S:Ad):Ad:=λj=>match cap.findIdx? (λo=>o==some j)with
 |some i=>Si i
 |none=>S j
theorem iQ{Si S:Ad}{i j:Nat}(hj:lr cap)(h:cap[i]? =some (some j)):vp cap Si S j=Si i:=by
 unfold vp;split
 .rename_i k e
  obtain⟨h1,h2,_⟩:=List.findIdx?_eq_some_iff_getElem.mp e;have:cap[k]=some j:=by simpa using h2
  rw[hj i k j h (by rw[List.getElem?_eq_getElem h1,this])]
 .rename_i e
  have:=List.findIdx?_eq_none_iff.mp e (some j) (List.mem_of_getElem? h);simp at this
theorem iM{Si S:Ad}{j:Nat}(h:∀i:Nat,cap[i]?≠some (some j)):vp cap Si S j=S j:=by
 unfold vp;split
 .rename_i k e
  obtain⟨h1,h2,_⟩:=List.findIdx?_eq_some_iff_getElem.mp e;have:cap[k]=some j:=by simpa using h2
  exact absurd (by rw[List.getElem?_eq_getElem h1,this]) (h k)
 .rfl
theorem gR(cap:List (Option Nat))(j:Nat):(∃i:Nat,cap[i]? =some (some j))∨(∀i:Nat,cap[i]?≠some (some j)):=by
 by_cases h:∃i:Nat,cap[i]? =some (some j)
 .exact .inl h
 .exact .inr λi z=>h ⟨i,z⟩
theorem Sta.out{H H':Hp}{ρ ρi:En}{σ σi:L2.St}{S Si:Ad}{Fr:Addr->Prop}{M:List Addr}(hj:lr cap)(s:Sta G H ob ρ σ S Fr)(ho:∀i:Nat,cap[i]? =some none->True)(hk:∀i j:Nat,cap[i]? =some (some j)->σi[i]? =(iT cap σ)[i]?)
  (si:Sta G H' (obC cap ob) ρi σi Si (plus M (p6 cap S Fr))) (ef:Eff (obC cap ob) H H' (j0 cap S) Si M):Sta G H' ob (fQ cap ρi ρ) σ (vp cap Si S) (plus M Fr)/\Eff ob H H' S (vp cap Si S) M/\
   (∀d v L,clean d=true->Rep G H' (wn (obC cap ob) Si (plus M (p6 cap S Fr))) d v L->Rep G H' (wn ob (vp cap Si S) (plus M Fr)) d v L):=by
 have inO1:∀{a},inO (obC cap ob) (j0 cap S) a->inO ob S a:=λ{a}⟨i,h1,h2⟩=>by
  obtain⟨j,e,z⟩:=jo h2;exact⟨j,by rw[←Ds (ob:=ob) e];exact h1,z⟩
 have eff:Eff ob H H' S (vp cap Si S) M:=by
  refine⟨λb u hb n=>ef.kp b u hb λz=>n (inO1 z),λj hob=>?_,λj a hob z=>?_,λa ha=>(ef.fm a ha).imp inO1 id⟩
  .rcases gR cap j with⟨i,hi⟩|hn
   .rw[iQ hj hi,ef.sn i (by rw[Ds hi];exact hob),zU hi]
   .exact iM hn
  .rcases gR cap j with⟨i,hi⟩|hn
   .rw[iQ hj hi]at z
    exact(ef.gr i a (by rw[Ds hi];exact hob) z).imp inO1 id
   .rw[iM hn]at z;exact .inl ⟨j,hob,z⟩
 have hfree:∀a,(wn (obC cap ob) Si (plus M (p6 cap S Fr))).free a->(wn ob (vp cap Si S) (plus M Fr)).free a:=λa f=>by
  have nS:∀j,a∉vp cap Si S j:=λj z=>by
   rcases gR cap j with⟨i,hi⟩|hn
   .rw[iQ hj hi]at z
    cases hoi:obC cap ob i with
    |false=>exact f.2.1 ⟨i,hoi,z⟩
    |true=>exact f.2.2 ⟨i,hoi,z⟩
   .rw[iM hn]at z
    exact f.1 (.inr (.inr ⟨j,hn,z⟩))
  exact⟨λz=>z.elim (λz=>f.1 (.inl z)) λz=>f.1 (.inr (.inl z)),λ⟨j,_,z⟩=>nS j z,λ⟨j,_,z⟩=>nS j z⟩
 have conv:∀d v L,clean d=true->Rep G H' (wn (obC cap ob) Si (plus M (p6 cap S Fr))) d v L->Rep G H' (wn ob (vp cap Si S) (plus M Fr)) d v L:=λd v L hc r=>by
  have hcc:=(by simpa[clean]using hc:aG d=true/\aD d=true);have ev:Evo H' H' (wn (obC cap ob) Si (plus M (p6 cap S Fr))) (wn ob (vp cap Si S) (plus M Fr)):=⟨λb u hb f=>⟨hb,hfree b f⟩,λ_ _ h=>h⟩;exact r.mono ev (.inl hcc.1) (.inl hcc.2) λ_ _ _ h=>h
 have notin:∀{j a},(∀i:Nat,cap[i]?≠some (some j))->a∈S j->∀i,a∉Si i:=λ{j a} hn z i y=>si.fdj i a (.inr (.inr ⟨j,hn,z⟩)) y;refine⟨⟨by rw[pC];exact s.len,λj d hd=>?_,λj hd=>?_,λj=>?_,λj k a h1 h2=>?_,λj a h z=>?_,λa h=>?_⟩,eff,conv⟩
 .rcases gR cap j with⟨i,hi⟩|hn
  .have hjl:j<ρ.length:=by
    have:=(List.getElem?_eq_some_iff.mp hd).1;rwa[pC]at this
   cases hx:ρi[i]? with
   |none=>
    have h1:ρi.length<=i:=List.getElem?_eq_none_iff.mp hx;have h2:σi.length<=i:=by rw[←si.len];exact h1
    have h3:=hk i j hi;rw[List.getElem?_eq_none_iff.mpr h2]at h3;have h4:(iT cap σ).length<=i:=List.getElem?_eq_none_iff.mp h3.symm;have h5:i<cap.length:=(List.getElem?_eq_some_iff.mp hi).1;simp[iT]at h4;omega
   |some x=>
    rw[qD hj hi hx hjl]at hd;cases hd;obtain⟨v,q1,q2,q3⟩:=si.sl i d hx;rw[hk i j hi]at q1;obtain⟨j',e1,e2⟩:=rG q1;rw[hi]at e1;cases e1;exact⟨v,e2,by rw[iQ hj hi];exact conv _ _ _ q3 q2,q3⟩
  .rw[oK hn]at hd
   obtain⟨v,q1,q2,q3⟩:=s.sl j d hd;refine⟨v,q1,?_,q3⟩;rw[iM hn];have hcc:=(by simpa[clean]using q3:aG d=true/\aD d=true);refine q2.mono (eff.evo s) (.inl hcc.1) (.inl hcc.2) λc hc u hu=>?_;exact ef.kp c u hu λ⟨i,_,z⟩=>by
    obtain⟨k,e,z⟩:=jo z;have:=s.dj j k c hc z;subst this;exact hn i e
 .rcases gR cap j with⟨i,hi⟩|hn
  .rw[iQ hj hi]
   refine si.em i λd hdi=>?_;by_cases hjl:j<ρ.length
   .exact hd d (qD hj hi hdi hjl)
   .
    obtain⟨v,q1,_⟩:=si.sl i d hdi;rw[hk i j hi]at q1;obtain⟨j',e1,e2⟩:=rG q1;rw[hi]at e1;cases e1;have:=(List.getElem?_eq_some_iff.mp e2).1;rw[←s.len]at this;exact hjl this
  .rw[iM hn]
   exact s.em j λd=>by have:=hd d;rwa[oK hn]at this
 .rcases gR cap j with⟨i,hi⟩|hn
  .rw[iQ hj hi];exact si.nd i
  .rw[iM hn];exact s.nd j
 .rcases gR cap j with⟨i,hi⟩|hn<;>rcases gR cap k with⟨i',hi'⟩|hn'
  .rw[iQ hj hi]at h1
   rw[iQ hj hi']at h2;have:=si.dj i i' a h1 h2;subst this;rw[hi]at hi';cases hi';rfl
  .rw[iQ hj hi]at h1
   rw[iM hn']at h2;exact absurd h1 (notin hn' h2 i)
  .rw[iM hn]at h1
   rw[iQ hj hi']at h2;exact absurd h2 (notin hn h1 i')
  .rw[iM hn]at h1
   rw[iM hn']at h2;exact s.dj j k a h1 h2
 .rcases gR cap j with⟨i,hi⟩|hn
  .rw[iQ hj hi]at z
   exact si.fdj i a (h.imp id .inl) z
  .rw[iM hn]at z
   rcases h with h|h
   .rcases ef.fm a h with y|y
    .obtain⟨k,_,y⟩:=inO1 y
     have:=s.dj j k a z y;subst this;obtain⟨i,hi,y'⟩:∃i,obC cap ob i=true/\a∈j0 cap S i:=by assumption
     obtain⟨k',e,y'⟩:=jo y';have:=s.dj j k' a z y';subst this;exact hn i e
    .obtain⟨o,ho,_⟩:=s.mu z
     rw[y]at ho;cases ho
   .exact s.fdj j a h z
 .rcases h with h|h
  .exact si.fdm a (.inl h)
  .exact si.fdm a (.inr (.inl h))
end
section
variable{ι:Type}{X:ι->Cx}{G:Gc}{ob own:Nat->Bool}
def Ov(G:Gc)(ob own:Nat->Bool)(g:TG)(f:D->En->Option En):Prop:=∀(d:D)(ρ ρ':En),f d ρ=some ρ'->∀(x:V)(σ:L2.St)(H:Hp)(S:Ad)(Fr:Addr->Prop),Sta G H ob ρ σ S Fr->(∀i,own i=true->S i=[])->Rep G H (wn ob S Fr) d x []->∀Q:L2.St->Hp->Prop,
 (∀σ',Sta G H ob ρ' σ' S Fr->(∀j,own j=false->σ'[j]? =σ[j]?)->Q σ' H)->g x σ H Q
theorem HN{i:Nat}(ho:own i=true):Ov G ob own (yH i) (tgN i):=λd ρ ρ' e x σ H S Fr s hS r Q q=>by
 unfold tgN at e;split at e
 .rename_i hc
  cases e;refine q _ ⟨by simp[s.len],λj d' hj=>?_,λj hj=>?_,s.nd,s.dj,s.fdj,s.fdm⟩ λj hj=>?_
  .by_cases ej:i=j
   .subst ej
    rw[List.getElem?_set]at hj;split at hj
    .split at hj
     .rename_i h2
      have:d=d':=by simpa using hj
      subst this;exact⟨x,by simp[←s.len,h2],by rw[hS i ho];exact r,hc⟩
     .cases hj
    .exact absurd rfl ‹_›
   .rw[List.getElem?_set_ne ej]at hj
    obtain⟨v,h1,h2,h3⟩:=s.sl j d' hj;exact⟨v,by rw[List.getElem?_set_ne ej];exact h1,h2,h3⟩
  .by_cases ej:i=j
   .subst ej;exact hS i ho
   .exact s.em j λd'=>by have:=hj d';rwa[List.getElem?_set_ne ej]at this
  .have:i≠j:=λz=>by rw[←z,ho]at hj;cases hj
   rw[List.getElem?_set_ne this]
 .cases e
structure M5{ι:Type}(X:ι->Cx)(G:Gc)(ob own:Nat->Bool)(tg:Expr)(f:D->En->Option En):Prop where
 mk::(ex:∃t,(∀c,PG (X c) tg t)/\Ov G ob own t f)
theorem xY(i:Nat){x:Str}{pos:Pos}(hN:∀c,(X c).N.Nodup)(ho:own i=true:=by rfl)(hi:∀c,(X c).N[i]? =some x:=by intro _;rfl)(hx:∀c,Loc (X c).env.scope x:=by intro _;first|exact Or.inl rfl|exact Or.inr rfl)(hf:∀c,(X c).fn x=true∨(X c).env.scope.names.lookup x=some .local:=by intro _;first|exact .inl rfl|exact .inr rfl):M5 X G ob own (.Name x pos) (tgN i):=⟨_,λc=>zr (hN c) (hi c) (hx c) (hf c),HN ho⟩
def kY(cap:List (Option Nat))(tg:D->En->Option En)(c:En->Option Bool)(e:En->Option (D×En)):List D->En->Option (List D×En)
 |[],ρ=>some ([],ρ)
 |d::r,ρ=>(tg d (lM cap ρ)).bind λρ1=>(c ρ1).bind λb=>if b=true then(e ρ1).bind λp=>if clean p.1=true then(kY cap tg c e r (fQ cap p.2 ρ)).map λt=>(p.1::t.1,t.2)else none else kY cap tg c e r ρ
def wO(cap:List (Option Nat))(it:En->Option (Bool×List D))(tg:D->En->Option En)(c:En->Option Bool)(e:En->Option (D×En)):En->Option (D×En):=λρ=>(it ρ).bind λp=>if p.1=true/\p.2.length<=1000000 then(kY cap tg c e p.2 ρ).map λt=>(.lst .own t.1,t.2)else none
theorem Je{cap:List (Option Nat)}{wi:TI}{g:TG}{tt:TT}{te:TE}{it:En->Option (Bool×List D)}{tg:D->En->Option En}{c:En->Option Bool}{e:En->Option (D×En)}(hj:lr cap)(hcap:∀i:Nat,own i=true->cap[i]?≠none->cap[i]? =some none)(hi:RfI G ob wi it)(hg:Ov G (obC cap ob) own g tg)(ht:RfT G (obC cap ob) tt c)(he:kh G (obC cap ob) te e) :
  kh G ob (BZ cap wi g tt te) (wO cap it tg c e):=λρ d ρ' ee σ H S Fr s Q q=>by
 unfold wO at ee;cases h1:it ρ with
 |none=>simp[h1]at ee
 |some p=>
  obtain⟨b,items⟩:=p;rw[h1]at ee;simp only[Option.bind_some]at ee;split at ee
  .rename_i hlen
   obtain⟨hb,hlen⟩:=hlen;change b=true at hb;change items.length<=1000000 at hlen;subst hb;cases h2:kY cap tg c e items ρ with
   |none=>simp[h2]at ee
   |some w=>
    obtain⟨tot,ρf⟩:=w;obtain⟨rfl,rfl⟩:D.lst .own tot=d/\ρf=ρ':=by simpa[h2]using ee
    refine hi ρ true items h1 σ H _ s.rel s.wok _ λJ H1 sm wk=>?_;have s1:Sta G H1 ob ρ σ S Fr:=s.grow sm λa z=>.inl z;have e1:Eff ob H H1 S S []:=⟨λb u h _=>sm b u h,λ_ _=>rfl,λi a h z=>.inl ⟨i,h,z⟩,by simp⟩;refine⟨λi m ys H2=>i+m=items.length/\ys.length<=i/\∃ρ2 S2 acc L rest,Sta G H2 ob ρ2 σ S2 (plus L Fr)/\aK G H2 (wn ob S2 (plus L Fr)) acc ys L/\L.Nodup/\aH acc=true/\aJ acc=true/\Eff ob H1 H2 S S2 L/\kY cap tg c e (items.drop i) ρ2=some (rest,ρf)/\acc++rest=tot,
     ⟨items.length,by omega,by simp,ρ,S,[],[],tot,by rw[gM];exact s1,.nil,List.nodup_nil,rfl,rfl,.refl,h2,rfl⟩,?_⟩
    rintro i m ys H2 ⟨him,hyi,ρ2,S2,acc,L,rest,s2,ra,na,ca1,ca2,ef,hrest,htot⟩;have lt:LtB true H1 (wn ob S Fr) H2 (wn (obC cap ob) (j0 cap S2) (p6 cap S2 (plus L Fr))):=pL ⟨λb u hb f=>let⟨h1,h2⟩:=(ef.evo s1).k b u hb f;⟨h1,vq.mp h2⟩,(ef.evo s1).t⟩;by_cases hil:i<items.length
    .have hdr:=(List.getElem_cons_drop hil).symm
     rw[hdr,kY]at hrest;refine .inr ⟨wk.go i items[i] (by simp[hil]) H2 _ lt,by have:=six hlen;omega,λys' H'=>(i+1)+(m-1)=items.length/\ys'.length<=i+1/\∃ρ2 S2 acc L rest,Sta G H' ob ρ2 σ S2 (plus L Fr)/\aK G H' (wn ob S2 (plus L Fr)) acc ys' L/\L.Nodup/\aH acc=true/\aJ acc=true/\Eff ob H1 H' S S2 L/\kY cap tg c e (items.drop (i+1)) ρ2=some (rest,ρf)/\acc++rest=tot,λys' H' h=>⟨m-1,by omega,h⟩,λx H3 hy=>?_⟩;obtain⟨s3,rx⟩:=wk.yld i items[i] (by simp[hil]) H2 _ lt x H3 hy;have st3:Sta G H3 ob ρ2 σ S2 (plus L Fr):=s2.grow s3 λa z=>.inl z;have ef3:Eff ob H1 H3 S S2 L:=ef.same s3 λc hc=>.inl hc;have ra3:aK G H3 (wn ob S2 (plus L Fr)) acc ys L:=ra.up (Up.same s3);have si:=st3.inn (cap:=cap) hj;cases h3:tg items[i] (lM cap ρ2)with
     |none=>simp[h3]at hrest
     |some ρ3=>
      rw[h3]at hrest;simp only[Option.bind_some]at hrest;have hSo:∀k,own k=true->j0 cap S2 k=[]:=λk hk=>by
       unfold j0;split
       .rename_i j e
        rw[hcap k hk (by rw[e];simp)]at e;cases e
       .rfl
      refine hg items[i] _ ρ3 h3 x _ H3 _ (p6 cap S2 (plus L Fr)) si hSo rx _ λσ4 s4 kpo=>⟨De hcap kpo,?_⟩;cases h4:c ρ3 with
      |none=>simp[h4]at hrest
      |some bb=>
       rw[h4]at hrest;simp only[Option.bind_some]at hrest;refine ht ρ3 bb h4 σ4 H3 _ s4.rel s4.wok _ λH4 s4'=>?_;have st4:Sta G H4 ob ρ2 σ S2 (plus L Fr):=st3.grow s4' λa z=>.inl z;have si4:Sta G H4 (obC cap ob) ρ3 σ4 (j0 cap S2) (p6 cap S2 (plus L Fr)):=s4.grow s4' λa z=>.inl z;have ef4:Eff ob H1 H4 S S2 L:=ef3.same s4' λc hc=>.inl hc;have ra4:aK G H4 (wn ob S2 (plus L Fr)) acc ys L:=ra3.up (Up.same s4');cases bb with
       |false=>
        simp only[Bool.false_eq_true,if_false]at hrest;exact uZ ⟨by omega,by omega,ρ2,S2,acc,L,rest,st4,ra4,na,ca1,ca2,ef4,hrest,htot⟩
       |true=>
        simp only[if_true]at hrest;cases h5:e ρ3 with
        |none=>simp[h5]at hrest
        |some w=>
         obtain⟨y,ρ5⟩:=w;rw[h5]at hrest;simp only[Option.bind_some]at hrest;split at hrest
         .rename_i hcy
          cases h6:kY cap tg c e (items.drop (i+1)) (fQ cap ρ5 ρ2)with
          |none=>simp[h6]at hrest
          |some w=>
           obtain⟨rest',ρf'⟩:=w;obtain⟨rfl,rfl⟩:y::rest'=rest/\ρf'=ρf:=by simpa[h6]using hrest
           refine pL (he ρ3 y ρ5 h5 σ4 H4 _ _ si4 _ λv H5 M S5 s5 ry ny ef5=>?_);have hk5:∀i j:Nat,cap[i]? =some (some j)->σ4[i]? =(iT cap σ)[i]?:=λi j hi=>kpo i (by
            cases ho:own i with
            |false=>rfl
            |true=>rw[hcap i ho (by rw[hi];simp)]at hi;cases hi)
           obtain⟨o1,o2,o3⟩:=st4.out hj (λ_ _=>trivial) hk5 s5 ef5;have hcc:=(by simpa[clean]using hcy:aG y=true/\aD y=true);have ra5:=ra4.mono (o2.evo st4) (.inl ca1) (.inl ca2) λc hc u hu=>o2.keepsF st4 (.inl hc) u hu;rw[jP]at o1 ra5;have ry5:=o3 y v M hcy ry;rw[jP]at ry5;have hLM:∀a∈L,a∉M:=λa z1 z2=>by
            rcases o2.fm a z2 with y|y
            .exact st4.notO (.inl z1) y
            .obtain⟨o,ho,_⟩:=ra4.dom a z1
             rw[y]at ho;cases ho
           exact⟨by omega,by simp;omega,fQ cap ρ5 ρ2,_,acc++[y],L++M,rest',o1,ra5.append (.one ry5),fK na ny hLM,by rw[jl];simp[ca1,aH,hcc],by rw[jf];simp[ca2,aJ,hcc],ef4.trans o2,h6,by rw[←htot];simp⟩
         .cases hrest
    .have hl:i=items.length:=by omega
     subst hl;rw[List.drop_length,kY]at hrest;obtain⟨rfl,rfl⟩:[]=rest/\ρ2=ρf:=by simpa using hrest
     refine .inl ⟨wk.stop H2 _ lt,Nat.le_of_lt (six (by omega)),λp hp=>?_⟩;have sm2:Same H2 (upd H2 p (.lst ys)):=Same.new hp;rw[List.append_nil]at htot;subst htot;have np:p∉L:=λz=>by obtain⟨o,ho,_⟩:=ra.dom p z;rw[hp]at ho;cases ho
     have hr:Rep G (upd H2 p (.lst ys)) (wn ob S2 (plus (p::L) Fr)) (.lst .own acc) (.ref p) (p::L):=by
      rw[Rep];exact⟨p,ys,L,rfl,ra.up ⟨sm2,λb u hb f=>⟨λz=>z.elim (λz=>(List.mem_cons.mp z).elim (λz=>by rw[z,hp]at hb;cases hb) λz=>f.1 (.inl z)) λz=>f.1 (.inr z),f.2⟩,λ_ _ _ f=>f⟩,bJ,rfl⟩
     refine q (.ref p) _ (p::L) S2 (s2.grow sm2 λa z=>?_) hr (List.nodup_cons.mpr ⟨np,na⟩) ?_
     .rcases z with z|z
      .rcases List.mem_cons.mp z with z|z
       .exact .inr ⟨by rw[z];exact hp,hr.dom a (by simp[z])⟩
       .exact .inl (.inl z)
      .exact .inl (.inr z)
     .exact(e1.trans ef).same sm2 λc hc=>(List.mem_cons.mp hc).elim (λz=>.inr (by rw[z];exact hp)) λz=>.inl (by simpa using z)
  .cases ee
section
variable{elt target iter:Expr}{ifs:List Expr}{scope:Scope}{pos pos' pos2:Pos}{N':List Str}{it:En->Option (Bool×List D)}{tg:D->En->Option En}{fc:En->Option Bool}
theorem fX(cap:List (Option Nat))(own:Nat->Bool){fe:En->Option D}(hx:∀c,(X c).xe=NoX)(hc:∀c,(X c).calm=true)(O:∀c,bR (X c).env.scope (X c).N N' scope cap)(hcap:∀i:Nat,own i=true->cap[i]?≠none->cap[i]? =some none)(hi:PVI X G ob target iter it)(hg:JK (InX X N' scope) G (obC cap ob) own target tg)(ht:Ju (InX X N' scope) G (obC cap ob) ifs fc)(he:PV (InX X N' scope) G (obC cap ob) elt fe)
  (hs:∀c,∀x,foldedSetIterable iter (X c).env x=pure x:=by intro _ _;rfl):PV X G ob (.ListComp elt [⟨target,iter,ifs,0⟩] scope pos) (fJ cap it tg fc fe):=
 let⟨_,i1,i2⟩:=hi.ex;let⟨_,g1,g2⟩:=hg.ex;let⟨_,t1,t2⟩:=ht.ex;let⟨_,e1,e2⟩:=he.ex
 ⟨_,λc=>zF (hx c) (hc c) (O c) (i1 c) (λC s H fp=>g1 (c,C,s,H,fp)) (λC s H fp=>t1 (c,C,s,H,fp)) (λC s H fp=>e1 (c,C,s,H,fp)) (hs c),GD hcap i2 g2 t2 e2⟩
theorem Kw(cap:List (Option Nat))(own:Nat->Bool){fe:En->Option (D×En)}(hx:∀c,(X c).xe=NoX)(hc:∀c,(X c).calm=true)(O:∀c,bR (X c).env.scope (X c).N N' scope cap)(hj:lr cap)(hcap:∀i:Nat,own i=true->cap[i]?≠none->cap[i]? =some none)(hi:PVI X G ob target iter it)(hg:M5 (InX X N' scope) G (obC cap ob) own target tg)(ht:Ju (InX X N' scope) G (obC cap ob) ifs fc)(he:PVe (InX X N' scope) G (obC cap ob) elt fe)
  (hs:∀c,∀x,foldedSetIterable iter (X c).env x=pure x:=by intro _ _;rfl):PVe X G ob (.ListComp elt [⟨target,iter,ifs,0⟩] scope pos) (wO cap it tg fc fe):=
 let⟨_,i1,i2⟩:=hi.ex;let⟨_,g1,g2⟩:=hg.ex;let⟨_,t1,t2⟩:=ht.ex;let⟨_,e1,e2⟩:=he.ex
 ⟨_,λc=>zF (hx c) (hc c) (O c) (i1 c) (λC s H fp=>g1 (c,C,s,H,fp)) (λC s H fp=>t1 (c,C,s,H,fp)) (λC s H fp=>e1 (c,C,s,H,fp)) (hs c),Je hj hcap i2 g2 t2 e2⟩
variable{P:Nat->Bool}{x:Str}
theorem nO(i:Nat)(cap:List (Option Nat))(own:Nat->Bool){fe:En->Option D}(hN:∀c,(X c).N.Nodup)(hx:∀c,(X c).xe=NoX)(hc:∀c,(X c).calm=true)(O:∀c,bR (X c).env.scope (X c).N N' scope cap)(hcap:∀i:Nat,own i=true->cap[i]?≠none->cap[i]? =some none)(hi:PVI X G ob target iter it)(hg:JK (InX X N' scope) G (obC cap ob) own target tg)(ht:Ju (InX X N' scope) G (obC cap ob) ifs fc)(he:PV (InX X N' scope) G (obC cap ob) elt fe)
  (hP:P i=false:=by rfl) (hNi:∀c,(X c).N[i]? =some x:=by intro _;rfl) (hl:∀c,Loc (X c).env.scope x:=by intro _;first|exact Or.inl rfl|exact Or.inr rfl) (hw:∀c,swapsWith (.ListComp elt [⟨target,iter,ifs,0⟩] scope pos) (some (.Name x pos')) pos2.line (X c).env=pure true:=by intro _;rfl) (hs:∀c,∀x,foldedSetIterable iter (X c).env x=pure x:=by intro _ _;rfl)
  (hf:∀c,(X c).fn x=true∨(X c).env.scope.names.lookup x=some .local:=by intro _;first|exact .inl rfl|exact .inr rfl):PVS X G ob P (.Assign [.Name x pos'] (.ListComp elt [⟨target,iter,ifs,0⟩] scope pos) pos2) (du (fJ cap it tg fc fe) (tgN i)):=
 let⟨_,i1,i2⟩:=hi.ex;let⟨_,g1,g2⟩:=hg.ex;let⟨_,t1,t2⟩:=ht.ex;let⟨_,e1,e2⟩:=he.ex
 ⟨_,λc=>Gs (hx c) (hc c) (hN c) (hNi c) (hl c) (O c) (i1 c) (λC s H fp=>g1 (c,C,s,H,fp)) (λC s H fp=>t1 (c,C,s,H,fp)) (λC s H fp=>e1 (c,C,s,H,fp)) (hw c) (hs c) (hf c),by rw[←Dz];exact lU (CP (GD hcap i2 g2 t2 e2)) (j6 hP)⟩
end
end
section
variable{ι:Type}{X:ι->Cx}{G:Gc}
theorem OpR.or{Y:Cx}{f:Value->Value->Sem Value}{r r':R2}(h:OpR Y f r)(h':OpR Y f r'):OpR Y f (λx y H Q=>r x y H Q∨r' x y H Q):=λpins s σ H x y v u Q I rx ry q=>q.elim (h pins s σ H x y v u Q I rx ry) (h' pins s σ H x y v u Q I rx ry)
theorem fD.or{Y:Cx}{f:Value}{r r':List V->Hp->VK->Prop}(h:fD Y f r)(h':fD Y f r'):fD Y f (λxs H Q=>r xs H Q∨r' xs H Q):=λpins s σ H xs us Q I rv q=>q.elim (h pins s σ H xs us Q I rv) (h' pins s σ H xs us Q I rv)
theorem d9{H:Hp}{W:Wn}{i:Int}:Rep G H W (.int i) (.int i) []:=by rw[Rep];exact⟨rfl,rfl⟩
theorem Ey{H:Hp}{W:Wn}{i:Str}:Rep G H W (.str i) (.str i) []:=by rw[Rep];exact⟨rfl,rfl⟩
theorem fG{H:Hp}{W:Wn}{i:Bool}:Rep G H W (.bl i) (.bl i) []:=by rw[Rep];exact⟨rfl,rfl⟩
theorem bc{H:Hp}{W:Wn}{i:Int}{v:V}{L:List Addr}(r:Rep G H W (.int i) v L):v= .int i/\L=[]:=by rw[Rep]at r;exact r
theorem cC{H:Hp}{W:Wn}{i:Str}{v:V}{L:List Addr}(r:Rep G H W (.str i) v L):v= .str i/\L=[]:=by rw[Rep]at r;exact r
theorem j8{H:Hp}{W:Wn}{i:Bool}{v:V}{L:List Addr}(r:Rep G H W (.bl i) v L):v= .bl i/\L=[]:=by rw[Rep]at r;exact r
theorem Er{C:Int->Int->Prop}{g:Int->Int->V}{gD:D->D->Option D}(h:∀dx dy d,gD dx dy=some d->∃i j,dx= .int i/\dy= .int j/\C i j/\∀H W,Rep G H W d (g i j) []):OpV G (rI C g) gD:=λdx dy d e x y H W Lx Ly rx ry nd hn w Q q=>by
 obtain⟨i,j,rfl,rfl,hc,hr⟩:=h dx dy d e;obtain⟨rfl,rfl⟩:=bc rx;obtain⟨rfl,rfl⟩:=bc ry;exact⟨i,j,rfl,rfl,hc,q.scal (λW=>hr H W)⟩
theorem yR{g:Int->Int->V}{gD:D->D->Option D}(h:∀dx dy d,gD dx dy=some d->∃i j,dx= .int i/\dy= .int j/\∀H W,Rep G H W d (g i j) []):OpV G (rI0 g) gD:=λdx dy d e x y H W Lx Ly rx ry nd hn w Q q=>by
 obtain⟨i,j,rfl,rfl,hr⟩:=h dx dy d e;obtain⟨rfl,rfl⟩:=bc rx;obtain⟨rfl,rfl⟩:=bc ry;exact⟨i,j,rfl,rfl,q.scal (λW=>hr H W)⟩
def m_:D->D->Option D
 |.int a,.int b=>some (.int (a-b))
 |_,_=>none
def jU:D->D->Option D
 |.int a,.int b=>if(-(2 ^ 64)<a/\a<2 ^ 64)∨(-(2 ^ 64)<b/\b<2 ^ 64)then some (.int (a*b))else none
 |_,_=>none
def wF:D->D->Option D
 |.int a,.int b=>if 0<b/\b<18446744073709551616 then some (.int (a / b))else none
 |_,_=>none
def nQ:D->D->Option D
 |.int a,.int b=>if 0<b then some (.int (a % b))else none
 |_,_=>none
def vo:D->D->Option D
 |.int a,.int b=>if 0<=b/\b<=1000000/\a.natAbs<2 ^ 64 then some (.int (a ^ b.toNat))else none
 |_,_=>none
theorem vZ:OpB X G (binaryOp .Sub) m_:=⟨_,λc=>Q8,yR λdx dy d e=>by
 unfold m_ at e;split at e
 .cases e;exact⟨_,_,rfl,rfl,λ_ _=>d9⟩
 .cases e⟩
theorem lB:OpB X G (binaryOp .Mult) jU:=⟨_,λc=>SN,Er λdx dy d e=>by
 unfold jU at e;split at e
 .split at e
  .cases e;exact⟨_,_,rfl,rfl,‹_›,λ_ _=>d9⟩
  .cases e
 .cases e⟩
theorem Ft:OpB X G (binaryOp .FloorDiv) wF:=⟨_,λc=>Kg,Er λdx dy d e=>by
 unfold wF at e;split at e
 .split at e
  .cases e;exact⟨_,_,rfl,rfl,‹_›,λ_ _=>d9⟩
  .cases e
 .cases e⟩
theorem nP:OpB X G (binaryOp .Mod) nQ:=⟨_,λc=>RK,Er λdx dy d e=>by
 unfold nQ at e;split at e
 .split at e
  .cases e;exact⟨_,_,rfl,rfl,‹_›,λ_ _=>d9⟩
  .cases e
 .cases e⟩
theorem Ef:OpB X G (binaryOp .Pow) vo:=⟨_,λc=>S9,Er λdx dy d e=>by
 unfold vo at e;split at e
 .split at e
  .cases e;exact⟨_,_,rfl,rfl,‹_›,λ_ _=>d9⟩
  .cases e
 .cases e⟩
def gA:D->Option D
 |.int a=>some (.int (-a))
 |_=>none
theorem ie:UnB X G (unaryOp .USub) gA:=⟨_,λc=>RW,λdx d e x H W Lx rx nd hn w Q q=>by
 unfold gA at e;split at e
 .cases e
  obtain⟨rfl,rfl⟩:=bc rx;exact⟨_,rfl,q.scal λW=>d9⟩
 .cases e⟩
def bQ:D->D->Option D
 |.int a,.int b=>some (.int (a+b))
 |.str a,.str b=>if a.length+b.length<=sizeLine then some (.str (a++b))else none
 |.lst m a,.lst n b=>if m≠.scr/\n≠.scr/\a.length+b.length<=1000000 then some (.lst .own (a++b))else none
 |.tup a,.tup b=>if a.length+b.length<=1000000 then some (.tup (a++b))else none
 |_,_=>none
theorem xQ{H H':Hp}{W:Wn}{dx dy:List D}{xs ys:List V}{Lx Ly Mx My:List Addr}(hx:aK G H W dx xs Mx)(hy:aK G H W dy ys My)(sx:List.Sublist Mx Lx)(sy:List.Sublist My Ly)(hn:∀a∈Lx++Ly,W.tmp a)(s:Same H H')(extra:List Addr)(he:∀a∈extra,H a=none):aK G H' ((W.drop (Lx++Ly)).add (extra++(Mx++My))) (dx++dy) (xs++ys) (Mx++My):=by
 refine(hx.append hy).up ⟨s,λb u hb f=>⟨λz=>z.elim (λz=>?_) λz=>f.1 z.1,f.2⟩,λ_ _ _ f=>f⟩;rcases List.mem_append.mp z with z|z
 .rw[he b z]at hb;cases hb
 .rcases List.mem_append.mp z with z|z
  .exact f.1 (hn b (List.mem_append_left _ (sx.subset z))).1
  .exact f.1 (hn b (List.mem_append_right _ (sy.subset z))).1
def Ut(K:PySem.W.Frag):R2:=λx y H Q=>((rI0 (λi j=>.int (i+j)) x y H Q∨(∃i j,x= .str i/\y= .str j/\i.length+j.length<=sizeLine/\Q (.str (i++j)) H))∨U0 x y H Q)∨J8 K x y H Q
theorem O4:OpV G (Ut G.K) bQ:=λdx dy d e x y H W Lx Ly rx ry nd hn w Q q=>by
 unfold bQ at e;split at e
 .cases e
  obtain⟨rfl,rfl⟩:=bc rx;obtain⟨rfl,rfl⟩:=bc ry;exact .inl (.inl (.inl ⟨_,_,rfl,rfl,q.scal λ_=>d9⟩))
 .split at e
  .cases e
   obtain⟨rfl,rfl⟩:=cC rx;obtain⟨rfl,rfl⟩:=cC ry;exact .inl (.inl (.inr ⟨_,_,rfl,rfl,‹_›,q.scal λ_=>Ey⟩))
  .cases e
 .rename_i m a n b
  split at e
  .rename_i hc
   cases e;rw[Rep]at rx ry;obtain⟨p,xs,Mx,rfl,hx,sx⟩:=rx;obtain⟨p',ys,My,rfl,hy,sy⟩:=ry;refine .inl (.inr ⟨p,p',xs,ys,rfl,rfl,sx.at hc.1,sy.at hc.2.1,by rw[←hx.length,←hy.length];exact Nat.le_of_lt (six hc.2.2),λr hr=>?_⟩);have sm:Same H (upd H r (.lst (xs++ys))):=Same.new hr;have nr:r∉Mx++My:=λz=>by
    obtain⟨o,ho,_⟩:=(hx.append hy).dom r z;rw[hr]at ho;cases ho
   have ndM:(Mx++My).Nodup:=(sx.sub.append sy.sub).nodup nd;refine q (.ref r) _ (r::(Mx++My)) sm ?_ (λc hc=>?_) (List.nodup_cons.mpr ⟨nr,ndM⟩)
   .rw[Rep]
    exact⟨r,xs++ys,Mx++My,rfl,xQ hx hy sx.sub sy.sub hn sm [r] (by simpa using hr),bJ,rfl⟩
   .rcases List.mem_cons.mp hc with z|z
    .exact .inr (by rw[z];exact hr)
    .exact .inl ((sx.sub.append sy.sub).subset z)
  .cases e
 .rename_i a b
  split at e
  .rename_i hc
   cases e;rw[Rep]at rx ry;obtain⟨p,xs,rfl,hp,hx⟩:=rx;obtain⟨p',ys,rfl,hp',hy⟩:=ry;have base:∀H' p2,Same H H'->H' p2=some (.tup (xs++ys))->Q (.ref p2) H':=λH' p2 sm hq=>by
    refine q (.ref p2) H' (Lx++Ly) sm ?_ (λc hc=>.inl hc) nd;rw[Rep];exact⟨p2,xs++ys,rfl,hq,xQ hx hy (List.Sublist.refl _) (List.Sublist.refl _) hn sm [] (by simp)⟩
   refine .inr ⟨p,p',xs,ys,rfl,rfl,SqT.of hp,SqT.of hp',by rw[←hx.length,←hy.length];exact Nat.le_of_lt (six hc),λz=>base H p' (Same.refl H) (by rw[z];exact hp'),λ_ z=>base H p (Same.refl H) (by rw[z,List.append_nil];exact hp),λ_ _ r hr=>base _ r (Same.new hr) bJ⟩
  .cases e
 .cases e
theorem bZ(hK:∀c,(X c).K=G.K:=by intro _;rfl):OpB X G (binaryOp .Add) bQ:=⟨_,λc=>by rw[←hK c];exact OpR.or (OpR.or (OpR.or Tf C_) QX) JS,O4⟩
def gLt:D->D->Option D
 |.int a,.int b=>some (.bl (decide (a<b)))
 |.str a,.str b=>some (.bl (decide (a.cps.toList<b.cps.toList)))
 |_,_=>none
def gLe:D->D->Option D
 |.int a,.int b=>some (.bl (decide (a<=b)))
 |_,_=>none
def gGt:D->D->Option D
 |.int a,.int b=>some (.bl (decide (b<a)))
 |_,_=>none
def gGe:D->D->Option D
 |.int a,.int b=>some (.bl (decide (b<=a)))
 |_,_=>none
theorem Ii:OpB X G (compareOp .Lt) gLt:=⟨_,λc=>OpR.or U6 GQ,λdx dy d e x y H W Lx Ly rx ry nd hn w Q q=>by
 unfold gLt at e;split at e
 .cases e
  obtain⟨rfl,rfl⟩:=bc rx;obtain⟨rfl,rfl⟩:=bc ry;exact .inl ⟨_,_,rfl,rfl,q.scal λ_=>fG⟩
 .cases e
  obtain⟨rfl,rfl⟩:=cC rx;obtain⟨rfl,rfl⟩:=cC ry;exact .inr ⟨_,_,rfl,rfl,q.scal λ_=>fG⟩
 .cases e⟩
theorem Tv:OpB X G (compareOp .LtE) gLe:=⟨_,λc=>Tu,yR λdx dy d e=>by
 unfold gLe at e;split at e
 .cases e;exact⟨_,_,rfl,rfl,λ_ _=>fG⟩
 .cases e⟩
theorem Ql:OpB X G (compareOp .Gt) gGt:=⟨_,λc=>TJ,yR λdx dy d e=>by
 unfold gGt at e;split at e
 .cases e;exact⟨_,_,rfl,rfl,λ_ _=>fG⟩
 .cases e⟩
theorem Qx:OpB X G (compareOp .GtE) gGe:=⟨_,λc=>Uk,yR λdx dy d e=>by
 unfold gGe at e;split at e
 .cases e;exact⟨_,_,rfl,rfl,λ_ _=>fG⟩
 .cases e⟩
def yo:D->Bool
 |.non=>true
 |_=>false
def gIs:D->D->Option D
 |x,.non=>some (.bl (yo x))
 |_,_=>none
def nW:D->D->Option D
 |x,.non=>some (.bl (!yo x))
 |_,_=>none
theorem HR{H:Hp}{W:Wn}{d:D}{v:V}{L:List Addr}(r:Rep G H W d v L):decide (v= .non)=yo d:=by
 cases d<;>rw[Rep]at r
 case non=>obtain⟨rfl,_⟩:=r;rfl
 case bl=>obtain⟨rfl,_⟩:=r;rfl
 case int=>obtain⟨rfl,_⟩:=r;rfl
 case str=>obtain⟨rfl,_⟩:=r;rfl
 case ty=>obtain⟨rfl,_⟩:=r;rfl
 case tup=>obtain⟨a,xs,rfl,_⟩:=r;rfl
 case lst=>obtain⟨a,xs,M,rfl,_⟩:=r;rfl
 case dct=>obtain⟨a,xs,M,rfl,_⟩:=r;rfl
 case ins=>obtain⟨a,C,dx,xs,M,rfl,_⟩:=r;rfl
theorem JW:OpB X G (compareOp .IsNot) nW:=⟨_,λc=>M6,λdx dy d e x y H W Lx Ly rx ry nd hn w Q q=>by
 unfold nW at e;split at e
 .cases e
  rw[Rep]at ry;exact⟨ry.1,by rw[HR rx];exact q.scal λ_=>fG⟩
 .cases e⟩
mutual
def dt:D->Dt
 |.non=>.non
 |.bl b=>.bl b
 |.int i=>.int i
 |.str x=>.str x
 |.tup ds=>.tup (dtL ds)
 |.lst _ ds=>.lst (dtL ds)
 |_=>.non
def dtL:List D->List Dt
 |[]=>[]
 |d::r=>dt d::dtL r
end
mutual
def ig:D->Bool
 |.ty _=>false
 |.dct _ _ _=>false
 |.ins _ _ _ _=>false
 |.tup ds=>iR ds
 |.lst _ ds=>iR ds
 |_=>true
def iR:List D->Bool
 |[]=>true
 |d::r=>ig d&&iR r
end
mutual
theorem Rep.brs{H:Hp}{W:Wn}:∀{d:D}{v:V}{L:List Addr},Rep G H W d v L->ig d=true->Brs G.K H (dt d) v
 |.non,v,L,r,_=>by rw[Rep]at r;simp[dt,Brs,r]
 |.bl _,v,L,r,_=>by rw[Rep]at r;simp[dt,Brs,r]
 |.int _,v,L,r,_=>by rw[Rep]at r;simp[dt,Brs,r]
 |.str _,v,L,r,_=>by rw[Rep]at r;simp[dt,Brs,r]
 |.ty _,v,L,r,h=>by cases h
 |.dct _ _ _,v,L,r,h=>by cases h
 |.ins _ _ _ _,v,L,r,h=>by cases h
 |.tup ds,v,L,r,h=>by
  rw[Rep]at r;obtain⟨a,xs,rfl,ht,hr⟩:=r;rw[dt,Brs];exact⟨a,xs,rfl,SqT.of ht,aK.brs hr h⟩
 |.lst m ds,v,L,r,h=>by
  rw[Rep]at r;obtain⟨a,xs,M,rfl,hr,hs⟩:=r;rw[dt,Brs];exact⟨a,xs,rfl,hs.sq,aK.brs hr h⟩
theorem aK.brs{H:Hp}{W:Wn}:∀{ds:List D}{vs:List V}{L:List Addr},aK G H W ds vs L->iR ds=true->gB G.K H (dtL ds) vs
 |[],vs,L,r,_=>by obtain⟨rfl,_⟩:=r.inv0;simp[dtL,gB]
 |d::r,vs,L,hr,h=>by
  obtain⟨x,ys,M,M',rfl,rfl,h1,h2⟩:=hr.inv;rw[iR,Bool.and_eq_true]at h;rw[dtL,gB];exact⟨x,ys,rfl,Rep.brs h1 h.1,aK.brs h2 h.2⟩
end
def gEq:D->D->Option D:=λx y=>if ig x=true/\ig y=true/\dp (dt x)<=60/\dp (dt y)<=60 then some (.bl (eqD (dt x) (dt y)))else none
def gNe:D->D->Option D:=λx y=>if ig x=true/\ig y=true/\dp (dt x)<=60/\dp (dt y)<=60 then some (.bl (!eqD (dt x) (dt y)))else none
theorem cb_eq(A:Around)(hA:∀c,(X c).A=A)(hu:A.units+64<cLine)(hK:∀c,(X c).K=G.K:=by intro _;rfl):OpB X G (compareOp .Eq) gEq:=⟨TF G.K A,λc=>by rw[←hK c,←hA c];exact SM,λdx dy d e x y H W Lx Ly rx ry nd hn w Q q=>by
 unfold gEq at e;split at e
 .rename_i hc
  cases e;exact⟨_,_,rx.brs hc.1,ry.brs hc.2.1,by omega,by omega,q.scal λ_=>fG⟩
 .cases e⟩
theorem oE(A:Around)(hA:∀c,(X c).A=A)(hu:A.units+64<cLine)(hK:∀c,(X c).K=G.K:=by intro _;rfl):OpB X G (compareOp .NotEq) gNe:=⟨U3 G.K A,λc=>by rw[←hK c,←hA c];exact R3,λdx dy d e x y H W Lx Ly rx ry nd hn w Q q=>by
 unfold gNe at e;split at e
 .rename_i hc
  cases e;exact⟨_,_,rx.brs hc.1,ry.brs hc.2.1,by omega,by omega,q.scal λ_=>fG⟩
 .cases e⟩
def gIx:D->D->Option D
 |.lst _ ds,.int i=>atI ds i
 |.tup ds,.int i=>atI ds i
 |.str z,.int i=>if z.length<=sizeLine then(atI z.cps.toList i).map λc=>.str ⟨#[c]⟩else none
 |.dct _ ks ds,k=>(lQ k).bind λk=>(km ks k).bind λj=>ds[j]?
 |_,_=>none
theorem Lf{ds:List D}{xs:List V}{i:Int}{d:D}{H:Hp}{W:Wn}{L:List Addr}(hr:aK G H W ds xs L)(e:atI ds i=some d):∃j:Nat,ds[j]? =some d/\∀x,xs[j]? =some x->atI xs i=some x:=by
 unfold atI at e⊢;rw[←hr.length];cases h:ixN ds.length i with
 |none=>simp[h]at e
 |some j=>
  refine⟨j,by simpa[h]using e,λx hx=>by simpa using hx⟩
theorem sX{H:Hp}{W:Wn}{d:D}{x:V}{M Lx Ly:List Addr}{Q:VK}(r:Rep G H W d x M)(s:List.Sublist M Lx)(nd:(Lx++Ly).Nodup)(hn:∀a∈Lx++Ly,W.tmp a)(q:Done G H W (Lx++Ly) d Q):Q x H:=by
 refine q x H M (Same.refl H) (r.up ⟨Same.refl H,λb u hb f=>⟨λz=>z.elim (λz=>f.1 (hn b (List.mem_append_left _ (s.subset z))).1) λz=>f.1 z.1,f.2⟩,λ_ _ _ f=>f⟩) (λa ha=>.inl (List.mem_append_left _ (s.subset ha))) (s.nodup (List.nodup_append.mp nd).1)
theorem Su:OpV G (λx y H Q=>rIx G.K x y H Q∨Rf x y H Q) gIx:=λdx dy d e x y H W Lx Ly rx ry nd hn w Q q=>by
 unfold gIx at e;split at e
 .rename_i m ds i
  obtain⟨rfl,rfl⟩:=bc ry;rw[Rep]at rx;obtain⟨a,xs,M,rfl,hr,hs⟩:=rx;obtain⟨j,h1,h2⟩:=Lf hr e;obtain⟨z,Mz,h3,h4,h5⟩:=hr.get h1;exact .inl (.inl ⟨a,xs,i,z,rfl,rfl,hs.sq,h2 z h3,sX h4 (h5.trans hs.sub) nd hn q⟩)
 .rename_i ds i
  obtain⟨rfl,rfl⟩:=bc ry;rw[Rep]at rx;obtain⟨a,xs,rfl,ht,hr⟩:=rx;obtain⟨j,h1,h2⟩:=Lf hr e;obtain⟨z,Mz,h3,h4,h5⟩:=hr.get h1;exact .inl (.inr (.inl ⟨a,xs,i,z,rfl,rfl,SqT.of ht,h2 z h3,sX h4 h5 nd hn q⟩))
 .rename_i z i
  obtain⟨rfl,rfl⟩:=bc ry;obtain⟨rfl,rfl⟩:=cC rx;split at e
  .rename_i hl
   cases h1:atI z.cps.toList i with
   |none=>simp[h1]at e
   |some c=>
    obtain rfl:D.str ⟨#[c]⟩=d:=by simpa[h1]using e
    exact .inl (.inr (.inr ⟨z,i,c,rfl,rfl,hl,h1,q.scal λ_=>Ey⟩))
  .cases e
 .rename_i m ks ds
  cases hk:lQ dy with
  |none=>simp[hk]at e
  |some k=>
   cases hj:km ks k with
   |none=>simp[hk,hj]at e
   |some j=>
    have e':ds[j]? =some d:=by simpa[hk,hj]using e
    rw[Rep]at rx;obtain⟨a,kvs,M,rfl,⟨rfl,hnd⟩,hr,hs⟩:=rx;obtain⟨z,Mz,h3,h4,h5⟩:=hr.get e';have hv:=wB hj;rw[h3]at hv;refine .inr ⟨a,z,rfl,.inl ⟨kvs,k,hs.rdD,o4 ry hk,hv.symm⟩,sX h4 (h5.trans hs.sub) nd hn q⟩
 .cases e
theorem ixb(hu:∀c,(X c).A.units+1<cLine)(hK:∀c,(X c).K=G.K:=by intro _;rfl):IxB X G gIx:=⟨_,λc=>by rw[←hK c];exact Q3 (hu c),Su⟩
end
section
variable{ι:Type}{X:ι->Cx}{G:Gc}
def scV:D->Option V
 |.non=>some .non
 |.bl b=>some (.bl b)
 |.int i=>some (.int i)
 |.str x=>some (.str x)
 |_=>none
def nG:List D->Option (List V)
 |[]=>some []
 |d::r=>(scV d).bind λv=>(nG r).map λt=>v::t
theorem yV{H:Hp}{W:Wn}{d:D}{v u:V}{L:List Addr}(r:Rep G H W d v L)(h:scV d=some u):v=u/\m6 u=true:=by
 cases d<;>simp[scV]at h<;>subst h<;>rw[Rep]at r<;>exact⟨r.1,rfl⟩
theorem wX{H:Hp}{W:Wn}:∀{ds:List D}{vs us:List V}{L:List Addr},aK G H W ds vs L->nG ds=some us->vs=us/\us.all m6=true
 |[],vs,us,L,r,h=>by
  cases h;exact⟨r.inv0.1,rfl⟩
 |d::t,vs,us,L,r,h=>by
  obtain⟨x,ys,M,M',rfl,rfl,h1,h2⟩:=r.inv;rw[nG]at h;cases e1:scV d with
  |none=>simp[e1]at h
  |some v=>
   cases e2:nG t with
   |none=>simp[e1,e2]at h
   |some w=>
    obtain rfl:v::w=us:=by simpa[e1,e2]using h
    obtain⟨rfl,f1⟩:=yV h1 e1;obtain⟨rfl,f2⟩:=wX h2 e2;exact⟨rfl,by simp[f1,f2]⟩
def Qf(x y:Str):Bool:=!(Builtin.Str.occurrences y x 0 y.length 1).isEmpty
def qx:D->D->Option Bool
 |x,.lst _ ds=>(scV x).bind λv=>(nG ds).map λvs=>inV v vs
 |x,.tup ds=>(scV x).bind λv=>(nG ds).map λvs=>inV v vs
 |.str x,.str y=>some (Qf x y)
 |x,.dct _ ks _=>(lQ x).map λk=>(km ks k).isSome
 |_,_=>none
def gIn(x y:D):Option D:=(qx x y).map .bl
def eF(x y:D):Option D:=(qx x y).map λb=>.bl !b
theorem DP{Y:Cx}(hu:Y.A.units+1<cLine):OpR Y (compareOp .In) (λx y H Q=>∃a o,y= .ref a/\rQ H a x o/\Q (.bl o.isSome) H):=λpins s σ H x y v u Q I rx ry h=>by
 obtain⟨a,o,rfl,g,q⟩:=h;cases ry;exact VP hu I g rx λs3 I3=>⟨.bl o.isSome,H,I3,rfl,q⟩
theorem xq{Y:Cx}(hu:Y.A.units+1<cLine):OpR Y (compareOp .NotIn) (λx y H Q=>∃a o,y= .ref a/\rQ H a x o/\Q (.bl (!o.isSome)) H):=λpins s σ H x y v u Q I rx ry h=>by
 obtain⟨a,o,rfl,g,q⟩:=h;cases ry;exact Oi hu I g rx λs3 I3=>⟨.bl (!o.isSome),H,I3,rfl,q⟩
theorem KZ{H:Hp}{W:Wn}{dx dy:D}{x y:V}{Lx Ly:List Addr}{b:Bool}(e:qx dx dy=some b)(rx:Rep G H W dx x Lx)(ry:Rep G H W dy y Ly) :
  (∃p xs,y= .ref p/\(SqL G.K H p xs∨SqT G.K H p xs)/\m6 x=true/\xs.all m6=true/\b=inV x xs)∨(∃i j,x= .str i/\y= .str j/\b=Qf i j)∨(∃a o,y= .ref a/\rQ H a x o/\b=o.isSome):=by
 unfold qx at e;split at e
 .rename_i m ds
  cases e1:scV dx with
  |none=>simp[e1]at e
  |some v=>
   cases e2:nG ds with
   |none=>simp[e1,e2]at e
   |some vs=>
    obtain rfl:inV v vs=b:=by simpa[e1,e2]using e
    rw[Rep]at ry;obtain⟨a,xs,M,rfl,hr,hs⟩:=ry;obtain⟨rfl,f1⟩:=yV rx e1;obtain⟨rfl,f2⟩:=wX hr e2;exact .inl ⟨a,_,rfl,.inl hs.sq,f1,f2,rfl⟩
 .rename_i ds
  cases e1:scV dx with
  |none=>simp[e1]at e
  |some v=>
   cases e2:nG ds with
   |none=>simp[e1,e2]at e
   |some vs=>
    obtain rfl:inV v vs=b:=by simpa[e1,e2]using e
    rw[Rep]at ry;obtain⟨a,xs,rfl,ht,hr⟩:=ry;obtain⟨rfl,f1⟩:=yV rx e1;obtain⟨rfl,f2⟩:=wX hr e2;exact .inl ⟨a,_,rfl,.inr (SqT.of ht),f1,f2,rfl⟩
 .cases e
  obtain⟨rfl,_⟩:=cC rx;obtain⟨rfl,_⟩:=cC ry;exact .inr (.inl ⟨_,_,rfl,rfl,rfl⟩)
 .rename_i m ks ds
  cases e1:lQ dx with
  |none=>simp[e1]at e
  |some k=>
   have e':(km ks k).isSome=b:=by simpa[e1]using e
   rw[Rep]at ry;obtain⟨a,kvs,M,rfl,⟨rfl,hnd⟩,hr,hs⟩:=ry;refine .inr (.inr ⟨a,mJ kvs k,rfl,.inl ⟨kvs,k,hs.rdD,o4 rx e1,rfl⟩,?_⟩);rw[←e'];cases hj:km (kvs.map (·.1)) k with
   |none=>rw[yE hj];rfl
   |some j=>
    rw[wB hj,List.getElem?_eq_getElem (by simpa using vz hj)];rfl
 .cases e
def VR(K:PySem.W.Frag):R2:=λx y H Q=>(rIn K false x y H Q∨(∃i j,x= .str i/\y= .str j/\Q (.bl (!(Builtin.Str.occurrences j i 0 j.length 1).isEmpty)) H))∨∃a o,y= .ref a/\rQ H a x o/\Q (.bl o.isSome) H
def Ob(K:PySem.W.Frag):R2:=λx y H Q=>(rIn K true x y H Q∨(∃i j,x= .str i/\y= .str j/\Q (.bl (!(!(Builtin.Str.occurrences j i 0 j.length 1).isEmpty))) H))∨∃a o,y= .ref a/\rQ H a x o/\Q (.bl (!o.isSome)) H
theorem oW(hu:∀c,(X c).A.units+1<cLine)(hK:∀c,(X c).K=G.K:=by intro _;rfl):OpB X G (compareOp .In) gIn:=⟨VR G.K,λc=>by rw[←hK c];exact OpR.or (OpR.or Hl G6) (DP (hu c)),λdx dy d e x y H W Lx Ly rx ry nd hn w Q q=>by
 unfold gIn at e;cases h1:qx dx dy with
 |none=>simp[h1]at e
 |some b=>
  obtain rfl:D.bl b=d:=by simpa[h1]using e
  have q0:Q (.bl b) H:=q.scal λ_=>fG;rcases KZ h1 rx ry with⟨p,xs,rfl,h2,h3,h4,rfl⟩|⟨i,j,rfl,rfl,rfl⟩|⟨a,o,rfl,h2,rfl⟩
  .exact .inl (.inl ⟨p,xs,rfl,h2,h3,h4,q0⟩)
  .exact .inl (.inr ⟨i,j,rfl,rfl,q0⟩)
  .exact .inr ⟨a,o,rfl,h2,q0⟩⟩
theorem jY(hu:∀c,(X c).A.units+1<cLine)(hK:∀c,(X c).K=G.K:=by intro _;rfl):OpB X G (compareOp .NotIn) eF:=⟨Ob G.K,λc=>by rw[←hK c];exact OpR.or (OpR.or zy y_) (xq (hu c)),λdx dy d e x y H W Lx Ly rx ry nd hn w Q q=>by
 unfold eF at e;cases h1:qx dx dy with
 |none=>simp[h1]at e
 |some b=>
  obtain rfl:D.bl (!b)=d:=by simpa[h1]using e
  have q0:Q (.bl (!b)) H:=q.scal λ_=>fG;rcases KZ h1 rx ry with⟨p,xs,rfl,h2,h3,h4,rfl⟩|⟨i,j,rfl,rfl,rfl⟩|⟨a,o,rfl,h2,rfl⟩
  .exact .inl (.inl ⟨p,xs,rfl,h2,h3,h4,q0⟩)
  .exact .inl (.inr ⟨i,j,rfl,rfl,q0⟩)
  .exact .inr ⟨a,o,rfl,h2,q0⟩⟩
theorem aK.inv1{H:Hp}{W:Wn}{d:D}{xs:List V}{L:List Addr}(r:aK G H W [d] xs L):∃x,xs=[x]/\Rep G H W d x L:=by
 obtain⟨x,ys,M,M',rfl,rfl,h1,h2⟩:=r.inv;obtain⟨rfl,rfl⟩:=h2.inv0;exact⟨x,rfl,by rw[List.append_nil];exact h1⟩
theorem aK.inv2{H:Hp}{W:Wn}{d e:D}{xs:List V}{L:List Addr}(r:aK G H W [d,e] xs L):∃x y M N,xs=[x,y]/\L=M++N/\Rep G H W d x M/\Rep G H W e y N:=by
 obtain⟨x,ys,M,M',rfl,rfl,h1,h2⟩:=r.inv;obtain⟨y,rfl,h3⟩:=h2.inv1;exact⟨x,y,M,M',rfl,rfl,h1,h3⟩
def cF:List D->Option D
 |[.lst _ ds]=>some (.int ds.length)
 |[.tup ds]=>some (.int ds.length)
 |[.str z]=>if z.length<=sizeLine then some (.int z.length)else none
 |[.dct m _ ds]=>if m= .scr then none else some (.int ds.length)
 |_=>none
theorem cN(hK:∀c,(X c).K=G.K:=by intro _;rfl):CaB X G (.builtin "len") cF:=⟨λxs H Q=>((∃p ys,xs=[.ref p]/\(SqL G.K H p ys∨SqT G.K H p ys)/\Q (.int ys.length) H)∨∃z,xs=[.str z]/\z.length<=sizeLine/\Q (.int z.length) H)∨∃a kvs,xs=[V.ref a]/\H a=some (.dK kvs)/\Q (.int kvs.length) H,λc=>by rw[←hK c];exact fD.or (fD.or zK zm) Ht,λds d e xs H W L0 r nd hn w Q q=>by
 unfold cF at e;split at e
 .cases e
  obtain⟨x,rfl,rx⟩:=r.inv1;rw[Rep]at rx;obtain⟨a,ys,M,rfl,hr,hs⟩:=rx;exact .inl (.inl ⟨a,ys,rfl,.inl hs.sq,by rw[←hr.length];exact q.scal λ_=>d9⟩)
 .cases e
  obtain⟨x,rfl,rx⟩:=r.inv1;rw[Rep]at rx;obtain⟨a,ys,rfl,ht,hr⟩:=rx;exact .inl (.inl ⟨a,ys,rfl,.inr (SqT.of ht),by rw[←hr.length];exact q.scal λ_=>d9⟩)
 .split at e
  .cases e
   obtain⟨x,rfl,rx⟩:=r.inv1;obtain⟨rfl,rfl⟩:=cC rx;exact .inl (.inr ⟨_,rfl,‹_›,q.scal λ_=>d9⟩)
  .cases e
 .split at e
  .cases e
  .cases e
   obtain⟨x,rfl,rx⟩:=r.inv1;rw[Rep]at rx;obtain⟨a,kvs,M,rfl,hk,hr,hs⟩:=rx;exact .inr ⟨a,kvs,rfl,hs.at ‹_›,by have:=hr.length;simp at this;rw[←this];exact q.scal λ_=>d9⟩
 .cases e⟩
def xx:List D->Option D
 |[.int i]=>some (.int (if i<0 then -i else i))
 |_=>none
theorem FZ:CaB X G (.builtin "abs") xx:=⟨_,λc=>KN,λds d e xs H W L0 r nd hn w Q q=>by
 unfold xx at e;split at e
 .cases e
  obtain⟨x,rfl,rx⟩:=r.inv1;obtain⟨rfl,rfl⟩:=bc rx;exact⟨_,rfl,q.scal λ_=>d9⟩
 .cases e⟩
def Bf:List D->Option D
 |[.int i]=>some (.int i)
 |[.bl k]=>some (.int (if k then 1 else 0))
 |_=>none
theorem PL:CaB X G (.type "int") Bf:=⟨_,λc=>HQ,λds d e xs H W L0 r nd hn w Q q=>by
 unfold Bf at e;split at e
 .cases e
  obtain⟨x,rfl,rx⟩:=r.inv1;obtain⟨rfl,rfl⟩:=bc rx;exact .inl ⟨_,rfl,q.scal λ_=>d9⟩
 .cases e
  obtain⟨x,rfl,rx⟩:=r.inv1;obtain⟨rfl,rfl⟩:=j8 rx;exact .inr ⟨_,rfl,q.scal λ_=>d9⟩
 .cases e⟩
def pO:List D->Option D
 |[.int i,.int j]=>some (.int (if j<i then j else i))
 |_=>none
def KJ:List D->Option D
 |[.int i,.int j]=>some (.int (if j>i then j else i))
 |_=>none
theorem Ao(hc:∀c,(X c).calm=true):CaB X G (.builtin "min") pO:=⟨_,λc=>Hs (hc c),λds d e xs H W L0 r nd hn w Q q=>by
 unfold pO at e;split at e
 .cases e
  obtain⟨x,y,M,N,rfl,rfl,rx,ry⟩:=r.inv2;obtain⟨rfl,rfl⟩:=bc rx;obtain⟨rfl,rfl⟩:=bc ry;exact⟨_,_,rfl,q.scal λ_=>d9⟩
 .cases e⟩
theorem ue{H:Hp}{W:Wn}{ds:List D}{xs:List V}{M L0:List Addr}{Q:VK}{p:Addr}(hr:aK G H W ds xs M)(s:List.Sublist M L0)(nd:L0.Nodup)(hn:∀a∈L0,W.tmp a)(hp:H p=none)(q:Done G H W L0 (.lst .own ds) Q):Q (.ref p) (upd H p (.lst xs)):=by
 have sm:Same H (upd H p (.lst xs)):=Same.new hp;have np:p∉M:=λz=>by obtain⟨o,ho,_⟩:=hr.dom p z;rw[hp]at ho;cases ho
 refine q (.ref p) _ (p::M) sm ?_ (λa ha=>(List.mem_cons.mp ha).elim (λz=>.inr (by rw[z];exact hp)) λz=>.inl (s.subset z)) (List.nodup_cons.mpr ⟨np,s.nodup nd⟩);rw[Rep];exact⟨p,xs,M,rfl,hr.up ⟨sm,λb u hb f=>⟨λz=>z.elim (λz=>(List.mem_cons.mp z).elim (λz=>by rw[z,hp]at hb;cases hb) λz=>f.1 (hn b (s.subset z)).1) λz=>f.1 z.1,f.2⟩,λ_ _ _ f=>f⟩,bJ,rfl⟩
theorem xM{H:Hp}{W:Wn}{ds:List D}{xs:List V}{M L0:List Addr}{Q:VK}{p:Addr}(hr:aK G H W ds xs M)(s:List.Sublist M L0)(nd:L0.Nodup)(hn:∀a∈L0,W.tmp a)(hp:H p=none)(q:Done G H W L0 (.tup ds) Q):Q (.ref p) (upd H p (.tup xs)):=by
 have sm:Same H (upd H p (.tup xs)):=Same.new hp;refine q (.ref p) _ M sm ?_ (λa ha=>.inl (s.subset ha)) (s.nodup nd);rw[Rep];exact⟨p,xs,rfl,bJ,hr.up ⟨sm,λb u hb f=>⟨λz=>z.elim (λz=>f.1 (hn b (s.subset z)).1) λz=>f.1 z.1,f.2⟩,λ_ _ _ f=>f⟩⟩
theorem qp{H:Hp}{W:Wn}{d:D}{x:V}{M L0:List Addr}{Q:VK}(hr:Rep G H W d x M)(s:List.Sublist M L0)(nd:L0.Nodup)(hn:∀a∈L0,W.tmp a)(q:Done G H W L0 d Q):Q x H:=by
 refine q x H M (Same.refl H) (hr.up ⟨Same.refl H,λb u hb f=>⟨λz=>z.elim (λz=>f.1 (hn b (s.subset z)).1) λz=>f.1 z.1,f.2⟩,λ_ _ _ f=>f⟩) (λa ha=>.inl (s.subset ha)) (s.nodup nd)
def rM:List D->Option D
 |[.lst _ ds]=>some (.lst .own ds)
 |[.tup ds]=>some (.lst .own ds)
 |_=>none
def eG:List D->Option D
 |[.lst _ ds]=>some (.tup ds)
 |[.tup ds]=>some (.tup ds)
 |_=>none
theorem Bh(hK:∀c,(X c).K=G.K:=by intro _;rfl):CaB X G (.type "list") rM:=⟨λxs H Q=>∃p ys,xs=[.ref p]/\(SqL G.K H p ys∨SqT G.K H p ys)/\∀l,H l=none->Q (.ref l) (upd H l (.lst ys)),λc=>by rw[←hK c];exact zz,λds d e xs H W L0 r nd hn w Q q=>by
 unfold rM at e;split at e
 .cases e
  obtain⟨x,rfl,rx⟩:=r.inv1;rw[Rep]at rx;obtain⟨a,ys,M,rfl,hr,hs⟩:=rx;exact⟨a,ys,rfl,.inl hs.sq,λp hp=>ue hr hs.sub nd hn hp q⟩
 .cases e
  obtain⟨x,rfl,rx⟩:=r.inv1;rw[Rep]at rx;obtain⟨a,ys,rfl,ht,hr⟩:=rx;exact⟨a,ys,rfl,.inr (SqT.of ht),λp hp=>ue hr (List.Sublist.refl _) nd hn hp q⟩
 .cases e⟩
theorem jn(hK:∀c,(X c).K=G.K:=by intro _;rfl):CaB X G (.type "tuple") eG:=⟨λxs H Q=>∃p ys,xs=[.ref p]/\((SqL G.K H p ys/\∀l,H l=none->Q (.ref l) (upd H l (.tup ys)))∨(SqT G.K H p ys/\Q (.ref p) H)),λc=>by rw[←hK c];exact xH,λds d e xs H W L0 r nd hn w Q q=>by
 unfold eG at e;split at e
 .cases e
  obtain⟨x,rfl,rx⟩:=r.inv1;rw[Rep]at rx;obtain⟨a,ys,M,rfl,hr,hs⟩:=rx;exact⟨a,ys,rfl,.inl ⟨hs.sq,λp hp=>xM hr hs.sub nd hn hp q⟩⟩
 .cases e
  obtain⟨x,rfl,rx⟩:=r.inv1;have rx':=rx;rw[Rep]at rx;obtain⟨a,ys,rfl,ht,hr⟩:=rx;exact⟨a,ys,rfl,.inr ⟨SqT.of ht,qp rx' (List.Sublist.refl _) nd hn q⟩⟩
 .cases e⟩
def tyN:D->Option String
 |.non=>some "NoneType"
 |.bl _=>some "bool"
 |.int _=>some "int"
 |.str _=>some "str"
 |.tup _=>some "tuple"
 |.lst m _=>if m= .scr then none else some "list"
 |.dct m _ _=>if m= .scr then none else some "dict"
 |_=>none
def okT(n:String):Bool:=n=="int"||n=="bool"||n=="str"||n=="list"||n=="tuple"
def isT(t n:String):Bool:=t==n||(t=="bool"&&n=="int")
theorem Fq{K:PySem.W.Frag}{t n:String}{d:D}(h1:tyN d=some t)(h2:okT n=true):PySem.W.kitOne K (.type t) (.type n)=some (isT t n):=by
 have ht:t="NoneType"∨t="bool"∨t="int"∨t="str"∨t="tuple"∨t="list"∨t="dict":=by
  cases d<;>simp[tyN]at h1<;>(try split at h1)<;>simp_all
 have hn:n="int"∨n="bool"∨n="str"∨n="list"∨n="tuple":=by simpa[okT,or_assoc]using h2
 rcases ht with rfl|rfl|rfl|rfl|rfl|rfl|rfl<;>rcases hn with rfl|rfl|rfl|rfl|rfl<;>with_unfolding_all rfl
theorem Cj{H:Hp}{W:Wn}{d:D}{v:V}{L:List Addr}{t:String}(r:Rep G H W d v L)(h:tyN d=some t):nu G.K H v (.type t):=by
 cases d with
 |non=>rw[Rep]at r;obtain⟨rfl,_⟩:=r;cases h;exact .non
 |bl b=>rw[Rep]at r;obtain⟨rfl,_⟩:=r;cases h;exact .bl _
 |int b=>rw[Rep]at r;obtain⟨rfl,_⟩:=r;cases h;exact .int _
 |str b=>rw[Rep]at r;obtain⟨rfl,_⟩:=r;cases h;exact .str _
 |ty n=>cases h
 |tup ds=>rw[Rep]at r;obtain⟨a,xs,rfl,ht,hr⟩:=r;cases h;exact .tup ht
 |lst m ds=>
  rw[Rep]at r;obtain⟨a,xs,M,rfl,hr,hs⟩:=r;simp only[tyN]at h;split at h
  .cases h
  .cases h;exact .lst (hs.at ‹_›)
 |dct m ks ds=>
  rw[Rep]at r;obtain⟨a,xs,M,rfl,hk,hr,hs⟩:=r;simp only[tyN]at h;split at h
  .cases h
  .cases h;exact .dK (hs.at ‹_›)
 |ins m c fs ds=>cases h
def Aw:List D->Option (List String)
 |[]=>some []
 |.ty n::r=>(Aw r).map λt=>n::t
 |_::_=>none
theorem xU{H:Hp}{W:Wn}:∀{ds:List D}{vs:List V}{L:List Addr}{ns:List String},aK G H W ds vs L->Aw ds=some ns->vs=ns.map V.ty
 |[],vs,L,ns,r,h=>by cases h;rw[r.inv0.1];rfl
 |d::t,vs,L,ns,r,h=>by
  obtain⟨x,ys,M,M',rfl,rfl,h1,h2⟩:=r.inv;cases d<;>simp[Aw]at h;obtain⟨w,h3,rfl⟩:=h;rw[Rep]at h1;rw[h1.1,xU h2 h3];rfl
theorem v7{K:PySem.W.Frag}{t:String}{d:D}(h1:tyN d=some t):∀{ns:List String},ns.all okT=true->PySem.W.kitAny K (.type t) (ns.map Value.type)=some (ns.any (isT t))
 |[],_=>rfl
 |n::r,h=>by
  rw[List.all_cons,Bool.and_eq_true]at h;rw[List.map_cons,PySem.W.kitAny,Fq h1 h.1];cases e:isT t n with
  |true=>simp[e]
  |false=>simp only[e];rw[v7 h1 h.2];simp[e]
def bu:List D->Option D
 |[x,.ty n]=>(tyN x).bind λt=>if okT n=true then some (.bl (isT t n))else none
 |[x,.tup ts]=>(tyN x).bind λt=>(Aw ts).bind λns=>if ns.all okT=true then some (.bl (ns.any (isT t)))else none
 |_=>none
theorem dg(hK:∀c,(X c).K=G.K:=by intro _;rfl):CaB X G (.builtin "isinstance") bu:=⟨λxs H Q=>(∃x n t b,xs=[x,.ty n]/\nu G.K H x t/\PySem.W.kitOne G.K t (.type n)=some b/\Q (.bl b) H)∨∃x tp tys t b,xs=[x,.ref tp]/\H tp=some (.tup (List.map V.ty tys))/\nu G.K H x t/\PySem.W.kitAny G.K t (tys.map Value.type)=some b/\Q (.bl b) H,λc=>by rw[←hK c];exact fD.or Bq zj,λds d e xs H W L0 r nd hn w Q q=>by
 unfold bu at e;split at e
 .rename_i x n
  cases e1:tyN x with
  |none=>simp[e1]at e
  |some t=>
   rw[e1]at e;simp only[Option.bind_some]at e;split at e
   .cases e
    obtain⟨u,v,M,N,rfl,rfl,rx,ry⟩:=r.inv2;rw[Rep]at ry;obtain⟨rfl,_⟩:=ry;exact .inl ⟨u,n,_,_,rfl,Cj rx e1,Fq e1 ‹_›,q.scal λ_=>fG⟩
   .cases e
 .rename_i x ts
  cases e1:tyN x with
  |none=>simp[e1]at e
  |some t=>
   cases e2:Aw ts with
   |none=>simp[e1,e2]at e
   |some ns=>
    rw[e1,e2]at e;simp only[Option.bind_some]at e;split at e
    .cases e
     obtain⟨u,v,M,N,rfl,rfl,rx,ry⟩:=r.inv2;rw[Rep]at ry;obtain⟨a,ys,rfl,ht,hr⟩:=ry;have:=xU hr e2;subst this;exact .inr ⟨u,a,ns,_,_,rfl,ht,Cj rx e1,v7 e1 ‹_›,q.scal λ_=>fG⟩
    .cases e
 .cases e⟩
end
section
variable{ι:Type}{X:ι->Cx}{G:Gc}
theorem bY:∀{ds:List D},(∀d∈ds,aG d=true)->aH ds=true
 |[],_=>rfl
 |d::r,h=>by rw[aH,h d (by simp),bY λe he=>h e (by simp[he])];rfl
theorem bU:∀{ds:List D},(∀d∈ds,aD d=true)->aJ ds=true
 |[],_=>rfl
 |d::r,h=>by rw[aJ,h d (by simp),bU λe he=>h e (by simp[he])];rfl
theorem aK.revL{H:Hp}{W:Wn}:∀{ds:List D}{xs:List V}{L:List Addr},aK G H W ds xs L->∃M,aK G H W ds.reverse xs.reverse M/\List.Perm M L
 |[],xs,L,r=>by obtain⟨rfl,rfl⟩:=r.inv0;exact⟨[],.nil,.refl _⟩
 |d::t,xs,L,r=>by
  obtain⟨x,ys,M,M',rfl,rfl,h1,h2⟩:=r.inv;obtain⟨N,h3,pm⟩:=aK.revL h2;refine⟨N++M,?_,(pm.append_right M).trans List.perm_append_comm⟩;rw[List.reverse_cons,List.reverse_cons];exact h3.append (.one h1)
theorem aK.takeDrop{H:Hp}{W:Wn}{ds:List D}{xs:List V}{L:List Addr}(h:aK G H W ds xs L)(k:Nat):∃A B,aK G H W (ds.take k) (xs.take k) A/\aK G H W (ds.drop k) (xs.drop k) B/\L=A++B:=by
 rw[←List.take_append_drop k ds]at h;obtain⟨ys,zs,A,B,rfl,rfl,h1,h2⟩:=h.split;have hl:=h1.length;by_cases hk:k<=ds.length
 .have hk':ys.length=k:=by rw[←hl,List.length_take];omega
  refine⟨A,B,?_,?_,rfl⟩
  .rw[←hk',List.take_left,hk'];exact h1
  .rw[←hk',List.drop_left,hk'];exact h2
 .have e1:ds.take k=ds:=List.take_of_length_le (by omega)
  have e2:ds.drop k=[]:=List.drop_eq_nil_of_le (by omega);rw[e1]at h1 hl;rw[e2]at h2;obtain⟨rfl,rfl⟩:=h2.inv0;refine⟨A,[],?_,?_,by simp⟩
  .rw[e1,List.append_nil,List.take_of_length_le (by omega)];exact h1
  .rw[e2,List.append_nil,List.drop_eq_nil_of_le (by omega)];exact .nil
end
section
variable{ι:Type}{X:ι->Cx}{G:Gc}
def fY:List Key->List D->List (Key×D)->List Key×List D
 |ks,ds,[]=>(ks,ds)
 |ks,ds,p::r=>fY (jw ks ds p.1 p.2).1 (jw ks ds p.1 p.2).2 r
theorem Pu{H:Hp}{W:Wn}{kvs:List (Key×V)}{ds:List D}{M N:List Addr}{k:Key}{d:D}{x:V}(hr:aK G H W ds (List.map (·.2) kvs) M)(hn:(List.map (·.1) kvs).Nodup)(hx:Rep G H W d x N)(nd:(M++N).Nodup) :
  (List.map (·.1) (putK kvs k x)=(jw (List.map (·.1) kvs) ds k d).1/\(List.map (·.1) (putK kvs k x)).Nodup)/\(putK kvs k x).length<=kvs.length+1/\∃M',aK G H W (jw (List.map (·.1) kvs) ds k d).2 (List.map (·.2) (putK kvs k x)) M'/\M'.Nodup/\∀a∈M',a∈M∨a∈N:=by
 have nd':=List.nodup_append.mp nd;cases hj:km (kvs.map (·.1)) k with
 |some j=>
  have hjl:j<ds.length:=by rw[hr.length];simpa using vz hj
  obtain⟨A,M1,B,hM0,hset⟩:=hr.set (List.getElem?_eq_getElem hjl) hx;obtain⟨p1,p2⟩:=Bs (v:=x) hj hn;have hsub:List.Sublist (A++B) M:=by rw[hM0];exact(List.Sublist.refl A).append (List.sublist_append_right M1 B)
  have n3:=List.nodup_append.mp (hsub.nodup nd'.1);have dis:∀z∈N,z∉A++B:=λz h1 h2=>nd'.2.2 z (hsub.subset h2) z h1 rfl;simp only[jw,hj];refine⟨⟨p1,by rw[p1];exact hn⟩,?_,A++(N++B),by rw[p2];exact hset,fK n3.1 (fK nd'.2.1 n3.2.1 λz h1 h2=>dis z h1 (by simp[h2])) λz h1 h2=>?_,λa ha=>?_⟩
  .have:(putK kvs k x).length=kvs.length:=by have:=congrArg List.length p1;simpa using this
   omega
  .rcases List.mem_append.mp h2 with y|y
   .exact dis z y (by simp[h1])
   .exact n3.2.2 z h1 z y rfl
  .simp only[List.mem_append]at ha
   rcases ha with z|z|z
   .exact .inl (hsub.subset (by simp[z]))
   .exact .inr z
   .exact .inl (hsub.subset (by simp[z]))
 |none=>
  simp only[jw,hj];have e:putK kvs k x=kvs++[(k,x)]:=vL hj;rw[e];refine⟨⟨by simp,?_⟩,by simp,M++N,by rw[List.map_append];exact hr.append (.one hx),nd,λa ha=>List.mem_append.mp ha⟩;rw[List.map_append];exact List.nodup_append.mpr ⟨hn,by simp,λa h1 b h2 z=>by
   obtain rfl:b=k:=by simpa using h2
   exact v8 hj (z▸h1)⟩
theorem v6{H:Hp}{W:Wn}:∀{es:List (Key×D)}{prs kvs:List (Key×V)}{ds:List D}{M N:List Addr},List.map (·.1) es=List.map (·.1) prs->aK G H W (List.map (·.2) es) (List.map (·.2) prs) N->aK G H W ds (List.map (·.2) kvs) M->(List.map (·.1) kvs).Nodup->(M++N).Nodup->
  (List.map (·.1) (putAll kvs prs)=(fY (List.map (·.1) kvs) ds es).1/\(List.map (·.1) (putAll kvs prs)).Nodup)/\∃M',aK G H W (fY (List.map (·.1) kvs) ds es).2 (List.map (·.2) (putAll kvs prs)) M'/\M'.Nodup/\∀a∈M',a∈M∨a∈N
 |[],prs,kvs,ds,M,N,hk,h1,h2,hn,nd=>by
  have:prs=[]:=by cases prs with
   |nil=>rfl
   |cons p r=>cases hk
  subst this;exact⟨⟨rfl,hn⟩,M,h2,(List.nodup_append.mp nd).1,λa ha=>.inl ha⟩
 |e::es,prs,kvs,ds,M,N,hk,h1,h2,hn,nd=>by
  cases prs with
  |nil=>cases hk
  |cons p prs=>
   obtain⟨x,ys,N1,N2,hxy,rfl,hx,hys⟩:=aK.inv h1;simp only[List.map_cons,List.cons.injEq]at hk hxy;obtain⟨rfl,rfl⟩:=hxy;have nd0:=List.nodup_append.mp nd;have ndN:=List.nodup_append.mp nd0.2.1;have nd1:(M++N1).Nodup:=fK nd0.1 ndN.1 λa z1 z2=>nd0.2.2 a z1 a (by simp[z2]) rfl;obtain⟨⟨q1,q2⟩,q3,M1,q4,q5,q6⟩:=Pu (k:=p.1) h2 hn hx nd1;have nd2:(M1++N2).Nodup:=fK q5 ndN.2.1 λa z1 z2=>by
    rcases q6 a z1 with z|z
    .exact nd0.2.2 a z a (by simp[z2]) rfl
    .exact ndN.2.2 a z a z2 rfl
   rw[←hk.1]at q1 q2 q4;have ih:=v6 (es:=es) (prs:=prs) (kvs:=putK kvs e.1 p.2) hk.2 hys q4 q2 nd2;rw[q1]at ih;obtain⟨⟨r1,r2⟩,M',r3,r4,r5⟩:=ih;have epa:putAll kvs (p::prs)=putAll (putK kvs e.1 p.2) prs:=by rw[hk.1];rfl
   rw[epa];refine⟨⟨r1,r2⟩,M',r3,r4,λa ha=>?_⟩;rcases r5 a ha with z|z
   .exact(q6 a z).imp id λz=>by simp[z]
   .exact .inr (by simp[z])
theorem ux(P:D->Prop):∀{es:List (Key×D)}{ks:List Key}{ds:List D},(∀d∈ds,P d)->(∀p∈es,P p.2)->∀d∈(fY ks ds es).2,P d
 |[],ks,ds,h1,h2=>h1
 |p::r,ks,ds,h1,h2=>by
  rw[fY];refine ux P (λd hd=>?_) λq hq=>h2 q (by simp[hq]);unfold jw at hd;split at hd
  .rcases List.mem_or_eq_of_mem_set hd with z|z
   .exact h1 d z
   .rw[z];exact h2 p (by simp)
  .rcases List.mem_append.mp hd with z|z
   .exact h1 d z
   .obtain rfl:d=p.2:=by simpa using z
    exact h2 p (by simp)
def Cr:List D->Option (List (Key×D))
 |[]=>some []
 |.tup [k,v]::r=>(lQ k).bind λk=>(Cr r).map λt=>(k,v)::t
 |_::_=>none
theorem K1{H:Hp}{W:Wn}{k:D}{x:V}{L:List Addr}{kk:Key}(h:lQ k=some kk)(r:Rep G H W k x L):L=[]:=by
 cases k<;>simp[lQ]at h<;>rw[Rep]at r<;>exact r.2
theorem Ca{H:Hp}{W:Wn}:∀{ds:List D}{es:List (Key×D)}{ys:List V}{N:List Addr},Cr ds=some es->aK G H W ds ys N->∃prs:List (Key×V),List.map (·.1) es=List.map (·.1) prs/\aK G H W (List.map (·.2) es) (List.map (·.2) prs) N/\prs.length=ys.length/\∀(j:Nat)(k:Key)(v:V),prs[j]? =some (k,v)->∃p:Addr,ys[j]? =some (V.ref p)/\H p=some (.tup [kV k,v])
 |[],es,ys,N,h,r=>by
  cases h;obtain⟨rfl,rfl⟩:=r.inv0;exact⟨[],rfl,.nil,rfl,λj k v e=>by simp at e⟩
 |d::r,es,ys,N,h,rr=>by
  unfold Cr at h;split at h
  .rename_i e;cases e
  .rename_i k v t e
   cases e;cases h1:lQ k with
   |none=>simp[h1]at h
   |some k'=>
    cases h2:Cr r with
    |none=>simp[h1,h2]at h
    |some w=>
     obtain rfl:(k',v)::w=es:=by simpa[h1,h2]using h
     obtain⟨x,zs,N1,N2,rfl,rfl,hx,hz⟩:=rr.inv;obtain⟨prs,g1,g2,g3,g4⟩:=Ca h2 hz;rw[Rep]at hx;obtain⟨a,xs,rfl,ht,hxs⟩:=hx;obtain⟨y1,y2,A,B,rfl,rfl,ry1,ry2⟩:=hxs.inv2;have hA:=K1 h1 ry1;subst hA;have:=o4 ry1 h1;subst this;refine⟨(k',y2)::prs,by simp[g1],.cons ry2 g2,by simp[g3],λj k v e=>?_⟩;cases j with
     |zero=>
      simp at e;obtain⟨rfl,rfl⟩:=e;exact⟨a,rfl,ht⟩
     |succ j=>exact g4 j k v (by simpa using e)
  .cases h
theorem dZ.at2{Kx:Addr->HO->Prop}{H:Hp}{W:Wn}{a:Addr}{o:HO}{m:Mk}{L M:List Addr}(h:dZ Kx H W a o m L M)(hm:(m== .scr)=false):H a=some o:=h.at (by intro z;rw[z]at hm;cases hm)
def wR:List D->Option D
 |[.lst m ds]=>if(m== .scr)=false/\ds.length<=50000 then(Cr ds).map λes=>.dct .own (fY [] [] es).1 (fY [] [] es).2 else none
 |_=>none
theorem K_(hc:∀c,(X c).calm=true):CaB X G (.type "dict") wR:=⟨_,λc=>uL (hc c),λds d e xs H W L0 r nd hn w Q q=>by
 unfold wR at e;split at e
 .rename_i m ds
  split at e
  .rename_i hm
   cases h1:Cr ds with
   |none=>simp[h1]at e
   |some es=>
    obtain rfl:D.dct .own (fY [] [] es).1 (fY [] [] es).2=d:=by simpa[h1]using e
    obtain⟨x,rfl,rx⟩:=r.inv1;rw[Rep]at rx;obtain⟨a,ys,M,rfl,hr,hs⟩:=rx;obtain⟨prs,g1,g2,g3,g4⟩:=Ca h1 hr;have ndM:M.Nodup:=hs.sub.nodup nd;obtain⟨⟨p1,p2⟩,M',p3,p4,p5⟩:=v6 (kvs:=[]) (M:=[]) g1 g2 .nil (by simp) (by simpa using ndM);refine⟨a,ys,prs,rfl,hs.at2 hm.1,g3,by rw[g3,←hr.length];exact hm.2,g4,λp hp=>?_⟩;have sm:Same H (upd H p (.dK (putAll [] prs))):=Same.new hp;have np:p∉M':=λz=>by obtain⟨o,ho,_⟩:=p3.dom p z;rw[hp]at ho;cases ho
    have hML:∀a∈M',a∈L0:=λa ha=>(p5 a ha).elim (λz=>by cases z) λz=>hs.sub.subset z;refine q (.ref p) _ (p::M') sm ?_ (λa ha=>(List.mem_cons.mp ha).elim (λz=>.inr (by rw[z];exact hp)) λz=>.inl (hML a z)) (List.nodup_cons.mpr ⟨np,p4⟩);rw[Rep];exact⟨p,putAll [] prs,M',rfl,⟨p1,p1▸p2⟩,p3.up ⟨sm,λb u hb f=>⟨λz=>z.elim (λz=>(List.mem_cons.mp z).elim (λz=>by rw[z,hp]at hb;cases hb) λz=>f.1 (hn b (hML b z)).1) λz=>f.1 z.1,f.2⟩,λ_ _ _ f=>f⟩,bJ,rfl⟩
  .cases e
 .cases e⟩
theorem Hr{ks:List Key}{ds:List D}(h1:aH ds=true)(h2:aJ ds=true):clean (.dct .own ks ds)=true:=by simp[clean,aG,aD,h1,h2]
end
section
variable{ι:Type}{X:ι->Cx}{G:Gc}{ob:Nat->Bool}
def eMt(g:D->List D->Option D)(fo:En->Option D)(f:En->Option (List D)):En->Option D:=λρ=>(fo ρ).bind λx=>(f ρ).bind λds=>g x ds
theorem Ux{T id:String}{nm:Str}{g:D->List D->Option D}{o e:Expr}{es:List Expr}{apos cpos:Pos}{fo:En->Option D}{f:En->Option (List D)}(m:MtB X G T id g)(pa:PlainAttrs T)(slot:Slot T nm id)(hty:typeOf (.builtin id)=pure (.type "method_descriptor"))(ho:PV X G ob o fo)(ha:PVA X G ob (e::es) f)(hbase:∀c,attributeBase o nm (X c).env (eval o (X c).env)=eval o (X c).env:=by intro _;rfl)(hfew:∀c,((backTo cpos (starEach (e::es) (X c).env)).all (λx=>!x.1)&&(backToKw cpos (keywordEach [] (X c).env)).all (λx=>x.1.isSome)
  &&decide ((e::es).length+([]:List Keyword).length+(if([]:List Keyword).isEmpty then 0 else 1)<30))=true:=by intro _;rfl) (hline:(apos.endLine==cpos.line)=true:=by rfl) (hs:∀c,starEach (e::es) (X c).env=(false,eval e (X c).env)::starEach es (X c).env:=by intro _;rfl) (hplain:∀c,(backTo cpos (starEach es (X c).env)).any (·.1)=false:=by intro _;rfl) (hK:∀c,(X c).K=G.K:=by intro _;rfl) :
 PV X G ob (.Call (.Attribute o nm apos) (e::es) [] cpos) (eMt g fo f):=let⟨r,m1,m2,m3⟩:=m.ex;let⟨t,a1,a2⟩:=ho.ex;let⟨u,b1,b2⟩:=ha.ex;⟨_,λc=>(by rw[←hK c];exact JP pa slot hty (m1 c) (a1 c) (b1 c) (hbase c) (hfew c) hline (hs c) (hplain c)),U9 m2 m3 a2 b2⟩
def yP(a b:Str):Option (List Str):=
 if(decide (a.length<b.length)||decide (Builtin.Str.strKind a<Builtin.Str.strKind b))=false/\(b.length==0)=false/\(Builtin.Str.occurrences a b 0 a.length (a.length+1)).isEmpty=false/\a.length<=sizeLine/\(Builtin.Str.partsBetween a (Builtin.Str.occurrences a b 0 a.length (a.length+1)) b.length).length<=sizeLine
 then some (Builtin.Str.partsBetween a (Builtin.Str.occurrences a b 0 a.length (a.length+1)) b.length)else none
def vH:D->List D->Option D
 |.str a,[.str b]=>(yP a b).map λl=>.lst .own (l.map D.str)
 |_,_=>none
theorem Bv{H:Hp}{W:Wn}:∀l:List Str,aK G H W (l.map D.str) (l.map V.str) []
 |[]=>.nil
 |x::r=>aK.cons (M:=[]) (M':=[]) (by rw[Rep];exact⟨rfl,rfl⟩) (Bv r)
theorem HB:MtB X G "str" "str.split" vH:=⟨_,λc=>J7,λdx ds d e x xs H W Lx L0 rx r nd hn w Q q=>(by
 unfold vH at e;split at e
 .rename_i a b
  cases h1:yP a b with
  |none=>simp[h1]at e
  |some l=>
   obtain rfl:D.lst .own (l.map D.str)=d:=by simpa[h1]using e
   obtain⟨y,rfl,ry⟩:=r.inv1;obtain⟨rfl,rfl⟩:=cC rx;obtain⟨rfl,rfl⟩:=cC ry;unfold yP at h1;split at h1
   .rename_i hh
    cases h1;refine⟨a,b,_,rfl,rfl,hh.1,hh.2.1,hh.2.2.1,hh.2.2.2.1,rfl,hh.2.2.2.2,λp hp=>?_⟩;refine q (.ref p) _ [p] (Same.new hp) ?_ (λa ha=>.inr (by rw[show a=p by simpa using ha];exact hp)) (by simp);rw[Rep];exact⟨p,_,[],rfl,Bv _,bJ,rfl⟩
   .cases h1
 .cases e),λdx ds d e x H W Lx rx=>by
 unfold vH at e;split at e
 .obtain⟨rfl,rfl⟩:=cC rx
  exact rfl
 .cases e⟩
def RfO(G:Gc)(ob:Nat->Bool)(t:TO)(f:En->Option (Option Int)):Prop:=∀(ρ:En)(o:Option Int),f ρ=some o->∀(σ:L2.St)(H:Hp)(W:Wn),Rel G H W ob ρ σ->WOk H W->∀Q:Option Int->Hp->Prop,(∀H',Same H H'->Q o H')->t σ H Q
structure PVO{ι:Type}(X:ι->Cx)(G:Gc)(ob:Nat->Bool)(e:Option Expr)(f:En->Option (Option Int)):Prop where
 mk::(ex:∃t,(∀c,PO (X c) e t)/\RfO G ob t f)
def gU:En->Option (Option Int):=λ_=>some none
def gn(f:En->Option D):En->Option (Option Int):=λρ=>(f ρ).bind λd=>match d with
 |.int i=>some (some i)
 |_=>none
theorem cY:PVO X G ob none gU:=⟨_,λc=>M4,λρ o e σ H W rl w Q q=>by cases e;exact q H (Same.refl H)⟩
theorem cI{e:Expr}{f:En->Option D}(h:PV X G ob e f):PVO X G ob (some e) (gn f):=let⟨t,a1,a2⟩:=h.ex;⟨_,λc=>Ot (a1 c),λρ o e σ H W rl w Q q=>by
 unfold gn at e;cases h1:f ρ with
 |none=>simp[h1]at e
 |some d=>
  rw[h1]at e;simp only[Option.bind_some]at e;split at e
  .cases e
   refine a2 ρ _ h1 σ H W rl w _ λv H' L s r fr nd=>?_;obtain⟨rfl,rfl⟩:=bc r;exact⟨_,rfl,q H' s⟩
  .cases e⟩
def SlV(G:Gc)(r:V->Option Int->Option Int->Hp->VK->Prop)(g:D->Option Int->Option Int->Option D):Prop:=∀(dx:D)(lo hi:Option Int)(d:D),g dx lo hi=some d->∀(x:V)(H:Hp)(W:Wn)(Lx:List Addr),Rep G H W dx x Lx->Lx.Nodup->(∀a∈Lx,W.tmp a)->WOk H W->∀Q:VK,Done G H W Lx d Q->r x lo hi H Q
structure SlB{ι:Type}(X:ι->Cx)(G:Gc)(g:D->Option Int->Option Int->Option D):Prop where
 ex:∃r,(∀c,SlR (X c) r)/\SlV G r g
def O6(g:D->Option Int->Option Int->Option D)(f:En->Option D)(fl fh:En->Option (Option Int)):En->Option D:=λρ=>(f ρ).bind λx=>(fl ρ).bind λl=>(fh ρ).bind λh=>g x l h
def xK(g:D->Option Int->Option Int->Option D)(f:En->Option (D×En))(fl fh:En->Option (Option Int)):En->Option (D×En):=λρ=>(f ρ).bind λp=>(fl p.2).bind λl=>(fh p.2).bind λh=>(g p.1 l h).map λd=>(d,p.2)
theorem Um{r:V->Option Int->Option Int->Hp->VK->Prop}{g:D->Option Int->Option Int->Option D}{te:TE}{tl th:TO}{f:En->Option D}{fl fh:En->Option (Option Int)}(ho:SlV G r g)(h:RfE G ob te f)(hl:RfO G ob tl fl)(hh:RfO G ob th fh):RfE G ob (tSl r te tl th) (O6 g f fl fh):=λρ d e σ H W rl w Q q=>by
 unfold O6 at e;cases h1:f ρ with
 |none=>simp[h1]at e
 |some x=>
  cases h2:fl ρ with
  |none=>simp[h1,h2]at e
  |some l=>
   cases h3:fh ρ with
   |none=>simp[h1,h2,h3]at e
   |some u=>
    have e:g x l u=some d:=by simpa[h1,h2,h3]using e
    refine h ρ x h1 σ H W rl w _ λv H1 L s1 r1 fr nd=>?_;have u1:Up H H1 W (W.add L):=.add s1 fr;have w1:WOk H1 (W.add L):=w.add s1 r1.dom;refine hl ρ l h2 σ H1 _ (rl.up u1) w1 _ λH2 s2=>?_;have u2:Up H1 H2 (W.add L) (W.add L):=.same s2;have w2:WOk H2 (W.add L):=λa ha=>let⟨o,ho,hm⟩:=w1 a ha;⟨o,s2 a o ho,hm⟩;refine hh ρ u h3 σ H2 _ ((rl.up u1).up u2) w2 _ λH3 s3=>?_;have u3:Up H2 H3 (W.add L) (W.add L):=.same s3;have w3:WOk H3 (W.add L):=λa ha=>let⟨o,ho,hm⟩:=w2 a ha;⟨o,s3 a o ho,hm⟩;have ss:=(s1.trans s2).trans s3;refine ho x l u d e v H3 _ L ((r1.up u2).up u3) nd (w.tmp fr) w3 Q λv' H4 L4 s4 r4 f4 n4=>?_;refine q v' H4 L4 (ss.trans s4) ?_ (λa ha=>(f4 a ha).elim (fr a) λz=>ss.none' z) n4;exact r4.up ⟨Same.refl _,λb u hb f=>⟨λz=>z.elim (λz=>f.1 (.inl z)) λz=>f.1 (.inr ⟨.inr z,WOk.new w fr z⟩),f.2⟩,λ_ _ _ f=>f⟩
theorem QT{r:V->Option Int->Option Int->Hp->VK->Prop}{g:D->Option Int->Option Int->Option D}{te:TE}{tl th:TO}{f:En->Option (D×En)}{fl fh:En->Option (Option Int)}(ho:SlV G r g)(h:kh G ob te f)(hl:RfO G ob tl fl)(hh:RfO G ob th fh):kh G ob (tSl r te tl th) (xK g f fl fh):=λρ d ρ' e σ H S Fr s Q q=>by
 unfold xK at e;cases h1:f ρ with
 |none=>simp[h1]at e
 |some p=>
  obtain⟨x,ρ1⟩:=p;cases h2:fl ρ1 with
  |none=>simp[h1,h2]at e
  |some l=>
   cases h3:fh ρ1 with
   |none=>simp[h1,h2,h3]at e
   |some u=>
    cases h4:g x l u with
    |none=>simp[h1,h2,h3,h4]at e
    |some d'=>
     obtain⟨rfl,rfl⟩:d'=d/\ρ1=ρ':=by simpa[h1,h2,h3,h4]using e
     refine h ρ x _ h1 σ H S Fr s _ λv H1 L S1 s1 rx nd ef=>?_;refine hl _ l h2 σ H1 _ s1.rel s1.wok _ λH2 k2=>?_;have s2:=s1.grow k2 λa z=>.inl z;refine hh _ u h3 σ H2 _ s2.rel s2.wok _ λH3 k3=>?_;have s3:=s2.grow k3 λa z=>.inl z;have ef3:Eff ob H H3 S S1 L:=⟨λb u hb n=>k3 b u (k2 b u (ef.kp b u hb n)),ef.sn,ef.gr,ef.fm⟩;refine ho x l u _ h4 v H3 _ L ((rx.up (.same k2)).up (.same k3)) nd (λa ha=>s3.tmp (.inl ha)) s3.wok Q λv' H4 L4 s4 r4 f4 n4=>?_;obtain⟨q1,q2,q3⟩:=JT s3 ef3 s4 r4 f4 s;exact q v' H4 L4 S1 q1 q2 n4 q3
def cutD(ds:List D)(lo hi:Option Int):List D:=(ds.drop (HT.sIx ds.length 0 lo)).take (HT.sIx ds.length ds.length hi-HT.sIx ds.length 0 lo)
def gSl:D->Option Int->Option Int->Option D
 |.lst _ ds,lo,hi=>some (.lst .own (cutD ds lo hi))
 |.tup ds,lo,hi=>some (.tup (cutD ds lo hi))
 |_,_,_=>none
theorem aK.cut{H:Hp}{W:Wn}{ds:List D}{xs:List V}{L:List Addr}(h:aK G H W ds xs L)(lo hi:Option Int):∃M,aK G H W (cutD ds lo hi) (vM xs lo hi) M/\List.Sublist M L:=by
 unfold cutD vM;rw[h.length];obtain⟨A,B,_,h2,rfl⟩:=h.takeDrop (HT.sIx xs.length 0 lo);obtain⟨A',B',h3,_,rfl⟩:=h2.takeDrop (HT.sIx xs.length xs.length hi-HT.sIx xs.length 0 lo);exact⟨A',h3,(List.sublist_append_left A' B').trans (List.sublist_append_right A _)⟩
theorem slb(hK:∀c,(X c).K=G.K:=by intro _;rfl):SlB X G gSl:=⟨λx lo hi H Q=>U5 G.K x lo hi H Q∨TQ G.K x lo hi H Q,λc=>by rw[←hK c];exact SlR.or O3 QV,λdx lo hi d e x H W Lx rx nd hn w Q q=>by
 unfold gSl at e;split at e
 .cases e
  rw[Rep]at rx;obtain⟨a,xs,M,rfl,hr,hs⟩:=rx;obtain⟨M',h1,h2⟩:=hr.cut lo hi;exact .inl ⟨a,xs,rfl,hs.sq,λp hp=>ue h1 (h2.trans hs.sub) nd hn hp q⟩
 .rename_i ds
  cases e;have rx':=rx;rw[Rep]at rx;obtain⟨a,xs,rfl,ht,hr⟩:=rx;obtain⟨M',h1,h2⟩:=hr.cut lo hi;refine .inr ⟨a,xs,rfl,SqT.of ht,λee=>?_,λp hp=>xM h1 h2 nd hn hp q⟩;rw[ee]at h1;refine qp (d:=.tup (cutD ds lo hi)) (x:=.ref a) (M:=M') ?_ h2 nd hn q;rw[Rep];exact⟨a,xs,rfl,ht,h1⟩
 .cases e⟩
def eSl:=O6 gSl
def Ky:=xK gSl
theorem dw{e:Expr}{lo hi:Option Expr}{pos p2:Pos}{f:En->Option D}{fl fh:En->Option (Option Int)}(o:SlB X G gSl)(h:PV X G ob e f)(hl:PVO X G ob lo fl)(hh:PVO X G ob hi fh):PV X G ob (.Subscript e (.Slice lo hi none p2) pos) (eSl f fl fh):=let⟨r,o1,o2⟩:=o.ex;let⟨t,a1,a2⟩:=h.ex;let⟨u,b1,b2⟩:=hl.ex;let⟨v,c1,c2⟩:=hh.ex;⟨_,λc=>Cz (o1 c) (a1 c) (b1 c) (c1 c),Um o2 a2 b2 c2⟩
theorem yj{e:Expr}{lo hi:Option Expr}{pos p2:Pos}{f:En->Option (D×En)}{fl fh:En->Option (Option Int)}(o:SlB X G gSl)(h:PVe X G ob e f)(hl:PVO X G ob lo fl)(hh:PVO X G ob hi fh):PVe X G ob (.Subscript e (.Slice lo hi none p2) pos) (Ky f fl fh):=let⟨r,o1,o2⟩:=o.ex;let⟨t,a1,a2⟩:=h.ex;let⟨u,b1,b2⟩:=hl.ex;let⟨v,c1,c2⟩:=hh.ex;⟨_,λc=>Cz (o1 c) (a1 c) (b1 c) (c1 c),QT o2 a2 b2 c2⟩
end
section
variable{ι:Type}{X:ι->Cx}{G:Gc}{ob P:Nat->Bool}
def lZ:D->D->Option D
 |.lst _ ds,.int i=>if i= -1 then some (.lst .own ds.reverse)else none
 |.tup ds,.int i=>if i= -1 then some (.tup ds.reverse)else if i=1 then some (.tup ds)else none
 |_,_=>none
theorem Jr:OpV G (Kv G.K) lZ:=λdx dy d e x y H W Lx Ly rx ry nd hn w Q q=>by
 unfold lZ at e;split at e
 .split at e
  .rename_i hi
   subst hi;cases e;obtain⟨rfl,rfl⟩:=bc ry;rw[Rep]at rx;obtain⟨a,xs,M,rfl,hr,hs⟩:=rx;obtain⟨M',h1,pm⟩:=hr.revL;refine .inr ⟨a,xs,rfl,hs.sq,rfl,λp hp=>?_⟩;have sm:Same H (upd H p (.lst xs.reverse)):=Same.new hp;have hM:∀a∈M',a∈Lx++[]:=λa ha=>by rw[List.append_nil];exact hs.sub.subset (pm.mem_iff.mp ha)
   have np:p∉M':=λz=>by obtain⟨o,ho,_⟩:=h1.dom p z;rw[hp]at ho;cases ho
   have ndM:M'.Nodup:=pm.nodup_iff.mpr (hs.sub.nodup (List.nodup_append.mp nd).1);refine q (.ref p) _ (p::M') sm ?_ (λa ha=>(List.mem_cons.mp ha).elim (λz=>.inr (by rw[z];exact hp)) λz=>.inl (hM a z)) (List.nodup_cons.mpr ⟨np,ndM⟩);rw[Rep];exact⟨p,_,M',rfl,h1.up ⟨sm,λb u hb f=>⟨λz=>z.elim (λz=>(List.mem_cons.mp z).elim (λz=>by rw[z,hp]at hb;cases hb) λz=>f.1 (hn b (hM b z)).1) λz=>f.1 z.1,f.2⟩,λ_ _ _ f=>f⟩,bJ,rfl⟩
  .cases e
 .obtain⟨rfl,rfl⟩:=bc ry
  have rx':=rx;rw[Rep]at rx;obtain⟨a,xs,rfl,ht,hr⟩:=rx;split at e
  .rename_i hi
   subst hi;cases e;obtain⟨M',h1,pm⟩:=hr.revL;refine .inl ⟨a,xs,rfl,SqT.of ht,.inr ⟨rfl,λp hp=>?_⟩⟩;have sm:Same H (upd H p (.tup xs.reverse)):=Same.new hp;have hM:∀a∈M',a∈Lx++[]:=λa ha=>by rw[List.append_nil];exact pm.mem_iff.mp ha
   have ndM:M'.Nodup:=pm.nodup_iff.mpr (List.nodup_append.mp nd).1;refine q (.ref p) _ M' sm ?_ (λa ha=>.inl (hM a ha)) ndM;rw[Rep];exact⟨p,_,rfl,bJ,h1.up ⟨sm,λb u hb f=>⟨λz=>z.elim (λz=>f.1 (hn b (hM b z)).1) λz=>f.1 z.1,f.2⟩,λ_ _ _ f=>f⟩⟩
  .split at e
   .rename_i hi
    subst hi;cases e;exact .inl ⟨a,xs,rfl,SqT.of ht,.inl ⟨rfl,qp rx' (List.sublist_append_left _ _) nd hn q⟩⟩
   .cases e
 .cases e
theorem zu{e es:Expr}{p2 pos:Pos}{f g:En->Option D}(ha:PV X G ob e f)(hb:PV X G ob es g)(hK:∀c,(X c).K=G.K:=by intro _;rfl):PV X G ob (.Subscript e (.Slice none none (some es) p2) pos) (e2 lZ f g):=let⟨t,a1,a2⟩:=ha.ex;let⟨u,b1,b2⟩:=hb.ex;⟨_,λc=>(by rw[←hK c];exact Ie (a1 c) (b1 c)),Cp Jr a2 b2⟩
def ju:List D->Option (List Key)
 |[]=>some []
 |d::r=>(lQ d).bind λk=>(ju r).map λt=>k::t
theorem t7{H:Hp}{W:Wn}:∀{ds:List D}{ks:List Key}{xs:List V}{L:List Addr},ju ds=some ks->aK G H W ds xs L->xs=ks.map kV
 |[],ks,xs,L,h,r=>by cases h;exact r.inv0.1
 |d::t,ks,xs,L,h,r=>by
  obtain⟨x,ys,M,M',rfl,rfl,h1,h2⟩:=r.inv;cases e1:lQ d with
  |none=>simp[ju,e1]at h
  |some k=>
   cases e2:ju t with
   |none=>simp[ju,e1,e2]at h
   |some w=>
    obtain rfl:k::w=ks:=by simpa[ju,e1,e2]using h
    rw[t7 e2 h2,o4 h1 e1];rfl
def gZ:List D->Option D
 |[.lst _ ds]=>if ds.length<4000 then(ju ds).map λks=>.int (uJ ks).length else none
 |[.tup ds]=>if ds.length<4000 then(ju ds).map λks=>.int (uJ ks).length else none
 |_=>none
theorem tO:∀{ds:List D}{ks:List Key},ju ds=some ks->ks.length=ds.length
 |[],ks,h=>by cases h;rfl
 |d::t,ks,h=>by
  cases e1:lQ d with
  |none=>simp[ju,e1]at h
  |some k=>
   cases e2:ju t with
   |none=>simp[ju,e1,e2]at h
   |some w=>
    obtain rfl:k::w=ks:=by simpa[ju,e1,e2]using h
    simp[tO e2]
theorem Dp:CaV G (λvs H Q=>∃a ks,vs=[.ref a]/\(SqL G.K H a (List.map kV ks)∨SqT G.K H a (List.map kV ks))/\List.length ks<4000/\Q (.int (uJ ks).length) H) gZ:=λds d e xs H W L0 r nd hn w Q q=>by
 unfold gZ at e;split at e
 .split at e
  .rename_i m ds hl
   cases h1:ju ds with
   |none=>simp[h1]at e
   |some ks=>
    obtain rfl:D.int (uJ ks).length=d:=by simpa[h1]using e
    obtain⟨x,rfl,rx⟩:=r.inv1;rw[Rep]at rx;obtain⟨a,ys,M,rfl,hr,hs⟩:=rx;have:=t7 h1 hr;subst this;exact⟨a,ks,rfl,.inl hs.sq,by rw[tO h1];exact hl,q.scal λ_=>d9⟩
  .cases e
 .split at e
  .rename_i ds hl
   cases h1:ju ds with
   |none=>simp[h1]at e
   |some ks=>
    obtain rfl:D.int (uJ ks).length=d:=by simpa[h1]using e
    obtain⟨x,rfl,rx⟩:=r.inv1;rw[Rep]at rx;obtain⟨a,ys,rfl,ht,hr⟩:=rx;have:=t7 h1 hr;subst this;exact⟨a,ks,rfl,.inr (SqT.of ht),by rw[tO h1];exact hl,q.scal λ_=>d9⟩
  .cases e
 .cases e
theorem tL{e:Expr}{p1 p2 q1 q2:Pos}{f:En->Option (List D)}(hg:∀c,Gl (X c) "len")(hm:∀c,(X c).mg "len"=none)(hms:∀c,(X c).mg "set"=none)(ha:PVA X G ob [e] f)(hg2:∀c,Gl (X c) "set":=by intro _;rfl)(hs:∀c,starEach [e] (X c).env=[(false,eval e (X c).env)]:=by intro _;rfl)(hc:∀c,(X c).calm=true:=by intro _;rfl)(hK:∀c,(X c).K=G.K:=by intro _;rfl) :
 PV X G ob (.Call (.Name "len" p1) [.Call (.Name "set" p2) [e] [] q2] [] q1) (eAp gZ f):=let⟨t,a1,a2⟩:=ha.ex;⟨_,λc=>(by rw[←hK c];exact Hi (hg c) (hm c) (hms c) (a1 c) (hg2 c) (hs c) (hc c)),yl Dp a2⟩
def zP:List D->Option (List Bool)
 |[]=>some []
 |.bl b::r=>(zP r).map λt=>b::t
 |_::_=>none
theorem Bt{H:Hp}{W:Wn}:∀{ds:List D}{bs:List Bool}{xs:List V}{L:List Addr},zP ds=some bs->aK G H W ds xs L->xs=bs.map V.bl
 |[],ks,xs,L,h,r=>by cases h;exact r.inv0.1
 |d::t,ks,xs,L,h,r=>by
  obtain⟨x,ys,M,M',rfl,rfl,h1,h2⟩:=r.inv;cases d<;>simp[zP]at h;obtain⟨w,h3,rfl⟩:=h;rw[Rep]at h1;rw[Bt h3 h2,h1.1];rfl
def vg:List D->Option D
 |[.lst _ ds]=>(zP ds).map λbs=>.bl (bs.all id)
 |_=>none
theorem ph(hc:∀c,(X c).calm=true)(hK:∀c,(X c).K=G.K:=by intro _;rfl):CaB X G (.builtin "all") vg:=⟨λxs H Q=>∃a bs,xs=[.ref a]/\SqL G.K H a (List.map V.bl bs)/\Q (.bl (List.all bs id)) H,λc=>by rw[←hK c];exact G7 (hc c),λds d e xs H W L0 r nd hn w Q q=>by
 unfold vg at e;split at e
 .rename_i m ds
  cases h1:zP ds with
  |none=>simp[h1]at e
  |some ks=>
   obtain rfl:D.bl (ks.all id)=d:=by simpa[h1]using e
   obtain⟨x,rfl,rx⟩:=r.inv1;rw[Rep]at rx;obtain⟨a,ys,M,rfl,hr,hs⟩:=rx;have:=Bt h1 hr;subst this;exact⟨a,ks,rfl,hs.sq,q.scal λ_=>fG⟩
 .cases e⟩
def xm:List D->Option D
 |[.non]=>some (.str "None")
 |[.bl b]=>some (.str (if b then "True" else "False"))
 |[.int i]=>if i.natAbs.log2<1920 then some (.str (toString i))else none
 |[.str x]=>some (.str x)
 |[d]=>if ig d=true/\(pyD (dt d)).depth<=50/\(pyD (dt d)).showable=true/\(pyD (dt d)).shown.length<=sizeLine then some (.str (pyD (dt d)).shown)else none
 |_=>none
theorem G4{Y:Cx}:fD Y (.type "str") (λxs H Q=>(xs=[.non]/\Q (.str "None") H)∨(∃b:Bool,xs=[.bl b]/\Q (.str (if b then "True" else "False")) H)∨∃x,xs=[.str x]/\Q (.str x) H):=by
 intro pins s σ H xs us Q I r h;rcases h with⟨rfl,q⟩|⟨b,rfl,q⟩|⟨x,rfl,q⟩
 .obtain⟨u,rfl,ru⟩:=vals1 r
  cases ru;exact P.str_of_none ⟨.str _,H,I.tok _,⟨_,rfl⟩,q⟩
 .obtain⟨u,rfl,ru⟩:=vals1 r
  cases ru;exact P.str_of_bool ⟨.str _,H,I.tok _,⟨_,rfl⟩,q⟩
 .obtain⟨u,rfl,ru⟩:=vals1 r
  obtain⟨t,rfl⟩:=ru;exact P.str_of_str ⟨.str _,H,I,⟨_,rfl⟩,q⟩
def Uz(K:PySem.W.Frag)(A:Around):List V->Hp->VK->Prop:=λxs H Q=>(((xs=[.non]/\Q (.str "None") H)∨(∃b:Bool,xs=[.bl b]/\Q (.str (if b then "True" else "False")) H)∨∃x,xs=[.str x]/\Q (.str x) H)∨∃i,xs=[.int i]/\i.natAbs.log2<1920/\Q (.str (toString i)) H)∨QD K A xs H Q
theorem oY{H:Hp}{W:Wn}{x:Str}:Rep G H W (.str x) (.str x) []:=by rw[Rep];exact⟨rfl,rfl⟩
theorem vA(A:Around)(hA:∀c,(X c).A=A)(hg:A.guards=some [])(hu:A.units+64<cLine)(hK:∀c,(X c).K=G.K:=by intro _;rfl):CaB X G (.type "str") xm:=⟨Uz G.K A,λc=>by rw[←hK c,←hA c];exact fD.or (fD.or G4 zX) Hv,λds d e xs H W L0 r nd hn w Q q=>by
 unfold xm at e;split at e
 .cases e
  obtain⟨x,rfl,rx⟩:=r.inv1;rw[Rep]at rx;obtain⟨rfl,rfl⟩:=rx;exact .inl (.inl (.inl ⟨rfl,q.scal λ_=>oY⟩))
 .cases e
  obtain⟨x,rfl,rx⟩:=r.inv1;obtain⟨rfl,rfl⟩:=j8 rx;exact .inl (.inl (.inr (.inl ⟨_,rfl,q.scal λ_=>oY⟩)))
 .split at e
  .cases e
   obtain⟨x,rfl,rx⟩:=r.inv1;obtain⟨rfl,rfl⟩:=bc rx;exact .inl (.inr ⟨_,rfl,‹_›,q.scal λ_=>oY⟩)
  .cases e
 .cases e
  obtain⟨x,rfl,rx⟩:=r.inv1;obtain⟨rfl,rfl⟩:=cC rx;exact .inl (.inl (.inr (.inr ⟨_,rfl,q.scal λ_=>oY⟩)))
 .rename_i d0 n1 n2 n3 n4
  split at e
  .rename_i hd
   cases e;obtain⟨x,rfl,rx⟩:=r.inv1;have hb:=rx.brs hd.1;have hx:∃a,x= .ref a:=by
    cases d0 with
    |non=>exact absurd rfl n1
    |bl b=>exact absurd rfl (n2 b)
    |int b=>exact absurd rfl (n3 b)
    |str b=>exact absurd rfl (n4 b)
    |tup ds=>rw[Rep]at rx;obtain⟨a,_,rfl,_⟩:=rx;exact⟨a,rfl⟩
    |lst m ds=>rw[Rep]at rx;obtain⟨a,_,_,rfl,_⟩:=rx;exact⟨a,rfl⟩
    |ty n=>simp[ig]at hd
    |dct m ks ds=>simp[ig]at hd
    |ins m c fs ds=>simp[ig]at hd
   obtain⟨a,rfl⟩:=hx;exact .inr ⟨a,dt d0,rfl,hb,hg,by omega,hd.2.2.1,hd.2.2.2,q.scal λ_=>oY⟩
  .cases e
 .cases e⟩
end
section
variable{ι:Type}{X:ι->Cx}{G:Gc}{ob P:Nat->Bool}
def M_:D->Bool
 |.non=>true
 |.bl _=>true
 |.int _=>true
 |.str _=>true
 |_=>false
theorem Tg{H:Hp}{W:Wn}{d:D}{v:V}{L:List Addr}(h:M_ d=true)(r:Rep G H W d v L):L=[]/\∀H' W',Rep G H' W' d v []:=by
 cases d<;>simp[M_]at h<;>rw[Rep]at r<;>obtain⟨rfl,rfl⟩:=r<;>exact⟨rfl,λ_ _=>by rw[Rep];exact⟨rfl,rfl⟩⟩
def sG(g g':D->D->Option D)(fa fb fc:En->Option D):En->Option D:=λρ=>(fa ρ).bind λx=>(fb ρ).bind λy=>if M_ y then(g x y).bind λr=>match r with
 |.bl true=>(fc ρ).bind λz=>g' y z
 |.bl false=>some (.bl false)
 |_=>none else none
theorem Ah{r r':R2}{g g':D->D->Option D}{ta tb tc:TE}{fa fb fc:En->Option D}(ho:OpV G r g)(ho':OpV G r' g')(ha:RfE G ob ta fa)(hb:RfE G ob tb fb)(hc:RfE G ob tc fc):RfE G ob (Di r r' ta tb tc) (sG g g' fa fb fc):=λρ d e σ H W rl w Q q=>by
 unfold sG at e;cases h1:fa ρ with
 |none=>simp[h1]at e
 |some dx=>
  cases h2:fb ρ with
  |none=>simp[h1,h2]at e
  |some dy=>
   rw[h1,h2]at e;simp only[Option.bind_some]at e;split at e
   .rename_i hsc
    cases h3:g dx dy with
    |none=>simp[h3]at e
    |some dr=>
     rw[h3]at e;simp only[Option.bind_some]at e;refine RfE.two ha hb h1 h2 rl w λx y H' L M s rx ry fr nd w'=>?_;obtain⟨rfl,hy⟩:=Tg hsc ry;refine ho dx dy dr h3 x y H' _ L [] rx ry nd (w.tmp fr) w' _ λv H2 L2 s2 r2 f2 n2=>?_;split at e
     .obtain⟨rfl,rfl⟩:=j8 r2
      refine⟨true,rfl,pL ?_⟩;cases h4:fc ρ with
      |none=>simp[h4]at e
      |some dz=>
       have e:g' dy dz=some d:=by simpa[h4]using e
       have u2:Up H H2 W W:=.same (s.trans s2);have w2:WOk H2 W:=λa ha=>let⟨o,ho,hm⟩:=w a ha;⟨o,(s.trans s2) a o ho,hm⟩;refine hc ρ dz h4 σ H2 W (rl.up u2) w2 _ λz H3 L3 s3 r3 f3 n3=>?_;refine ho' dy dz d e y z H3 (W.add L3) [] L3 (hy _ _) r3 (by simpa using n3) (w2.tmp f3) (w2.add s3 r3.dom) Q λv' H4 L4 s4 r4 f4 n4=>?_;refine q v' H4 L4 (((s.trans s2).trans s3).trans s4) ?_ (λa ha=>(f4 a ha).elim (λz=>(s.trans s2).none' (f3 a z)) λz=>((s.trans s2).trans s3).none' z) n4;exact r4.up ⟨Same.refl _,λb u hb f=>⟨λz=>z.elim (λz=>f.1 (.inl z)) λz=>f.1 (.inr ⟨.inr z,WOk.new w2 f3 z⟩),f.2⟩,λ_ _ _ f=>f⟩
     .cases e
      obtain⟨rfl,rfl⟩:=j8 r2;exact⟨false,rfl,uZ (q (.bl false) H2 [] (s.trans s2) fG (by simp) List.nodup_nil)⟩
     .cases e
   .cases e
variable{a b c:Expr}{pos:Pos}
theorem pv_chain{op op':CmpOp}{g g':D->D->Option D}{fa fb fc:En->Option D}(o:OpB X G (compareOp op) g)(o':OpB X G (compareOp op') g')(ha:PV X G ob a fa)(hb:PV X G ob b fb)(hc:PV X G ob c fc)(hm:lastMarks [op,op'] [b,c]=false:=by with_unfolding_all rfl):PV X G ob (.Compare a [op,op'] [b,c] pos) (sG g g' fa fb fc):=
 let⟨r,o1,o2⟩:=o.ex;let⟨r',p1,p2⟩:=o'.ex;let⟨t,a1,a2⟩:=ha.ex;let⟨u,b1,b2⟩:=hb.ex;let⟨v,c1,c2⟩:=hc.ex;⟨_,λc=>JN (o1 c) (p1 c) (a1 c) (b1 c) (c1 c) hm,Ah o2 p2 a2 b2 c2⟩
theorem Hj{op op':CmpOp}{g g':D->D->Option D}{fa fb fc:En->Option D}(o:OpB X G (compareOp op) g)(o':OpB X G (compareOp op') g')(ha:PV X G ob a fa)(hb:PV X G ob b fb)(hc:PV X G ob c fc)(hm:lastMarks [op,op'] [b,c]=false:=by with_unfolding_all rfl):PVT X G ob (.Compare a [op,op'] [b,c] pos) (eB (sG g g' fa fb fc)):=
 let⟨r,o1,o2⟩:=o.ex;let⟨r',p1,p2⟩:=o'.ex;let⟨t,a1,a2⟩:=ha.ex;let⟨u,b1,b2⟩:=hb.ex;let⟨v,c1,c2⟩:=hc.ex;⟨_,λc=>LQ (o1 c) (p1 c) (a1 c) (b1 c) (c1 c) hm,UL (Ah o2 p2 a2 b2 c2)⟩
def Vq(g:Int->Int->Int)(i:Nat)(f:En->Option D):En->Option Fl:=λρ=>match ρ[i]? with
 |some (some (.int m))=>(f ρ).bind λd=>match d with
  |.int n=>some (.nx (ρ.set i (some (.int (g m n)))))
  |_=>none
 |_=>none
def Sv(G:Gc)(ob:Nat->Bool)(wi:TI)(f:En->Option (List D×En)):Prop:=∀(ρ:En)(items:List D)(ρ':En),f ρ=some (items,ρ')->∀(σ:L2.St)(H:Hp)(S:Ad)(Fr:Addr->Prop),Sta G H ob ρ σ S Fr->∀R:It->Hp->Prop,
 (∀J H' S',Sta G H' ob ρ' σ S' Fr->Eff ob H H' S S' []->Wk G J (LtB true H' (wn ob S' Fr)) items->R J H')->wi σ H R
structure Ue{ι:Type}(X:ι->Cx)(G:Gc)(ob:Nat->Bool)(tg it:Expr)(f:En->Option (List D×En)):Prop where
 mk::(ex:∃t,(∀c,PI (X c) tg it t)/\Sv G ob t f)
def Ay(f:En->Option (List D×En)):En->Option (List D×En):=λρ=>(f ρ).bind λp=>match p.1 with
 |[.int j]=>if -(2 ^ 62)<=j/\j<2 ^ 62 then some (jL 0 j.toNat,p.2)else none
 |_=>none
theorem Nz{t:TA}{f:En->Option (List D×En)}(h:BP G ob t f):Sv G ob (KC t) (Ay f):=λρ items ρ' e σ H S Fr s R q=>by
 unfold Ay at e;cases h1:f ρ with
 |none=>simp[h1]at e
 |some p=>
  obtain⟨ds,ρ1⟩:=p;rw[h1]at e;simp only[Option.bind_some]at e;split at e
  .rename_i j
   split at e
   .rename_i hj
    obtain⟨rfl,rfl⟩:jL 0 j.toNat=items/\ρ1=ρ':=by simpa using e
    refine h ρ _ _ h1 σ H S Fr s _ λxs H' L S' s' rx nd ef=>?_;obtain⟨x,rfl,rx'⟩:=rx.inv1;obtain⟨rfl,rfl⟩:=bc rx';rw[gM]at s';exact⟨j,rfl,by omega,by omega,q _ H' S' s' ef J9⟩
   .cases e
  .cases e
def VV(f:En->Option (D×En)):En->Option (List D×En):=λρ=>(f ρ).bind λp=>(dq p.1).bind λr=>if r.1=true then some (r.2,p.2)else none
def CW(it:En->Option (List D×En))(tg:D->En->Option En)(body:En->Option Fl):En->Option Fl:=λρ=>(it ρ).bind λp=>forL tg body p.1 p.2
theorem Im{wi:TI}{g:TG}{tb:TS}{it:En->Option (List D×En)}{tg:D->En->Option En}{body:En->Option Fl}(hi:Sv G ob wi it)(hg:RfG G ob P g tg)(hb:RfS G ob P tb body):RfS G ob P (RB wi g tb) (CW it tg body):=λρ0 r e σ H0 S0 Fr s0 E q=>by
 unfold CW at e;cases h1:it ρ0 with
 |none=>simp[h1]at e
 |some p=>
  obtain⟨items,ρ⟩:=p;have e:forL tg body items ρ=some r:=by simpa[h1]using e
  refine hi ρ0 items ρ h1 σ H0 S0 Fr s0 _ λJ H1 S s1 ef wk=>?_;have m1:Mv P H0 H1 σ σ S0 S []:=ef.mv;have q1:=q.from m1;have ltof:∀{ρ2:En}{σ2:L2.St}{H2:Hp}{S2:Ad},Mv P H1 H2 σ σ2 S S2 []->LtB true H1 (wn ob S Fr) H2 (wn ob S2 Fr):=λm=>pL (D_ s1 m);refine⟨λi m σ2 H2=>i+m=items.length/\∃ρ2 S2,Sta G H2 ob ρ2 σ2 S2 Fr/\Mv P H1 H2 σ σ2 S S2 []/\forL tg body (items.drop i) ρ2=some r,⟨items.length,by omega,ρ,S,s1,.refl,e⟩,?_⟩;rintro i m σ2 H2 ⟨him,ρ2,S2,s2,m2,e2⟩;by_cases hil:i<items.length
  .refine .inr ⟨wk.go i items[i] (by simp[hil]) H2 _ (ltof (ρ2:=ρ2) m2),λσ' H'=>(i+1)+(m-1)=items.length/\∃ρ2 S2,Sta G H' ob ρ2 σ' S2 Fr/\Mv P H1 H' σ σ' S S2 []/\forL tg body (items.drop (i+1)) ρ2=some r,λσ' H' h=>⟨m-1,by omega,h⟩,λx H3 hy=>?_⟩
   obtain⟨s3,rx⟩:=wk.yld i items[i] (by simp[hil]) H2 _ (ltof (ρ2:=ρ2) m2) x H3 hy;rw[←List.getElem_cons_drop hil,forL]at e2;cases h3:tg items[i] ρ2 with
   |none=>simp[h3]at e2
   |some ρ3=>
    rw[h3]at e2;simp only[Option.bind_some]at e2;have st3:Sta G H3 ob ρ2 σ2 S2 Fr:=s2.grow s3 λa z=>.inl z;refine hg items[i] ρ2 ρ3 h3 x σ2 H3 S2 [] Fr (by rw[gM];exact st3) (by rw[gM];exact rx) List.nodup_nil (by simp) _ λσ4 H4 S4 s4 m4=>?_;have m24:Mv P H1 H4 σ σ4 S S4 []:=(m2.trans (S2:=S2) ⟨λb u h _ _=>s3 b u h,λi a z=>.inl ⟨i,z⟩,.refl⟩).trans m4;cases h5:body ρ3 with
    |none=>rw[h5]at e2;cases e2
    |some fl=>
     rw[h5]at e2;refine hb ρ3 fl h5 σ4 H4 S4 Fr s4 _ ?_;cases fl with
     |nx ρ5=>exact λσ' H' S' s' m'=>⟨by omega,ρ5,S',s',m24.trans m',e2⟩
     |cnt ρ5=>exact λσ' H' S' s' m'=>⟨by omega,ρ5,S',s',m24.trans m',e2⟩
     |brk ρ5=>cases e2;exact λσ' H' S' s' m'=>q1 σ' H' S' s' (m24.trans m')
     |ret d ρ5=>cases e2;exact q1.from m24
  .have hl:i=items.length:=by omega
   rw[hl,List.drop_length,forL]at e2;cases e2;subst hl;exact .inl ⟨wk.stop H2 _ (ltof (ρ2:=ρ2) m2),q1 σ2 H2 S2 s2 m2⟩
theorem Km{tg iter:Expr}{body:List Stmt}{pos:Pos}{it:En->Option (List D×En)}{g:D->En->Option En}{f:En->Option Fl}(hp:∀c,PassesOwn (model (X c).prog (X c).w) (X c).A (X c).env (X c).xe)(hc:∀c,(X c).calm=true)(hi:Ue X G ob tg iter it)(hg:PVG X G ob P tg g)(hb:uN X G ob P body f)(hs:∀c,∀x,foldedSetIterable iter (X c).env x=pure x:=by intro _;intro _;rfl):PVS X G ob P (.For tg iter body [] pos) (CW it g f):=let⟨v,c1,c2⟩:=hi.ex;let⟨t,a1,a2⟩:=hg.ex;let⟨u,b1,b2⟩:=hb.ex;⟨_,λc=>KD (hp c) (hc c) (c1 c) (a1 c) (b1 c) (hs c),Im c2 a2 b2⟩
theorem Nx{tg a:Expr}{p pos:Pos}{f:En->Option (List D×En)}(hg:∀c,Gl (X c) "range")(hm:∀c,(X c).mg "range"=none)(ha:w6 X G ob [a] f)(hs:∀c,starEach [a] (X c).env=[(false,eval a (X c).env)]:=by intro _;rfl):Ue X G ob tg (.Call (.Name "range" p) [a] [] pos) (Ay f):=let⟨t,a1,a2⟩:=ha.ex;⟨_,λc=>yK (hg c) (hm c) (a1 c) (hs c),Nz a2⟩
end
def T8(own:Nat->Bool)(cap:List (Option Nat)):Bool:=(List.range cap.length).all λi=>!own i||(match cap[i]? with
 |some none=>true
 |_=>false)
theorem cW{own:Nat->Bool}{cap:List (Option Nat)}(h:T8 own cap=true):∀i:Nat,own i=true->cap[i]?≠none->cap[i]? =some none:=λi ho hn=>by
 have hi:i<cap.length:=by
  by_cases z:i<cap.length
  .exact z
  .exact absurd (List.getElem?_eq_none (by omega)) hn
 have:=List.all_eq_true.mp h i (List.mem_range.mpr hi);rw[ho]at this;simp only[Bool.not_true,Bool.false_or]at this;split at this
 .assumption
 .cases this
def Mw(cap:List (Option Nat)):Bool:=(List.range cap.length).all λi=>(List.range cap.length).all λk=>match cap[i]?,cap[k]? with
 |some (some a),some (some b)=>!(a==b)||i==k
 |_,_=>true
theorem Gp{cap:List (Option Nat)}(h:Mw cap=true):lr cap:=λi k j h1 h2=>by
 have hi:i<cap.length:=(List.getElem?_eq_some_iff.mp h1).1;have hk:k<cap.length:=(List.getElem?_eq_some_iff.mp h2).1;have:=List.all_eq_true.mp (List.all_eq_true.mp h i (List.mem_range.mpr hi)) k (List.mem_range.mpr hk);rw[h1,h2]at this;simpa using this
def KpS{α:Type}(i:Nat)(f:En->Option (α×En)):Prop:=∀ρ q,f ρ=some q->q.2[i]? =ρ[i]?
theorem Jv{i:Nat}{f:En->Option D}:KpS i (eUp f):=λρ q h=>by
 unfold eUp at h;cases e:f ρ with
 |none=>simp[e]at h
 |some d=>
  obtain rfl:(d,ρ)=q:=by simpa[e]using h
  rfl
theorem Gx{i:Nat}{f:En->Option (List D)}:KpS i (bT f):=λρ q h=>by
 unfold bT at h;cases e:f ρ with
 |none=>simp[e]at h
 |some d=>
  obtain rfl:(d,ρ)=q:=by simpa[e]using h
  rfl
theorem CG{i:Nat}{f:En->Option (D×En)}{g:En->Option (List D×En)}(h1:KpS i f)(h2:KpS i g):KpS i (bW f g):=λρ q h=>by
 unfold bW at h;cases e1:f ρ with
 |none=>simp[e1]at h
 |some p=>
  cases e2:g p.2 with
  |none=>simp[e1,e2]at h
  |some r=>
   rw[e1]at h;simp only[Option.bind_some,e2]at h;split at h
   .cases h
    exact(h2 _ _ e2).trans (h1 _ _ e1)
   .cases h
theorem Lk{i:Nat}{g:List D->Option D}{f:En->Option (List D×En)}(h1:KpS i f):KpS i (lF g f):=λρ q h=>by
 unfold lF at h;cases e1:f ρ with
 |none=>simp[e1]at h
 |some p=>
  cases e2:g p.1 with
  |none=>simp[e1,e2]at h
  |some r=>
   obtain rfl:(r,p.2)=q:=by simpa[e1,e2]using h
   exact h1 ρ p e1
theorem QG{i:Nat}{g:D->D->Option D}{f f':En->Option (D×En)}(h1:KpS i f)(h2:KpS i f'):KpS i (ee2 g f f'):=λρ q h=>by
 unfold ee2 at h;cases e1:f ρ with
 |none=>simp[e1]at h
 |some p=>
  cases e2:f' p.2 with
  |none=>simp[e1,e2]at h
  |some r=>
   rw[e1]at h;simp only[Option.bind_some,e2]at h;split at h
   .cases e3:g p.1 r.1 with
    |none=>simp[e3]at h
    |some d=>
     obtain rfl:(d,r.2)=q:=by simpa[e3]using h
     exact(h2 _ _ e2).trans (h1 _ _ e1)
   .cases h
theorem Qu{i:Nat}{g:D->Option D}{f:En->Option (D×En)}(h1:KpS i f):KpS i (ee1 g f):=λρ q h=>by
 unfold ee1 at h;cases e1:f ρ with
 |none=>simp[e1]at h
 |some p=>
  cases e2:g p.1 with
  |none=>simp[e1,e2]at h
  |some r=>
   obtain rfl:(r,p.2)=q:=by simpa[e1,e2]using h
   exact h1 ρ p e1
theorem Il{i:Nat}{F:List D->Option (D×List D)}{js:List Nat}{f:En->Option (List D×En)}(hj:js.contains i=false)(h1:KpS i f):KpS i (eIo F js f):=λρ q h=>by
 unfold eIo at h;split at h
 .cases e1:f ρ with
  |none=>simp[e1]at h
  |some p=>
   cases e2:objs js p.2 with
   |none=>simp[e1,e2]at h
   |some os=>
    rw[e1]at h;simp only[Option.bind_some,e2]at h;split at h
    .cases e3:F (os++fzL p.1)with
     |none=>simp[e3]at h
     |some r=>
      rw[e3]at h;simp only[Option.bind_some]at h;split at h
      .cases h
       exact(o5 λz=>by simp[z]at hj).trans (h1 _ _ e1)
      .cases h
    .cases h
 .cases h
theorem Jp{i:Nat}{g:D->Option Int->Option Int->Option D}{f:En->Option (D×En)}{fl fh:En->Option (Option Int)}(h1:KpS i f):KpS i (xK g f fl fh):=λρ q h=>by
 unfold xK at h;cases e1:f ρ with
 |none=>simp[e1]at h
 |some p=>
  cases e2:fl p.2 with
  |none=>simp[e1,e2]at h
  |some a=>
   cases e3:fh p.2 with
   |none=>simp[e1,e2,e3]at h
   |some b=>
    cases e4:g p.1 a b with
    |none=>simp[e1,e2,e3,e4]at h
    |some d=>
     obtain rfl:(d,p.2)=q:=by simpa[e1,e2,e3,e4]using h
     exact h1 ρ p e1
open PySem PySem.W PyProof.Rows
def Tr(b:Nat->Nat->Bool)(n:Nat){α:Type}:KasT α->(α->Prop)->Prop
 |.ret a,Q=>Q a
 |.ask i j k,Q=>i<n/\j<n/\Tr b n (k (b i j)) Q
section
variable{b:Nat->Nat->Bool}{n:Nat}{α β:Type}
theorem Tr.bind{f:α->KasT β}{Q:β->Prop}:∀{t:KasT α},Tr b n t (λa=>Tr b n (f a) Q)->Tr b n (t.bind f) Q
 |.ret _,h=>h
 |.ask _ _ _,⟨h1,h2,h3⟩=>⟨h1,h2,Tr.bind h3⟩
theorem Tr.mono{Q Q':α->Prop}(hq:∀a,Q a->Q' a):∀{t:KasT α},Tr b n t Q->Tr b n t Q'
 |.ret _,h=>hq _ h
 |.ask _ _ _,⟨h1,h2,h3⟩=>⟨h1,h2,Tr.mono hq h3⟩
theorem Tr.wp{cmp:Nat->Nat->(Bool->Shared->Prop)->Shared->Prop}{s:Shared}{Q:α->Prop}(hc:∀i j C,i<n->j<n->C (b i j) s->cmp i j C s):∀{t:KasT α},Tr b n t Q->t.kasWp cmp (λa s'=>s'=s/\Q a) s
 |.ret _,h=>⟨rfl,h⟩
 |.ask _ _ _,⟨h1,h2,h3⟩=>hc _ _ _ h1 h2 (Tr.wp hc h3)
end
def ji(n:Nat)(p:Array Nat):Prop:=List.Perm p.toList (List.range n)
theorem ji.size{n:Nat}{p:Array Nat}(h:ji n p):p.size=n:=by
 have:=List.Perm.length_eq h;simpa using this
theorem ji.lt{n:Nat}{p:Array Nat}(h:ji n p)(hn:0<n)(i:Nat):p.getD i 0<n:=by
 by_cases hi:i<p.size
 .have hm:p[i]∈p.toList:=by simp
  have:=List.mem_range.mp (List.Perm.mem_iff h |>.mp hm);simpa[Array.getD,hi]using this
 .simpa[Array.getD,hi]using hn
theorem ji.of{n:Nat}{p q:Array Nat}(h:ji n p)(hp:Array.Perm q p):ji n q:=(Array.perm_iff_toList_perm.mp hp).trans h
section
variable(ρ:Nat->Int)
def rk(p:Array Nat)(i:Nat):Int:=ρ (p.getD i 0)
def Up1(p:Array Nat)(k:Nat):Prop:=∀i j,i<=j->j<k->rk ρ p i<=rk ρ p j
def Dn1(p:Array Nat)(k:Nat):Prop:=∀i j,i<=j->j<k->rk ρ p j<=rk ρ p i
abbrev bk:Nat->Nat->Bool:=λi j=>decide (ρ i<ρ j)
end
section
variable{ρ:Nat->Int}{n:Nat}(hn:0<n)
theorem By{p q:Array Nat}{i j:Nat}(h:p[i]? =q[j]?):rk ρ p i=rk ρ q j:=by
 unfold rk;rw[Array.getD_eq_getD_getElem?,Array.getD_eq_getD_getElem?,h]
theorem Dh{p:Array Nat}{i j:Nat}(hj:j<=p.size)(k:Nat):rk ρ (kas_rev p i j) k=if i<=k/\k<j then rk ρ p (i+j-1-k)else rk ρ p k:=by
 have e:=getElem?_mirror_all (xs:=p) (i:=i) hj k;unfold kas_rev;split
 .rename_i h;rw[if_pos h]at e;exact By e
 .rename_i h;rw[if_neg h]at e;exact By e
theorem jq{p:Array Nat}{i j:Nat}(hj:j<=p.size)(h:∀k,i<=k->k<j->rk ρ p k=rk ρ p (j-1))(k:Nat):rk ρ (kas_rev p i j) k=rk ρ p k:=by
 rw[Dh hj];split
 .rw[h _ (by omega) (by omega),h k (by omega) (by omega)]
 .rfl
include hn
theorem Mf{p:Array Nat}(hp:ji n p):∀(f a:Nat),1<=a->Up1 ρ p a->Tr (bk ρ) n (kas_asc p f a) λm=>a<=m/\m<=a+f/\Up1 ρ p m
 |0,a,_,h=>⟨Nat.le_refl _,Nat.le_refl _,h⟩
 |f+1,a,ha,h=>by
  refine⟨hp.lt hn _,hp.lt hn _,?_⟩;by_cases c:rk ρ p a<rk ρ p (a-1)
  .have e:bk ρ (p.getD a 0) (p.getD (a-1) 0)=true:=decide_eq_true c
   rw[e];exact⟨Nat.le_refl _,by omega,h⟩
  .have e:bk ρ (p.getD a 0) (p.getD (a-1) 0)=false:=decide_eq_false c
   rw[e];refine Tr.mono (λm hm=>⟨by omega,by omega,hm.2.2⟩) (Mf hp f (a+1) (by omega) λi j hij hj=>?_);by_cases hja:j<a
   .exact h i j hij hja
   .obtain rfl:j=a:=by omega
    by_cases hi:i=j
    .subst hi;exact Int.le_refl _
    .exact Int.le_trans (h i (j-1) (by omega) (by omega)) (by omega)
def DsQ(ρ:Nat->Int)(n a f:Nat)(t:Array Nat×Nat×Nat):Prop:=ji n t.1/\a<=t.2.1/\t.2.1<=a+f/\Dn1 ρ t.1 t.2.1/\t.2.2+1<=t.2.1/\∀i,t.2.1-(t.2.2+1)<=i->i<t.2.1->rk ρ t.1 i=rk ρ t.1 (t.2.1-1)
theorem zT:∀(f:Nat)(p:Array Nat)(a q:Nat),ji n p->1<=a->a+f<=n->Dn1 ρ p a->q+1<=a->(∀i,a-(q+1)<=i->i<a->rk ρ p i=rk ρ p (a-1))->Tr (bk ρ) n (kas_desc f p a q) (DsQ ρ n a f)
 |0,p,a,q,hp,ha,_,h,hq,he=>⟨hp,Nat.le_refl _,Nat.le_refl _,h,hq,he⟩
 |f+1,p,a,q,hp,ha,hf,h,hq,he=>by
  have hz:=hp.size;refine⟨hp.lt hn _,hp.lt hn _,?_⟩;by_cases c:rk ρ p a<rk ρ p (a-1)
  .have e:bk ρ (p.getD a 0) (p.getD (a-1) 0)=true:=decide_eq_true c
   have key:∀q':Array Nat,ji n q'->(∀k,rk ρ q' k=rk ρ p k)->Tr (bk ρ) n (kas_desc f q' (a+1) 0) (DsQ ρ n a (f+1)):=λq' hp' hk=>by
    refine Tr.mono (λt ht=>⟨ht.1,by have:=ht.2.1;omega,by have:=ht.2.2.1;omega,ht.2.2.2⟩) (zT f q' (a+1) 0 hp' (by omega) (by omega) (λi j hij hj=>?_) (by omega) λi h1 h2=>by rw[show i=a+1-1 by omega]);rw[hk,hk];by_cases hja:j<a
    .exact h i j hij hja
    .obtain rfl:j=a:=by omega
     by_cases hi:i=j
     .subst hi;exact Int.le_refl _
     .exact Int.le_trans (by omega) (h i (j-1) (by omega) (by omega))
   rw[e];simp only[if_true];by_cases hq0:q>0
   .rw[if_pos hq0]
    exact key _ (hp.of (mirror_perm _ _ _ _)) (jq (by omega) he)
   .rw[if_neg hq0]
    exact key _ hp λ_=>rfl
  .have e:bk ρ (p.getD a 0) (p.getD (a-1) 0)=false:=decide_eq_false c
   rw[e];simp only[Bool.false_eq_true,if_false];refine⟨hp.lt hn _,hp.lt hn _,?_⟩;by_cases c2:rk ρ p (a-1)<rk ρ p a
   .have e:bk ρ (p.getD (a-1) 0) (p.getD a 0)=true:=decide_eq_true c2
    rw[e];exact⟨hp,Nat.le_refl _,by show a<=a+(f+1);omega,h,hq,he⟩
   .have e:bk ρ (p.getD (a-1) 0) (p.getD a 0)=false:=decide_eq_false c2
    have ea:rk ρ p a=rk ρ p (a-1):=by omega
    rw[e];simp only[Bool.false_eq_true,if_false];refine Tr.mono (λt ht=>⟨ht.1,by have:=ht.2.1;omega,by have:=ht.2.2.1;omega,ht.2.2.2⟩) (zT f p (a+1) (q+1) hp (by omega) (by omega) (λi j hij hj=>?_) (by omega) λi h1 h2=>?_)
    .by_cases hja:j<a
     .exact h i j hij hja
     .obtain rfl:j=a:=by omega
      by_cases hi:i=j
      .subst hi;exact Int.le_refl _
      .rw[ea];exact h i (j-1) (by omega) (by omega)
    .rw[show a+1-1=a by omega]
     by_cases hi:i=a
     .rw[hi]
     .rw[ea];exact he i (by omega) (by omega)
def CtQ(ρ:Nat->Int)(n nr:Nat)(t:Nat×Array Nat):Prop:=ji n t.2/\1<=t.1/\t.1<=nr/\Up1 ρ t.2 t.1
theorem FT{p:Array Nat}{a nr:Nat}(hp:ji n p)(ha:1<=a)(har:a<=nr)(hnr:nr<=n)(h:Dn1 ρ p a):Tr (bk ρ) n (kas_tail3 a nr p) (CtQ ρ n nr):=by
 have hz:=hp.size;have hp':ji n (kas_rev p 0 a):=hp.of (mirror_perm _ _ _ _);refine Tr.bind (Tr.mono (λm hm=>?_) (Mf hn hp' (nr-a) a ha λi j hij hj=>?_))
 .exact⟨hp',by show 1<=m;omega,by show m<=nr;omega,hm.2.2⟩
 .rw[Dh (by omega),Dh (by omega),if_pos (by omega),if_pos (by omega)]
  exact h _ _ (by omega) (by omega)
theorem Et{p:Array Nat}{a nr:Nat}(hp:ji n p)(har:a+1<=nr)(hnr:nr<=n)(h:Dn1 ρ p (a+1)):Tr (bk ρ) n (kas_descPart a nr p) (CtQ ρ n nr):=by
 refine Tr.bind (Tr.mono (λt ht=>?_) (zT hn (nr-(a+1)) p (a+1) 0 hp (by omega) (by omega) h (by omega) λi h1 h2=>by rw[show i=a+1-1 by omega]));obtain⟨t1,t2,t3⟩:=t;obtain⟨h1,h2,h3,h4,h5,h6⟩:=ht;have hz:=h1.size;simp only at h1 h2 h3 h4 h5 h6 hz⊢;split
 .refine FT hn (h1.of (mirror_perm _ _ _ _)) (by omega) (by omega) hnr λi j hij hj=>?_
  rw[jq (by omega) h6,jq (by omega) h6];exact h4 i j hij hj
 .exact FT hn h1 (by omega) (by omega) hnr h4
theorem JC{p:Array Nat}{nr:Nat}(hp:ji n p)(h1:1<=nr)(hnr:nr<=n):Tr (bk ρ) n (kas_count nr p) (CtQ ρ n nr):=by
 have hz:=hp.size;have h0:Up1 ρ p 1:=λi j hij hj=>by rw[show i=j by omega];exact Int.le_refl _
 have go:Tr (bk ρ) n (kas_asc p (nr-1) 1) λm=>1<=m/\m<=nr/\Up1 ρ p m/\(m=nr∨rk ρ p m<rk ρ p (m-1)):=by
  have:∀(f a:Nat),1<=a->a+f=nr->Up1 ρ p a->Tr (bk ρ) n (kas_asc p f a) λm=>1<=m/\m<=nr/\Up1 ρ p m/\(m=nr∨rk ρ p m<rk ρ p (m-1)):=by
   intro f
   induction f with
   |zero=>intro a ha hf h;exact⟨ha,by omega,h,.inl (by omega)⟩
   |succ f ih=>
    intro a ha hf h;refine⟨hp.lt hn _,hp.lt hn _,?_⟩;by_cases c:rk ρ p a<rk ρ p (a-1)
    .have e:bk ρ (p.getD a 0) (p.getD (a-1) 0)=true:=decide_eq_true c
     rw[e];exact⟨ha,by omega,h,.inr c⟩
    .have e:bk ρ (p.getD a 0) (p.getD (a-1) 0)=false:=decide_eq_false c
     rw[e];refine ih (a+1) (by omega) (by omega) λi j hij hj=>?_;by_cases hja:j<a
     .exact h i j hij hja
     .obtain rfl:j=a:=by omega
      by_cases hi:i=j
      .subst hi;exact Int.le_refl _
      .exact Int.le_trans (h i (j-1) (by omega) (by omega)) (by omega)
  exact this (nr-1) 1 (Nat.le_refl _) (by omega) h0
 refine Tr.bind (Tr.mono (λm hm=>?_) go);obtain⟨m1,m2,m3,m4⟩:=hm;by_cases hmn:m=nr
 .rw[if_pos (by simpa using hmn)]
  exact⟨hp,m1,m2,m3⟩
 .rw[if_neg (by simpa using hmn)]
  have hlt:=m4.resolve_left hmn;by_cases hgt:m>1
  .rw[if_pos hgt]
   refine⟨hp.lt hn _,hp.lt hn _,?_⟩;by_cases c:rk ρ p 0<rk ρ p (m-1)
   .have e:bk ρ (p.getD 0 0) (p.getD (m-1) 0)=true:=decide_eq_true c
    rw[e];exact⟨hp,m1,m2,m3⟩
   .have e:bk ρ (p.getD 0 0) (p.getD (m-1) 0)=false:=decide_eq_false c
    rw[e];simp only[Bool.false_eq_true,if_false];have hall:∀k,0<=k->k<m->rk ρ p k=rk ρ p (m-1):=λk _ hk=>by
     have a1:=m3 0 k (by omega) hk;have a2:=m3 k (m-1) (by omega) (by omega);omega
    refine Et hn (hp.of (mirror_perm _ _ _ _)) (by omega) hnr λi j hij hj=>?_;rw[jq (by omega) hall,jq (by omega) hall];by_cases hjm:j<m
    .rw[hall i (by omega) (by omega),hall j (by omega) hjm];exact Int.le_refl _
    .obtain rfl:j=m:=by omega
     by_cases hi:i=j
     .subst hi;exact Int.le_refl _
     .rw[hall i (by omega) (by omega)];omega
  .rw[if_neg hgt]
   obtain rfl:m=1:=by omega
   refine Et hn hp (by omega) hnr λi j hij hj=>?_;by_cases hi:i=j
   .subst hi;exact Int.le_refl _
   .obtain rfl:i=0:=by omega
    obtain rfl:j=1:=by omega
    exact Int.le_of_lt hlt
theorem w5{p:Array Nat}{k:Nat}(hp:ji n p)(h:Up1 ρ p k):∀(f l r:Nat),l<=r->r<=k->r-l<=f->(∀i,i<l->rk ρ p i<=rk ρ p k)->(∀i,r<=i->i<k->rk ρ p k<rk ρ p i)->
  Tr (bk ρ) n (kas_place p k f l r) λm=>m<=k/\(∀i,i<m->rk ρ p i<=rk ρ p k)/\∀i,m<=i->i<k->rk ρ p k<rk ρ p i
 |0,l,r,hlr,hrk,hf,h1,h2=>⟨by omega,h1,λi hi hk=>h2 i (by omega) hk⟩
 |f+1,l,r,hlr,hrk,hf,h1,h2=>by
  unfold kas_place;by_cases hge:l>=r
  .rw[if_pos hge]
   exact⟨by omega,h1,λi hi hk=>h2 i (by omega) hk⟩
  .rw[if_neg hge]
   refine⟨hp.lt hn _,hp.lt hn _,?_⟩;by_cases c:rk ρ p k<rk ρ p ((l+r) / 2)
   .have e:bk ρ (p.getD k 0) (p.getD ((l+r) / 2) 0)=true:=decide_eq_true c
    rw[e];exact w5 hp h f l _ (by omega) (by omega) (by omega) h1 λi hi hk=>Int.lt_of_lt_of_le c (h _ i hi hk)
   .have e:bk ρ (p.getD k 0) (p.getD ((l+r) / 2) 0)=false:=decide_eq_false c
    rw[e];exact w5 hp h f _ r (by omega) hrk (by omega) (λi hi=>Int.le_trans (h i ((l+r) / 2) (by omega) (by omega)) (by omega)) h2
theorem Ih:∀(f:Nat)(p:Array Nat)(k:Nat),ji n p->k+f<=n->Up1 ρ p k->Tr (bk ρ) n (kas_bin f p k) λq=>ji n q/\Up1 ρ q (k+f)
 |0,p,k,hp,_,h=>⟨hp,h⟩
 |f+1,p,k,hp,hf,h=>by
  have hz:=hp.size;refine Tr.bind (Tr.mono (λl hl=>?_) (w5 hn hp h k 0 k (by omega) (by omega) (by omega) (λi hi=>by omega) λi h1 h2=>by omega));obtain⟨l1,l2,l3⟩:=hl;have hb:∀i,rk ρ (bubble p k (k-l)) i=if i=l then rk ρ p k else if l<i/\i<=k then rk ρ p (i-1)else rk ρ p i:=λi=>by
   have e:=getElem?_bubble (xs:=p) (src:=k) (by omega) (k-l) (by omega) i;rw[show k-(k-l)=l by omega]at e;split
   .rename_i hi;rw[if_pos hi]at e;exact By e
   .rename_i hi
    rw[if_neg hi]at e;split
    .rename_i hi2;rw[if_pos hi2]at e;exact By e
    .rename_i hi2;rw[if_neg hi2]at e;exact By e
  refine Tr.mono (λq hq=>⟨hq.1,by rw[show k+(f+1)=k+1+f by omega];exact hq.2⟩) (Ih f (bubble p k (k-l)) (k+1) (hp.of (bubble_perm _ _ _)) (by omega) λi j hij hj=>?_);rw[hb,hb]
  repeat' split
  all_goals first
   |exact Int.le_refl _
   |(exfalso;omega)
   |exact Int.le_of_lt (l3 _ (by omega) (by omega))
   |exact l2 _ (by omega)
   |exact h _ _ (by omega) (by omega)
theorem Nf:Tr (bk ρ) n (kas_sort n) λp=>ji n p/\Up1 ρ p n:=by
 have hp:ji n (List.toArray (List.range n)):=by unfold ji;exact List.Perm.refl _
 refine Tr.bind (Tr.mono (λt ht=>?_) (JC hn hp (by omega) (Nat.le_refl n)));obtain⟨h1,h2,h3,h4⟩:=ht;split
 .refine Tr.mono (λq hq=>⟨hq.1,?_⟩) (Ih hn (n-max t.1 1) t.2 (max t.1 1) h1 (by omega) (by rw[show max t.1 1=t.1 by omega];exact h4))
  have:=hq.2;rwa[show max t.1 1+(n-max t.1 1)=n by omega]at this
 .rename_i hlt
  exact⟨h1,by rw[show t.1=n by omega]at h4;exact h4⟩
end
open PySem PySem.W PyProof.Rows PySem.SeqAt
theorem kJ:plainId "list.__eq__.loop"=true:=by decide +kernel
theorem um:entryFor table "list.__eq__.loop"=some Builtin.«list.__eq__.loop»:=entryFor_of_fast (by kernel_rfl)
def ltS:List Str->List Str->Bool
 |[],[]=>false
 |[],_::_=>true
 |_::_,[]=>false
 |a::r,b::q=>if a=b then ltS r q else decide (a.cps.toList<b.cps.toList)
def StA(its:Array Value)(xs:List Str):Prop:=∀i:Nat,its[i]? =none/\xs[i]? =none∨∃x t,its[i]? =some (.str x t)/\xs[i]? =some x
theorem H_{xs ys:List Str}{i:Nat}:ltS (xs.drop i) (ys.drop i)=match xs[i]?,ys[i]? with
  |none,none=>false
  |none,some _=>true
  |some _,none=>false
  |some a,some b=>if a=b then ltS (xs.drop (i+1)) (ys.drop (i+1))else decide (a.cps.toList<b.cps.toList):=by
 have d:∀zs:List Str,zs.drop i=match zs[i]? with|none=>[]|some a=>a::zs.drop (i+1):=λzs=>by
  by_cases h:i<zs.length
  .rw[List.drop_eq_getElem_cons h,List.getElem?_eq_getElem h]
  .rw[List.drop_eq_nil_of_le (by omega),List.getElem?_eq_none (by omega)]
 rw[d xs,d ys];cases xs[i]?<;>cases ys[i]?<;>rfl
theorem LR(l b:Addr)(its jts:Array Value)(n n2:Nat)(dd dd2:Option Addr)(sl sl2:Array (Option Value))(xs ys:List Str)(h1:StA its xs)(h2:StA jts ys)(hx:its.size=xs.length)(hy:jts.size=ys.length)(k:Nat) :
  ∀i:Nat,xs.length-i=k->Meets (Builtin.«list.__eq__.loop» ⟨[.ref l,.ref b,rawInt i,rawInt 0],[]⟩)
   (λA R s=>s.heap.get? l=some {cls:=.type "list",dict:=dd,data:=.seq its n,slots:=sl}/\s.heap.get? b=some {cls:=.type "list",dict:=dd2,data:=.seq jts n2,slots:=sl2}/\(i<=xs.length/\i<=ys.length)/\
    R (.ok (.ret (.bool (ltS (xs.drop i) (ys.drop i))))) s):=by
 induction k with
 |zero=>
  intro i hk prog w A R s h;obtain⟨hp,g,d,tk,os⟩:=s;obtain⟨hl,hb,hi,h⟩:=h
  wp_walk using wpAny_loadPart' hl,wpAny_loadPart' hb
  have e1:xs[i]? =none:=by simp;omega
  have e2:its[((i:Nat):Int).toNat]? =none:=by simp;omega
  rw[H_,e1]at h;rw[e2]
  wp_walk using wpAny_loadPart' hl,wpAny_loadPart' hb
  show R (.ok (.ret (.bool (decide (its.size<jts.size))))) _;rw[hx,hy];cases e3:ys[i]? with
  |none=>
   rw[e3]at h;have:ys.length<=i:=by simpa using e3
   rw[show decide (xs.length<ys.length)=false by simp;omega];exact h
  |some y=>
   rw[e3]at h;have:=(List.getElem?_eq_some_iff.mp e3).1;rw[show decide (xs.length<ys.length)=true by simp;omega];exact h
 |succ k ih=>
  intro i hk prog w A R s h;obtain⟨hp,g,d,tk,os⟩:=s;obtain⟨hl,hb,hi,h⟩:=h
  wp_walk using wpAny_loadPart' hl,wpAny_loadPart' hb
  have hlt:i<xs.length:=by omega
  obtain⟨z,_⟩|⟨x,t,e1,e2⟩:=h1 i
  .simp at z;omega
  rw[H_,e2]at h;have f1:its[((i:Nat):Int).toNat]? =some (.str x t):=by simpa using e1
  obtain⟨e3,e4⟩|⟨y,u,e3,e4⟩:=h2 i
  .have f2:jts[((i:Nat):Int).toNat]? =none:=by simpa using e3
   rw[e4]at h;rw[f1,f2]
   wp_walk using wpAny_loadPart' hl,wpAny_loadPart' hb
   show R (.ok (.ret (.bool (decide (its.size<jts.size))))) _;have:ys.length<=i:=by simpa using e4
   rw[show decide (its.size<jts.size)=false by simp;omega];exact h
  .have f2:jts[((i:Nat):Int).toNat]? =some (.str y u):=by simpa using e3
   have hc:((i:Int)+1)=((i+1:Nat):Int):=by push_cast;rfl
   have hy2:=(List.getElem?_eq_some_iff.mp e4).1;rw[e4]at h;rw[f1,f2];refine wpAny_bind (wpAny_eqBool_str ?_);by_cases hxy:x=y
   .simp only[hxy,if_true]at h
    rw[show decide (x=y)=true from decide_eq_true hxy]
    wp_walk
    rw[hc];exact⟨plainId_quiet kJ _,codeAny_builtin um (by
     rw[Around.under_plainId kJ _];exact ih (i+1) (by omega) prog w A R _ ⟨hl,hb,⟨by omega,by omega⟩,h⟩)⟩
   .simp only[if_neg hxy]at h
    rw[show decide (x=y)=false from decide_eq_false hxy]
    wp_walk using wpAny_loadPart' hl,wpAny_loadPart' hb
    rw[f1,f2];refine wpAny_bind (lt_str ?_);exact wpAny_pure h
theorem I_(l b:Addr)(its jts:Array Value)(n n2:Nat)(dd dd2:Option Addr)(sl sl2:Array (Option Value))(xs ys:List Str)(h1:StA its xs)(h2:StA jts ys)(hx:its.size=xs.length)(hy:jts.size=ys.length) :
  Meets (Builtin.«list.__lt__» ⟨[.ref l,.ref b],[]⟩)
   (λA R s=>s.heap.get? l=some {cls:=.type "list",dict:=dd,data:=.seq its n,slots:=sl}/\s.heap.get? b=some {cls:=.type "list",dict:=dd2,data:=.seq jts n2,slots:=sl2}/\R (.ok (.ret (.bool (ltS xs ys)))) s):=by
 intro prog w A R s h;obtain⟨hp,g,d,tk,os⟩:=s;obtain⟨hl,hb,h⟩:=h;have f3:=AutoSeq1.sub_list_list
 wp_walk using wpAny_loadPart' hl,wpAny_loadPart' hb
 exact⟨plainId_quiet kJ _,codeAny_builtin um (by
  rw[Around.under_plainId kJ _];exact LR l b its jts n n2 dd dd2 sl sl2 xs ys h1 h2 hx hy _ 0 rfl prog w A R _ ⟨hl,hb,⟨Nat.zero_le _,Nat.zero_le _⟩,by simpa using h⟩)⟩
section
variable{prog:Program}{w:World}{A:Around}{E:Value->Shared->Prop}{s:Shared}
theorem El{l b:Addr}{its jts:Array Value}{xs ys:List Str}{Q:Bool->Shared->Prop}(hl:s.heap.IsList l its)(hb:s.heap.IsList b jts)(h1:StA its xs)(h2:StA jts ys)(hx:its.size=xs.length)(hy:jts.size=ys.length)(hu:A.units<cLine)
  (h:Q (ltS xs ys) s):wpAny (model prog w) A (oneLt' true (.ref l) (.ref b)) Q E s:=by
 obtain⟨⟨cls,dd,data,sl⟩,ho,hc,n,hd⟩:=id hl;obtain⟨⟨cls2,dd2,data2,sl2⟩,ho2,hc2,n2,hd2⟩:=id hb;simp only at hc hd hc2 hd2;subst hc hd hc2 hd2;rw[oneLt'_eq];simp only[if_true];refine wpAny_bind (wpAny_cRoomFor hu ?_);refine wpAny_bind (wpAny_callSpecialIfBound?_slot (T:="list") ⟨_,ho,rfl⟩ F.slot_list_lt (call_meets F.slot_list_lt ⟨_,ho,rfl⟩ F.entry_list_lt (F.args_list_lt_2 _ _) (I_ l b its jts n n2 dd dd2 sl sl2 xs ys h1 h2 hx hy) ⟨ho,ho2,?_⟩));exact wpAny_truthy_bool h
end
section
variable{prog:Program}{w:World}{A:Around}{E:Value->Shared->Prop}{s:Shared}
theorem ul{l:Addr}{vs:List Value}{ρ:Nat->Int}{T:Value}{Q:Value->Shared->Prop}(hl:s.heap.IsList l vs.toArray)(h64:vs.length<64)
  (hk:∀h':Heap,(∀b o,s.heap.get? b=some o->h'.get? b=some o)->∀v∈vs,Looks (model prog w) h' (typeOf v) T) (hT1:(T !=Value.type "tuple")=true) (hT2:(T==T)=true)
  (hlt:∀h':Heap,(∀b o,s.heap.get? b=some o->h'.get? b=some o)->∀i j,i<vs.length->j<vs.length->∀Q':Bool->Shared->Prop,Q' (decide (ρ i<ρ j)) {s with heap:=h'}->wpAny (model prog w) A.in1.in1 (oneLt' true (vs.getD i Value.none) (vs.getD j Value.none)) Q' (λ_ _=>False) {s with heap:=h'})
  (h:∀p:Array Nat,ji vs.length p->Up1 ρ p vs.length->Q (.ref (s.heap.objs.size+1)) {s with heap:=sortedAll s.heap vs (List.toArray (p.toList.map λi=>vs.getD i Value.none))}) :
  wpAny (model prog w) A (call (.builtin "sorted") [.ref l]) Q E s:=by
 have hz0:vs.length<=sizeLine:=by rw[sizeLine_eq];omega
 refine Calls.call_function_entry kind_sorted plain_sorted entry_sorted (args_sorted1 _) ?_;unfold Builtin.«sorted»;refine wpAny_bind (m:=checkCount "sorted" 1 1 _) (wpAny_pure ?_);refine wpAny_bind (collect_list hl ?_ hz0);refine wpAny_bind (wpAny_newList ?_ (by rw[sizeLine_eq];omega))
 let G1:Heap:=(s.heap.push (seqObj "list" #[] 0)).update s.heap.objs.size (Obj.mapSeq (·++vs.toArray))
 have z1:G1.objs.size=s.heap.objs.size+1:=by rw[Heap.size_update,size_push']
 let a:=s.heap.objs.size+1
 let G2:Heap:=G1.push (seqObj "list" vs.toArray 0)
 have z2:G2.objs.size=s.heap.objs.size+2:=by show(G1.push _).objs.size=_;rw[size_push',z1]
 have hoL:G2.get? a=some (seqObj "list" vs.toArray 0):=by
  show(G1.push _).get? (s.heap.objs.size+1)=_;rw[←z1];exact Heap.get?_push_size _ rfl
 show wpAny _ _ _ _ _ {s with heap:=G2};show wpAny _ _ (holding _ _ >>=_) _ _ _;rw[show G1.objs.size=a from z1];refine wpAny_bind (wpAny_holding (wpAny_call_entry slot_list_sort ⟨_,hoL,rfl⟩ entry_list_sort ?_ (args_list_sort _)));have keep2:∀b o,s.heap.get? b=some o->G2.get? b=some o:=λb o q=>by
  have hb:b<s.heap.objs.size:=Heap.lt_size q;show(G1.push _).get? b=_;rw[Heap.get?_push_ne _ _ _ (by rw[z1];exact Nat.ne_of_lt (Nat.lt_succ_of_lt hb)),Heap.get?_update_ne _ _ _ _ (Nat.ne_of_lt hb),Heap.get?_push_ne _ _ _ (Nat.ne_of_lt hb)];exact q
 let G3:Heap:=G2.update a (Obj.mapSeq λ_=>#[])
 obtain⟨e1,ho1⟩:∃e1,G3.get? a=some (seqObj "list" #[] e1):=⟨_,get?_update_seq hoL λ_=>#[]⟩;have z3:G3.objs.size=s.heap.objs.size+2:=by show(G2.update _ _).objs.size=_;rw[Heap.size_update,z2]
 let G5:Heap:=(G3.push (seqObj "tuple" vs.toArray 0)).push (seqObj "list" #[] 0)
 have up5:∀b o,b<s.heap.objs.size+2->G3.get? b=some o->G5.get? b=some o:=λb o hb q=>by
  show((G3.push _).push _).get? b=_;rw[Heap.get?_push_ne _ _ _ (by rw[size_push',z3];exact Nat.ne_of_lt (Nat.lt_succ_of_lt hb)),Heap.get?_push_ne _ _ _ (by rw[z3];exact Nat.ne_of_lt hb)];exact q
 have keep5:∀b o,s.heap.get? b=some o->G5.get? b=some o:=λb o q=>by
  have hb:b<s.heap.objs.size:=Heap.lt_size q;refine up5 b o (Nat.lt_succ_of_lt (Nat.lt_succ_of_lt hb)) ?_;show(G2.update _ _).get? b=_;rw[Heap.get?_update_ne _ _ _ _ (Nat.ne_of_lt (Nat.lt_succ_of_lt hb))];exact keep2 b o q
 have ho5:G5.get? a=some (seqObj "list" #[] e1):=up5 a _ (Nat.lt_succ_self _) ho1;rw[list_sort_plain];refine wpAny_bind (listItems_at hoL rfl ?_);refine wpAny_bind (listUpdate_at hoL rfl ?_ (by rw[List.size_toArray];exact hz0) (Nat.zero_le _));refine wpAny_bind (seqEpoch_at ho1 rfl ?_);refine wpAny_bind (wpAny_newTuple ?_ (by show vs.length<=_;exact hz0));refine wpAny_bind (wpAny_newList ?_ (Nat.zero_le _));refine wpAny_holding ?_;show wpAny (model prog w) A.in1.in1 _ _ _ {s with heap:=G5};dsimp only;have fin:∀(st':SortSt)(p:Array Nat),arrOf st'=p.map (kas_item (vs.toArray.zip vs.toArray))->failedOf st'=none->ji vs.length p->Up1 ρ p vs.length->
   wpAny (model prog w) A.in1.in1 (do
    let sorted:=(arrOf st').map (·.2)
    let touched:=(←seqEpoch a)!=e1
    Builtin.List.listUpdate (.ref a) λ_=>sorted
    if let some e:=failedOf st' then rule "list.sort.comparison-raised";throw e
    if touched then rule "list.sort.modified";raiseError "ValueError" "list modified during sort"
    ret .none) (λfin s'=>∃v,fin= .done (.ret v)/\wpAny (model prog w) A.in1 (ret (.ref a)) (λfin s'=>∃v,fin= .done (.ret v)/\Q v s') E s') E {s with heap:=G5}:=λst' p har hf hp hu=>by
  have hout:=kat_snds (vs:=vs) (ks:=vs) rfl har;dsimp only;refine wpAny_bind (seqEpoch_at ho5 rfl ?_);have hps:p.size=vs.length:=hp.size;refine wpAny_bind (listUpdate_at ho5 rfl ?_ (Nat.zero_le _) (by rw[hout];simp only[List.size_toArray,List.length_map,Array.length_toList];omega));rw[hf];simp only[bne_self_eq_false,Bool.false_eq_true,if_false];refine wpAny_pure ⟨_,rfl,wpAny_pure ⟨_,rfl,?_⟩⟩;rw[hout];exact h p hp hu
 by_cases hn2:vs.toArray.size<2
 .rw[if_pos hn2,if_pos hn2]
  rw[List.size_toArray]at hn2;refine wpAny_bind (wpAny_pure ?_);rw[StateT.run_pure];refine wpAny_bind (wpAny_pure ?_);refine fin _ (List.toArray (List.range vs.length)) ?_ rfl (List.Perm.refl _) (λi j hij hj=>by rw[show i=j by omega];exact Int.le_refl _);have e:=kas_range (vs.toArray.zip vs.toArray);rw[show(vs.toArray.zip vs.toArray).size=vs.length by simp]at e;exact e.symm
 .rw[if_neg hn2,if_neg hn2]
  rw[List.size_toArray]at hn2;refine wpAny_bind (kas_kind (by omega) (hk G5 keep5) hT1 hT2 ?_);have ask:(kas_sort vs.length).kasWp (kas_ask prog w A.in1.in1 oneType' vs) (λp s'=>s'={s with heap:=G5}/\ji vs.length p/\Up1 ρ p vs.length) {s with heap:=G5}:=
   Tr.wp (λi j C hi hj hC=>hlt G5 keep5 i j hi hj C hC) (Nf (ρ:=ρ) (by omega))
  refine wpAny_bind (wpAny_mono (kat_run (Q:=λst' s'=>∃p:Array Nat,arrOf st'=p.map (kas_item (vs.toArray.zip vs.toArray))/\failedOf st'=none/\s'={s with heap:=G5}/\ji vs.length p/\Up1 ρ p vs.length) (E:=E)
   rfl (by omega) h64 (λp' st' s' a1 a2 a3 a4=>⟨p',a2,a3,a4⟩) ask) ?_ λ_ _ e=>e)
  rintro⟨⟨⟩,st'⟩ s' ⟨p,har,hf,rfl,hp,hu⟩;exact fin st' p har hf hp hu
end
theorem PP{a b:Str}(h1:¬a.cps.toList<b.cps.toList)(h2:¬b.cps.toList<a.cps.toList):a=b:=by
 have:=strKind.total a.cps.toList b.cps.toList (by simpa using h1) (by simpa using h2);cases a;cases b;congr;exact Array.toList_inj.mp this
theorem Fw(a:Str):¬a.cps.toList<a.cps.toList:=List.lt_irrefl _
theorem qb:∀a:List Str,ltS a a=false
 |[]=>rfl
 |x::r=>by simp[ltS,qb r]
theorem t_:∀a b:List Str,ltS a b=false->ltS b a=false->a=b
 |[],[],_,_=>rfl
 |[],_::_,h,_=>by simp[ltS]at h
 |_::_,[],_,h=>by simp[ltS]at h
 |x::r,y::q,h1,h2=>by
  by_cases e:x=y
  .subst e
   simp only[ltS,if_true]at h1 h2;rw[t_ r q h1 h2]
  .simp only[ltS,if_neg e,if_neg (Ne.symm e),decide_eq_false_iff_not]at h1 h2
   exact absurd (PP h1 h2) e
theorem o8:∀a b c:List Str,ltS a b=true->ltS b c=true->ltS a c=true
 |[],[],_,h,_=>by simp[ltS]at h
 |_::_,[],_,h,_=>by simp[ltS]at h
 |[],_::_,[],_,h=>by simp[ltS]at h
 |[],_::_,_::_,_,_=>rfl
 |_::_,_::_,[],_,h=>by simp[ltS]at h
 |x::r,y::q,z::p,h1,h2=>by
  by_cases e:x=y
  .subst e
   simp only[ltS,if_true]at h1;by_cases e2:x=z
   .subst e2
    simp only[ltS,if_true]at h2⊢;exact o8 r q p h1 h2
   .simp only[ltS,if_neg e2]at h2⊢
    exact h2
  .simp only[ltS,if_neg e,decide_eq_true_eq]at h1
   by_cases e2:y=z
   .subst e2
    simp only[ltS,if_neg e,decide_eq_true_eq];exact h1
   .simp only[ltS,if_neg e2,decide_eq_true_eq]at h2
    have h3:=List.lt_trans h1 h2;have e3:x≠z:=λz'=>by subst z';exact Fw _ h3
    simp only[ltS,if_neg e3,decide_eq_true_eq];exact h3
theorem Gy{a b c:List Str}(h:ltS a c=true)(h2:ltS b c=false):ltS a b=true:=by
 cases e:ltS a b with
 |true=>rfl
 |false=>
  cases e2:ltS b a with
  |true=>rw[o8 b a c e2 h]at h2;cases h2
  |false=>rw[t_ a b e e2,h2]at h;cases h
def below(ks:List (List Str))(a:List Str):Nat:=ks.countP λy=>ltS y a
theorem t6{α:Type}{p q:α->Bool}:∀{l:List α},(∀x∈l,p x=true->q x=true)->l.countP p<=l.countP q
 |[],_=>by simp
 |x::r,h=>by
  have ih:=t6 (l:=r) λy hy=>h y (by simp[hy]);rw[List.countP_cons,List.countP_cons];cases e:p x with
  |false=>simp;omega
  |true=>simp[h x (by simp) e,ih]
theorem yJ{α:Type}{p q:α->Bool}{z:α}:∀{l:List α},(∀x∈l,p x=true->q x=true)->z∈l->q z=true->p z=false->l.countP p<l.countP q
 |[],_,h,_,_=>by cases h
 |x::r,h,hz,hq,hp=>by
  rw[List.countP_cons,List.countP_cons];have hle:=t6 (l:=r) λy hy=>h y (by simp[hy]);rcases List.mem_cons.mp hz with rfl|hz
  .simp[hq,hp];omega
  .have ih:=yJ (l:=r) (λy hy=>h y (by simp[hy])) hz hq hp
   cases e:p x with
   |false=>simp;omega
   |true=>simp[h x (by simp) e];omega
theorem ww{ks:List (List Str)}{a b:List Str}(ha:a∈ks):ltS a b=decide ((below ks a:Int)<below ks b):=by
 cases e:ltS a b with
 |true=>
  have:=yJ (l:=ks) (p:=λy=>ltS y a) (q:=λy=>ltS y b) (λy _ hy=>o8 y a b hy e) ha e (qb a);exact(decide_eq_true (by unfold below;omega)).symm
 |false=>
  have:=t6 (l:=ks) (p:=λy=>ltS y b) (q:=λy=>ltS y a) λy _ hy=>Gy hy e;exact(decide_eq_false (by unfold below;omega)).symm
def RT(K:PySem.W.Frag)(H:Hp)(ys:List V)(ks:List (List Str)):Prop:=ks.length=ys.length/\((∀(i:Nat)(k:List Str),ks[i]? =some k->∃x,k=[x]/\ys[i]? =some (.str x))∨∀(i:Nat)(k:List Str),ks[i]? =some k->∃b,ys[i]? =some (.ref b)/\SqL K H b (k.map V.str))
def Iz(K:PySem.W.Frag)(A:Around):List V->Hp->VK->Prop:=λxs H Q=>∃a ys ks,xs=[.ref a]/\SqL K H a ys/\ys.length<64/\A.units+2<cLine/\RT K H ys ks/\
 ∀p:List Nat,List.Perm p (List.range ys.length)->List.Pairwise (λi j=>ltS (ks.getD j []) (ks.getD i [])=false) p->∀l,H l=none->Q (.ref l) (upd H l (.lst (p.map λi=>ys.getD i .non)))
theorem Ab{ys:List V}{us:List Value}(r:Vals ys us)(i:Nat):(ys[i]? =none/\us[i]? =none)∨∃y u,ys[i]? =some y/\us[i]? =some u/\RelV y u:=by
 cases e:ys[i]? with
 |none=>
  have:=r.length;exact .inl ⟨rfl,by rw[List.getElem?_eq_none_iff]at e⊢;omega⟩
 |some y=>
  obtain⟨u,h1,h2⟩:=r.get e;exact .inr ⟨y,u,rfl,h1,h2⟩
theorem Ko{xs:List Str}{us:List Value}(r:Vals (xs.map V.str) us):StA us.toArray xs:=λi=>by
 rcases Ab r i with⟨h1,h2⟩|⟨y,u,h1,h2,h3⟩
 .exact .inl ⟨by simpa using h2,by simpa using h1⟩
 .rw[List.getElem?_map]at h1
  cases e:xs[i]? with
  |none=>rw[e]at h1;cases h1
  |some x=>
   rw[e]at h1;cases h1;obtain⟨t,rfl⟩:=h3;exact .inr ⟨x,t,by simpa using h2,rfl⟩
theorem wY{ys:List V}{us:List Value}(r:Vals ys us):∀p:List Nat,(∀i∈p,i<ys.length)->Vals (p.map λi=>ys.getD i .non) (p.map λi=>us.getD i Value.none)
 |[],_=>.nil
 |i::p,h=>by
  refine .cons ?_ (wY r p λj hj=>h j (by simp[hj]));rcases Ab r i with⟨h1,h2⟩|⟨y,u,h1,h2,h3⟩
  .have:=h i (by simp)
   rw[List.getElem?_eq_none_iff]at h1;omega
  .show RelV (ys.getD i .non) (us.getD i Value.none)
   rw[List.getD_eq_getElem?_getD,List.getD_eq_getElem?_getD,h1,h2];exact h3
section
variable{X:Cx}
theorem zO:fD X (.builtin "sorted") (Iz X.K X.A):=by
 intro pins s σ H xs us Q I r h;obtain⟨a,ys,ks,rfl,hq,hl,hu,⟨hkl,hks⟩,q⟩:=h;obtain⟨u,rfl,ru⟩:=vals1 r;cases ru;obtain⟨its,rv,pl,hz⟩:=I.list hq;have hlen:=rv.length;have hz2:64<=sizeLine:=by decide
 have kin:∀i,i<its.length->∃k,ks[i]? =some k/\ks.getD i []=k/\k∈ks:=λi hi=>by
  have:i<ks.length:=by omega
  exact⟨ks[i],by simp[this],by simp[this],List.getElem_mem _⟩
 have fin:∀p:Array Nat,ji its.length p->Up1 (λi=>(below ks (ks.getD i []):Int)) p its.length->∃v H',Inv X pins σ H' {s with heap:=sortedAll s.heap its (List.toArray (p.toList.map λi=>its.getD i Value.none))}/\RelV v (.ref (s.heap.objs.size+1))/\Q v H':=λp hp hu1=>by
  have hps:=hp.size;have hpl:∀i∈p.toList,i<ys.length:=λi hi=>by rw[hlen];exact List.mem_range.mp (List.Perm.mem_iff hp |>.mp hi)
  obtain⟨c,ec⟩:=sortedAll_at s.heap its (List.toArray (p.toList.map λi=>its.getD i Value.none));refine⟨.ref (s.heap.objs.size+1),upd H (s.heap.objs.size+1) (.lst (p.toList.map λi=>ys.getD i .non)),I.laid (t':=s.toks) (λb o e=>sortedAll_old e) (Nat.le_succ _) ?_,rfl,q p.toList (by rw[hlen];exact hp) ?_ _ (I.hok.fresh (Nat.le_succ _))⟩
  .refine⟨by rw[List.length_map];simp only[Array.length_toList];omega,p.toList.map λi=>its.getD i Value.none,c,wY rv _ hpl,?_⟩
   rw[ec]
  .rw[List.pairwise_iff_getElem]
   intro i j hi hj hij;have hj':j<p.size:=by simpa using hj
   have hi':i<p.size:=by simpa using hi
   have:=hu1 i j (by omega) (by omega);unfold rk at this;rw[Array.getD_eq_getD_getElem?,Array.getD_eq_getD_getElem?,getElem?_pos p i hi',getElem?_pos p j hj',Option.getD_some,Option.getD_some]at this;obtain⟨k,_,e2,e3⟩:=kin p[j] (by rw[←hlen];exact hpl _ (by simp));rw[Array.getElem_toList,Array.getElem_toList,ww (by rw[e2];exact e3)];exact decide_eq_false (by simp only at this;omega)
 rcases hks with hks|hks
 .refine ul (T:=.type "str") (ρ:=λi=>(below ks (ks.getD i []):Int)) pl.isList (by omega) (λh' ext v hv=>?_) rfl rfl (λh' ext i j hi hj Q' hQ'=>?_) λp hp hu1=>fin p hp hu1
  .obtain⟨i,hi,rfl⟩:=List.getElem_of_mem hv
   obtain⟨k,e1,_,_⟩:=kin i hi;obtain⟨x,_,e3⟩:=hks i k e1;obtain⟨u,h1,h2⟩:=rv.get e3;rw[List.getElem?_eq_getElem hi]at h1;cases h1;obtain⟨t,e⟩:=h2;rw[e];exact PySem.W.Looks.of_pure rfl
  .obtain⟨k1,e1,g1,m1⟩:=kin i hi
   obtain⟨k2,e2,g2,m2⟩:=kin j hj;obtain⟨x,rfl,x3⟩:=hks i k1 e1;obtain⟨y,rfl,y3⟩:=hks j k2 e2;obtain⟨u1,a1,t1,rfl⟩:=rv.get x3;obtain⟨u2,a2,t2,rfl⟩:=rv.get y3;rw[List.getD_eq_getElem?_getD,List.getD_eq_getElem?_getD,a1,a2];refine oneLt_str ?_;rw[g1,g2,←ww m1]at hQ';have e:ltS [x] [y]=decide (x.cps.toList<y.cps.toList):=by
    by_cases z:x=y
    .subst z;simp[ltS,Fw]
    .simp[ltS,z]
   rwa[e]at hQ'
 .refine ul (T:=.type "list") (ρ:=λi=>(below ks (ks.getD i []):Int)) pl.isList (by omega) (λh' ext v hv=>?_) rfl rfl (λh' ext i j hi hj Q' hQ'=>?_) λp hp hu1=>fin p hp hu1
  .obtain⟨i,hi,rfl⟩:=List.getElem_of_mem hv
   obtain⟨k,e1,_,_⟩:=kin i hi;obtain⟨b,e3,hb⟩:=hks i k e1;obtain⟨u,h1,h2⟩:=rv.get e3;rw[List.getElem?_eq_getElem hi]at h1;cases h1;obtain⟨jts,_,pb,_⟩:=I.list hb;obtain⟨o,ho,hc,_⟩:=pb.isList;rw[show its[i]=Value.ref b from h2,←hc];exact(PySem.W.Looks.ld (ext _ _ ho)).andThen .now
  .obtain⟨k1,e1,g1,m1⟩:=kin i hi
   obtain⟨k2,e2,g2,m2⟩:=kin j hj;obtain⟨b1,x3,x4⟩:=hks i k1 e1;obtain⟨b2,y3,y4⟩:=hks j k2 e2;obtain⟨u1,a1,t1⟩:=rv.get x3;obtain⟨u2,a2,t2⟩:=rv.get y3;obtain⟨jt1,r1,p1,_⟩:=I.list x4;obtain⟨jt2,r2,p2,_⟩:=I.list y4;rw[List.getD_eq_getElem?_getD,List.getD_eq_getElem?_getD,a1,a2];rw[show u1=Value.ref b1 from t1,show u2=Value.ref b2 from t2];have x1:Heap.IsList h' b1 jt1.toArray:=by obtain⟨o,ho,z⟩:=p1.isList;exact⟨o,ext _ _ ho,z⟩
   have x2:Heap.IsList h' b2 jt2.toArray:=by obtain⟨o,ho,z⟩:=p2.isList;exact⟨o,ext _ _ ho,z⟩
   have l1:=r1.length;have l2:=r2.length;rw[List.length_map]at l1 l2;refine El (xs:=k1) (ys:=k2) x1 x2 (Ko r1) (Ko r2) (by rw[List.size_toArray];omega) (by rw[List.size_toArray];omega) (by show X.A.units+1+1<cLine;omega) ?_;rw[g1,g2,←ww m1]at hQ';exact hQ'
end
section
variable{ι:Type}{X:ι->Cx}{G:Gc}{ob own:Nat->Bool}
structure KY{ι:Type}(X:ι->Cx)(G:Gc)(ob:Nat->Bool)(ifs:List Expr)(f:En->Option (Bool×En)):Prop where
 mk::(ex:∃t,(∀c,PTs (X c) ifs t)/\pM G ob t f)
theorem Hh{c:Expr}{f:En->Option (Bool×En)}(h:vh X G ob c f):KY X G ob [c] f:=let⟨t,a1,a2⟩:=h.ex;⟨t,λc=>FW (a1 c),a2⟩
def mZ(cap:List (Option Nat))(tg:D->En->Option En)(c:En->Option (Bool×En))(e:En->Option (D×En)):List D->En->Option (List D×En)
 |[],ρ=>some ([],ρ)
 |d::r,ρ=>(tg d (lM cap ρ)).bind λρ1=>(c ρ1).bind λb=>if b.1=true then(e b.2).bind λp=>if clean p.1=true then(mZ cap tg c e r (fQ cap p.2 ρ)).map λt=>(p.1::t.1,t.2)else none else mZ cap tg c e r (fQ cap b.2 ρ)
def pB(cap:List (Option Nat))(it:En->Option (Bool×List D))(tg:D->En->Option En)(c:En->Option (Bool×En))(e:En->Option (D×En)):En->Option (D×En):=λρ=>(it ρ).bind λp=>if p.1=true/\p.2.length<=1000000 then(mZ cap tg c e p.2 ρ).map λt=>(.lst .own t.1,t.2)else none
theorem yC{cap:List (Option Nat)}{wi:TI}{g:TG}{tt:TT}{te:TE}{it:En->Option (Bool×List D)}{tg:D->En->Option En}{c:En->Option (Bool×En)}{e:En->Option (D×En)}(hj:lr cap)(hcap:∀i:Nat,own i=true->cap[i]?≠none->cap[i]? =some none)(hi:RfI G ob wi it)(hg:Ov G (obC cap ob) own g tg)(ht:pM G (obC cap ob) tt c)(he:kh G (obC cap ob) te e) :
  kh G ob (BZ cap wi g tt te) (pB cap it tg c e):=λρ d ρ' ee σ H S Fr s Q q=>by
 unfold pB at ee;cases h1:it ρ with
 |none=>simp[h1]at ee
 |some p=>
  obtain⟨b,items⟩:=p;rw[h1]at ee;simp only[Option.bind_some]at ee;split at ee
  .rename_i hlen
   obtain⟨hb,hlen⟩:=hlen;change b=true at hb;change items.length<=1000000 at hlen;subst hb;cases h2:mZ cap tg c e items ρ with
   |none=>simp[h2]at ee
   |some w=>
    obtain⟨tot,ρf⟩:=w;obtain⟨rfl,rfl⟩:D.lst .own tot=d/\ρf=ρ':=by simpa[h2]using ee
    refine hi ρ true items h1 σ H _ s.rel s.wok _ λJ H1 sm wk=>?_;have s1:Sta G H1 ob ρ σ S Fr:=s.grow sm λa z=>.inl z;have e1:Eff ob H H1 S S []:=⟨λb u h _=>sm b u h,λ_ _=>rfl,λi a h z=>.inl ⟨i,h,z⟩,by simp⟩;refine⟨λi m ys H2=>i+m=items.length/\ys.length<=i/\∃ρ2 S2 acc L rest,Sta G H2 ob ρ2 σ S2 (plus L Fr)/\aK G H2 (wn ob S2 (plus L Fr)) acc ys L/\L.Nodup/\aH acc=true/\aJ acc=true/\Eff ob H1 H2 S S2 L/\mZ cap tg c e (items.drop i) ρ2=some (rest,ρf)/\acc++rest=tot,
     ⟨items.length,by omega,by simp,ρ,S,[],[],tot,by rw[gM];exact s1,.nil,List.nodup_nil,rfl,rfl,.refl,h2,rfl⟩,?_⟩
    rintro i m ys H2 ⟨him,hyi,ρ2,S2,acc,L,rest,s2,ra,na,ca1,ca2,ef,hrest,htot⟩;have lt:LtB true H1 (wn ob S Fr) H2 (wn (obC cap ob) (j0 cap S2) (p6 cap S2 (plus L Fr))):=pL ⟨λb u hb f=>let⟨h1,h2⟩:=(ef.evo s1).k b u hb f;⟨h1,vq.mp h2⟩,(ef.evo s1).t⟩;by_cases hil:i<items.length
    .have hdr:=(List.getElem_cons_drop hil).symm
     rw[hdr,mZ]at hrest;refine .inr ⟨wk.go i items[i] (by simp[hil]) H2 _ lt,by have:=six hlen;omega,λys' H'=>(i+1)+(m-1)=items.length/\ys'.length<=i+1/\∃ρ2 S2 acc L rest,Sta G H' ob ρ2 σ S2 (plus L Fr)/\aK G H' (wn ob S2 (plus L Fr)) acc ys' L/\L.Nodup/\aH acc=true/\aJ acc=true/\Eff ob H1 H' S S2 L/\mZ cap tg c e (items.drop (i+1)) ρ2=some (rest,ρf)/\acc++rest=tot,λys' H' h=>⟨m-1,by omega,h⟩,λx H3 hy=>?_⟩;obtain⟨s3,rx⟩:=wk.yld i items[i] (by simp[hil]) H2 _ lt x H3 hy;have st3:Sta G H3 ob ρ2 σ S2 (plus L Fr):=s2.grow s3 λa z=>.inl z;have ef3:Eff ob H1 H3 S S2 L:=ef.same s3 λc hc=>.inl hc;have ra3:aK G H3 (wn ob S2 (plus L Fr)) acc ys L:=ra.up (Up.same s3);have si:=st3.inn (cap:=cap) hj;cases h3:tg items[i] (lM cap ρ2)with
     |none=>simp[h3]at hrest
     |some ρ3=>
      rw[h3]at hrest;simp only[Option.bind_some]at hrest;have hSo:∀k,own k=true->j0 cap S2 k=[]:=λk hk=>by
       unfold j0;split
       .rename_i j e
        rw[hcap k hk (by rw[e];simp)]at e;cases e
       .rfl
      refine hg items[i] _ ρ3 h3 x _ H3 _ (p6 cap S2 (plus L Fr)) si hSo rx _ λσ4 s4 kpo=>⟨De hcap kpo,?_⟩;have hk5:∀i j:Nat,cap[i]? =some (some j)->σ4[i]? =(iT cap σ)[i]?:=λi j hi=>kpo i (by
       cases ho:own i with
       |false=>rfl
       |true=>rw[hcap i ho (by rw[hi];simp)]at hi;cases hi)
      cases h4:c ρ3 with
      |none=>simp[h4]at hrest
      |some w4=>
       obtain⟨bb,ρ4⟩:=w4;rw[h4]at hrest;simp only[Option.bind_some]at hrest;refine ht ρ3 bb ρ4 h4 σ4 H3 _ _ s4 _ λH4 S4 s4' ef4=>?_;cases bb with
       |false=>
        simp only[Bool.false_eq_true,if_false]at hrest;obtain⟨o1,o2,_⟩:=st3.out (M:=[]) hj (λ_ _=>trivial) hk5 (by rw[gM];exact s4') ef4;rw[gM]at o1;have ra5:=ra3.mono (o2.evo st3) (.inl ca1) (.inl ca2) λc hc u hu=>o2.keepsF st3 (.inl hc) u hu;rw[gM]at ra5;exact uZ ⟨by omega,by omega,fQ cap ρ4 ρ2,_,acc,L,rest,o1,ra5,na,ca1,ca2,by have:=ef3.trans o2;rwa[List.append_nil]at this,hrest,htot⟩
       |true=>
        simp only[if_true]at hrest;cases h5:e ρ4 with
        |none=>simp[h5]at hrest
        |some w=>
         obtain⟨y,ρ5⟩:=w;rw[h5]at hrest;simp only[Option.bind_some]at hrest;split at hrest
         .rename_i hcy
          cases h6:mZ cap tg c e (items.drop (i+1)) (fQ cap ρ5 ρ2)with
          |none=>simp[h6]at hrest
          |some w=>
           obtain⟨rest',ρf'⟩:=w;obtain⟨rfl,rfl⟩:y::rest'=rest/\ρf'=ρf:=by simpa[h6]using hrest
           refine pL (he ρ4 y ρ5 h5 σ4 H4 _ _ s4' _ λv H5 M S5 s5 ry ny ef5'=>?_);have ef5:Eff (obC cap ob) H3 H5 (j0 cap S2) S5 M:=by have:=ef4.trans ef5';rwa[List.nil_append]at this
           obtain⟨o1,o2,o3⟩:=st3.out hj (λ_ _=>trivial) hk5 s5 ef5;have hcc:=(by simpa[clean]using hcy:aG y=true/\aD y=true);have ra5:=ra3.mono (o2.evo st3) (.inl ca1) (.inl ca2) λc hc u hu=>o2.keepsF st3 (.inl hc) u hu;rw[jP]at o1 ra5;have ry5:=o3 y v M hcy ry;rw[jP]at ry5;have hLM:∀a∈L,a∉M:=λa z1 z2=>by
            rcases o2.fm a z2 with y|y
            .exact st3.notO (.inl z1) y
            .obtain⟨o,ho,_⟩:=ra3.dom a z1
             rw[y]at ho;cases ho
           exact⟨by omega,by simp;omega,fQ cap ρ5 ρ2,_,acc++[y],L++M,rest',o1,ra5.append (.one ry5),fK na ny hLM,by rw[jl];simp[ca1,aH,hcc],by rw[jf];simp[ca2,aJ,hcc],ef3.trans o2,h6,by rw[←htot];simp⟩
         .cases hrest
    .have hl:i=items.length:=by omega
     subst hl;rw[List.drop_length,mZ]at hrest;obtain⟨rfl,rfl⟩:[]=rest/\ρ2=ρf:=by simpa using hrest
     refine .inl ⟨wk.stop H2 _ lt,Nat.le_of_lt (six (by omega)),λp hp=>?_⟩;have sm2:Same H2 (upd H2 p (.lst ys)):=Same.new hp;rw[List.append_nil]at htot;subst htot;have np:p∉L:=λz=>by obtain⟨o,ho,_⟩:=ra.dom p z;rw[hp]at ho;cases ho
     have hr:Rep G (upd H2 p (.lst ys)) (wn ob S2 (plus (p::L) Fr)) (.lst .own acc) (.ref p) (p::L):=by
      rw[Rep];exact⟨p,ys,L,rfl,ra.up ⟨sm2,λb u hb f=>⟨λz=>z.elim (λz=>(List.mem_cons.mp z).elim (λz=>by rw[z,hp]at hb;cases hb) λz=>f.1 (.inl z)) λz=>f.1 (.inr z),f.2⟩,λ_ _ _ f=>f⟩,bJ,rfl⟩
     refine q (.ref p) _ (p::L) S2 (s2.grow sm2 λa z=>?_) hr (List.nodup_cons.mpr ⟨np,na⟩) ?_
     .rcases z with z|z
      .rcases List.mem_cons.mp z with z|z
       .exact .inr ⟨by rw[z];exact hp,hr.dom a (by simp[z])⟩
       .exact .inl (.inl z)
      .exact .inl (.inr z)
     .exact(e1.trans ef).same sm2 λc hc=>(List.mem_cons.mp hc).elim (λz=>.inr (by rw[z];exact hp)) λz=>.inl (by simpa using z)
  .cases ee
section
variable{elt target iter:Expr}{ifs:List Expr}{scope:Scope}{pos pos' pos2:Pos}{N':List Str}{it:En->Option (Bool×List D)}{tg:D->En->Option En}{fc:En->Option (Bool×En)}
theorem pve_compT(cap:List (Option Nat))(own:Nat->Bool){fe:En->Option (D×En)}(hx:∀c,(X c).xe=NoX)(hc:∀c,(X c).calm=true)(O:∀c,bR (X c).env.scope (X c).N N' scope cap)(hj:lr cap)(hcap:∀i:Nat,own i=true->cap[i]?≠none->cap[i]? =some none)(hi:PVI X G ob target iter it)(hg:M5 (InX X N' scope) G (obC cap ob) own target tg)(ht:KY (InX X N' scope) G (obC cap ob) ifs fc)(he:PVe (InX X N' scope) G (obC cap ob) elt fe)
  (hs:∀c,∀x,foldedSetIterable iter (X c).env x=pure x:=by intro _ _;rfl):PVe X G ob (.ListComp elt [⟨target,iter,ifs,0⟩] scope pos) (pB cap it tg fc fe):=
 let⟨_,i1,i2⟩:=hi.ex;let⟨_,g1,g2⟩:=hg.ex;let⟨_,t1,t2⟩:=ht.ex;let⟨_,e1,e2⟩:=he.ex
 ⟨_,λc=>zF (hx c) (hc c) (O c) (i1 c) (λC s H fp=>g1 (c,C,s,H,fp)) (λC s H fp=>t1 (c,C,s,H,fp)) (λC s H fp=>e1 (c,C,s,H,fp)) (hs c),yC hj hcap i2 g2 t2 e2⟩
variable{P:Nat->Bool}{x:Str}
theorem Hx(i:Nat)(cap:List (Option Nat))(own:Nat->Bool){fe:En->Option (D×En)}(hN:∀c,(X c).N.Nodup)(hx:∀c,(X c).xe=NoX)(hc:∀c,(X c).calm=true)(O:∀c,bR (X c).env.scope (X c).N N' scope cap)(hj:lr cap)(hcap:∀i:Nat,own i=true->cap[i]?≠none->cap[i]? =some none)(hi:PVI X G ob target iter it)(hg:M5 (InX X N' scope) G (obC cap ob) own target tg)(ht:KY (InX X N' scope) G (obC cap ob) ifs fc)(he:PVe (InX X N' scope) G (obC cap ob) elt fe)
  (hP:P i=false:=by rfl) (hNi:∀c,(X c).N[i]? =some x:=by intro _;rfl) (hl:∀c,Loc (X c).env.scope x:=by intro _;first|exact Or.inl rfl|exact Or.inr rfl) (hw:∀c,swapsWith (.ListComp elt [⟨target,iter,ifs,0⟩] scope pos) (some (.Name x pos')) pos2.line (X c).env=pure true:=by intro _;rfl) (hs:∀c,∀x,foldedSetIterable iter (X c).env x=pure x:=by intro _ _;rfl)
  (hf:∀c,(X c).fn x=true∨(X c).env.scope.names.lookup x=some .local:=by intro _;first|exact .inl rfl|exact .inr rfl):PVS X G ob P (.Assign [.Name x pos'] (.ListComp elt [⟨target,iter,ifs,0⟩] scope pos) pos2) (dD (pB cap it tg fc fe) (tgN i)):=
 let⟨_,i1,i2⟩:=hi.ex;let⟨_,g1,g2⟩:=hg.ex;let⟨_,t1,t2⟩:=ht.ex;let⟨_,e1,e2⟩:=he.ex
 ⟨_,λc=>Gs (hx c) (hc c) (hN c) (hNi c) (hl c) (O c) (i1 c) (λC s H fp=>g1 (c,C,s,H,fp)) (λC s H fp=>t1 (c,C,s,H,fp)) (λC s H fp=>e1 (c,C,s,H,fp)) (hw c) (hs c) (hf c),lU (yC hj hcap i2 g2 t2 e2) (j6 hP)⟩
end
end
def inL(k:List Str):List (List Str)->List (List Str)
 |[]=>[k]
 |a::r=>if ltS a k=true then a::inL k r else k::a::r
def CN(l:List (List Str)):List (List Str):=l.foldr inL []
abbrev RiL(l:List (List Str)):Prop:=List.Pairwise (λa b=>ltS b a=false) l
theorem vI(k:List Str):∀l,List.Perm (inL k l) (k::l)
 |[]=>.refl _
 |a::r=>by
  unfold inL;split
  .exact((vI k r).cons a).trans (.swap k a r)
  .exact .refl _
theorem pA:∀l,List.Perm (CN l) l
 |[]=>.refl _
 |a::r=>(vI a _).trans ((pA r).cons a)
theorem Jy{k:List Str}:∀{l},RiL l->RiL (inL k l)
 |[],_=>by simp[inL]
 |a::r,h=>by
  obtain⟨h1,h2⟩:=List.pairwise_cons.mp h;unfold inL;split
  .rename_i c
   refine List.pairwise_cons.mpr ⟨λb hb=>?_,Jy h2⟩;rcases List.mem_cons.mp ((vI k r).mem_iff.mp hb)with rfl|hb
   .cases e:ltS b a with
    |false=>rfl
    |true=>have:=o8 _ _ _ c e;rw[qb]at this;cases this
   .exact h1 b hb
  .rename_i c
   have c:ltS a k=false:=by simpa using c
   refine List.pairwise_cons.mpr ⟨λb hb=>?_,h⟩;rcases List.mem_cons.mp hb with rfl|hb
   .exact c
   .cases e:ltS b k with
    |false=>rfl
    |true=>
     have:=Gy e c;rw[h1 b hb]at this;cases this
theorem Fi:∀l,RiL (CN l)
 |[]=>.nil
 |a::r=>Jy (Fi r)
theorem Gq:∀{l m:List (List Str)},List.Perm l m->RiL l->RiL m->l=m
 |[],m,h,_,_=>h.nil_eq
 |a::r,[],h,_,_=>by have:=h.length_eq;simp at this
 |a::r,b::q,h,h1,h2=>by
  obtain⟨x1,x2⟩:=List.pairwise_cons.mp h1;obtain⟨y1,y2⟩:=List.pairwise_cons.mp h2;have e:a=b:=by
   rcases List.mem_cons.mp (h.mem_iff.mp (List.mem_cons_self (a:=a) (l:=r)))with z|z
   .exact z
   .rcases List.mem_cons.mp (h.mem_iff.mpr (List.mem_cons_self (a:=b) (l:=q)))with w|w
    .exact w.symm
    .exact t_ a b (y1 a z) (x1 b w)
  subst e;rw[Gq (List.Perm.cons_inv h) x2 y2]
def strsOf:List D->Option (List Str)
 |[]=>some []
 |.str x::r=>(strsOf r).map λt=>x::t
 |_=>none
def Ak:List D->Option (List (List Str))
 |[]=>some []
 |.str x::r=>(Ak r).map λt=>[x]::t
 |_=>none
def lstK(m:Mk):List D->Option (List (List Str))
 |[]=>some []
 |.lst m' es::r=>if m'=m then(strsOf es).bind λk=>(lstK m r).map λt=>k::t else none
 |_=>none
def fS(k:List Str):D:=.str (k.headD "")
def fL(m:Mk)(k:List Str):D:=.lst m (k.map D.str)
theorem xZ:∀{ds:List D}{k:List Str},strsOf ds=some k->ds=k.map D.str
 |[],k,h=>by cases h;rfl
 |d::r,k,h=>by
  cases d<;>simp only[strsOf]at h<;>try cases h
  cases e:strsOf r with
  |none=>rw[e]at h;cases h
  |some t=>rw[e]at h;cases h;rw[xZ e];rfl
theorem Fj:∀{ds:List D}{ks:List (List Str)},Ak ds=some ks->ds=ks.map fS/\∀k∈ks,∃x,k=[x]
 |[],k,h=>by cases h;exact⟨rfl,by simp⟩
 |d::r,k,h=>by
  cases d<;>simp only[Ak]at h<;>try cases h
  cases e:Ak r with
  |none=>rw[e]at h;cases h
  |some t=>
   rw[e]at h;cases h;obtain⟨h1,h2⟩:=Fj e;exact⟨by rw[h1];rfl,λk hk=>(List.mem_cons.mp hk).elim (λz=>⟨_,z⟩) (h2 k)⟩
theorem Gu{m:Mk}:∀{ds:List D}{ks:List (List Str)},lstK m ds=some ks->ds=ks.map (fL m)
 |[],k,h=>by cases h;rfl
 |d::r,k,h=>by
  cases d<;>simp only[lstK]at h<;>try cases h
  split at h
  .rename_i hm
   subst hm;rename_i es;cases e1:strsOf es with
   |none=>rw[e1]at h;cases h
   |some k1=>
    rw[e1]at h;cases e:lstK ‹_› r with
    |none=>simp[e]at h
    |some t=>
     have h:k1::t=k:=by simpa[e]using h
     subst h;rw[Gu e,xZ e1];rfl
  .cases h
def jG:List D->Option D
 |[.lst _ ds]=>if ds.length<64 then(match Ak ds with
  |some ks=>some (.lst .own ((CN ks).map fS))
  |none=>match ds with
   |.lst m _::_=>(lstK m ds).map λks=>.lst .own ((CN ks).map (fL m))
   |_=>none)else none
 |_=>none
section
variable{ι:Type}{X:ι->Cx}{G:Gc}{ob:Nat->Bool}
theorem aK.perm{H:Hp}{W:Wn}{zs zs':List (D×V)}(h:List.Perm zs zs'):∀{M:List Addr},aK G H W (zs.map (·.1)) (zs.map (·.2)) M->∃M',List.Perm M' M/\aK G H W (zs'.map (·.1)) (zs'.map (·.2)) M':=by
 induction h with
 |nil=>exact λ{M} r=>⟨M,.refl _,r⟩
 |cons x _ ih=>
  intro M r;rw[List.map_cons,List.map_cons]at r;obtain⟨y,ys,A,B,e,rfl,r1,r2⟩:=r.inv;cases e;obtain⟨B',p,r3⟩:=ih r2;exact⟨A++B',p.append_left A,.cons r1 r3⟩
 |swap x y l=>
  intro M r;simp only[List.map_cons]at r;obtain⟨v,vs,A,B,e,rfl,r1,r2⟩:=r.inv;cases e;obtain⟨v,vs,C,E,e,rfl,r3,r4⟩:=r2.inv;cases e;refine⟨C++(A++E),?_,.cons r3 (.cons r1 r4)⟩;rw[←List.append_assoc,←List.append_assoc];exact List.perm_append_comm.append_right E
 |trans _ _ ih1 ih2=>
  intro M r;obtain⟨M1,p1,r1⟩:=ih1 r;obtain⟨M2,p2,r2⟩:=ih2 r1;exact⟨M2,p2.trans p1,r2⟩
theorem qy{α:Type}(l:List α)(z:α):(List.range l.length).map (λi=>l.getD i z)=l:=by
 apply List.ext_getElem
 .simp
 .intro i h1 h2
  simp[h2]
theorem Ip{α β:Type}{f:α->β}{l:List α}{z:α}{y:β}{p:List Nat}(h:∀i∈p,i<l.length):p.map (λi=>(l.map f).getD i y)=(p.map λi=>l.getD i z).map f:=by
 rw[List.map_map];refine List.map_congr_left λi hi=>?_;have:=h i hi;simp[this]
theorem B_{H:Hp}{W:Wn}{f:List Str->D}{ks:List (List Str)}{ys:List V}{M:List Addr}{p:List Nat}(r:aK G H W (ks.map f) ys M)(hp:List.Perm p (List.range ys.length))(hw:List.Pairwise (λi j=>ltS (ks.getD j []) (ks.getD i [])=false) p):∃M',List.Perm M' M/\aK G H W ((CN ks).map f) (p.map λi=>ys.getD i .non) M':=by
 have hl:=r.length;rw[List.length_map]at hl;have hin:∀i∈p,i<ks.length:=λi hi=>by rw[hl];exact List.mem_range.mp (hp.mem_iff.mp hi)
 have e1:p.map (λi=>ks.getD i [])=CN ks:=by
  refine Gq ?_ (List.pairwise_map.mpr hw) (Fi ks);have:List.Perm (p.map λi=>ks.getD i []) ((List.range ks.length).map λi=>ks.getD i []):=by rw[hl];exact hp.map _
  rw[qy]at this;exact this.trans (pA ks).symm
 let g:Nat->D×V:=λi=>((ks.map f).getD i .non,ys.getD i .non)
 have hg:((List.range ys.length).map g).map (·.1)=ks.map f:=by
  rw[List.map_map,←hl];have:=qy (ks.map f) D.non;rwa[List.length_map]at this
 have hg2:((List.range ys.length).map g).map (·.2)=ys:=by rw[List.map_map];exact qy ys V.non
 obtain⟨M',p1,r1⟩:=aK.perm (hp.map g).symm (M:=M) (by rw[hg,hg2];exact r);refine⟨M',p1,?_⟩;rw[List.map_map,List.map_map]at r1;rw[←e1,←Ip (y:=D.non) hin];exact r1
theorem vO{H:Hp}{W:Wn}{ds:List D}{xs:List V}{M L0:List Addr}{Q:VK}{p:Addr}(hr:aK G H W ds xs M)(s:∀a∈M,a∈L0)(nd:M.Nodup)(hn:∀a∈L0,W.tmp a)(hp:H p=none)(q:Done G H W L0 (.lst .own ds) Q):Q (.ref p) (upd H p (.lst xs)):=by
 have sm:Same H (upd H p (.lst xs)):=Same.new hp;have np:p∉M:=λz=>by obtain⟨o,ho,_⟩:=hr.dom p z;rw[hp]at ho;cases ho
 refine q (.ref p) _ (p::M) sm ?_ (λa ha=>(List.mem_cons.mp ha).elim (λz=>.inr (by rw[z];exact hp)) λz=>.inl (s a z)) (List.nodup_cons.mpr ⟨np,nd⟩);rw[Rep];exact⟨p,xs,M,rfl,hr.up ⟨sm,λb u hb f=>⟨λz=>z.elim (λz=>(List.mem_cons.mp z).elim (λz=>by rw[z,hp]at hb;cases hb) λz=>f.1 (hn b (s b z)).1) λz=>f.1 z.1,f.2⟩,λ_ _ _ f=>f⟩,bJ,rfl⟩
theorem Ka{H:Hp}{W:Wn}{ks:List (List Str)}{ys:List V}{M:List Addr}(r:aK G H W (ks.map fS) ys M)(hx:∀k∈ks,∃x,k=[x]):RT G.K H ys ks:=by
 refine⟨by have:=r.length;rwa[List.length_map]at this,.inl λi k e=>?_⟩;obtain⟨x,rfl⟩:=hx k (List.mem_of_getElem? e);obtain⟨y,N,h1,h2,_⟩:=r.get (j:=i) (d:=fS [x]) (by rw[List.getElem?_map,e];rfl);exact⟨x,rfl,by rw[h1,(cC h2).1];rfl⟩
theorem Av{H:Hp}{W:Wn}:∀{k:List Str}{xs:List V}{M:List Addr},aK G H W (k.map D.str) xs M->xs=k.map V.str
 |[],xs,M,r=>r.inv0.1
 |x::k,xs,M,r=>by
  obtain⟨y,ys,A,B,rfl,_,r1,r2⟩:=r.inv;rw[(cC r1).1,Av r2];rfl
theorem JM{H:Hp}{W:Wn}{m:Mk}{ks:List (List Str)}{ys:List V}{M:List Addr}(r:aK G H W (ks.map (fL m)) ys M):RT G.K H ys ks:=by
 refine⟨by have:=r.length;rwa[List.length_map]at this,.inr λi k e=>?_⟩;obtain⟨y,N,h1,h2,_⟩:=r.get (j:=i) (d:=fL m k) (by rw[List.getElem?_map,e];rfl);unfold fL at h2;rw[Rep]at h2;obtain⟨b,xs,M1,rfl,h3,h4⟩:=h2;rw[Av h3]at h4;exact⟨b,h1,h4.sq⟩
theorem wM(A:Around)(hA:∀c,(X c).A=A)(hu:A.units+2<cLine)(hK:∀c,(X c).K=G.K:=by intro _;rfl):CaB X G (.builtin "sorted") jG:=⟨Iz G.K A,λc=>by rw[←hK c,←hA c];exact zO,λds d e xs H W L0 r nd hn w Q q=>by
 unfold jG at e;split at e
 .split at e
  .rename_i hl
   obtain⟨x,rfl,rx⟩:=r.inv1;rw[Rep]at rx;obtain⟨a,ys,M,rfl,hr,hs⟩:=rx;have hlen:=hr.length;split at e
   .rename_i ks hks
    cases e;obtain⟨h1,h2⟩:=Fj hks;rw[h1]at hr;refine⟨a,ys,ks,rfl,hs.sq,by omega,hu,Ka hr h2,λp hp hw l hl'=>?_⟩;obtain⟨M',p1,r1⟩:=B_ hr hp hw;exact vO r1 (λb hb=>hs.sub.subset (p1.mem_iff.mp hb)) (p1.nodup_iff.mpr (hs.sub.nodup nd)) hn hl' q
   .split at e
    .rename_i m es rr hks
     cases e2:lstK m (D.lst m es::rr)with
     |none=>rw[e2]at e;cases e
     |some ks=>
      rw[e2]at e;cases e;rw[Gu e2]at hr;refine⟨a,ys,ks,rfl,hs.sq,by omega,hu,JM hr,λp hp hw l hl'=>?_⟩;obtain⟨M',p1,r1⟩:=B_ hr hp hw;exact vO r1 (λb hb=>hs.sub.subset (p1.mem_iff.mp hb)) (p1.nodup_iff.mpr (hs.sub.nodup nd)) hn hl' q
    .cases e
  .cases e
 .cases e⟩
end
section
variable{X:Cx}
open Classical in
noncomputable def mX(xs:List V)(ds:List Dt)(dx:Dt)(w:Value):Bool:=decide (∃(i:Nat)(v:V)(d:Dt),xs[i]? =some v/\ds[i]? =some d/\RelV v w/\eqD d dx=true)
open Classical in
theorem pG{xs:List V}{ds:List Dt}{dx:Dt}{w:Value}:mX xs ds dx w=true↔∃(i:Nat)(v:V)(d:Dt),xs[i]? =some v/\ds[i]? =some d/\RelV v w/\eqD d dx=true:=by unfold mX;exact decide_eq_true_iff
def TX(K:PySem.W.Frag)(A:Around):R2:=λx y H Q=>∃p xs dx ds,y= .ref p/\(SqL K H p xs∨SqT K H p xs)/\Brs K H dx x/\gB K H ds xs/\A.units+1+dp dx<cLine/\A.units+1+dpL ds<cLine/\Q (.bl (ds.any λd=>eqD d dx)) H
theorem RD{ds:List Dt}{d:Dt}:d∈ds->dp d<=dpL ds:=by
 induction ds with
 |nil=>intro h;cases h
 |cons e r ih=>
  intro h;simp only[dpL];rcases List.mem_cons.mp h with rfl|h
  .omega
  .have:=ih h;omega
theorem RZ:OpR X (compareOp .In) (TX X.K X.A):=by
 intro pins s σ H x y v u Q I rx ry h;obtain⟨p,xs,dx,ds,rfl,hq,hbx,hbs,hu1,hu2,q⟩:=h;cases ry;have hl:=hbs.length;have he:∀(its:List Value),Vals xs its->∀w∈its,SeqAt.EqAt X.A.in1 s w v (mX xs ds dx w):=λits r w hw=>by
  obtain⟨i,hi,rfl⟩:=List.getElem_of_mem hw;have hlen:=r.length;have hxi:xs[i]? =some xs[i]:=List.getElem?_eq_getElem (by omega);obtain⟨d,hd1,hd2⟩:=hbs.get hxi;obtain⟨w',h1,h2⟩:=r.get hxi;rw[List.getElem?_eq_getElem hi]at h1;cases h1;have hm:d∈ds:=List.mem_of_getElem? hd1;have key:mX xs ds dx its[i]=eqD d dx:=by
   cases e:eqD d dx with
   |true=>exact pG.mpr ⟨i,_,d,hxi,hd1,h2,e⟩
   |false=>
    cases e2:mX xs ds dx its[i]with
    |false=>rfl
    |true=>
    obtain⟨j,v',d',a1,a2,a3,a4⟩:=pG.mp e2;obtain⟨d'',b1,b2⟩:=hbs.get a1;rw[a2]at b1;cases b1;rw[a3.inj h2]at b2;rw[vB I _ _ b2 hd2,e]at a4;cases a4
  rw[key];have:=RD hm;exact Qh I d dx hd2 hbx h2 rx (by show X.A.units+1+dp d<cLine;omega) (by show X.A.units+1+dp dx<cLine;omega)
 have ha:∀(its:List Value),Vals xs its->its.any (mX xs ds dx)=ds.any λd=>eqD d dx:=λits r=>by
  have hlen:=r.length;rw[Bool.eq_iff_iff,List.any_eq_true,List.any_eq_true];constructor
  .rintro⟨w,hw,e⟩
   obtain⟨i,v',d,h1,h2,h3,h4⟩:=pG.mp e;exact⟨d,List.mem_of_getElem? h2,h4⟩
  .rintro⟨d,hd,e⟩
   obtain⟨i,hi,rfl⟩:=List.getElem_of_mem hd;have hxi:xs[i]? =some xs[i]:=List.getElem?_eq_getElem (by omega);obtain⟨w,h1,h2⟩:=r.get hxi;exact⟨w,List.mem_of_getElem? h1,pG.mpr ⟨i,_,_,hxi,List.getElem?_eq_getElem hi,h2,e⟩⟩
 rcases hq with hq|hq
 .obtain⟨its,r,pl,hz⟩:=I.list hq
  refine SeqAt.in_listAt (mX xs ds dx) pl.isList (λw hw=>he its r w (by simpa using hw)) ⟨.bl _,H,I,rfl,?_⟩;rw[show its.toArray.any (mX xs ds dx)=its.any (mX xs ds dx)by simp,ha its r];exact q
 .obtain⟨its,r,pl,hz⟩:=I.tuple hq
  refine SeqAt.in_tupleAt (mX xs ds dx) pl (λw hw=>he its r w (by simpa using hw)) ⟨.bl _,H,I,rfl,?_⟩;rw[show its.toArray.any (mX xs ds dx)=its.any (mX xs ds dx)by simp,ha its r];exact q
end
section
variable{ι:Type}{X:ι->Cx}{G:Gc}{ob:Nat->Bool}
def Ac:D->Option (List D)
 |.lst _ ds=>some ds
 |.tup ds=>some ds
 |_=>none
def Dg(x y:D):Option D:=(Ac y).bind λds=>if ig x=true/\iR ds=true/\dp (dt x)<=60/\dpL (dtL ds)<=60 then some (.bl ((dtL ds).any λd=>eqD d (dt x)))else none
theorem Q9(A:Around)(hA:∀c,(X c).A=A)(hu:A.units+64<cLine)(hK:∀c,(X c).K=G.K:=by intro _;rfl):OpB X G (compareOp .In) Dg:=⟨TX G.K A,λc=>by rw[←hK c,←hA c];exact RZ,λdx dy d e x y H W Lx Ly rx ry nd hn w Q q=>by
 unfold Dg at e;cases h1:Ac dy with
 |none=>rw[h1]at e;cases e
 |some ds=>
  rw[h1]at e;simp only[Option.bind_some]at e;split at e
  .rename_i hc
   cases e;cases dy<;>simp only[Ac]at h1<;>try cases h1
   .rw[Rep]at ry
    obtain⟨a,xs,rfl,ht,hr⟩:=ry;exact⟨a,xs,_,_,rfl,.inr (SqT.of ht),rx.brs hc.1,hr.brs hc.2.1,by omega,by omega,q.scal λ_=>fG⟩
   .rw[Rep]at ry
    obtain⟨a,xs,M,rfl,hr,hs⟩:=ry;exact⟨a,xs,_,_,rfl,.inl hs.sq,rx.brs hc.1,hr.brs hc.2.1,by omega,by omega,q.scal λ_=>fG⟩
  .cases e⟩
end
theorem rD{env:Env}{x:Str}:∀{names:List (Str×NameKind)},(names.lookup x=some .cell∨names.lookup x=some .free)->(names.map λ(n,k)=>if(k==NameKind.free&&env.scope.kind== .function&&env.kindOf n==some .cell)then(n,NameKind.cell)else(n,k)).lookup x=some .cell∨(names.map λ(n,k)=>if(k==NameKind.free&&env.scope.kind== .function&&env.kindOf n==some .cell)then(n,NameKind.cell)else(n,k)).lookup x=some .free
 |[],h=>by simp at h
 |(n,k)::r,h=>by
  rw[List.map_cons];by_cases e:x=n
  .subst e
   have h:k= .cell∨k= .free:=by simpa using h
   dsimp only;split
   .exact .inl (by simp)
   .rcases h with h|h<;>subst h
    .exact .inl (by simp)
    .exact .inr (by simp)
  .have hne:(x==n)=false:=by simpa using e
   rw[List.lookup_cons,hne]at h;have ih:=rD (env:=env) h;dsimp only;split<;>(rw[List.lookup_cons,hne];exact ih)
theorem bR.rel{sc:Scope}{env:Env}{N N':List Str}{scope:Scope}{cap:List (Option Nat)}(O:bR sc N N' scope cap):bR (relabel sc env) N N' scope cap:=⟨O.kind,O.nocell,O.nm,λy hy hk=>rD (O.free y hy hk),O.len,O.cap⟩
def Wp{α:Type}(o:Option α)(Q:α->Prop):Prop:=∃a,o=some a/\Q a
section
variable{α β:Type}{Q:α->Prop}{R:β->Prop}
theorem aF{a:α}:Wp (some a) Q↔Q a:=⟨λ⟨b,e,q⟩=>by cases e;exact q,λq=>⟨a,rfl,q⟩⟩
theorem tQ:Wp (none:Option α) Q↔False:=⟨λ⟨b,e,q⟩=>(by cases e),λz=>z.elim⟩
theorem dB{o:Option α}{f:α->Option β}:Wp (o.bind f) R↔Wp o λa=>Wp (f a) R:=by
 cases o with
 |none=>simp[tQ]
 |some a=>simp[aF]
theorem uo{o:Option α}{f:α->β}:Wp (o.map f) R↔Wp o λa=>R (f a):=by
 cases o with
 |none=>simp[tQ]
 |some a=>simp[aF]
theorem w_ite{c:Prop}[Decidable c]{a b:Option α}:Wp (if c then a else b) Q↔(if c then Wp a Q else Wp b Q):=by
 split<;>exact Iff.rfl
theorem Wp.mono{o:Option α}{Q':α->Prop}(h:Wp o Q)(k:∀a,Q a->Q' a):Wp o Q':=let⟨a,e,q⟩:=h;⟨a,e,k a q⟩
theorem Wp.eq{o:Option α}{a:α}(h:Wp o λx=>x=a):o=some a:=let⟨b,e,q⟩:=h;by rw[e,q]
theorem jc{o:Option α}{a:α}(h:o=some a)(q:Q a):Wp o Q:=⟨a,h,q⟩
end
section
variable{Q:Fl->Prop}{ρ:En}
theorem Qn{f g:En->Option Fl}:Wp (aX f g ρ) Q↔Wp (f ρ) λr=>match r with
 |.nx ρ'=>Wp (g ρ') Q
 |.ret d ρ'=>Q (.ret d ρ')
 |.brk ρ'=>Q (.brk ρ')
 |.cnt ρ'=>Q (.cnt ρ'):=by
 unfold aX;cases f ρ with
 |none=>simp[tQ]
 |some r=>cases r<;>simp[aF]
theorem QJ{tg:D->En->Option En}{body:En->Option Fl}(I:Nat->En->Prop):∀{items:List D}{ρ:En}{k:Nat},I k ρ->
  (∀(i:Nat)(d:D)(ρ:En),items[i]? =some d->I (k+i) ρ->Wp (tg d ρ) λρ1=>Wp (body ρ1) λr=>match r with
   |.nx ρ2=>I (k+i+1) ρ2
   |.cnt ρ2=>I (k+i+1) ρ2
   |.brk ρ2=>Q (.nx ρ2)
   |.ret d ρ2=>Q (.ret d ρ2))->
  (∀ρ,I (k+items.length) ρ->Q (.nx ρ))->Wp (forL tg body items ρ) Q
 |[],ρ,k,h0,_,h=>by rw[forL];exact aF.mpr (h ρ h0)
 |d::r,ρ,k,h0,hs,h=>by
  rw[forL];obtain⟨ρ1,e1,w⟩:=hs 0 d ρ rfl h0;obtain⟨fl,e2,w⟩:=w;rw[e1,Option.bind_some,e2];have ih:∀{ρ2:En},I (k+1) ρ2->Wp (forL tg body r ρ2) Q:=λhI=>QJ I hI (λi d ρ hi hI=>by
   have:=hs (i+1) d ρ (by simpa using hi) (by rw[show k+(i+1)=k+1+i by omega];exact hI);rw[show k+(i+1)+1=k+1+i+1 by omega]at this;exact this) λρ hI=>h ρ (by rw[List.length_cons,show k+(r.length+1)=k+1+r.length by omega];exact hI)
  cases fl with
  |nx ρ2=>exact ih w
  |cnt ρ2=>exact ih w
  |brk ρ2=>exact aF.mpr w
  |ret d ρ2=>exact aF.mpr w
end
theorem cL{tg:D->En->Option En}{c:En->Option Bool}{e:En->Option D}{ρ0:En}{p:D->Bool}{f:D->D}:∀{items:List D},(∀d∈items,Wp (tg d ρ0) λρ1=>c ρ1=some (p d)/\(p d=true->e ρ1=some (f d)))->fW tg c e ρ0 items=some ((items.filter p).map f)
 |[],_=>rfl
 |d::r,h=>by
  obtain⟨ρ1,e1,h1,h2⟩:=h d (by simp);have ih:=cL (tg:=tg) (c:=c) (e:=e) (ρ0:=ρ0) (p:=p) (f:=f) (items:=r) λx hx=>h x (by simp[hx]);rw[fW];cases hp:p d with
  |false=>simp[e1,h1,hp,ih]
  |true=>simp[e1,h1,hp,h2 hp,ih]
theorem Em{cap:List (Option Nat)}{tg:D->En->Option En}{c:En->Option Bool}{e:En->Option (D×En)}{Q:List D×En->Prop}(I:Nat->List D->En->Prop):∀{items:List D}{ρ:En}{k:Nat}{acc:List D},I k acc ρ->
  (∀(i:Nat)(d:D)(acc:List D)(ρ:En),items[i]? =some d->I (k+i) acc ρ->Wp (tg d (lM cap ρ)) λρ1=>Wp (c ρ1) λb=>if b=true then Wp (e ρ1) λp=>clean p.1=true/\I (k+i+1) (acc++[p.1]) (fQ cap p.2 ρ)else I (k+i+1) acc ρ)->
  (∀ys ρ,I (k+items.length) ys ρ->Q (ys,ρ))->Wp (kY cap tg c e items ρ) λt=>Q (acc++t.1,t.2)
 |[],ρ,k,acc,h0,_,h=>by rw[kY];exact aF.mpr (by rw[List.append_nil];exact h acc ρ h0)
 |d::r,ρ,k,acc,h0,hs,h=>by
  rw[kY];obtain⟨ρ1,e1,b,e2,w⟩:=hs 0 d acc ρ rfl h0;rw[e1,Option.bind_some,e2,Option.bind_some];have ih:∀{ρ2:En}{acc:List D},I (k+1) acc ρ2->Wp (kY cap tg c e r ρ2) λt=>Q (acc++t.1,t.2):=λhI=>Em I hI (λi d acc ρ hi hI=>by
   have:=hs (i+1) d acc ρ (by simpa using hi) (by rw[show k+(i+1)=k+1+i by omega];exact hI);rw[show k+(i+1)+1=k+1+i+1 by omega]at this;exact this) λys ρ hI=>h ys ρ (by rw[List.length_cons,show k+(r.length+1)=k+1+r.length by omega];exact hI)
  cases b with
  |false=>
   simp only[Bool.false_eq_true,if_false]at w⊢;exact ih w
  |true=>
   simp only[if_true]at w⊢;obtain⟨p,e3,hc,hI⟩:=w;rw[e3,Option.bind_some,if_pos hc];rw[uo];refine(ih hI).mono λt ht=>?_;simpa using ht
theorem bF(l:List Str):aH (l.map D.str)=true:=bY λd hd=>by obtain⟨x,_,rfl⟩:=List.mem_map.mp hd;rfl
theorem bx(l:List Str):aJ (l.map D.str)=true:=bU λd hd=>by obtain⟨x,_,rfl⟩:=List.mem_map.mp hd;rfl
theorem bM(b:Bool)(l:List Str):gW b (l.map D.str)=l.map D.str:=by rw[dN,List.map_map];rfl
theorem cX(l:List Str):fzL (l.map D.str)=l.map D.str:=by rw[gh,List.map_map];rfl
theorem d_(l:List Str):i_ (l.map D.str)=l.map D.str:=by rw[gJ,List.map_map];rfl
theorem qH{α:Type}{l:List α}{i:Int}(h0:0<=i)(h1:i<l.length):∃x,atI l i=some x/\l[i.toNat]? =some x:=by
 unfold atI ixN;rw[if_pos h0,if_pos h1];have:i.toNat<l.length:=by omega
 exact⟨l[i.toNat],by simp[this],by simp[this]⟩
theorem gw{α β:Type}{f:α->β}{l:List α}{i:Int}(h0:0<=i)(h1:i<l.length):∃x,x∈l/\l[i.toNat]? =some x/\atI (l.map f) i=some (f x):=by
 have:i.toNat<l.length:=by omega
 refine⟨l[i.toNat],List.getElem_mem _,by simp[this],?_⟩;unfold atI ixN;rw[if_pos h0,if_pos (by simpa using h1)];simp[this]
theorem PJ{n:Nat}{f:D->D}:(jL 0 n).map f=(List.range n).map λ(k:Nat)=>f (.int (k:Int)):=by
 unfold jL;rw[List.map_map];apply List.map_congr_left;intro k _;simp
theorem NQ{n:Nat}{d:D}(h:d∈jL 0 n):∃k:Nat,k<n/\d= .int (k:Int):=by
 unfold jL at h;obtain⟨k,hk,rfl⟩:=List.mem_map.mp h;exact⟨k,List.mem_range.mp hk,by simp⟩
theorem qZ{lo:Int}{n:Nat}:(jL lo n).length=n:=by simp[jL]
theorem filter_tt{α:Type}(l:List α):l.filter (λ_=>true)=l:=by simp
theorem o6{n i:Nat}{d:D}(h:(jL 0 n)[i]? =some d):i<n/\d= .int (i:Int):=by
 have hi:i<n:=by have:=(List.getElem?_eq_some_iff.mp h).1;simpa[jL]using this
 refine⟨hi,?_⟩;unfold jL at h;rw[List.getElem?_map,List.getElem?_range hi]at h;simpa using h.symm
theorem Pb{ks:List Key}{k:Key}(h:k∈ks):∃j,km ks k=some j/\j<ks.length:=by
 cases e:km ks k with
 |none=>exact absurd h (v8 e)
 |some j=>exact⟨j,rfl,vz e⟩
theorem Jx{ks:List Key}{ds:List D}{k:Key}{d:D}(h:ks.length=ds.length):(jw ks ds k d).1.length=(jw ks ds k d).2.length/\∀x,x∈(jw ks ds k d).1↔x∈ks∨x=k:=by
 unfold jw;cases e:km ks k with
 |none=>exact⟨by simp[h],λx=>by simp⟩
 |some j=>
  refine⟨by simpa using h,λx=>⟨.inl,λz=>z.elim id λz=>?_⟩⟩;obtain⟨hl,hk,_⟩:=List.findIdx?_eq_some_iff_getElem.mp e;have:ks[j]=k:=by simpa using hk
  rw[z,←this];exact List.getElem_mem _
theorem vD:∀{es:List (Key×D)}{ks:List Key}{ds:List D},ks.length=ds.length->(fY ks ds es).1.length=(fY ks ds es).2.length/\∀x,x∈(fY ks ds es).1↔x∈ks∨∃p∈es,p.1=x
 |[],ks,ds,h=>⟨h,λx=>by simp[fY]⟩
 |p::r,ks,ds,h=>by
  obtain⟨h1,h2⟩:=Jx (k:=p.1) (d:=p.2) h;obtain⟨h3,h4⟩:=vD (es:=r) h1;rw[fY];refine⟨h3,λx=>?_⟩;rw[h4,h2];constructor
  .rintro((z|z)|⟨q,hq,z⟩)
   .exact .inl z
   .exact .inr ⟨p,by simp,z.symm⟩
   .exact .inr ⟨q,by simp[hq],z⟩
  .rintro(z|⟨q,hq,z⟩)
   .exact .inl (.inl z)
   .rcases List.mem_cons.mp hq with y|y
    .subst y;exact .inl (.inr z.symm)
    .exact .inr ⟨q,y,z⟩
def Dn(ns:List Str)(d:D):Prop:=∃ks ds,d= .dct .own ks ds/\(∀e∈ds,∃i:Int,e= .int i)/\∀x∈ns,∃(j:Nat)(i:Int),km ks (.inr x)=some j/\ds[j]? =some (.int i)
def pD(p:Str×Int):D:=.tup [.str p.1,.int p.2]
theorem Gv:∀ps:List (Str×Int),Cr (ps.map pD)=some (ps.map λp=>(Sum.inr p.1,.int p.2))
 |[]=>rfl
 |p::r=>by simp[Cr,pD,lQ,Gv r]
theorem Nv{ps:List (Str×Int)}(hl:ps.length<=50000):Wp (wR [.lst .own (ps.map pD)]) λd=>Dn (ps.map (·.1)) d/\clean d=true:=by
 simp only[wR];rw[if_pos ⟨rfl,by simpa using hl⟩,Gv];refine aF.mpr ?_;have hok:=vD (es:=ps.map λp=>((Sum.inr p.1:Key),D.int p.2)) (ks:=[]) (ds:=[]) rfl;have hall:=ux (λd=>∃i:Int,d= .int i) (es:=ps.map λp=>((Sum.inr p.1:Key),D.int p.2)) (ks:=[]) (ds:=[]) (by simp) (λq hq=>by obtain⟨p,_,rfl⟩:=List.mem_map.mp hq;exact⟨p.2,rfl⟩);refine⟨⟨_,_,rfl,hall,λx hx=>?_⟩,Hr (bY λd hd=>by obtain⟨i,rfl⟩:=hall d hd;rfl) (bU λd hd=>by obtain⟨i,rfl⟩:=hall d hd;rfl)⟩;obtain⟨p,hp,rfl⟩:=List.mem_map.mp hx;obtain⟨j,h1,h2⟩:=Pb ((hok.2 (Sum.inr p.1)).mpr (.inr ⟨_,List.mem_map.mpr ⟨p,hp,rfl⟩,rfl⟩));have hjl:j<(fY [] [] (ps.map λp=>((Sum.inr p.1:Key),D.int p.2))).2.length:=by rw[←hok.1];exact h2
 obtain⟨i,hi⟩:=hall _ (List.getElem_mem hjl);exact⟨j,i,h1,by rw[List.getElem?_eq_getElem hjl,hi]⟩
abbrev Jt:=Str×Str×Int
def jD(j:Jt):D:=.tup [.str j.1,.str j.2.1,.int j.2.2]
theorem iJ(l:List Jt):aH (l.map jD)=true:=bY λd hd=>by obtain⟨x,_,rfl⟩:=List.mem_map.mp hd;rfl
theorem iW(l:List Jt):aJ (l.map jD)=true:=bU λd hd=>by obtain⟨x,_,rfl⟩:=List.mem_map.mp hd;rfl
theorem lq(b:Bool)(l:List Jt):gW b (l.map jD)=l.map jD:=by rw[dN,List.map_map];rfl
theorem kI(l:List Jt):fzL (l.map jD)=l.map jD:=by rw[gh,List.map_map];rfl
theorem jC(l:List Jt):i_ (l.map jD)=l.map jD:=by rw[gJ,List.map_map];rfl
theorem Fb:∀l:List Jt,iR (l.map jD)=true
 |[]=>rfl
 |j::r=>by simp[iR,jD,ig,Fb r]
theorem lN:∀l:List Str,iR (l.map D.str)=true
 |[]=>rfl
 |j::r=>by simp[iR,ig,lN r]
theorem Io:∀l:List Jt,dpL (dtL (l.map jD))<=2
 |[]=>by simp[dtL,dpL]
 |j::r=>by
  have:=Io r;simp[dtL,jD,dt,dpL,dp];omega
theorem jz{m:Mk}{l:List Jt}:gNe (.lst m (l.map jD)) (.lst .own [])=some (.bl (!l.isEmpty)):=by
 unfold gNe;have h1:=Fb l;have h2:=Io l;rw[if_pos ⟨by simpa[ig]using h1,rfl,by simp only[dt,dp];omega,by decide⟩];cases l with
 |nil=>rfl
 |cons j r=>rfl
theorem eq_int{i j:Int}:gEq (.int i) (.int j)=some (.bl (decide (i=j))):=by
 unfold gEq;rw[if_pos ⟨rfl,rfl,by simp[dt,dp],by simp[dt,dp]⟩];simp[dt,eqD];exact Bool.eq_iff_iff.mpr (by simp)
theorem K9{cap:List (Option Nat)}{tg:D->En->Option En}{c:En->Option Bool}{e:En->Option (D×En)}{Q:List D×En->Prop}(I:Nat->List D->En->Prop){items:List D}{ρ:En}(h0:I 0 [] ρ)
  (hs:∀(i:Nat)(d:D)(acc:List D)(ρ:En),items[i]? =some d->I i acc ρ->Wp (tg d (lM cap ρ)) λρ1=>Wp (c ρ1) λb=>if b=true then Wp (e ρ1) λp=>clean p.1=true/\I (i+1) (acc++[p.1]) (fQ cap p.2 ρ)else I (i+1) acc ρ)
  (h:∀ys ρ,I items.length ys ρ->Q (ys,ρ)):Wp (kY cap tg c e items ρ) Q:=by
 have:=Em (cap:=cap) (tg:=tg) (c:=c) (e:=e) (Q:=Q) I (items:=items) (ρ:=ρ) (k:=0) (acc:=[]) h0 (λi d acc ρ hi hI=>by
  rw[Nat.zero_add]at hI⊢;exact hs i d acc ρ hi hI) λys ρ hI=>h ys ρ (by rw[Nat.zero_add]at hI;exact hI)
 simpa using this
theorem iY{Q:Fl->Prop}{tg:D->En->Option En}{body:En->Option Fl}(I:Nat->En->Prop){items:List D}{ρ:En}(h0:I 0 ρ)
  (hs:∀(i:Nat)(d:D)(ρ:En),items[i]? =some d->I i ρ->Wp (tg d ρ) λρ1=>Wp (body ρ1) λr=>match r with
   |.nx ρ2=>I (i+1) ρ2
   |.cnt ρ2=>I (i+1) ρ2
   |.brk ρ2=>Q (.nx ρ2)
   |.ret d ρ2=>Q (.ret d ρ2))
  (h:∀ρ,I items.length ρ->Q (.nx ρ)):Wp (forL tg body items ρ) Q:=
 QJ (k:=0) I h0 (λi d ρ hi hI=>by
  rw[Nat.zero_add]at hI⊢;exact hs i d ρ hi hI) λρ hI=>h ρ (by rw[Nat.zero_add]at hI;exact hI)
theorem bB{f g:En->Option Fl}{ρ:En}{Q:Fl->Prop}(P:En->Prop)(h1:∀Q':Fl->Prop,(∀ρ',P ρ'->Q' (.nx ρ'))->Wp (f ρ) Q')(h2:∀ρ',P ρ'->Wp (g ρ') Q):Wp (aX f g ρ) Q:=by
 rw[Qn];exact h1 _ λρ' h=>h2 ρ' h
theorem p_(j:Jt):aG (jD j)=true:=rfl
theorem qw(j:Jt):aD (jD j)=true:=rfl
theorem qd(b:Bool)(j:Jt):view b (jD j)=jD j:=rfl
theorem rn(j:Jt):fz (jD j)=jD j:=rfl
theorem vf(j:Jt):fzo (jD j)=jD j:=rfl
theorem jR(j:Jt):gSl (jD j) none (some 2)=some (.tup [.str j.1,.str j.2.1]):=rfl
theorem jB(m:Mk)(l:List Jt):cF [.lst m (l.map jD)]=some (.int l.length):=by simp[cF]
theorem len_strs(m:Mk)(l:List Str):cF [.lst m (l.map D.str)]=some (.int l.length):=by simp[cF]
theorem g8(l:List Jt):cF [.tup (l.map jD)]=some (.int l.length):=by simp[cF]
theorem eU(l:List Str):cF [.tup (l.map D.str)]=some (.int l.length):=by simp[cF]
theorem pJ{m:Mk}{l:List D}{i:Int}:gIx (.lst m l) (.int i)=atI l i:=rfl
theorem rP{l:List D}{i:Int}:gIx (.tup l) (.int i)=atI l i:=rfl
mutual
def tz:D->Nat
 |.int i=>i.natAbs+2
 |.str x=>(reprText x).length
 |.tup ds=>4+tzL ds
 |.lst _ ds=>4+tzL ds
 |_=>5
def tzL:List D->Nat
 |[]=>0
 |d::r=>tz d+2+tzL r
end
mutual
def dz:D->Nat
 |.tup ds=>1+dzL ds
 |.lst _ ds=>1+dzL ds
 |_=>0
def dzL:List D->Nat
 |[]=>0
 |d::r=>max (dz d) (dzL r)
end
theorem Eo:∀(ts:List Str)(k:Nat)(a:Str),(textFrom k a ts).length<=a.length+(ts.map λt=>t.length+2).sum
 |[],k,a=>by rw[textFrom.eq_1];simp
 |t::ts,k,a=>by
  rw[textFrom.eq_2];have h1:=Eo ts (k+1) (a++Str.ofString (if k>0 then ", " else "")++t);rw[Str.length_append,Str.length_append]at h1;have h3:(Str.ofString (if k>0 then ", " else "")).length<=2:=by split<;>decide
  rw[List.map_cons,List.sum_cons];omega
theorem CQ:∀ts:List Str,piled ts=(ts.map λt=>t.length+2).sum
 |[]=>rfl
 |t::r=>by rw[List.map_cons,List.sum_cons,←CQ r];simp[piled]
theorem O7(ts:List Str):(Str.join ", " ts).length<=(ts.map λt=>t.length+2).sum:=by
 cases ts with
 |nil=>decide
 |cons t r=>
  have:=join_length_add (t::r) (by simp);rw[CQ]at this;omega
theorem Lw{i:Int}(h:i.natAbs<=1000000):i.natAbs.log2<1920:=by
 by_cases h0:i.natAbs=0
 .rw[h0];decide
 .exact(Nat.log2_lt h0).mpr (Nat.lt_of_lt_of_le (show i.natAbs<2 ^ 20 by omega) (Nat.pow_le_pow_right (by decide) (by decide)))
mutual
theorem Ck:∀{d:D},ig d=true->tz d<=1000000->(pyD (dt d)).shown.length<=tz d/\(pyD (dt d)).showable=true/\(pyD (dt d)).depth<=dz d
 |.non,_,_=>⟨by decide,rfl,by decide⟩
 |.bl b,_,_=>by cases b<;>exact⟨by decide,rfl,by decide⟩
 |.int i,_,h=>by
  have h1:=len_str_of_int i;rw[tz]at h;refine⟨by simp only[dt,pyD,PyData.shown,tz];omega,?_,?_⟩
  .simp only[dt,pyD,PyData.showable]
   exact decide_eq_true (Lw (by omega))
  .simp[dt,pyD,PyData.depth,dz]
 |.str x,_,_=>⟨by simp[dt,pyD,PyData.shown,tz],by simp[dt,pyD,PyData.showable],by simp[dt,pyD,PyData.depth,dz]⟩
 |.tup ds,h,hz=>by
  rw[ig]at h;rw[tz]at hz;obtain⟨h1,h2,h3⟩:=ud h (by omega);refine⟨?_,by simpa[dt,pyD,PyData.showable]using h2,by simp only[dt,pyD,PyData.depth,dz];omega⟩;simp only[dt,pyD,PyData.shown,tz];unfold tupleText;rw[Str.length_append,Str.length_append];have h4:(Str.ofString "(").length=1:=by decide
  have h5:(Str.ofString (if((PyData.shownAll (pyL (dtL ds))).length==1)=true then ",)" else ")")).length<=2:=by split<;>decide
  have h6:=O7 (PyData.shownAll (pyL (dtL ds)));omega
 |.lst m ds,h,hz=>by
  rw[ig]at h;rw[tz]at hz;obtain⟨h1,h2,h3⟩:=ud h (by omega);refine⟨?_,by simpa[dt,pyD,PyData.showable]using h2,by simp only[dt,pyD,PyData.depth,dz];omega⟩;simp only[dt,pyD,PyData.shown,tz];unfold listText;rw[Str.length_append];have h4:(Str.ofString "[").length=1:=by decide
  have h5:(Str.ofString "]").length=1:=by decide
  have h6:=Eo (PyData.shownAll (pyL (dtL ds))) 0 "[";omega
 |.ty _,h,_=>by simp[ig]at h
 |.dct _ _ _,h,_=>by simp[ig]at h
 |.ins _ _ _ _,h,_=>by simp[ig]at h
theorem ud:∀{ds:List D},iR ds=true->tzL ds<=1000000->((PyData.shownAll (pyL (dtL ds))).map λt=>t.length+2).sum<=tzL ds/\PyData.showableAll (pyL (dtL ds))=true/\PyData.depthAll (pyL (dtL ds))<=dzL ds
 |[],_,_=>by simp[dtL,pyL,PyData.shownAll,PyData.showableAll,PyData.depthAll,tzL,dzL]
 |d::r,h,hz=>by
  rw[iR,Bool.and_eq_true]at h;rw[tzL]at hz;obtain⟨h1,h2,h3⟩:=Ck h.1 (by omega);obtain⟨k1,k2,k3⟩:=ud h.2 (by omega);simp only[dtL,pyL,PyData.shownAll,PyData.showableAll,PyData.depthAll,tzL,dzL,List.map_cons,List.sum_cons,h2,k2];refine⟨by omega,rfl,?_⟩;omega
end
theorem Ia{d:D}(h:ig d=true)(hz:tz d<=1000000)(hd:dz d<=50):∃x,xm [d]=some (.str x):=by
 obtain⟨h1,h2,h3⟩:=Ck h hz;have hs:(1000000:Nat)<=sizeLine:=by decide
 cases d with
 |non=>exact⟨_,rfl⟩
 |bl b=>exact⟨_,rfl⟩
 |int i=>
  rw[tz]at hz;exact⟨_,by simp only[xm];rw[if_pos (Lw (by omega))]⟩
 |str x=>exact⟨_,rfl⟩
 |tup ds=>exact⟨_,by simp only[xm];rw[if_pos ⟨h,by omega,h2,by omega⟩]⟩
 |lst m ds=>exact⟨_,by simp only[xm];rw[if_pos ⟨h,by omega,h2,by omega⟩]⟩
 |ty n=>simp[ig]at h
 |dct m ks ds=>simp[ig]at h
 |ins m c fs ds=>simp[ig]at h
noncomputable def eO:List D->Option D:=fnP 2 4 ((aX (du (eC (.int 0)) (tgN 2))
 (aX (sIf (eB (e2 gLt (aq false 1) (eAp cF (ao (aq false 0) aC)))) (du (e2 gIx (aq false 0) (aq false 1)) (tgN 2)) gm)
 (aX (du (e2 jU (eAp xx (ao (aq false 2) aC)) (eAp Bf (ao (e2 gGe (eAp xx (ao (aq false 2) aC)) (e2 vo (eC (.int 10)) (eC (.int 18)))) aC))) (tgN 3))
 (dO (eAp aU (ao (aq false 3) (ao (e2 nQ (e2 jU (e2 bQ (e2 bQ (e2 nQ (aq false 2) (eC (.int 2147483647))) (e2 jU (eC (.int 7919)) (aq false 1))) (eC (.int 11))) (eC (.int 48271))) (eC (.int 2147483629))) aC))))))))
noncomputable def aA:List D->Option (D×List D):=fnI (λi=>i==0) 2 4 ((aX (sIf (eB (e2 gGt (e2 gIx (aq true 0) (eC (.int 0))) (eC (.int 0)))) (aX (du (e2 nQ (e2 gIx (aq true 0) (eC (.int 0))) (aq false 1)) (tgN 2))
 (aX (du (e2 wF (e2 gIx (aq true 0) (eC (.int 0))) (aq false 1)) (yF ur 0 (uQ 0) (eC (.int 0))))
 (uE 2))) gm)
 (aX (du (e2 nQ (e2 bQ (e2 jU (e2 gIx (aq true 0) (eC (.int 1))) (eC (.int 48271))) (eC (.int 39373))) (eC (.int 2147483647))) (yF ur 0 (uQ 0) (eC (.int 1))))
 (aX (du (e2 nQ (e2 jU (e2 gIx (aq true 0) (eC (.int 1))) (e2 bQ (e2 nQ (e2 gIx (aq true 0) (eC (.int 1))) (eC (.int 40009))) (eC (.int 7)))) (eC (.int 2147483587))) (tgN 3))
 (dO (e2 nQ (e2 wF (aq false 3) (eC (.int 64))) (aq false 1)))))))
noncomputable def dH:List D->Option (D×List D):=fnI (λi=>i==0) 3 12 ((aX (du (eAp aU aC) (tgN 3))
 (aX (dD (ee2 gIx (eUp (eAp aU (ao (eC (.int 3)) (ao (eC (.int 3)) (ao (eC (.int 12)) (ao (eC (.int 12)) (ao (eC (.int 12)) (ao (e2 jU (eC (.int 4)) (e2 vo (eC (.int 10)) (eC (.int 11)))) aC)))))))) (eIo aA [0] (bT (ao (eC (.int 6)) aC)))) (tgN 4))
 (aX (dD (lF wR (bW (wO [none,some 4,some 0] (itS (aq false 1)) (tgN 0) eTT (lF bI (bW (eUp (aq false 0)) (bW (ee2 m_ (eIo aA [2] (bT (ao (e2 jU (eC (.int 2)) (aq false 1)) aC))) (eUp (aq false 1))) (bT aC))))) (bT aC))) (tgN 5))
 (aX (dD (ee2 gIx (eUp (eAp aU (ao (eC (.int 0)) (ao (eC (.int 0)) (ao (eC (.int 3)) (ao (eC (.int 12)) aC)))))) (eIo aA [0] (bT (ao (eC (.int 4)) aC)))) (tgN 6))
 (aX (CW (Ay (bW (eIo aA [0] (bT (ao (e2 bQ (e2 jU (eC (.int 2)) (eAp cF (ao (aq false 1) aC))) (eC (.int 1))) aC))) (bT aC))) (tgN 7) (aX (oA (bW (ee2 gIx (eUp (aq false 1)) (eIo aA [0] (bT (ao (eAp cF (ao (aq false 1) aC)) aC)))) (bW (ee2 gIx (eUp (aq false 1)) (eIo aA [0] (bT (ao (eAp cF (ao (aq false 1) aC)) aC)))) (bT aC))) (aP (tgN 8) (aP (tgN 9) dF)))
 (aX (dD (eIo aA [0] (bT (ao (eC (.int 9)) aC))) (tgN 10))
 (aX (sIf (eB (e2 gEq (aq false 10) (eC (.int 0)))) (du (aq false 8) (tgN 9)) gm)
 (aX (sIf (uV (eB (e2 gEq (aq false 10) (eC (.int 1)))) (eB (e2 gNe (aq false 3) (eAp aU aC)))) (dD (Ky (ee2 gIx (eUp (aq false 3)) (eIo aA [0] (bT (ao (eAp cF (ao (aq false 3) aC)) aC)))) gU (gn (eC (.int 2)))) (tgT 2 (aP (tgN 8) (aP (tgN 9) dF)))) gm)
 (aX (sIf (uV (eB (e2 gEq (aq false 10) (eC (.int 2)))) (eB (e2 gNe (aq false 3) (eAp aU aC)))) (dD (Ky (ee2 gIx (eUp (aq false 3)) (eIo aA [0] (bT (ao (eAp cF (ao (aq false 3) aC)) aC)))) gU (gn (eC (.int 2)))) (tgT 2 (aP (tgN 9) (aP (tgN 8) dF)))) gm)
 (aX (dD (ee2 bQ (eUp (e2 m_ (e2 gIx (aq false 5) (aq false 9)) (e2 gIx (aq false 5) (aq false 8)))) (ee2 jU (eUp (aq false 2)) (ee2 m_ (eIo aA [0] (bT (ao (eC (.int 5)) aC))) (eUp (eC (.int 2)))))) (tgN 11))
 (aX (wQ (xR (yX (eB (e2 gGt (aq false 6) (eC (.int 0))))) (eeB (ee2 gEq (eIo aA [0] (bT (ao (aq false 6) aC))) (eUp (eC (.int 0)))))) (dD (ee2 bQ (eUp (aq false 11)) (ee2 gIx (eUp (eAp aU (ao (eC (.int 1)) (ao (e1 gA (eC (.int 1))) (ao (eC (.int 2)) (ao (e2 vo (eC (.int 10)) (eC (.int 11))) aC)))))) (eIo aA [0] (bT (ao (eC (.int 4)) aC))))) (tgN 11)) gm)
 (zN cu 3 (uQ 3) (ao (eAp bI (ao (aq false 8) (ao (aq false 9) (ao (aq false 11) aC)))) aC))))))))))
 (uE 3)))))))
noncomputable def fP:List D->Option (D×List D):=fnI (λi=>i==0) 1 4 ((aX (du (eMt vH (eC (.str "b aa zebra c quartzes ab m knows d mm likes z a ba abcdefgh y")) (ao (eC (.str " ")) aC)) (tgN 1))
 (aX (dD (eIo aA [0] (bT (ao (eC (.int 16)) aC))) (tgN 2))
 (aX (dD (ee2 gIx (lF aU (bW (eIo aA [0] (bT (ao (eC (.int 3)) aC))) (bW (ee2 bQ (eUp (eC (.int 10))) (eIo aA [0] (bT (ao (eC (.int 5)) aC)))) (bW (ee2 bQ (eUp (eC (.int 4))) (eIo aA [0] (bT (ao (eC (.int 5)) aC)))) (bT aC))))) (lF pO (bW (eUp (eC (.int 2))) (bW (eIo aA [0] (bT (ao (eC (.int 8)) aC))) (bT aC))))) (tgN 3))
 (dO (fJ [none,some 1,some 2] (nZ (ao (aq false 3) aC)) (tpN 0) eTT (e2 gIx (aq false 1) (e2 nQ (e2 bQ (aq false 2) (e2 jU (eC (.int 5)) (aq false 0))) (eC (.int 16))))))))))
noncomputable def gk:List D->Option (D×List D):=fnI (λi=>i==0) 1 1 ((uy (ee2 gIx (eUp (eAp aU (ao (eC (.int 0)) (ao (eC (.int 0)) (ao (eC (.int 0)) (ao (eC (.int 2)) (ao (eC (.int 3)) (ao (eC (.int 7)) (ao (eC (.int 1000)) (ao (eC (.int 1)) aC)))))))))) (eIo aA [0] (bT (ao (eC (.int 8)) aC))))))
noncomputable def eZ:List D->Option (D×List D):=fnI (λi=>i==0) 3 15 ((aX (Am (ao (eAp aU aC) (ao (eAp aU (ao (aq false 2) aC)) aC)) (aP (tgN 3) (aP (tgN 4) dF)))
 (aX (jr (nZ (ao (eC (.int 8)) aC)) (tgN 5) (aX (du (eAp aU aC) (tgN 6))
 (aX (jr (itE (ao (aq false 1) aC)) (tgT 2 (aP (tgN 7) (aP (tgN 8) dF))) (jr (itS (eAp bI (ao (eC (.int 1)) (ao (e1 gA (eC (.int 1))) aC)))) (tgN 9) (aX (du (e2 lZ (eSl (aq false 8) gU (gn (eC (.int 2)))) (aq false 9)) (tgT 2 (aP (tgN 10) (aP (tgN 11) dF))))
 (aX (du (fJ [none] (itS (aq false 3)) (tpN 0) eTT (e2 gIx (aq false 0) (eC (.int 0)))) (tgN 12))
 (sIf (uV (eB (e2 gEq (aq false 10) (e2 gIx (aq false 4) (e1 gA (eC (.int 1)))))) (uV (eB (e2 eF (aq false 11) (eSl (aq false 4) (gn (eC (.int 1))) gU))) (eB (e2 eF (aq false 7) (aq false 12))))) (zN cu 6 (uQ 6) (ao (eAp bI (ao (aq false 7) (ao (aq false 9) (ao (aq false 11) aC)))) aC)) gm)))))
 (sIf (eB (e2 gNe (aq false 6) (eAp aU aC))) (aX (du (fJ [none,some 2] (itS (aq false 6)) (tpN 0) (eB (e2 gEq (e2 gIx (aq false 0) (eC (.int 2))) (aq false 1))) (aq false 0)) (tgN 13))
 (aX (dD (ee2 gIx (eUp (aq false 6)) (eIo aA [0] (bT (ao (eAp cF (ao (aq false 6) aC)) aC)))) (tgN 14))
 (aX (wQ (xR (yX (eB (e2 gNe (aq false 13) (eAp aU aC)))) (eeB (ee2 gEq (eIo aA [0] (bT (ao (eC (.int 2)) aC))) (eUp (eC (.int 0)))))) (dD (ee2 gIx (eUp (aq false 13)) (eIo aA [0] (bT (ao (eAp cF (ao (aq false 13) aC)) aC)))) (tgN 14)) gm)
 (aX (zN cu 3 (uQ 3) (ao (eSl (aq false 14) gU (gn (eC (.int 2)))) aC))
 (aX (zN cu 4 (uQ 4) (ao (e2 gIx (aq false 14) (eC (.int 2))) aC))
 (sIf (eB (e2 gEq (e2 gIx (aq false 14) (eC (.int 2))) (aq false 2))) (dO (eAp eG (ao (aq false 3) aC))) gm)))))) gm))))
 (dO (eAp eG (ao (aq false 3) aC))))))
noncomputable def d8:List D->Option D:=fnP 3 8 ((aX (du (eAp aU (ao (aq false 1) aC)) (tgN 3))
 (aX (jr (itS (aq false 2)) (tgT 2 (aP (tgN 4) (aP (tgN 5) dF))) (aX (sIf (tu (eB (sG gLe gLt (eC (.int 0)) (aq false 4) (eAp cF (ao (aq false 0) aC))))) (dO (eC .non)) gm)
 (aX (du (e2 lZ (eSl (e2 gIx (aq false 0) (aq false 4)) gU (gn (eC (.int 2)))) (aq false 5)) (tgT 2 (aP (tgN 6) (aP (tgN 7) dF))))
 (aX (sIf (eB (e2 gNe (aq false 6) (e2 gIx (aq false 3) (e1 gA (eC (.int 1)))))) (dO (eC .non)) gm)
 (zN cu 3 (uQ 3) (ao (aq false 7) aC))))))
 (uE 3))))
noncomputable def cB:List D->Option D:=fnP 1 1 ((dO (e2 gEq (eAp gZ (ao (aq false 0) aC)) (eAp cF (ao (aq false 0) aC)))))
noncomputable def di:List D->Option D:=fnP 1 1 ((dO (jJ (eAp bu (ao (aq false 0) (ao (eC (.ty "tuple")) aC))) (e2 gEq (eAp cF (ao (aq false 0) aC)) (eC (.int 2))))))
noncomputable def dJ:List D->Option D:=fnP 1 1 ((dO (jJ (eAp bu (ao (aq false 0) (ao (eC (.ty "int")) aC))) (e1 z_ (eAp bu (ao (aq false 0) (ao (eC (.ty "bool")) aC)))))))
noncomputable def gH:List D->Option D:=fnP 1 1 ((dO (jJ (eAp (fB di) (ao (aq false 0) aC)) (jJ (eAp (fB dJ) (ao (e2 gIx (aq false 0) (eC (.int 0))) aC)) (jJ (eAp (fB dJ) (ao (e2 gIx (aq false 0) (eC (.int 1))) aC)) (e2 gIn (e2 gIx (aq false 0) (eC (.int 1))) (eAp bI (ao (eC (.int 1)) (ao (e1 gA (eC (.int 1))) aC)))))))))
noncomputable def fu:List D->Option D:=fnP 1 1 ((dO (jJ (eAp bu (ao (aq false 0) (ao (eC (.ty "tuple")) aC))) (eAp vg (ao (fJ [none] (itS (aq false 0)) (tpN 0) eTT (eAp (fB gH) (ao (aq false 0) aC))) aC)))))
noncomputable def iC:List D->Option D:=fnP 2 5 ((aX (du (aq false 0) (tgT 3 (aP (tgN 2) (aP (tgN 3) (aP (tgN 4) dF)))))
 (aX (sIf (eB (e2 gEq (aq false 1) (eC (.int 1)))) (dO (eAp bI (ao (aq false 2) (ao (aq false 3) aC)))) gm)
 (dO (eAp bI (ao (aq false 3) (ao (aq false 2) aC)))))))
noncomputable def j5:List D->Option D:=fnP 3 8 ((aX (du (aq false 1) (tgN 3))
 (aX (jr (itS (aq false 2)) (tgT 2 (aP (tgN 4) (aP (tgN 5) dF))) (aX (sIf (eOr (eB (e2 gLt (aq false 4) (eC (.int 0)))) (eB (e2 gGe (aq false 4) (eAp cF (ao (aq false 0) aC))))) (dO (eC .non)) gm)
 (aX (du (eAp (fB iC) (ao (e2 gIx (aq false 0) (aq false 4)) (ao (aq false 5) aC))) (tgT 2 (aP (tgN 6) (aP (tgN 7) dF))))
 (aX (sIf (eB (e2 gNe (aq false 6) (aq false 3))) (dO (eC .non)) gm)
 (du (aq false 7) (tgN 3))))))
 (uE 3))))
noncomputable def fO:List D->Option D:=fnP 2 2 ((dO (fJ [none,none,some 0] (itS (aq false 1)) (tpT 2 (aP (tpN 0) (aP (tpN 1) dF))) eTT (e2 gIx (eAp (fB iC) (ao (e2 gIx (aq false 2) (aq false 0)) (ao (aq false 1) aC))) (eC (.int 1))))))
noncomputable def cM:List D->Option D:=fnP 4 4 ((aX (sIf (eOr (tu (nU (eAp (fB fu) (ao (aq false 3) aC)))) (eB (e2 gNe (eAp (fB j5) (ao (aq false 0) (ao (aq false 1) (ao (aq false 3) aC)))) (aq false 2)))) (dO (eC (.bl false))) gm)
 (dO (eAp (fB cB) (ao (e2 bQ (eAp aU (ao (aq false 1) aC)) (eAp (fB fO) (ao (aq false 0) (ao (aq false 3) aC)))) aC)))))
noncomputable def cO:List D->Option D:=fnP 1 2 ((aX (sIf (tu (nU (eAp bu (ao (aq false 0) (ao (eC (.ty "tuple")) aC))))) (dO (eC (.bl false))) gm)
 (aX (jr (itS (aq false 0)) (tgN 1) (aX (sIf (eOr (tu (nU (eAp bu (ao (aq false 1) (ao (eC (.ty "tuple")) aC))))) (eB (e2 gNe (eAp cF (ao (aq false 1) aC)) (eC (.int 2))))) (dO (eC (.bl false))) gm)
 (aX (sIf (tu (nU (eAp vg (ao (fJ [none] (itS (aq false 1)) (tpN 0) eTT (jJ (eAp bu (ao (aq false 0) (ao (eC (.ty "int")) aC))) (e1 z_ (eAp bu (ao (aq false 0) (ao (eC (.ty "bool")) aC)))))) aC)))) (dO (eC (.bl false))) gm)
 (sIf (eB (e2 eF (e2 gIx (aq false 1) (eC (.int 1))) (eAp bI (ao (eC (.int 1)) (ao (e1 gA (eC (.int 1))) aC))))) (dO (eC (.bl false))) gm))))
 (dO (eC (.bl true))))))
noncomputable def cQ:List D->Option D:=fnP 4 8 ((aX (du (eAp xm (ao (aq false 3) aC)) (tgN 4))
 (aX (du (eAp (fB cM) (ao (aq false 0) (ao (aq false 1) (ao (aq false 2) (ao (aq false 3) aC))))) (tgN 5))
 (aX (du (Jj (nU (eAp (fB cO) (ao (aq false 3) aC))) (eAp (fB d8) (ao (aq false 0) (ao (aq false 1) (ao (aq false 3) aC)))) (eC .non)) (tgN 6))
 (aX (du (jJ (e2 nW (aq false 6) (eC .non)) (jJ (e2 gEq (e2 gIx (aq false 6) (e1 gA (eC (.int 1)))) (aq false 2)) (e2 gEq (eAp gZ (ao (aq false 6) aC)) (eAp cF (ao (aq false 6) aC))))) (tgN 7))
 (dO (jJ (eAp bu (ao (aq false 5) (ao (eC (.ty "bool")) aC))) (jJ (e2 gEq (aq false 5) (aq false 7)) (e2 gEq (eAp xm (ao (aq false 3) aC)) (aq false 4))))))))))
noncomputable def cG:List D->Option (D×List D):=fnI (λi=>i==0) 1 2 ((aX (du (eAp aU (ao (eC .non) (ao (eC (.bl true)) (ao (eC (.bl false)) (ao (eC (.int 0)) (ao (e1 gA (eC (.int 1))) (ao (eC (.int 7)) (ao (eC (.str "")) (ao (eC (.str "a")) (ao (eC (.str "nobody")) (ao (eAp bI aC) (ao (eAp aU aC) (ao (eAp bI (ao (eC (.int 0)) aC)) (ao (eAp bI (ao (eC (.int 0)) (ao (eC (.int 1)) aC))) (ao (eAp bI (ao (eC (.int 0)) (ao (eC (.int 2)) aC))) (ao (eAp bI (ao (eC (.bl true)) (ao (eC (.int 1)) aC))) (ao (eAp bI (ao (eC (.int 0)) (ao (eC (.bl true)) aC))) (ao (eAp aU (ao (eC (.int 0)) (ao (eC (.int 1)) aC))) aC)))))))))))))))))) (tgN 1))
 (aX (sFz 1 (du (e2 bQ (aq false 1) (eAp aU (ao (eAp bI (ao (eC (.int 0)) (ao (eC (.int 1)) (ao (eC (.int 1)) aC)))) (ao (eAp bI (ao (eC (.str "a")) (ao (eC (.int 0)) aC))) (ao (eAp aU (ao (eC (.str "a")) (ao (eC (.int 0)) aC))) (ao (eAp bI (ao (eAp bI (ao (eC (.str "a")) (ao (eC (.int 0)) aC))) aC)) (ao (eAp aU (ao (eAp aU aC) aC)) (ao (eAp bI (ao (eC (.str "a")) (ao (eC .non) aC))) (ao (eAp bI (ao (eC .non) (ao (eC (.int 1)) aC))) (ao (eAp bI (ao (eC (.str "0")) (ao (eC (.int 1)) aC))) aC)))))))))) (tgN 1)))
 (sFz 1 (uy (ee2 gIx (eUp (aq false 1)) (eIo aA [0] (bT (ao (eAp cF (ao (aq false 1) aC)) aC)))))))))
noncomputable def dG:List D->Option (D×List D):=fnI (λi=>i==0) 3 5 ((aX (dD (eIo aA [0] (bT (ao (e2 bQ (eAp cF (ao (aq false 1) aC)) (eC (.int 1))) aC))) (tgN 3))
 (aX (dD (eIo aA [0] (bT (ao (eC (.int 5)) aC))) (tgN 4))
 (aX (sIf (eB (e2 gEq (aq false 4) (eC (.int 0)))) (dO (e2 bQ (eSl (aq false 1) gU (gn (aq false 3))) (eSl (aq false 1) (gn (e2 bQ (aq false 3) (eC (.int 1)))) gU))) gm)
 (aX (sIf (eB (e2 gEq (aq false 4) (eC (.int 1)))) (dO (e2 bQ (e2 bQ (eSl (aq false 1) gU (gn (aq false 3))) (eSl (aq false 1) (gn (aq false 3)) (gn (e2 bQ (aq false 3) (eC (.int 1)))))) (eSl (aq false 1) (gn (aq false 3)) gU))) gm)
 (aX (sIf (eB (e2 gEq (aq false 4) (eC (.int 2)))) (dO (e2 bQ (e2 bQ (eSl (aq false 1) gU (gn (aq false 3))) (eAp aU (ao (aq false 2) aC))) (eSl (aq false 1) (gn (e2 bQ (aq false 3) (eC (.int 1)))) gU))) gm)
 (dO (e2 bQ (e2 bQ (eSl (aq false 1) gU (gn (aq false 3))) (eAp aU (ao (aq false 2) aC))) (eSl (aq false 1) (gn (aq false 3)) gU)))))))))
noncomputable def cZ:List D->Option (D×List D):=fnI (λi=>i==0) 5 12 ((aX (dD (eIo eZ [0] (bT (ao (aq false 2) (ao (aq false 3) aC)))) (tgN 5))
 (aX (du (eAp (fB d8) (ao (aq false 2) (ao (aq false 3) (ao (aq false 5) aC)))) (tgN 6))
 (aX (du (eAp aU (ao (aq false 5) (ao (eAp rM (ao (aq false 5) aC)) (ao (eSl (aq false 5) gU (gn (e1 gA (eC (.int 1))))) (ao (e2 bQ (aq false 5) (aq false 5)) aC))))) (tgN 7))
 (aX (sFz 7 (du (e2 bQ (aq false 7) (eAp aU (ao (e2 bQ (aq false 5) (eAp eG (ao (fJ [none,none] (itS (eSl (aq false 5) (gn (e1 gA (eC (.int 1)))) gU)) (tpT 2 (aP (tpN 0) (aP (tpN 1) dF))) eTT (eAp bI (ao (aq false 0) (ao (e1 gA (aq false 1)) aC)))) aC))) (ao (eAp bI aC) aC)))) (tgN 7)))
 (aX (jr (nZ (ao (eC (.int 5)) aC)) (tgN 8) (aX (dD (eIo cG [0] (bT aC)) (tgN 9))
 (aX (wQ (eeB (ee2 gEq (eIo aA [0] (bT (ao (eC (.int 2)) aC))) (eUp (eC (.int 0))))) (dD (lF bI (bW (ee2 m_ (eIo aA [0] (bT (ao (e2 bQ (eAp cF (ao (aq false 2) aC)) (eC (.int 2))) aC))) (eUp (eC (.int 1)))) (bW (ee2 gIx (eUp (eAp aU (ao (eC (.int 1)) (ao (e1 gA (eC (.int 1))) (ao (eC (.int 0)) (ao (eC (.int 2)) aC)))))) (eIo aA [0] (bT (ao (eC (.int 4)) aC)))) (bT aC)))) (tgN 9)) gm)
 (yp cu 7 (uQ 7) (bW (lF eG (bW (eIo dG [0] (bT (ao (eAp rM (ao (aq false 5) aC)) (ao (aq false 9) aC)))) (bT aC))) (bT aC))))))
 (aX (sFz 7 (dD (ee2 bQ (eUp (aq false 7)) (lF aU (bW (eIo cG [0] (bT aC)) (bW (lF bI (bW (eIo cG [0] (bT aC)) (bT aC))) (bT (ao (eAp bI (ao (aq false 5) aC)) aC)))))) (tgN 7)))
 (aX (sFz 7 (jr (itS (aq false 7)) (tgN 10) (jr (itS (eAp bI (ao (aq false 4) (ao (e2 gIx (aq false 6) (e1 gA (eC (.int 1)))) aC)))) (tgN 11) (sIf (tu (nU (eAp (fB cQ) (ao (aq false 2) (ao (aq false 3) (ao (aq false 11) (ao (aq false 10) aC))))))) (dO (eC (.bl false))) gm))))
 (dO (eAp (fB cQ) (ao (aq false 2) (ao (aq false 3) (ao (e2 gIx (e2 bQ (aq false 6) (aq false 6)) (e2 m_ (eAp cF (ao (aq false 6) aC)) (eC (.int 2)))) (ao (eSl (aq false 5) gU (gn (e1 gA (eC (.int 1))))) aC))))))))))))))
noncomputable def iU:List D->Option D:=fnP 4 4 ((aX (sIf (eOr (tu (nU (eAp (fB cB) (ao (aq false 3) aC)))) (eOr (eB (e2 eF (aq false 1) (aq false 3))) (eB (e2 gIn (aq false 2) (aq false 3))))) (dO (eC (.bl false))) gm)
 (dO (eAp vg (ao (fJ [none,none,none,some 3] (itS (aq false 0)) (tpT 3 (aP (tpN 0) (aP (tpN 1) (aP (tpN 2) dF)))) eTT (e2 gEq (e2 gIn (aq false 0) (aq false 3)) (e2 gIn (aq false 1) (aq false 3)))) aC)))))
noncomputable def fH:List D->Option D:=fnP 1 1 ((dO (eAp bu (ao (aq false 0) (ao (eAp bI (ao (eC (.ty "list")) (ao (eC (.ty "tuple")) aC))) aC)))))
noncomputable def cz:List D->Option D:=fnP 5 5 ((aX (sIf (eOr (tu (nU (eAp (fB fH) (ao (aq false 4) aC)))) (tu (nU (eAp vg (ao (fJ [none,some 0] (itS (aq false 4)) (tpN 0) eTT (e2 Dg (aq false 0) (aq false 1))) aC))))) (dO (eC (.bl false))) gm)
 (dO (eAp (fB iU) (ao (aq false 1) (ao (aq false 2) (ao (aq false 3) (ao (aq false 4) aC))))))))
noncomputable def b_:List D->Option D:=fnP 5 9 ((aX (du (eAp xm (ao (aq false 4) aC)) (tgN 5))
 (aX (du (eAp (fB cz) (ao (aq false 0) (ao (aq false 1) (ao (aq false 2) (ao (aq false 3) (ao (aq false 4) aC)))))) (tgN 6))
 (aX (du (eAp bu (ao (aq false 4) (ao (eAp bI (ao (eC (.ty "list")) (ao (eC (.ty "tuple")) aC))) aC))) (tgN 7))
 (aX (sIf (nU (aq false 7)) (du (eAp vg (ao (fJ [none,some 0] (itS (aq false 4)) (tpN 0) eTT (jJ (eAp bu (ao (aq false 0) (ao (eC (.ty "str")) aC))) (e2 gIn (aq false 0) (aq false 1)))) aC)) (tgN 7)) gm)
 (aX (sIf (nU (aq false 7)) (du (jJ (e2 gEq (eAp gZ (ao (aq false 4) aC)) (eAp cF (ao (aq false 4) aC))) (jJ (e2 gIn (aq false 2) (aq false 4)) (e2 eF (aq false 3) (aq false 4)))) (tgN 7)) gm)
 (aX (sIf (nU (aq false 7)) (aX (du (fJ [none,some 4] (itS (aq false 1)) (tpN 0) eTT (eAp cF (ao (fJ [none,some 1] (itS (eSl (aq false 0) gU (gn (eC (.int 2))))) (tpN 0) (eB (e2 gIn (aq false 0) (aq false 1))) (eC (.int 1))) aC))) (tgN 8))
 (du (e2 eF (eC (.int 1)) (aq false 8)) (tgN 7))) gm)
 (dO (jJ (eAp bu (ao (aq false 6) (ao (eC (.ty "bool")) aC))) (jJ (e2 gEq (aq false 6) (aq false 7)) (e2 gEq (eAp xm (ao (aq false 4) aC)) (aq false 5))))))))))))
noncomputable def dW:List D->Option D:=fnP 2 8 ((aX (du (fJ [none] (itS (aq false 0)) (tpN 0) eTT (eAp aU (ao (aq false 0) aC))) (tgN 2))
 (aX (jr (itS (aq false 1)) (tgT 3 (aP (tgN 3) (aP (tgN 4) (aP (tgN 5) dF)))) (aX (sFz 2 (du (e2 gIx (fJ [none,some 3] (itS (aq false 2)) (tpN 0) (eB (e2 gIn (aq false 1) (aq false 0))) (aq false 0)) (eC (.int 0))) (tgN 6)))
 (aX (du (e2 gIx (fJ [none,some 4] (itS (aq false 2)) (tpN 0) (eB (e2 gIn (aq false 1) (aq false 0))) (aq false 0)) (eC (.int 0))) (tgN 7))
 (sIf (eB (e2 gNe (aq false 6) (aq false 7))) (du (e2 bQ (fJ [none,some 6,some 7] (itS (aq false 2)) (tpN 0) (uV (eB (e2 gNe (aq false 0) (aq false 1))) (eB (e2 gNe (aq false 0) (aq false 2)))) (aq false 0)) (eAp aU (ao (e2 bQ (aq false 6) (aq false 7)) aC))) (tgN 2)) gm))))
 (dO (eAp jG (ao (fJ [none] (itS (aq false 2)) (tpN 0) eTT (eAp jG (ao (aq false 0) aC))) aC))))))
noncomputable def cg:List D->Option (D×List D):=fnI (λi=>i==0) 5 11 ((aX (du (e2 gIx (fJ [none,some 3] (itS (eAp (fB dW) (ao (aq false 1) (ao (aq false 2) aC)))) (tpN 0) (eB (e2 gIn (aq false 1) (aq false 0))) (aq false 0)) (eC (.int 0))) (tgN 5))
 (aX (dD (pB [none,some 5,some 0] (itS (aq false 1)) (tgN 0) (Ks (yX (eB (e2 gIn (aq false 0) (aq false 1)))) (eeB (ee2 gEq (eIo aA [2] (bT (ao (eC (.int 3)) aC))) (eUp (eC (.int 0)))))) (eUp (aq false 0))) (tgN 6))
 (aX (du (fJ [none,some 5] (itS (aq false 1)) (tpN 0) (eB (e2 eF (aq false 0) (aq false 1))) (aq false 0)) (tgN 7))
 (aX (sFz 7 (sFz 6 (du (eAp aU (ao (aq false 5) (ao (eAp eG (ao (aq false 5) aC)) (ao (e2 lZ (aq false 5) (e1 gA (eC (.int 1)))) (ao (aq false 6) (ao (aq false 1) (ao (eAp aU aC) (ao (eAp aU (ao (aq false 3) aC)) (ao (eAp aU (ao (aq false 4) aC)) (ao (aq false 7) aC)))))))))) (tgN 8))))
 (aX (jr (nZ (ao (eC (.int 4)) aC)) (tgN 9) (aX (dD (ee2 gIx (lF aU (bW (eIo cG [0] (bT aC)) (bW (ee2 gIx (eUp (aq false 1)) (eIo aA [0] (bT (ao (eAp cF (ao (aq false 1) aC)) aC)))) (bT aC)))) (eIo aA [0] (bT (ao (eC (.int 2)) aC)))) (tgN 10))
 (yp cu 8 (uQ 8) (bW (eIo dG [0] (bW (ee2 gIx (eUp (eAp aU (ao (aq false 5) (ao (aq false 6) aC)))) (eIo aA [0] (bT (ao (eC (.int 2)) aC)))) (bT (ao (aq false 10) aC)))) (bT aC)))))
 (aX (sFz 8 (dD (ee2 bQ (eUp (aq false 8)) (lF aU (bW (eIo cG [0] (bT aC)) (bW (lF aU (bW (eIo cG [0] (bT aC)) (bT aC))) (bT (ao (aq false 3) aC)))))) (tgN 8)))
 (sFz 8 (dO (eAp vg (ao (fJ [none,some 1,some 2,some 3,some 4] (itS (aq false 8)) (tpN 0) eTT (eAp (fB b_) (ao (aq false 1) (ao (aq false 2) (ao (aq false 3) (ao (aq false 4) (ao (aq false 0) aC))))))) aC)))))))))))
noncomputable def mq:List D->Option D:=fnP 1 8 ((aX (jr (nZ (ao (e2 bQ (eC (.int 1)) (eAp pO (ao (eC (.int 8)) (ao (eAp cF (ao (aq false 0) aC)) aC)))) aC)) (tgN 1) (aX (du (eAp (fB eO) (ao (aq false 0) (ao (aq false 1) aC))) (tgN 2))
 (aX (dD (ee2 bQ (eIo fP [2] (bT aC)) (eUp (eAp aU (ao (eC (.str "last")) aC)))) (tgN 3))
 (aX (dD (eIo dH [2] (bW (eUp (aq false 3)) (bW (eIo gk [2] (bT aC)) (bT aC)))) (tgN 4))
 (aX (sFz 4 (sFz 3 (dD (ee2 gIx (eUp (eAp aU (ao (eAp bI (ao (aq false 3) (ao (aq false 4) aC))) (ao (eAp bI (ao (eAp eG (ao (aq false 3) aC)) (ao (eAp eG (ao (aq false 4) aC)) aC))) aC)))) (eIo aA [2] (bT (ao (eC (.int 2)) aC)))) (tgT 2 (aP (tgN 3) (aP (tgN 4) dF))))))
 (jr (nZ (ao (eC (.int 4)) aC)) (tgN 5) (aX (oA (bW (ee2 gIx (eUp (aq false 3)) (eIo aA [2] (bT (ao (eAp cF (ao (aq false 3) aC)) aC)))) (bW (ee2 gIx (eUp (aq false 3)) (eIo aA [2] (bT (ao (eAp cF (ao (aq false 3) aC)) aC)))) (bT aC))) (aP (tgN 6) (aP (tgN 7) dF)))
 (aX (wQ (xJ (yz (eIo cZ [2] (bT (ao (aq false 3) (ao (aq false 4) (ao (aq false 6) (ao (aq false 7) aC)))))))) (dO (eC (.bl false))) gm)
 (wQ (xJ (yz (eIo cg [2] (bT (ao (aq false 3) (ao (aq false 4) (ao (aq false 6) (ao (aq false 7) aC)))))))) (dO (eC (.bl false))) gm)))))))))
 (dO (eC (.bl true)))))
def top(i:Nat):Stmt:=PySem.Challenge.pw_joinback_k09_ways_and_partings_shown.main.body.getD i (.Pass ⟨0,0,0,0⟩)
local macro_rules
 |`(tactic|trivial)=>`(tactic|exact⟨rfl,by decide +kernel,by decide +kernel,by decide +kernel,rfl,by decide +kernel⟩)
open PySem.W (Frag nsIn fnOf keepIn codeIn mg_of mg_none_of)
abbrev nl0:List Str:=["thing"]
abbrev nl1:List Str:=["_law_tape_here"]
abbrev nl2:List Str:=["_law_tape_here","_law_names_here","_law_joinings_here","_law_one","_law_other"]
abbrev nl3:List Str:=["joinings","way"]
abbrev nl4:List Str:=["joinings","one","other","some"]
abbrev nl5:List Str:=["names","joinings","one","other","some"]
abbrev nl6:List Str:=["_law_names_here","_law_joinings_here","_law_groups","_law_one","_law_other","_law_step","_law_first","_law_second"]
abbrev nl7:List Str:=["things"]
abbrev nl8:List Str:=["joinings","one","other","way"]
abbrev nl9:List Str:=["_law_tape_here","_law_names_here","_law_joinings_here","_law_one","_law_other","_law_own","_law_more","_law_others","_law_some","_law_again","_law_thing"]
abbrev Pq:List Str:=["_law_script","_law_k"]
abbrev Oh:List Str:=["_law_tape_here","_law_many"]
abbrev Ow:List Str:=["_law_tape_here","_law_names_here","_law_turn_here"]
abbrev N5:List Str:=["_law_tape_here","_law_joinings_here","_law_name"]
abbrev Ou:List Str:=["_law_joinings_here","_law_name","_law_way"]
abbrev NZ:List Str:=["joining","side"]
abbrev PN:List Str:=["joinings","name","way"]
abbrev Nj:List Str:=["_law_thing"]
abbrev N_:List Str:=["_law_joinings_here","_law_one","_law_other","_law_way"]
abbrev Mr:List Str:=["_law_tape_here","_law_some","_law_thing"]
abbrev NB:List Str:=["_law_names_here","_law_joinings_here","_law_one","_law_other","_law_some"]
abbrev Mt:List Str:=["_law_names_here","_law_joinings_here"]
abbrev P0:List Str:=["_law_group","_law_one"]
abbrev MF:List Str:=["_law_script"]
abbrev Td:List Str:=["_law_tape_here","_law_joinings_here","_law_name","_law_way","_law_met_here","_law_turn_here","_law_some","_law_number","_law_joining","_law_side","_law_begin","_law_end","_law_taken","_law_home","_law_pick"]
abbrev Rx:List Str:=["_law_names_here","_law_joinings_here","_law_one","_law_other","_law_some","_law_kept","_law_found","_law_due","_law_ends"]
abbrev Rz:List Str:=["_law_joining","_law_some"]
abbrev Uy:List Str:=["_law_tape_here","_law_names_here","_law_turn_here","_law_found","_law_wide","_law_kept","_law_slips","_law_turn_by","_law_one","_law_other","_law_way","_law_step"]
abbrev Uu:List Str:=["_law_name","_law_wide","_law_tape_here"]
abbrev Vm:List Str:=["_law_tape_here","_law_some","_law_first","_law_many"]
abbrev Vi:List Str:=["_law_k","_law_some","_law_first"]
abbrev T7:List Str:=["_law_tape_here","_law_names_here","_law_joinings_here","_law_one","_law_other","_law_way","_law_met_here","_law_some","_law_again","_law_thing","_law_paper","_law_end"]
abbrev Us:List Str:=["begin","end","step","some"]
abbrev Ui:List Str:=["_law_name","_law_names_here"]
abbrev TY:List Str:=["_law_group","_law_first","_law_second"]
abbrev UW:List Str:=["_law_name","_law_own","_law_tape_here"]
abbrev T4:List Str:=["_law_paper","_law_names_here","_law_joinings_here","_law_one","_law_other"]
abbrev ob0:Nat->Bool:=λi=>i==0
abbrev dI(P:Program)(w:World)(K:Frag)(mg:Str->Option Value)(base:Heap):Prop:=Cal P w K mg base 1 "_law_draw" Oh (spI ⟨K,mg⟩ ob0 ob0 aA)
abbrev ug(P:Program)(w:World)(K:Frag)(mg:Str->Option Value)(base:Heap):Prop:=Cal P w K mg base 1 "is_couple" nl0 (spP ⟨K,mg⟩ di)
abbrev uG(P:Program)(w:World)(K:Frag)(mg:Str->Option Value)(base:Heap):Prop:=Cal P w K mg base 1 "is_number" nl0 (spP ⟨K,mg⟩ dJ)
abbrev yc(P:Program)(w:World)(K:Frag)(mg:Str->Option Value)(base:Heap):Prop:=Cal P w K mg base 2 "is_pair" nl0 (spP ⟨K,mg⟩ gH)
abbrev Dw(P:Program)(w:World)(K:Frag)(mg:Str->Option Value)(base:Heap):Prop:=Cal P w K mg base 1 "ends" NZ (spP ⟨K,mg⟩ iC)
abbrev l_(P:Program)(w:World)(K:Frag)(mg:Str->Option Value)(base:Heap):Prop:=Cal P w K mg base 1 "are_unlike" nl7 (spP ⟨K,mg⟩ cB)
abbrev Cy(P:Program)(w:World)(K:Frag)(mg:Str->Option Value)(base:Heap):Prop:=Cal P w K mg base 3 "is_way" nl0 (spP ⟨K,mg⟩ fu)
abbrev QB(P:Program)(w:World)(K:Frag)(mg:Str->Option Value)(base:Heap):Prop:=Cal P w K mg base 2 "led" PN (spP ⟨K,mg⟩ j5)
abbrev ut(P:Program)(w:World)(K:Frag)(mg:Str->Option Value)(base:Heap):Prop:=Cal P w K mg base 2 "names_met" nl3 (spP ⟨K,mg⟩ fO)
abbrev uw(P:Program)(w:World)(K:Frag)(mg:Str->Option Value)(base:Heap):Prop:=Cal P w K mg base 4 "shows_way" nl8 (spP ⟨K,mg⟩ cM)
abbrev pW(P:Program)(w:World)(K:Frag)(mg:Str->Option Value)(base:Heap):Prop:=Cal P w K mg base 1 "_law_is_way" Nj (spP ⟨K,mg⟩ cO)
abbrev ql(P:Program)(w:World)(K:Frag)(mg:Str->Option Value)(base:Heap):Prop:=Cal P w K mg base 1 "_law_met" Ou (spP ⟨K,mg⟩ d8)
abbrev pN(P:Program)(w:World)(K:Frag)(mg:Str->Option Value)(base:Heap):Prop:=Cal P w K mg base 2 "_law_way_on" N5 (spI ⟨K,mg⟩ ob0 ob0 eZ)
abbrev mV(P:Program)(w:World)(K:Frag)(mg:Str->Option Value)(base:Heap):Prop:=Cal P w K mg base 5 "_law_says_way" N_ (spP ⟨K,mg⟩ cQ)
abbrev qz(P:Program)(w:World)(K:Frag)(mg:Str->Option Value)(base:Heap):Prop:=Cal P w K mg base 2 "_law_odd" nl1 (spI ⟨K,mg⟩ ob0 ob0 cG)
abbrev oX(P:Program)(w:World)(K:Frag)(mg:Str->Option Value)(base:Heap):Prop:=Cal P w K mg base 2 "_law_bent" Mr (spI ⟨K,mg⟩ ob0 ob0 dG)
abbrev EY(P:Program)(w:World)(K:Frag)(mg:Str->Option Value)(base:Heap):Prop:=Cal P w K mg base 2 "parts" nl4 (spP ⟨K,mg⟩ iU)
abbrev uA(P:Program)(w:World)(K:Frag)(mg:Str->Option Value)(base:Heap):Prop:=Cal P w K mg base 1 "is_listed" nl0 (spP ⟨K,mg⟩ fH)
abbrev nT(P:Program)(w:World)(K:Frag)(mg:Str->Option Value)(base:Heap):Prop:=Cal P w K mg base 3 "shows_parted" nl5 (spP ⟨K,mg⟩ cz)
abbrev jV(P:Program)(w:World)(K:Frag)(mg:Str->Option Value)(base:Heap):Prop:=Cal P w K mg base 4 "_law_says_parted" NB (spP ⟨K,mg⟩ b_)
abbrev oU(P:Program)(w:World)(K:Frag)(mg:Str->Option Value)(base:Heap):Prop:=Cal P w K mg base 1 "_law_classes" Mt (spP ⟨K,mg⟩ dW)
abbrev uz(P:Program)(w:World)(K:Frag)(mg:Str->Option Value)(base:Heap):Prop:=Cal P w K mg base 1 "_law_tape" Pq (spP ⟨K,mg⟩ eO)
abbrev m8(P:Program)(w:World)(K:Frag)(mg:Str->Option Value)(base:Heap):Prop:=Cal P w K mg base 2 "_law_joinings" Ow (spI ⟨K,mg⟩ ob0 ob0 dH)
abbrev qN(P:Program)(w:World)(K:Frag)(mg:Str->Option Value)(base:Heap):Prop:=Cal P w K mg base 2 "_law_names" nl1 (spI ⟨K,mg⟩ ob0 ob0 fP)
abbrev uh(P:Program)(w:World)(K:Frag)(mg:Str->Option Value)(base:Heap):Prop:=Cal P w K mg base 2 "_law_turn" nl1 (spI ⟨K,mg⟩ ob0 ob0 gk)
abbrev kZ(P:Program)(w:World)(K:Frag)(mg:Str->Option Value)(base:Heap):Prop:=Cal P w K mg base 6 "_law_ways_right" nl2 (spI ⟨K,mg⟩ ob0 ob0 cZ)
abbrev jd(P:Program)(w:World)(K:Frag)(mg:Str->Option Value)(base:Heap):Prop:=Cal P w K mg base 5 "_law_partings_right" nl2 (spI ⟨K,mg⟩ ob0 ob0 cg)
abbrev jj:Stmt:=top 15
abbrev jh:Stmt:=top 16
abbrev dR:Stmt:=top 20
abbrev gG:Stmt:=top 18
abbrev jg:Stmt:=top 19
abbrev eX:Stmt:=top 25
abbrev jO:Stmt:=top 22
abbrev gO:Stmt:=top 9
abbrev iB:Stmt:=top 6
abbrev iH:Stmt:=top 4
abbrev jN:Stmt:=top 7
abbrev jT:Stmt:=top 8
abbrev tB:Stmt:=top 1
abbrev xT:Stmt:=top 2
abbrev gK:Stmt:=top 10
abbrev iD:Stmt:=top 11
abbrev gf:Stmt:=top 26
abbrev fV:Stmt:=top 27
abbrev jQ:Stmt:=top 23
abbrev jm:Stmt:=top 24
abbrev dm:Stmt:=top 29
abbrev mH:Stmt:=top 12
abbrev iz:Stmt:=top 5
abbrev dX:Stmt:=top 13
abbrev cA:Stmt:=top 28
abbrev cH:Stmt:=top 21
abbrev a_:Stmt:=top 30
abbrev qO:Stmt:=top 31
structure Blt(mg:Str->Option Value):Prop where
 abs:mg "abs"=none
 all:mg "all"=none
 bool_:mg "bool"=none
 dict:mg "dict"=none
 enumerate:mg "enumerate"=none
 int_:mg "int"=none
 isinstance:mg "isinstance"=none
 len:mg "len"=none
 list_:mg "list"=none
 min:mg "min"=none
 range:mg "range"=none
 set_:mg "set"=none
 sorted:mg "sorted"=none
 str_:mg "str"=none
 tuple:mg "tuple"=none
theorem aM{k:Nat}{A:Around}(r:jK k A):A.units+1<cLine:=by have:=r.units;omega
theorem FJ{k:Nat}{A:Around}(r:jK k A):A.units+2<cLine:=by have:=r.units;omega
section
variable{P:Program}{w:World}{K:Frag}{mg:Str->Option Value}{base:Heap}
theorem uB:bC ["_law_script","_law_k","_law_cell","_law_digits"] Pq (aB jj):=⟨rfl,rfl,rfl,by decide +kernel,rfl,by decide +kernel,by decide +kernel⟩
theorem Az{f:Addr}{fd:FuncData}(F:Fun K "_law_tape" "_law_tape" jj f fd)(B:Blt mg):fj P w K mg base CX0 1 f fd Pq (spP ⟨K,mg⟩ eO):=by
 have nd:∀_:Unit,_:=λ_=>uB.nd;refine okP (k:=0) (ob:=(λi=>false)) (Pr:=λ_=>false) F uB λcdv A outer s H E hr=>?_;exact(az (bH 2 nd au)
  (az (cU (bj Ii (aj false 1) (aO cN (λ_=>rfl) (λ_=>B.len) boot_len (aa (aj false 0) ak))) (aL (bH 2 nd (eE (ixb (λ_=>aM hr)) (aj false 0) (aj false 1)))) bD)
  (az (bH 3 nd (bK lB (aO FZ (λ_=>rfl) (λ_=>B.abs) boot_abs (aa (aj false 2) ak)) (dM PL (λ_=>rfl) (λ_=>B.int_) boot_int (aa (fU Qx (aO FZ (λ_=>rfl) (λ_=>B.abs) boot_abs (aa (aj false 2) ak)) (bK Ef au au)) ak))))
  (aL (aW (bN (aa (aj false 3) (aa (bK nP (bK lB (bK bZ (bK bZ (bK nP (aj false 2) au) (bK lB au (aj false 1))) au) au) au) ak))))))))
theorem uv:bC ["_law_tape_here","_law_many","_law_found","_law_once"] Oh (aB jh):=⟨rfl,rfl,rfl,by decide +kernel,rfl,by decide +kernel,by decide +kernel⟩
theorem Bc{f:Addr}{fd:FuncData}(F:Fun K "_law_draw" "_law_draw" jh f fd)(B:Blt mg):fj P w K mg base CX0 1 f fd Oh (spI ⟨K,mg⟩ ob0 ob0 aA):=by
 have nd:∀_:Unit,_:=λ_=>uv.nd;refine okI (k:=0) (ob:=ob0) (pr:=ob0) F uv λcdv A outer s H E hr=>?_;exact(az (cU (bj Ql (eE (ixb (λ_=>aM hr)) (aj true 0) au) au) (az (bH 2 nd (bK nP (eE (ixb (λ_=>aM hr)) (aj true 0) au) (aj false 1)))
  (az (pF (bK Ft (eE (ixb (λ_=>aM hr)) (aj true 0) au) (aj false 1)) (Ge (Ew (λ_=>aM hr)) (jH 0) au))
  (aL (qW 2)))) bD)
  (az (pF (bK nP (bK bZ (bK lB (eE (ixb (λ_=>aM hr)) (aj true 0) au) au) au) au) (Ge (Ew (λ_=>aM hr)) (jH 0) au))
  (az (bH 3 nd (bK nP (bK lB (eE (ixb (λ_=>aM hr)) (aj true 0) au) (bK bZ (bK nP (eE (ixb (λ_=>aM hr)) (aj true 0) au) au) au)) au))
  (aL (aW (bK nP (bK Ft (aj false 3) au) (aj false 1)))))))
theorem m5:bC Uy Ow (aB dR):=⟨rfl,rfl,rfl,by decide +kernel,rfl,by decide +kernel,by decide +kernel⟩
def qu:Scope:={kind:=.function,names:=[(".0",.local),("_law_name",.local),("_law_draw",.globalImplicit),("_law_tape_here",.free),("_law_wide",.free)],isGenerator:=false,isCoroutine:=false}
theorem qQ:(Uu:List Str).Nodup:=by decide +kernel
theorem qL:bR (aB dR) Uy Uu qu [none,some 4,some 0]:=by trivial
theorem vm{f:Addr}{fd:FuncData}(F:Fun K "_law_joinings" "_law_joinings" dR f fd)(B:Blt mg)(c_law_draw:dI P w K mg base):fj P w K mg base CX0 2 f fd Ow (spI ⟨K,mg⟩ ob0 ob0 dH):=by
 have nd:∀_:Unit,_:=λ_=>m5.nd;refine okI (k:=1) (ob:=ob0) (pr:=ob0) F m5 λcdv A outer s H E hr=>?_;exact(az (bH 3 nd (bN ak))
  (az (cJ 4 nd (fZ (ixb (λ_=>aM hr)) (bO (bN (aa au (aa au (aa au (aa au (aa au (aa (bK lB au (bK Ef au au)) ak)))))))) (bf [0] (λ_=>c_law_draw) (λ_=>hr.mono (by decide)) (aQ 0 (aR (aN (aa au ak)))))))
  (az (cJ 5 nd (wH (K_ (λ_=>rfl)) (λ_=>rfl) (λ_=>B.dict) boot_dict (aZ (Kw [none,some 4,some 0] ob0 (λ_=>rfl) (λ_=>rfl) (λ_=>qL) (Gp rfl) (cW rfl) (bV (aj false 1)) (xY 0 (λ_=>qQ)) eY (zQ (aZ (bO (aj false 0)) (aZ (j7 vZ (bf [2] (λ_=>c_law_draw) (λ_=>hr.mono (by decide)) (aQ 2 (aR (aN (aa (bK lB au (aj false 1)) ak))))) (bO (aj false 1))) (aN ak))))) (aN ak))))
  (az (cJ 6 nd (fZ (ixb (λ_=>aM hr)) (bO (bN (aa au (aa au (aa au (aa au ak)))))) (bf [0] (λ_=>c_law_draw) (λ_=>hr.mono (by decide)) (aQ 0 (aR (aN (aa au ak)))))))
  (az (Km (λ_=>PassesOwn.never) (λ_=>rfl) (Nx (λ_=>rfl) (λ_=>B.range) (aZ (bf [0] (λ_=>c_law_draw) (λ_=>hr.mono (by decide)) (aQ 0 (aR (aN (aa (bK bZ (bK lB au (aO cN (λ_=>rfl) (λ_=>B.len) boot_len (aa (aj false 1) ak))) au) ak))))) (aN ak))) (aY 7 nd) (az (BW 8 9 (λ_=>rfl) nd (aZ (fZ (ixb (λ_=>aM hr)) (bO (aj false 1)) (bf [0] (λ_=>c_law_draw) (λ_=>hr.mono (by decide)) (aQ 0 (aR (aN (aa (aO cN (λ_=>rfl) (λ_=>B.len) boot_len (aa (aj false 1) ak)) ak)))))) (aZ (fZ (ixb (λ_=>aM hr)) (bO (aj false 1)) (bf [0] (λ_=>c_law_draw) (λ_=>hr.mono (by decide)) (aQ 0 (aR (aN (aa (aO cN (λ_=>rfl) (λ_=>B.len) boot_len (aa (aj false 1) ak)) ak)))))) (aN ak))))
  (az (cJ 10 nd (bf [0] (λ_=>c_law_draw) (λ_=>hr.mono (by decide)) (aQ 0 (aR (aN (aa au ak))))))
  (az (cU (bj (cb_eq _ (λ_=>rfl) hr.units) (aj false 10) au) (aL (bH 9 nd (aj false 8))) bD)
  (az (cU (rW (qP (bj (cb_eq _ (λ_=>rfl) hr.units) (aj false 10) au) (rz (bj (oE _ (λ_=>rfl) hr.units) (aj false 3) (bN ak))))) (aL (vJ (yj slb (fZ (ixb (λ_=>aM hr)) (bO (aj false 3)) (bf [0] (λ_=>c_law_draw) (λ_=>hr.mono (by decide)) (aQ 0 (aR (aN (aa (aO cN (λ_=>rfl) (λ_=>B.len) boot_len (aa (aj false 3) ak)) ak)))))) cY (cI au)) (iV (λ_=>rfl) (bA (aY 8 nd) (bA (aY 9 nd) gF))))) bD)
  (az (cU (rW (qP (bj (cb_eq _ (λ_=>rfl) hr.units) (aj false 10) au) (rz (bj (oE _ (λ_=>rfl) hr.units) (aj false 3) (bN ak))))) (aL (vJ (yj slb (fZ (ixb (λ_=>aM hr)) (bO (aj false 3)) (bf [0] (λ_=>c_law_draw) (λ_=>hr.mono (by decide)) (aQ 0 (aR (aN (aa (aO cN (λ_=>rfl) (λ_=>B.len) boot_len (aa (aj false 3) ak)) ak)))))) cY (cI au)) (iV (λ_=>rfl) (bA (aY 9 nd) (bA (aY 8 nd) gF))))) bD)
  (az (cJ 11 nd (j7 bZ (bO (bK vZ (eE (ixb (λ_=>aM hr)) (aj false 5) (aj false 9)) (eE (ixb (λ_=>aM hr)) (aj false 5) (aj false 8)))) (j7 lB (bO (aj false 2)) (j7 vZ (bf [0] (λ_=>c_law_draw) (λ_=>hr.mono (by decide)) (aQ 0 (aR (aN (aa au ak))))) (bO au)))))
  (az (rJ (DX (Cd (zb (bj Ql (aj false 6) au)) (yM (qR (cb_eq _ (λ_=>rfl) hr.units) (bf [0] (λ_=>c_law_draw) (λ_=>hr.mono (by decide)) (aQ 0 (aR (aN (aa (aj false 6) ak))))) (bO au))))) (aL (cJ 11 nd (j7 bZ (bO (aj false 11)) (fZ (ixb (λ_=>aM hr)) (bO (bN (aa au (aa (j_ ie au) (aa au (aa (bK Ef au au) ak)))))) (bf [0] (λ_=>c_law_draw) (λ_=>hr.mono (by decide)) (aQ 0 (aR (aN (aa au ak))))))))) bD)
  (aL (qX iu PySem.F.plainAttrs_list PySem.F.slot_list_append PySem.F.type_list_append (jH 3) (aa (cT (aa (aj false 8) (aa (aj false 9) (aa (aj false 11) ak)))) ak)))))))))))
  (aL (qW 3)))))))
theorem qU:bC Vm nl1 (aB gG):=⟨rfl,rfl,rfl,by decide +kernel,rfl,by decide +kernel,by decide +kernel⟩
def u9:Scope:={kind:=.function,names:=[(".0",.local),("_law_k",.local),("_law_first",.free),("_law_some",.free)],isGenerator:=false,isCoroutine:=false}
theorem wJ:(Vi:List Str).Nodup:=by decide +kernel
theorem wG:bR (aB gG) Vm Vi u9 [none,some 1,some 2]:=by trivial
theorem zZ{f:Addr}{fd:FuncData}(F:Fun K "_law_names" "_law_names" gG f fd)(B:Blt mg)(c_law_draw:dI P w K mg base):fj P w K mg base CX0 2 f fd nl1 (spI ⟨K,mg⟩ ob0 ob0 fP):=by
 have nd:∀_:Unit,_:=λ_=>qU.nd;refine okI (k:=1) (ob:=ob0) (pr:=ob0) F qU λcdv A outer s H E hr=>?_;exact(az (bH 1 nd (Ux HB PySem.F.plainAttrs_str PySem.F.slot_str_split PySem.F.type_str_split j4 (aa j4 ak)))
  (az (cJ 2 nd (bf [0] (λ_=>c_law_draw) (λ_=>hr.mono (by decide)) (aQ 0 (aR (aN (aa au ak))))))
  (az (cJ 3 nd (fZ (ixb (λ_=>aM hr)) (qG (aZ (bf [0] (λ_=>c_law_draw) (λ_=>hr.mono (by decide)) (aQ 0 (aR (aN (aa au ak))))) (aZ (j7 bZ (bO au) (bf [0] (λ_=>c_law_draw) (λ_=>hr.mono (by decide)) (aQ 0 (aR (aN (aa au ak)))))) (aZ (j7 bZ (bO au) (bf [0] (λ_=>c_law_draw) (λ_=>hr.mono (by decide)) (aQ 0 (aR (aN (aa au ak)))))) (aN ak))))) (Hw (Ao (λ_=>rfl)) (λ_=>rfl) (λ_=>B.min) boot_min (aZ (bO au) (aZ (bf [0] (λ_=>c_law_draw) (λ_=>hr.mono (by decide)) (aQ 0 (aR (aN (aa au ak))))) (aN ak))))))
  (aL (aW (fX [none,some 1,some 2] ob0 (λ_=>rfl) (λ_=>rfl) (λ_=>wG) (cW rfl) (sE (λ_=>rfl) (λ_=>B.range) (aa (aj false 3) ak)) (bz 0 (λ_=>wJ)) eY (eE (ixb (λ_=>aM hr)) (aj false 1) (bK nP (bK bZ (aj false 2) (bK lB au (aj false 0))) au))))))))
theorem uD:bC nl1 nl1 (aB jg):=⟨rfl,rfl,rfl,by decide +kernel,rfl,by decide +kernel,by decide +kernel⟩
theorem Af{f:Addr}{fd:FuncData}(F:Fun K "_law_turn" "_law_turn" jg f fd)(B:Blt mg)(c_law_draw:dI P w K mg base):fj P w K mg base CX0 2 f fd nl1 (spI ⟨K,mg⟩ ob0 ob0 gk):=by
 have nd:∀_:Unit,_:=λ_=>uD.nd;refine okI (k:=1) (ob:=ob0) (pr:=ob0) F uD λcdv A outer s H E hr=>?_;exact(aL (Bo (fZ (ixb (λ_=>aM hr)) (bO (bN (aa au (aa au (aa au (aa au (aa au (aa au (aa au (aa au ak)))))))))) (bf [0] (λ_=>c_law_draw) (λ_=>hr.mono (by decide)) (aQ 0 (aR (aN (aa au ak))))))))
theorem pX:bC Td N5 (aB eX):=⟨rfl,rfl,rfl,by decide +kernel,rfl,by decide +kernel,by decide +kernel⟩
def tM:Scope:={kind:=.function,names:=[(".0",.local),("_law_pair",.local)],isGenerator:=false,isCoroutine:=false}
theorem u_:(["_law_pair"]:List Str).Nodup:=by decide +kernel
theorem uT:bR (aB eX) Td ["_law_pair"] tM [none]:=by trivial
def tX:Scope:={kind:=.function,names:=[(".0",.local),("_law_one",.local),("_law_name",.free)],isGenerator:=false,isCoroutine:=false}
theorem vd:(["_law_one","_law_name"]:List Str).Nodup:=by decide +kernel
theorem uR:bR (aB eX) Td ["_law_one","_law_name"] tX [none,some 2]:=by trivial
theorem xj{f:Addr}{fd:FuncData}(F:Fun K "_law_way_on" "_law_way_on" eX f fd)(B:Blt mg)(c_law_draw:dI P w K mg base):fj P w K mg base CX0 2 f fd N5 (spI ⟨K,mg⟩ ob0 ob0 eZ):=by
 have nd:∀_:Unit,_:=λ_=>pX.nd;refine okI (k:=1) (ob:=ob0) (pr:=ob0) F pX λcdv A outer s H E hr=>?_;exact(az (OD 3 4 (λ_=>rfl) nd (aa (bN ak) (aa (bN (aa (aj false 2) ak)) ak)))
  (az (gP (λ_=>PassesOwn.never) (λ_=>rfl) (sE (λ_=>rfl) (λ_=>B.range) (aa au ak)) (aY 5 nd) (az (bH 6 nd (bN ak))
  (az (gP (λ_=>PassesOwn.never) (λ_=>rfl) (J4 (λ_=>rfl) (λ_=>B.enumerate) (aa (aj false 1) ak)) (iV (λ_=>rfl) (bA (aY 7 nd) (bA (aY 8 nd) gF))) (aL (gP (λ_=>PassesOwn.never) (λ_=>rfl) (bV (cT (aa au (aa (j_ ie au) ak)))) (aY 9 nd) (az (pF (zu (dw slb (aj false 8) cY (cI au)) (aj false 9)) (iV (λ_=>rfl) (bA (aY 10 nd) (bA (aY 11 nd) gF))))
  (az (nO 12 [none] ob0 nd (λ_=>rfl) (λ_=>rfl) (λ_=>uT) (cW rfl) (bV (aj false 3)) (bz 0 (λ_=>u_)) eY (eE (ixb (λ_=>aM hr)) (aj false 0) au))
  (aL (cU (rW (qP (bj (cb_eq _ (λ_=>rfl) hr.units) (aj false 10) (eE (ixb (λ_=>aM hr)) (aj false 4) (j_ ie au))) (qP (bj (jY (λ_=>aM hr)) (aj false 11) (dw slb (aj false 4) (cI au) cY)) (rz (bj (jY (λ_=>aM hr)) (aj false 7) (aj false 12)))))) (aL (qX iu PySem.F.plainAttrs_list PySem.F.slot_list_append PySem.F.type_list_append (jH 6) (aa (cT (aa (aj false 7) (aa (aj false 9) (aa (aj false 11) ak)))) ak))) bD)))))))
  (aL (cU (bj (oE _ (λ_=>rfl) hr.units) (aj false 6) (bN ak)) (az (nO 13 [none,some 2] ob0 nd (λ_=>rfl) (λ_=>rfl) (λ_=>uR) (cW rfl) (bV (aj false 6)) (bz 0 (λ_=>vd)) (jX (bj (cb_eq _ (λ_=>rfl) hr.units) (eE (ixb (λ_=>aM hr)) (aj false 0) au) (aj false 1))) (aj false 0))
  (az (cJ 14 nd (fZ (ixb (λ_=>aM hr)) (bO (aj false 6)) (bf [0] (λ_=>c_law_draw) (λ_=>hr.mono (by decide)) (aQ 0 (aR (aN (aa (aO cN (λ_=>rfl) (λ_=>B.len) boot_len (aa (aj false 6) ak)) ak)))))))
  (az (rJ (DX (Cd (zb (bj (oE _ (λ_=>rfl) hr.units) (aj false 13) (bN ak))) (yM (qR (cb_eq _ (λ_=>rfl) hr.units) (bf [0] (λ_=>c_law_draw) (λ_=>hr.mono (by decide)) (aQ 0 (aR (aN (aa au ak))))) (bO au))))) (aL (cJ 14 nd (fZ (ixb (λ_=>aM hr)) (bO (aj false 13)) (bf [0] (λ_=>c_law_draw) (λ_=>hr.mono (by decide)) (aQ 0 (aR (aN (aa (aO cN (λ_=>rfl) (λ_=>B.len) boot_len (aa (aj false 13) ak)) ak)))))))) bD)
  (az (qX iu PySem.F.plainAttrs_list PySem.F.slot_list_append PySem.F.type_list_append (jH 3) (aa (dw slb (aj false 14) cY (cI au)) ak))
  (az (qX iu PySem.F.plainAttrs_list PySem.F.slot_list_append PySem.F.type_list_append (jH 4) (aa (eE (ixb (λ_=>aM hr)) (aj false 14) au) ak))
  (aL (cU (bj (cb_eq _ (λ_=>rfl) hr.units) (eE (ixb (λ_=>aM hr)) (aj false 14) au) (aj false 2)) (aL (aW (dM jn (λ_=>rfl) (λ_=>B.tuple) boot_tuple (aa (aj false 3) ak)))) bD))))))) bD)))))
  (aL (aW (dM jn (λ_=>rfl) (λ_=>B.tuple) boot_tuple (aa (aj false 3) ak))))))
theorem wZ:bC ["_law_joinings_here","_law_name","_law_way","_law_met_here","_law_number","_law_side","_law_begin","_law_end"] Ou (aB jO):=⟨rfl,rfl,rfl,by decide +kernel,rfl,by decide +kernel,by decide +kernel⟩
theorem Do{f:Addr}{fd:FuncData}(F:Fun K "_law_met" "_law_met" jO f fd)(B:Blt mg):fj P w K mg base CX0 1 f fd Ou (spP ⟨K,mg⟩ d8):=by
 have nd:∀_:Unit,_:=λ_=>wZ.nd;refine okP (k:=0) (ob:=(λi=>false)) (Pr:=λ_=>false) F wZ λcdv A outer s H E hr=>?_;exact(az (bH 3 nd (bN (aa (aj false 1) ak)))
  (az (gP (λ_=>PassesOwn.never) (λ_=>rfl) (bV (aj false 2)) (iV (λ_=>rfl) (bA (aY 4 nd) (bA (aY 5 nd) gF))) (az (cU (jM (Hj Tv Ii au (aj false 4) (aO cN (λ_=>rfl) (λ_=>B.len) boot_len (aa (aj false 0) ak)))) (aL (aW mQ)) bD)
  (az (pF (zu (dw slb (eE (ixb (λ_=>aM hr)) (aj false 0) (aj false 4)) cY (cI au)) (aj false 5)) (iV (λ_=>rfl) (bA (aY 6 nd) (bA (aY 7 nd) gF))))
  (az (cU (bj (oE _ (λ_=>rfl) hr.units) (aj false 6) (eE (ixb (λ_=>aM hr)) (aj false 3) (j_ ie au))) (aL (aW mQ)) bD)
  (aL (qX iu PySem.F.plainAttrs_list PySem.F.slot_list_append PySem.F.type_list_append (jH 3) (aa (aj false 7) ak)))))))
  (aL (qW 3))))
theorem pQ:bC nl7 nl7 (aB gO):=⟨rfl,rfl,rfl,by decide +kernel,rfl,by decide +kernel,by decide +kernel⟩
theorem xu{f:Addr}{fd:FuncData}(F:Fun K "are_unlike" "are_unlike" gO f fd)(B:Blt mg):fj P w K mg base CX0 1 f fd nl7 (spP ⟨K,mg⟩ cB):=by
 have nd:∀_:Unit,_:=λ_=>pQ.nd;refine okP (k:=0) (ob:=(λi=>false)) (Pr:=λ_=>false) F pQ λcdv A outer s H E hr=>?_;exact(aL (aW (fU (cb_eq _ (λ_=>rfl) hr.units) (tL (λ_=>rfl) (λ_=>B.len) (λ_=>B.set_) (aa (aj false 0) ak)) (aO cN (λ_=>rfl) (λ_=>B.len) boot_len (aa (aj false 0) ak)))))
theorem rT:bC nl0 nl0 (aB iB):=⟨rfl,rfl,rfl,by decide +kernel,rfl,by decide +kernel,by decide +kernel⟩
theorem zf{f:Addr}{fd:FuncData}(F:Fun K "is_couple" "is_couple" iB f fd)(B:Blt mg):fj P w K mg base CX0 1 f fd nl0 (spP ⟨K,mg⟩ di):=by
 have nd:∀_:Unit,_:=λ_=>rT.nd;refine okP (k:=0) (ob:=(λi=>false)) (Pr:=λ_=>false) F rT λcdv A outer s H E hr=>?_;exact(aL (aW (gV (aO dg (λ_=>rfl) (λ_=>B.isinstance) boot_isinstance (aa (aj false 0) (aa (jZ (λ_=>rfl) (λ_=>B.tuple) boot_tuple) ak))) (lA (fU (cb_eq _ (λ_=>rfl) hr.units) (aO cN (λ_=>rfl) (λ_=>B.len) boot_len (aa (aj false 0) ak)) au)))))
theorem qY:bC nl0 nl0 (aB iH):=⟨rfl,rfl,rfl,by decide +kernel,rfl,by decide +kernel,by decide +kernel⟩
theorem yO{f:Addr}{fd:FuncData}(F:Fun K "is_number" "is_number" iH f fd)(B:Blt mg):fj P w K mg base CX0 1 f fd nl0 (spP ⟨K,mg⟩ dJ):=by
 have nd:∀_:Unit,_:=λ_=>qY.nd;refine okP (k:=0) (ob:=(λi=>false)) (Pr:=λ_=>false) F qY λcdv A outer s H E hr=>?_;exact(aL (aW (gV (aO dg (λ_=>rfl) (λ_=>B.isinstance) boot_isinstance (aa (aj false 0) (aa (jZ (λ_=>rfl) (λ_=>B.int_) boot_int) ak))) (lA (J5 (aO dg (λ_=>rfl) (λ_=>B.isinstance) boot_isinstance (aa (aj false 0) (aa (jZ (λ_=>rfl) (λ_=>B.bool_) boot_bool) ak))))))))
theorem wU:bC nl0 nl0 (aB jN):=⟨rfl,rfl,rfl,by decide +kernel,rfl,by decide +kernel,by decide +kernel⟩
theorem Dj{f:Addr}{fd:FuncData}(F:Fun K "is_pair" "is_pair" jN f fd)(B:Blt mg)(c_is_couple:ug P w K mg base)(c_is_number:uG P w K mg base):fj P w K mg base CX0 2 f fd nl0 (spP ⟨K,mg⟩ gH):=by
 have nd:∀_:Unit,_:=λ_=>wU.nd;refine okP (k:=1) (ob:=(λi=>false)) (Pr:=λ_=>false) F wU λcdv A outer s H E hr=>?_;exact(aL (aW (gV (d7 (λ_=>c_is_couple) (λ_=>hr.mono (by decide)) (aa (aj false 0) ak)) (gV (d7 (λ_=>c_is_number) (λ_=>hr.mono (by decide)) (aa (eE (ixb (λ_=>aM hr)) (aj false 0) au) ak)) (gV (d7 (λ_=>c_is_number) (λ_=>hr.mono (by decide)) (aa (eE (ixb (λ_=>aM hr)) (aj false 0) au) ak)) (lA (fU (oW (λ_=>aM hr)) (eE (ixb (λ_=>aM hr)) (aj false 0) au) (cT (aa au (aa (j_ ie au) ak))))))))))
theorem xV:bC nl0 nl0 (aB jT):=⟨rfl,rfl,rfl,by decide +kernel,rfl,by decide +kernel,by decide +kernel⟩
def za:Scope:={kind:=.function,names:=[(".0",.local),("pair",.local),("is_pair",.globalImplicit)],isGenerator:=false,isCoroutine:=false}
theorem Bx:(["pair"]:List Str).Nodup:=by decide +kernel
theorem Bl:bR (aB jT) nl0 ["pair"] za [none]:=by trivial
theorem HH{f:Addr}{fd:FuncData}(F:Fun K "is_way" "is_way" jT f fd)(B:Blt mg)(c_is_pair:yc P w K mg base):fj P w K mg base CX0 3 f fd nl0 (spP ⟨K,mg⟩ fu):=by
 have nd:∀_:Unit,_:=λ_=>xV.nd;refine okP (k:=2) (ob:=(λi=>false)) (Pr:=λ_=>false) F xV λcdv A outer s H E hr=>?_;exact(aL (aW (gV (aO dg (λ_=>rfl) (λ_=>B.isinstance) boot_isinstance (aa (aj false 0) (aa (jZ (λ_=>rfl) (λ_=>B.tuple) boot_tuple) ak))) (lA (aO (ph (λ_=>rfl)) (λ_=>rfl) (λ_=>B.all) boot_all (aa (fX [none] ob0 (λ_=>rfl) (λ_=>rfl) (λ_=>Bl) (cW rfl) (bV (aj false 0)) (bz 0 (λ_=>Bx)) eY (d7 (λ_=>c_is_pair) (λ_=>hr.mono (by decide)) (aa (aj false 0) ak))) ak))))))
theorem Ga:bC ["joining","side","one","other","step"] NZ (aB tB):=⟨rfl,rfl,rfl,by decide +kernel,rfl,by decide +kernel,by decide +kernel⟩
theorem OJ{f:Addr}{fd:FuncData}(F:Fun K "ends" "ends" tB f fd)(B:Blt mg):fj P w K mg base CX0 1 f fd NZ (spP ⟨K,mg⟩ iC):=by
 have nd:∀_:Unit,_:=λ_=>Ga.nd;refine okP (k:=0) (ob:=(λi=>false)) (Pr:=λ_=>false) F Ga λcdv A outer s H E hr=>?_;exact(az (pF (aj false 0) (iV (λ_=>rfl) (bA (aY 2 nd) (bA (aY 3 nd) (bA (aY 4 nd) gF)))))
  (az (cU (bj (cb_eq _ (λ_=>rfl) hr.units) (aj false 1) au) (aL (aW (cT (aa (aj false 2) (aa (aj false 3) ak))))) bD)
  (aL (aW (cT (aa (aj false 3) (aa (aj false 2) ak)))))))
theorem Jf:bC ["joinings","name","way","here","number","side","begin","end"] PN (aB xT):=⟨rfl,rfl,rfl,by decide +kernel,rfl,by decide +kernel,by decide +kernel⟩
theorem Rk{f:Addr}{fd:FuncData}(F:Fun K "led" "led" xT f fd)(B:Blt mg)(c_ends:Dw P w K mg base):fj P w K mg base CX0 2 f fd PN (spP ⟨K,mg⟩ j5):=by
 have nd:∀_:Unit,_:=λ_=>Jf.nd;refine okP (k:=1) (ob:=(λi=>false)) (Pr:=λ_=>false) F Jf λcdv A outer s H E hr=>?_;exact(az (bH 3 nd (aj false 1))
  (az (gP (λ_=>PassesOwn.never) (λ_=>rfl) (bV (aj false 2)) (iV (λ_=>rfl) (bA (aY 4 nd) (bA (aY 5 nd) gF))) (az (cU (rW (sH (bj Ii (aj false 4) au) (rN (bj Qx (aj false 4) (aO cN (λ_=>rfl) (λ_=>B.len) boot_len (aa (aj false 0) ak)))))) (aL (aW mQ)) bD)
  (az (pF (d7 (λ_=>c_ends) (λ_=>hr.mono (by decide)) (aa (eE (ixb (λ_=>aM hr)) (aj false 0) (aj false 4)) (aa (aj false 5) ak))) (iV (λ_=>rfl) (bA (aY 6 nd) (bA (aY 7 nd) gF))))
  (az (cU (bj (oE _ (λ_=>rfl) hr.units) (aj false 6) (aj false 3)) (aL (aW mQ)) bD)
  (aL (bH 3 nd (aj false 7)))))))
  (aL (qW 3))))
theorem q_:bC nl3 nl3 (aB gK):=⟨rfl,rfl,rfl,by decide +kernel,rfl,by decide +kernel,by decide +kernel⟩
def uP:Scope:={kind:=.function,names:=[(".0",.local),("number",.local),("side",.local),("ends",.globalImplicit),("joinings",.free)],isGenerator:=false,isCoroutine:=false}
theorem oG:(["number","side","joinings"]:List Str).Nodup:=by decide +kernel
theorem vG:bR (aB gK) nl3 ["number","side","joinings"] uP [none,none,some 0]:=by trivial
theorem zp{f:Addr}{fd:FuncData}(F:Fun K "names_met" "names_met" gK f fd)(B:Blt mg)(c_ends:Dw P w K mg base):fj P w K mg base CX0 2 f fd nl3 (spP ⟨K,mg⟩ fO):=by
 have nd:∀_:Unit,_:=λ_=>q_.nd;refine okP (k:=1) (ob:=(λi=>false)) (Pr:=λ_=>false) F q_ λcdv A outer s H E hr=>?_;exact(aL (aW (fX [none,none,some 0] (λi=>i==0||i==1) (λ_=>rfl) (λ_=>rfl) (λ_=>vG) (cW rfl) (bV (aj false 1)) (wu (λ_=>rfl) (h_ (bz 0 (λ_=>oG)) (h_ (bz 1 (λ_=>oG)) tG))) eY (eE (ixb (λ_=>aM hr)) (d7 (λ_=>c_ends) (λ_=>hr.mono (by decide)) (aa (eE (ixb (λ_=>aM hr)) (aj false 2) (aj false 0)) (aa (aj false 1) ak))) au))))
theorem rO:bC nl8 nl8 (aB iD):=⟨rfl,rfl,rfl,by decide +kernel,rfl,by decide +kernel,by decide +kernel⟩
theorem zG{f:Addr}{fd:FuncData}(F:Fun K "shows_way" "shows_way" iD f fd)(B:Blt mg)(c_are_unlike:l_ P w K mg base)(c_is_way:Cy P w K mg base)(c_led:QB P w K mg base)(c_names_met:ut P w K mg base):fj P w K mg base CX0 4 f fd nl8 (spP ⟨K,mg⟩ cM):=by
 have nd:∀_:Unit,_:=λ_=>rO.nd;refine okP (k:=3) (ob:=(λi=>false)) (Pr:=λ_=>false) F rO λcdv A outer s H E hr=>?_;exact(az (cU (rW (sH (jM (g_ (d7 (λ_=>c_is_way) (λ_=>hr.mono (by decide)) (aa (aj false 3) ak)))) (rN (bj (oE _ (λ_=>rfl) hr.units) (d7 (λ_=>c_led) (λ_=>hr.mono (by decide)) (aa (aj false 0) (aa (aj false 1) (aa (aj false 3) ak)))) (aj false 2))))) (aL (aW jF)) bD)
  (aL (aW (d7 (λ_=>c_are_unlike) (λ_=>hr.mono (by decide)) (aa (bK bZ (bN (aa (aj false 1) ak)) (d7 (λ_=>c_names_met) (λ_=>hr.mono (by decide)) (aa (aj false 0) (aa (aj false 3) ak)))) ak)))))
theorem pR:bC ["_law_thing","_law_pair"] Nj (aB gf):=⟨rfl,rfl,rfl,by decide +kernel,rfl,by decide +kernel,by decide +kernel⟩
def sZ:Scope:={kind:=.function,names:=[(".0",.local),("_law_one",.local),("isinstance",.globalImplicit),("int",.globalImplicit),("bool",.globalImplicit)],isGenerator:=false,isCoroutine:=false}
theorem uH:(["_law_one"]:List Str).Nodup:=by decide +kernel
theorem uK:bR (aB gf) ["_law_thing","_law_pair"] ["_law_one"] sZ [none]:=by trivial
theorem xn{f:Addr}{fd:FuncData}(F:Fun K "_law_is_way" "_law_is_way" gf f fd)(B:Blt mg):fj P w K mg base CX0 1 f fd Nj (spP ⟨K,mg⟩ cO):=by
 have nd:∀_:Unit,_:=λ_=>pR.nd;refine okP (k:=0) (ob:=(λi=>false)) (Pr:=λ_=>false) F pR λcdv A outer s H E hr=>?_;exact(az (cU (jM (g_ (aO dg (λ_=>rfl) (λ_=>B.isinstance) boot_isinstance (aa (aj false 0) (aa (jZ (λ_=>rfl) (λ_=>B.tuple) boot_tuple) ak))))) (aL (aW jF)) bD)
  (az (gP (λ_=>PassesOwn.never) (λ_=>rfl) (bV (aj false 0)) (aY 1 nd) (az (cU (rW (sH (jM (g_ (aO dg (λ_=>rfl) (λ_=>B.isinstance) boot_isinstance (aa (aj false 1) (aa (jZ (λ_=>rfl) (λ_=>B.tuple) boot_tuple) ak))))) (rN (bj (oE _ (λ_=>rfl) hr.units) (aO cN (λ_=>rfl) (λ_=>B.len) boot_len (aa (aj false 1) ak)) au)))) (aL (aW jF)) bD)
  (az (cU (jM (g_ (aO (ph (λ_=>rfl)) (λ_=>rfl) (λ_=>B.all) boot_all (aa (fX [none] ob0 (λ_=>rfl) (λ_=>rfl) (λ_=>uK) (cW rfl) (bV (aj false 1)) (bz 0 (λ_=>uH)) eY (gV (aO dg (λ_=>rfl) (λ_=>B.isinstance) boot_isinstance (aa (aj false 0) (aa (jZ (λ_=>rfl) (λ_=>B.int_) boot_int) ak))) (lA (J5 (aO dg (λ_=>rfl) (λ_=>B.isinstance) boot_isinstance (aa (aj false 0) (aa (jZ (λ_=>rfl) (λ_=>B.bool_) boot_bool) ak))))))) ak)))) (aL (aW jF)) bD)
  (aL (cU (bj (jY (λ_=>aM hr)) (eE (ixb (λ_=>aM hr)) (aj false 1) au) (cT (aa au (aa (j_ ie au) ak)))) (aL (aW jF)) bD)))))
  (aL (aW jF))))
theorem mY:bC ["_law_joinings_here","_law_one","_law_other","_law_way","_law_kept","_law_found","_law_met_here","_law_due"] N_ (aB fV):=⟨rfl,rfl,rfl,by decide +kernel,rfl,by decide +kernel,by decide +kernel⟩
theorem uX{f:Addr}{fd:FuncData}(F:Fun K "_law_says_way" "_law_says_way" fV f fd)(B:Blt mg)(c_shows_way:uw P w K mg base)(c_law_is_way:pW P w K mg base)(c_law_met:ql P w K mg base):fj P w K mg base CX0 5 f fd N_ (spP ⟨K,mg⟩ cQ):=by
 have nd:∀_:Unit,_:=λ_=>mY.nd;refine okP (k:=4) (ob:=(λi=>false)) (Pr:=λ_=>false) F mY λcdv A outer s H E hr=>?_;exact(az (bH 4 nd (dM (vA _ (λ_=>rfl) hr.gd hr.units) (λ_=>rfl) (λ_=>B.str_) boot_str (aa (aj false 3) ak)))
  (az (bH 5 nd (d7 (λ_=>c_shows_way) (λ_=>hr.mono (by decide)) (aa (aj false 0) (aa (aj false 1) (aa (aj false 2) (aa (aj false 3) ak))))))
  (az (bH 6 nd (Sw (g_ (d7 (λ_=>c_law_is_way) (λ_=>hr.mono (by decide)) (aa (aj false 3) ak))) (d7 (λ_=>c_law_met) (λ_=>hr.mono (by decide)) (aa (aj false 0) (aa (aj false 1) (aa (aj false 3) ak)))) mQ))
  (az (bH 7 nd (gV (fU JW (aj false 6) mQ) (gV (fU (cb_eq _ (λ_=>rfl) hr.units) (eE (ixb (λ_=>aM hr)) (aj false 6) (j_ ie au)) (aj false 2)) (lA (fU (cb_eq _ (λ_=>rfl) hr.units) (tL (λ_=>rfl) (λ_=>B.len) (λ_=>B.set_) (aa (aj false 6) ak)) (aO cN (λ_=>rfl) (λ_=>B.len) boot_len (aa (aj false 6) ak)))))))
  (aL (aW (gV (aO dg (λ_=>rfl) (λ_=>B.isinstance) boot_isinstance (aa (aj false 5) (aa (jZ (λ_=>rfl) (λ_=>B.bool_) boot_bool) ak))) (gV (fU (cb_eq _ (λ_=>rfl) hr.units) (aj false 5) (aj false 7)) (lA (fU (cb_eq _ (λ_=>rfl) hr.units) (dM (vA _ (λ_=>rfl) hr.gd hr.units) (λ_=>rfl) (λ_=>B.str_) boot_str (aa (aj false 3) ak)) (aj false 4)))))))))))
theorem vY:bC ["_law_tape_here","_law_some"] nl1 (aB jQ):=⟨rfl,rfl,rfl,by decide +kernel,rfl,by decide +kernel,by decide +kernel⟩
theorem Ek{f:Addr}{fd:FuncData}(F:Fun K "_law_odd" "_law_odd" jQ f fd)(B:Blt mg)(c_law_draw:dI P w K mg base):fj P w K mg base CX0 2 f fd nl1 (spI ⟨K,mg⟩ ob0 ob0 cG):=by
 have nd:∀_:Unit,_:=λ_=>vY.nd;refine okI (k:=1) (ob:=ob0) (pr:=ob0) F vY λcdv A outer s H E hr=>?_;exact(az (bH 1 nd (bN (aa mQ (aa jF (aa jF (aa au (aa (j_ ie au) (aa au (aa j4 (aa j4 (aa j4 (aa (cT ak) (aa (bN ak) (aa (cT (aa au ak)) (aa (cT (aa au (aa au ak))) (aa (cT (aa au (aa au ak))) (aa (cT (aa jF (aa au ak))) (aa (cT (aa au (aa jF ak))) (aa (bN (aa au (aa au ak))) ak)))))))))))))))))))
  (az (jA 1 (bH 1 nd (bK bZ (aj false 1) (bN (aa (cT (aa au (aa au (aa au ak)))) (aa (cT (aa j4 (aa au ak))) (aa (bN (aa j4 (aa au ak))) (aa (cT (aa (cT (aa j4 (aa au ak))) ak)) (aa (bN (aa (bN ak) ak)) (aa (cT (aa j4 (aa mQ ak))) (aa (cT (aa mQ (aa au ak))) (aa (cT (aa j4 (aa au ak))) ak))))))))))))
  (aL (jA 1 (Bo (fZ (ixb (λ_=>aM hr)) (bO (aj false 1)) (bf [0] (λ_=>c_law_draw) (λ_=>hr.mono (by decide)) (aQ 0 (aR (aN (aa (aO cN (λ_=>rfl) (λ_=>B.len) boot_len (aa (aj false 1) ak)) ak)))))))))))
theorem uF:bC ["_law_tape_here","_law_some","_law_thing","_law_at","_law_way"] Mr (aB jm):=⟨rfl,rfl,rfl,by decide +kernel,rfl,by decide +kernel,by decide +kernel⟩
theorem BJ{f:Addr}{fd:FuncData}(F:Fun K "_law_bent" "_law_bent" jm f fd)(B:Blt mg)(c_law_draw:dI P w K mg base):fj P w K mg base CX0 2 f fd Mr (spI ⟨K,mg⟩ ob0 ob0 dG):=by
 have nd:∀_:Unit,_:=λ_=>uF.nd;refine okI (k:=1) (ob:=ob0) (pr:=ob0) F uF λcdv A outer s H E hr=>?_;exact(az (cJ 3 nd (bf [0] (λ_=>c_law_draw) (λ_=>hr.mono (by decide)) (aQ 0 (aR (aN (aa (bK bZ (aO cN (λ_=>rfl) (λ_=>B.len) boot_len (aa (aj false 1) ak)) au) ak))))))
  (az (cJ 4 nd (bf [0] (λ_=>c_law_draw) (λ_=>hr.mono (by decide)) (aQ 0 (aR (aN (aa au ak))))))
  (az (cU (bj (cb_eq _ (λ_=>rfl) hr.units) (aj false 4) au) (aL (aW (bK bZ (dw slb (aj false 1) cY (cI (aj false 3))) (dw slb (aj false 1) (cI (bK bZ (aj false 3) au)) cY)))) bD)
  (az (cU (bj (cb_eq _ (λ_=>rfl) hr.units) (aj false 4) au) (aL (aW (bK bZ (bK bZ (dw slb (aj false 1) cY (cI (aj false 3))) (dw slb (aj false 1) (cI (aj false 3)) (cI (bK bZ (aj false 3) au)))) (dw slb (aj false 1) (cI (aj false 3)) cY)))) bD)
  (az (cU (bj (cb_eq _ (λ_=>rfl) hr.units) (aj false 4) au) (aL (aW (bK bZ (bK bZ (dw slb (aj false 1) cY (cI (aj false 3))) (bN (aa (aj false 2) ak))) (dw slb (aj false 1) (cI (bK bZ (aj false 3) au)) cY)))) bD)
  (aL (aW (bK bZ (bK bZ (dw slb (aj false 1) cY (cI (aj false 3))) (bN (aa (aj false 2) ak))) (dw slb (aj false 1) (cI (aj false 3)) cY)))))))))
theorem kW:bC T7 nl2 (aB dm):=⟨rfl,rfl,rfl,by decide +kernel,rfl,by decide +kernel,by decide +kernel⟩
def oO:Scope:={kind:=.function,names:=[(".0",.local),("_law_n",.local),("_law_side",.local)],isGenerator:=false,isCoroutine:=false}
theorem jE:(["_law_n","_law_side"]:List Str).Nodup:=by decide +kernel
theorem pH:bR (aB dm) T7 ["_law_n","_law_side"] oO [none,none]:=by trivial
theorem qI{f:Addr}{fd:FuncData}(F:Fun K "_law_ways_right" "_law_ways_right" dm f fd)(B:Blt mg)(c_law_way_on:pN P w K mg base)(c_law_met:ql P w K mg base)(c_law_says_way:mV P w K mg base)(c_law_odd:qz P w K mg base)(c_law_draw:dI P w K mg base)(c_law_bent:oX P w K mg base):fj P w K mg base CX0 6 f fd nl2 (spI ⟨K,mg⟩ ob0 ob0 cZ):=by
 have nd:∀_:Unit,_:=λ_=>kW.nd;refine okI (k:=5) (ob:=ob0) (pr:=ob0) F kW λcdv A outer s H E hr=>?_;exact(az (cJ 5 nd (bf [0] (λ_=>c_law_way_on) (λ_=>hr.mono (by decide)) (aQ 0 (aR (aN (aa (aj false 2) (aa (aj false 3) ak)))))))
  (az (bH 6 nd (d7 (λ_=>c_law_met) (λ_=>hr.mono (by decide)) (aa (aj false 2) (aa (aj false 3) (aa (aj false 5) ak)))))
  (az (bH 7 nd (bN (aa (aj false 5) (aa (dM Bh (λ_=>rfl) (λ_=>B.list_) boot_list (aa (aj false 5) ak)) (aa (dw slb (aj false 5) cY (cI (j_ ie au))) (aa (bK bZ (aj false 5) (aj false 5)) ak))))))
  (az (jA 7 (bH 7 nd (bK bZ (aj false 7) (bN (aa (bK bZ (aj false 5) (dM jn (λ_=>rfl) (λ_=>B.tuple) boot_tuple (aa (fX [none,none] (λi=>i==0||i==1) (λ_=>rfl) (λ_=>rfl) (λ_=>pH) (cW rfl) (bV (dw slb (aj false 5) (cI (j_ ie au)) cY)) (wu (λ_=>rfl) (h_ (bz 0 (λ_=>jE)) (h_ (bz 1 (λ_=>jE)) tG))) eY (cT (aa (aj false 0) (aa (j_ ie (aj false 1)) ak)))) ak))) (aa (cT ak) ak))))))
  (az (gP (λ_=>PassesOwn.never) (λ_=>rfl) (sE (λ_=>rfl) (λ_=>B.range) (aa au ak)) (aY 8 nd) (az (cJ 9 nd (bf [0] (λ_=>c_law_odd) (λ_=>hr.mono (by decide)) (aQ 0 (aR (aN ak)))))
  (az (rJ (qR (cb_eq _ (λ_=>rfl) hr.units) (bf [0] (λ_=>c_law_draw) (λ_=>hr.mono (by decide)) (aQ 0 (aR (aN (aa au ak))))) (bO au)) (aL (cJ 9 nd (zQ (aZ (j7 vZ (bf [0] (λ_=>c_law_draw) (λ_=>hr.mono (by decide)) (aQ 0 (aR (aN (aa (bK bZ (aO cN (λ_=>rfl) (λ_=>B.len) boot_len (aa (aj false 2) ak)) au) ak))))) (bO au)) (aZ (fZ (ixb (λ_=>aM hr)) (bO (bN (aa au (aa (j_ ie au) (aa au (aa au ak)))))) (bf [0] (λ_=>c_law_draw) (λ_=>hr.mono (by decide)) (aQ 0 (aR (aN (aa au ak)))))) (aN ak)))))) bD)
  (aL (Ce iu PySem.F.plainAttrs_list PySem.F.slot_list_append PySem.F.type_list_append (jH 7) (aZ (wH jn (λ_=>rfl) (λ_=>B.tuple) boot_tuple (aZ (bf [0] (λ_=>c_law_bent) (λ_=>hr.mono (by decide)) (aQ 0 (aR (aN (aa (dM Bh (λ_=>rfl) (λ_=>B.list_) boot_list (aa (aj false 5) ak)) (aa (aj false 9) ak)))))) (aN ak))) (aN ak)) (show KpS 7 _ from by repeat first|exact Jv|exact Gx|apply CG|apply Lk|apply QG|apply Qu|(apply Il rfl)|apply Jp))))))
  (az (jA 7 (cJ 7 nd (j7 bZ (bO (aj false 7)) (qG (aZ (bf [0] (λ_=>c_law_odd) (λ_=>hr.mono (by decide)) (aQ 0 (aR (aN ak)))) (aZ (zQ (aZ (bf [0] (λ_=>c_law_odd) (λ_=>hr.mono (by decide)) (aQ 0 (aR (aN ak)))) (aN ak))) (aN (aa (cT (aa (aj false 5) ak)) ak))))))))
  (az (jA 7 (gP (λ_=>PassesOwn.never) (λ_=>rfl) (bV (aj false 7)) (aY 10 nd) (aL (gP (λ_=>PassesOwn.never) (λ_=>rfl) (bV (cT (aa (aj false 4) (aa (eE (ixb (λ_=>aM hr)) (aj false 6) (j_ ie au)) ak)))) (aY 11 nd) (aL (cU (jM (g_ (d7 (λ_=>c_law_says_way) (λ_=>hr.mono (by decide)) (aa (aj false 2) (aa (aj false 3) (aa (aj false 11) (aa (aj false 10) ak))))))) (aL (aW jF)) bD))))))
  (aL (aW (d7 (λ_=>c_law_says_way) (λ_=>hr.mono (by decide)) (aa (aj false 2) (aa (aj false 3) (aa (eE (ixb (λ_=>aM hr)) (bK bZ (aj false 6) (aj false 6)) (bK vZ (aO cN (λ_=>rfl) (λ_=>B.len) boot_len (aa (aj false 6) ak)) au)) (aa (dw slb (aj false 5) cY (cI (j_ ie au))) ak))))))))))))))
theorem Ar:bC nl4 nl4 (aB mH):=⟨rfl,rfl,rfl,by decide +kernel,rfl,by decide +kernel,by decide +kernel⟩
def Cu:Scope:={kind:=.function,names:=[(".0",.local),("begin",.local),("end",.local),("step",.local),("some",.free)],isGenerator:=false,isCoroutine:=false}
theorem qm:(Us:List Str).Nodup:=by decide +kernel
theorem Ej:bR (aB mH) nl4 Us Cu [none,none,none,some 3]:=by trivial
theorem Ml{f:Addr}{fd:FuncData}(F:Fun K "parts" "parts" mH f fd)(B:Blt mg)(c_are_unlike:l_ P w K mg base):fj P w K mg base CX0 2 f fd nl4 (spP ⟨K,mg⟩ iU):=by
 have nd:∀_:Unit,_:=λ_=>Ar.nd;refine okP (k:=1) (ob:=(λi=>false)) (Pr:=λ_=>false) F Ar λcdv A outer s H E hr=>?_;exact(az (cU (rW (sH (jM (g_ (d7 (λ_=>c_are_unlike) (λ_=>hr.mono (by decide)) (aa (aj false 3) ak)))) (sH (bj (jY (λ_=>aM hr)) (aj false 1) (aj false 3)) (rN (bj (oW (λ_=>aM hr)) (aj false 2) (aj false 3)))))) (aL (aW jF)) bD)
  (aL (aW (aO (ph (λ_=>rfl)) (λ_=>rfl) (λ_=>B.all) boot_all (aa (fX [none,none,none,some 3] (λi=>i==0||i==1||i==2) (λ_=>rfl) (λ_=>rfl) (λ_=>Ej) (cW rfl) (bV (aj false 0)) (wu (λ_=>rfl) (h_ (bz 0 (λ_=>qm)) (h_ (bz 1 (λ_=>qm)) (h_ (bz 2 (λ_=>qm)) tG)))) eY (fU (cb_eq _ (λ_=>rfl) hr.units) (fU (oW (λ_=>aM hr)) (aj false 0) (aj false 3)) (fU (oW (λ_=>aM hr)) (aj false 1) (aj false 3)))) ak)))))
theorem rE:bC nl0 nl0 (aB iz):=⟨rfl,rfl,rfl,by decide +kernel,rfl,by decide +kernel,by decide +kernel⟩
theorem zW{f:Addr}{fd:FuncData}(F:Fun K "is_listed" "is_listed" iz f fd)(B:Blt mg):fj P w K mg base CX0 1 f fd nl0 (spP ⟨K,mg⟩ fH):=by
 have nd:∀_:Unit,_:=λ_=>rE.nd;refine okP (k:=0) (ob:=(λi=>false)) (Pr:=λ_=>false) F rE λcdv A outer s H E hr=>?_;exact(aL (aW (aO dg (λ_=>rfl) (λ_=>B.isinstance) boot_isinstance (aa (aj false 0) (aa (cT (aa (jZ (λ_=>rfl) (λ_=>B.list_) boot_list) (aa (jZ (λ_=>rfl) (λ_=>B.tuple) boot_tuple) ak))) ak)))))
theorem m7:bC nl5 nl5 (aB dX):=⟨rfl,rfl,rfl,by decide +kernel,rfl,by decide +kernel,by decide +kernel⟩
def qe:Scope:={kind:=.function,names:=[(".0",.local),("name",.local),("names",.free)],isGenerator:=false,isCoroutine:=false}
theorem qF:(["name","names"]:List Str).Nodup:=by decide +kernel
theorem rK:bR (aB dX) nl5 ["name","names"] qe [none,some 0]:=by trivial
theorem u0{f:Addr}{fd:FuncData}(F:Fun K "shows_parted" "shows_parted" dX f fd)(B:Blt mg)(c_parts:EY P w K mg base)(c_is_listed:uA P w K mg base):fj P w K mg base CX0 3 f fd nl5 (spP ⟨K,mg⟩ cz):=by
 have nd:∀_:Unit,_:=λ_=>m7.nd;refine okP (k:=2) (ob:=(λi=>false)) (Pr:=λ_=>false) F m7 λcdv A outer s H E hr=>?_;exact(az (cU (rW (sH (jM (g_ (d7 (λ_=>c_is_listed) (λ_=>hr.mono (by decide)) (aa (aj false 4) ak)))) (rN (jM (g_ (aO (ph (λ_=>rfl)) (λ_=>rfl) (λ_=>B.all) boot_all (aa (fX [none,some 0] ob0 (λ_=>rfl) (λ_=>rfl) (λ_=>rK) (cW rfl) (bV (aj false 4)) (bz 0 (λ_=>qF)) eY (fU (Q9 _ (λ_=>rfl) hr.units) (aj false 0) (aj false 1))) ak))))))) (aL (aW jF)) bD)
  (aL (aW (d7 (λ_=>c_parts) (λ_=>hr.mono (by decide)) (aa (aj false 1) (aa (aj false 2) (aa (aj false 3) (aa (aj false 4) ak))))))))
theorem j9:bC Rx NB (aB cA):=⟨rfl,rfl,rfl,by decide +kernel,rfl,by decide +kernel,by decide +kernel⟩
def nA:Scope:={kind:=.function,names:=[(".0",.local),("_law_name",.local),("isinstance",.globalImplicit),("str",.globalImplicit),("_law_names_here",.free)],isGenerator:=false,isCoroutine:=false}
theorem oh:(Ui:List Str).Nodup:=by decide +kernel
theorem nY:bR (aB cA) Rx Ui nA [none,some 0]:=by trivial
def je:Scope:={kind:=.function,names:=[(".0",.local),("_law_joining",.local),("len",.globalImplicit),("_law_some",.free)],isGenerator:=false,isCoroutine:=false}
theorem oR:(Rz:List Str).Nodup:=by decide +kernel
theorem nJ:bR (aB cA) Rx Rz je [none,some 4]:=by trivial
def m9:Scope:={kind:=.function,names:=[(".0",.local),("_law_end",.local),("_law_some",.free)],isGenerator:=false,isCoroutine:=false}
theorem oF:(["_law_end","_law_some"]:List Str).Nodup:=by decide +kernel
theorem oV:bR (je) Rz ["_law_end","_law_some"] m9 [none,some 1]:=by trivial
theorem qi{f:Addr}{fd:FuncData}(F:Fun K "_law_says_parted" "_law_says_parted" cA f fd)(B:Blt mg)(c_shows_parted:nT P w K mg base):fj P w K mg base CX0 4 f fd NB (spP ⟨K,mg⟩ b_):=by
 have nd:∀_:Unit,_:=λ_=>j9.nd;refine okP (k:=3) (ob:=(λi=>false)) (Pr:=λ_=>false) F j9 λcdv A outer s H E hr=>?_;exact(az (bH 5 nd (dM (vA _ (λ_=>rfl) hr.gd hr.units) (λ_=>rfl) (λ_=>B.str_) boot_str (aa (aj false 4) ak)))
  (az (bH 6 nd (d7 (λ_=>c_shows_parted) (λ_=>hr.mono (by decide)) (aa (aj false 0) (aa (aj false 1) (aa (aj false 2) (aa (aj false 3) (aa (aj false 4) ak)))))))
  (az (bH 7 nd (aO dg (λ_=>rfl) (λ_=>B.isinstance) boot_isinstance (aa (aj false 4) (aa (cT (aa (jZ (λ_=>rfl) (λ_=>B.list_) boot_list) (aa (jZ (λ_=>rfl) (λ_=>B.tuple) boot_tuple) ak))) ak))))
  (az (cU (g_ (aj false 7)) (aL (bH 7 nd (aO (ph (λ_=>rfl)) (λ_=>rfl) (λ_=>B.all) boot_all (aa (fX [none,some 0] ob0 (λ_=>rfl) (λ_=>rfl) (λ_=>nY) (cW rfl) (bV (aj false 4)) (bz 0 (λ_=>oh)) eY (gV (aO dg (λ_=>rfl) (λ_=>B.isinstance) boot_isinstance (aa (aj false 0) (aa (jZ (λ_=>rfl) (λ_=>B.str_) boot_str) ak))) (lA (fU (oW (λ_=>aM hr)) (aj false 0) (aj false 1))))) ak)))) bD)
  (az (cU (g_ (aj false 7)) (aL (bH 7 nd (gV (fU (cb_eq _ (λ_=>rfl) hr.units) (tL (λ_=>rfl) (λ_=>B.len) (λ_=>B.set_) (aa (aj false 4) ak)) (aO cN (λ_=>rfl) (λ_=>B.len) boot_len (aa (aj false 4) ak))) (gV (fU (oW (λ_=>aM hr)) (aj false 2) (aj false 4)) (lA (fU (jY (λ_=>aM hr)) (aj false 3) (aj false 4))))))) bD)
  (az (cU (g_ (aj false 7)) (az (nO 8 [none,some 4] ob0 nd (λ_=>rfl) (λ_=>rfl) (λ_=>nJ) (cW rfl) (bV (aj false 1)) (bz 0 (λ_=>oR)) eY (aO cN (λ_=>rfl) (λ_=>B.len) boot_len (aa (fX [none,some 1] ob0 (λ_=>rfl) (λ_=>rfl) (λ_=>oV.rel) (cW rfl) (bV (dw slb (aj false 0) cY (cI au))) (bz 0 (λ_=>oF)) (jX (bj (oW (λ_=>aM hr)) (aj false 0) (aj false 1))) au) ak)))
  (aL (bH 7 nd (fU (jY (λ_=>aM hr)) au (aj false 8))))) bD)
  (aL (aW (gV (aO dg (λ_=>rfl) (λ_=>B.isinstance) boot_isinstance (aa (aj false 6) (aa (jZ (λ_=>rfl) (λ_=>B.bool_) boot_bool) ak))) (gV (fU (cb_eq _ (λ_=>rfl) hr.units) (aj false 6) (aj false 7)) (lA (fU (cb_eq _ (λ_=>rfl) hr.units) (dM (vA _ (λ_=>rfl) hr.gd hr.units) (λ_=>rfl) (λ_=>B.str_) boot_str (aa (aj false 4) ak)) (aj false 5)))))))))))))
theorem oH:bC nl6 Mt (aB cH):=⟨rfl,rfl,rfl,by decide +kernel,rfl,by decide +kernel,by decide +kernel⟩
def rm:Scope:={kind:=.function,names:=[(".0",.local),("_law_name",.local)],isGenerator:=false,isCoroutine:=false}
theorem tV:(["_law_name"]:List Str).Nodup:=by decide +kernel
theorem sU:bR (aB cH) nl6 ["_law_name"] rm [none]:=by trivial
def rA:Scope:={kind:=.function,names:=[(".0",.local),("_law_group",.local),("_law_one",.free)],isGenerator:=false,isCoroutine:=false}
theorem tY:(P0:List Str).Nodup:=by decide +kernel
theorem tK:bR (aB cH) nl6 P0 rA [none,some 3]:=by trivial
def rF:Scope:={kind:=.function,names:=[(".0",.local),("_law_group",.local),("_law_other",.free)],isGenerator:=false,isCoroutine:=false}
theorem sr:(["_law_group","_law_other"]:List Str).Nodup:=by decide +kernel
theorem uf:bR (aB cH) nl6 ["_law_group","_law_other"] rF [none,some 4]:=by trivial
def qM:Scope:={kind:=.function,names:=[(".0",.local),("_law_group",.local),("_law_first",.free),("_law_second",.free)],isGenerator:=false,isCoroutine:=false}
theorem tH:(TY:List Str).Nodup:=by decide +kernel
theorem tR:bR (aB cH) nl6 TY qM [none,some 6,some 7]:=by trivial
def rY:Scope:={kind:=.function,names:=[(".0",.local),("_law_group",.local),("sorted",.globalImplicit)],isGenerator:=false,isCoroutine:=false}
theorem su:(["_law_group"]:List Str).Nodup:=by decide +kernel
theorem t8:bR (aB cH) nl6 ["_law_group"] rY [none]:=by trivial
theorem wD{f:Addr}{fd:FuncData}(F:Fun K "_law_classes" "_law_classes" cH f fd)(B:Blt mg):fj P w K mg base CX0 1 f fd Mt (spP ⟨K,mg⟩ dW):=by
 have nd:∀_:Unit,_:=λ_=>oH.nd;refine okP (k:=0) (ob:=(λi=>false)) (Pr:=λ_=>false) F oH λcdv A outer s H E hr=>?_;exact(az (nO 2 [none] ob0 nd (λ_=>rfl) (λ_=>rfl) (λ_=>sU) (cW rfl) (bV (aj false 0)) (bz 0 (λ_=>tV)) eY (bN (aa (aj false 0) ak)))
  (az (gP (λ_=>PassesOwn.never) (λ_=>rfl) (bV (aj false 1)) (iV (λ_=>rfl) (bA (aY 3 nd) (bA (aY 4 nd) (bA (aY 5 nd) gF)))) (az (jA 2 (bH 6 nd (eE (ixb (λ_=>aM hr)) (fX [none,some 3] ob0 (λ_=>rfl) (λ_=>rfl) (λ_=>tK) (cW rfl) (bV (aj false 2)) (bz 0 (λ_=>tY)) (jX (bj (oW (λ_=>aM hr)) (aj false 1) (aj false 0))) (aj false 0)) au)))
  (az (bH 7 nd (eE (ixb (λ_=>aM hr)) (fX [none,some 4] ob0 (λ_=>rfl) (λ_=>rfl) (λ_=>uf) (cW rfl) (bV (aj false 2)) (bz 0 (λ_=>sr)) (jX (bj (oW (λ_=>aM hr)) (aj false 1) (aj false 0))) (aj false 0)) au))
  (aL (cU (bj (oE _ (λ_=>rfl) hr.units) (aj false 6) (aj false 7)) (aL (bH 2 nd (bK bZ (fX [none,some 6,some 7] ob0 (λ_=>rfl) (λ_=>rfl) (λ_=>tR) (cW rfl) (bV (aj false 2)) (bz 0 (λ_=>tH)) (jX (rW (qP (bj (oE _ (λ_=>rfl) hr.units) (aj false 0) (aj false 1)) (rz (bj (oE _ (λ_=>rfl) hr.units) (aj false 0) (aj false 2)))))) (aj false 0)) (bN (aa (bK bZ (aj false 6) (aj false 7)) ak))))) bD)))))
  (aL (aW (aO (wM _ (λ_=>rfl) (FJ hr)) (λ_=>rfl) (λ_=>B.sorted) boot_sorted (aa (fX [none] ob0 (λ_=>rfl) (λ_=>rfl) (λ_=>t8) (cW rfl) (bV (aj false 2)) (bz 0 (λ_=>su)) eY (aO (wM _ (λ_=>rfl) (FJ hr)) (λ_=>rfl) (λ_=>B.sorted) boot_sorted (aa (aj false 0) ak))) ak))))))
theorem jb:bC nl9 nl2 (aB a_):=⟨rfl,rfl,rfl,by decide +kernel,rfl,by decide +kernel,by decide +kernel⟩
def lu:Scope:={kind:=.function,names:=[(".0",.local),("_law_group",.local),("_law_one",.free)],isGenerator:=false,isCoroutine:=false}
theorem lY:(P0:List Str).Nodup:=by decide +kernel
theorem lR:bR (aB a_) nl9 P0 lu [none,some 3]:=by trivial
def lz:Scope:={kind:=.function,names:=[(".0",.local),("_law_name",.local),("_law_draw",.globalImplicit),("_law_own",.free),("_law_tape_here",.free)],isGenerator:=false,isCoroutine:=false}
theorem lV:(UW:List Str).Nodup:=by decide +kernel
theorem lK:bR (aB a_) nl9 UW lz [none,some 5,some 0]:=by trivial
def lC:Scope:={kind:=.function,names:=[(".0",.local),("_law_name",.local),("_law_own",.free)],isGenerator:=false,isCoroutine:=false}
theorem lX:(["_law_name","_law_own"]:List Str).Nodup:=by decide +kernel
theorem lD:bR (aB a_) nl9 ["_law_name","_law_own"] lC [none,some 5]:=by trivial
def lw:Scope:={kind:=.function,names:=[(".0",.local),("_law_paper",.local),("_law_says_parted",.globalImplicit),("_law_joinings_here",.free),("_law_names_here",.free),("_law_one",.free),("_law_other",.free)],isGenerator:=false,isCoroutine:=false}
theorem lE:(T4:List Str).Nodup:=by decide +kernel
theorem lO:bR (aB a_) nl9 T4 lw [none,some 1,some 2,some 3,some 4]:=by trivial
theorem nq{f:Addr}{fd:FuncData}(F:Fun K "_law_partings_right" "_law_partings_right" a_ f fd)(B:Blt mg)(c_law_draw:dI P w K mg base)(c_law_bent:oX P w K mg base)(c_law_odd:qz P w K mg base)(c_law_says_parted:jV P w K mg base)(c_law_classes:oU P w K mg base):fj P w K mg base CX0 5 f fd nl2 (spI ⟨K,mg⟩ ob0 ob0 cg):=by
 have nd:∀_:Unit,_:=λ_=>jb.nd;refine okI (k:=4) (ob:=ob0) (pr:=ob0) F jb λcdv A outer s H E hr=>?_;exact(az (bH 5 nd (eE (ixb (λ_=>aM hr)) (fX [none,some 3] ob0 (λ_=>rfl) (λ_=>rfl) (λ_=>lR) (cW rfl) (bV (d7 (λ_=>c_law_classes) (λ_=>hr.mono (by decide)) (aa (aj false 1) (aa (aj false 2) ak)))) (bz 0 (λ_=>lY)) (jX (bj (oW (λ_=>aM hr)) (aj false 1) (aj false 0))) (aj false 0)) au))
  (az (Hx 6 [none,some 5,some 0] ob0 nd (λ_=>rfl) (λ_=>rfl) (λ_=>lK) (Gp rfl) (cW rfl) (bV (aj false 1)) (xY 0 (λ_=>lV)) (Hh (DX (Oj (zb (bj (oW (λ_=>aM hr)) (aj false 0) (aj false 1))) (Mh (qR (cb_eq _ (λ_=>rfl) hr.units) (bf [2] (λ_=>c_law_draw) (λ_=>hr.mono (by decide)) (aQ 2 (aR (aN (aa au ak))))) (bO au)))))) (bO (aj false 0)))
  (az (nO 7 [none,some 5] ob0 nd (λ_=>rfl) (λ_=>rfl) (λ_=>lD) (cW rfl) (bV (aj false 1)) (bz 0 (λ_=>lX)) (jX (bj (jY (λ_=>aM hr)) (aj false 0) (aj false 1))) (aj false 0))
  (az (jA 7 (jA 6 (bH 8 nd (bN (aa (aj false 5) (aa (dM jn (λ_=>rfl) (λ_=>B.tuple) boot_tuple (aa (aj false 5) ak)) (aa (zu (aj false 5) (j_ ie au)) (aa (aj false 6) (aa (aj false 1) (aa (bN ak) (aa (bN (aa (aj false 3) ak)) (aa (bN (aa (aj false 4) ak)) (aa (aj false 7) ak)))))))))))))
  (az (gP (λ_=>PassesOwn.never) (λ_=>rfl) (sE (λ_=>rfl) (λ_=>B.range) (aa au ak)) (aY 9 nd) (az (cJ 10 nd (fZ (ixb (λ_=>aM hr)) (qG (aZ (bf [0] (λ_=>c_law_odd) (λ_=>hr.mono (by decide)) (aQ 0 (aR (aN ak)))) (aZ (fZ (ixb (λ_=>aM hr)) (bO (aj false 1)) (bf [0] (λ_=>c_law_draw) (λ_=>hr.mono (by decide)) (aQ 0 (aR (aN (aa (aO cN (λ_=>rfl) (λ_=>B.len) boot_len (aa (aj false 1) ak)) ak)))))) (aN ak)))) (bf [0] (λ_=>c_law_draw) (λ_=>hr.mono (by decide)) (aQ 0 (aR (aN (aa au ak)))))))
  (aL (Ce iu PySem.F.plainAttrs_list PySem.F.slot_list_append PySem.F.type_list_append (jH 8) (aZ (bf [0] (λ_=>c_law_bent) (λ_=>hr.mono (by decide)) (aQ 0 (aR (aZ (fZ (ixb (λ_=>aM hr)) (bO (bN (aa (aj false 5) (aa (aj false 6) ak)))) (bf [0] (λ_=>c_law_draw) (λ_=>hr.mono (by decide)) (aQ 0 (aR (aN (aa au ak)))))) (aN (aa (aj false 10) ak)))))) (aN ak)) (show KpS 8 _ from by repeat first|exact Jv|exact Gx|apply CG|apply Lk|apply QG|apply Qu|(apply Il rfl)|apply Jp)))))
  (az (jA 8 (cJ 8 nd (j7 bZ (bO (aj false 8)) (qG (aZ (bf [0] (λ_=>c_law_odd) (λ_=>hr.mono (by decide)) (aQ 0 (aR (aN ak)))) (aZ (qG (aZ (bf [0] (λ_=>c_law_odd) (λ_=>hr.mono (by decide)) (aQ 0 (aR (aN ak)))) (aN ak))) (aN (aa (aj false 3) ak))))))))
  (aL (jA 8 (aW (aO (ph (λ_=>rfl)) (λ_=>rfl) (λ_=>B.all) boot_all (aa (fX [none,some 1,some 2,some 3,some 4] ob0 (λ_=>rfl) (λ_=>rfl) (λ_=>lO) (cW rfl) (bV (aj false 8)) (bz 0 (λ_=>lE)) eY (d7 (λ_=>c_law_says_parted) (λ_=>hr.mono (by decide)) (aa (aj false 1) (aa (aj false 2) (aa (aj false 3) (aa (aj false 4) (aa (aj false 0) ak))))))) ak)))))))))))
theorem Lz:bC ["_law_script","_law_k","_law_tape_here","_law_names_here","_law_joinings_here","_law_again","_law_one","_law_other"] MF (aB qO):=⟨rfl,rfl,rfl,by decide +kernel,rfl,by decide +kernel,by decide +kernel⟩
theorem R4{f:Addr}{fd:FuncData}(F:Fun K "law" "law" qO f fd)(B:Blt mg)(c_law_tape:uz P w K mg base)(c_law_joinings:m8 P w K mg base)(c_law_names:qN P w K mg base)(c_law_turn:uh P w K mg base)(c_law_draw:dI P w K mg base)(c_law_ways_right:kZ P w K mg base)(c_law_partings_right:jd P w K mg base):fj P w K mg base CX0 7 f fd MF (spP ⟨K,mg⟩ mq):=by
 have nd:∀_:Unit,_:=λ_=>Lz.nd;refine okP (k:=6) (ob:=(λi=>i==2)) (Pr:=λ_=>false) F Lz λcdv A outer s H E hr=>?_;exact(az (gP (λ_=>PassesOwn.never) (λ_=>rfl) (sE (λ_=>rfl) (λ_=>B.range) (aa (bK bZ au (aO (Ao (λ_=>rfl)) (λ_=>rfl) (λ_=>B.min) boot_min (aa au (aa (aO cN (λ_=>rfl) (λ_=>B.len) boot_len (aa (aj false 0) ak)) ak)))) ak)) (aY 1 nd) (az (bH 2 nd (d7 (λ_=>c_law_tape) (λ_=>hr.mono (by decide)) (aa (aj false 0) (aa (aj false 1) ak))))
  (az (cJ 3 nd (j7 bZ (bf [2] (λ_=>c_law_names) (λ_=>hr.mono (by decide)) (aQ 2 (aR (aN ak)))) (bO (bN (aa j4 ak)))))
  (az (cJ 4 nd (bf [2] (λ_=>c_law_joinings) (λ_=>hr.mono (by decide)) (aQ 2 (aR (aZ (bO (aj false 3)) (aZ (bf [2] (λ_=>c_law_turn) (λ_=>hr.mono (by decide)) (aQ 2 (aR (aN ak)))) (aN ak)))))))
  (az (jA 4 (jA 3 (vJ (fZ (ixb (λ_=>aM hr)) (bO (bN (aa (cT (aa (aj false 3) (aa (aj false 4) ak))) (aa (cT (aa (dM jn (λ_=>rfl) (λ_=>B.tuple) boot_tuple (aa (aj false 3) ak)) (aa (dM jn (λ_=>rfl) (λ_=>B.tuple) boot_tuple (aa (aj false 4) ak)) ak))) ak)))) (bf [2] (λ_=>c_law_draw) (λ_=>hr.mono (by decide)) (aQ 2 (aR (aN (aa au ak)))))) (iV (λ_=>rfl) (bA (aY 3 nd) (bA (aY 4 nd) gF))))))
  (aL (gP (λ_=>PassesOwn.never) (λ_=>rfl) (sE (λ_=>rfl) (λ_=>B.range) (aa au ak)) (aY 5 nd) (az (BW 6 7 (λ_=>rfl) nd (aZ (fZ (ixb (λ_=>aM hr)) (bO (aj false 3)) (bf [2] (λ_=>c_law_draw) (λ_=>hr.mono (by decide)) (aQ 2 (aR (aN (aa (aO cN (λ_=>rfl) (λ_=>B.len) boot_len (aa (aj false 3) ak)) ak)))))) (aZ (fZ (ixb (λ_=>aM hr)) (bO (aj false 3)) (bf [2] (λ_=>c_law_draw) (λ_=>hr.mono (by decide)) (aQ 2 (aR (aN (aa (aO cN (λ_=>rfl) (λ_=>B.len) boot_len (aa (aj false 3) ak)) ak)))))) (aN ak))))
  (az (rJ (Aj (Bj (bf [2] (λ_=>c_law_ways_right) (λ_=>hr.mono (by decide)) (aQ 2 (aR (aN (aa (aj false 3) (aa (aj false 4) (aa (aj false 6) (aa (aj false 7) ak)))))))))) (aL (aW jF)) bD)
  (aL (rJ (Aj (Bj (bf [2] (λ_=>c_law_partings_right) (λ_=>hr.mono (by decide)) (aQ 2 (aR (aN (aa (aj false 3) (aa (aj false 4) (aa (aj false 6) (aa (aj false 7) ak)))))))))) (aL (aW jF)) bD)))))))))))
  (aL (aW jF)))
end
abbrev tp(a b:Int):D:=.lst .own [.int a,.int b]
def Dr(a b m:Int)(q:D×List D):Prop:=∃r a' b':Int,q=(.int r,[tp a' b',.int m])/\0<=r/\r<m/\0<=a'
local macro_rules
 |`(tactic|simp_arith[$xs,*])=>`(tactic|simp[aF,tQ,dB,uo,w_ite,Qn,du,dD,Am,oA,sIf,wQ,sEx,dO,uy,Vk,uE,gm,Vu,Vr,jr,CW,sFz,yd,zN,yp,Ku,upS,tgN,tgT,aP,dF,yF,tpN,tpT,uQ,VB,aq,eC,aC,ao,eAp,eUp,yX,bT,ee2,ee1,bW,lF,e2,e1,eB,eeB,nU,yz,uV,eOr,tu,xR,Ks,xJ,jJ,vOr,Jj,T6,eTT,isB,nZ,V0,itS,itE,Ay,VV,dq,fJ,wO,eSl,Ky,O6,xK,gU,gn,eMt,sG,Vq,M_,eIo,objs,ou,fB,tW,nF,clean,aG,aD,aH,aJ,jl,jf,view,gW,mkV,mkF,fz,fzL,fzo,i_,mkO,fnP,fnI,en0,outs,lM,fQ,obC,truth,$xs,*])
theorem J2{a b m:Int}(ha:0<=a)(hm:0<m)(hm2:m<2 ^ 60):Wp (aA [tp a b,.int m]) (Dr a b m):=by
 have h2:m<18446744073709551616:=by omega
 have hx:∀x:Int,-18446744073709551616<x % 40009+7/\x % 40009+7<18446744073709551616:=λx=>by omega
 by_cases h:0<a
 .simp_arith[aA,bQ,m_,jU,wF,nQ,vo,gA,gLt,gLe,gGt,gGe,gIx,aU,bI,cF,xx,Bf,pO,KJ,gIs,nW,yo,atI,ixN,cu,ur,gSl,lZ,eG,rM,h,hm,h2,hx]
  exact⟨_,_,_,rfl,Int.emod_nonneg _ (by omega),Int.emod_lt_of_pos _ hm,Int.ediv_nonneg ha (by omega)⟩
 .simp_arith[aA,bQ,m_,jU,wF,nQ,vo,gA,gLt,gLe,gGt,gGe,gIx,aU,bI,cF,xx,Bf,pO,KJ,gIs,nW,yo,atI,ixN,cu,ur,gSl,lZ,eG,rM,h,hm,h2,hx]
  exact⟨_,_,_,rfl,Int.emod_nonneg _ (by omega),Int.emod_lt_of_pos _ hm,ha⟩
theorem uc{a b m:Int}(ha:0<=a)(hm:0<m)(hm2:m<2 ^ 60):∃r a' b',aA [tp a b,.int m]=some (.int r,[tp a' b',.int m])/\0<=r/\r<m/\0<=a':=by
 obtain⟨q,e,r,a',b',rfl,h⟩:=J2 (b:=b) ha hm hm2;exact⟨r,a',b',e,h⟩
theorem dh{a b m:Int}{Q:D×List D->Prop}(ha:0<=a)(hm:0<m)(hm2:m<2 ^ 60)(h:∀r a' b',0<=r->r<m->0<=a'->Q (.int r,[tp a' b',.int m])):Wp (aA [tp a b,.int m]) Q:=by
 refine(J2 (b:=b) ha hm hm2).mono ?_;rintro _ ⟨r,a',b',rfl,h1,h2,h3⟩;exact h r a' b' h1 h2 h3
def Tn(q:D×List D):Prop:=∃t a' b':Int,q=(.int t,[tp a' b'])/\0<=t/\t<=1000/\0<=a'
theorem Tp{a b:Int}(ha:0<=a):Wp (gk [tp a b]) Tn:=by
 obtain⟨r,a',b',e,h1,h2,h3⟩:=uc (b:=b) ha (show(0:Int)<8 by decide) (by decide);have hr:r=0∨r=1∨r=2∨r=3∨r=4∨r=5∨r=6∨r=7:=by omega
 rcases hr with rfl|rfl|rfl|rfl|rfl|rfl|rfl|rfl<;>simp_arith[gk,bQ,m_,jU,wF,nQ,vo,gA,gLt,gLe,gGt,gGe,gIx,aU,bI,cF,xx,Bf,pO,KJ,gIs,nW,yo,atI,ixN,cu,ur,gSl,lZ,eG,rM,e]<;>exact⟨_,_,_,rfl,by decide,by decide,h3⟩
def uI:List Str:=["b","aa","zebra","c","quartzes","ab","m","knows","d","mm","likes","z","a","ba","abcdefgh","y"]
def Nm(q:D×List D):Prop:=∃(ns:List Str)(a' b':Int),q=(.lst .own (ns.map D.str),[tp a' b'])/\(∀x∈ns,x∈uI∨x="")/\ns.length<=14/\0<=a'
theorem Nh:yP "b aa zebra c quartzes ab m knows d mm likes z a ba abcdefgh y" " "=some uI:=by decide +kernel
theorem Pn{a b:Int}(ha:0<=a):Wp (fP [tp a b]) Nm:=by
 obtain⟨r1,a1,b1,e1,h11,h12,h13⟩:=uc (b:=b) ha (show(0:Int)<16 by decide) (by decide);obtain⟨r2,a2,b2,e2,h21,h22,h23⟩:=uc (b:=b1) h13 (show(0:Int)<3 by decide) (by decide);obtain⟨r3,a3,b3,e3,h31,h32,h33⟩:=uc (b:=b2) h23 (show(0:Int)<5 by decide) (by decide);obtain⟨r4,a4,b4,e4,h41,h42,h43⟩:=uc (b:=b3) h33 (show(0:Int)<5 by decide) (by decide);obtain⟨r5,a5,b5,e5,h51,h52,h53⟩:=uc (b:=b4) h43 (show(0:Int)<8 by decide) (by decide);simp_arith[fP,vH,Nh,aU,bQ,pO,e1,e2,e3,e4,e5];clear e1 e2 e3 e4 e5;obtain⟨n,hn,n0,n1⟩:∃n:Int,gIx (D.lst Mk.own [D.int r2,D.int (10+r3),D.int (4+r4)]) (D.int (if r5<2 then r5 else 2))=some (.int n)/\0<=n/\n<=14:=by
  have:r5=0∨r5=1∨2<=r5:=by omega
  rcases this with rfl|rfl|h
  .exact⟨r2,rfl,h21,by omega⟩
  .exact⟨10+r3,rfl,by omega,by omega⟩
  .rw[if_neg (by omega)]
   exact⟨4+r4,rfl,by omega,by omega⟩
 simp only[hn,bF,bx,aF,view,aG,aD,true_and];rw[if_pos (by omega),aF];refine⟨by rw[qZ];omega,?_⟩;rw[cL (p:=λ_=>true) (f:=λd=>match d with|.int k=>.str ((uI[((r1+5*k) % 16).toNat]?).getD "")|_=>.non)]
 .rw[aF,filter_tt,PJ]
  have e:(List.range n.toNat).map (λ(k:Nat)=>D.str ((uI[((r1+5*(k:Int)) % 16).toNat]?).getD ""))=((List.range n.toNat).map λ(k:Nat)=>(uI[((r1+5*(k:Int)) % 16).toNat]?).getD "").map D.str:=by rw[List.map_map];rfl
  show(aH ((List.range n.toNat).map (λ(k:Nat)=>D.str ((uI[((r1+5*(k:Int)) % 16).toNat]?).getD "")))=true/\aJ ((List.range n.toNat).map (λ(k:Nat)=>D.str ((uI[((r1+5*(k:Int)) % 16).toNat]?).getD "")))=true)/\Nm (D.lst Mk.own ((List.range n.toNat).map (λ(k:Nat)=>D.str ((uI[((r1+5*(k:Int)) % 16).toNat]?).getD ""))),[tp a5 b5]);rw[e];refine⟨⟨bF _,bx _⟩,_,_,_,rfl,λx hx=>?_,by simp;omega,h53⟩;obtain⟨k,_,rfl⟩:=List.mem_map.mp hx;cases hg:uI[((r1+5*(k:Int)) % 16).toNat]? with
  |none=>exact .inr rfl
  |some y=>exact .inl (List.mem_of_getElem? hg)
 .intro d hd
  obtain⟨k,hk,rfl⟩:=NQ hd;have hm:(-18446744073709551616:Int)<5:=by decide
  obtain⟨x,hx,hx1,hx2⟩:=gw (f:=D.str) (l:=uI) (i:=(r1+5*(k:Int)) % 16) (by omega) (by show _<(16:Int);omega);simp[tpN,aF,eTT,e2,aq,view,bM,eC,jU,bQ,nQ,gIx,hx1,hx2]
def Jo(ns:List Str)(t:Int)(q:D×List D):Prop:=∃(js:List Jt)(a' b':Int),q=(.lst .own (js.map jD),[tp a' b',.lst .frz (ns.map D.str),.int t])/\(∀j∈js,j.1∈ns/\j.2.1∈ns)/\js.length<=2*ns.length/\0<=a'
def JoI(ns:List Str)(t w:Int)(k:Nat)(acc:List D)(ρ:En):Prop:=∃(ps:List (Str×Int))(a' b':Int),acc=ps.map pD/\ps.map (·.1)=ns.take k/\0<=a'/\ρ=[some (tp a' b'),some (D.lst Mk.frz (List.map D.str ns)),some (D.int t),some (D.lst Mk.own []),some (D.int w),none,none,none,none,none,none,none]
def JoF(ns:List Str)(t w sl:Int)(ks:List Key)(ds:List D)(k:Nat)(ρ:En):Prop:=∃(js:List Jt)(a' b':Int)(x7 x8 x9 x10 x11:Option D),ρ=[some (tp a' b'),some (D.lst Mk.frz (List.map D.str ns)),some (D.int t),some (D.lst Mk.own (js.map jD)),some (D.int w),some (D.dct .own ks ds),some (D.int sl),x7,x8,x9,x10,x11]/\(∀j∈js,j.1∈ns/\j.2.1∈ns)/\js.length<=k/\0<=a'
theorem Ed{a b t:Int}{ns:List Str}(ha:0<=a)(hn:0<ns.length)(hn2:ns.length<=1000)(ht:0<=t/\t<=1000):Wp (dH [tp a b,.lst .frz (ns.map D.str),.int t]) (Jo ns t):=by
 simp_arith[dH,aU,jU,vo];refine dh ha (by omega) (by omega) λr1 a1 b1 p1 q1 s1=>?_;obtain⟨w,hw,w0,w1⟩:∃w:Int,gIx (D.lst Mk.own [D.int 3,D.int 3,D.int 12,D.int 12,D.int 12,D.int 400000000000]) (D.int r1)=some (.int w)/\3<=w/\w<=400000000000:=by
  have:r1=0∨r1=1∨r1=2∨r1=3∨r1=4∨r1=5:=by omega
  rcases this with rfl|rfl|rfl|rfl|rfl|rfl<;>exact⟨_,rfl,by decide,by decide⟩
 simp_arith[hw,bM,d_,bF,bx];refine⟨by omega,K9 (JoI ns t w) ⟨[],a1,b1,rfl,rfl,s1,rfl⟩ ?_ ?_⟩
 .rintro i d acc ρ hi ⟨ps,a2,b2,rfl,hps,s2,rfl⟩
  rw[List.getElem?_map]at hi;cases hx:ns[i]? with
  |none=>simp[hx]at hi
  |some x=>
   obtain rfl:D.str x=d:=by simpa[hx]using hi
   simp_arith[jU,bI];refine dh s2 (by omega) (by omega) λr3 a3 b3 p3 q3 s3=>?_;simp_arith[m_];exact⟨ps++[(x,r3-w)],_,_,by simp[pD],by rw[List.map_append,hps,List.take_add_one,hx];rfl,s3,rfl⟩
 .rintro ys ρ ⟨ps,a2,b2,rfl,hps,s2,rfl⟩
  rw[List.length_map,List.take_length]at hps;have hnb:aJ (ps.map pD)=true:=bU λd hd=>by obtain⟨x,_,rfl⟩:=List.mem_map.mp hd;rfl
  have hpl:ps.length=ns.length:=by rw[←hps];simp
  refine⟨hnb,Wp.mono (Nv (by omega)) ?_⟩;rintro _ ⟨⟨ks,ds,rfl,hds,hkd⟩,hcl⟩;rw[hps]at hkd;have hcl':(aG (D.dct .own ks ds)=true/\aD (D.dct .own ks ds)=true):=by simpa[clean]using hcl
  refine⟨hcl',?_⟩;simp_arith[cF,bM,bQ];refine dh s2 (by omega) (by omega) λr4 a4 b4 p4 q4 s4=>?_;obtain⟨sl,hsl,sl0,sl1⟩:∃w:Int,gIx (D.lst Mk.own [D.int 0,D.int 0,D.int 3,D.int 12]) (D.int r4)=some (.int w)/\0<=w/\w<=12:=by
   have:r4=0∨r4=1∨r4=2∨r4=3:=by omega
   rcases this with rfl|rfl|rfl|rfl<;>exact⟨_,rfl,by decide,by decide⟩
  simp_arith[hsl,cF,bM,bQ];refine dh s4 (by omega) (by omega) λr5 a5 b5 p5 q5 s5=>?_;simp_arith[aF];refine⟨by omega,iY (JoF ns t w sl ks ds) ⟨[],a5,b5,_,_,_,_,_,rfl,by simp,by simp,s5⟩ ?_ ?_⟩
  .rintro k d ρ hk ⟨js,a6,b6,x7,x8,x9,x10,x11,rfl,hjs,hjl,s6⟩
   obtain⟨hkl,rfl⟩:=o6 hk;simp only[tgN,clean,aG,aD,Bool.and_self,if_true,aF,List.set_cons_succ,List.set_cons_zero];refine bB (λρ=>∃(x y:Str)(a' b':Int),x∈ns/\y∈ns/\0<=a'/\ρ=[some (tp a' b'),some (D.lst Mk.frz (List.map D.str ns)),some (D.int t),some (D.lst Mk.own (js.map jD)),some (D.int w),some (D.dct .own ks ds),some (D.int sl),some (D.int k),some (D.str x),some (D.str y),x10,x11]) (λQ hQ=>?_) ?_
   .simp_arith[bF,bx,bM,cX,d_,iJ,iW,lq,kI,jC,p_,qw,qd,rn,vf,jR,jB,len_strs,g8,eU,pJ,rP,eq_int,jz]
    refine dh s6 (by omega) (by omega) λr7 a7 b7 p7 q7 s7=>?_;obtain⟨x,hx,_,hx2⟩:=gw (f:=D.str) (l:=ns) p7 q7;simp_arith[bF,bx,bM,cX,d_,iJ,iW,lq,kI,jC,p_,qw,qd,rn,vf,jR,jB,len_strs,g8,eU,pJ,rP,eq_int,jz,hx2];refine dh s7 (by omega) (by omega) λr8 a8 b8 p8 q8 s8=>?_;obtain⟨y,hy,_,hy2⟩:=gw (f:=D.str) (l:=ns) p8 q8;simp_arith[bF,bx,bM,cX,d_,iJ,iW,lq,kI,jC,p_,qw,qd,rn,vf,jR,jB,len_strs,g8,eU,pJ,rP,eq_int,jz,hy2];exact hQ _ ⟨x,y,_,_,hx,hy,s8,rfl⟩
   rintro _ ⟨x,y,a7,b7,hx,hy,s7,rfl⟩;refine bB (λρ=>∃(v:Int)(a' b':Int),0<=a'/\ρ=[some (tp a' b'),some (D.lst Mk.frz (List.map D.str ns)),some (D.int t),some (D.lst Mk.own (js.map jD)),some (D.int w),some (D.dct .own ks ds),some (D.int sl),some (D.int k),some (D.str x),some (D.str y),some (D.int v),x11]) (λQ hQ=>?_) ?_
   .simp_arith[aF]
    refine dh s7 (by omega) (by omega) λr8 a8 b8 p8 q8 s8=>?_;simp_arith[aF];exact hQ _ ⟨_,_,_,s8,rfl⟩
   rintro _ ⟨v,a8,b8,s8,rfl⟩;refine bB (λρ=>∃(y:Str),y∈ns/\ρ=[some (tp a8 b8),some (D.lst Mk.frz (List.map D.str ns)),some (D.int t),some (D.lst Mk.own (js.map jD)),some (D.int w),some (D.dct .own ks ds),some (D.int sl),some (D.int k),some (D.str x),some (D.str y),some (D.int v),x11]) (λQ hQ=>?_) ?_
   .simp_arith[eq_int]
    split
    .exact hQ _ ⟨x,hx,rfl⟩
    .exact hQ _ ⟨y,hy,rfl⟩
   clear hy y;rintro _ ⟨y,hy,rfl⟩;have two:∀{Q:Fl->Prop}{a8 b8:Int}{x y:Str}(c:Int)(sw:Bool),x∈ns->y∈ns->0<=a8->(∀x y a' b',x∈ns->y∈ns->0<=a'->Q (.nx [some (tp a' b'),some (D.lst Mk.frz (List.map D.str ns)),some (D.int t),some (D.lst Mk.own (js.map jD)),some (D.int w),some (D.dct .own ks ds),some (D.int sl),some (D.int k),some (D.str x),some (D.str y),some (D.int v),x11]))->
     Wp (sIf (uV (eB (e2 gEq (aq false 10) (eC (.int c)))) (eB (e2 gNe (aq false 3) (eAp aU aC)))) (dD (Ky (ee2 gIx (eUp (aq false 3)) (eIo aA [0] (bT (ao (eAp cF (ao (aq false 3) aC)) aC)))) gU (gn (eC (.int 2)))) (tgT 2 (if sw then aP (tgN 9) (aP (tgN 8) dF)else aP (tgN 8) (aP (tgN 9) dF)))) gm [some (tp a8 b8),some (D.lst Mk.frz (List.map D.str ns)),some (D.int t),some (D.lst Mk.own (js.map jD)),some (D.int w),some (D.dct .own ks ds),some (D.int sl),some (D.int k),some (D.str x),some (D.str y),some (D.int v),x11]) Q:=by
    intro Q a8 b8 x y c sw hx hy s8 hQ;simp_arith[bF,bx,bM,cX,d_,iJ,iW,lq,kI,jC,p_,qw,qd,rn,vf,jR,jB,len_strs,g8,eU,pJ,rP,eq_int,jz,aU];split
    .by_cases hjn:js=[]
     .subst hjn
      simp;exact hQ _ _ _ _ hx hy s8
     .have hjp:0<js.length:=List.length_pos_iff.mpr hjn
      simp_arith[hjn,bF,bx,bM,cX,d_,iJ,iW,lq,kI,jC,p_,qw,qd,rn,vf,jR,jB,len_strs,g8,eU,pJ,rP,eq_int,jz];refine dh s8 (by omega) (by omega) λr9 a9 b9 p9 q9 s9=>?_;obtain⟨j,hj,_,hj2⟩:=gw (f:=jD) (l:=js) p9 q9;cases sw<;>simp_arith[bF,bx,bM,cX,d_,iJ,iW,lq,kI,jC,p_,qw,qd,rn,vf,jR,jB,len_strs,g8,eU,pJ,rP,eq_int,jz,hj2]
      .exact hQ _ _ _ _ (hjs j hj).1 (hjs j hj).2 s9
      .exact hQ _ _ _ _ (hjs j hj).2 (hjs j hj).1 s9
    .exact hQ _ _ _ _ hx hy s8
   refine bB (λρ=>∃(x y:Str)(a' b':Int),x∈ns/\y∈ns/\0<=a'/\ρ=[some (tp a' b'),some (D.lst Mk.frz (List.map D.str ns)),some (D.int t),some (D.lst Mk.own (js.map jD)),some (D.int w),some (D.dct .own ks ds),some (D.int sl),some (D.int k),some (D.str x),some (D.str y),some (D.int v),x11]) (λQ hQ=>two 1 false hx hy s8 λx y a' b' h1 h2 h3=>hQ _ ⟨x,y,a',b',h1,h2,h3,rfl⟩) ?_;clear hx hy x y;rintro _ ⟨x,y,a9,b9,hx,hy,s9,rfl⟩;refine bB (λρ=>∃(x y:Str)(a' b':Int),x∈ns/\y∈ns/\0<=a'/\ρ=[some (tp a' b'),some (D.lst Mk.frz (List.map D.str ns)),some (D.int t),some (D.lst Mk.own (js.map jD)),some (D.int w),some (D.dct .own ks ds),some (D.int sl),some (D.int k),some (D.str x),some (D.str y),some (D.int v),x11]) (λQ hQ=>two 2 true hx hy s9 λx y a' b' h1 h2 h3=>hQ _ ⟨x,y,a',b',h1,h2,h3,rfl⟩) ?_;clear hx hy x y;rintro _ ⟨x,y,a10,b10,hx,hy,s10,rfl⟩;obtain⟨jx,ix,hkx,hdx⟩:=hkd x hx;obtain⟨jy,iy,hky,hdy⟩:=hkd y hy;have hvd:gW false ds=ds:=by
    rw[dN]
    conv=>rhs;rw[←List.map_id ds]
    exact List.map_congr_left λd hd=>by obtain⟨i,rfl⟩:=hds d hd;rfl
   refine bB (λρ=>∃(st:Int)(a' b':Int),0<=a'/\ρ=[some (tp a' b'),some (D.lst Mk.frz (List.map D.str ns)),some (D.int t),some (D.lst Mk.own (js.map jD)),some (D.int w),some (D.dct .own ks ds),some (D.int sl),some (D.int k),some (D.str x),some (D.str y),some (D.int v),some (D.int st)]) (λQ hQ=>?_) ?_
   .have ht1: -18446744073709551616<t/\t<18446744073709551616:=by omega
    simp_arith[gIx,lQ,hvd,hkx,hdx,hky,hdy,m_];refine dh s10 (by omega) (by omega) λr11 a11 b11 p11 q11 s11=>?_;simp_arith[m_,jU,bQ,ht1];exact hQ _ ⟨_,_,_,s11,rfl⟩
   rintro _ ⟨st,a11,b11,s11,rfl⟩;refine bB (λρ=>∃(st:Int)(a' b':Int),0<=a'/\ρ=[some (tp a' b'),some (D.lst Mk.frz (List.map D.str ns)),some (D.int t),some (D.lst Mk.own (js.map jD)),some (D.int w),some (D.dct .own ks ds),some (D.int sl),some (D.int k),some (D.str x),some (D.str y),some (D.int v),some (D.int st)]) (λQ hQ=>?_) ?_
   .simp_arith[gGt]
    split
    .refine dh s11 (by omega) (by omega) λr12 a12 b12 p12 q12 s12=>?_
     simp_arith[eq_int];split
     .simp_arith[aU,gA,vo]
      refine dh s12 (by omega) (by omega) λr13 a13 b13 p13 q13 s13=>?_;have:r13=0∨r13=1∨r13=2∨r13=3:=by omega
      rcases this with rfl|rfl|rfl|rfl<;>simp_arith[gIx,atI,ixN,bQ]<;>exact hQ _ ⟨_,_,_,s13,rfl⟩
     .exact hQ _ ⟨_,_,_,s12,rfl⟩
    .exact hQ _ ⟨_,_,_,s11,rfl⟩
   rintro _ ⟨st',a12,b12,s12,rfl⟩;simp_arith[cu,bI];refine⟨by omega,⟨js++[(x,y,st')],_,_,_,_,_,_,_,by rw[List.map_append];rfl,?_,by simp;omega,s12⟩⟩;intro j hj;rcases List.mem_append.mp hj with z|z
   .exact hjs j z
   .obtain rfl:j=(x,y,st'):=by simpa using z
    exact⟨hx,hy⟩
  .rintro ρ ⟨js,a6,b6,x7,x8,x9,x10,x11,rfl,hjs,hjl,s6⟩
   simp_arith[aF];rw[qZ]at hjl;exact⟨js,a6,b6,rfl,hjs,by omega,s6⟩
inductive Tyd:D->Prop
 |non:Tyd .non
 |bl (b:Bool):Tyd (.bl b)
 |int (i:Int):Tyd (.int i)
 |str (x:Str):Tyd (.str x)
 |tup {ds:List D}:(∀e∈ds,Tyd e)->Tyd (.tup ds)
 |lst {ds:List D}:(∀e∈ds,Tyd e)->Tyd (.lst .frz ds)
theorem iK{f:D->D}{ds:List D}(h:∀e∈ds,f e=e):ds.map f=ds:=by
 conv=>rhs;rw[←List.map_id ds]
 exact List.map_congr_left h
theorem Tyd.all{d:D}(h:Tyd d):fz d=d/\fzo d=d/\(∀b,view b d=d)/\aG d=true/\aD d=true/\ig d=true:=by
 induction h with
 |non=>exact⟨rfl,rfl,λ_=>rfl,rfl,rfl,rfl⟩
 |bl b=>exact⟨rfl,rfl,λ_=>rfl,rfl,rfl,rfl⟩
 |int b=>exact⟨rfl,rfl,λ_=>rfl,rfl,rfl,rfl⟩
 |str b=>exact⟨rfl,rfl,λ_=>rfl,rfl,rfl,rfl⟩
 |@tup ds _ ih=>
  have hd:∀l:List D,(∀e∈l,ig e=true)->iR l=true:=λl=>by
   induction l with
   |nil=>intro _;rfl
   |cons x r ihl=>intro z;simp[iR,z x (by simp),ihl λe he=>z e (by simp[he])]
  exact⟨by rw[fz,gh,iK λe he=>(ih e he).1],by rw[fzo,gJ,iK λe he=>(ih e he).2.1],λb=>by rw[view,dN,iK λe he=>(ih e he).2.2.1 b],by rw[aG];exact bY λe he=>(ih e he).2.2.2.1,by rw[aD];exact bU λe he=>(ih e he).2.2.2.2.1,by rw[ig];exact hd ds λe he=>(ih e he).2.2.2.2.2⟩
 |@lst ds _ ih=>
  have hd:∀l:List D,(∀e∈l,ig e=true)->iR l=true:=λl=>by
   induction l with
   |nil=>intro _;rfl
   |cons x r ihl=>intro z;simp[iR,z x (by simp),ihl λe he=>z e (by simp[he])]
  refine⟨by rw[fz,gh,iK λe he=>(ih e he).1];rfl,by rw[fzo,gJ,iK λe he=>(ih e he).2.1];rfl,λb=>by rw[view,dN,iK λe he=>(ih e he).2.2.1 b];cases b<;>rfl,?_,?_,by rw[ig];exact hd ds λe he=>(ih e he).2.2.2.2.2⟩
  .simp[aG,bY λe he=>(ih e he).2.2.2.1]
  .simp[aD,bU λe he=>(ih e he).2.2.2.2.1]
theorem Tyd.ofL{ds:List D}(h:∀e∈ds,Tyd e):fzL ds=ds/\i_ ds=ds/\(∀b,gW b ds=ds)/\aH ds=true/\aJ ds=true:=
 ⟨by rw[gh,iK λe he=>(h e he).all.1],by rw[gJ,iK λe he=>(h e he).all.2.1],λb=>by rw[dN,iK λe he=>(h e he).all.2.2.1 b],bY λe he=>(h e he).all.2.2.2.1,bU λe he=>(h e he).all.2.2.2.2.1⟩
def pK:D->Bool
 |.int _=>true
 |_=>false
def prB:D->Bool
 |.tup [.int _,.int s]=>s==1||s== -1
 |_=>false
theorem An{d:D}(h:Tyd d):dJ [d]=some (.bl (pK d)):=by
 apply Wp.eq;cases h<;>simp_arith[dJ,bu,tyN,okT,isT,z_,pK]
def xr:D->Bool
 |.tup ds=>decide (ds.length=2)
 |_=>false
theorem Ma{d:D}(h:Tyd d):di [d]=some (.bl (xr d)):=by
 apply Wp.eq;cases h with
 |tup hd=>
  obtain⟨h1,h2,h3,h4,h5⟩:=Tyd.ofL hd;simp_arith[di,bu,tyN,okT,isT,cF,h3,eq_int,xr];constructor<;>intro z<;>omega
 |lst hd=>
  obtain⟨h1,h2,h3,h4,h5⟩:=Tyd.ofL hd;simp_arith[di,bu,tyN,okT,isT,h3,xr]
 |_=>simp_arith[di,bu,tyN,okT,isT,xr]
def pm(s:Int):Bool:=s==1||s== -1
theorem U8{s:Int}:gIn (.int s) (.tup [.int 1,.int (-1)])=some (.bl (pm s)):=by
 simp[gIn,qx,scV,nG,inV,eqV,pm];rw[Bool.beq_comm (a:=(1:Int)),Bool.beq_comm (a:=(-1:Int))]
theorem Ke{s:Int}:eF (.int s) (.tup [.int 1,.int (-1)])=some (.bl (!pm s)):=by
 simp[eF,qx,scV,nG,inV,eqV,pm];rw[Bool.beq_comm (a:=(1:Int)),Bool.beq_comm (a:=(-1:Int))]
theorem Py{d:D}(h:xr d=true):∃x y,d= .tup [x,y]:=by
 unfold xr at h;split at h
 .rename_i ds
  match ds,h with
  |[x,y],_=>exact⟨x,y,rfl⟩
  |[],h=>simp at h
  |[_],h=>simp at h
  |_::_::_::_,h=>simp at h
 .cases h
theorem GC{d:D}(h:xr d=false):prB d=false:=by
 unfold prB;split
 .simp[xr]at h
 .rfl
theorem xf{x y:D}:prB (.tup [x,y])=(pK x&&pK y&&(match y with|.int s=>pm s|_=>false)):=by
 cases x<;>cases y<;>simp[prB,pK,pm]
theorem Ro{d:D}(h:Tyd d):gH [d]=some (.bl (prB d)):=by
 apply Wp.eq;have hc:=Ma h;obtain⟨f1,f2,f3,f4,f5,f6⟩:=h.all;simp_arith[gH,f1,f3,hc,gq];cases hb:xr d with
 |false=>simp[GC hb]
 |true=>
  obtain⟨x,y,rfl⟩:=Py hb;cases h with
  |tup hd=>
   have hx:=hd x (by simp);have hy:=hd y (by simp);have h1:=An hx;have h2:=An hy;obtain⟨g1,_,_,g4,g5,_⟩:=hx.all;obtain⟨k1,_,_,k4,k5,_⟩:=hy.all;simp[rP,atI,ixN,aF,g1,g4,g5,k1,k4,k5,h1,h2,gA,bI,xf];cases hn:pK x with
   |false=>simp
   |true=>
    simp;cases hy with
    |int s=>simp[pK,U8,aF,aG,aD]
    |_=>simp[pK]
def mD:D->Bool
 |.tup ds=>ds.all prB
 |_=>false
theorem Gk(f:D->Bool):∀ds:List D,zP (ds.map λd=>.bl (f d))=some (ds.map f)
 |[]=>rfl
 |d::r=>by simp[zP,Gk f r]
theorem all_map(f:D->Bool)(ds:List D):vg [.lst .own (ds.map λd=>.bl (f d))]=some (.bl (ds.all f)):=by
 simp[vg,Gk,List.all_map]
theorem Qt{d:D}(h:Tyd d)(hl:(kids d).length<=1000):fu [d]=some (.bl (mD d)):=by
 apply Wp.eq;cases h with
 |@tup ds hd=>
  obtain⟨h1,h2,h3,h4,h5⟩:=Tyd.ofL hd;have hl:ds.length<=1000:=hl;simp_arith[fu,bu,tyN,okT,isT,h2,h3];refine⟨by omega,?_⟩;rw[cL (p:=λ_=>true) (f:=λd=>.bl (prB d))]
  .rw[aF,filter_tt,all_map]
   simp[aF,aG,aD,mD]
  .intro d hdm
   obtain⟨f1,f2,f3,f4,f5,f6⟩:=(hd d hdm).all;simp_arith[f1,f3,f4,f5,Ro (hd d hdm)]
 |lst hd=>
  obtain⟨h1,h2,h3,h4,h5⟩:=Tyd.ofL hd;simp_arith[fu,bu,tyN,okT,isT,h3,mD]
 |_=>simp_arith[fu,bu,tyN,okT,isT,mD]
theorem ne_int{i j:Int}:gNe (.int i) (.int j)=some (.bl (!decide (i=j))):=by
 unfold gNe;rw[if_pos ⟨rfl,rfl,by simp[dt,dp],by simp[dt,dp]⟩];simp[dt,eqD];exact Bool.eq_iff_iff.mpr (by simp)
theorem JX{ds:List D}{k:Nat}{d:D}(h:(ds.take k).all prB=true)(e:ds[k]? =some d)(hp:prB d=true):(ds.take (k+1)).all prB=true:=by
 rw[List.take_add_one,e,List.all_append,h];simp[hp]
theorem Ho{ds:List D}{k:Nat}{d:D}(e:ds[k]? =some d)(hp:prB d=false):ds.all prB=false:=by
 have hm:=List.mem_of_getElem? e;rw[List.all_eq_false];exact⟨d,hm,by simp[hp]⟩
def WyI(ds:List D)(k:Nat)(ρ:En):Prop:=∃x,ρ=[some (.tup ds),x]/\(ds.take k).all prB=true
abbrev Pt:=Int×Int
def ptD(p:Pt):D:=.tup [.int p.1,.int p.2]
theorem kE(l:List Pt):aH (l.map ptD)=true:=bY λd hd=>by obtain⟨x,_,rfl⟩:=List.mem_map.mp hd;rfl
theorem k_(l:List Pt):aJ (l.map ptD)=true:=bU λd hd=>by obtain⟨x,_,rfl⟩:=List.mem_map.mp hd;rfl
theorem lg(b:Bool)(l:List Pt):gW b (l.map ptD)=l.map ptD:=by rw[dN,List.map_map];rfl
theorem Br(l:List Pt):fzL (l.map ptD)=l.map ptD:=by rw[gh,List.map_map];rfl
theorem yD(l:List Pt):i_ (l.map ptD)=l.map ptD:=by rw[gJ,List.map_map];rfl
theorem J3:∀{ds:List D},ds.all prB=true->∃ps:List Pt,ds=ps.map ptD/\∀p∈ps,pm p.2=true
 |[],_=>⟨[],rfl,by simp⟩
 |d::r,h=>by
  rw[List.all_cons,Bool.and_eq_true]at h;obtain⟨ps,rfl,hp⟩:=J3 h.2;have h1:=h.1;unfold prB at h1;split at h1
  .rename_i n s
   exact⟨(n,s)::ps,rfl,λp hp'=>(List.mem_cons.mp hp').elim (λz=>by rw[z];exact h1) (hp p)⟩
  .cases h1
structure JJ(J:D)(js:List Jt):Prop where
 f:fz J=J
 v:∀b,view b J=J
 b:aG J=true
 o:aD J=true
 l:cF [J]=some (.int js.length)
 x:∀i,gIx J (.int i)=atI (js.map jD) i
 s:dq J=some (true,js.map jD)
 e:itE (λ_=>some [J]) []=some (true,mU 0 (js.map jD))
theorem JJ.lst(js:List Jt):JJ (.lst .frz (js.map jD)) js:=⟨by simp[fz,kI,mkF],λb=>by cases b<;>simp[view,lq,mkV],by simp[aG,iJ],by simp[aD,iW],by simp[cF],λ_=>rfl,by simp[dq,clean,aG,aD,iJ,iW,jC],by simp[itE,dq,clean,aG,aD,iJ,iW,jC]⟩
theorem JJ.tup(js:List Jt):JJ (.tup (js.map jD)) js:=⟨by simp[fz,kI],λb=>by simp[view,lq],by simp[aG,iJ],by simp[aD,iW],by simp[cF],λ_=>rfl,by simp[dq,clean,aG,aD,iJ,iW,jC],by simp[itE,dq,clean,aG,aD,iJ,iW,jC]⟩
def ends(j:Jt)(s:Int):Str×Str:=if s=1 then(j.1,j.2.1)else(j.2.1,j.1)
def stp(js:List Jt)(p:Pt):Option (Str×Str):=if 0<=p.1/\p.1<js.length then(js[p.1.toNat]?).map λj=>ends j p.2 else none
def lst(h:Str):List Str->Str
 |[]=>h
 |x::r=>lst x r
def mt(js:List Jt):Str->List Pt->Option (List Str)
 |_,[]=>some []
 |h,p::r=>(stp js p).bind λq=>if q.1=h then(mt js q.2 r).map λt=>q.2::t else none
theorem FP:∀(l:List Str)(h x:Str),lst h (l++[x])=x
 |[],_,_=>rfl
 |_::r,_,x=>FP r _ x
theorem vC{js:List Jt}:∀(ps:List Pt)(h:Str)(p:Pt),mt js h (ps++[p])=(mt js h ps).bind λl=>(stp js p).bind λq=>if q.1=lst h l then some (l++[q.2])else none
 |[],h,p=>by
  rw[List.nil_append,mt,mt,Option.bind_some];cases stp js p with
  |none=>rfl
  |some q=>
   simp only[Option.bind_some];by_cases hq:q.1=h
   .rw[if_pos hq,if_pos (show q.1=lst h []from hq)];rfl
   .rw[if_neg hq,if_neg (show ¬q.1=lst h []from hq)]
 |a::r,h,p=>by
  rw[List.cons_append,mt,mt];cases e:stp js a with
  |none=>simp
  |some q=>
   simp only[Option.bind_some];by_cases hq:q.1=h
   .rw[if_pos hq,if_pos hq,vC r q.2 p]
    cases e2:mt js q.2 r with
    |none=>simp
    |some l=>
     cases e3:stp js p with
     |none=>simp
     |some u=>
      simp only[Option.bind_some,Option.map_some];by_cases hu:u.1=lst q.2 l
      .rw[if_pos hu,if_pos (show u.1=lst h (q.2::l)from hu)];rfl
      .rw[if_neg hu,if_neg (show ¬u.1=lst h (q.2::l)from hu)];rfl
   .rw[if_neg hq,if_neg hq]
    rfl
theorem KR{js:List Jt}:∀(ps rs:List Pt)(h:Str),mt js h ps=none->mt js h (ps++rs)=none
 |[],rs,h,e=>by simp[mt]at e
 |a::r,rs,h,e=>by
  rw[List.cons_append,mt];rw[mt]at e;cases e1:stp js a with
  |none=>simp
  |some q=>
   simp only[e1,Option.bind_some]at e⊢;by_cases hq:q.1=h
   .rw[if_pos hq]at e⊢
    cases e2:mt js q.2 r with
    |none=>rw[KR r rs q.2 e2];rfl
    |some l=>simp[e2]at e
   .rw[if_neg hq]
theorem vN{js:List Jt}:∀(ps:List Pt)(h:Str)(l:List Str),mt js h ps=some l->l.length=ps.length
 |[],h,l,e=>by cases e;rfl
 |a::r,h,l,e=>by
  rw[mt]at e;cases e1:stp js a with
  |none=>simp[e1]at e
  |some q=>
   simp only[e1,Option.bind_some]at e;by_cases hq:q.1=h
   .rw[if_pos hq]at e
    cases e2:mt js q.2 r with
    |none=>simp[e2]at e
    |some t=>
     obtain rfl:q.2::t=l:=by simpa[e2]using e
     simp[vN r q.2 t e2]
   .rw[if_neg hq]at e;cases e
theorem JZ{j:Jt}{s:Int}:iC [jD j,.int s]=some (.tup [.str (ends j s).1,.str (ends j s).2]):=by
 apply Wp.eq;simp_arith[iC,qd];simp_arith[jD,bI,eq_int,ends];by_cases hs:s=1<;>simp[hs]
def LdI(J:D)(js:List Jt)(h:Str)(ps:List Pt)(k:Nat)(ρ:En):Prop:=∃(l:List Str)(x4 x5 x6 x7:Option D),mt js h (ps.take k)=some l/\ρ=[some J,some (.str h),some (.tup (ps.map ptD)),some (.str (lst h l)),x4,x5,x6,x7]
theorem wI{ps:List Pt}{k:Nat}{p:Pt}(e:ps[k]? =some p):ps.take (k+1)=ps.take k++[p]:=by rw[List.take_add_one,e];rfl
theorem Gi{js:List Jt}{h:Str}{ps:List Pt}{k:Nat}(e:mt js h (ps.take k)=none):mt js h ps=none:=by
 have:=KR (ps.take k) (ps.drop k) h e;rwa[List.take_append_drop]at this
def IV(h:Str):Option (List Str)->D
 |none=>.non
 |some l=>.str (lst h l)
theorem ne_str{x y:Str}:gNe (.str x) (.str y)=some (.bl (!decide (x=y))):=by
 unfold gNe;rw[if_pos ⟨rfl,rfl,by simp[dt,dp],by simp[dt,dp]⟩];simp[dt,eqD];exact Bool.eq_iff_iff.mpr (by simp)
theorem qK{js:List Jt}{p:Pt}(h:¬(0<=p.1/\p.1<js.length)):stp js p=none:=by unfold stp;rw[if_neg h]
theorem rC{js:List Jt}{p:Pt}(h:0<=p.1/\p.1<js.length):∃j,j∈js/\js[p.1.toNat]? =some j/\atI (js.map jD) p.1=some (jD j)/\stp js p=some (ends j p.2):=by
 obtain⟨j,h1,h2,h3⟩:=gw (f:=jD) h.1 h.2;exact⟨j,h1,h2,h3,by unfold stp;rw[if_pos h,h2];rfl⟩
theorem Vh{J:D}{js:List Jt}{h:Str}{ps:List Pt}(hJ:JJ J js):j5 [J,.str h,.tup (ps.map ptD)]=some (IV h (mt js h ps)):=by
 apply Wp.eq;simp_arith[j5,hJ.v,lg,yD,kE,k_];refine iY (LdI J js h ps) ⟨[],none,none,none,none,rfl,rfl⟩ ?_ ?_
 .rintro k d ρ hk ⟨l,x4,x5,x6,x7,hl,rfl⟩
  rw[List.getElem?_map]at hk;cases hp:ps[k]? with
  |none=>simp[hp]at hk
  |some p=>
   obtain rfl:ptD p=d:=by simpa[hp]using hk
   have hsn:=vC (js:=js) (ps.take k) h p;rw[←wI hp,hl]at hsn;simp only[Option.bind_some]at hsn;simp_arith[ptD,hJ.v,hJ.l,gLt,gGe];have hnone:mt js h (ps.take (k+1))=none->D.non=IV h (mt js h ps):=λz=>by rw[Gi z];rfl
   split
   .exact hnone (by rw[hsn,qK (by omega)];rfl)
   .split
    .exact hnone (by rw[hsn,qK (by omega)];rfl)
    .obtain⟨j,_,_,hj,hst⟩:=rC (js:=js) (p:=p) ⟨by omega,by omega⟩
     rw[hst,Option.bind_some]at hsn;simp[hJ.x,hj,aF,rn,JZ,p_,qw,aH,aJ,aG,aD,view,ne_str];by_cases hq:(ends j p.2).1=lst h l
     .rw[if_pos hq]at hsn
      simp[hq];exact⟨l++[(ends j p.2).2],_,_,_,_,hsn,by rw[FP]⟩
     .rw[if_neg hq]at hsn
      simp[hq];exact hnone hsn
 .rintro ρ ⟨l,x4,x5,x6,x7,hl,rfl⟩
  rw[List.length_map,List.take_length]at hl;simp_arith[hl,IV]
def sO(h:Str):Option (List Str)->D
 |none=>.non
 |some l=>.lst .own ((h::l).map D.str)
def MtI(J:D)(js:List Jt)(h:Str)(ps:List Pt)(k:Nat)(ρ:En):Prop:=∃(l:List Str)(x4 x5 x6 x7:Option D),mt js h (ps.take k)=some l/\l.length<=k/\ρ=[some J,some (.str h),some (.tup (ps.map ptD)),some (.lst .own ((h::l).map D.str)),x4,x5,x6,x7]
theorem oJ{h:Str}{l:List Str}:atI ((h::l).map D.str) (-1)=some (.str (lst h l)):=by
 have:∀(l:List Str)(h:Str),((h::l).map D.str)[l.length]? =some (.str (lst h l)):=by
  intro l
  induction l with
  |nil=>intro h;rfl
  |cons x r ih=>intro h;exact ih x
 unfold atI ixN;rw[if_neg (by decide),if_pos (by simp;omega)];simp only[Option.bind_some];rw[show((-1:Int)+(((h::l).map D.str).length:Nat)).toNat=l.length by simp;omega];exact this l h
theorem Bg{j:Jt}{s:Int}(hs:pm s=true):lZ (.tup [.str j.1,.str j.2.1]) (.int s)=some (.tup [.str (ends j s).1,.str (ends j s).2]):=by
 have:s=1∨s= -1:=by simpa[pm]using hs
 rcases this with rfl|rfl<;>simp[lZ,ends]
theorem K3{J:D}{js:List Jt}{h:Str}{ps:List Pt}(hJ:JJ J js)(hp:∀p∈ps,pm p.2=true)(hn:ps.length<=1000):d8 [J,.str h,.tup (ps.map ptD)]=some (sO h (mt js h ps)):=by
 apply Wp.eq;simp_arith[d8,hJ.v,lg,yD,kE,k_,aU];refine iY (MtI J js h ps) ⟨[],none,none,none,none,rfl,Nat.le_refl _,rfl⟩ ?_ ?_
 .rintro k d ρ hk ⟨l,x4,x5,x6,x7,hl,hlk,rfl⟩
  rw[List.getElem?_map]at hk;cases hpk:ps[k]? with
  |none=>simp[hpk]at hk
  |some p=>
   obtain rfl:ptD p=d:=by simpa[hpk]using hk
   have hkl:k<ps.length:=(List.getElem?_eq_some_iff.mp hpk).1;have hpm:=hp p (List.mem_of_getElem? hpk);have hsn:=vC (js:=js) (ps.take k) h p;rw[←wI hpk,hl]at hsn;simp only[Option.bind_some]at hsn;have hnone:mt js h (ps.take (k+1))=none->D.non=sO h (mt js h ps):=λz=>by rw[Gi z];rfl
   have hvl:view false (D.lst .own ((h::l).map D.str))=D.lst .brw ((h::l).map D.str):=by rw[view,bM];rfl
   simp_arith[ptD,hJ.v,hJ.l,gLe,gLt,-List.map_cons];by_cases hr:0<=p.1/\p.1<js.length
   .obtain⟨j,_,_,hj,hst⟩:=rC hr
    rw[hst,Option.bind_some]at hsn;have hd1:decide (0<=p.1)=true:=decide_eq_true hr.1;have hd2:decide (p.1<(js.length:Int))=true:=decide_eq_true hr.2;simp[hd1,hd2,hJ.x,hj,aF,jR,Bg hpm,aH,aJ,aG,aD,view,bM,gA,pJ,-List.map_cons];rw[oJ];simp only[aF,ne_str];by_cases hq:(ends j p.2).1=lst h l
    .rw[if_pos hq]at hsn
     have hlen:l.length+1<1000000:=by omega
     simp[hq,tW,cu,aF,nF,aH,aJ,aG,aD,hlen,-List.map_cons];exact⟨l++[(ends j p.2).2],_,_,_,_,hsn,by simp;omega,by simp;exact⟨rfl,rfl,rfl,rfl⟩⟩
    .rw[if_neg hq]at hsn
     simp[hq];exact hnone hsn
   .have hend:=hnone (by rw[hsn,qK hr];rfl)
    by_cases h0:0<=p.1
    .have hd1:decide (0<=p.1)=true:=decide_eq_true h0
     have hd2:decide (p.1<(js.length:Int))=false:=decide_eq_false λz=>hr ⟨h0,z⟩;simp only[hd1,hd2,aF,Bool.false_eq_true,if_false];exact hend
    .have hd1:decide (0<=p.1)=false:=decide_eq_false h0
     simp only[hd1,aF,Bool.false_eq_true,if_false];exact hend
 .rintro ρ ⟨l,x4,x5,x6,x7,hl,hlk,rfl⟩
  rw[List.length_map,List.take_length]at hl;simp_arith[hl,sO]
def tot(js:List Jt):List Pt->Int
 |[]=>0
 |p::r=>p.2*((js[p.1.toNat]?).map λj=>j.2.2).getD 0+tot js r
def inJ(js:List Jt)(ps:List Pt):Prop:=∀p∈ps,0<=p.1/\p.1<js.length
theorem Qj{js:List Jt}:∀(ps:List Pt)(h:Str)(l:List Str),mt js h ps=some l->inJ js ps
 |[],h,l,e=>by intro p hp;cases hp
 |a::r,h,l,e=>by
  rw[mt]at e;by_cases hr:0<=a.1/\a.1<js.length
  .obtain⟨j,_,_,_,hst⟩:=rC hr
   rw[hst,Option.bind_some]at e;by_cases hq:(ends j a.2).1=h
   .rw[if_pos hq]at e
    cases e2:mt js (ends j a.2).2 r with
    |none=>simp[e2]at e
    |some t=>exact λp hp=>(List.mem_cons.mp hp).elim (λz=>by rw[z];exact hr) (Qj r _ t e2 p)
   .rw[if_neg hq]at e;cases e
  .rw[qK hr]at e;cases e
theorem Js{js:List Jt}:∀(ps:List Pt)(h:Str)(l:List Str),mt js h ps=some l->l=ps.map λp=>((stp js p).map (·.2)).getD ("":Str)
 |[],h,l,e=>by cases e;rfl
 |a::r,h,l,e=>by
  rw[mt]at e;cases e1:stp js a with
  |none=>simp[e1]at e
  |some q=>
   simp only[e1,Option.bind_some]at e;by_cases hq:q.1=h
   .rw[if_pos hq]at e
    cases e2:mt js q.2 r with
    |none=>simp[e2]at e
    |some t=>
     obtain rfl:q.2::t=l:=by simpa[e2]using e
     rw[List.map_cons,e1,←Js r q.2 t e2];rfl
   .rw[if_neg hq]at e;cases e
theorem RN{J:D}{js:List Jt}{h:Str}{ps:List Pt}{l:List Str}(hJ:JJ J js)(hm:mt js h ps=some l)(hn:ps.length<=1000):fO [J,.tup (ps.map ptD)]=some (.lst .own (l.map D.str)):=by
 apply Wp.eq;simp_arith[fO,hJ.v,lg,yD];refine⟨by omega,?_⟩;rw[cL (p:=λ_=>true) (f:=λd=>match d with|.tup [.int a,.int b]=>.str (((stp js (a,b)).map (·.2)).getD ("":Str))|_=>.non)]
 .rw[aF,filter_tt,List.map_map]
  have e:(ps.map ((λd=>match d with|.tup [.int a,.int b]=>D.str (((stp js (a,b)).map (·.2)).getD ("":Str))|_=>.non)∘ptD))=l.map D.str:=by
   rw[Js ps h l hm,List.map_map];rfl
  rw[e];simp[bF,bx]
 .intro d hd
  obtain⟨p,hp,rfl⟩:=List.mem_map.mp hd;obtain⟨j,_,_,hj,hst⟩:=rC (Qj ps h l hm p hp);have two1:∀x y:D,gIx (.tup [x,y]) (.int 1)=some y:=λ_ _=>rfl;simp_arith[ptD,hJ.v,hJ.x,hj,rn,p_,qw,JZ,two1,hst]
theorem tE:∀l:List Str,ju (l.map D.str)=some (l.map Sum.inr)
 |[]=>rfl
 |x::r=>by simp[ju,lQ,tE r]
def dS(l:List Str):Nat:=(uJ (l.map Sum.inr)).length
theorem Aa{m:Mk}{l:List Str}(h:l.length<=1000):gZ [.lst m (l.map D.str)]=some (.int (dS l)):=by
 have:(l.map D.str).length<4000:=by simp;omega
 simp[gZ,tE,dS];omega
def nums(ps:List Pt):List D:=ps.map λp=>D.int p.1
theorem nums_c(ps:List Pt):fW (tpT 2 (aP (tpN 0) (aP (tpN 1) dF))) eTT (aq false 0) [none,none] (ps.map ptD)=some (nums ps):=by
 rw[cL (p:=λ_=>true) (f:=λd=>match d with|.tup [a,b]=>a|_=>.non)]
 .rw[filter_tt,List.map_map]
  rfl
 .intro d hd
  obtain⟨p,hp,rfl⟩:=List.mem_map.mp hd;simp_arith[ptD]
theorem O_{l:List Str}(h:l.length<=1000):cB [.lst .frz (l.map D.str)]=some (.bl (decide (dS l=l.length))):=by
 apply Wp.eq;simp_arith[cB,bM,Aa h,len_strs,eq_int];omega
theorem vwn(b:Bool)(l:List Pt):gW b (nums l)=nums l:=by rw[dN,nums,List.map_map];rfl
theorem Hk{h:Str}:gNe .non (.str h)=some (.bl true):=by
 unfold gNe;rw[if_pos ⟨rfl,rfl,by simp[dt,dp],by simp[dt,dp]⟩];simp[dt,eqD]
theorem Ms{ps:List Pt}(hp:∀p∈ps,pm p.2=true):mD (.tup (ps.map ptD))=true:=by
 simp only[mD,List.all_map,List.all_eq_true];intro p hpm;exact hp p hpm
theorem QR(ps:List Pt):Tyd (.tup (ps.map ptD)):=.tup λe he=>by
 obtain⟨p,_,rfl⟩:=List.mem_map.mp he;exact .tup λe he=>by
  rcases List.mem_cons.mp he with z|z
  .rw[z];exact .int _
  .rcases List.mem_cons.mp z with z|z
   .rw[z];exact .int _
   .cases z
theorem JD{a b:Bool}:gEq (.bl a) (.bl b)=some (.bl (a==b)):=by
 unfold gEq;rw[if_pos ⟨rfl,rfl,by simp[dt,dp],by simp[dt,dp]⟩];simp[dt,eqD]
theorem eq_str{a:Str}:gEq (.str a) (.str a)=some (.bl true):=by
 unfold gEq;rw[if_pos ⟨rfl,rfl,by simp[dt,dp],by simp[dt,dp]⟩];simp[dt,eqD]
abbrev Tt:=Int×Int×Str
def tD(t:Tt):D:=.tup [.int t.1,.int t.2.1,.str t.2.2]
theorem Kd(l:List Tt):aH (l.map tD)=true:=bY λd hd=>by obtain⟨x,_,rfl⟩:=List.mem_map.mp hd;rfl
theorem J6(l:List Tt):aJ (l.map tD)=true:=bU λd hd=>by obtain⟨x,_,rfl⟩:=List.mem_map.mp hd;rfl
theorem Ae(b:Bool)(l:List Tt):gW b (l.map tD)=l.map tD:=by rw[dN,List.map_map];rfl
theorem Uv(l:List Tt):i_ (l.map tD)=l.map tD:=by rw[gJ,List.map_map];rfl
theorem MJ{m:Mk}{ds:List D}(h1:iR ds=true)(h2:dpL (dtL ds)<=50):gNe (.lst m ds) (.lst .own [])=some (.bl (!ds.isEmpty)):=by
 unfold gNe;rw[if_pos ⟨by simpa[ig]using h1,rfl,by simp only[dt,dp];omega,by decide⟩];cases ds with
 |nil=>rfl
 |cons j r=>rfl
theorem Fg:∀l:List Tt,iR (l.map tD)=true
 |[]=>rfl
 |j::r=>by simp[iR,tD,ig,Fg r]
theorem QF:∀l:List Tt,dpL (dtL (l.map tD))<=2
 |[]=>by simp[dtL,dpL]
 |j::r=>by
  have:=QF r;simp[dtL,tD,dt,dpL,dp];omega
theorem P_{m:Mk}{l:List Tt}:gNe (.lst m (l.map tD)) (.lst .own [])=some (.bl (!l.isEmpty)):=by
 rw[MJ (Fg l) (Nat.le_trans (QF l) (by decide))];cases l<;>rfl
theorem Fd:∀l:List Str,∃vs,nG (l.map D.str)=some vs
 |[]=>⟨[],rfl⟩
 |x::r=>by obtain⟨vs,h⟩:=Fd r;exact⟨.str x::vs,by simp[nG,scV,h]⟩
theorem Gm:∀l:List Pt,∃vs,nG (nums l)=some vs
 |[]=>⟨[],rfl⟩
 |x::r=>by obtain⟨vs,h⟩:=Gm r;exact⟨.int x.1::vs,by simp[nums,nG,scV]at h⊢;simp[h]⟩
theorem Ec{e:Str}{m:Mk}{l:List Str}:∃b,eF (.str e) (.lst m (l.map D.str))=some (.bl b):=by
 obtain⟨vs,h⟩:=Fd l;exact⟨!inV (.str e) vs,by simp[eF,qx,scV,h]⟩
theorem notin_nums{n:Int}{m:Mk}{l:List Pt}:∃b,eF (.int n) (.lst m (nums l))=some (.bl b):=by
 obtain⟨vs,h⟩:=Gm l;exact⟨!inV (.int n) vs,by simp[eF,qx,scV,h]⟩
theorem eqs{x y:Str}:gEq (.str x) (.str y)=some (.bl (decide (x=y))):=by
 unfold gEq;rw[if_pos ⟨rfl,rfl,by simp[dt,dp],by simp[dt,dp]⟩];simp[dt,eqD];exact Bool.eq_iff_iff.mpr (by simp)
theorem PQ(ps:List Pt):fW (tpN 0) eTT (e2 gIx (aq false 0) (eC (.int 0))) [none] (ps.map ptD)=some (nums ps):=by
 rw[cL (p:=λ_=>true) (f:=λd=>match d with|.tup [a,b]=>a|_=>.non)]
 .rw[filter_tt,List.map_map]
  rfl
 .intro d hd
  obtain⟨p,hp,rfl⟩:=List.mem_map.mp hd;simp_arith[ptD,gIx,atI,ixN]
def gdP(js:List Jt)(p:Pt):Prop:=0<=p.1/\p.1<js.length/\pm p.2=true
mutual
def tyB:D->Bool
 |.non=>true
 |.bl _=>true
 |.int _=>true
 |.str _=>true
 |.tup ds=>LC ds
 |.lst m ds=>m== .frz&&LC ds
 |_=>false
def LC:List D->Bool
 |[]=>true
 |d::r=>tyB d&&LC r
end
mutual
theorem Qi:∀{d:D},tyB d=true->Tyd d
 |.non,_=>.non
 |.bl b,_=>.bl b
 |.int i,_=>.int i
 |.str x,_=>.str x
 |.tup ds,h=>.tup (DQ (by simpa[tyB]using h))
 |.lst m ds,h=>by
  simp[tyB]at h;obtain⟨rfl,h⟩:=h;exact .lst (DQ h)
 |.ty _,h=>by simp[tyB]at h
 |.dct _ _ _,h=>by simp[tyB]at h
 |.ins _ _ _ _,h=>by simp[tyB]at h
theorem DQ:∀{ds:List D},LC ds=true->∀e∈ds,Tyd e
 |[],_,e,he=>by cases he
 |d::r,h,e,he=>by
  simp[LC]at h;rcases List.mem_cons.mp he with z|z
  .rw[z];exact Qi h.1
  .exact DQ h.2 e z
end
theorem zR:∀{ds:List D}{m:Nat},(∀e∈ds,tz e<=m)->tzL ds<=ds.length*(m+2)
 |[],m,_=>by simp[tzL]
 |d::r,m,h=>by
  have h1:=h d (by simp);have h2:=zR (ds:=r) λe he=>h e (by simp[he]);rw[tzL,List.length_cons,Nat.succ_mul];omega
theorem zM:∀{ds:List D}{m:Nat},(∀e∈ds,dz e<=m)->dzL ds<=m
 |[],m,_=>by simp[dzL]
 |d::r,m,h=>by
  have h1:=h d (by simp);have h2:=zM (ds:=r) λe he=>h e (by simp[he]);rw[dzL];omega
def eOk(d:D):Prop:=Tyd d/\tz d<=300/\dz d<=3
def Pap(d:D):Prop:=Tyd d/\tz d<=100000/\dz d<=10/\(kids d).length<=900
theorem mC{ds:List D}(h:∀e∈ds,eOk e)(hl:ds.length<=50):Pap (.tup ds):=by
 have h1:=zR (ds:=ds) (m:=300) λe he=>(h e he).2.1;have h2:=zM (ds:=ds) (m:=3) λe he=>(h e he).2.2;have h3:ds.length*(300+2)<=50*302:=Nat.mul_le_mul_right _ hl;exact⟨.tup λe he=>(h e he).1,by rw[tz];omega,by rw[dz];omega,by show ds.length<=900;omega⟩
theorem rH{ds:List D}(h:∀e∈ds,eOk e)(hl:ds.length<=50):Pap (.lst .frz ds):=by
 have h1:=zR (ds:=ds) (m:=300) λe he=>(h e he).2.1;have h2:=zM (ds:=ds) (m:=3) λe he=>(h e he).2.2;have h3:ds.length*(300+2)<=50*302:=Nat.mul_le_mul_right _ hl;exact⟨.lst λe he=>(h e he).1,by rw[tz];omega,by rw[dz];omega,by show ds.length<=900;omega⟩
theorem Np{d:D}(h:Pap d)(hz:tz d<=50000)(hd:dz d<=9):Pap (.tup [d]):=⟨.tup λe he=>by rw[List.mem_singleton.mp he];exact h.1,by simp[tz,tzL];omega,by simp[dz,dzL];omega,by simp[kids]⟩
theorem Ur(p:Pt):Tyd (ptD p):=by
 refine .tup λe he=>?_;rcases List.mem_cons.mp he with z|z
 .rw[z];exact .int _
 .rcases List.mem_cons.mp z with z|z
  .rw[z];exact .int _
  .cases z
theorem KH{p:Pt}(h1:p.1.natAbs<=200)(h2:p.2.natAbs<=3):eOk (ptD p):=⟨Ur p,by simp[ptD,tz,tzL];omega,by simp[ptD,dz,dzL]⟩
def Bu:List D:=[.non,.bl true,.bl false,.int 0,.int (-1),.int 7,.str "",.str "a",.str "nobody",.tup [],.lst .frz [],.tup [.int 0],.tup [.int 0,.int 1],.tup [.int 0,.int 2],.tup [.bl true,.int 1],.tup [.int 0,.bl true],.lst .frz [.int 0,.int 1],
 .tup [.int 0,.int 1,.int 1],.tup [.str "a",.int 0],.lst .frz [.str "a",.int 0],.tup [.tup [.str "a",.int 0]],.lst .frz [.lst .frz []],.tup [.str "a",.non],.tup [.non,.int 1],.tup [.str "0",.int 1]]
theorem R_:Bu.all (λd=>tyB d&&decide (tz d<=300)&&decide (dz d<=3))=true:=by decide +kernel
theorem gY{d:D}(h:d∈Bu):eOk d:=by
 have:=List.all_eq_true.mp R_ d h;simp at this;exact⟨Qi this.1.1,this.1.2,this.2⟩
def Od(q:D×List D):Prop:=∃(d:D)(a' b':Int),q=(d,[tp a' b'])/\d∈Bu/\0<=a'
theorem ye{a b:Int}(ha:0<=a):Wp (cG [tp a b]) Od:=by
 simp_arith[cG,aU,bI,gA,bQ,cF];refine dh ha (by omega) (by omega) λr a1 b1 p1 q1 s1=>?_;obtain⟨x,hx1,hx2⟩:=qH (l:=Bu) p1 (by show r<25;exact q1);have hm:x∈Bu:=List.mem_of_getElem? hx2;obtain⟨_,_,_,f4,f5,_⟩:=(gY hm).1.all;refine jc (show gIx (.lst .frz Bu) (.int r)=some x from hx1) ⟨⟨f4,f5⟩,?_⟩;exact aF.mpr ⟨x,a1,b1,rfl,hm,s1⟩
def Bn(L:List D)(th:D)(q:D×List D):Prop:=∃(es:List D)(a' b':Int),q=(.lst .own es,[tp a' b',.lst .frz L,th])/\(∀e∈es,e∈L∨e=th)/\es.length<=L.length+1/\0<=a'
theorem PB{ds:List D}{lo hi:Option Int}:∀e∈cutD ds lo hi,e∈ds:=λe he=>List.mem_of_mem_drop (List.mem_of_mem_take he)
theorem zL{ds:List D}{lo hi:Option Int}:(cutD ds lo hi).length<=HT.sIx ds.length ds.length hi-HT.sIx ds.length 0 lo:=by
 unfold cutD;rw[List.length_take];omega
theorem Vo{ds:List D}{k:Nat}:(cutD ds none (some (k:Int))).length<=k:=by
 refine Nat.le_trans zL ?_;simp only[HT.sIx];rw[if_neg (by omega)];omega
theorem QK{ds:List D}{k:Nat}:(cutD ds (some (k:Int)) none).length<=ds.length-k:=by
 refine Nat.le_trans zL ?_;simp only[HT.sIx];rw[if_neg (by omega)];omega
theorem Sh{ds:List D}{k:Nat}:(cutD ds (some (k:Int)) (some ((k+1:Nat):Int))).length<=1:=by
 refine Nat.le_trans zL ?_;simp only[HT.sIx];rw[if_neg (by omega),if_neg (by omega)];omega
theorem bl1{n k a b:Nat}(hk:k<=n)(h1:a<=k)(h2:b<=n-(k+1)):a+b<=n+1:=by omega
theorem bl2{n k a b c:Nat}(hk:k<=n)(h1:a<=k)(h2:b<=n-k)(h3:c<=1):a+c+b<=n+1:=by omega
theorem bl3{n k a b:Nat}(hk:k<=n)(h1:a<=k)(h2:b<=n-(k+1)):a+1+b<=n+1:=by omega
theorem Mi{a b:Int}{L:List D}{th:D}(ha:0<=a)(hL:∀e∈L,Tyd e)(hl:L.length<=45)(hth:Tyd th):Wp (dG [tp a b,.lst .frz L,th]) (Bn L th):=by
 obtain⟨f1,f2,f3,f4,f5,f6⟩:=hth.all;obtain⟨v1,v2,v3,v4,v5⟩:=Tyd.ofL hL;have hlp:∀m,cF [.lst m L]=some (.int L.length):=λm=>by simp[cF]
 have slL:∀(m:Mk)(l:List D) lo hi,gSl (.lst m l) lo hi=some (.lst .own (cutD l lo hi)):=λ_ _ _ _=>rfl;have hm:L.length+1<=1000000:=by omega
 have addL:∀(x y:List D),x.length+y.length<=L.length+1->bQ (.lst .own x) (.lst .own y)=some (.lst .own (x++y)):=λx y h=>by simp[bQ,Nat.le_trans h hm]
 have addI:∀x y:Int,bQ (.int x) (.int y)=some (.int (x+y)):=λ_ _=>rfl;simp_arith[dG,v3,hlp,addI];refine dh ha (by omega) (by omega) λr1 a1 b1 p1 q1 s1=>?_;obtain⟨k,rfl⟩:∃k:Nat,r1=k:=⟨r1.toNat,by omega⟩;have hk:k<=L.length:=by omega
 clear p1 q1 hm;simp_arith[aF];refine dh s1 (by decide) (by decide) λr2 a2 b2 p2 q2 s2=>?_;have fin2:∀es:List D,(∀e∈es,e∈L∨e=th)->es.length<=L.length+1->(aG (.lst .own es)=true/\aD (.lst .own es)=true)/\Bn L th (.lst .own es,[tp a2 b2,.lst .frz L,th]):=λes h1 h2=>by
  have hty:∀e∈es,Tyd e:=λe he=>(h1 e he).elim (hL e) λz=>by rw[z];exact hth
  obtain⟨_,_,_,g4,g5⟩:=Tyd.ofL hty;exact⟨⟨by simp[aG,g4],by simp[aD,g5]⟩,es,a2,b2,rfl,h1,h2,s2⟩
 have mem:∀(lo hi:Option Int)(e:D),e∈cutD L lo hi->e∈L∨e=th:=λlo hi e he=>.inl (PB e he);have L1:=Vo (ds:=L) (k:=k);have L2:=QK (ds:=L) (k:=k+1);have L3:=QK (ds:=L) (k:=k);have L4:=Sh (ds:=L) (k:=k);have ek:((k+1:Nat):Int)=(k:Int)+1:=rfl;rw[ek]at L2 L4;clear p2 q2 ek;simp_arith[eq_int,v3,f3,slL,addI,aU];split
 .have h:=bl1 hk L1 L2
  rw[addL _ _ h,aF];exact fin2 _ (λe he=>(List.mem_append.mp he).elim (mem _ _ e) (mem _ _ e)) (by rw[List.length_append];exact h)
 .split
  .have h:=bl2 hk L1 L3 L4
   have h2:=Nat.le_trans (Nat.le_add_right _ _) h;rw[addL _ _ h2,aF,addL _ _ (by rw[List.length_append];exact h),aF];exact fin2 _ (λe he=>(List.mem_append.mp he).elim (λhe=>(List.mem_append.mp he).elim (mem _ _ e) (mem _ _ e)) (mem _ _ e)) (by rw[List.length_append,List.length_append];exact h)
  .split
   .have h:=bl3 hk L1 L2
    have h2:=Nat.le_trans (Nat.le_add_right _ _) h;rw[addL _ _ h2,aF,addL _ _ (by rw[List.length_append];exact h),aF];exact fin2 _ (λe he=>(List.mem_append.mp he).elim (λhe=>(List.mem_append.mp he).elim (mem _ _ e) (λz=>.inr (List.mem_singleton.mp z))) (mem _ _ e)) (by rw[List.length_append,List.length_append];exact h)
   .have h:=bl2 hk L1 L3 (Nat.le_refl 1)
    have h2:=Nat.le_trans (Nat.le_add_right _ _) h;rw[addL _ _ h2,aF,addL _ _ (by rw[List.length_append];exact h),aF];exact fin2 _ (λe he=>(List.mem_append.mp he).elim (λhe=>(List.mem_append.mp he).elim (mem _ _ e) (λz=>.inr (List.mem_singleton.mp z))) (mem _ _ e)) (by rw[List.length_append,List.length_append];exact h)
def ng(ps:List Pt):List Pt:=ps.map λp=>(p.1,-p.2)
theorem Vt(ps:List Pt):fW (tpT 2 (aP (tpN 0) (aP (tpN 1) dF))) eTT (eAp bI (ao (aq false 0) (ao (e1 gA (aq false 1)) aC))) [none,none] (ps.map ptD)=some ((ng ps).map ptD):=by
 rw[cL (p:=λ_=>true) (f:=λd=>match d with|.tup [.int a,.int b]=>.tup [.int a,.int (-b)]|_=>.non)]
 .rw[filter_tt,List.map_map,ng,List.map_map]
  rfl
 .intro d hd
  obtain⟨p,hp,rfl⟩:=List.mem_map.mp hd;simp_arith[ptD,gA,bI]
def smP(p:Pt):Prop:=p.1.natAbs<=200/\p.2.natAbs<=3
theorem eP{ps:List Pt}(h:∀p∈ps,smP p):∀e∈ps.map ptD,eOk e:=λe he=>by
 obtain⟨p,hp,rfl⟩:=List.mem_map.mp he;exact KH (h p hp).1 (h p hp).2
def pI(d:D):Prop:=Pap (fz d)/\aG d=true/\aD d=true
theorem mW{d:D}(h:Pap d):pI d:=by
 obtain⟨f1,f2,f3,f4,f5,f6⟩:=h.1.all;exact⟨by rw[f1];exact h,f4,f5⟩
theorem UV{ps:List Pt}(h:∀p∈ps,smP p):∀p∈ng ps,smP p:=λp hp=>by
 obtain⟨q,hq,rfl⟩:=List.mem_map.mp hp;exact⟨(h q hq).1,by have:=(h q hq).2;simp;exact this⟩
theorem Lr:Bu.all (λd=>decide ((kids d).length<=900))=true:=by decide +kernel
theorem Gn{d:D}(h:d∈Bu):Pap d:=by
 obtain⟨h1,h2,h3⟩:=gY h;have:=List.all_eq_true.mp Lr d h;exact⟨h1,by omega,by omega,by simpa using this⟩
def one(n:Nat):Str:=⟨#[n]⟩
theorem VD{f:En->Option (List D)}{ρ:En}{j:Int}(h:f ρ=some [.int j])(h1: -(2 ^ 62)<=j)(h2:j<2 ^ 62):nZ f ρ=some (true,jL 0 j.toNat):=by
 unfold nZ;rw[h];simp only[Option.bind_some];rw[if_pos ⟨h1,h2⟩]
theorem RP{f:En->Option (List D)}{ρ:En}{n:Nat}(h:f ρ=some [.int n])(hn:n<=100):nZ f ρ=some (true,jL 0 n):=by
 have h1:(n:Int)<=100:=by omega
 have:=VD h (Int.le_trans (by decide) (Int.natCast_nonneg n)) (Int.lt_of_le_of_lt h1 (by decide));rw[Int.toNat_natCast]at this;exact this
def uU(ps:List Pt)(lo hi:Option Int):List Pt:=(ps.drop (HT.sIx ps.length 0 lo)).take (HT.sIx ps.length ps.length hi-HT.sIx ps.length 0 lo)
theorem Ox(ps:List Pt)(lo hi:Option Int):cutD (ps.map ptD) lo hi=(uU ps lo hi).map ptD:=by
 unfold cutD uU;rw[List.length_map,List.map_take,List.map_drop]
theorem Li{ps:List Pt}{lo hi:Option Int}:∀p∈uU ps lo hi,p∈ps:=λp h=>List.mem_of_mem_drop (List.mem_of_mem_take h)
theorem JB{ps:List Pt}{lo hi:Option Int}:(uU ps lo hi).length<=ps.length:=by
 unfold uU;rw[List.length_take,List.length_drop];omega
theorem rZ(b:Bool)(l:List Int):gW b (l.map D.int)=l.map D.int:=by rw[dN,List.map_map];rfl
theorem Px(l:List Int):fzL (l.map D.int)=l.map D.int:=by rw[gh,List.map_map];rfl
def Tw(d:D):Prop:=∃a b:Int,d=tp a b/\0<=a
theorem Q5{ns:List Int}{k:Int}(hk:0<=k)(hk2:k<=100)(hl:ns.length<=63):Wp (eO [.lst .scr (ns.map D.int),.int k]) Tw:=by
 have hlen:cF [.lst .scr (ns.map D.int)]=some (.int ns.length):=by simp[cF]
 have key:∀c:Int,∀Q:Fl->Prop,(∀a b ρ',0<=a->Q (.ret (tp a b) ρ'))->Wp (aX (du (e2 jU (eAp xx (ao (aq false 2) aC)) (eAp Bf (ao (e2 gGe (eAp xx (ao (aq false 2) aC)) (e2 vo (eC (.int 10)) (eC (.int 18)))) aC))) (tgN 3)) (dO (eAp aU (ao (aq false 3) (ao (e2 nQ (e2 jU (e2 bQ (e2 bQ (e2 nQ (aq false 2) (eC (.int 2147483647))) (e2 jU (eC (.int 7919)) (aq false 1))) (eC (.int 11))) (eC (.int 48271))) (eC (.int 2147483629))) aC)))) [some (.lst .scr (ns.map D.int)),some (.int k),some (.int c),none]) Q:=by
  intro c Q hQ;simp_arith[xx,vo,gGe,Bf,jU,nQ,bQ,aU];have hu:(0:Int)<=if c<0 then -c else c:=by split<;>omega
  generalize (if c<0 then -c else c)=u at hu⊢;refine⟨.inr ?_,hQ _ _ _ ?_⟩
  .split<;>omega
  .split
   .omega
   .omega
 by_cases h:k<(ns.length:Int)
 .obtain⟨c,_,_,hc⟩:=gw (f:=D.int) (l:=ns) (i:=k) hk h
  simp only[eO,fnP,en0,List.length_cons,List.length_nil,List.map_cons,List.map_nil,List.replicate,if_true,dB,Nat.reduceAdd,Nat.reduceSub,List.cons_append,List.nil_append];refine bB (λρ=>ρ=[some (.lst .scr (ns.map D.int)),some (.int k),some (.int 0),none]) (λQ hQ=>by simp_arith[aF];exact hQ _ rfl) ?_;rintro _ rfl;refine bB (λρ=>ρ=[some (.lst .scr (ns.map D.int)),some (.int k),some (.int c),none]) (λQ hQ=>by simp_arith[rZ,hlen,gLt,h,pJ,hc];exact hQ _ rfl) ?_;rintro _ rfl;exact key c _ λa b ρ' ha=>aF.mpr ⟨a,b,rfl,ha⟩
 .simp only[eO,fnP,en0,List.length_cons,List.length_nil,List.map_cons,List.map_nil,List.replicate,if_true,dB,Nat.reduceAdd,Nat.reduceSub,List.cons_append,List.nil_append]
  refine bB (λρ=>ρ=[some (.lst .scr (ns.map D.int)),some (.int k),some (.int 0),none]) (λQ hQ=>by simp_arith[aF];exact hQ _ rfl) ?_;rintro _ rfl;refine bB (λρ=>ρ=[some (.lst .scr (ns.map D.int)),some (.int k),some (.int 0),none]) (λQ hQ=>by simp_arith[rZ,hlen,gLt,h];exact hQ _ rfl) ?_;rintro _ rfl;exact key 0 _ λa b ρ' ha=>aF.mpr ⟨a,b,rfl,ha⟩
theorem Sq{d:D}(h:Tyd d)(hl:(kids d).length<=1000):cO [d]=some (.bl (mD d)):=by
 apply Wp.eq;cases h with
 |@tup ds hd=>
  obtain⟨h1,h2,h3,h4,h5⟩:=Tyd.ofL hd;have hl:ds.length<=1000:=hl;simp_arith[cO,bu,tyN,okT,isT,h2,h3,h4,h5];refine iY (WyI ds) ⟨none,rfl,rfl⟩ ?_ ?_
  .rintro k d ρ hk ⟨x,rfl,ht⟩
   have hdm:=List.mem_of_getElem? hk;have hty:=hd d hdm;obtain⟨f1,f2,f3,f4,f5,f6⟩:=hty.all;have hbad:prB d=false->mD (.tup ds)=false:=λz=>by simp[mD,Ho hk z]
   have hgood:prB d=true->∀y,WyI ds (k+1) [some (.tup ds),y]:=λz y=>⟨y,rfl,JX ht hk z⟩;simp only[tgN,clean,f4,f5,Bool.and_self,if_true,aF,List.set_cons_succ,List.set_cons_zero];cases hty with
   |@tup es he=>
    obtain⟨g1,g2,g3,g4,g5⟩:=Tyd.ofL he;simp_arith[bu,tyN,okT,isT,cF,g2,g3];rw[ne_int,aF];simp only[aF];by_cases he2:es.length=2
    .obtain⟨x,y,rfl⟩:∃x y,es=[x,y]:=by
      match es,he2 with
      |[x,y],_=>exact⟨x,y,rfl⟩
     have hx:=he x (by simp);have hy:=he y (by simp);have ex:∀z,z∈[x,y]->Wp (tpN 0 z [none]) λρ1=>eTT ρ1=some true/\(true=true->jJ (eAp bu (ao (aq false 0) (ao (eC (D.ty "int")) aC))) (e1 z_ (eAp bu (ao (aq false 0) (ao (eC (D.ty "bool")) aC)))) ρ1=some (.bl (pK z))):=λz hz=>by
      have:=he z hz;cases this<;>simp_arith[bu,tyN,okT,isT,z_,pK]
     simp;rw[cL (p:=λ_=>true) (f:=λd=>.bl (pK d)) ex,aF,filter_tt,all_map,aF];simp only[aF,List.all_cons,List.all_nil,Bool.and_true];cases hnx:pK x with
     |false=>simp;exact hbad (by rw[xf,hnx];rfl)
     |true=>
      cases hny:pK y with
      |false=>simp;exact hbad (by rw[xf,hnx,hny];rfl)
      |true=>
       cases hy with
       |int s=>
        simp[rP,atI,ixN,aF,gA,bI,Ke];cases hp:pm s with
        |true=>simp;exact hgood (by rw[xf,hnx];simp[pK,hp]) _
        |false=>simp;exact hbad (by rw[xf,hnx];simp[pK,hp])
       |_=>simp[pK]at hny
    .have hne:decide ((es.length:Int)=2)=false:=decide_eq_false (by omega)
     rw[hne];simp;exact hbad (GC (by simp[xr,he2]))
   |lst he=>
    simp_arith[bu,tyN,okT,isT];exact hbad rfl
   |_=>
    simp_arith[bu,tyN,okT,isT];exact hbad rfl
  .rintro ρ ⟨x,rfl,ht⟩
   rw[List.take_length]at ht;simp_arith[mD,ht]
 |lst hd=>
  obtain⟨h1,h2,h3,h4,h5⟩:=Tyd.ofL hd;simp_arith[cO,bu,tyN,okT,isT,h3,mD]
 |_=>simp_arith[cO,bu,tyN,okT,isT,mD]
def wyB(js:List Jt)(a b:Str)(ps:List Pt):Bool:=match mt js a ps with
 |none=>false
 |some l=>decide (lst a l=b)&&decide (dS (a::l)=l.length+1)
theorem Ti{J:D}{js:List Jt}{a b:Str}{d:D}(hd:Tyd d)(hl:(kids d).length<=1000)(hw:mD d=false):cM [J,.str a,.str b,d]=some (.bl false):=by
 apply Wp.eq;obtain⟨f1,f2,f3,f4,f5,f6⟩:=hd.all;simp_arith[cM,f1,f3,f4,f5,Qt hd hl,hw]
theorem S7{J:D}{js:List Jt}{a b:Str}{ps:List Pt}(hJ:JJ J js)(hl:ps.length<=900)(hp:∀p∈ps,pm p.2=true):cM [J,.str a,.str b,.tup (ps.map ptD)]=some (.bl (wyB js a b ps)):=by
 apply Wp.eq;have hw:=Qt (QR ps) (by simpa[kids]using(by omega:ps.length<=1000));rw[Ms hp]at hw;simp_arith[cM,lg,Br,kE,k_,hw,hJ.v,hJ.f,hJ.b,hJ.o,Vh hJ];cases hm:mt js a ps with
 |none=>simp[IV,aG,aD,gq,Hk,aF,wyB,hm]
 |some l=>
  have hll:=vN ps a l hm;simp[IV,aG,aD,gq,ne_str,aF,wyB,hm];by_cases he:lst a l=b
  .have hadd:bQ (.lst .own [.str a]) (.lst .own (l.map D.str))=some (.lst .own ((a::l).map D.str)):=by
    simp[bQ];omega
   have hfz:fz (D.lst .own ((a::l).map D.str))= .lst .frz ((a::l).map D.str):=by rw[fz,cX];rfl
   simp only[he,not_true_eq_false,decide_true,decide_false,if_false,Bool.false_eq_true,aU,List.length_cons,List.length_nil,if_true,aF,RN hJ hm (by omega:ps.length<=1000)];simp[-List.map_cons,hadd,aF,aG,aD,bF,bx,hfz,O_ (l:=a::l) (by simp;omega),gq]
  .simp[he]
theorem Hu:nW .non .non=some (.bl false):=rfl
def okB(a b:Str):Option (List Str)->Bool
 |none=>false
 |some l=>decide (lst a l=b)&&decide (dS (a::l)=l.length+1)
theorem Ja{J:D}{js:List Jt}{a b:Str}{d:D}(hJ:JJ J js)(hd:Pap d):cQ [J,.str a,.str b,d]=some (.bl true):=by
 obtain⟨f1,f2,f3,f4,f5,h6⟩:=hd.1.all;obtain⟨x,hs⟩:=Ia h6 (by have:=hd.2.1;omega) (by have:=hd.2.2.1;omega);have hl:=hd.2.2.2;have hl':(kids d).length<=1000:=by omega
 have hw:=Sq hd.1 hl';obtain⟨o,k1,k2,k3⟩:∃o,cM [J,.str a,.str b,d]=some (.bl (okB a b o))/\(mD d=false->o=none)/\(mD d=true->d8 [J,.str a,d]=some (sO a o)/\∀l,o=some l->l.length<=900):=by
  cases hw:mD d with
  |false=>exact⟨none,Ti (js:=js) hd.1 hl' hw,λ_=>rfl,λz=>by cases z⟩
  |true=>
   have hty:=hd.1;cases hty with
   |@tup ds hd'=>
    obtain⟨ps,rfl,hp⟩:=J3 (show ds.all prB=true from hw);have hpl:ps.length<=900:=by simpa[kids]using hl
    refine⟨mt js a ps,?_,(λz=>by cases z),λ_=>⟨K3 (h:=a) hJ hp (by omega:ps.length<=1000),λl e=>by rw[vN ps a l e];exact hpl⟩⟩;rw[S7 (a:=a) (b:=b) hJ hpl hp];unfold wyB okB;cases mt js a ps<;>rfl
   |_=>simp[mD]at hw
 have hib:∀b,bu [.bl b,.ty "bool"]=some (.bl true):=λ_=>rfl;apply Wp.eq;simp only[cQ,fnP,en0,List.length_cons,List.length_nil,List.map_cons,List.map_nil,List.replicate,if_true,dB,Nat.reduceAdd,Nat.reduceSub,List.cons_append,List.nil_append];refine bB (λρ=>ρ=[some J,some (.str a),some (.str b),some d,some (.str x),none,none,none]) (λQ hQ=>?_) ?_
 .simp_arith[f3,hs]
  exact hQ _ rfl
 rintro _ rfl;refine bB (λρ=>ρ=[some J,some (.str a),some (.str b),some d,some (.str x),some (.bl (okB a b o)),none,none]) (λQ hQ=>?_) ?_
 .simp_arith[f1,f3,f4,f5,hJ.v,hJ.f,hJ.b,hJ.o,k1]
  exact hQ _ rfl
 rintro _ rfl;have hmc:clean (sO a o)=true:=by cases o<;>simp[sO,clean,aG,aD,aH,aJ,bF,bx]
 refine bB (λρ=>ρ=[some J,some (.str a),some (.str b),some d,some (.str x),some (.bl (okB a b o)),some (sO a o),none]) (λQ hQ=>?_) ?_
 .cases hwb:mD d with
  |false=>
   rw[hwb]at hw;simp_arith[f1,f3,f4,f5,hw];exact hQ _ (by rw[k2 hwb];rfl)
  |true=>
   rw[hwb]at hw;have hc2:aG (sO a o)=true/\aD (sO a o)=true:=by simpa[clean]using hmc
   simp_arith[f1,f3,f4,f5,hw,hJ.v,hJ.f,hJ.b,hJ.o,(k3 hwb).1,hc2];exact hQ _ rfl
 rintro _ rfl;refine bB (λρ=>ρ=[some J,some (.str a),some (.str b),some d,some (.str x),some (.bl (okB a b o)),some (sO a o),some (.bl (okB a b o))]) (λQ hQ=>?_) ?_
 .cases o with
  |none=>
   simp_arith[sO,Hu];exact hQ _ rfl
  |some l=>
   have hll:l.length<=900:=by
    cases hwb:mD d with
    |false=>cases k2 hwb
    |true=>exact(k3 hwb).2 l rfl
   have hv:view false (.lst .own ((a::l).map D.str))= .lst .brw ((a::l).map D.str):=by rw[view,bM];rfl
   have hn:nW (.lst .brw ((a::l).map D.str)) .non=some (.bl true):=rfl;have hx:gIx (.lst .brw ((a::l).map D.str)) (.int (-1))=some (.str (lst a l)):=oJ;have hls:gZ [.lst .brw ((a::l).map D.str)]=some (.int (dS (a::l))):=Aa (by simp;omega);have hle:cF [.lst .brw ((a::l).map D.str)]=some (.int ((l.length:Int)+1)):=by simp[cF]
   have hi:((dS (a::l):Int)=(l.length:Int)+1)=(dS (a::l)=l.length+1):=propext (by omega);simp only[du,jJ,e2,e1,eAp,ao,aC,eC,aq,List.getElem?_cons_succ,List.getElem?_cons_zero,sO,hv,hn,gA,hx,hls,hle,eqs,eq_int,hi,isB,dB,aF,uo,Option.bind_some,show view false (.str b)= .str b from rfl];by_cases he:lst a l=b
   .simp[he,aF,tgN,clean,aG,aD,isB]
    refine hQ _ ?_;rw[show okB a b (some l)=decide (dS (a::l)=l.length+1)by simp[okB,he]];rfl
   .simp[he,aF,tgN,clean,aG,aD,isB]
    refine hQ _ ?_;rw[show okB a b (some l)=false by simp[okB,he]];rfl
 rintro _ rfl;simp_arith[f3,hs,hib,JD,eq_str]
def gT(js:List Jt)(c:Str)(t:Tt):Prop:=0<=t.1/\t.1<js.length/\pm t.2.1=true/\stp js (t.1,t.2.1)=some (c,t.2.2)
def WgI(J:D)(js:List Jt)(h:Str)(k:Nat)(ρ:En):Prop:=∃(ps:List Pt)(mr:List Str)(a' b':Int)(x5 x6 x7 x8 x9 x10 x11 x12 x13 x14:Option D),ρ=[some (tp a' b'),some J,some (.str h),some (.lst .own (ps.map ptD)),some (.lst .own ((h::mr).map D.str)),x5,x6,x7,x8,x9,x10,x11,x12,x13,x14]/\(∀p∈ps,gdP js p)/\mt js h ps=some mr/\ps.length<=k/\0<=a'
def WsI(J:D)(js:List Jt)(h:Str)(ps:List Pt)(mr:List Str)(a' b':Int)(x5 x13 x14:Option D)(k:Nat)(ρ:En):Prop:=∃(ts:List Tt)(x7 x8 x9 x10 x11 x12:Option D),ρ=[some (tp a' b'),some J,some (.str h),some (.lst .own (ps.map ptD)),some (.lst .own ((h::mr).map D.str)),x5,some (.lst .own (ts.map tD)),x7,x8,x9,x10,x11,x12,x13,x14]/\(∀t∈ts,gT js (lst h mr) t)/\ts.length<=2*k
def WtI(J:D)(js:List Jt)(h:Str)(ps:List Pt)(mr:List Str)(a' b':Int)(x5 x13 x14:Option D)(n:Nat)(j:Jt)(k:Nat)(ρ:En):Prop:=∃(ts:List Tt)(x9 x10 x11 x12:Option D),ρ=[some (tp a' b'),some J,some (.str h),some (.lst .own (ps.map ptD)),some (.lst .own ((h::mr).map D.str)),x5,some (.lst .own (ts.map tD)),some (.int n),some (jD j),x9,x10,x11,x12,x13,x14]/\(∀t∈ts,gT js (lst h mr) t)/\ts.length<=2*n+k
def Wg(J:D)(js:List Jt)(h:Str)(q:D×List D):Prop:=∃(ps:List Pt)(l:List Str)(a' b':Int),q=(.tup (ps.map ptD),[tp a' b',J,.str h])/\(∀p∈ps,gdP js p)/\mt js h ps=some l/\ps.length<=8/\0<=a'
theorem R9{a b:Int}{J:D}{js:List Jt}{h:Str}(ha:0<=a)(hJ:JJ J js)(hjl:js.length<=100):Wp (eZ [tp a b,J,.str h]) (Wg J js h):=by
 simp_arith[eZ,aU];refine iY (WgI J js h) ⟨[],[],a,b,none,none,none,none,none,none,none,none,none,none,rfl,by simp,rfl,by simp,ha⟩ ?_ ?_
 .rintro k d ρ hk ⟨ps,mr,a1,b1,x5,x6,x7,x8,x9,x10,x11,x12,x13,x14,rfl,hps,hmt,hpl,s1⟩
  obtain⟨hk8,rfl⟩:=o6 hk;have hk8:k<8:=by simpa using hk8
  have hml:mr.length<=k:=by have:=vN ps h mr hmt;omega
  simp only[tgN,clean,aG,aD,Bool.and_self,if_true,aF,List.set_cons_succ,List.set_cons_zero];refine bB (λρ=>ρ=[some (tp a1 b1),some J,some (.str h),some (.lst .own (ps.map ptD)),some (.lst .own ((h::mr).map D.str)),some (.int k),some (.lst .own ([]:List D)),x7,x8,x9,x10,x11,x12,x13,x14]) (λQ hQ=>?_) ?_
  .simp_arith[aU,-List.map_cons]
   exact hQ _ rfl
  rintro _ rfl;refine bB (WsI J js h ps mr a1 b1 (some (.int k)) x13 x14 js.length) (λQ hQ=>?_) ?_
  .simp only[jr,itE,ao,aC,aq,List.getElem?_cons_succ,List.getElem?_cons_zero,hJ.v,dB,aF,hJ.s,Option.map_some,w_ite,if_true]
   refine iY (WsI J js h ps mr a1 b1 (some (.int k)) x13 x14) ⟨[],x7,x8,x9,x10,x11,x12,rfl,by simp,by simp⟩ ?_ ?_
   .rintro i d ρ hi ⟨ts,y7,y8,y9,y10,y11,y12,rfl,hts,htl⟩
    rw[o7,List.getElem?_map]at hi;cases hj:js[i]? with
    |none=>simp[hj]at hi
    |some j=>
     obtain rfl:D.tup [.int (i:Int),jD j]=d:=by simpa[hj]using hi
     have hil:i<js.length:=(List.getElem?_eq_some_iff.mp hj).1;simp[tgT,aP,dF,tgN,aH,aJ,clean,p_,qw,aG,aD,aF,-List.map_cons];simp[jr,itS,eAp,ao,eC,aC,e1,gA,bI,dq,clean,aG,aD,aH,aJ,i_,fzo,aF,dB,-List.map_cons];refine iY (WtI J js h ps mr a1 b1 (some (.int k)) x13 x14 i j) ⟨ts,y9,y10,y11,y12,rfl,hts,by omega⟩ ?_ ?_
     .clear hts htl ts
      rintro e d ρ he ⟨ts,z9,z10,z11,z12,rfl,hts,htl⟩;obtain⟨s,hs,rfl⟩:∃s:Int,pm s=true/\d= .int s:=by
       match e,he with
       |0,he=>exact⟨1,by decide,by simpa using he.symm⟩
       |1,he=>exact⟨-1,by decide,by simpa using he.symm⟩
      have he2:e<2:=by simpa using(List.getElem?_eq_some_iff.mp he).1
      simp only[tgN,clean,aG,aD,Bool.and_self,if_true,aF,List.set_cons_succ,List.set_cons_zero];refine bB (λρ=>ρ=[some (tp a1 b1),some J,some (.str h),some (.lst .own (ps.map ptD)),some (.lst .own ((h::mr).map D.str)),some (.int k),some (.lst .own (ts.map tD)),some (.int i),some (jD j),some (.int s),some (.str (ends j s).1),some (.str (ends j s).2),z12,x13,x14]) (λQ hQ=>?_) ?_
      .simp_arith[qd,jR,Bg hs,-List.map_cons]
       exact hQ _ rfl
      rintro _ rfl;refine bB (λρ=>ρ=[some (tp a1 b1),some J,some (.str h),some (.lst .own (ps.map ptD)),some (.lst .own ((h::mr).map D.str)),some (.int k),some (.lst .own (ts.map tD)),some (.int i),some (jD j),some (.int s),some (.str (ends j s).1),some (.str (ends j s).2),some (.lst .own (nums ps)),x13,x14]) (λQ hQ=>?_) ?_
      .simp_arith[lg,yD,-List.map_cons]
       have hnb:aH (nums ps)=true:=bY λd hd=>by obtain⟨x,_,rfl⟩:=List.mem_map.mp hd;rfl
       have hno:aJ (nums ps)=true:=bU λd hd=>by obtain⟨x,_,rfl⟩:=List.mem_map.mp hd;rfl
       refine⟨by omega,jc (PQ ps) ?_⟩;simp only[hnb,hno,true_and];exact hQ _ rfl
      rintro _ rfl;obtain⟨c1,hc1⟩:=Ec (e:=(ends j s).2) (m:=.own) (l:=mr);obtain⟨c2,hc2⟩:=notin_nums (n:=(i:Int)) (m:=.brw) (l:=ps);have hvn:view false (D.lst .own (nums ps))= .lst .brw (nums ps):=by rw[view,vwn];rfl
      have hla:∀m,gIx (.lst m ((h::mr).map D.str)) (.int (-1))=some (.str (lst h mr)):=λm=>oJ;have hsl:∀m,gSl (.lst m ((h::mr).map D.str)) (some 1) none=some (.lst .own (mr.map D.str)):=λm=>by
       simp[gSl,cutD,HT.sIx];exact List.take_of_length_le (by simp)
      have hstay:WtI J js h ps mr a1 b1 (some (.int k)) x13 x14 i j (e+1) [some (tp a1 b1),some J,some (.str h),some (.lst .own (ps.map ptD)),some (.lst .own ((h::mr).map D.str)),some (.int k),some (.lst .own (ts.map tD)),some (.int i),some (jD j),some (.int s),some (.str (ends j s).1),some (.str (ends j s).2),some (.lst .own (nums ps)),x13,x14]:=⟨ts,_,_,_,_,rfl,hts,by omega⟩;have hgo:(ends j s).1=lst h mr->WtI J js h ps mr a1 b1 (some (.int k)) x13 x14 i j (e+1) [some (tp a1 b1),some J,some (.str h),some (.lst .own (ps.map ptD)),some (.lst .own ((h::mr).map D.str)),some (.int k),some (.lst .own (ts.map tD++[D.tup [.int i,.int s,.str (ends j s).2]])),some (.int i),some (jD j),some (.int s),some (.str (ends j s).1),some (.str (ends j s).2),some (.lst .own (nums ps)),x13,x14]:=λhb=>⟨ts++[((i:Int),s,(ends j s).2)],_,_,_,_,by rw[List.map_append];rfl,λt ht=>by
       rcases List.mem_append.mp ht with z|z
       .exact hts t z
       .obtain rfl:t=((i:Int),s,(ends j s).2):=by simpa using z
        refine⟨by show(0:Int)<=i;omega,by show(i:Int)<js.length;omega,hs,?_⟩;unfold stp;rw[if_pos ⟨by show(0:Int)<=i;omega,by show(i:Int)<js.length;omega⟩];simp only[Int.toNat_natCast,hj,Option.map_some];rw[←hb],by simp;omega⟩
      have htl2:ts.length<1000000:=by omega
      simp_arith[bM,gA,hla,hsl,eqs,hc1,vwn,hc2,cu,bI,htl2,-List.map_cons];split
      .rename_i hb
       split
       .split
        .exact hgo hb
        .exact hstay
       .exact hstay
      .exact hstay
     .rintro ρ ⟨ts,z9,z10,z11,z12,rfl,hts,htl⟩
      exact⟨ts,_,_,_,_,_,_,rfl,hts,by simp at htl;omega⟩
   .rintro ρ hρ
    rw[o_,List.length_map]at hρ;exact hQ _ hρ
  rintro _ ⟨ts,y7,y8,y9,y10,y11,y12,rfl,hts,htl⟩;have hlt:∀m,cF [.lst m (ts.map tD)]=some (.int ts.length):=λm=>by simp[cF]
  have h2:∀t:Tt,gIx (tD t) (.int 2)=some (.str t.2.2):=λ_=>rfl;have hs2:∀t:Tt,gSl (tD t) none (some 2)=some (ptD (t.1,t.2.1)):=λ_=>rfl;have hvt:∀(b:Bool)(t:Tt),view b (tD t)=tD t:=λ_ _=>rfl;have hct:∀t:Tt,aG (tD t)=true/\aD (tD t)=true:=λ_=>⟨rfl,rfl⟩;rw[sIf,dB];simp only[eB,e2,aq,eAp,aC,aU,List.getElem?_cons_succ,List.getElem?_cons_zero,view,Ae,Option.bind_some,List.length_nil,Nat.zero_le,if_true,P_,isB,aF];by_cases hte:ts=[]
  .subst hte
   simp only[List.isEmpty_nil,Bool.not_true,Bool.false_eq_true,if_false,gm,aF];exact⟨ps,mr,a1,b1,_,_,_,_,_,_,_,_,_,_,rfl,hps,hmt,by omega,s1⟩
  .have htp:0<ts.length:=List.length_pos_iff.mpr hte
   have hemp:ts.isEmpty=false:=by simpa using hte
   rw[hemp];simp only[Bool.not_false,if_true];refine bB (λρ=>∃hs:List Tt,(∀t∈hs,t∈ts)/\hs.length<=ts.length/\ρ=[some (tp a1 b1),some J,some (.str h),some (.lst .own (ps.map ptD)),some (.lst .own ((h::mr).map D.str)),some (.int k),some (.lst .own (ts.map tD)),y7,y8,y9,y10,y11,y12,some (.lst .own (hs.map tD)),x14]) (λQ hQ=>?_) ?_
   .simp[du,fJ,itS,aq,view,Ae,dq,Uv,dB,aF,w_ite,uo,tgN,-List.map_cons]
    rw[if_pos (by omega)];have hcc:fW (tpN 0) (eB (e2 gEq (e2 gIx (aq false 0) (eC (.int 2))) (aq false 1))) (aq false 0) [none,some (.str h)] (ts.map tD)=some (((ts.map tD).filter λd=>match d with|.tup [_,_,.str x]=>decide (x=h)|_=>false).map id):=by
     rw[cL (p:=λd=>match d with|.tup [_,_,.str x]=>decide (x=h)|_=>false) (f:=id)];intro d hd;obtain⟨t,ht,rfl⟩:=List.mem_map.mp hd;simp[tpN,aF,eB,e2,aq,hvt,eC,h2,eqs,isB,view];rfl
    refine jc hcc ?_;have hf:((ts.map tD).filter λd=>match d with|.tup [_,_,.str x]=>decide (x=h)|_=>false).map id=(ts.filter λt=>decide (t.2.2=h)).map tD:=by
     rw[List.map_id,List.filter_map];rfl
    rw[hf];simp[clean,aG,aD,Kd,J6,aF,-List.map_cons];exact hQ _ ⟨_,λt ht=>(List.mem_filter.mp ht).1,List.length_filter_le _ _,rfl⟩
   rintro _ ⟨hs,hhs,hhn,rfl⟩;refine bB (λρ=>∃(t:Tt)(a' b':Int),t∈ts/\0<=a'/\ρ=[some (tp a' b'),some J,some (.str h),some (.lst .own (ps.map ptD)),some (.lst .own ((h::mr).map D.str)),some (.int k),some (.lst .own (ts.map tD)),y7,y8,y9,y10,y11,y12,some (.lst .own (hs.map tD)),some (tD t)]) (λQ hQ=>?_) ?_
   .simp_arith[Ae,hlt,Kd,J6,-List.map_cons]
    refine dh s1 (by omega) (by omega) λr2 a2 b2 p2 q2 s2=>?_;obtain⟨t,ht,_,ht2⟩:=gw (f:=tD) (l:=ts) p2 q2;simp_arith[pJ,ht2,(hct t).1,(hct t).2,-List.map_cons];exact hQ _ ⟨t,_,_,ht,s2,rfl⟩
   rintro _ ⟨t,a2,b2,ht,s2,rfl⟩;refine bB (λρ=>∃(t:Tt)(a' b':Int),t∈ts/\0<=a'/\ρ=[some (tp a' b'),some J,some (.str h),some (.lst .own (ps.map ptD)),some (.lst .own ((h::mr).map D.str)),some (.int k),some (.lst .own (ts.map tD)),y7,y8,y9,y10,y11,y12,some (.lst .own (hs.map tD)),some (tD t)]) (λQ hQ=>?_) ?_
   .simp_arith[Ae,aU,P_,-List.map_cons]
    by_cases hhe:hs=[]
    .subst hhe
     simp;exact hQ _ ⟨t,_,_,ht,s2,rfl⟩
    .have hhp:0<hs.length:=List.length_pos_iff.mpr hhe
     have hhl:hs.length<=200:=by omega
     have hlh:∀m,cF [.lst m (hs.map tD)]=some (.int hs.length):=λm=>by simp[cF]
     simp[hhe,-List.map_cons];refine dh s2 (by omega) (by omega) λr3 a3 b3 p3 q3 s3=>?_;simp_arith[eq_int,-List.map_cons];split
     .simp_arith[Ae,hlh,Kd,J6,-List.map_cons]
      refine dh s3 (by omega) (by omega) λr4 a4 b4 p4 q4 s4=>?_;obtain⟨t',ht',_,ht2⟩:=gw (f:=tD) (l:=hs) p4 q4;simp_arith[pJ,ht2,(hct t').1,(hct t').2,-List.map_cons];exact hQ _ ⟨t',_,_,hhs t' ht',s4,rfl⟩
     .exact hQ _ ⟨t,_,_,ht,s3,rfl⟩
   rintro _ ⟨t,a3,b3,ht,s3,rfl⟩;have hg:=hts t ht;have hpl2:ps.length<1000000:=by omega
   have hml2:mr.length+1<1000000:=by omega
   have hmt2:mt js h (ps++[(t.1,t.2.1)])=some (mr++[t.2.2]):=by
    rw[vC,hmt,Option.bind_some,hg.2.2.2,Option.bind_some,if_pos rfl]
   refine bB (λρ=>ρ=[some (tp a3 b3),some J,some (.str h),some (.lst .own ((ps++[(t.1,t.2.1)]).map ptD)),some (.lst .own ((h::mr).map D.str)),some (.int k),some (.lst .own (ts.map tD)),y7,y8,y9,y10,y11,y12,some (.lst .own (hs.map tD)),some (tD t)]) (λQ hQ=>?_) ?_
   .simp_arith[hvt,hs2,cu,hpl2,-List.map_cons,-List.map_append]
    refine⟨⟨rfl,rfl⟩,?_⟩;rw[←List.map_singleton,←List.map_append];exact hQ _ rfl
   rintro _ rfl;refine bB (λρ=>ρ=[some (tp a3 b3),some J,some (.str h),some (.lst .own ((ps++[(t.1,t.2.1)]).map ptD)),some (.lst .own ((h::(mr++[t.2.2])).map D.str)),some (.int k),some (.lst .own (ts.map tD)),y7,y8,y9,y10,y11,y12,some (.lst .own (hs.map tD)),some (tD t)]) (λQ hQ=>?_) ?_
   .simp_arith[hvt,h2,cu,hml2,-List.map_cons,-List.map_append]
    have e:(h::(mr++[t.2.2])).map D.str=(h::mr).map D.str++[.str t.2.2]:=by simp
    rw[←e];exact hQ _ rfl
   rintro _ rfl;have hps2:∀p∈ps++[(t.1,t.2.1)],gdP js p:=λp hp=>by
    rcases List.mem_append.mp hp with z|z
    .exact hps p z
    .obtain rfl:p=(t.1,t.2.1):=by simpa using z
     exact⟨hg.1,hg.2.1,hg.2.2.1⟩
   simp_arith[hvt,h2,eqs,-List.map_cons,-List.map_append];split
   .simp_arith[eG,lg,kE,k_,-List.map_cons,-List.map_append]
    exact⟨_,_,_,_,rfl,hps2,hmt2,by simp;omega,s3⟩
   .exact⟨_,mr++[t.2.2],_,_,_,_,_,_,_,_,_,_,_,_,rfl,hps2,hmt2,by simp;omega,s3⟩
 .rintro ρ ⟨ps,mr,a1,b1,x5,x6,x7,x8,x9,x10,x11,x12,x13,x14,rfl,hps,hmt,hpl,s1⟩
  simp_arith[eG,lg,kE,k_];exact⟨ps,mr,a1,b1,rfl,hps,hmt,hpl,s1⟩
def Wr(N J:D)(h g:Str)(q:D×List D):Prop:=∃(a' b':Int),q=(.bl true,[tp a' b',N,J,.str h,.str g])/\0<=a'
def WrI(N J:D)(h g:Str)(ps:List Pt)(l:List Str)(k:Nat)(ρ:En):Prop:=∃(items:List D)(a' b':Int)(x8 x9:Option D),ρ=[some (tp a' b'),some N,some J,some (.str h),some (.str g),some (.tup (ps.map ptD)),some (.lst .own ((h::l).map D.str)),some (.lst .own items),x8,x9,none,none]/\(∀d∈items,pI d)/\items.length<=6+k/\0<=a'
def WpI(N J:D)(h g:Str)(ps:List Pt)(l:List Str)(items:List D)(a b:Int)(x8 x9:Option D)(k:Nat)(ρ:En):Prop:=∃(x10 x11:Option D),ρ=[some (tp a b),some N,some J,some (.str h),some (.str g),some (.tup (ps.map ptD)),some (.lst .own ((h::l).map D.str)),some (.lst .frz items),x8,x9,x10,x11]
def WqI(N J:D)(h g:Str)(ps:List Pt)(l:List Str)(items:List D)(a b:Int)(x8 x9:Option D)(d:D)(k:Nat)(ρ:En):Prop:=∃(x11:Option D),ρ=[some (tp a b),some N,some J,some (.str h),some (.str g),some (.tup (ps.map ptD)),some (.lst .own ((h::l).map D.str)),some (.lst .frz items),x8,x9,some d,x11]
theorem slT{ps:List Pt}{lo hi:Option Int}:gSl (.tup (ps.map ptD)) lo hi=some (.tup ((uU ps lo hi).map ptD)):=by simp only[gSl,Ox]
theorem Sx{h:Str}{l:List Str}{m:Mk}:∃x,gIx (.lst m (((h::l)++(h::l)).map D.str)) (.int ((l.length:Int)+1-2))=some (.str x):=by
 cases l with
 |nil=>exact⟨h,rfl⟩
 |cons y r=>
  obtain⟨x,_,_,hx⟩:=gw (f:=D.str) (l:=(h::y::r)++(h::y::r)) (i:=((y::r).length:Int)+1-2) (by simp;omega) (by simp;omega);exact⟨x,hx⟩
theorem DR{a b:Int}{N J:D}{js:List Jt}{h g:Str}(ha:0<=a)(hJ:JJ J js)(hjl:js.length<=100):Wp (cZ [tp a b,N,J,.str h,.str g]) (Wr N J h g):=by
 simp only[cZ,fnI,en0,List.length_cons,List.length_nil,List.map_cons,List.map_nil,List.replicate,if_true,dB,Nat.reduceAdd,Nat.reduceSub,List.cons_append,List.nil_append];refine bB (λρ=>∃(ps:List Pt)(l:List Str)(a' b':Int),(∀p∈ps,gdP js p)/\mt js h ps=some l/\ps.length<=8/\0<=a'/\ρ=[some (tp a' b'),some N,some J,some (.str h),some (.str g),some (.tup (ps.map ptD)),none,none,none,none,none,none]) (λQ hQ=>?_) ?_
 .simp_arith[hJ.v,hJ.f,hJ.b,hJ.o]
  refine Wp.mono (R9 ha hJ hjl) ?_;rintro _ ⟨ps,l,a1,b1,rfl,hps,hmt,hpl,s1⟩;simp_arith[kE,k_];exact hQ _ ⟨ps,l,_,_,hps,hmt,hpl,s1,rfl⟩
 rintro _ ⟨ps,l,a1,b1,hps,hmt,hpl,s1,rfl⟩;have hsm:∀p∈ps,smP p:=λp hp=>by
  obtain⟨h1,h2,h3⟩:=hps p hp;have hs:p.2=1∨p.2= -1:=by simpa[pm]using h3
  exact⟨by omega,by rcases hs with z|z<;>rw[z]<;>decide⟩
 have hpm:∀p∈ps,pm p.2=true:=λp hp=>(hps p hp).2.2;have hll:=vN ps h l hmt;have hmet:=K3 (h:=h) hJ hpm (by omega:ps.length<=1000);rw[hmt,sO]at hmet;refine bB (λρ=>ρ=[some (tp a1 b1),some N,some J,some (.str h),some (.str g),some (.tup (ps.map ptD)),some (.lst .own ((h::l).map D.str)),none,none,none,none,none]) (λQ hQ=>?_) ?_
 .simp_arith[hJ.v,hJ.f,hJ.b,hJ.o,lg,Br,kE,k_,hmet,bF,bx,-List.map_cons]
  exact hQ _ rfl
 rintro _ rfl;have addT:∀(x y:List Pt),x.length+y.length<=1000->bQ (.tup (x.map ptD)) (.tup (y.map ptD))=some (.tup ((x++y).map ptD)):=λx y h=>by simp[bQ];omega
 have cl:∀lo hi,(uU ps lo hi).length<=8:=λlo hi=>Nat.le_trans JB hpl;have csm:∀lo hi,∀p∈uU ps lo hi,smP p:=λlo hi p hp=>hsm p (Li p hp);refine bB (λρ=>ρ=[some (tp a1 b1),some N,some J,some (.str h),some (.str g),some (.tup (ps.map ptD)),some (.lst .own ((h::l).map D.str)),some (.lst .own [.tup (ps.map ptD),.lst .own (ps.map ptD),.tup ((uU ps none (some (-1))).map ptD),.tup ((ps++ps).map ptD)]),none,none,none,none]) (λQ hQ=>?_) ?_
 .simp_arith[lg,rM,gA,slT,addT ps ps (by omega),kE,k_,aU,-List.map_cons,-List.map_append]
  exact hQ _ rfl
 rintro _ rfl;refine bB (λρ=>∃items:List D,(∀d∈items,pI d)/\items.length<=6/\ρ=[some (tp a1 b1),some N,some J,some (.str h),some (.str g),some (.tup (ps.map ptD)),some (.lst .own ((h::l).map D.str)),some (.lst .own items),none,none,none,none]) (λQ hQ=>?_) ?_
 .have hn:=Vt (uU ps (some (-1)) none)
  have hngl:(ng (uU ps (some (-1)) none)).length<=8:=by unfold ng;rw[List.length_map];exact cl _ _
  simp_arith[lg,Br,yD,gA,slT,kE,k_,-List.map_cons,-List.map_append];refine⟨by have:=cl (some (-1)) none;omega,jc hn ?_⟩;simp[eG,bI,aU,aF,aG,aD,aH,aJ,kE,k_,addT ps _ (show ps.length+(ng (uU ps (some (-1)) none)).length<=1000 by omega),-List.map_cons,-List.map_append];simp[bQ,aF,aG,aD,aH,aJ,kE,k_,-List.map_cons,-List.map_append];refine hQ _ ⟨_,?_,?_,rfl⟩
  .intro d hd
   simp only[List.mem_append,List.mem_cons,List.not_mem_nil,or_false]at hd;have h1:∀qs:List Pt,(∀p∈qs,smP p)->qs.length<=50->pI (.tup (qs.map ptD)):=λqs h hl=>mW (mC (eP h) (by simpa using hl));rcases hd with rfl|rfl|rfl|rfl|rfl|rfl
   .exact h1 ps hsm (by omega)
   .exact mW (rH (eP hsm) (by simp;omega))
   .exact h1 _ (csm _ _) (by have:=cl none (some (-1));omega)
   .exact h1 (ps++ps) (λp h=>(List.mem_append.mp h).elim (hsm p) (hsm p)) (by simp;omega)
   .exact h1 _ (λp h=>(List.mem_append.mp h).elim (hsm p) (UV (csm _ _) p)) (by simp;omega)
   .exact mW (mC (ds:=[]) (by simp) (by simp))
  .simp
 rintro _ ⟨items0,hi0,hil0,rfl⟩;refine bB (WrI N J h g ps l 5) (λQ hQ=>?_) ?_
 .simp[jr,nZ,ao,eC,aC,dB,aF,w_ite,tQ,-List.map_cons]
  refine iY (WrI N J h g ps l) ⟨items0,a1,b1,none,none,rfl,hi0,by omega,s1⟩ ?_ (λρ h=>hQ _ (by rw[qZ]at h;exact h));clear s1;rintro k d ρ hk ⟨items,a1,b1,x4,x5,rfl,hit,hil,s1⟩;obtain⟨hk6,rfl⟩:=o6 hk;have hk6:k<5:=by simpa using hk6
  simp only[tgN,clean,aG,aD,Bool.and_self,if_true,aF,List.set_cons_succ,List.set_cons_zero];refine bB (λρ=>∃(th:D)(a' b':Int),eOk th/\0<=a'/\ρ=[some (tp a' b'),some N,some J,some (.str h),some (.str g),some (.tup (ps.map ptD)),some (.lst .own ((h::l).map D.str)),some (.lst .own items),some (.int k),some th,none,none]) (λQ hQ=>?_) ?_
  .simp_arith[-List.map_cons]
   refine Wp.mono (ye s1) ?_;rintro _ ⟨th,a2,b2,rfl,hth,s2⟩;obtain⟨_,_,_,f4,f5,_⟩:=(gY hth).1.all;simp_arith[f4,f5,-List.map_cons];exact hQ _ ⟨th,_,_,gY hth,s2,rfl⟩
  rintro _ ⟨th,a2,b2,hth,s2,rfl⟩;refine bB (λρ=>∃(th:D)(a' b':Int),eOk th/\0<=a'/\ρ=[some (tp a' b'),some N,some J,some (.str h),some (.str g),some (.tup (ps.map ptD)),some (.lst .own ((h::l).map D.str)),some (.lst .own items),some (.int k),some th,none,none]) (λQ hQ=>?_) ?_
  .simp_arith[-List.map_cons]
   refine dh s2 (by omega) (by omega) λr3 a3 b3 p3 q3 s3=>?_;simp_arith[eq_int,-List.map_cons];split
   .have addI:∀x y:Int,bQ (.int x) (.int y)=some (.int (x+y)):=λ_ _=>rfl
    simp_arith[hJ.v,hJ.l,addI,-List.map_cons];refine dh s3 (by omega) (by omega) λr4 a4 b4 p4 q4 s4=>?_;simp_arith[m_,aU,gA,-List.map_cons];refine dh s4 (by omega) (by omega) λr5 a5 b5 p5 q5 s5=>?_;have hr:r5=0∨r5=1∨r5=2∨r5=3:=by omega
    rcases hr with rfl|rfl|rfl|rfl<;>simp_arith[gIx,atI,ixN,bI,-List.map_cons]<;>exact hQ _ ⟨ptD (r4-1,_),_,_,KH (by show(r4-1).natAbs<=200;omega) (by simp),s5,rfl⟩
   .exact hQ _ ⟨th,_,_,hth,s3,rfl⟩
  rintro _ ⟨th',a3,b3,hth',s3,rfl⟩;obtain⟨f1,f2,f3,f4,f5,_⟩:=hth'.1.all;simp_arith[lg,rM,f3,Br,kE,k_,f1,f4,f5,-List.map_cons];refine Wp.mono (Mi s3 (λe he=>(eP hsm e he).1) (by simp;omega) hth'.1) ?_;rintro _ ⟨es,a4,b4,rfl,hes,hel,s4⟩;rw[List.length_map]at hel;have hee:∀e∈es,eOk e:=λe he=>(hes e he).elim (eP hsm e) λz=>by rw[z];exact hth'
  obtain⟨g1,g2,g3,g4,g5⟩:=Tyd.ofL λe he=>(hee e he).1;have hil2:items.length<1000000:=by omega
  simp_arith[eG,cu,g4,g5,hil2,-List.map_cons];refine⟨items++[.tup es],_,_,_,_,rfl,λd hd=>?_,by simp;omega,s4⟩;rcases List.mem_append.mp hd with z|z
  .exact hit d z
  .obtain rfl:d= .tup es:=by simpa using z
   exact mW (mC hee (by omega))
 clear s1;rintro _ ⟨items,a1,b1,x8,x9,rfl,hit,hil,s1⟩;have hb1:aH items=true:=bY λd hd=>(hit d hd).2.1;have hb2:aJ items=true:=bU λd hd=>(hit d hd).2.2;have htf:∀e∈fzL items,Pap e:=λe he=>by
  rw[gh]at he;obtain⟨d,hd,rfl⟩:=List.mem_map.mp he;exact(hit d hd).1
 obtain⟨g1,g2,g3,g4,g5⟩:=Tyd.ofL λe he=>(htf e he).1;have hfl:(fzL items).length=items.length:=by rw[gh,List.length_map]
 refine bB (λρ=>∃(its:List D)(a' b':Int),(∀d∈its,Pap d)/\0<=a'/\ρ=[some (tp a' b'),some N,some J,some (.str h),some (.str g),some (.tup (ps.map ptD)),some (.lst .own ((h::l).map D.str)),some (.lst .own its),x8,x9,none,none]) (λQ hQ=>?_) ?_
 .simp_arith[hb1,hb2,g3,g5,lg,yD,-List.map_cons]
  refine Wp.mono (ye s1) ?_;rintro _ ⟨d1,a2,b2,rfl,hd1,s2⟩;obtain⟨e1,e2',e3,e4,e5,_⟩:=(gY hd1).1.all;simp_arith[e4,e5,-List.map_cons];refine Wp.mono (ye s2) ?_;rintro _ ⟨d2,a3,b3,rfl,hd2,s3⟩;obtain⟨k1,k2,k3,k4,k5,_⟩:=(gY hd2).1.all;simp_arith[k4,k5,bI,aU,lg,kE,k_,-List.map_cons];have addF:bQ (.lst .frz (fzL items)) (.lst .own [d1,.tup [d2],.tup [.tup (ps.map ptD)]])=some (.lst .own (fzL items++[d1,.tup [d2],.tup [.tup (ps.map ptD)]])):=by
   simp[bQ,hfl];omega
  rw[addF,aF];have all:∀d∈fzL items++[d1,.tup [d2],.tup [.tup (ps.map ptD)]],Pap d:=λd hd=>by
   rcases List.mem_append.mp hd with z|z
   .exact htf d z
   .simp only[List.mem_cons,List.not_mem_nil,or_false]at z
    rcases z with rfl|rfl|rfl
    .exact Gn hd1
    .exact mC (λe he=>by rw[List.mem_singleton.mp he];exact gY hd2) (by simp)
    .have hr:=mC (eP hsm) (by simp;omega)
     refine Np hr ?_ ?_
     .have h1:=zR (ds:=ps.map ptD) (m:=300) λe he=>(eP hsm e he).2.1
      have h3:(ps.map ptD).length*(300+2)<=50*302:=Nat.mul_le_mul_right _ (by simp;omega);rw[tz];omega
     .have h2:=zM (ds:=ps.map ptD) (m:=3) λe he=>(eP hsm e he).2.2
      rw[dz];omega
  obtain⟨_,_,_,c4,c5⟩:=Tyd.ofL λe he=>(all e he).1;simp only[aG,aD,c4,c5];exact⟨by decide,hQ _ ⟨_,a3,b3,all,s3,rfl⟩⟩
 clear g1 g2 g3 g4 g5 htf hb1 hb2 hfl hit hil s1 items;rintro _ ⟨items,a2,b2,hit,s2,rfl⟩;obtain⟨g1,g2,g3,g4,g5⟩:=Tyd.ofL λe he=>(hit e he).1;have hvs:∀b,gW b ((h::l).map D.str)=(h::l).map D.str:=λb=>bM b _;have hla:∀m,gIx (.lst m ((h::l).map D.str)) (.int (-1))=some (.str (lst h l)):=λm=>oJ;refine bB (WpI N J h g ps l items a2 b2 x8 x9 0) (λQ hQ=>?_) ?_
 .simp[sFz,yd,fz,mkF,g1,jr,itS,aq,view,mkV,g3,dq,clean,aG,aD,g4,g5,g2,dB,aF,w_ite,-List.map_cons]
  refine iY (WpI N J h g ps l items a2 b2 x8 x9) ⟨none,none,rfl⟩ ?_ (λρ ⟨x10,x11,e⟩=>hQ _ ⟨x10,x11,e⟩);rintro k d ρ hk ⟨x10,x11,rfl⟩;have hd:=hit d (List.mem_of_getElem? hk);obtain⟨f1,f2,f3,f4,f5,f6⟩:=hd.1.all;simp[tgN,clean,f4,f5,aF,-List.map_cons];simp[jr,itS,eAp,ao,aq,e2,e1,eC,aC,gA,view,mkV,hvs,hla,bI,dq,clean,aG,aD,aH,aJ,i_,fzo,dB,aF,w_ite,-List.map_cons];refine iY (WqI N J h g ps l items a2 b2 x8 x9 d) ⟨x11,rfl⟩ ?_ (λρ ⟨x11,e⟩=>⟨some d,x11,e⟩);rintro e c ρ he ⟨y11,rfl⟩;obtain⟨x,rfl⟩:∃x:Str,c= .str x:=by
   match e,he with
   |0,he=>exact⟨g,by simpa using he.symm⟩
   |1,he=>exact⟨lst h l,by simpa using he.symm⟩
  have sy:=Ja (a:=h) (b:=x) hJ hd;simp_arith[f1,f3,f4,f5,hJ.v,hJ.f,hJ.b,hJ.o,sy,-List.map_cons];exact⟨_,rfl⟩
 rintro _ ⟨x10,x11,rfl⟩;obtain⟨x,hx⟩:=Sx (h:=h) (l:=l) (m:=.own);have addM:bQ (.lst .brw ((h::l).map D.str)) (.lst .brw ((h::l).map D.str))=some (.lst .own (((h::l)++(h::l)).map D.str)):=by
  simp[bQ];omega
 have hle:cF [.lst .brw ((h::l).map D.str)]=some (.int ((l.length:Int)+1)):=by simp[cF]
 have sy:=Ja (a:=h) (b:=x) hJ (mC (eP (csm none (some (-1)))) (by have:=cl none (some (-1));simp;omega));simp_arith[hvs,lg,Br,kE,k_,addM,hle,m_,hx,gA,slT,hJ.v,hJ.f,hJ.b,hJ.o,sy,-List.map_cons,-List.map_append,-List.cons_append];refine jc hx ?_;simp only[fz,sy,aF,aG,aD,gq];exact⟨.inl ⟨trivial,trivial⟩,⟨trivial,trivial⟩,_,_,rfl,s2⟩
mutual
theorem Ln:∀d:D,dp (dt d)<=dz d
 |.tup ds=>by have:=Ei ds;simp only[dt,dp,dz];omega
 |.lst _ ds=>by have:=Ei ds;simp only[dt,dp,dz];omega
 |.non=>by simp[dt,dp]
 |.bl _=>by simp[dt,dp]
 |.int _=>by simp[dt,dp]
 |.str _=>by simp[dt,dp]
 |.ty _=>by simp[dt,dp]
 |.dct _ _ _=>by simp[dt,dp]
 |.ins _ _ _ _=>by simp[dt,dp]
theorem Ei:∀ds:List D,dpL (dtL ds)<=dzL ds
 |[]=>by simp[dtL,dpL]
 |d::r=>by have:=Ln d;have:=Ei r;simp only[dtL,dpL,dzL];omega
end
def kj(ns:List Str):D->Bool
 |.str x=>decide (x∈ns)
 |_=>false
theorem lW:∀ns:List Str,dtL (ns.map D.str)=ns.map Dt.str
 |[]=>rfl
 |x::r=>by rw[List.map_cons,dtL,lW r];rfl
theorem oM:∀ns:List Str,dpL (ns.map Dt.str)=0
 |[]=>rfl
 |x::r=>by rw[List.map_cons,dpL,oM r];rfl
theorem Bp{ns:List Str}{e:D}(h:Tyd e):((ns.map Dt.str).any λd=>eqD d (dt e))=kj ns e:=by
 rw[List.any_map];cases h with
 |str x=>
  simp only[kj,dt];rw[Bool.eq_iff_iff,List.any_eq_true,decide_eq_true_iff];simp only[Function.comp,eqD,beq_iff_eq];exact⟨λ⟨y,h1,h2⟩=>h2▸h1,λh=>⟨x,h,rfl⟩⟩
 |_=>simp[kj,dt,eqD,Function.comp]
theorem lL:∀ns:List Str,nG (ns.map D.str)=some (ns.map V.str)
 |[]=>rfl
 |x::r=>by simp[nG,scV,lL r]
theorem rR{x:Str}{ns:List Str}:inV (.str x) (ns.map V.str)=decide (x∈ns):=by
 unfold inV;rw[List.any_map,Bool.eq_iff_iff,List.any_eq_true,decide_eq_true_iff];simp only[Function.comp,eqV,beq_iff_eq];exact⟨λ⟨y,h1,h2⟩=>h2▸h1,λh=>⟨x,h,rfl⟩⟩
structure NK(N:D)(ns:List Str):Prop where
 f:fz N=N
 v:∀b,view b N=N
 b:aG N=true
 o:aD N=true
 l:cF [N]=some (.int ns.length)
 x:∀i,gIx N (.int i)=atI (ns.map D.str) i
 i:∀y,gIn (.str y) N=some (.bl (decide (y∈ns)))
 ni:∀y,eF (.str y) N=some (.bl (!decide (y∈ns)))
 d:∀e,Tyd e->dz e<=50->Dg e N=some (.bl (kj ns e))
 s:dq N=some (true,ns.map D.str)
 k:ns.length<=1000->gZ [N]=some (.int (dS ns))
theorem NK.lst(ns:List Str):NK (.lst .frz (ns.map D.str)) ns:=⟨by simp[fz,cX,mkF],λb=>by cases b<;>simp[view,bM,mkV],by simp[aG,bF],by simp[aD,bx],by simp[cF],λ_=>rfl,λy=>by simp[gIn,qx,scV,lL,rR],λy=>by simp[eF,qx,scV,lL,rR],λe h hz=>by
 have:=Ln e;obtain⟨_,_,_,_,_,h6⟩:=h.all;simp only[Dg,Ac,Option.bind_some,lW,oM];rw[if_pos ⟨h6,lN ns,by omega,by omega⟩,Bp h],by simp[dq,clean,aG,aD,bF,bx,d_],λh=>Aa h⟩
theorem lsT{l:List Str}(h:l.length<=1000):gZ [.tup (l.map D.str)]=some (.int (dS l)):=by
 simp[gZ,tE,dS];omega
theorem NK.tup(ns:List Str):NK (.tup (ns.map D.str)) ns:=⟨by simp[fz,cX],λb=>by simp[view,bM],by simp[aG,bF],by simp[aD,bx],by simp[cF],λ_=>rfl,λy=>by simp[gIn,qx,scV,lL,rR],λy=>by simp[eF,qx,scV,lL,rR],λe h hz=>by
 have:=Ln e;obtain⟨_,_,_,_,_,h6⟩:=h.all;simp only[Dg,Ac,Option.bind_some,lW,oM];rw[if_pos ⟨h6,lN ns,by omega,by omega⟩,Bp h],by simp[dq,clean,aG,aD,bF,bx,d_],λh=>lsT h⟩
def xG:D->Bool
 |.tup _=>true
 |.lst _ _=>true
 |_=>false
theorem QM{d:D}(h:Tyd d):bu [d,.tup [.ty "list",.ty "tuple"]]=some (.bl (xG d)):=by
 cases h<;>rfl
theorem wK{d:D}(h:Tyd d):fH [d]=some (.bl (xG d)):=by
 apply Wp.eq;obtain⟨f1,f2,f3,f4,f5,f6⟩:=h.all;simp_arith[fH,f3,bI,QM h]
theorem Qd{d:D}(h:Tyd d)(hb:xG d=true):dq d=some (true,kids d)/\∀e∈kids d,Tyd e:=by
 cases h with
 |tup hd=>
  obtain⟨h1,h2,h3,h4,h5⟩:=Tyd.ofL hd;exact⟨by simp[dq,clean,aG,aD,h2,h4,h5,kids],hd⟩
 |lst hd=>
  obtain⟨h1,h2,h3,h4,h5⟩:=Tyd.ofL hd;exact⟨by simp[dq,clean,aG,aD,h2,h4,h5,kids],hd⟩
 |_=>simp[xG]at hb
theorem KQ{ns:List Str}:∀{ds:List D},ds.all (kj ns)=true->∃ss:List Str,ds=ss.map D.str
 |[],_=>⟨[],rfl⟩
 |d::r,h=>by
  simp only[List.all_cons,Bool.and_eq_true]at h;obtain⟨ss,rfl⟩:=KQ h.2;cases d with
  |str x=>exact⟨x::ss,rfl⟩
  |_=>simp[kj]at h
theorem U4{ns:List Str}{d:D}(h:Tyd d)(hb:xG d=true)(hm:(kids d).all (kj ns)=true):∃ss,NK d ss/\kids d=ss.map D.str:=by
 obtain⟨ss,hs⟩:=KQ hm;cases h with
 |@tup ds hd=>obtain rfl:ds=ss.map D.str:=hs;exact⟨ss,.tup ss,rfl⟩
 |@lst ds hd=>obtain rfl:ds=ss.map D.str:=hs;exact⟨ss,.lst ss,rfl⟩
 |_=>simp[xG]at hb
theorem M3{d:D}(ht:Tyd d)(h:dz d<=10):∀e∈kids d,dz e<=10:=by
 have hL:∀ds:List D,∀e∈ds,dz e<=dzL ds:=by
  intro ds
  induction ds with
  |nil=>intro e he;cases he
  |cons x r ih=>
   intro e he;simp only[dzL];rcases List.mem_cons.mp he with rfl|z
   .omega
   .have:=ih e z;omega
 intro e he;cases ht with
 |@tup ds hd=>have:=hL ds e he;rw[dz]at h;omega
 |@lst ds hd=>have:=hL ds e he;rw[dz]at h;omega
 |_=>cases he
theorem cD{N:D}{ns:List Str}(hN:NK N ns){ds:List D}(h:∀e∈ds,Tyd e/\dz e<=10):fW (tpN 0) eTT (e2 Dg (aq false 0) (aq false 1)) [none,some N] ds=some (ds.map λe=>.bl (kj ns e)):=by
 rw[cL (p:=λ_=>true) (f:=λe=>.bl (kj ns e)),filter_tt];intro e he;obtain⟨h1,h2⟩:=h e he;obtain⟨f1,f2,f3,f4,f5,f6⟩:=h1.all;simp_arith[f3,hN.v,hN.d e h1 (by omega),f4,f5]
theorem cS{N:D}{ns:List Str}(hN:NK N ns){ds:List D}(h:∀e∈ds,Tyd e):fW (tpN 0) eTT (jJ (eAp bu (ao (aq false 0) (ao (eC (.ty "str")) aC))) (e2 gIn (aq false 0) (aq false 1))) [none,some N] ds=some (ds.map λe=>.bl (kj ns e)):=by
 rw[cL (p:=λ_=>true) (f:=λe=>.bl (kj ns e)),filter_tt];intro e he;have h1:=h e he;obtain⟨f1,f2,f3,f4,f5,f6⟩:=h1.all;cases h1 with
 |str x=>simp_arith[hN.v,bu,tyN,okT,isT,hN.i,kj]
 |_=>simp_arith[f3,f4,f5,bu,tyN,okT,isT,kj]<;>simp_all [aG,aD,aH,aJ]
theorem Vj{S:D}{ss:List Str}(hS:NK S ss)(hl:ss.length<=1000):cB [S]=some (.bl (decide (dS ss=ss.length))):=by
 apply Wp.eq;simp_arith[cB,hS.v,hS.k hl,hS.l,eq_int];omega
def K7(ss:List Str)(j:Jt):Bool:=decide (j.1∈ss)==decide (j.2.1∈ss)
def yw(js:List Jt)(ss:List Str)(x y:Str):Bool:=decide (dS ss=ss.length)&&(decide (x∈ss)&& !decide (y∈ss))&&js.all (K7 ss)
theorem cP{S:D}{ss:List Str}(hS:NK S ss)(js:List Jt):fW (tpT 3 (aP (tpN 0) (aP (tpN 1) (aP (tpN 2) dF)))) eTT (e2 gEq (e2 gIn (aq false 0) (aq false 3)) (e2 gIn (aq false 1) (aq false 3))) [none,none,none,some S] (js.map jD)=some ((js.map (K7 ss)).map D.bl):=by
 rw[cL (p:=λ_=>true) (f:=λd=>match d with|.tup [.str a,.str b,_]=>.bl (decide (a∈ss)==decide (b∈ss))|_=>.non)]
 .rw[filter_tt,List.map_map,List.map_map]
  rfl
 .intro d hd
  obtain⟨j,hj,rfl⟩:=List.mem_map.mp hd;simp_arith[jD,hS.v,hS.i,JD]
theorem R0(l:List Bool):vg [.lst .own (l.map D.bl)]=some (.bl (l.all id)):=by
 have:∀l:List Bool,zP (l.map D.bl)=some l:=by
  intro l
  induction l with
  |nil=>rfl
  |cons x r ih=>simp[zP,ih]
 simp[vg,this]
theorem Oc{J S:D}{js:List Jt}{ss:List Str}{x y:Str}(hJ:JJ J js)(hS:NK S ss)(hl:ss.length<=1000)(hjl:js.length<=1000):iU [J,.str x,.str y,S]=some (.bl (yw js ss x y)):=by
 apply Wp.eq;simp_arith[iU,-dq,hS.v,hS.f,hS.b,hS.o,Vj hS hl,hS.i,hS.ni];by_cases c1:dS ss=ss.length
 .by_cases c2:x∈ss
  .by_cases c3:y∈ss
   .simp[c1,c2,c3,yw]
   .simp[c1,c2,c3,hJ.v,hJ.s,aF]
    refine⟨by omega,jc (cP hS js) ?_⟩;rw[R0,aF];simp[aG,aD,yw,c1,c2,c3]
  .simp[c1,c2,yw]
 .simp[c1,yw]
def nE(ss:List Str)(j:Jt):Int:=(if j.1∈ss then 1 else 0)+(if j.2.1∈ss then 1 else 0)
theorem cE{S:D}{ss:List Str}(hS:NK S ss)(js:List Jt):fW (tpN 0) eTT (eAp cF (ao (fJ [none,some 1] (itS (eSl (aq false 0) gU (gn (eC (.int 2))))) (tpN 0) (eB (e2 gIn (aq false 0) (aq false 1))) (eC (.int 1))) aC)) [none,some S] (js.map jD)=some ((js.map (nE ss)).map D.int):=by
 rw[cL (p:=λ_=>true) (f:=λd=>match d with|.tup [.str a,.str b,_]=>.int ((if a∈ss then 1 else 0)+(if b∈ss then 1 else 0))|_=>.non)]
 .rw[filter_tt,List.map_map,List.map_map]
  rfl
 .intro d hd
  obtain⟨j,hj,rfl⟩:=List.mem_map.mp hd;have hc:fW (tpN 0) (eB (e2 gIn (aq false 0) (aq false 1))) (eC (.int 1)) [none,some S] [.str j.1,.str j.2.1]=some (([D.str j.1,.str j.2.1].filter (kj ss)).map λ_=>.int 1):=by
   rw[cL (p:=kj ss) (f:=λ_=>.int 1)];intro e he;rcases List.mem_cons.mp he with rfl|he
   .simp_arith[hS.v,hS.i,kj]
   .obtain rfl:=List.mem_singleton.mp he
    simp_arith[hS.v,hS.i,kj]
  simp_arith[qd,jR,i_,fzo];rw[hc];by_cases c1:j.1∈ss<;>by_cases c2:j.2.1∈ss<;>simp[kj,c1,c2,cF,jD]
theorem no1(ss:List Str)(js:List Jt){m:Mk}:eF (.int 1) (.lst m ((js.map (nE ss)).map D.int))=some (.bl (js.all (K7 ss))):=by
 have h1:∀l:List Int,nG (l.map D.int)=some (l.map V.int):=by
  intro l
  induction l with
  |nil=>rfl
  |cons x r ih=>simp[nG,scV,ih]
 simp only[eF,qx,scV,h1,Option.bind_some,Option.map_some];congr 2;unfold inV;rw[List.any_map,List.any_map,List.not_any_eq_all_not];congr 1;funext j;simp only[Function.comp,eqV,nE,K7];by_cases c1:j.1∈ss<;>by_cases c2:j.2.1∈ss<;>simp[c1,c2]
theorem Ug{N J:D}{js:List Jt}{ns:List Str}{x y:Str}{d:D}(hN:NK N ns)(hJ:JJ J js)(hjl:js.length<=1000)(hd:Pap d):∃b m c:Bool,cz [N,J,.str x,.str y,d]=some (.bl b)/\m=(xG d&&(kids d).all (kj ns))/\(m=false->c=false/\b=false)/\(m=true->∃ss,NK d ss/\ss.length<=900/\c=(decide (dS ss=ss.length)&&(decide (x∈ss)&& !decide (y∈ss)))/\b=(c&&js.all (K7 ss))):=by
 obtain⟨f1,f2,f3,f4,f5,h6⟩:=hd.1.all;have hl:=hd.2.2.2;have hdz:=hd.2.2.1;cases hb:xG d with
 |false=>
  refine⟨false,false,false,?_,rfl,λ_=>⟨rfl,rfl⟩,λz=>by cases z⟩;apply Wp.eq;simp_arith[cz,-dq,f1,f3,f4,f5,wK hd.1,hb]
 |true=>
  obtain⟨hq,hk⟩:=Qd hd.1 hb;have hkz:=M3 hd.1 hdz;have hc:=cD hN λe he=>⟨hk e he,hkz e he⟩;cases hm:(kids d).all (kj ns)with
  |false=>
   refine⟨false,false,false,?_,rfl,λ_=>⟨rfl,rfl⟩,λz=>by cases z⟩;apply Wp.eq;simp_arith[cz,-dq,f1,f3,f4,f5,hN.v,wK hd.1,hb,hq];refine⟨by omega,jc hc ?_⟩;simp[all_map,hm,aF]
  |true=>
   obtain⟨ss,hS,hks⟩:=U4 hd.1 hb hm;have hsl:ss.length<=900:=by rw[hks]at hl;simpa using hl
   refine⟨yw js ss x y,true,decide (dS ss=ss.length)&&(decide (x∈ss)&& !decide (y∈ss)),?_,rfl,(λz=>by cases z),λ_=>⟨ss,hS,hsl,rfl,rfl⟩⟩;have hp:=Oc (x:=x) (y:=y) hJ hS (by omega) hjl;apply Wp.eq;simp_arith[cz,-dq,f1,f3,f4,f5,hN.v,wK hd.1,hb,hq];refine⟨by omega,jc hc ?_⟩;simp[all_map,hm,aF,hJ.v,hJ.f,hJ.b,hJ.o,f1,f3,f4,f5,hp,aG,aD]
theorem VG{N J:D}{js:List Jt}{ns:List Str}{x y:Str}{d:D}(hN:NK N ns)(hJ:JJ J js)(hjl:js.length<=1000)(hd:Pap d):b_ [N,J,.str x,.str y,d]=some (.bl true):=by
 obtain⟨f1,f2,f3,f4,f5,h6⟩:=hd.1.all;obtain⟨z,hs⟩:=Ia h6 (by have:=hd.2.1;omega) (by have:=hd.2.2.1;omega);have hl:=hd.2.2.2;obtain⟨b,m,c,k1,em,k2,k3⟩:=Ug (x:=x) (y:=y) hN hJ hjl hd;have hib:bu [.bl b,.ty "bool"]=some (.bl true):=rfl;apply Wp.eq;simp only[b_,fnP,en0,List.length_cons,List.length_nil,List.map_cons,List.map_nil,List.replicate,if_true,dB,Nat.reduceAdd,Nat.reduceSub,List.cons_append,List.nil_append];refine bB (λρ=>ρ=[some N,some J,some (.str x),some (.str y),some d,some (.str z),none,none,none]) (λQ hQ=>?_) ?_
 .simp_arith[f3,hs]
  exact hQ _ rfl
 rintro _ rfl;refine bB (λρ=>ρ=[some N,some J,some (.str x),some (.str y),some d,some (.str z),some (.bl b),none,none]) (λQ hQ=>?_) ?_
 .simp_arith[f1,f3,f4,f5,hN.v,hN.f,hN.b,hN.o,hJ.v,hJ.f,hJ.b,hJ.o,k1]
  exact hQ _ rfl
 rintro _ rfl;refine bB (λρ=>ρ=[some N,some J,some (.str x),some (.str y),some d,some (.str z),some (.bl b),some (.bl (xG d)),none]) (λQ hQ=>?_) ?_
 .simp_arith[f3,bI,QM hd.1]
  exact hQ _ rfl
 rintro _ rfl;refine bB (λρ=>ρ=[some N,some J,some (.str x),some (.str y),some d,some (.str z),some (.bl b),some (.bl m),none]) (λQ hQ=>?_) ?_
 .cases hb:xG d with
  |false=>
   simp_arith[aF];exact hQ _ (by simp[em,hb])
  |true=>
   obtain⟨hq,hk⟩:=Qd hd.1 hb;simp_arith[-dq,f3,hN.v,hq];refine⟨by omega,jc (cS hN hk) ?_⟩;rw[all_map,aF];exact⟨⟨rfl,rfl⟩,hQ _ (by simp[em,hb])⟩
 rintro _ rfl;refine bB (λρ=>ρ=[some N,some J,some (.str x),some (.str y),some d,some (.str z),some (.bl b),some (.bl c),none]) (λQ hQ=>?_) ?_
 .cases m with
  |false=>
   simp_arith[aF];exact hQ _ (by rw[(k2 rfl).1])
  |true=>
   obtain⟨ss,hS,hsl,ec,eb⟩:=k3 rfl;have hi:((dS ss:Int)=ss.length)=(dS ss=ss.length):=propext (by omega);simp only[sIf,nU,aq,List.getElem?_cons_succ,List.getElem?_cons_zero,view,Option.bind_some,truth,dB,aF,if_true,du,jJ,e2,eAp,ao,aC,f3,hS.k (by omega:ss.length<=1000),hS.l,eq_int,hi,hS.i,hS.ni,isB,uo];by_cases c1:dS ss=ss.length
   .by_cases c2:x∈ss
    .simp[c1,c2,aF,tgN,clean,aG,aD,isB]
     exact hQ _ (by simp[ec,c1,c2])
    .simp[c1,c2,aF,tgN,clean,aG,aD,isB]
     exact hQ _ (by simp[ec,c1,c2])
   .simp[c1,aF,tgN,clean,aG,aD,isB]
    exact hQ _ (by simp[ec,c1])
 rintro _ rfl;refine bB (λρ=>∃x8,ρ=[some N,some J,some (.str x),some (.str y),some d,some (.str z),some (.bl b),some (.bl b),x8]) (λQ hQ=>?_) ?_
 .cases c with
  |false=>
   have:b=false:=by
    cases m with
    |false=>exact(k2 rfl).2
    |true=>obtain⟨ss,hS,hsl,ec,eb⟩:=k3 rfl;rw[eb];rfl
   simp_arith[aF];exact hQ _ ⟨_,by rw[this]⟩
  |true=>
   cases m with
   |false=>cases (k2 rfl).1
   |true=>
    obtain⟨ss,hS,hsl,ec,eb⟩:=k3 rfl;simp_arith[-dq,f3,hJ.v,hJ.s];refine⟨by omega,jc (cE hS js) ?_⟩;have nbi:∀l:List Int,aH (l.map D.int)=true:=λl=>bY λd hd=>by obtain⟨x,_,rfl⟩:=List.mem_map.mp hd;rfl
    have noi:∀l:List Int,aJ (l.map D.int)=true:=λl=>bU λd hd=>by obtain⟨x,_,rfl⟩:=List.mem_map.mp hd;rfl
    simp only[nbi,noi,rZ,mkV,no1,aF,Bool.and_self,true_and];exact⟨⟨rfl,rfl⟩,hQ _ ⟨_,by rw[eb,Bool.true_and]⟩⟩
 rintro _ ⟨x8,rfl⟩;simp_arith[f3,hs,hib,JD,eq_str]
abbrev Gz:=Bool×List Str
def mkB(b:Bool):Mk:=if b then .own else .frz
def zD(z:Gz):D:=.lst (mkB z.1) (z.2.map D.str)
def fr(g:List Str):D:=.lst .frz (g.map D.str)
theorem UJ(l:List Gz):fzL (l.map zD)=(l.map (·.2)).map fr:=by
 rw[gh,List.map_map,List.map_map];refine List.map_congr_left λz _=>?_;simp only[Function.comp,zD,fr,fz,cX];cases z.1<;>rfl
theorem Qk(l:List Gz):aH (l.map zD)=true:=bY λd hd=>by
 obtain⟨z,_,rfl⟩:=List.mem_map.mp hd;simp only[zD,aG,bF];cases z.1<;>rfl
theorem Qw(l:List Gz):aJ (l.map zD)=true:=bU λd hd=>by
 obtain⟨z,_,rfl⟩:=List.mem_map.mp hd;simp only[zD,aD,bx];cases z.1<;>rfl
theorem nR(b:Bool)(g:List Str):view b (fr g)=fr g:=by cases b<;>simp[fr,view,bM,mkV]
theorem Gg(b:Bool)(l:List (List Str)):gW b (l.map fr)=l.map fr:=by
 rw[dN,List.map_map];exact List.map_congr_left λg _=>nR b g
theorem Iu(l:List (List Str)):i_ (l.map fr)=l.map fr:=by
 rw[gJ,List.map_map];refine List.map_congr_left λg _=>?_;simp[fr,fzo,d_,mkO]
theorem xN(g:List Str):aG (fr g)=true/\aD (fr g)=true:=by simp[fr,aG,aD,bF,bx]
theorem CJ:∀a b:List Str,eqL (a.map Dt.str) (b.map Dt.str)=decide (a=b)
 |[],[]=>rfl
 |[],_::_=>rfl
 |_::_,[]=>rfl
 |x::r,y::q=>by
  rw[List.map_cons,List.map_cons,eqL,CJ r q,Bool.eq_iff_iff];simp[eqD]
theorem Qa{f s:List Str}:gNe (fr f) (fr s)=some (.bl (!decide (f=s))):=by
 unfold gNe;rw[if_pos ⟨lN f,lN s,by simp[fr,dt,dp,lW,oM],by simp[fr,dt,dp,lW,oM]⟩];simp[fr,dt,lW,eqD,CJ]
theorem mO:∀g:List Str,strsOf (g.map D.str)=some g
 |[]=>rfl
 |y::r=>by simp[strsOf,mO r]
def Wt(gs:List (List Str)):Nat:=(gs.map λg=>g.length+1).sum
theorem Rb(a b:List (List Str)):Wt (a++b)=Wt a+Wt b:=by simp[Wt]
theorem vX:∀{gs:List (List Str)}{g:List Str},g∈gs->g.length+1<=Wt gs
 |x::r,g,h=>by
  simp only[Wt,List.map_cons,List.sum_cons];rcases List.mem_cons.mp h with rfl|z
  .omega
  .have:=vX z;unfold Wt at this;omega
theorem DN:∀gs:List (List Str),gs.length<=Wt gs
 |[]=>by simp
 |x::r=>by have:=DN r;simp only[Wt,List.map_cons,List.sum_cons,List.length_cons]at this⊢;omega
theorem Qy(p:List Str->Bool):∀gs:List (List Str),Wt (gs.filter p)<=Wt gs
 |[]=>by simp
 |x::r=>by
  have:=Qy p r;rw[List.filter_cons];split<;>simp only[Wt,List.map_cons,List.sum_cons]at this⊢<;>omega
theorem Eb{f:List Str}:∀{gs:List (List Str)},f∈gs->Wt (gs.filter λg=>!decide (g=f))+(f.length+1)<=Wt gs
 |x::r,h=>by
  by_cases hx:x=f
  .subst hx
   have:=Qy (λg=>!decide (g=x)) r;rw[List.filter_cons,if_neg (by simp)];simp only[Wt,List.map_cons,List.sum_cons]at this⊢;omega
  .have:=Eb ((List.mem_cons.mp h).resolve_left λz=>hx z.symm)
   rw[List.filter_cons,if_pos (by simpa using hx)];simp only[Wt,List.map_cons,List.sum_cons]at this⊢;omega
theorem SJ{f s:List Str}{gs:List (List Str)}(hf:f∈gs)(hs:s∈gs)(hn:f≠s):Wt (gs.filter λg=>!decide (g=f)&& !decide (g=s))+(f.length+1)+(s.length+1)<=Wt gs:=by
 have h1:=Eb hf;have h2:=Eb (gs:=gs.filter λg=>!decide (g=f)) (List.mem_filter.mpr ⟨hs,by simpa using λz=>hn z.symm⟩);rw[List.filter_filter]at h2;have e:(gs.filter λg=>!decide (g=f)&& !decide (g=s))=gs.filter λg=>!decide (g=s)&& !decide (g=f):=by
  congr 1;funext g;exact Bool.and_comm _ _
 rw[e];omega
structure Gr(ns:List Str)(gs:List (List Str)):Prop where
 i:∀g∈gs,∀x∈g,x∈ns
 c:∀x∈ns,∃g∈gs,x∈g
 w:Wt gs<=30
theorem Gr.merge{ns:List Str}{gs:List (List Str)}{f s:List Str}(h:Gr ns gs)(hf:f∈gs)(hs:s∈gs)(hn:f≠s):Gr ns ((gs.filter λg=>!decide (g=f)&& !decide (g=s))++[f++s])where
 i:=λg hg x hx=>by
  rcases List.mem_append.mp hg with z|z
  .exact h.i g (List.mem_filter.mp z).1 x hx
  .obtain rfl:=List.mem_singleton.mp z
   exact(List.mem_append.mp hx).elim (h.i f hf x) (h.i s hs x)
 c:=λx hx=>by
  obtain⟨g,hg,hxg⟩:=h.c x hx;by_cases h1:g=f
  .exact⟨f++s,by simp,List.mem_append_left _ (h1▸hxg)⟩
  .by_cases h2:g=s
   .exact⟨f++s,by simp,List.mem_append_right _ (h2▸hxg)⟩
   .exact⟨g,List.mem_append_left _ (List.mem_filter.mpr ⟨hg,by simp[h1,h2]⟩),hxg⟩
 w:=by
  have:=SJ hf hs hn;have:=h.w;rw[Rb];simp only[Wt,List.map_cons,List.map_nil,List.sum_cons,List.sum_nil,List.length_append]at *
  omega
theorem Vv(ns:List Str):fW (tpN 0) eTT (eAp aU (ao (aq false 0) aC)) [none] (ns.map D.str)=some ((ns.map λx=>((true,[x]):Gz)).map zD):=by
 rw[cL (p:=λ_=>true) (f:=λd=>.lst .own [d])]
 .rw[filter_tt,List.map_map,List.map_map]
  rfl
 .intro d hd
  obtain⟨x,_,rfl⟩:=List.mem_map.mp hd;simp_arith[aU]
theorem RG(x:Str)(gs:List (List Str)):fW (tpN 0) (eB (e2 gIn (aq false 1) (aq false 0))) (aq false 0) [none,some (.str x)] (gs.map fr)=some ((gs.filter λg=>decide (x∈g)).map fr):=by
 have hp:∀g:List Str,gIn (.str x) (fr g)=some (.bl (decide (x∈g))):=λg=>(NK.lst g).i x;rw[cL (p:=λd=>match d with|.lst _ ds=>(strsOf ds).any (λg=>decide (x∈g))|_=>false) (f:=id)]
 .rw[List.map_id,List.filter_map]
  congr 2;refine List.filter_congr λg _=>?_;simp[Function.comp,fr,mO]
 .intro d hd
  obtain⟨g,_,rfl⟩:=List.mem_map.mp hd;simp[tpN,aF,eB,e2,aq,nR,view,hp,isB];simp[fr,mO]
theorem VM(f s:List Str)(gs:List (List Str)):fW (tpN 0) (uV (eB (e2 gNe (aq false 0) (aq false 1))) (eB (e2 gNe (aq false 0) (aq false 2)))) (aq false 0) [none,some (fr f),some (fr s)] (gs.map fr)=some ((gs.filter λg=>!decide (g=f)&& !decide (g=s)).map fr):=by
 have hst:=mO;rw[cL (p:=λd=>match d with|.lst _ ds=>(strsOf ds).any (λg=>!decide (g=f)&& !decide (g=s))|_=>false) (f:=id)]
 .rw[List.map_id,List.filter_map]
  congr 2;refine List.filter_congr λg _=>?_;simp[Function.comp,fr,hst]
 .intro d hd
  obtain⟨g,_,rfl⟩:=List.mem_map.mp hd;simp[tpN,aF,uV,eB,e2,aq,nR,Qa,isB];by_cases h1:g=f<;>by_cases h2:g=s<;>simp[h1,h2,fr,hst]
theorem J0{x:Str}{ns:List Str}{gs:List (List Str)}(h:Gr ns gs)(hx:x∈ns):∃f∈gs,x∈f/\gIx (.lst .own ((gs.filter λg=>decide (x∈g)).map fr)) (.int 0)=some (fr f):=by
 obtain⟨g,hg,hxg⟩:=h.c x hx;have hm:g∈gs.filter λg=>decide (x∈g):=List.mem_filter.mpr ⟨hg,by simpa using hxg⟩;obtain⟨f,hf,_,he⟩:=gw (f:=fr) (l:=gs.filter λg=>decide (x∈g)) (i:=0) (Int.le_refl 0) (by have:=List.length_pos_of_mem hm;omega);obtain⟨h1,h2⟩:=List.mem_filter.mp hf;exact⟨f,h1,by simpa using h2,he⟩
def vW(g:List Str):List Str:=(CN (g.map λx=>[x])).map λk=>k.headD ""
theorem xg(g:List Str):List.Perm (vW g) g:=by
 have:=(pA (g.map λx=>[x])).map λk=>k.headD ("":Str);rw[List.map_map]at this;refine this.trans ?_;rw[show((λk:List Str=>k.headD "")∘λx=>[x])=id from rfl,List.map_id]
theorem xO:∀g:List Str,Ak (g.map D.str)=some (g.map λx=>[x])
 |[]=>rfl
 |x::r=>by simp[Ak,xO r]
theorem Le{m:Mk}{g:List Str}(h:g.length<64):jG [.lst m (g.map D.str)]=some (.lst .own ((vW g).map D.str)):=by
 simp only[jG,List.length_map,h,if_true,xO];rw[vW,List.map_map];rfl
theorem Fv:∀rs:List (List Str),lstK .own (rs.map (fL .own))=some rs
 |[]=>rfl
 |x::r=>by
  have:=mO x;simp[lstK,fL,this,Fv r]
theorem G9{rs:List (List Str)}(h:rs.length<64):jG [.lst .own (rs.map (fL .own))]=some (.lst .own ((CN rs).map (fL .own))):=by
 simp only[jG,List.length_map,h,if_true];cases rs with
 |nil=>rfl
 |cons x r=>
  have:=Fv (x::r);simp only[List.map_cons,fL,Ak]at this⊢;rw[this];rfl
def Cl(ns:List Str)(d:D):Prop:=∃rs:List (List Str),d= .lst .own (rs.map (fL .own))/\(∀r∈rs,r.length<=30/\∀x∈r,x∈ns)/\(∀x∈ns,∃r∈rs,x∈r)/\rs.length<=30
def ClI(N J:D)(ns:List Str)(k:Nat)(ρ:En):Prop:=∃(b:Bool)(zs:List Gz)(x3 x4 x5 x6 x7:Option D),ρ=[some N,some J,some (.lst (mkB b) (zs.map zD)),x3,x4,x5,x6,x7]/\Gr ns (zs.map (·.2))
theorem HS{N J:D}{ns:List Str}{js:List Jt}(hN:NK N ns)(hJ:JJ J js)(hj:∀j∈js,j.1∈ns/\j.2.1∈ns)(hl:ns.length<=15):Wp (dW [N,J]) (Cl ns):=by
 simp only[dW,fnP,en0,List.length_cons,List.length_nil,List.map_cons,List.map_nil,List.replicate,if_true,dB,Nat.reduceAdd,Nat.reduceSub,List.cons_append,List.nil_append];refine bB (ClI N J ns 0) (λQ hQ=>?_) ?_
 .simp_arith[-dq,hN.v,hN.s]
  refine⟨by omega,jc (Vv ns) ?_⟩;rw[Qk,Qw];refine⟨by decide,hQ _ ⟨true,_,_,_,_,_,_,rfl,?_⟩⟩;rw[List.map_map];refine⟨λg hg x hx=>?_,λx hx=>⟨[x],List.mem_map.mpr ⟨x,hx,rfl⟩,by simp⟩,?_⟩
  .obtain⟨y,hy,rfl⟩:=List.mem_map.mp hg
   obtain rfl:=List.mem_singleton.mp hx;exact hy
  .have:∀l:List Str,Wt (l.map ((λz:Gz=>z.2)∘λx=>(true,[x])))=2*l.length:=by
    intro l
    induction l with
    |nil=>rfl
    |cons y r ih=>simp only[Wt,List.map_cons,List.sum_cons,List.length_cons]at ih⊢;rw[ih];simp;omega
   rw[this];omega
 rintro ρ0 ⟨b0,zs0,y3,y4,y5,y6,y7,rfl,hg0⟩;refine bB (ClI N J ns 0) (λQ hQ=>?_) ?_
 .simp[jr,itS,aq,hJ.v,hJ.s,dB,aF,w_ite]
  refine iY (ClI N J ns) ⟨b0,zs0,y3,y4,y5,y6,y7,rfl,hg0⟩ ?_ (λρ h=>hQ _ h);rintro k d ρ hk ⟨b,zs,x3,x4,x5,x6,x7,rfl,hg⟩;rw[List.getElem?_map]at hk;cases hjk:js[k]? with
  |none=>simp[hjk]at hk
  |some j=>
   obtain rfl:jD j=d:=by simpa[hjk]using hk
   obtain⟨hj1,hj2⟩:=hj j (List.mem_of_getElem? hjk);generalize hgs:zs.map (·.2)=gs at hg;have hfz:fz (.lst (mkB b) (zs.map zD))= .lst .frz (gs.map fr):=by
    rw[fz,UJ,hgs];cases b<;>rfl
   have hgl:gs.length<=30:=Nat.le_trans (DN gs) hg.w;obtain⟨f,hf,hxf,ef⟩:=J0 hg hj1;obtain⟨s,hs,hxs,es⟩:=J0 hg hj2;simp[jD,tgT,aP,dF,tgN,aH,aJ,clean,aG,aD,aF];refine bB (λρ=>ρ=[some N,some J,some (.lst .frz (gs.map fr)),some (.str j.1),some (.str j.2.1),some (.int j.2.2),some (fr f),x7]) (λQ hQ=>?_) ?_
   .simp_arith[-fz,hfz,Gg,Iu]
    refine⟨by omega,jc (RG j.1 gs) ?_⟩;rw[ef,aF];exact⟨xN f,hQ _ rfl⟩
   rintro _ rfl;refine bB (λρ=>ρ=[some N,some J,some (.lst .frz (gs.map fr)),some (.str j.1),some (.str j.2.1),some (.int j.2.2),some (fr f),some (fr s)]) (λQ hQ=>?_) ?_
   .simp_arith[Gg,Iu]
    refine⟨by omega,jc (RG j.2.1 gs) ?_⟩;rw[es,aF];exact⟨xN s,hQ _ rfl⟩
   rintro _ rfl;have hfl:=vX hf;have hsl:=vX hs;have hw:=hg.w;simp_arith[-view,nR,Qa];have hstay:ClI N J ns (k+1) [some N,some J,some (.lst .frz (gs.map fr)),some (.str j.1),some (.str j.2.1),some (.int j.2.2),some (fr f),some (fr s)]:=⟨false,gs.map λg=>(false,g),_,_,_,_,_,by rw[List.map_map];rfl,by rw[List.map_map,show((λz:Gz=>z.2)∘λg=>(false,g))=id from rfl,List.map_id];exact hg⟩;by_cases hfs:f=s
   .simp only[hfs,if_true]at hstay⊢
    exact hstay
   .simp only[hfs,if_false]
    have hv2:view false (.lst .frz (gs.map fr))= .lst .frz (gs.map fr):=by rw[view,Gg];rfl
    rw[Gg,Iu];refine⟨by simp;omega,jc (VM f s gs) ?_⟩;have a1:bQ (fr f) (fr s)=some (.lst .own ((f++s).map D.str)):=by
     simp[fr,bQ];omega
    have hfi:=List.length_filter_le (λg=>!decide (g=f)&& !decide (g=s)) gs;have a2:bQ (.lst .own ((gs.filter λg=>!decide (g=f)&& !decide (g=s)).map fr)) (.lst .own [.lst .own ((f++s).map D.str)])=some (.lst .own (((gs.filter λg=>!decide (g=f)&& !decide (g=s)).map λg=>((false,g):Gz)).map zD++[((true,f++s):Gz)].map zD)):=by
     have h1:((gs.filter λg=>!decide (g=f)&& !decide (g=s)).map fr).length+1<=1000000:=by rw[List.length_map];omega
     simp only[bQ,List.length_cons,List.length_nil,Nat.zero_add];rw[if_pos ⟨by decide,by decide,h1⟩,List.map_map];rfl
    rw[a1,aF];simp only[aU,List.length_cons,List.length_nil,aF,if_true,Nat.zero_add,Nat.reduceLeDiff];rw[a2,aF,←List.map_append];simp only[aG,aD,Qk,Qw];refine⟨by decide,true,_,_,_,_,_,_,rfl,?_⟩;have:=hg.merge hf hs hfs;rw[List.map_append,List.map_map,show((λz:Gz=>z.2)∘λg=>(false,g))=id from rfl,List.map_id];exact this
 rintro _ ⟨b,zs,x3,x4,x5,x6,x7,rfl,hg⟩;have hw:=hg.w;have hzl:zs.length<=30:=by have:=DN (zs.map (·.2));simp at this;omega
 have hz64:∀z∈zs,z.2.length<64:=λz hz=>by have:=vX (List.mem_map_of_mem (f:=(·.2)) hz);omega
 have hvz:view false (.lst (mkB b) (zs.map zD))= .lst (mkV false (mkB b)) (zs.map λz=>.lst (mkV false (mkB z.1)) (z.2.map D.str)):=by
  rw[view,dN,List.map_map];congr 1;refine List.map_congr_left λz _=>?_;simp[Function.comp,zD,view,bM]
 have hfo:i_ (zs.map λz=>D.lst (mkV false (mkB z.1)) (z.2.map D.str))=zs.map λz=>D.lst (mkV false (mkB z.1)) (z.2.map D.str):=by
  rw[gJ,List.map_map];refine List.map_congr_left λz _=>?_;simp only[Function.comp,fzo,d_];cases z.1<;>rfl
 have hcc:fW (tpN 0) eTT (eAp jG (ao (aq false 0) aC)) [none] (zs.map λz=>D.lst (mkV false (mkB z.1)) (z.2.map D.str))=some (((zs.map λz=>vW z.2)).map (fL .own)):=by
  rw[cL (p:=λ_=>true) (f:=λd=>match d with|.lst _ ds=>.lst .own ((vW ((strsOf ds).getD [])).map D.str)|_=>.non)]
  .rw[filter_tt,List.map_map,List.map_map]
   congr 1;refine List.map_congr_left λz _=>?_;have:=mO z.2;simp[Function.comp,this,fL]
  .intro d hd
   obtain⟨z,hz,rfl⟩:=List.mem_map.mp hd;have:=mO z.2;have hv:view false (.lst (mkV false (mkB z.1)) (z.2.map D.str))= .lst (mkV false (mkB z.1)) (z.2.map D.str):=by
    rw[view,bM];cases z.1<;>rfl
   simp[tpN,aF,eTT,eAp,ao,aq,aC,hv,Le (hz64 z hz),this]
 simp_arith[-view,-mkV,hvz,hfo];refine⟨by omega,jc hcc ?_⟩;rw[G9 (by simp;omega),aF];have hpm:=pA (zs.map λz=>vW z.2);have nbL:∀rs:List (List Str),aH (rs.map (fL .own))=true:=λrs=>bY λd hd=>by
  obtain⟨z,_,rfl⟩:=List.mem_map.mp hd;simp[fL,aG,bF]
 have noL:∀rs:List (List Str),aJ (rs.map (fL .own))=true:=λrs=>bU λd hd=>by
  obtain⟨z,_,rfl⟩:=List.mem_map.mp hd;simp[fL,aD,bx]
 simp only[aG,aD,nbL,noL];refine⟨by decide,_,rfl,λr hr=>?_,λx hx=>?_,?_⟩
 .obtain⟨z,hz,rfl⟩:=List.mem_map.mp (hpm.mem_iff.mp hr)
  have:=vX (List.mem_map_of_mem (f:=(·.2)) hz);have hp:=xg z.2;exact⟨by rw[hp.length_eq];omega,λx hx=>hg.i z.2 (List.mem_map_of_mem (f:=(·.2)) hz) x (hp.mem_iff.mp hx)⟩
 .obtain⟨g,hgm,hxg⟩:=hg.c x hx
  obtain⟨z,hz,rfl⟩:=List.mem_map.mp hgm;exact⟨vW z.2,hpm.mem_iff.mpr (List.mem_map.mpr ⟨z,hz,rfl⟩),(xg z.2).mem_iff.mpr hxg⟩
 .rw[hpm.length_eq,List.length_map];exact hzl
theorem zx{cap:List (Option Nat)}{tg:D->En->Option En}{c:En->Option (Bool×En)}{e:En->Option (D×En)}(I:Nat->List D->En->Prop):∀{items:List D}{ρ:En}{k:Nat}{acc:List D}{Q:List D×En->Prop},I k acc ρ->(∀i d acc ρ,items[i]? =some d->I (k+i) acc ρ->Wp (tg d (lM cap ρ)) λρ1=>Wp (c ρ1) λb=>if b.1=true then Wp (e b.2) λp=>clean p.1=true/\I (k+i+1) (acc++[p.1]) (fQ cap p.2 ρ)else I (k+i+1) acc (fQ cap b.2 ρ))->(∀ys ρ,I (k+items.length) (acc++ys) ρ->Q (ys,ρ))->Wp (mZ cap tg c e items ρ) Q
 |[],ρ,k,acc,Q,h0,hs,h=>by rw[mZ,aF];exact h [] ρ (by simpa using h0)
 |d::r,ρ,k,acc,Q,h0,hs,h=>by
  rw[mZ,dB];refine Wp.mono (hs 0 d acc ρ rfl h0) λρ1 h1=>?_;rw[dB];refine Wp.mono h1 λb h2=>?_;have hs':∀i d acc ρ,r[i]? =some d->I (k+1+i) acc ρ->Wp (tg d (lM cap ρ)) λρ1=>Wp (c ρ1) λb=>if b.1=true then Wp (e b.2) λp=>clean p.1=true/\I (k+1+i+1) (acc++[p.1]) (fQ cap p.2 ρ)else I (k+1+i+1) acc (fQ cap b.2 ρ):=λi d acc ρ hi hI=>by
   have:=hs (i+1) d acc ρ (by simpa using hi) (by rw[show k+(i+1)=k+1+i by omega];exact hI);rw[show k+(i+1)=k+1+i by omega]at this;exact this
  by_cases hb:b.1=true
  .rw[if_pos hb]at h2
   rw[if_pos hb,dB];refine Wp.mono h2 λp h3=>?_;rw[if_pos h3.1,uo];refine zx I (k:=k+1) (acc:=acc++[p.1]) h3.2 hs' λys ρ hy=>h (p.1::ys) ρ ?_;rw[List.length_cons,show k+(r.length+1)=k+1+r.length by omega];simpa using hy
  .rw[if_neg hb]at h2
   rw[if_neg hb];refine zx I (k:=k+1) (acc:=acc) h2 hs' λys ρ hy=>h ys ρ ?_;rw[List.length_cons,show k+(r.length+1)=k+1+r.length by omega];exact hy
def sOk(x:Str):Prop:=eOk (.str x)
theorem Es{ss:List Str}(h:∀x∈ss,sOk x):∀e∈ss.map D.str,eOk e:=λe he=>by
 obtain⟨x,hx,rfl⟩:=List.mem_map.mp he;exact h x hx
theorem Ax{ss:List Str}(h:∀x∈ss,sOk x)(hl:ss.length<=50):Pap (fr ss):=rH (Es h) (by simpa using hl)
theorem QQ{ss:List Str}(h:∀x∈ss,sOk x)(hl:ss.length<=50):Pap (.tup (ss.map D.str)):=mC (Es h) (by simpa using hl)
theorem MT{ss:List Str}(h:∀x∈ss,sOk x)(hl:ss.length<=50):pI (.lst .own (ss.map D.str)):=⟨by rw[fz,cX];exact Ax h hl,by simp[aG,bF],by simp[aD,bx]⟩
def Pr(N J:D)(h g:Str)(q:D×List D):Prop:=∃(a' b':Int),q=(.bl true,[tp a' b',N,J,.str h,.str g])/\0<=a'
def PmI(N J:D)(h g:Str)(ns r:List Str)(k:Nat)(acc:List D)(ρ:En):Prop:=∃(ms:List Str)(a' b':Int),acc=ms.map D.str/\(∀x∈ms,x∈ns)/\ms.length<=k/\0<=a'/\ρ=[some (tp a' b'),some N,some J,some (.str h),some (.str g),some (fr r),none,none,none,none,none]
def PrI(N J:D)(h g:Str)(r ms os:List Str)(k:Nat)(ρ:En):Prop:=∃(items:List D)(a' b':Int)(x9 x10:Option D),ρ=[some (tp a' b'),some N,some J,some (.str h),some (.str g),some (fr r),some (fr ms),some (fr os),some (.lst .own items),x9,x10]/\(∀d∈items,pI d)/\items.length<=9+k/\0<=a'
theorem wN{a b:Int}{N J:D}{ns:List Str}{js:List Jt}{h g:Str}(ha:0<=a)(hN:NK N ns)(hNp:Pap N)(hJ:JJ J js)(hj:∀j∈js,j.1∈ns/\j.2.1∈ns)(hjl:js.length<=100)(hnl:ns.length<=15)(hns:∀x∈ns,sOk x)(hh:h∈ns)(hg:g∈ns):Wp (cg [tp a b,N,J,.str h,.str g]) (Pr N J h g):=by
 simp only[cg,fnI,en0,List.length_cons,List.length_nil,List.map_cons,List.map_nil,List.replicate,if_true,dB,Nat.reduceAdd,Nat.reduceSub,List.cons_append,List.nil_append];refine bB (λρ=>∃r:List Str,r.length<=30/\(∀x∈r,x∈ns)/\ρ=[some (tp a b),some N,some J,some (.str h),some (.str g),some (fr r),none,none,none,none,none]) (λQ hQ=>?_) ?_
 .simp_arith[-dq,hN.v,hN.f,hN.b,hN.o,hJ.v,hJ.f,hJ.b,hJ.o]
  refine Wp.mono (HS hN hJ hj hnl) ?_;rintro _ ⟨rs,rfl,hr1,hr2,hr3⟩;have hsq:dq (.lst .own (rs.map (fL .own)))=some (true,rs.map fr):=by
   have e1:aH (rs.map (fL .own))=true:=bY λd hd=>by
    obtain⟨z,_,rfl⟩:=List.mem_map.mp hd;simp[fL,aG,bF]
   have e2:aJ (rs.map (fL .own))=true:=bU λd hd=>by
    obtain⟨z,_,rfl⟩:=List.mem_map.mp hd;simp[fL,aD,bx]
   have e3:i_ (rs.map (fL .own))=rs.map fr:=by
    rw[gJ,List.map_map];refine List.map_congr_left λz _=>?_;simp[fL,fr,fzo,d_,mkO]
   simp[dq,clean,aG,aD,e1,e2,e3]
  rw[hsq,aF];refine⟨by simp;omega,jc (RG h rs) ?_⟩;obtain⟨g0,hg0,hxg⟩:=hr2 h hh;have hm:g0∈rs.filter λg=>decide (h∈g):=List.mem_filter.mpr ⟨hg0,by simpa using hxg⟩;obtain⟨f,hf,_,he⟩:=gw (f:=fr) (l:=rs.filter λg=>decide (h∈g)) (i:=0) (Int.le_refl 0) (by have:=List.length_pos_of_mem hm;omega);have he:gIx (.lst .own ((rs.filter λg=>decide (h∈g)).map fr)) (.int 0)=some (fr f):=he;rw[he,aF];exact⟨xN f,hQ _ ⟨f,(hr1 f (List.mem_filter.mp hf).1).1,(hr1 f (List.mem_filter.mp hf).1).2,rfl⟩⟩
 rintro _ ⟨r,hrl,hrn,rfl⟩;have hri:∀x,gIn (.str x) (fr r)=some (.bl (decide (x∈r))):=λx=>(NK.lst r).i x;have hrni:∀x,eF (.str x) (fr r)=some (.bl (!decide (x∈r))):=λx=>(NK.lst r).ni x;refine bB (λρ=>∃(ms:List Str)(a' b':Int),(∀x∈ms,x∈ns)/\ms.length<=15/\0<=a'/\ρ=[some (tp a' b'),some N,some J,some (.str h),some (.str g),some (fr r),some (.lst .own (ms.map D.str)),none,none,none,none]) (λQ hQ=>?_) ?_
 .simp only[dD,pB,itS,aq,List.getElem?_cons_succ,List.getElem?_cons_zero,hN.v,Option.bind_some,hN.s,dB,aF]
  rw[if_pos ⟨trivial,by simp;omega⟩,uo];refine zx (PmI N J h g ns r) (k:=0) (acc:=[]) ⟨[],a,b,rfl,by simp,by simp,ha,rfl⟩ ?_ ?_
  .rintro i d acc ρ hi ⟨ms,a1,b1,rfl,hms,hml,s1,rfl⟩
   obtain⟨x,hx,rfl⟩:=List.mem_map.mp (List.mem_of_getElem? hi);have hgo:∀a' b',0<=a'->PmI N J h g ns r (0+i+1) (ms.map D.str++[.str x]) [some (tp a' b'),some N,some J,some (.str h),some (.str g),some (fr r),none,none,none,none,none]:=λa' b' s=>⟨ms++[x],a',b',by simp,λy hy=>(List.mem_append.mp hy).elim (hms y) λz=>by rw[List.mem_singleton.mp z];exact hx,by simp;omega,s,rfl⟩;simp_arith[nR,hri];by_cases hxr:x∈r
   .simp_arith[hxr]
    simpa using hgo a1 b1 s1
   .simp_arith[hxr]
    refine dh s1 (by omega) (by omega) λr2 a2 b2 p2 q2 s2=>?_;simp_arith[eq_int];split
    .try simp_arith[aF]
     simpa using hgo a2 b2 s2
    .exact⟨ms,a2,b2,rfl,hms,by omega,s2,rfl⟩
  .rintro ys ρ ⟨ms,a1,b1,hy,hms,hml,s1,rfl⟩
   obtain rfl:ys=ms.map D.str:=by simpa using hy
   simp[tgN,clean,aG,aD,bF,bx,aF,uo];exact hQ _ ⟨ms,_,_,hms,by simp at hml;omega,s1,rfl⟩
 rintro _ ⟨ms,a1,b1,hms,hml,s1,rfl⟩;refine bB (λρ=>∃(os:List Str),(∀x∈os,x∈ns)/\os.length<=15/\ρ=[some (tp a1 b1),some N,some J,some (.str h),some (.str g),some (fr r),some (.lst .own (ms.map D.str)),some (.lst .own (os.map D.str)),none,none,none]) (λQ hQ=>?_) ?_
 .have hc:fW (tpN 0) (eB (e2 eF (aq false 0) (aq false 1))) (aq false 0) [none,some (fr r)] (ns.map D.str)=some ((ns.filter λx=>!decide (x∈r)).map D.str):=by
   rw[cL (p:=λd=>!kj r d) (f:=id)]
   .rw[List.map_id,List.filter_map]
    rfl
   .intro d hd
    obtain⟨x,_,rfl⟩:=List.mem_map.mp hd;simp[tpN,aF,eB,e2,aq,nR,view,hrni,isB,kj]
  simp_arith[-dq,hN.v,hN.s];refine⟨by omega,jc hc ?_⟩;rw[bF,bx];exact⟨⟨rfl,rfl⟩,hQ _ ⟨_,λx hx=>(List.mem_filter.mp hx).1,Nat.le_trans (List.length_filter_le _ _) hnl,rfl⟩⟩
 rintro _ ⟨os,hos,hol,rfl⟩;have hro:∀x∈r,sOk x:=λx hx=>hns x (hrn x hx);have hmo:∀x∈ms,sOk x:=λx hx=>hns x (hms x hx);have hoo:∀x∈os,sOk x:=λx hx=>hns x (hos x hx);have hfm:fz (.lst .own (ms.map D.str))=fr ms:=by rw[fz,cX];rfl
 have hfo:fz (.lst .own (os.map D.str))=fr os:=by rw[fz,cX];rfl
 refine bB (PrI N J h g r ms os 0) (λQ hQ=>?_) ?_
 .have hT:eG [fr r]=some (.tup (r.map D.str)):=by simp[fr,eG]
  have hS:lZ (fr r) (.int (-1))=some (.lst .own (r.reverse.map D.str)):=by simp[fr,lZ]
  simp_arith[-fz,hfm,hfo,nR,hN.v,hN.b,hN.o,hT,hS,gA,aU,xN,bF,bx,-List.map_reverse];refine hQ _ ⟨_,a1,b1,_,_,rfl,λd hd=>?_,by simp,s1⟩;simp only[List.mem_cons,List.not_mem_nil,or_false]at hd;rcases hd with rfl|rfl|rfl|rfl|rfl|rfl|rfl|rfl|rfl
  .exact mW (Ax hro (by omega))
  .exact mW (QQ hro (by omega))
  .exact MT (λx hx=>hro x (List.mem_reverse.mp hx)) (by simp;omega)
  .exact mW (Ax hmo (by omega))
  .exact mW hNp
  .exact MT (ss:=[]) (by simp) (by simp)
  .exact MT (ss:=[h]) (λx hx=>by rw[List.mem_singleton.mp hx];exact hns h hh) (by simp)
  .exact MT (ss:=[g]) (λx hx=>by rw[List.mem_singleton.mp hx];exact hns g hg) (by simp)
  .exact mW (Ax hoo (by omega))
 rintro _ ⟨items0,a2,b2,y9,y10,rfl,hi0,hil0,s2⟩;refine bB (PrI N J h g r ms os 4) (λQ hQ=>?_) ?_
 .simp[jr,nZ,ao,eC,aC,dB,aF,w_ite,tQ]
  refine iY (PrI N J h g r ms os) ⟨items0,a2,b2,y9,y10,rfl,hi0,by omega,s2⟩ ?_ (λρ h=>hQ _ (by rw[qZ]at h;exact h));clear s2;rintro k d ρ hk ⟨items,a2,b2,x9,x10,rfl,hit,hil,s2⟩;obtain⟨hk4,rfl⟩:=o6 hk;have hk4:k<4:=by simpa using hk4
  simp only[tgN,clean,aG,aD,Bool.and_self,if_true,aF,List.set_cons_succ,List.set_cons_zero];refine bB (λρ=>∃(th:D)(a' b':Int),eOk th/\0<=a'/\ρ=[some (tp a' b'),some N,some J,some (.str h),some (.str g),some (fr r),some (fr ms),some (fr os),some (.lst .own items),some (.int k),some th]) (λQ hQ=>?_) ?_
  .simp_arith[aF]
   refine Wp.mono (ye s2) ?_;rintro _ ⟨th,a3,b3,rfl,hth,s3⟩;obtain⟨_,_,_,f4,f5,_⟩:=(gY hth).1.all;have hn0:0<ns.length:=List.length_pos_of_mem hh;simp_arith[f4,f5,hN.v,hN.l,hN.o];refine dh s3 (by omega) (by omega) λr4 a4 b4 p4 q4 s4=>?_;obtain⟨y,hy,_,hy2⟩:=gw (f:=D.str) (l:=ns) p4 q4;simp_arith[hN.x,hy2,aU,f5];refine dh s4 (by omega) (by omega) λr5 a5 b5 p5 q5 s5=>?_;have hr:r5=0∨r5=1:=by omega
   rcases hr with rfl|rfl
   .simp_arith[gIx,atI,ixN,f4,f5]
    exact hQ _ ⟨th,_,_,gY hth,s5,rfl⟩
   .simp_arith[gIx,atI,ixN]
    exact hQ _ ⟨.str y,_,_,hns y hy,s5,rfl⟩
  rintro _ ⟨th,a3,b3,hth,s3,rfl⟩;obtain⟨f1,f2,f3,f4,f5,_⟩:=hth.1.all;have hfin:∀(ss:List Str)(a' b':Int),ss.length<=30->(∀x∈ss,sOk x)->0<=a'->Wp (dG [tp a' b',.lst .frz (ss.map D.str),th]) λq=>∃(es:List D)(a' b':Int),q=(.lst .own es,[tp a' b',.lst .frz (ss.map D.str),th])/\(∀e∈es,eOk e)/\es.length<=31/\0<=a':=λss a' b' hl ho s=>by
   refine Wp.mono (Mi s (λe he=>(Es ho e he).1) (by simp;omega) hth.1) ?_;rintro _ ⟨es,a4,b4,rfl,hes,hel,s4⟩;rw[List.length_map]at hel;exact⟨es,a4,b4,rfl,λe he=>(hes e he).elim (Es ho e) λz=>by rw[z];exact hth,by omega,s4⟩
  have hil2:items.length<1000000:=by omega
  simp_arith[nR,xN,aU];refine dh s3 (by omega) (by omega) λr4 a4 b4 p4 q4 s4=>?_;have hr:r4=0∨r4=1:=by omega
  rcases hr with rfl|rfl
  all_goals
   simp_arith[gIx,atI,ixN,xN,f3,f4,f5,f1];simp only[fr,fz,cX,mkF,aG,aD,bF,bx]
  .refine Wp.mono (hfin r a4 b4 hrl hro s4) ?_
   rintro _ ⟨es,a5,b5,rfl,hee,hel,s5⟩;obtain⟨g1,g2,g3,g4,g5⟩:=Tyd.ofL λe he=>(hee e he).1;simp_arith[cu,g4,g5,hil2];refine⟨items++[.lst .own es],_,_,_,_,rfl,λd hd=>?_,by simp;omega,s5⟩;rcases List.mem_append.mp hd with z|z
   .exact hit d z
   .obtain rfl:d= .lst .own es:=by simpa using z
    exact⟨by rw[fz,g1];exact rH hee (by omega),by simp[aG,g4],by simp[aD,g5]⟩
  .refine Wp.mono (hfin ms a4 b4 (by omega) hmo s4) ?_
   rintro _ ⟨es,a5,b5,rfl,hee,hel,s5⟩;obtain⟨g1,g2,g3,g4,g5⟩:=Tyd.ofL λe he=>(hee e he).1;simp_arith[cu,g4,g5,hil2];refine⟨items++[.lst .own es],_,_,_,_,rfl,λd hd=>?_,by simp;omega,s5⟩;rcases List.mem_append.mp hd with z|z
   .exact hit d z
   .obtain rfl:d= .lst .own es:=by simpa using z
    exact⟨by rw[fz,g1];exact rH hee (by omega),by simp[aG,g4],by simp[aD,g5]⟩
 clear s2;rintro _ ⟨items,a2,b2,x9,x10,rfl,hit,hil,s2⟩;have hb1:aH items=true:=bY λd hd=>(hit d hd).2.1;have hb2:aJ items=true:=bU λd hd=>(hit d hd).2.2;have htf:∀e∈fzL items,Pap e:=λe he=>by
  rw[gh]at he;obtain⟨d,hd,rfl⟩:=List.mem_map.mp he;exact(hit d hd).1
 obtain⟨g1,g2,g3,g4,g5⟩:=Tyd.ofL λe he=>(htf e he).1;have hfl:(fzL items).length=items.length:=by rw[gh,List.length_map]
 refine bB (λρ=>∃(its:List D)(a' b':Int),(∀d∈its,pI d)/\its.length<=100/\0<=a'/\ρ=[some (tp a' b'),some N,some J,some (.str h),some (.str g),some (fr r),some (fr ms),some (fr os),some (.lst .own its),x9,x10]) (λQ hQ=>?_) ?_
 .simp_arith[hb1,hb2,g3,g5]
  refine Wp.mono (ye s2) ?_;rintro _ ⟨d1,a3,b3,rfl,hd1,s3⟩;obtain⟨e1,e2',e3,e4,e5,_⟩:=(gY hd1).1.all;simp_arith[e4,e5];refine Wp.mono (ye s3) ?_;rintro _ ⟨d2,a4,b4,rfl,hd2,s4⟩;obtain⟨k1,k2,k3,k4,k5,_⟩:=(gY hd2).1.all;simp_arith[k4,k5,aU];have addF:bQ (.lst .frz (fzL items)) (.lst .own [d1,.lst .own [d2],.str h])=some (.lst .own (fzL items++[d1,.lst .own [d2],.str h])):=by
   simp[bQ,hfl];omega
  rw[addF,aF];have all:∀d∈fzL items++[d1,.lst .own [d2],.str h],pI d:=λd hd=>by
   rcases List.mem_append.mp hd with z|z
   .exact mW (htf d z)
   .simp only[List.mem_cons,List.not_mem_nil,or_false]at z
    rcases z with rfl|rfl|rfl
    .exact mW (Gn hd1)
    .exact⟨by rw[fz,fzL,fzL,k1];exact rH (λe he=>by rw[List.mem_singleton.mp he];exact gY hd2) (by simp),by simp[aG,aH,k4],by simp[aD,aJ,k5]⟩
    .obtain⟨q1,q2,q3⟩:=hns _ hh
     exact mW ⟨q1,by omega,by omega,by simp[kids]⟩
  have c4:=bY λd hd=>(all d hd).2.1;have c5:=bU λd hd=>(all d hd).2.2;simp only[aG,aD,c4,c5];exact⟨by decide,hQ _ ⟨_,a4,b4,all,by simp[hfl];omega,s4,rfl⟩⟩
 clear g1 g2 g3 g4 g5 htf hb1 hb2 hfl hit hil s2 items;rintro _ ⟨items,a3,b3,hit,hil,s3,rfl⟩;have htf:∀e∈fzL items,Pap e:=λe he=>by
  rw[gh]at he;obtain⟨d,hd,rfl⟩:=List.mem_map.mp he;exact(hit d hd).1
 obtain⟨g1,g2,g3,g4,g5⟩:=Tyd.ofL λe he=>(htf e he).1;have hfl:(fzL items).length=items.length:=by rw[gh,List.length_map]
 have hc:fW (tpN 0) eTT (eAp (fB b_) (ao (aq false 1) (ao (aq false 2) (ao (aq false 3) (ao (aq false 4) (ao (aq false 0) aC)))))) [none,some N,some J,some (.str h),some (.str g)] (fzL items)=some ((fzL items).map λ_=>.bl true):=by
  rw[cL (p:=λ_=>true) (f:=λ_=>.bl true),filter_tt];intro d hd;obtain⟨f1,f2,f3,f4,f5,f6⟩:=(htf d hd).1.all;have sy:=VG (x:=h) (y:=g) hN hJ (by omega:js.length<=1000) (htf d hd);simp_arith[f1,f3,f4,f5,hN.v,hN.f,hN.b,hN.o,hJ.v,hJ.f,hJ.b,hJ.o,sy]
 simp_arith[g2,g3];refine⟨by rw[hfl];omega,jc hc ?_⟩;rw[all_map (λ_=>true),aF,show((fzL items).all λ_=>true)=true from List.all_eq_true.mpr λ_ _=>rfl];simp[aG,aD];exact⟨_,_,rfl,s3⟩
theorem Lg:∀l:List Jt,gQ (l.map jD)=true
 |[]=>rfl
 |j::r=>by simp[gQ,jD,gq,Lg r]
theorem Vd:(""::"last"::uI:List Str).all (λx=>decide (tz (.str x)<=300))=true:=by decide +kernel
theorem VJ{x:Str}(h:x∈(""::"last"::uI:List Str)):sOk x:=⟨.str x,by simpa using List.all_eq_true.mp Vd x h,by simp[dz]⟩
structure NP(N:D)(ns:List Str):Prop where
 n:NK N ns
 p:Pap N
def LwI(sc:List Int)(k:Nat)(ρ:En):Prop:=∃(x1 x2 x3 x4 x5 x6 x7:Option D),ρ=[some (.lst .scr (sc.map D.int)),x1,x2,x3,x4,x5,x6,x7]
def LwJ(sc:List Int)(kd N J:D)(k:Nat)(ρ:En):Prop:=∃(a b:Int)(x5 x6 x7:Option D),0<=a/\ρ=[some (.lst .scr (sc.map D.int)),some kd,some (tp a b),some N,some J,x5,x6,x7]
theorem Kq(sc:List Int)(hl:sc.length<=63):mq [.lst .scr (sc.map D.int)]=some (.bl true):=by
 apply Wp.eq;have hlen:cF [.lst .scr (sc.map D.int)]=some (.int sc.length):=by simp[cF]
 have hnb:aH (sc.map D.int)=true:=bY λd hd=>by obtain⟨x,_,rfl⟩:=List.mem_map.mp hd;rfl
 have hno:aJ (sc.map D.int)=true:=bU λd hd=>by obtain⟨x,_,rfl⟩:=List.mem_map.mp hd;rfl
 have hit:nZ (ao (e2 bQ (eC (.int 1)) (eAp pO (ao (eC (.int 8)) (ao (eAp cF (ao (aq false 0) aC)) aC)))) aC) [some (.lst .scr (sc.map D.int)),none,none,none,none,none,none,none]=some (true,jL 0 (1+min 8 sc.length)):=by
  refine RP ?_ (by omega);simp only[ao,e2,eC,eAp,aq,aC,List.getElem?_cons_zero,view,mkV,rZ,Option.bind_some,hlen,pO,bQ];congr 3;split<;>omega
 simp only[mq,fnP,en0,List.length_cons,List.length_nil,List.map_cons,List.map_nil,List.replicate,if_true,dB,Nat.reduceAdd,Nat.reduceSub,List.cons_append,List.nil_append];refine bB (LwI sc (1+min 8 sc.length)) (λQ hQ=>?_) ?_
 .simp only[jr,hit,dB,aF,w_ite,if_true]
  refine iY (LwI sc) ⟨none,none,none,none,none,none,none,rfl⟩ ?_ (λρ h=>hQ _ (by rw[qZ]at h;exact h));rintro k d ρ hk ⟨x1,x2,x3,x4,x5,x6,x7,rfl⟩;obtain⟨hkn,rfl⟩:=o6 hk;simp only[tgN,clean,aG,aD,Bool.and_self,if_true,aF,List.set_cons_succ,List.set_cons_zero];refine bB (λρ=>∃a b:Int,0<=a/\ρ=[some (.lst .scr (sc.map D.int)),some (.int k),some (tp a b),x3,x4,x5,x6,x7]) (λQ hQ=>?_) ?_
  .simp_arith[rZ,Px,hnb,hno]
   refine Wp.mono (Q5 (by omega) (by omega) hl) ?_;rintro _ ⟨a,b,rfl,ha⟩;simp_arith[aF];exact hQ _ ⟨a,b,ha,rfl⟩
  rintro _ ⟨a1,b1,s1,rfl⟩;refine bB (λρ=>∃(ns:List Str)(a b:Int),0<ns.length/\ns.length<=15/\(∀x∈ns,sOk x)/\0<=a/\ρ=[some (.lst .scr (sc.map D.int)),some (.int k),some (tp a b),some (.lst .own (ns.map D.str)),x4,x5,x6,x7]) (λQ hQ=>?_) ?_
  .simp_arith[aF]
   refine Wp.mono (Pn s1) ?_;rintro _ ⟨ns,a2,b2,rfl,hnm,hnl,s2⟩;have addL:bQ (.lst .own (ns.map D.str)) (.lst .own [.str "last"])=some (.lst .own ((ns++[("last":Str)]).map D.str)):=by
    have:ns.length+1<=1000000:=by omega
    simp[bQ,this]
   simp_arith[aU,addL,bF,bx,-List.map_append];refine hQ _ ⟨ns++[("last":Str)],_,_,by simp,by simp;omega,λx hx=>VJ ?_,s2,rfl⟩;rcases List.mem_append.mp hx with z|z
   .rcases hnm x z with y|y
    .exact List.mem_cons_of_mem _ (List.mem_cons_of_mem _ y)
    .rw[y];exact List.mem_cons_self
   .rw[List.mem_singleton.mp z];exact List.mem_cons_of_mem _ List.mem_cons_self
  rintro _ ⟨ns,a2,b2,hn0,hn1,hns,s2,rfl⟩;refine bB (λρ=>∃(js:List Jt)(a b:Int),(∀j∈js,j.1∈ns/\j.2.1∈ns)/\js.length<=30/\0<=a/\ρ=[some (.lst .scr (sc.map D.int)),some (.int k),some (tp a b),some (.lst .own (ns.map D.str)),some (.lst .own (js.map jD)),x5,x6,x7]) (λQ hQ=>?_) ?_
  .simp_arith[bM,cX,bx]
   refine Wp.mono (Tp s2) ?_;rintro _ ⟨t,a3,b3,rfl,t0,t1,s3⟩;simp_arith[bM,cX,bx];refine Wp.mono (Ed s3 hn0 (by omega) ⟨t0,t1⟩) ?_;rintro _ ⟨js,a5,b5,rfl,hjs,hjl,s5⟩;simp_arith[gq,gQ,Lg,iJ,iW];exact hQ _ ⟨js,_,_,hjs,by omega,s5,rfl⟩
  rintro _ ⟨js,a6,b6,hjs,hjl,s6,rfl⟩;refine bB (λρ=>∃(N J:D)(a b:Int),NP N ns/\JJ J js/\0<=a/\ρ=[some (.lst .scr (sc.map D.int)),some (.int k),some (tp a b),some N,some J,x5,x6,x7]) (λQ hQ=>?_) ?_
  .have hT1:eG [.lst .frz (ns.map D.str)]=some (.tup (ns.map D.str)):=by simp[eG]
   have hT2:eG [.lst .frz (js.map jD)]=some (.tup (js.map jD)):=by simp[eG]
   simp_arith[bF,bx,bM,cX,d_,iJ,iW,lq,kI,jC,p_,qw,qd,rn,vf,jR,jB,len_strs,g8,eU,pJ,rP,eq_int,jz,aU,bI,hT1,hT2];refine dh s6 (by omega) (by omega) λr7 a7 b7 p7 q7 s7=>?_;have hr:r7=0∨r7=1:=by omega
   rcases hr with rfl|rfl
   .simp_arith[bF,bx,bM,cX,d_,iJ,iW,lq,kI,jC,p_,qw,qd,rn,vf,jR,jB,len_strs,g8,eU,pJ,rP,eq_int,jz,atI,ixN]
    exact hQ _ ⟨_,_,a7,b7,⟨.lst ns,Ax hns (by omega)⟩,.lst js,s7,rfl⟩
   .simp_arith[bF,bx,bM,cX,d_,iJ,iW,lq,kI,jC,p_,qw,qd,rn,vf,jR,jB,len_strs,g8,eU,pJ,rP,eq_int,jz,atI,ixN]
    exact hQ _ ⟨_,_,a7,b7,⟨.tup ns,QQ hns (by omega)⟩,.tup js,s7,rfl⟩
  rintro _ ⟨N,J,a7,b7,⟨hN,hNp⟩,hJ,s7,rfl⟩;simp only[jr,nZ,ao,eC,aC,Option.bind_some,dB,aF,w_ite,if_true];refine iY (LwJ sc (.int k) N J) ⟨a7,b7,x5,x6,x7,s7,rfl⟩ ?_ (λρ ⟨a,b,y5,y6,y7,_,h⟩=>⟨_,_,_,_,y5,y6,y7,h⟩);rintro i d ρ hi ⟨a8,b8,y5,y6,y7,s8,rfl⟩;obtain⟨_,rfl⟩:=o6 hi;simp only[tgN,clean,aG,aD,Bool.and_self,if_true,aF,List.set_cons_succ,List.set_cons_zero];refine bB (λρ=>∃(h g:Str)(a b:Int),h∈ns/\g∈ns/\0<=a/\ρ=[some (.lst .scr (sc.map D.int)),some (.int k),some (tp a b),some N,some J,some (.int i),some (.str h),some (.str g)]) (λQ hQ=>?_) ?_
  .simp_arith[bF,bx,bM,cX,d_,iJ,iW,lq,kI,jC,p_,qw,qd,rn,vf,jR,jB,len_strs,g8,eU,pJ,rP,eq_int,jz,hN.v,hN.l]
   refine dh s8 (by omega) (by omega) λr9 a9 b9 p9 q9 s9=>?_;obtain⟨h,hh,_,hh2⟩:=gw (f:=D.str) (l:=ns) p9 q9;simp_arith[bF,bx,bM,cX,d_,iJ,iW,lq,kI,jC,p_,qw,qd,rn,vf,jR,jB,len_strs,g8,eU,pJ,rP,eq_int,jz,hN.x,hh2,hN.o,hN.v,hN.l];refine dh s9 (by omega) (by omega) λr10 a10 b10 p10 q10 s10=>?_;obtain⟨g,hg,_,hg2⟩:=gw (f:=D.str) (l:=ns) p10 q10;simp_arith[bF,bx,bM,cX,d_,iJ,iW,lq,kI,jC,p_,qw,qd,rn,vf,jR,jB,len_strs,g8,eU,pJ,rP,eq_int,jz,hN.x,hg2,hN.o];exact hQ _ ⟨h,g,_,_,hh,hg,s10,rfl⟩
  rintro _ ⟨h,g,a9,b9,hh,hg,s9,rfl⟩;refine bB (λρ=>∃(a b:Int),0<=a/\ρ=[some (.lst .scr (sc.map D.int)),some (.int k),some (tp a b),some N,some J,some (.int i),some (.str h),some (.str g)]) (λQ hQ=>?_) ?_
  .simp_arith[hN.v,hN.f,hN.b,hN.o,hJ.v,hJ.f,hJ.b,hJ.o]
   refine Wp.mono (DR s9 hJ (by omega)) ?_;rintro _ ⟨a10,b10,rfl,s10⟩;simp_arith[aF];exact hQ _ ⟨_,_,s10,rfl⟩
  rintro _ ⟨a10,b10,s10,rfl⟩;simp_arith[hN.v,hN.f,hN.b,hN.o,hJ.v,hJ.f,hJ.b,hJ.o];refine Wp.mono (wN s10 hN hNp hJ hjs (by omega) hn1 hns hh hg) ?_;rintro _ ⟨a11,b11,rfl,s11⟩;simp_arith[aF];exact⟨_,_,_,_,_,s11,rfl⟩
 rintro _ ⟨x1,x2,x3,x4,x5,x6,x7,rfl⟩;simp_arith[aF]
theorem Bw{G:Gc}{H:Hp}{W:Wn}:∀ns:List Int,aK G H W (ns.map D.int) (ns.map V.int) []
 |[]=>.nil
 |x::r=>aK.cons (M:=[]) (M':=[]) d9 (Bw r)
theorem Rj{K:Frag}{mg:Str->Option Value}{H:Hp}{a:Addr}{ns:List Int}{Q:VK}{E:XK}(hl:ns.length<=63)(hS:SqL K H a (ns.map V.int))(q:∀H',Q (.bl true) H'):spP ⟨K,mg⟩ mq [.ref a] H Q E:=by
 refine⟨[.lst .scr (ns.map D.int)],λ_=>False,?_,?_,?_,λ_ z=>z.elim,.bl true,Kq ns hl,λv H' L s r fr nd c=>?_⟩
 .refine aK.one (M:=[]) ?_
  rw[Rep];refine⟨a,_,[],rfl,Bw ns,?_,rfl,rfl⟩;rcases hS with z|z
  .exact .inl ⟨z,⟨λz=>z,λz=>z,λz=>z⟩⟩
  .exact .inr ⟨_,rfl,z⟩
 .simp[aH,aG,bY (ds:=ns.map D.int) (by simp[aG])]
 .simp[aJ,aD,bU (ds:=ns.map D.int) (by simp[aD])]
 .rw[(j8 r).1];exact q H'
def Lh(K:Frag):Sp:=λvs H Q _=>∃(a:Addr)(ns:List Int),vs=[.ref a]/\SqL K H a (ns.map V.int)/\ns.length<=63/\∀H',Q (.bl true) H'
theorem all_mk{l:PySem.W.OpenLaw}{w:World}{K:Frag}{h:Heap}{mg:Str->Option Value}{fa f1 f2 f3 f4 f5 f6 f7 f8 f9 f10 f11 f12 f13 f14 f15 f16 f17 f18 f19 f20 f21 f22 f23 f24 f25 f26 f27 f28:Addr}(X:K.In h)(G:h.Ns mainGlobals mg)(hfa:mg "law"=some (.ref fa))
  {od1 an1 od2 an2 od3 an3 od4 an4 od5 an5 od6 an6 od7 an7 od8 an8 od9 an9 od10 an10 od11 an11 od12 an12 od13 an13 od14 an14 od15 an15 od16 an16 od17 an17 od18 an18 od19 an19 od20 an20 od21 an21 od22 an22 od23 an23 od24 an24 od25 an25 od26 an26 od27 an27 od28 an28:Option Addr} {sl1 sl2 sl3 sl4 sl5 sl6 sl7 sl8 sl9 sl10 sl11 sl12 sl13 sl14 sl15 sl16 sl17 sl18 sl19 sl20 sl21 sl22 sl23 sl24 sl25 sl26 sl27 sl28:Array (Option Value)} {oc1 kV1 dc1 pm1 cd1 ct1 oc2 kV2 dc2 pm2 cd2 ct2 oc3 kV3 dc3 pm3 cd3 ct3 oc4 kV4 dc4 pm4 cd4 ct4 oc5 kV5 dc5 pm5 cd5 ct5 oc6 kV6 dc6 pm6 cd6 ct6 oc7 kV7 dc7 pm7 cd7 ct7 oc8 kV8 dc8 pm8 cd8 ct8 oc9 kV9 dc9 pm9 cd9 ct9 oc10 kV10 dc10 pm10 cd10 ct10 oc11 kV11 dc11 pm11 cd11 ct11 oc12 kV12 dc12 pm12 cd12 ct12 oc13 kV13 dc13 pm13 cd13 ct13 oc14 kV14 dc14 pm14 cd14 ct14 oc15 kV15 dc15 pm15 cd15 ct15 oc16 kV16 dc16 pm16 cd16 ct16 oc17 kV17 dc17 pm17 cd17 ct17 oc18 kV18 dc18 pm18 cd18 ct18 oc19 kV19 dc19 pm19 cd19 ct19 oc20 kV20 dc20 pm20 cd20 ct20 oc21 kV21 dc21 pm21 cd21 ct21 oc22 kV22 dc22 pm22 cd22 ct22 oc23 kV23 dc23 pm23 cd23 ct23 oc24 kV24 dc24 pm24 cd24 ct24 oc25 kV25 dc25 pm25 cd25 ct25 oc26 kV26 dc26 pm26 cd26 ct26 oc27 kV27 dc27 pm27 cd27 ct27 oc28 kV28 dc28 pm28 cd28 ct28:Value}
  (a1:nsIn K mainGlobals "_law_tape"=some (some (.ref f1))) (l1:K.lookup f1=some ⟨oc1,od1,.func (fnOf "_law_tape" "_law_tape" (bG jj) (bw jj) (aB jj) .none kV1 dc1 pm1 an1 cd1 ct1),sl1⟩) (c1:codeIn K cd1 "_law_tape"=true) (k1:keepIn K (.ref f1)=true)
  (a2:nsIn K mainGlobals "_law_draw"=some (some (.ref f2))) (l2:K.lookup f2=some ⟨oc2,od2,.func (fnOf "_law_draw" "_law_draw" (bG jh) (bw jh) (aB jh) .none kV2 dc2 pm2 an2 cd2 ct2),sl2⟩) (c2:codeIn K cd2 "_law_draw"=true) (k2:keepIn K (.ref f2)=true)
  (a3:nsIn K mainGlobals "_law_joinings"=some (some (.ref f3))) (l3:K.lookup f3=some ⟨oc3,od3,.func (fnOf "_law_joinings" "_law_joinings" (bG dR) (bw dR) (aB dR) .none kV3 dc3 pm3 an3 cd3 ct3),sl3⟩) (c3:codeIn K cd3 "_law_joinings"=true) (k3:keepIn K (.ref f3)=true)
  (a4:nsIn K mainGlobals "_law_names"=some (some (.ref f4))) (l4:K.lookup f4=some ⟨oc4,od4,.func (fnOf "_law_names" "_law_names" (bG gG) (bw gG) (aB gG) .none kV4 dc4 pm4 an4 cd4 ct4),sl4⟩) (c4:codeIn K cd4 "_law_names"=true) (k4:keepIn K (.ref f4)=true)
  (a5:nsIn K mainGlobals "_law_turn"=some (some (.ref f5))) (l5:K.lookup f5=some ⟨oc5,od5,.func (fnOf "_law_turn" "_law_turn" (bG jg) (bw jg) (aB jg) .none kV5 dc5 pm5 an5 cd5 ct5),sl5⟩) (c5:codeIn K cd5 "_law_turn"=true) (k5:keepIn K (.ref f5)=true)
  (a6:nsIn K mainGlobals "_law_way_on"=some (some (.ref f6))) (l6:K.lookup f6=some ⟨oc6,od6,.func (fnOf "_law_way_on" "_law_way_on" (bG eX) (bw eX) (aB eX) .none kV6 dc6 pm6 an6 cd6 ct6),sl6⟩) (c6:codeIn K cd6 "_law_way_on"=true) (k6:keepIn K (.ref f6)=true)
  (a7:nsIn K mainGlobals "_law_met"=some (some (.ref f7))) (l7:K.lookup f7=some ⟨oc7,od7,.func (fnOf "_law_met" "_law_met" (bG jO) (bw jO) (aB jO) .none kV7 dc7 pm7 an7 cd7 ct7),sl7⟩) (c7:codeIn K cd7 "_law_met"=true) (k7:keepIn K (.ref f7)=true)
  (a8:nsIn K mainGlobals "are_unlike"=some (some (.ref f8))) (l8:K.lookup f8=some ⟨oc8,od8,.func (fnOf "are_unlike" "are_unlike" (bG gO) (bw gO) (aB gO) .none kV8 dc8 pm8 an8 cd8 ct8),sl8⟩) (c8:codeIn K cd8 "are_unlike"=true) (k8:keepIn K (.ref f8)=true)
  (a9:nsIn K mainGlobals "is_couple"=some (some (.ref f9))) (l9:K.lookup f9=some ⟨oc9,od9,.func (fnOf "is_couple" "is_couple" (bG iB) (bw iB) (aB iB) .none kV9 dc9 pm9 an9 cd9 ct9),sl9⟩) (c9:codeIn K cd9 "is_couple"=true) (k9:keepIn K (.ref f9)=true)
  (a10:nsIn K mainGlobals "is_number"=some (some (.ref f10))) (l10:K.lookup f10=some ⟨oc10,od10,.func (fnOf "is_number" "is_number" (bG iH) (bw iH) (aB iH) .none kV10 dc10 pm10 an10 cd10 ct10),sl10⟩) (c10:codeIn K cd10 "is_number"=true) (k10:keepIn K (.ref f10)=true)
  (a11:nsIn K mainGlobals "is_pair"=some (some (.ref f11))) (l11:K.lookup f11=some ⟨oc11,od11,.func (fnOf "is_pair" "is_pair" (bG jN) (bw jN) (aB jN) .none kV11 dc11 pm11 an11 cd11 ct11),sl11⟩) (c11:codeIn K cd11 "is_pair"=true) (k11:keepIn K (.ref f11)=true)
  (a12:nsIn K mainGlobals "is_way"=some (some (.ref f12))) (l12:K.lookup f12=some ⟨oc12,od12,.func (fnOf "is_way" "is_way" (bG jT) (bw jT) (aB jT) .none kV12 dc12 pm12 an12 cd12 ct12),sl12⟩) (c12:codeIn K cd12 "is_way"=true) (k12:keepIn K (.ref f12)=true)
  (a13:nsIn K mainGlobals "ends"=some (some (.ref f13))) (l13:K.lookup f13=some ⟨oc13,od13,.func (fnOf "ends" "ends" (bG tB) (bw tB) (aB tB) .none kV13 dc13 pm13 an13 cd13 ct13),sl13⟩) (c13:codeIn K cd13 "ends"=true) (k13:keepIn K (.ref f13)=true)
  (a14:nsIn K mainGlobals "led"=some (some (.ref f14))) (l14:K.lookup f14=some ⟨oc14,od14,.func (fnOf "led" "led" (bG xT) (bw xT) (aB xT) .none kV14 dc14 pm14 an14 cd14 ct14),sl14⟩) (c14:codeIn K cd14 "led"=true) (k14:keepIn K (.ref f14)=true)
  (a15:nsIn K mainGlobals "names_met"=some (some (.ref f15))) (l15:K.lookup f15=some ⟨oc15,od15,.func (fnOf "names_met" "names_met" (bG gK) (bw gK) (aB gK) .none kV15 dc15 pm15 an15 cd15 ct15),sl15⟩) (c15:codeIn K cd15 "names_met"=true) (k15:keepIn K (.ref f15)=true)
  (a16:nsIn K mainGlobals "shows_way"=some (some (.ref f16))) (l16:K.lookup f16=some ⟨oc16,od16,.func (fnOf "shows_way" "shows_way" (bG iD) (bw iD) (aB iD) .none kV16 dc16 pm16 an16 cd16 ct16),sl16⟩) (c16:codeIn K cd16 "shows_way"=true) (k16:keepIn K (.ref f16)=true)
  (a17:nsIn K mainGlobals "_law_is_way"=some (some (.ref f17))) (l17:K.lookup f17=some ⟨oc17,od17,.func (fnOf "_law_is_way" "_law_is_way" (bG gf) (bw gf) (aB gf) .none kV17 dc17 pm17 an17 cd17 ct17),sl17⟩) (c17:codeIn K cd17 "_law_is_way"=true) (k17:keepIn K (.ref f17)=true)
  (a18:nsIn K mainGlobals "_law_says_way"=some (some (.ref f18))) (l18:K.lookup f18=some ⟨oc18,od18,.func (fnOf "_law_says_way" "_law_says_way" (bG fV) (bw fV) (aB fV) .none kV18 dc18 pm18 an18 cd18 ct18),sl18⟩) (c18:codeIn K cd18 "_law_says_way"=true) (k18:keepIn K (.ref f18)=true)
  (a19:nsIn K mainGlobals "_law_odd"=some (some (.ref f19))) (l19:K.lookup f19=some ⟨oc19,od19,.func (fnOf "_law_odd" "_law_odd" (bG jQ) (bw jQ) (aB jQ) .none kV19 dc19 pm19 an19 cd19 ct19),sl19⟩) (c19:codeIn K cd19 "_law_odd"=true) (k19:keepIn K (.ref f19)=true)
  (a20:nsIn K mainGlobals "_law_bent"=some (some (.ref f20))) (l20:K.lookup f20=some ⟨oc20,od20,.func (fnOf "_law_bent" "_law_bent" (bG jm) (bw jm) (aB jm) .none kV20 dc20 pm20 an20 cd20 ct20),sl20⟩) (c20:codeIn K cd20 "_law_bent"=true) (k20:keepIn K (.ref f20)=true)
  (a21:nsIn K mainGlobals "_law_ways_right"=some (some (.ref f21))) (l21:K.lookup f21=some ⟨oc21,od21,.func (fnOf "_law_ways_right" "_law_ways_right" (bG dm) (bw dm) (aB dm) .none kV21 dc21 pm21 an21 cd21 ct21),sl21⟩) (c21:codeIn K cd21 "_law_ways_right"=true) (k21:keepIn K (.ref f21)=true)
  (a22:nsIn K mainGlobals "parts"=some (some (.ref f22))) (l22:K.lookup f22=some ⟨oc22,od22,.func (fnOf "parts" "parts" (bG mH) (bw mH) (aB mH) .none kV22 dc22 pm22 an22 cd22 ct22),sl22⟩) (c22:codeIn K cd22 "parts"=true) (k22:keepIn K (.ref f22)=true)
  (a23:nsIn K mainGlobals "is_listed"=some (some (.ref f23))) (l23:K.lookup f23=some ⟨oc23,od23,.func (fnOf "is_listed" "is_listed" (bG iz) (bw iz) (aB iz) .none kV23 dc23 pm23 an23 cd23 ct23),sl23⟩) (c23:codeIn K cd23 "is_listed"=true) (k23:keepIn K (.ref f23)=true)
  (a24:nsIn K mainGlobals "shows_parted"=some (some (.ref f24))) (l24:K.lookup f24=some ⟨oc24,od24,.func (fnOf "shows_parted" "shows_parted" (bG dX) (bw dX) (aB dX) .none kV24 dc24 pm24 an24 cd24 ct24),sl24⟩) (c24:codeIn K cd24 "shows_parted"=true) (k24:keepIn K (.ref f24)=true)
  (a25:nsIn K mainGlobals "_law_says_parted"=some (some (.ref f25))) (l25:K.lookup f25=some ⟨oc25,od25,.func (fnOf "_law_says_parted" "_law_says_parted" (bG cA) (bw cA) (aB cA) .none kV25 dc25 pm25 an25 cd25 ct25),sl25⟩) (c25:codeIn K cd25 "_law_says_parted"=true) (k25:keepIn K (.ref f25)=true)
  (a26:nsIn K mainGlobals "_law_classes"=some (some (.ref f26))) (l26:K.lookup f26=some ⟨oc26,od26,.func (fnOf "_law_classes" "_law_classes" (bG cH) (bw cH) (aB cH) .none kV26 dc26 pm26 an26 cd26 ct26),sl26⟩) (c26:codeIn K cd26 "_law_classes"=true) (k26:keepIn K (.ref f26)=true)
  (a27:nsIn K mainGlobals "_law_partings_right"=some (some (.ref f27))) (l27:K.lookup f27=some ⟨oc27,od27,.func (fnOf "_law_partings_right" "_law_partings_right" (bG a_) (bw a_) (aB a_) .none kV27 dc27 pm27 an27 cd27 ct27),sl27⟩) (c27:codeIn K cd27 "_law_partings_right"=true) (k27:keepIn K (.ref f27)=true)
  (a28:nsIn K mainGlobals "law"=some (some (.ref f28))) (l28:K.lookup f28=some ⟨oc28,od28,.func (fnOf "law" "law" (bG qO) (bw qO) (aB qO) .none kV28 dc28 pm28 an28 cd28 ct28),sl28⟩) (c28:codeIn K cd28 "law"=true) (k28:keepIn K (.ref f28)=true)
  (z1:nsIn K mainGlobals "abs"=some none)
  (z2:nsIn K mainGlobals "all"=some none)
  (z3:nsIn K mainGlobals "bool"=some none)
  (z4:nsIn K mainGlobals "dict"=some none)
  (z5:nsIn K mainGlobals "enumerate"=some none)
  (z6:nsIn K mainGlobals "int"=some none)
  (z7:nsIn K mainGlobals "isinstance"=some none)
  (z8:nsIn K mainGlobals "len"=some none)
  (z9:nsIn K mainGlobals "list"=some none)
  (z10:nsIn K mainGlobals "min"=some none)
  (z11:nsIn K mainGlobals "range"=some none)
  (z12:nsIn K mainGlobals "set"=some none)
  (z13:nsIn K mainGlobals "sorted"=some none)
  (z14:nsIn K mainGlobals "str"=some none)
  (z15:nsIn K mainGlobals "tuple"=some none) :
  ∃fd:FuncData,(∀(s:Shared)(v:Value),BindsTo s fd ⟨[v],[]⟩ [("_law_script",v)])/\∀base:Heap,K.In base->base.Ns mainGlobals mg->fj l.prog w K mg base CX0 7 fa fd MF (Lh K):=by
 have e:=hfa.symm.trans (mg_of X G a28);cases e;have B:Blt mg:=⟨mg_none_of X G z1,mg_none_of X G z2,mg_none_of X G z3,mg_none_of X G z4,mg_none_of X G z5,mg_none_of X G z6,mg_none_of X G z7,mg_none_of X G z8,mg_none_of X G z9,mg_none_of X G z10,mg_none_of X G z11,mg_none_of X G z12,mg_none_of X G z13,mg_none_of X G z14,mg_none_of X G z15⟩;have F1:=cV (st:=jj) l1 c1 k1;have F2:=cV (st:=jh) l2 c2 k2;have F3:=cV (st:=dR) l3 c3 k3;have F4:=cV (st:=gG) l4 c4 k4;have F5:=cV (st:=jg) l5 c5 k5;have F6:=cV (st:=eX) l6 c6 k6;have F7:=cV (st:=jO) l7 c7 k7;have F8:=cV (st:=gO) l8 c8 k8;have F9:=cV (st:=iB) l9 c9 k9;have F10:=cV (st:=iH) l10 c10 k10;have F11:=cV (st:=jN) l11 c11 k11;have F12:=cV (st:=jT) l12 c12 k12;have F13:=cV (st:=tB) l13 c13 k13;have F14:=cV (st:=xT) l14 c14 k14;have F15:=cV (st:=gK) l15 c15 k15;have F16:=cV (st:=iD) l16 c16 k16;have F17:=cV (st:=gf) l17 c17 k17;have F18:=cV (st:=fV) l18 c18 k18;have F19:=cV (st:=jQ) l19 c19 k19;have F20:=cV (st:=jm) l20 c20 k20;have F21:=cV (st:=dm) l21 c21 k21;have F22:=cV (st:=mH) l22 c22 k22;have F23:=cV (st:=iz) l23 c23 k23;have F24:=cV (st:=dX) l24 c24 k24;have F25:=cV (st:=cA) l25 c25 k25;have F26:=cV (st:=cH) l26 c26 k26;have F27:=cV (st:=a_) l27 c27 k27;have F28:=cV (st:=qO) l28 c28 k28;refine⟨fnOf "law" "law" (bG qO) (bw qO) (aB qO) .none kV28 dc28 pm28 an28 cd28 ct28,λs v=>.of_eq rfl,λbase _ _=>?_⟩;have c_law_tape:uz l.prog w K mg base:=⟨_,_,Az F1 B,mg_of X G a1,k1,F1.binds (ps:=Pq) λ_ _ _ _ _ _ us hl=>match us,hl with|[_,_],_=>rfl⟩;have c_law_draw:dI l.prog w K mg base:=⟨_,_,Bc F2 B,mg_of X G a2,k2,F2.binds (ps:=Oh) λ_ _ _ _ _ _ us hl=>match us,hl with|[_,_],_=>rfl⟩;have c_law_joinings:m8 l.prog w K mg base:=⟨_,_,vm F3 B c_law_draw,mg_of X G a3,k3,F3.binds (ps:=Ow) λ_ _ _ _ _ _ us hl=>match us,hl with|[_,_,_],_=>rfl⟩;have c_law_names:qN l.prog w K mg base:=⟨_,_,zZ F4 B c_law_draw,mg_of X G a4,k4,F4.binds (ps:=nl1) λ_ _ _ _ _ _ us hl=>match us,hl with|[_],_=>rfl⟩;have c_law_turn:uh l.prog w K mg base:=⟨_,_,Af F5 B c_law_draw,mg_of X G a5,k5,F5.binds (ps:=nl1) λ_ _ _ _ _ _ us hl=>match us,hl with|[_],_=>rfl⟩;have c_law_way_on:pN l.prog w K mg base:=⟨_,_,xj F6 B c_law_draw,mg_of X G a6,k6,F6.binds (ps:=N5) λ_ _ _ _ _ _ us hl=>match us,hl with|[_,_,_],_=>rfl⟩;have c_law_met:ql l.prog w K mg base:=⟨_,_,Do F7 B,mg_of X G a7,k7,F7.binds (ps:=Ou) λ_ _ _ _ _ _ us hl=>match us,hl with|[_,_,_],_=>rfl⟩;have c_are_unlike:l_ l.prog w K mg base:=⟨_,_,xu F8 B,mg_of X G a8,k8,F8.binds (ps:=nl7) λ_ _ _ _ _ _ us hl=>match us,hl with|[_],_=>rfl⟩;have c_is_couple:ug l.prog w K mg base:=⟨_,_,zf F9 B,mg_of X G a9,k9,F9.binds (ps:=nl0) λ_ _ _ _ _ _ us hl=>match us,hl with|[_],_=>rfl⟩;have c_is_number:uG l.prog w K mg base:=⟨_,_,yO F10 B,mg_of X G a10,k10,F10.binds (ps:=nl0) λ_ _ _ _ _ _ us hl=>match us,hl with|[_],_=>rfl⟩;have c_is_pair:yc l.prog w K mg base:=⟨_,_,Dj F11 B c_is_couple c_is_number,mg_of X G a11,k11,F11.binds (ps:=nl0) λ_ _ _ _ _ _ us hl=>match us,hl with|[_],_=>rfl⟩;have c_is_way:Cy l.prog w K mg base:=⟨_,_,HH F12 B c_is_pair,mg_of X G a12,k12,F12.binds (ps:=nl0) λ_ _ _ _ _ _ us hl=>match us,hl with|[_],_=>rfl⟩;have c_ends:Dw l.prog w K mg base:=⟨_,_,OJ F13 B,mg_of X G a13,k13,F13.binds (ps:=NZ) λ_ _ _ _ _ _ us hl=>match us,hl with|[_,_],_=>rfl⟩;have c_led:QB l.prog w K mg base:=⟨_,_,Rk F14 B c_ends,mg_of X G a14,k14,F14.binds (ps:=PN) λ_ _ _ _ _ _ us hl=>match us,hl with|[_,_,_],_=>rfl⟩;have c_names_met:ut l.prog w K mg base:=⟨_,_,zp F15 B c_ends,mg_of X G a15,k15,F15.binds (ps:=nl3) λ_ _ _ _ _ _ us hl=>match us,hl with|[_,_],_=>rfl⟩;have c_shows_way:uw l.prog w K mg base:=⟨_,_,zG F16 B c_are_unlike c_is_way c_led c_names_met,mg_of X G a16,k16,F16.binds (ps:=nl8) λ_ _ _ _ _ _ us hl=>match us,hl with|[_,_,_,_],_=>rfl⟩;have c_law_is_way:pW l.prog w K mg base:=⟨_,_,xn F17 B,mg_of X G a17,k17,F17.binds (ps:=Nj) λ_ _ _ _ _ _ us hl=>match us,hl with|[_],_=>rfl⟩;have c_law_says_way:mV l.prog w K mg base:=⟨_,_,uX F18 B c_shows_way c_law_is_way c_law_met,mg_of X G a18,k18,F18.binds (ps:=N_) λ_ _ _ _ _ _ us hl=>match us,hl with|[_,_,_,_],_=>rfl⟩;have c_law_odd:qz l.prog w K mg base:=⟨_,_,Ek F19 B c_law_draw,mg_of X G a19,k19,F19.binds (ps:=nl1) λ_ _ _ _ _ _ us hl=>match us,hl with|[_],_=>rfl⟩;have c_law_bent:oX l.prog w K mg base:=⟨_,_,BJ F20 B c_law_draw,mg_of X G a20,k20,F20.binds (ps:=Mr) λ_ _ _ _ _ _ us hl=>match us,hl with|[_,_,_],_=>rfl⟩;have c_law_ways_right:kZ l.prog w K mg base:=⟨_,_,qI F21 B c_law_way_on c_law_met c_law_says_way c_law_odd c_law_draw c_law_bent,mg_of X G a21,k21,F21.binds (ps:=nl2) λ_ _ _ _ _ _ us hl=>match us,hl with|[_,_,_,_,_],_=>rfl⟩;have c_parts:EY l.prog w K mg base:=⟨_,_,Ml F22 B c_are_unlike,mg_of X G a22,k22,F22.binds (ps:=nl4) λ_ _ _ _ _ _ us hl=>match us,hl with|[_,_,_,_],_=>rfl⟩;have c_is_listed:uA l.prog w K mg base:=⟨_,_,zW F23 B,mg_of X G a23,k23,F23.binds (ps:=nl0) λ_ _ _ _ _ _ us hl=>match us,hl with|[_],_=>rfl⟩;have c_shows_parted:nT l.prog w K mg base:=⟨_,_,u0 F24 B c_parts c_is_listed,mg_of X G a24,k24,F24.binds (ps:=nl5) λ_ _ _ _ _ _ us hl=>match us,hl with|[_,_,_,_,_],_=>rfl⟩;have c_law_says_parted:jV l.prog w K mg base:=⟨_,_,qi F25 B c_shows_parted,mg_of X G a25,k25,F25.binds (ps:=NB) λ_ _ _ _ _ _ us hl=>match us,hl with|[_,_,_,_,_],_=>rfl⟩;have c_law_classes:oU l.prog w K mg base:=⟨_,_,wD F26 B,mg_of X G a26,k26,F26.binds (ps:=Mt) λ_ _ _ _ _ _ us hl=>match us,hl with|[_,_],_=>rfl⟩;have c_law_partings_right:jd l.prog w K mg base:=⟨_,_,nq F27 B c_law_draw c_law_bent c_law_odd c_law_says_parted c_law_classes,mg_of X G a27,k27,F27.binds (ps:=nl2) λ_ _ _ _ _ _ us hl=>match us,hl with|[_,_,_,_,_],_=>rfl⟩;exact fj.imp (R4 F28 B c_law_tape c_law_joinings c_law_names c_law_turn c_law_draw c_law_ways_right c_law_partings_right) λvs H Q E ⟨a,ns,e,hS,hl,q⟩=>by subst e;exact Rj hl hS q
theorem walk{l:PySem.W.OpenLaw}{q:Program}{loose:List Str}{XP:(Str->Option Value)->Heap->Prop}{YP:World->Heap->Prop}{d:DefRec}{K:Params->Frag}(hn:l.most=some 63)(hdf:d.params.defaults=[])
  (hY:∀(w:World)(h:Heap),YP w h->(K w.params).In h)
  (F:∀(w:World)(mg:Str->Option Value)(fa:Addr)(h:Heap),(K w.params).In h->h.Ns mainGlobals mg->mg d.name=some (.ref fa)->
   ∃fd:FuncData,(∀(s:Shared)(u:Value),BindsTo s fd ⟨[u],[]⟩ [("_law_script",u)])/\∀base:Heap,(K w.params).In base->base.Ns mainGlobals mg->fj l.prog w (K w.params) mg base CX0 7 fa fd MF (Lh (K w.params))) :
  PySem.W.WalkO q loose XP YP l.row.toRowW d [] (λf vs=>PySem.call f vs):=
 L2.walk_of (n:=63) (k:=7) (x:="_law_script") (CX:=λ_=>CX0) (sp:=λw=>Lh (K w.params)) hn (by decide) hdf ⟨rfl,by decide,by decide,rfl⟩ hY F (λ_ _ a ns hl _ hS=>⟨a,ns,rfl,hS,hl,λ_=>rfl⟩) λ_ _ _ _ _ z=>z
end Jb
namespace PySem.W.Fast
def tw7524873107339807527:=0
def tw3380989755971675545:=0
def tw18215561936488731542:=0
def tw10108681712417999026:=0
def tw4977904614019891274:=0
def tw17573904705457067840:=0
def tw17936418490289729388:=0
def tw7769602234312049302:=0
def tw2502443485255627792:=0
def tw1768724295497959330:=0
def tw10522934005884550977:=0
def tw15766008221997296648:=0
def tw4770243310875462868:=0
def tw12674915254831536709:=0
def tw16201668686510372801:=0
def tw103350999462032436:=0
def tw460386882451741821:=0
def tw1184438134308487505:=0
def tw11927146062317026610:=0
def tw16424170829127474190:=0
def tw169319901318999911:=0
def tw15080622785988073832:=0
def tw15126472858388203068:=0
def tw1778852147100423957:=0
def tw10925764850793448055:=0
def tw2258405865342377906:=0
def tw166646704779611780:=0
def tw17348185820961250023:=0
def tw6124596940455328735:=0
def tw12711199556006425023:=0
def tw3108540362165248978:=0
def tw12212133128652059707:=0
def tw7634403793780169867:=0
def tw16815860241261807952:=0
def tw7482045847403747106:=0
def tw2935100122050628721:=0
def tw13288151224606381071:=0
def tw1581822544533403042:=0
def tw10717189249072449210:=0
def tw12451232916903808988:=0
def tw6431913163234428083:=0
def tw13389976250132806761:=0
def tw3141896728529129588:=0
def tw8914241471898262472:=0
def tw17622678006645875758:=0
def tw14740310453343490662:=0
def tw17220831165430634213:=0
def tw8889331052026544573:=0
def tw13774606986816869853:=0
def tw17893231422851296065:=0
def tw2322437272407684615:=0
def tw12093734615445362507:=0
def tw17837721953358284049:=0
def tw1247047190426345518:=0
def tw9708608185373200886:=0
def tw12701269536013754997:=0
def tw18073477628566340929:=0
def tw14063291715779483757:=0
def tw10538837628729030602:=0
def tw4167501831394432164:=0
def tw16255625376279205219:=0
def tw12395673506773694864:=0
def tw15207705592268424644:=0
def tw5260339600462446798:=0
def tw12158729156016555463:=0
def tw6560594173049961052:=0
def tw11982002418221785889:=0
def tw16302202215373336785:=0
def tw6838978076533969954:=0
def tw7503409516978950436:=0
def tw16871407070120158754:=0
def tw12612462458291112529:=0
def tw6998847190170385691:=0
def tw12844829763730170009:=0
def tw4709821791603958952:=0
def tw15543185281563683385:=0
def tw16245186985179996062:=0
def tw9505435323382193353:=0
def tw15969316695778154319:=0
def tw13337096140863051178:=0
def tw309797768412652703:=0
def tw2649917194151280336:=0
def tw15216235857868421838:=0
def tw6933898313547479222:=0
def tw12492235720311091689:=0
def tw16750056517114131779:=0
def tw1004413991072051913:=0
def tw3243609695069301925:=0
def tw16290585644499444780:=0
def tw15653616215407991778:=0
def tw9158998528052462627:=0
def tw965518538713195817:=0
def tw6879901462957758087:=0
def tw1407585561286577445:=0
def tw12458491580943966008:=0
def tw7711417771714338125:=0
def tw16189150710245637078:=0
def tw7910364459663787922:=0
def tw6903016037051949076:=0
def tw1356778714951943875:=0
def tw10863141992291767156:=0
def tw4682845453966212806:=0
def tw4591536905667083775:=0
def tw2764124903121867516:=0
def tw17380687786216864501:=0
def tw17692583691407031752:=0
def tw7805000958062443337:=0
def tw5676673993566514754:=0
def tw5064873932641618568:=0
def tw17849172064844157134:=0
def tw15846104189400454212:=0
def tw10189884420400417978:=0
def tw12272941075964866239:=0
def tw2595800034830653999:=0
def tw11408185329363124187:=0
def tw8311644342546275930:=0
def tw8136713122454457428:=0
def tw5155386870437578728:=0
def tw18177230435263642433:=0
def tw14279883466037169194:=0
def tw12737295574468972169:=0
def tw10285977308819916222:=0
def tw10275679008840778538:=0
def tw17183877878547979768:=0
def tw1331414413409654497:=0
def tw4990338455547964828:=0
def tw13327005009778341817:=0
def tw1571138021159545663:=0
def tw3005487982229982876:=0
def tw7385572345015439367:=0
def tw17092112087602216290:=0
def tw420119688200889619:=0
def tw5936789908242266816:=0
def tw940221584336093143:=0
def tw10971619207266671965:=0
def tw5626749242307158737:=0
def tw16607886613893914328:=0
def tw10755700018987875214:=0
def tw1638078426803486948:=0
def tw18442492013775226035:=0
def tw16581742457258959556:=0
def tw10162852048013679598:=0
def tw12565775653105680374:=0
def tw5466915429730437164:=0
def tw13125565812136894741:=0
def tw16765652763004249010:=0
def tw13646035625985551232:=0
def tw17251911470968589368:=0
def tw13397051259140538340:=0
def tw8031616592674682218:=0
def tw7137104522460284130:=0
def tw14431049145244591092:=0
def tw12052195723948217374:=0
def tw6715198776069018197:=0
def tw8129822417870016605:=0
def tw14782995798391216127:=0
def tw17119670778985557342:=0
def tw8063640496407061188:=0
def tw15266170753045326467:=0
def tw7368996111958940893:=0
def tw7822771337650461554:=0
def tw3505101690518393323:=0
def tw7458786521660135491:=0
def tw2458272817836990973:=0
def tw10780341195202854074:=0
def tw18334375161656149303:=0
def tw8263180596707018623:=0
def tw13398632878285837527:=0
end PySem.W.Fast
open PySem PySem.W PyProof.Rows
set_option maxRecDepth 100000 in
set_option maxHeartbeats 0 in
theorem PySem.Challenge.cw_joinback_k09_ways_and_partings_shown_holds : PySem.Challenge.rw_joinback_k09_ways_and_partings_shown.Holds := by
 w_on;o_law;k_head;(case hw=>w_witness2)
 k_fill
 refine Jb.walk (l:=PySem.Challenge.rw_joinback_k09_ways_and_partings_shown) rfl rfl (λw h Y=>PySem.W.kIn_of Y) ?F
 case F=>
  intro w mg fa h KX G hmg;refine' Jb.all_mk KX G hmg ?_ ?_ ?_ ?_ ?_ ?_ ?_ ?_ ?_ ?_ ?_ ?_ ?_ ?_ ?_ ?_ ?_ ?_ ?_ ?_ ?_ ?_ ?_ ?_ ?_ ?_ ?_ ?_ ?_ ?_ ?_ ?_ ?_ ?_ ?_ ?_ ?_ ?_ ?_ ?_ ?_ ?_ ?_ ?_ ?_ ?_ ?_ ?_ ?_ ?_ ?_ ?_ ?_ ?_ ?_ ?_ ?_ ?_ ?_ ?_ ?_ ?_ ?_ ?_ ?_ ?_ ?_ ?_ ?_ ?_ ?_ ?_ ?_ ?_ ?_ ?_ ?_ ?_ ?_ ?_ ?_ ?_ ?_ ?_ ?_ ?_ ?_ ?_ ?_ ?_ ?_ ?_ ?_ ?_ ?_ ?_ ?_ ?_ ?_ ?_ ?_ ?_ ?_ ?_ ?_ ?_ ?_ ?_ ?_ ?_ ?_ ?_ ?_ ?_ ?_ ?_ ?_ ?_ ?_ ?_ ?_ ?_ ?_ ?_ ?_ ?_ ?_
  any_goals k_is
