import PyProof.Rows.All
import Wide.All
import OpenK.AllK
import Wide.FinOn
import Lean
import PyProof.EqAt
import PyProof.EqKinds
import PyProof.TupleCall
import PyProof.NeKinds
import PyProof.TupleIter
import PySem.Challenge.RW_joinback_k08_rings_shown
set_option Elab.async false
set_option linter.all false
set_option maxRecDepth 100000
namespace L2
open PySem PySem.Spec PyProof.Rows
abbrev Key:=Sum Int Str
def vM:Key->Value->Bool
 | .inl k,v=>Value.isInt k v
 | .inr x,v=>Value.isStrOf x v
def Qu (w:World):Key->Int
 | .inl k=>hashInt k
 | .inr x=>hashStr w x
theorem ir:∀ {k:Key} {v:Value},vM k v=true->(∃ i t,k=Sum.inl i/\v=Value.int i t)∨(∃ x t,k=Sum.inr x/\v=Value.str x t)
 | .inl i,v,h=>by
  obtain ⟨t,e⟩:=Value.isInt_shape (k:=i) (v:=v) h
  exact .inl ⟨i,t,rfl,e⟩
 | .inr x,v,h=>by
  obtain ⟨t,e⟩:=Value.isStrOf_shape (x:=x) (v:=v) h
  exact .inr ⟨x,t,rfl,e⟩
theorem Dm (i:Int) (t:Tok):vM (.inl i) (.int i t)=true:=by simp [vM,Value.isInt]
theorem Eg (x:Str) (t:Tok):vM (.inr x) (.str x t)=true:=by simp [vM,Value.isStrOf]
theorem Lf (a b:Int):decide ((Sum.inl a:Key)=Sum.inl b)=(a == b):=by
 by_cases e:a=b
 .subst e; simp
 .have h:¬ (Sum.inl a:Key)=Sum.inl b:=fun q=>e (Sum.inl.inj q)
  rw [decide_eq_false h]
  exact (beq_eq_false_iff_ne.mpr e).symm
theorem Ny (a b:Str):decide ((Sum.inr a:Key)=Sum.inr b)=decide (a=b):=by
 by_cases e:a=b
 .subst e; simp
 .have h:¬ (Sum.inr a:Key)=Sum.inr b:=fun q=>e (Sum.inr.inj q)
  rw [decide_eq_false h,decide_eq_false e]
theorem Ng (a:Int) (b:Str):decide ((Sum.inl a:Key)=Sum.inr b)=false:=decide_eq_false (fun q=>nomatch q)
theorem Nt (a:Str) (b:Int):decide ((Sum.inr a:Key)=Sum.inl b)=false:=decide_eq_false (fun q=>nomatch q)
def cU (prog:Program) (w:World):PySem.KeyKind prog w Key where
 is:=vM
 hash:=Qu w
 inj:=fun v a b ha hb=>by
  rcases ir ha with ⟨i,t,rfl,rfl⟩ | ⟨x,t,rfl,rfl⟩
  .rcases ir hb with ⟨j,u,rfl,e⟩ | ⟨y,u,rfl,e⟩
   .injection e with e1 _; rw [e1]
   .exact nomatch e
  .rcases ir hb with ⟨j,u,rfl,e⟩ | ⟨y,u,rfl,e⟩
   .exact nomatch e
   .injection e with e1 _; rw [e1]
 byValue:=fun k v h=>by
  rcases ir h with ⟨i,t,rfl,rfl⟩ | ⟨x,t,rfl,rfl⟩ <;> rfl
 pyHash:=fun hv h=>by
  rcases ir hv with ⟨i,t,rfl,rfl⟩ | ⟨x,t,rfl,rfl⟩
  .exact wpAny_pyHash_int h
  .exact wpAny_pyHash_str h
 eqBool:=fun hu hv h=>by
  rcases ir hu with ⟨i,t,rfl,rfl⟩ | ⟨x,t,rfl,rfl⟩
  .rcases ir hv with ⟨j,u,rfl,rfl⟩ | ⟨y,u,rfl,rfl⟩
   .rw [Lf] at h; exact wpAny_eqBool_int h
   .rw [Ng] at h; exact SeqAt.EqAt.int_str i t y u _ _ _ _ h
  .rcases ir hv with ⟨j,u,rfl,rfl⟩ | ⟨y,u,rfl,rfl⟩
   .rw [Nt] at h; exact SeqAt.EqAt.str_int x t j u _ _ _ _ h
   .rw [Ny] at h; exact wpAny_eqBool_str h
 «strs»:=fun k x t v h=>by
  rcases ir h with ⟨i,u,rfl,e⟩ | ⟨y,u,rfl,e⟩
  .exact nomatch e
  .injection e with e1 _
   subst e1
   cases v <;> rfl
theorem xX (prog:Program) (w:World) (i:Int) (t:Tok):(cU prog w).is (.inl i) (.int i t)=true:=Dm i t
theorem yz (prog:Program) (w:World) (x:Str) (t:Tok):(cU prog w).is (.inr x) (.str x t)=true:=Eg x t
inductive V where
 | non | bl (b:Bool) | int (i:Int) | str (x:Str) | byt (b:Array UInt8) | flt (b:UInt64) | ref (a:Addr) | ty (n:String)
 deriving DecidableEq
def RelV:V->Value->Prop
 | .non,u=>u=Value.none
 | .bl b,u=>u=Value.bool b
 | .int i,u=>∃ t,u=Value.int i t
 | .str x,u=>∃ t,u=Value.str x t
 | .byt b,u=>∃ t,u=Value.bytes b t
 | .flt b,u=>∃ t,u=Value.float b t
 | .ref a,u=>u=Value.ref a
 | .ty n,u=>u=Value.type n
abbrev Vals:List V->List Value->Prop:=Paired RelV
theorem Vals.length {xs:List V} {us:List Value} (r:Vals xs us):xs.length=us.length:=Paired.length r
theorem Vals.get:∀ {xs:List V} {us:List Value} {i:Nat} {x:V},Vals xs us->xs[i]? = some x->∃ u,us[i]? = some u/\RelV x u
 | _,_,_,_,.nil,e=>by simp at e
 | _,_,0,_,.cons r _,e=>by simp at e; subst e; exact ⟨_,rfl,r⟩
 | _,_,i + 1,x,.cons _ t,e=>by
  obtain ⟨u,h1,h2⟩:=Vals.get (i:=i) (x:=x) t (by simpa using e)
  exact ⟨u,by simpa using h1,h2⟩
theorem Vals.set {x:V} {u:Value} (r:RelV x u):∀ {xs:List V} {us:List Value} (i:Nat),Vals xs us->Vals (xs.set i x) (us.set i u)
 | _,_,_,.nil=>.nil
 | _,_,0,.cons _ t=>.cons r t
 | _,_,i + 1,.cons q t=>.cons q (Vals.set r i t)
theorem Vals.append:∀ {xs ys:List V} {us ws:List Value},Vals xs us->Vals ys ws->Vals (xs++ys) (us++ws)
 | _,_,_,_,.nil,s=>s
 | _,_,_,_,.cons r t,s=>.cons r (Vals.append t s)
theorem Vals.take:∀ {xs:List V} {us:List Value} (n:Nat),Vals xs us->Vals (xs.take n) (us.take n)
 | _,_,0,_=>.nil
 | _,_,_ + 1,.nil=>.nil
 | _,_,n + 1,.cons r t=>.cons r (Vals.take n t)
theorem Vals.drop:∀ {xs:List V} {us:List Value} (n:Nat),Vals xs us->Vals (xs.drop n) (us.drop n)
 | _,_,0,r=>r
 | _,_,_ + 1,.nil=>.nil
 | _,_,n + 1,.cons _ t=>Vals.drop n t
def rz:Option V->Option Value->Prop
 | some v,some u=>RelV v u
 | none,none=>True
 | _,_=>False
def KV {κ:Type}:List (κ×V)->List (κ×Value)->Prop:=Paired fun (p:κ×V) (q:κ×Value)=>p.1=q.1/\RelV p.2 q.2
def kV:Key->V
 | .inl i=>.int i
 | .inr x=>.str x
inductive HO where
 | lst (xs:List V)
 | tup (xs:List V)
 | dK (kvs:List (Key×V)) | dT (kvs:List (List Key×V))
 | set (S:Int->Bool) (n:Nat)
 | ins (C dx:Addr) (fs:List (Str×V))
 | own (x:Addr)
 | xd (fs:List (Str×V))
 | met (f x:Addr)
 | rng (lo hi:Int)
 | frz (o:Obj) (u:HO)
 | tbl (ps:Array Value)
 | ext (φ:Heap->Prop)
abbrev Hp:=Addr->Option HO
def upd (H:Hp) (a:Addr) (o:HO):Hp:=fun b=>if b=a then some o else H b
theorem dg {H:Hp} {a:Addr} {o:HO}:upd H a o a=some o:=by unfold upd; rw [if_pos rfl]
theorem bh {H:Hp} {a b:Addr} {o:HO} (h:b≠a):upd H a o b=H b:=by unfold upd; rw [if_neg h]
theorem CP {H:Hp} {a:Addr} {o u:HO}:upd (upd H a o) a u=upd H a u:=by
 funext b; unfold upd; split <;> rfl
theorem Bc {H:Hp} {a b:Addr} {o u:HO} (h:H a=some o) (h':H b=some u) (d:o≠u):a≠b:=by
 intro e; subst e; rw [h] at h'; exact d (Option.some.inj h')
theorem bN {H:Hp} {a b:Addr} {o:HO} (h:H a=some o) (h':H b=none):a≠b:=by
 intro e; subst e; rw [h] at h'; cases h'
section
variable (P:Program) (w:World)
def fu (H:Hp) (h:Heap) (a:Addr):HO->Prop
 | .lst xs=>xs.length<=sizeLine/\∃ (its:List Value) (n:Nat),Vals xs its/\h.get? a=some { cls:=.type "list",data:=.seq its.toArray n }
 | .tup xs=>xs.length<=sizeLine/\∃ its:List Value,Vals xs its/\IsTup h a its.toArray
 | .dK kvs=>kvs.length<=sizeLine/\(a == sysModules)=false/\∃ vs,KV kvs vs/\h.DictOf (cU P w) a vs
 | .dT kvs=>kvs.length<=sizeLine/\(a == sysModules)=false/\∃ xs:List (List Key×Addr×Value),
   Paired (fun (p:List Key×V) (q:List Key×Addr×Value)=>p.1=q.1/\H q.2.1=some (.tup (p.1.map kV))/\RelV p.2 q.2.2) kvs xs/\
   ∃ o es ep,h.get? a=some o/\o.ExactDict/\o.data = .dict es ep/\es.toList=xs.map (entryOfKey (tupleKind (cU P w)))/\(xs.map (·.1)).Nodup
 | .set S n=>h.SetOf (intKind P w) a S n
 | .ins C dx fs=>H dx=some (.own a)/\fs.length<=1000/\dx≠a/\h.get? a=some (PySem.W.instObj C dx)/\
   ∃ mA,h.Ns1 dx mA/\(∀ f,rz (fs.lookup f) (mA f))/\PySem.Within mA (fs.map (·.1))
 | .own _=>∃ o,h.get? a=some o
 | .xd fs=>∃ mA,h.Ns1 a mA/\∀ f,rz (fs.lookup f) (mA f)
 | .rng lo hi=>∃ t u v,h.get? a=some { cls:=.type "range",data:=.fields #[.int lo t,.int hi u,.int 1 v] }
 | .frz o u=>h.get? a=some o/\fu H h a u
 | .tbl ps=>h.get? a=some { cls:=.none,data:=.fields ps }
 | .met f x=>h.get? a=some (PySem.W.methodObj (.ref f) (.ref x))
 | .ext φ=>φ h/\(∃ o,h.get? a=some o)/\∀ h1 h2:Heap,φ h1->(∀ o,h1.get? a=some o->h2.get? a=some o)->φ h2
def HOk (H:Hp) (h:Heap):Prop:=∀ a o,H a=some o->fu P w H h a o
end
section
variable {P:Program} {w:World} {H H':Hp} {h h':Heap} {a:Addr} {o:HO}
theorem fu.lt (x:fu P w H h a o):a < h.objs.size:=by
 cases o with
 | lst xs=>obtain ⟨_,_,_,_,e⟩:=x; exact Heap.lt_size e
 | tup xs=>obtain ⟨_,_,_,p⟩:=x; exact p.lt
 | dK kvs=>obtain ⟨_,_,_,_,o,_,_,e,_⟩:=x; exact Heap.lt_size e
 | dT kvs=>obtain ⟨_,_,_,_,o,_,_,e,_⟩:=x; exact Heap.lt_size e
 | set S n=>obtain ⟨o,_,_,_,e,_⟩:=x; exact Heap.lt_size e
 | ins C dx fs=>obtain ⟨_,_,_,e,_⟩:=x; exact Heap.lt_size e
 | own y=>obtain ⟨_,e⟩:=x; exact Heap.lt_size e
 | xd fs=>obtain ⟨_,⟨_,_,_,e,_⟩,_⟩:=x; exact Heap.lt_size e
 | rng lo hi=>obtain ⟨_,_,_,e⟩:=x; exact Heap.lt_size e
 | frz ob u=>obtain ⟨e,_⟩:=x; exact Heap.lt_size e
 | tbl ps=>exact Heap.lt_size (show h.get? a=some _ from x)
 | met f y=>exact Heap.lt_size (show h.get? a=some _ from x)
 | ext φ=>obtain ⟨_,⟨_,e⟩,_⟩:=x; exact Heap.lt_size e
theorem Paired.mapP {α β:Type} {F G:α->β->Prop}:∀ {l₁:List α} {l₂:List β},Paired F l₁ l₂->(∀ a b,F a b->G a b)->Paired G l₁ l₂
 | _,_,.nil,_=>.nil
 | _,_,.cons r t,f=>.cons (f _ _ r) (Paired.mapP t f)
theorem fu.stay (x:fu P w H h a o) (k:∀ b u,(b=a∨H b=some (.own a))->h.get? b=some u->h'.get? b=some u)
  (ho:∀ b,H b=some (.own a)->H' b=some (.own a)) (ht:∀ b xs,H b=some (.tup xs)->H' b=some (.tup xs)):fu P w H' h' a o:=by
 induction o with
 | lst xs=>obtain ⟨z,its,n,r,e⟩:=x; exact ⟨z,its,n,r,k _ _ (.inl rfl) e⟩
 | tup xs=>obtain ⟨z,its,r,ob,e,c⟩:=x; exact ⟨z,its,r,ob,k _ _ (.inl rfl) e,c⟩
 | dK kvs=>obtain ⟨z,y,vs,r,ob,es,ep,e,c⟩:=x; exact ⟨z,y,vs,r,ob,es,ep,k _ _ (.inl rfl) e,c⟩
 | dT kvs=>
  obtain ⟨z,y,xs,r,ob,es,ep,e,c⟩:=x
  exact ⟨z,y,xs,Paired.mapP r fun p q z=>⟨z.1,ht _ _ z.2.1,z.2.2⟩,ob,es,ep,k _ _ (.inl rfl) e,c⟩
 | set S n=>obtain ⟨ob,es,ep,t,e,c⟩:=x; exact ⟨ob,es,ep,t,k _ _ (.inl rfl) e,c⟩
 | ins C dx fs=>
  obtain ⟨d,z,ne,e,mA,⟨od,es,ep,e2,c⟩,r⟩:=x
  exact ⟨ho _ d,z,ne,k _ _ (.inl rfl) e,mA,⟨od,es,ep,k _ _ (.inr d) e2,c⟩,r⟩
 | own y=>obtain ⟨ob,e⟩:=x; exact ⟨ob,k _ _ (.inl rfl) e⟩
 | xd fs=>obtain ⟨mA,⟨od,es,ep,e,c⟩,r⟩:=x; exact ⟨mA,⟨od,es,ep,k _ _ (.inl rfl) e,c⟩,r⟩
 | rng lo hi=>obtain ⟨t,u,v,e⟩:=x; exact ⟨t,u,v,k _ _ (.inl rfl) e⟩
 | frz ob u ih=>obtain ⟨e,q⟩:=x; exact ⟨k _ _ (.inl rfl) e,ih q⟩
 | tbl ps=>
  have e:h.get? a=some { cls:=.none,data:=.fields ps }:=x
  show h'.get? a=some { cls:=.none,data:=.fields ps }
  exact k a _ (.inl rfl) e
 | met f y=>
  have e:h.get? a=some (PySem.W.methodObj (.ref f) (.ref y)):=x
  show h'.get? a=some (PySem.W.methodObj (.ref f) (.ref y))
  exact k a _ (.inl rfl) e
 | ext φ=>obtain ⟨p,⟨o,e⟩,st⟩:=x; exact ⟨st _ _ p fun o q=>k _ _ (.inl rfl) q,⟨o,k _ _ (.inl rfl) e⟩,st⟩
theorem HOk.lt (x:HOk P w H h) (e:H a=some o):a < h.objs.size:=(x a o e).lt
theorem HOk.fresh (x:HOk P w H h) (e:h.objs.size<=a):H a=none:=by
 cases q:H a with
 | none=>rfl
 | some u=>exact absurd (Nat.lt_of_lt_of_le (x.lt q) e) (Nat.lt_irrefl _)
theorem HOk.kept (x:HOk P w H h) (k:∀ b u,h.get? b=some u->h'.get? b=some u):HOk P w H h':=fun a o e=>
 (x a o e).stay (fun b u _ q=>k b u q) (fun _ q=>q) fun _ _ q=>q
theorem HOk.laid (x:HOk P w H h) (k:∀ b u,h.get? b=some u->h'.get? b=some u) (hp:h.objs.size<=a) (new:fu P w (upd H a o) h' a o):HOk P w (upd H a o) h':=fun b u e=>by
 have hn:=x.fresh hp
 by_cases hb:b=a
 .subst hb; rw [dg] at e; cases e; exact new
 .rw [bh hb] at e
  exact (x b u e).stay (fun c v _ q=>k c v q) (fun c q=>by rw [bh (bN q hn)]; exact q) fun c xs q=>by rw [bh (bN q hn)]; exact q
end
def Rd (H:Hp) (a:Addr) (u:HO):Prop:=H a=some u∨∃ o,H a=some (.frz o u)
theorem Rd.ok {P:Program} {w:World} {H:Hp} {h:Heap} {a:Addr} {u:HO} (r:Rd H a u) (x:HOk P w H h):fu P w H h a u:=by
 rcases r with r | ⟨o,r⟩
 .exact x a u r
 .obtain ⟨_,q⟩:=x a _ r
  exact q
def Mut:Option HO->Prop
 | some (.lst _)=>True
 | some (.dK _)=>True
 | some (.dT _)=>True
 | some (.set _ _)=>True
 | some (.ins _ _ _)=>True
 | some (.ext _)=>True
 | _=>False
section
variable {P:Program} {w:World} {H:Hp} {h h':Heap} {x e:Addr} {o':HO}
theorem HOk.write (ok:HOk P w H h) (mu:Mut (H x)) (he:e=x∨H e=some (.own x)) (k:∀ b u,b≠e->h.get? b=some u->h'.get? b=some u) (heo:∃ u,h'.get? e=some u)
  (new:fu P w (upd H x o') h' x o'):HOk P w (upd H x o') h':=fun b u q=>by
 have nown:∀ c y,H c=some (.own y)->c≠x:=fun c y r z=>by subst z; rw [r] at mu; exact mu
 have ntup:∀ c xs,H c=some (.tup xs)->c≠x:=fun c xs r z=>by subst z; rw [r] at mu; exact mu
 by_cases hb:b=x
 .subst hb; rw [dg] at q; cases q; exact new
 .rw [bh hb] at q
  by_cases hbe:b=e
  .have q':H b=some (.own x):=by
    rcases he with z | z
    .exact absurd (hbe.trans z) hb
    .rw [hbe]; exact z
   rw [q] at q'; cases q'
   obtain ⟨v,hv⟩:=heo
   exact ⟨v,by rw [hbe]; exact hv⟩
  .refine (ok b u q).stay (fun c v hc r=>k c v ?_ r) (fun c r=>by rw [bh (nown c b r)]; exact r) fun c xs r=>by rw [bh (ntup c xs r)]; exact r
   rcases hc with rfl | hc
   .exact hbe
   .rintro rfl
    rcases he with z | z
    .exact nown c b hc z
    .rw [hc] at z; cases z; exact hb rfl
end
structure Un (fs ex:List Addr) (H H':Hp) (h h':Heap):Prop where
 keep:∀ b o,h.get? b=some o->H b=none->b∉fs->b∉ex->h'.get? b=some o
 slot:∀ b o,h.get? b=some o->H b=none->b∈fs->b∉ex->∃ sl,h'.get? b=some { o with slots:=sl }
 free:∀ b o,h.get? b=some o->H b=none->b∉ex->H' b=none
 there:∀ b o,h.get? b=some o->b∉ex->∃ o',h'.get? b=some o'
 tups:∀ b xs,H b=some (.tup xs)->H' b=some (.tup xs)
 frzs:∀ b o u,H b=some (.frz o u)->H' b=some (.frz o u)
 tbls:∀ b ps,H b=some (.tbl ps)->∃ more,H' b=some (.tbl (ps++more))
section
variable {fs fs' ex ex':List Addr} {H H1 H2:Hp} {h h1 h2 h':Heap} {a x e:Addr} {o:HO}
theorem Un.any (u:Un fs ex H H1 h h1) {b:Addr} {ob:Obj} (q:h.get? b=some ob) (n:H b=none) (hx:b∉ex):∃ sl,h1.get? b=some { ob with slots:=sl }:=by
 by_cases hb:b∈fs
 .exact u.slot b ob q n hb hx
 .exact ⟨ob.slots,u.keep b ob q n hb hx⟩
theorem Un.kept (k:∀ b u,h.get? b=some u->h'.get? b=some u):Un fs ex H H h h':=
 ⟨fun b ob q _ _ _=>k b ob q,fun b ob q _ _ _=>⟨ob.slots,k b ob q⟩,fun _ _ _ n _=>n,fun b ob q _=>⟨ob,k b ob q⟩,fun _ _ q=>q,fun _ _ _ q=>q,fun _ ps q=>⟨#[],by rw [q]; simp⟩⟩
theorem Un.refl:Un fs ex H H h h:=Un.kept fun _ _ q=>q
theorem Un.laid (k:∀ b u,h.get? b=some u->h'.get? b=some u) (hp:h.objs.size<=a) (hn:H a=none):Un fs ex H (upd H a o) h h' where
 keep:=fun b u q _ _ _=>k b u q
 slot:=fun b u q _ _ _=>⟨u.slots,k b u q⟩
 free:=fun b u q n _=>by rw [bh (Nat.ne_of_lt (Nat.lt_of_lt_of_le (Heap.lt_size q) hp))]; exact n
 there:=fun b u q _=>⟨u,k b u q⟩
 tups:=fun b xs q=>by rw [bh (bN q hn)]; exact q
 frzs:=fun b u xs q=>by rw [bh (bN q hn)]; exact q
 tbls:=fun b ps q=>⟨#[],by rw [bh (bN q hn),q]; simp⟩
theorem Un.write (mu:Mut (H x)) (he:e=x∨H e=some (.own x)) (k:∀ b u,b≠e->h.get? b=some u->h'.get? b=some u) (heo:∃ u,h'.get? e=some u):Un fs ex H (upd H x o) h h':=by
 have hx:∀ b,H b=none->b≠x:=fun b n z=>by subst z; rw [n] at mu; exact mu
 have hb:∀ b,H b=none->b≠e:=fun b n z=>by
  subst z
  rcases he with r | r
  .exact hx b n r
  .rw [n] at r; cases r
 have hm:∀ b u,H b=some u->¬ Mut (some u)->b≠x:=fun b u q nm z=>by subst z; rw [q] at mu; exact nm mu
 refine ⟨fun b u q n _ _=>k b u (hb b n) q,fun b u q n _ _=>⟨u.slots,k b u (hb b n) q⟩,fun b u q n _=>by rw [bh (hx b n)]; exact n,fun b u q _=>?_,
  fun b xs q=>by rw [bh (hm b _ q fun z=>z)]; exact q,fun b u xs q=>by rw [bh (hm b _ q fun z=>z)]; exact q,fun b ps q=>⟨#[],by rw [bh (hm b _ q fun z=>z),q]; simp⟩⟩
 by_cases hbe:b=e
 .subst hbe; exact heo
 .exact ⟨u,k b u hbe q⟩
end
def trk (h:Heap) (H:Hp):List Addr:=(List.range h.objs.size).filter fun a=>(H a).isSome
def wO (h:Heap) (H:Hp):Heap:=PySem.W.hideAll h (trk h H)
theorem Ef (h:Heap) (H:Hp):(wO h H).objs.size=h.objs.size:=PySem.W.hideAll_size _ _
theorem Hi {h:Heap} {H:Hp} {b:Addr} {o:Obj} (e:h.get? b=some o) (n:H b=none):(wO h H).get? b=some o:=
 PySem.W.hideAll_get _ e fun hm=>by
  have q:(H b).isSome=true:=(List.mem_filter.mp hm).2
  rw [n] at q; simp at q
theorem Ii {h:Heap} {H:Hp} {b:Addr} {o:Obj} (e:(wO h H).get? b=some o):h.get? b=some o/\H b=none:=by
 have e':h.get? b=some o:=PySem.W.of_hideAll (trk h H) e
 refine ⟨e',?_⟩
 cases q:H b with
 | none=>rfl
 | some x=>
  have hm:b∈trk h H:=List.mem_filter.mpr ⟨List.mem_range.mpr (Heap.lt_size e'),by simp [q]⟩
  have z:(wO h H).get? b=none:=PySem.W.hideAll_none (trk h H) hm
  rw [z] at e; cases e
def Jl (g h:Heap) (L:Addr):List (Addr×Obj):=(List.range h.objs.size).filterMap fun a=>if a=L∨(g.get? a).isSome=true then none else (h.get? a).map fun o=>(a,o)
def rest (g h:Heap) (L d:Addr):List (Addr×Obj):=(Jl g h L).filter fun p=>decide (p.1≠d)
structure Mod (K:PySem.W.Frag) (mg:Str->Option Value) (base:Heap):Prop where
 kin:K.In base
 glob:base.Ns mainGlobals mg
 blt:∃ mb,base.Ns builtinsNs mb/\∀ x:Str,x≠"__name__" -> mb x=bootBuiltins x
 nolimit:base.NoLimit
structure Cx where
 prog:Program
 w:World
 K:PySem.W.Frag
 mg:Str->Option Value
 base:Heap
 A:Around
 N:List Str
 s₀:Shared
 H₀:Hp
 env:Env
 outer:List Env
 stack:List Env
 ex:List Addr
 fn:Str->Bool
 calm:Bool
 pn:List (Addr×Obj)
 xe:Value->Shared->Prop
def frs (l:List Env):List Addr:=l.filterMap (·.frame)
abbrev Cx.fs (X:Cx):List Addr:=frs X.outer
def Vis (sc:Scope) (x:Str):Prop:=sc.names.lookup x=some .local∨sc.names.lookup x=some .cell∨sc.names.lookup x=some .free
def Loc (sc:Scope) (x:Str):Prop:=sc.names.lookup x=some .local∨sc.names.lookup x=some .cell
def Look (env:Env) (h:Heap) (m:Str->Option Value) (x:Str) (u:Value):Prop:=
 (env.kindOf x=some .local/\m x=some u)∨((env.kindOf x=some .cell∨env.kindOf x=some .free)/\∃ c,env.cells.lookup x=some c/\h.IsCell c (some u))
structure Cx.Ok (X:Cx):Prop where
 mod:Mod X.K X.mg X.base
 kind:X.env.scope.kind = .function
 glob:X.env.globals=mainGlobals
 blt:X.env.builtins=builtinsNs
 above:X.s₀.heap.objs.size<=X.env.locals
 inj:∀ x y c,X.env.cells.lookup x=some c->X.env.cells.lookup y=some c->x=y
 has:∀ x,(X.env.kindOf x=some .cell∨X.env.kindOf x=some .free)->∃ c,X.env.cells.lookup x=some c
 cab:∀ x c,X.fn x=true->X.env.cells.lookup x=some c->X.s₀.heap.objs.size<=c
 hd:X.calm=true->X.A.handled=none
 frames:X.A.frames=some X.stack
 stk:X.stack=X.outer∨(X.stack=X.env :: X.outer/\X.env.frame=some X.env.locals)
 exf:∀ b∈X.ex,b≠X.env.locals/\∀ x c,X.env.cells.lookup x=some c->c≠b
 bs:∀ b o,X.base.get? b=some o->X.s₀.heap.get? b=some o/\X.H₀ b=none
 bsz:X.base.objs.size<=X.s₀.heap.objs.size
 noex:∀ b o,X.base.get? b=some o->b∉X.ex
 exfs:∀ b∈X.ex,b∉X.fs
 funs:X.s₀.heap.FunFrames X.base X.outer
 frf:∀ b∈X.fs,X.H₀ b=none
structure Inv (X:Cx) (pins:List (Addr×Obj)) (σ:List (Option V)) (H:Hp) (s:Shared):Prop where
 ok:X.Ok
 os:s.os=X.s₀.os
 bare:AllBare s.gens
 base:Un X.fs X.ex X.H₀ H X.s₀.heap s.heap
 loc:∃ m,s.heap.Ns X.env.locals m/\∀ (i:Nat) (x:Str) (v:V),X.N[i]? = some x->σ[i]? = some (some v)->Vis X.env.scope x->∃ u,RelV v u/\Look X.env s.heap m x u
 cell:∀ x c,X.env.cells.lookup x=some c->∃ v,s.heap.IsCell c v
 free:H X.env.locals=none
 freeC:∀ x c,X.env.cells.lookup x=some c->H c=none
 pin:∀ p∈X.pn++pins,s.heap.get? p.1=some p.2/\H p.1=none/\p.1≠X.env.locals/\p.1∉X.fs/\∀ v,p.2.data≠.cell v
 hok:HOk X.prog X.w H s.heap
 len:σ.length=X.N.length
section
variable {X:Cx} {pins:List (Addr×Obj)} {σ:List (Option V)} {H H':Hp} {s:Shared} {h':Heap}
theorem Cx.Ok.nofr (ok:X.Ok) {b:Addr} {o:Obj} (e:X.base.get? b=some o):b∉X.fs:=fun hb=>by
 have:=(ok.funs.mem hb).1
 rw [e] at this; cases this
theorem Inv.bs (I:Inv X pins σ H s):∀ b o,X.base.get? b=some o->s.heap.get? b=some o/\H b=none:=fun b o e=>
 ⟨I.base.keep b o (I.ok.bs b o e).1 (I.ok.bs b o e).2 (I.ok.nofr e) (I.ok.noex b o e),I.base.free b o (I.ok.bs b o e).1 (I.ok.bs b o e).2 (I.ok.noex b o e)⟩
theorem Inv.bk (I:Inv X pins σ H s):∀ b o,X.base.get? b=some o->s.heap.get? b=some o:=fun b o e=>(I.bs b o e).1
theorem Inv.mod (I:Inv X pins σ H s):Mod X.K X.mg X.base:=I.ok.mod
theorem Inv.kIn (I:Inv X pins σ H s):X.K.In s.heap:=I.ok.mod.kin.keeps I.bk
theorem Inv.fr (I:Inv X pins σ H s):∃ m,Fr X.base X.env.locals s.heap m:=
 let ⟨m,hn,_⟩:=I.loc
 ⟨m,hn,I.bk,Nat.le_trans I.ok.bsz I.ok.above⟩
theorem Inv.lt (I:Inv X pins σ H s):X.env.locals < s.heap.objs.size:=let ⟨_,hn,_⟩:=I.loc; hn.lt
theorem Inv.sz (I:Inv X pins σ H s):X.s₀.heap.objs.size<=s.heap.objs.size:=Nat.le_trans I.ok.above (Nat.le_of_lt I.lt)
theorem Inv.nofs (I:Inv X pins σ H s) {a:Addr} (h:s.heap.objs.size<=a):a∉X.fs:=fun hb=>by
 obtain ⟨_,o,ho,_⟩:=I.ok.funs.mem hb
 exact absurd (Nat.lt_of_lt_of_le (Heap.lt_size ho) (Nat.le_trans I.sz h)) (Nat.lt_irrefl _)
theorem Inv.cne (I:Inv X pins σ H s):∀ x c,X.env.cells.lookup x=some c->c≠X.env.locals:=fun x c e z=>by
 obtain ⟨v,o,ho,hd⟩:=I.cell x c e
 obtain ⟨m,⟨o',es,ep,ho',hd',_⟩,_⟩:=I.loc
 rw [z,ho'] at ho; cases ho; rw [hd'] at hd; cases hd
theorem Inv.funs (I:Inv X pins σ H s):s.heap.FunFrames X.base X.outer:=by
 have all:∀ (l:List Env),(∀ b∈frs l,b∈X.fs)->X.s₀.heap.FunFrames X.base l->s.heap.FunFrames X.base l:=by
  intro l
  induction l with
  | nil=>intro _ _; trivial
  | cons env r ih=>
   intro hs hl
   obtain ⟨hk,⟨L,o,hf,hn,ho,hd⟩,hr⟩:=hl
   have hL:L∈X.fs:=hs L (by unfold frs; rw [List.filterMap_cons,hf]; exact List.mem_cons_self)
   obtain ⟨sl,e⟩:=I.base.slot L o ho (I.ok.frf L hL) hL fun z=>I.ok.exfs L z hL
   exact ⟨hk,⟨L,_,hf,hn,e,hd⟩,ih (fun b hb=>hs b (by unfold frs; rw [List.filterMap_cons,hf]; exact List.mem_cons_of_mem _ hb)) hr⟩
 exact all X.outer (fun _ hb=>hb) I.ok.funs
theorem Inv.stack (I:Inv X pins σ H s):s.heap.FunFrames X.base X.stack:=by
 rcases I.ok.stk with e | ⟨e,hf⟩
 .rw [e]; exact I.funs
 .rw [e]
  obtain ⟨m,hn,_⟩:=I.loc
  refine .cons (by rw [I.ok.kind]; decide) hf hn ?_ I.funs
  exact Heap.get?_none_of_le (Nat.le_trans I.ok.bsz I.ok.above)
theorem Inv.stkSub (I:Inv X pins σ H s):∀ b∈frs X.stack,b∈X.env.locals :: X.fs:=fun b hb=>by
 rcases I.ok.stk with e | ⟨e,hf⟩
 .rw [e] at hb; exact List.mem_cons_of_mem _ hb
 .rw [e] at hb
  unfold frs at hb
  rw [List.filterMap_cons,hf] at hb
  exact hb
theorem Inv.stkFree (I:Inv X pins σ H s):∀ b∈frs X.stack,H b=none:=fun b hb=>by
 rcases List.mem_cons.mp (I.stkSub b hb) with e | hb
 .rw [e]; exact I.free
 .obtain ⟨_,o,ho,_⟩:=I.ok.funs.mem hb
  exact I.base.free b o ho (I.ok.frf b hb) fun z=>I.ok.exfs b z hb
theorem Inv.step {g':Array GenState} {t':Nat} {d':Drawn} {ch:List Addr} (I:Inv X pins σ H s)
  (hch:∀ b∈ch,(b∈X.ex∨X.s₀.heap.objs.size<=b)/\b≠X.env.locals/\(∀ x c,X.env.cells.lookup x=some c->c≠b)/\∀ p∈X.pn++pins,p.1≠b)
  (keep:∀ b o,b≠X.env.locals->b∉X.fs->b∉ch->s.heap.get? b=some o->H b=none->h'.get? b=some o)
  (slot:∀ b o,b≠X.env.locals->b∈X.fs->b∉ch->s.heap.get? b=some o->H b=none->∃ sl,h'.get? b=some { o with slots:=sl }) (free:∀ b o,b∉ch->s.heap.get? b=some o->H b=none->H' b=none)
  (there:∀ b o,b∉ch->s.heap.get? b=some o->∃ o',h'.get? b=some o')
  (tups:∀ b xs,H b=some (.tup xs)->H' b=some (.tup xs)) (frzs:∀ b o u,H b=some (.frz o u)->H' b=some (.frz o u)) (tbls:∀ b ps,H b=some (.tbl ps)->∃ more,H' b=some (.tbl (ps++more)))
  (ns:∀ m,s.heap.Ns X.env.locals m->h'.Ns X.env.locals m) (hok:HOk X.prog X.w H' h') (hg:AllBare g') :
  Inv X pins σ H' { s with heap:=h',gens:=g',drawn:=d',toks:=t' }:=by
 have neL:∀ b o,X.s₀.heap.get? b=some o->b≠X.env.locals:=fun b o e=>Nat.ne_of_lt (Nat.lt_of_lt_of_le (Heap.lt_size e) I.ok.above)
 have neC:∀ b o,X.s₀.heap.get? b=some o->b∉X.ex->b∉ch:=fun b o e hx hb=>by
  rcases (hch b hb).1 with z | z
  .exact hx z
  .exact absurd (Nat.lt_of_lt_of_le (Heap.lt_size e) z) (Nat.lt_irrefl _)
 have cellK:∀ x c,X.env.cells.lookup x=some c->∀ v,s.heap.IsCell c v->h'.IsCell c v:=fun x c e v ⟨o,ho,hd⟩=>by
  have nch:c∉ch:=fun z=>(hch c z).2.2.1 x c e rfl
  by_cases hc:c∈X.fs
  .obtain ⟨sl,q⟩:=slot c o (I.cne x c e) hc nch ho (I.freeC x c e)
   exact ⟨_,q,hd⟩
  .exact ⟨o,keep c o (I.cne x c e) hc nch ho (I.freeC x c e),hd⟩
 refine ⟨I.ok,I.os,hg,⟨fun b o e n hb hx=>?_,fun b o e n hb hx=>?_,fun b o e n hx=>?_,fun b o e hx=>?_,fun b xs e=>tups b xs (I.base.tups b xs e),fun b o xs e=>frzs b o xs (I.base.frzs b o xs e),fun b ps e=>?_⟩,?_,fun x c e=>?_,?_,fun x c e=>?_,fun p hp=>?_,hok,I.len⟩
 .exact keep b o (neL b o e) hb (neC b o e hx) (I.base.keep b o e n hb hx) (I.base.free b o e n hx)
 .obtain ⟨sl,e1⟩:=I.base.slot b o e n hb hx
  obtain ⟨sl',e2⟩:=slot b _ (neL b o e) hb (neC b o e hx) e1 (I.base.free b o e n hx)
  exact ⟨sl',e2⟩
 .obtain ⟨o',e1⟩:=I.base.there b o e hx
  exact free b o' (neC b o e hx) e1 (I.base.free b o e n hx)
 .obtain ⟨o',e1⟩:=I.base.there b o e hx
  exact there b o' (neC b o e hx) e1
 .obtain ⟨m1,e1⟩:=I.base.tbls b ps e
  obtain ⟨m2,e2⟩:=tbls b _ e1
  exact ⟨m1++m2,by rw [e2,Array.append_assoc]⟩
 .obtain ⟨m,hn,hl⟩:=I.loc
  refine ⟨m,ns m hn,fun i x v e1 e2 e3=>?_⟩
  obtain ⟨u,r,l⟩:=hl i x v e1 e2 e3
  refine ⟨u,r,?_⟩
  rcases l with l | ⟨k,c,e,z⟩
  .exact .inl l
  .exact .inr ⟨k,c,e,cellK x c e _ z⟩
 .obtain ⟨v,z⟩:=I.cell x c e
  exact ⟨v,cellK x c e v z⟩
 .obtain ⟨m,⟨o,_,_,ho,_⟩,_⟩:=I.loc
  exact free _ o (fun z=>(hch _ z).2.1 rfl) ho I.free
 .obtain ⟨v,o,ho,hd⟩:=I.cell x c e
  exact free c o (fun z=>(hch c z).2.2.1 x c e rfl) ho (I.freeC x c e)
 .obtain ⟨e,n,ne,nf,d⟩:=I.pin p hp
  have nch:p.1∉ch:=fun z=>(hch p.1 z).2.2.2 p hp rfl
  exact ⟨keep p.1 p.2 ne nf nch e n,free p.1 p.2 nch e n,ne,nf,d⟩
theorem Inv.un {t':Nat} (I:Inv X pins σ H s) (u:Un X.fs [] H H' s.heap h') (hok:HOk X.prog X.w H' h'):Inv X pins σ H' { s with heap:=h',toks:=t' }:=by
 obtain ⟨m,⟨o,es,ep,ho,r⟩,_⟩:=id I.loc
 obtain ⟨sl,hL⟩:=u.any ho I.free (by simp)
 exact I.step (g':=s.gens) (d':=s.drawn) (ch:=[]) (fun _ z=>nomatch z) (fun b o _ hb _ e n=>u.keep b o e n hb (by simp)) (fun b o _ hb _ e n=>u.slot b o e n hb (by simp)) (fun b o _ e n=>u.free b o e n (by simp)) (fun b o _ e=>u.there b o e (by simp)) u.tups u.frzs u.tbls (fun m' hm=>by
  obtain ⟨o',es',ep',ho',r'⟩:=hm
  rw [ho] at ho'; cases ho'
  exact ⟨_,es',ep',hL,r'⟩) hok I.bare
theorem Inv.call {g':Array GenState} {t':Nat} {d':Drawn} {ch:List Addr} (I:Inv X pins σ H s) (u:Un (frs X.stack) ch H H' s.heap h') (hok:HOk X.prog X.w H' h') (hg:AllBare g')
  (hch:∀ b∈ch,(b∈X.ex∨X.s₀.heap.objs.size<=b)/\b≠X.env.locals/\(∀ x c,X.env.cells.lookup x=some c->c≠b)/\∀ p∈X.pn++pins,p.1≠b) :
  Inv X pins σ H' { s with heap:=h',gens:=g',drawn:=d',toks:=t' }:=by
 obtain ⟨m,⟨o,es,ep,ho,r⟩,_⟩:=id I.loc
 obtain ⟨sl,hL⟩:=u.any ho I.free fun z=>(hch _ z).2.1 rfl
 exact I.step (ch:=ch) hch (fun b o hL hb hc e n=>u.keep b o e n (fun z=>(List.mem_cons.mp (I.stkSub b z)).elim hL hb) hc) (fun b o _ _ hc e n=>u.any e n hc) (fun b o hc e n=>u.free b o e n hc) (fun b o hc e=>u.there b o e hc) u.tups u.frzs u.tbls (fun m' hm=>by
  obtain ⟨o',es',ep',ho',r'⟩:=hm
  rw [ho] at ho'; cases ho'
  exact ⟨_,es',ep',hL,r'⟩) hok hg
theorem Inv.turned {t':Nat} {it:Addr} (I:Inv X pins σ H s) (k:∀ b o,b≠it->s.heap.get? b=some o->h'.get? b=some o) (hn:H it=none) (hL:it≠X.env.locals)
  (h1:it∈X.ex∨X.s₀.heap.objs.size<=it) (h2:∀ x c,X.env.cells.lookup x=some c->c≠it) (h3:∀ p∈X.pn++pins,p.1≠it):Inv X pins σ H { s with heap:=h',toks:=t' }:=by
 have nit:∀ b u,H b=some u->b≠it:=fun b u e z=>by rw [z,hn] at e; cases e
 refine I.step (g':=s.gens) (d':=s.drawn) (ch:=[it]) (fun b hb=>?_) (fun b o _ _ hc e _=>k b o (fun z=>hc (by simp [z])) e) (fun b o _ _ hc e _=>⟨o.slots,k b o (fun z=>hc (by simp [z])) e⟩) (fun _ _ _ _ n=>n)
  (fun b o hc e=>⟨o,k b o (fun z=>hc (by simp [z])) e⟩) (fun _ _ e=>e) (fun _ _ _ e=>e) (fun b ps e=>⟨#[],by rw [e]; simp⟩) (fun m hm=>?_) (fun b u e=>?_) I.bare
 .have e:b=it:=by simpa using hb
  subst e
  exact ⟨h1,hL,h2,h3⟩
 .obtain ⟨o,es,ep,ho,r⟩:=hm
  exact ⟨o,es,ep,k _ o (Ne.symm hL) ho,r⟩
 .refine (I.hok b u e).stay (fun c v hc q=>k c v ?_ q) (fun _ q=>q) fun _ _ q=>q
  rcases hc with z | z
  .rw [z]; exact nit b u e
  .exact nit c _ z
theorem Inv.tok (I:Inv X pins σ H s) (t:Nat):Inv X pins σ H { s with toks:=t }:=I.un (h':=s.heap) (t':=t) Un.refl I.hok
theorem Inv.kept {t':Nat} (I:Inv X pins σ H s) (k:∀ b u,s.heap.get? b=some u->h'.get? b=some u):Inv X pins σ H { s with heap:=h',toks:=t' }:=I.un (Un.kept k) (I.hok.kept k)
theorem Inv.laid {a:Addr} {o:HO} {t':Nat} (I:Inv X pins σ H s) (k:∀ b u,s.heap.get? b=some u->h'.get? b=some u) (hp:s.heap.objs.size<=a) (new:fu X.prog X.w (upd H a o) h' a o) :
  Inv X pins σ (upd H a o) { s with heap:=h',toks:=t' }:=I.un (Un.laid k hp (I.hok.fresh hp)) (I.hok.laid k hp new)
theorem Inv.write {x e:Addr} {o:HO} {t':Nat} (I:Inv X pins σ H s) (mu:Mut (H x)) (he:e=x∨H e=some (.own x)) (k:∀ b u,b≠e->s.heap.get? b=some u->h'.get? b=some u) (heo:∃ u,h'.get? e=some u)
  (new:fu X.prog X.w (upd H x o) h' x o):Inv X pins σ (upd H x o) { s with heap:=h',toks:=t' }:=I.un (Un.write mu he k heo) (I.hok.write mu he k heo new)
theorem Inv.weak {σ':List (Option V)} (I:Inv X pins σ H s) (hl:σ'.length=σ.length) (w:∀ (i:Nat) v,σ'[i]? = some (some v)->σ[i]? = some (some v)):Inv X pins σ' H s:=
 ⟨I.ok,I.os,I.bare,I.base,let ⟨m,hn,hl'⟩:=I.loc; ⟨m,hn,fun i x v e1 e2 e3=>hl' i x v e1 (w i v e2) e3⟩,I.cell,I.free,I.freeC,I.pin,I.hok,hl.trans I.len⟩
theorem Inv.pins_of {pins':List (Addr×Obj)} (I:Inv X pins σ H s) (h:∀ p∈pins',s.heap.get? p.1=some p.2/\H p.1=none/\p.1≠X.env.locals/\p.1∉X.fs/\∀ v,p.2.data≠.cell v):Inv X pins' σ H s:=
 ⟨I.ok,I.os,I.bare,I.base,I.loc,I.cell,I.free,I.freeC,fun p hp=>(List.mem_append.mp hp).elim (fun z=>I.pin p (List.mem_append_left _ z)) (h p),I.hok,I.len⟩
theorem yG {N:List Str} (hN:N.Nodup) {i j:Nat} {x:Str} (a:N[i]? = some x) (b:N[j]? = some x):i=j:=by
 obtain ⟨h1,e1⟩:=List.getElem?_eq_some_iff.mp a
 obtain ⟨h2,e2⟩:=List.getElem?_eq_some_iff.mp b
 exact (List.getElem_inj hN).mp (e1.trans e2.symm)
theorem DG {M:Model} {A:Around} {E:Value->Shared->Prop} {i:Nat} {x:Str} {v:V} {u:Value} {Q:Unit->Shared->Prop} (I:Inv X pins σ H s) (hN:X.N.Nodup) (hi:X.N[i]? = some x) (hx:Loc X.env.scope x) (r:RelV v u)
  (h:∀ s',Inv X pins (σ.set i (some v)) H s'->(∃ a,Heap.SameBut a s.heap s'.heap/\(a=X.env.locals∨X.env.cells.lookup x=some a))->Q () s') (hf:X.fn x=true∨X.env.scope.names.lookup x=some .local:=by first | exact .inl rfl | exact .inr rfl | assumption):wpAny M A (storeName X.env x u) Q E s:=by
 obtain ⟨m,hn,hl⟩:=id I.loc
 have hcls:(X.env.scope.kind == .class || (X.env.scope.kind == .module && X.env.locals != X.env.globals))=false:=by rw [I.ok.kind]; rfl
 have hiσ:i < σ.length:=by rw [I.len]; exact (List.getElem?_eq_some_iff.mp hi).1
 have cne:=I.cne
 have tracked:∀ {a:Addr} {h':Heap},(∃ o,s.heap.get? a=some o/\H a=none)->Heap.SameBut a s.heap h'->HOk X.prog X.w H h':=fun {a h'} ha hs b ob e=>by
  obtain ⟨_,_,hfree⟩:=ha
  refine (I.hok b ob e).stay (fun c w' hc q=>(hs.2 c ?_).trans q) (fun _ q=>q) fun _ _ q=>q
  rintro rfl
  rcases hc with rfl | hc
  .rw [hfree] at e; cases e
  .rw [hfree] at hc; cases hc
 rcases hx with hk | hk
 .refine wpAny_storeName_local hk hn (fun h' hn' hs=>?_) hcls
  obtain ⟨oL,_,_,hoL,_⟩:=id hn
  refine h _ ⟨I.ok,I.os,I.bare,⟨fun b o e n hb hx=>?_,fun b o e n hb hx=>?_,I.base.free,fun b o e hx=>?_,I.base.tups,I.base.frzs,I.base.tbls⟩,⟨_,hn',fun j y v' e1 e2 e3=>?_⟩,fun y c e=>?_,I.free,I.freeC,fun p hp=>?_,tracked ⟨oL,hoL,I.free⟩ hs,by simpa using I.len⟩ ⟨_,hs,.inl rfl⟩
  .exact (hs.2 b (Nat.ne_of_lt (Nat.lt_of_lt_of_le (Heap.lt_size e) I.ok.above))).trans (I.base.keep b o e n hb hx)
  .obtain ⟨sl,e1⟩:=I.base.slot b o e n hb hx
   exact ⟨sl,(hs.2 b (Nat.ne_of_lt (Nat.lt_of_lt_of_le (Heap.lt_size e) I.ok.above))).trans e1⟩
  .obtain ⟨o',e1⟩:=I.base.there b o e hx
   exact ⟨o',(hs.2 b (Nat.ne_of_lt (Nat.lt_of_lt_of_le (Heap.lt_size e) I.ok.above))).trans e1⟩
  .by_cases hj:j=i
   .subst hj
    rw [hi] at e1; cases e1
    rw [List.getElem?_set_self hiσ] at e2
    cases e2
    exact ⟨u,r,.inl ⟨hk,by simp⟩⟩
   .rw [List.getElem?_set_ne (Ne.symm hj)] at e2
    obtain ⟨u',r',q⟩:=hl j y v' e1 e2 e3
    refine ⟨u',r',?_⟩
    rcases q with ⟨k,e⟩ | ⟨k,c,e,z⟩
    .refine .inl ⟨k,?_⟩
     have:y≠x:=fun e=>hj (yG hN e1 (e ▸ hi))
     simp [this,e]
    .exact .inr ⟨k,c,e,z.sameBut hs (cne y c e)⟩
  .obtain ⟨w',z⟩:=I.cell y c e
   exact ⟨w',z.sameBut hs (cne y c e)⟩
  .obtain ⟨e,n,ne,nf,d⟩:=I.pin p hp
   exact ⟨(hs.2 p.1 ne).trans e,n,ne,nf,d⟩
 .have hfn:X.fn x=true:=by
   rcases hf with z | z
   .exact z
   .rw [z] at hk; cases hk
  obtain ⟨c,hc⟩:=I.ok.has x (.inl hk)
  obtain ⟨w',z⟩:=I.cell x c hc
  refine wpAny_storeName_cell I.ok.kind hk hc z (fun h' hc' hs=>?_)
  obtain ⟨oc,hoc,hocd⟩:=id z
  refine h { s with heap:=h' } ⟨I.ok,I.os,I.bare,⟨fun b o e n hb hx=>?_,fun b o e n hb hx=>?_,I.base.free,fun b o e hx=>?_,I.base.tups,I.base.frzs,I.base.tbls⟩,⟨m,hn.sameBut hs (Ne.symm (cne x c hc)),fun j y v' e1 e2 e3=>?_⟩,fun y c' e=>?_,I.free,I.freeC,fun p hp=>?_,tracked ⟨oc,hoc,I.freeC x c hc⟩ hs,by simpa using I.len⟩ ⟨c,hs,.inr hc⟩
  .exact (hs.2 b (Nat.ne_of_lt (Nat.lt_of_lt_of_le (Heap.lt_size e) (I.ok.cab x c hfn hc)))).trans (I.base.keep b o e n hb hx)
  .obtain ⟨sl,e1⟩:=I.base.slot b o e n hb hx
   exact ⟨sl,(hs.2 b (Nat.ne_of_lt (Nat.lt_of_lt_of_le (Heap.lt_size e) (I.ok.cab x c hfn hc)))).trans e1⟩
  .obtain ⟨o',e1⟩:=I.base.there b o e hx
   exact ⟨o',(hs.2 b (Nat.ne_of_lt (Nat.lt_of_lt_of_le (Heap.lt_size e) (I.ok.cab x c hfn hc)))).trans e1⟩
  .by_cases hj:j=i
   .subst hj
    rw [hi] at e1; cases e1
    rw [List.getElem?_set_self hiσ] at e2
    cases e2
    exact ⟨u,r,.inr ⟨.inl hk,c,hc,hc'⟩⟩
   .rw [List.getElem?_set_ne (Ne.symm hj)] at e2
    obtain ⟨u',r',q⟩:=hl j y v' e1 e2 e3
    refine ⟨u',r',?_⟩
    rcases q with q | ⟨k,c',e,z'⟩
    .exact .inl q
    .refine .inr ⟨k,c',e,z'.sameBut hs ?_⟩
     rintro rfl
     exact hj (yG hN e1 (I.ok.inj _ _ _ e hc ▸ hi))
  .by_cases hcc:c'=c
   .subst hcc; exact ⟨_,hc'⟩
   .obtain ⟨w2,z2⟩:=I.cell y c' e
    exact ⟨w2,z2.sameBut hs hcc⟩
  .obtain ⟨e,n,ne,nf,d⟩:=I.pin p hp
   refine ⟨(hs.2 p.1 ?_).trans e,n,ne,nf,d⟩
   intro q
   rw [q,hoc] at e
   have q':oc=p.2:=Option.some.inj e
   exact d w' (by rw [← q']; exact hocd)
theorem mR {M:Model} {A:Around} {E:Value->Shared->Prop} {i:Nat} {x:Str} {v:V} {u:Value} {Q:Unit->Shared->Prop} (I:Inv X pins σ H s) (hN:X.N.Nodup) (hi:X.N[i]? = some x) (hx:Loc X.env.scope x) (r:RelV v u)
  (h:∀ s',Inv X pins (σ.set i (some v)) H s'->Q () s') (hf:X.fn x=true∨X.env.scope.names.lookup x=some .local:=by first | exact .inl rfl | exact .inr rfl | assumption):wpAny M A (storeName X.env x u) Q E s:=
 DG I hN hi hx r (fun s' I' _=>h s' I') hf
theorem Inv.call' {s':Shared} {ch:List Addr} (I:Inv X pins σ H s) (ho:s'.os=s.os) (u:Un (frs X.stack) ch H H' s.heap s'.heap) (hok:HOk X.prog X.w H' s'.heap) (hg:AllBare s'.gens)
  (hch:∀ b∈ch,(b∈X.ex∨X.s₀.heap.objs.size<=b)/\b≠X.env.locals/\(∀ x c,X.env.cells.lookup x=some c->c≠b)/\∀ p∈X.pn++pins,p.1≠b):Inv X pins σ H' s':=by
 obtain ⟨h',g',d',t',o'⟩:=s'
 have e:o'=s.os:=ho
 subst e
 exact I.call (g':=g') (t':=t') (d':=d') u hok hg hch
end
abbrev XK:=Value->Option Addr->Hp->Prop
abbrev St:=List (Option V)
abbrev VK:=V->Hp->Prop
abbrev TE:=St->Hp->VK->Prop
abbrev TT:=St->Hp->(Bool->Hp->Prop)->Prop
abbrev TA:=St->Hp->(List V->Hp->Prop)->Prop
structure Ends where
 nx:St->Hp->Prop
 rt:VK
 bk:St->Hp->Prop:=fun _ _=>False
 ct:St->Hp->Prop:=fun _ _=>False
abbrev TS:=Ends->St->Hp->Prop
def EP (X:Cx) (pins:List (Addr×Obj)) (σ:St) (Q:VK) (u:Value) (s':Shared):Prop:=∃ v H',Inv X pins σ H' s'/\RelV v u/\Q v H'
def TP (X:Cx) (pins:List (Addr×Obj)) (σ:St) (Q:Bool->Hp->Prop) (b:Bool) (s':Shared):Prop:=∃ H',Inv X pins σ H' s'/\Q b H'
def AP (X:Cx) (pins:List (Addr×Obj)) (σ:St) (Q:List V->Hp->Prop) (us:List Value) (s':Shared):Prop:=∃ vs H',Inv X pins σ H' s'/\Vals vs us/\Q vs H'
def SP (X:Cx) (pins:List (Addr×Obj)) (D:Ends) (f:Flow) (s':Shared):Prop:=
 match f with
 | .next=>∃ σ' H',Inv X pins σ' H' s'/\D.nx σ' H'
 | .brk=>∃ σ' H',Inv X pins σ' H' s'/\D.bk σ' H'
 | .cont=>∃ σ' H',Inv X pins σ' H' s'/\D.ct σ' H'
 | .ret u=>∃ v σ' H',Inv X pins σ' H' s'/\RelV v u/\D.rt v H'
def PE (X:Cx) (e:Expr) (t:TE):Prop:=
 ∀ (pins:List (Addr×Obj)) (s:Shared) (σ:St) (H:Hp) (Q:VK),Inv X pins σ H s->t σ H Q->wpAny (model X.prog X.w) X.A (eval e X.env) (EP X pins σ Q) X.xe s
def PT (X:Cx) (e:Expr) (t:TT):Prop:=
 ∀ (pins:List (Addr×Obj)) (s:Shared) (σ:St) (H:Hp) (Q:Bool->Hp->Prop),Inv X pins σ H s->t σ H Q->wpAny (model X.prog X.w) X.A (isTrue e X.env (eval e X.env)) (TP X pins σ Q) X.xe s
def PW (X:Cx) (e:Expr) (t:TT):Prop:=
 ∀ (whole:Sem Value) (pins:List (Addr×Obj)) (s:Shared) (σ:St) (H:Hp) (Q:Bool->Hp->Prop),Inv X pins σ H s->t σ H Q->wpAny (model X.prog X.w) X.A (isTrue e X.env whole) (TP X pins σ Q) X.xe s
theorem PW.pt {X:Cx} {e:Expr} {t:TT} (h:PW X e t):PT X e t:=h _
def PA (X:Cx) (es:List Expr) (t:TA):Prop:=
 ∀ (pos:Pos) (pins:List (Addr×Obj)) (s:Shared) (σ:St) (H:Hp) (Q:List V->Hp->Prop),Inv X pins σ H s->t σ H Q->wpAny (model X.prog X.w) X.A (spliced (backTo pos (starEach es X.env))) (AP X pins σ Q) X.xe s
def PS (X:Cx) (st:Stmt) (t:TS):Prop:=
 ∀ (pins:List (Addr×Obj)) (s:Shared) (σ:St) (H:Hp) (D:Ends),Inv X pins σ H s->t D σ H->wpAny (model X.prog X.w) X.A (exec st X.env) (SP X pins D) X.xe s
def PSs (X:Cx) (st:List Stmt) (t:TS):Prop:=
 ∀ (pins:List (Addr×Obj)) (s:Shared) (σ:St) (H:Hp) (D:Ends),Inv X pins σ H s->t D σ H->wpAny (model X.prog X.w) X.A (execs st X.env) (SP X pins D) X.xe s
theorem thn {α:Type} {t:Sem α} {Q Q':α->Shared->Prop} {M:Model} {A:Around} {E:Value->Shared->Prop} {s:Shared} (h:wpAny M A t Q E s) (hQ:∀ a s,Q a s->Q' a s):wpAny M A t Q' E s:=wpAny_mono h hQ fun _ _ x=>x
section
variable {X:Cx}
theorem bin {a b:Expr} {ta tb:TE} (ha:PE X a ta) (hb:PE X b tb) {pins:List (Addr×Obj)} {s:Shared} {σ:St} {H:Hp} {R:V->V->Hp->Prop} (I:Inv X pins σ H s) (h:ta σ H fun x H1=>tb σ H1 fun y H2=>R x y H2)
  {α:Type} {Q:α->Shared->Prop} {f:Value->Value->Sem α}
  (hf:∀ v u s2 x y H2,Inv X pins σ H2 s2->RelV x v->RelV y u->R x y H2->wpAny (model X.prog X.w) X.A (f v u) Q X.xe s2) :
  wpAny (model X.prog X.w) X.A (eval a X.env) (fun v s₁=>wpAny (model X.prog X.w) X.A (eval b X.env) (fun u s₂=>wpAny (model X.prog X.w) X.A (f v u) Q X.xe s₂) X.xe s₁) X.xe s:=by
 refine thn (ha pins s σ H _ I h) fun v s1 ⟨x,H1,I1,r1,q1⟩=>?_
 refine thn (hb pins s1 σ H1 _ I1 q1) fun u s2 ⟨y,H2,I2,r2,q2⟩=>?_
 exact hf v u s2 x y H2 I2 r1 r2 q2
def Ke (i:Nat):TE:=fun σ H Q=>∃ v,σ[i]? = some (some v)/\Q v H
def tC (v:V):TE:=fun _ H Q=>Q v H
theorem Nq {i:Nat} {x:Str} {pos:Pos} (hN:X.N[i]? = some x) (hv:Vis X.env.scope x) (hd:(x == ("__debug__" : Str))=false:=by decide) (hcd:(x == ("__classdict__" : Str))=false:=by decide):PE X (.Name x pos) (Ke i):=by
 intro pins s σ H Q I h
 obtain ⟨v,e,h⟩:=h
 obtain ⟨m,hn,hl⟩:=I.loc
 obtain ⟨u,r,l⟩:=hl i x v hN e hv
 have fin:EP X pins σ Q u s:=⟨v,H,I,r,h⟩
 rcases l with ⟨hk,hm⟩ | ⟨hk,c,hc,hcell⟩
 .exact wpAny_Name (wpAny_loadName_local I.ok.kind hk hn hm fin) hd
 .rcases hk with hk | hk
  .exact wpAny_Name (wpAny_loadName_cell I.ok.kind hk hc hcell fin) hd
  .exact wpAny_Name (wpAny_loadName_free I.ok.kind hk hc hcell fin hcd) hd
theorem Ni {i j pos}:PE X (.Constant (.int i) j pos) (tC (.int i)):=fun _ _ _ H _ I h=>wpAny_Constant_int ⟨.int i,H,I.tok _,⟨_,rfl⟩,h⟩
theorem Ou {b j pos}:PE X (.Constant (.bool b) j pos) (tC (.bl b)):=fun _ _ _ H _ I h=>Constant_bool ⟨.bl b,H,I,rfl,h⟩
theorem Lh {j pos}:PE X (.Constant .none j pos) (tC .non):=fun _ _ _ H _ I h=>Constant_none ⟨.non,H,I,rfl,h⟩
theorem Ls {x j pos}:PE X (.Constant (.str x) j pos) (tC (.str x)):=fun _ _ _ H _ I h=>Calls.Constant_str ⟨.str x,H,I.tok _,⟨_,rfl⟩,h⟩
def Gl (X:Cx) (x:Str):Prop:=X.env.kindOf x=some .globalImplicit
theorem J5 {E:Value->Shared->Prop} {pins:List (Addr×Obj)} {s:Shared} {σ:St} {H:Hp} {x:Str} {u:Value} {pos:Pos} {Q:Value->Shared->Prop} (I:Inv X pins σ H s) (hg:Gl X x) (hm:X.mg x=some u) (h:Q u s)
  (hd:(x == ("__debug__" : Str))=false:=by decide):wpAny (model X.prog X.w) X.A (eval (.Name x pos) X.env) Q E s:=
 Calls.Name_function_global I.ok.kind hg (Calls.loadGlobal_global (by rw [I.ok.glob]; exact I.mod.glob.keeps I.bk) hm h) hd
theorem pX {E:Value->Shared->Prop} {pins:List (Addr×Obj)} {s:Shared} {σ:St} {H:Hp} {x:Str} {u:Value} {pos:Pos} {Q:Value->Shared->Prop} (I:Inv X pins σ H s) (hg:Gl X x) (hm:X.mg x=none) (hv:bootBuiltins x=some u) (h:Q u s)
  (hn:x≠"__name__" := by decide) (hd:(x == ("__debug__" : Str))=false:=by decide):wpAny (model X.prog X.w) X.A (eval (.Name x pos) X.env) Q E s:=by
 obtain ⟨mb,h1,h2⟩:=I.mod.blt
 exact Calls.Name_function_global I.ok.kind hg (Calls.loadGlobal_builtin (by rw [I.ok.glob]; exact I.mod.glob.keeps I.bk) hm (by rw [I.ok.blt]; exact h1.keeps I.bk) ((h2 x hn).trans hv) h) hd
theorem IW {x:Str} {v:V} {u:Value} {pos:Pos} (hg:Gl X x) (hm:X.mg x=none) (hv:bootBuiltins x=some u) (r:RelV v u) (hn:x≠"__name__" := by decide) (hd:(x == ("__debug__" : Str))=false:=by decide):PE X (.Name x pos) (tC v):=
 fun _ _ _ H _ I h=>pX I hg hm hv ⟨v,H,I,r,h⟩ hn hd
variable {a b:Expr} {ta tb:TE} {pos:Pos}
variable {tA tB':TT} {rest:List Expr}
def Ma (t u:TT):TT:=fun σ H Q=>t σ H fun c H1=>if c=true then u σ H1 Q else Q false H1
def tOr (t u:TT):TT:=fun σ H Q=>t σ H fun c H1=>if c=true then Q true H1 else u σ H1 Q
def MF (t:TT):TT:=fun σ H Q=>t σ H fun c H1=>Q (!c) H1
theorem CN (ha:PT X a tA):PW X (.BoolOp .And [a] pos) tA:=by
 intro wh pins s σ H Q I h
 refine isTrue_and (thn (ha pins s σ H Q I h) fun c s1 e=>?_)
 cases c with
 | true=>exact isTrue_and_nil e
 | false=>exact e
theorem Np (ha:PT X a tA):PW X (.BoolOp .Or [a] pos) tA:=by
 intro wh pins s σ H Q I h
 refine isTrue_or (thn (ha pins s σ H Q I h) fun c s1 e=>?_)
 cases c with
 | false=>exact isTrue_or_nil e
 | true=>exact e
theorem Gv (ha:PT X a tA) (hb:PW X (.BoolOp .And (b :: rest) pos) tB'):PW X (.BoolOp .And (a :: b :: rest) pos) (Ma tA tB'):=by
 intro wh pins s σ H Q I h
 refine isTrue_and (thn (ha pins s σ H _ I h) fun c s1 ⟨H1,I1,q1⟩=>?_)
 cases c with
 | true=>exact hb wh pins s1 σ H1 Q I1 q1
 | false=>exact ⟨H1,I1,q1⟩
theorem PN (ha:PT X a tA) (hb:PW X (.BoolOp .Or (b :: rest) pos) tB'):PW X (.BoolOp .Or (a :: b :: rest) pos) (tOr tA tB'):=by
 intro wh pins s σ H Q I h
 refine isTrue_or (thn (ha pins s σ H _ I h) fun c s1 ⟨H1,I1,q1⟩=>?_)
 cases c with
 | true=>exact ⟨H1,I1,q1⟩
 | false=>exact hb wh pins s1 σ H1 Q I1 q1
theorem GR (ha:PT X a tA):PT X (.UnaryOp .Not a pos) (MF tA):=by
 intro pins s σ H Q I h
 exact isTrue_not (ha pins s σ H (fun c H1=>Q (!c) H1) I h)
def KY (ta tb:TE):TE:=fun σ H Q=>ta σ H fun x H1=>∃ c,x = .bl c/\if c=true then tb σ H1 Q else Q (.bl false) H1
def K6 (ta:TE):TE:=fun σ H Q=>ta σ H fun x H1=>∃ c,x = .bl c/\Q (.bl (!c)) H1
theorem Mj {op} {t:TE} (h:PE X a t):PE X (.BoolOp op [a] pos) t:=fun pins s σ H Q I hw=>BoolOp_one (h pins s σ H Q I hw)
theorem Oh (ha:PE X a ta) (hb:PE X (.BoolOp .And (b :: rest) pos) tb):PE X (.BoolOp .And (a :: b :: rest) pos) (KY ta tb):=by
 intro pins s σ H Q I h
 refine BoolOp_and (thn (ha pins s σ H _ I h) fun v s1 ⟨x,H1,I1,r1,q1⟩=>?_)
 obtain ⟨c,rfl,q1⟩:=q1
 cases r1
 refine wpAny_truthy_bool ?_
 cases c with
 | true=>exact hb pins s1 σ H1 Q I1 q1
 | false=>exact ⟨.bl false,H1,I1,rfl,q1⟩
theorem Nb (ha:PE X a ta):PE X (.UnaryOp .Not a pos) (K6 ta):=by
 intro pins s σ H Q I h
 refine UnaryOp_ (thn (ha pins s σ H _ I h) fun v s1 ⟨x,H1,I1,r1,q1⟩=>?_)
 obtain ⟨c,rfl,q1⟩:=q1
 cases r1
 exact not_of (wpAny_truthy_bool ⟨.bl (!c),H1,I1,rfl,q1⟩)
end
def SqL (K:PySem.W.Frag) (H:Hp) (a:Addr) (xs:List V):Prop:=
 Rd H a (.lst xs)∨
  ∃ (o:Obj) (its:Array Value) (n:Nat),K.lookup a=some o/\o.cls = .type "list" /\ o.dict=none/\o.data = .seq its n/\its.size<=sizeLine/\Vals xs its.toList
def SqT (K:PySem.W.Frag) (H:Hp) (a:Addr) (xs:List V):Prop:=
 Rd H a (.tup xs)∨
  ∃ (o:Obj) (its:Array Value) (n:Nat),K.lookup a=some o/\o.cls = .type "tuple" /\ o.data = .seq its n/\its.size<=sizeLine/\Vals xs its.toList
def QG:Value->Option V
 | .none=>some .non
 | .bool b=>some (.bl b)
 | .int i _=>some (.int i)
 | .str x _=>some (.str x)
 | .bytes b _=>some (.byt b)
 | .float b _=>some (.flt b)
 | .ref a=>some (.ref a)
 | .type n=>some (.ty n)
 | _=>none
theorem RelV.abs {x:V} {u:Value} (r:RelV x u):QG u=some x:=by
 cases x with
 | non=>cases r; rfl
 | bl _=>cases r; rfl
 | int _=>obtain ⟨t,rfl⟩:=r; rfl
 | str _=>obtain ⟨t,rfl⟩:=r; rfl
 | byt _=>obtain ⟨t,rfl⟩:=r; rfl
 | flt _=>obtain ⟨t,rfl⟩:=r; rfl
 | ref _=>cases r; rfl
 | ty _=>cases r; rfl
theorem RelV.inj {x y:V} {u:Value} (r:RelV x u) (q:RelV y u):x=y:=Option.some.inj (r.abs.symm.trans q.abs)
theorem Vals.inj:∀ {xs ys:List V} {us:List Value},Vals xs us->Vals ys us->xs=ys
 | _,_,_,.nil,.nil=>rfl
 | _,_,_,.cons r t,.cons r' t'=>by rw [r.inj r',Vals.inj t t']
section
variable {X:Cx} {pins:List (Addr×Obj)} {σ:St} {H:Hp} {s:Shared} {a:Addr} {xs ys:List V}
theorem SqL.of {K:PySem.W.Frag} (h:H a=some (.lst xs)):SqL K H a xs:=.inl (.inl h)
theorem SqT.of {K:PySem.W.Frag} (h:H a=some (.tup xs)):SqT K H a xs:=.inl (.inl h)
theorem Inv.list (I:Inv X pins σ H s) (h:SqL X.K H a xs):∃ its:List Value,Vals xs its/\PlainL s.heap a its.toArray/\xs.length<=sizeLine:=by
 rcases h with h | ⟨o,its,n,hk,hc,hd,hs,hz,r⟩
 .obtain ⟨z,its,n,r,e⟩:=h.ok I.hok
  exact ⟨its,r,⟨_,n,e,rfl,rfl,rfl⟩,z⟩
 .refine ⟨its.toList,r,⟨o,n,I.kIn a o hk,hc,hd,by simpa using hs⟩,?_⟩
  have e:=r.length
  simp only [Array.length_toList] at e
  omega
theorem Inv.tuple (I:Inv X pins σ H s) (h:SqT X.K H a xs):∃ its:List Value,Vals xs its/\IsTup s.heap a its.toArray/\xs.length<=sizeLine:=by
 rcases h with h | ⟨o,its,n,hk,hc,hs,hz,r⟩
 .obtain ⟨z,its,r,p⟩:=h.ok I.hok
  exact ⟨its,r,p,z⟩
 .refine ⟨its.toList,r,⟨o,I.kIn a o hk,hc,n,by simpa using hs⟩,?_⟩
  have e:=r.length
  simp only [Array.length_toList] at e
  omega
theorem Inv.list_inj (I:Inv X pins σ H s) (h:SqL X.K H a xs) (h':SqL X.K H a ys):xs=ys:=by
 obtain ⟨its,r,⟨o,n,e,_,_,d⟩,_⟩:=I.list h
 obtain ⟨its',r',⟨o',n',e',_,_,d'⟩,_⟩:=I.list h'
 rw [e] at e'; cases e'
 rw [d] at d'
 injection d' with d1 _
 have:its=its':=by simpa using congrArg Array.toList d1
 subst this
 exact r.inj r'
theorem Inv.tuple_inj (I:Inv X pins σ H s) (h:SqT X.K H a xs) (h':SqT X.K H a ys):xs=ys:=by
 obtain ⟨its,r,⟨o,e,_,n,d⟩,_⟩:=I.tuple h
 obtain ⟨its',r',⟨o',e',_,n',d'⟩,_⟩:=I.tuple h'
 rw [e] at e'; cases e'
 rw [d] at d'
 injection d' with d1 _
 have:its=its':=by simpa using congrArg Array.toList d1
 subst this
 exact r.inj r'
end
abbrev Cx.wish (X:Cx) (E:Value->Shared->Prop):Cx:={ X with xe:=E }
abbrev Cx.nox (X:Cx):Cx:=X.wish fun _ _=>False
theorem Cx.Ok.wish {X:Cx} (ok:X.Ok) (E:Value->Shared->Prop):(X.wish E).Ok:=
 ⟨ok.mod,ok.kind,ok.glob,ok.blt,ok.above,ok.inj,ok.has,ok.cab,ok.hd,ok.frames,ok.stk,ok.exf,ok.bs,ok.bsz,ok.noex,ok.exfs,ok.funs,ok.frf⟩
theorem Cx.Ok.unwish {X:Cx} {E:Value->Shared->Prop} (ok:(X.wish E).Ok):X.Ok:=
 ⟨ok.mod,ok.kind,ok.glob,ok.blt,ok.above,ok.inj,ok.has,ok.cab,ok.hd,ok.frames,ok.stk,ok.exf,ok.bs,ok.bsz,ok.noex,ok.exfs,ok.funs,ok.frf⟩
section
variable {X:Cx} {pins:List (Addr×Obj)} {σ:St} {H:Hp} {s:Shared} {E:Value->Shared->Prop}
theorem Inv.wish (I:Inv X pins σ H s) (E:Value->Shared->Prop):Inv (X.wish E) pins σ H s:=⟨I.ok.wish E,I.os,I.bare,I.base,I.loc,I.cell,I.free,I.freeC,I.pin,I.hok,I.len⟩
theorem Inv.unwish (I:Inv (X.wish E) pins σ H s):Inv X pins σ H s:=⟨I.ok.unwish,I.os,I.bare,I.base,I.loc,I.cell,I.free,I.freeC,I.pin,I.hok,I.len⟩
theorem SP.unwish {D:Ends} {f:Flow} {s':Shared} (h:SP (X.wish E) pins D f s'):SP X pins D f s':=by
 cases f with
 | next=>obtain ⟨σ',H',I,q⟩:=h; exact ⟨σ',H',I.unwish,q⟩
 | brk=>obtain ⟨σ',H',I,q⟩:=h; exact ⟨σ',H',I.unwish,q⟩
 | cont=>obtain ⟨σ',H',I,q⟩:=h; exact ⟨σ',H',I.unwish,q⟩
 | ret u=>obtain ⟨v,σ',H',I,r,q⟩:=h; exact ⟨v,σ',H',I.unwish,r,q⟩
theorem PSs.nox {st:List Stmt} {t:TS} (h:PSs X.nox st t):PSs X st t:=fun pins s σ H D I hw=>
 wpAny_mono (h pins s σ H D (I.wish _) hw) (fun _ _ q=>q.unwish) fun _ _ z=>False.elim z
end
section
variable {X:Cx} {st:Stmt} {rest:List Stmt} {t u:TS} {e:Expr} {te:TE} {pos:Pos}
def K1:TS:=fun D σ H=>D.nx σ H
def Ph (t u:TS):TS:=fun D σ H=>t { D with nx:=u D } σ H
theorem J1:PSs X [] K1:=fun _ _ σ H _ I h=>wpAny_execs_nil ⟨σ,H,I,h⟩
theorem Hw (h1:PS X st t) (h2:PSs X rest u):PSs X (st :: rest) (Ph t u):=by
 intro pins s σ H D I h
 refine wpAny_execs_cons (thn (h1 pins s σ H { D with nx:=u D } I h) fun f s1 q=>?_)
 cases f with
 | next=>
  obtain ⟨σ',H',I',q⟩:=q
  exact h2 pins s1 σ' H' D I' q
 | ret v=>exact q
 | brk=>exact q
 | cont=>exact q
theorem JK (h1:PS X st t):PSs X [st] t:=by
 intro pins s σ H D I h
 refine wpAny_execs_cons (thn (h1 pins s σ H D I h) fun f s1 q=>?_)
 cases f with
 | next=>exact wpAny_execs_nil q
 | ret v=>exact q
 | brk=>exact q
 | cont=>exact q
theorem Inv.quiet {pins:List (Addr×Obj)} {σ:St} {H:Hp} {s:Shared} (I:Inv X pins σ H s):interactive X.env=false:=by simp [interactive,I.ok.kind]
def FQ (te:TE):TS:=fun D σ H=>te σ H fun _ H1=>D.nx σ H1
theorem BJ (he:PE X e te) (hs:swapsWith e none pos.line X.env=pure false:=by rfl):PS X (.Expr e pos) (FQ te):=by
 intro pins s σ H D I h
 exact wpAny_Expr_any (thn (he pins s σ H _ I h) fun v s1 ⟨x,H1,I1,r1,q1⟩=>⟨σ,H1,I1,q1⟩) I.quiet hs
def Ld (te:TE):TS:=fun D σ H=>te σ H D.rt
theorem z_ (he:PE X e te):PS X (.Return (some e) pos) (Ld te):=by
 intro pins s σ H D I h
 exact wpAny_Return_some (thn (he pins s σ H _ I h) fun v s1 ⟨x,H1,I1,r1,q1⟩=>⟨x,σ,H1,I1,r1,q1⟩)
def Pk (c:TT) (t u:TS):TS:=fun D σ H=>c σ H fun b H1=>if b=true then t D σ H1 else u D σ H1
theorem KJ {c:Expr} {a b:List Stmt} {tc:TT} (hc:PT X c tc) (ha:PSs X a t) (hb:PSs X b u):PS X (.If c a b pos) (Pk tc t u):=by
 intro pins s σ H D I h
 refine wpAny_If (thn (hc pins s σ H _ I h) fun d s1 ⟨H1,I1,q1⟩=>?_)
 cases d with
 | true=>exact ha pins s1 σ H1 D I1 q1
 | false=>exact hb pins s1 σ H1 D I1 q1
end
abbrev TG:=V->St->Hp->(St->Hp->Prop)->Prop
abbrev TGs:=List V->St->Hp->(St->Hp->Prop)->Prop
def PG (X:Cx) (target:Expr) (t:TG):Prop:=
 ∀ (pins:List (Addr×Obj)) (s:Shared) (σ:St) (H:Hp) (v:V) (u:Value) (Q:St->Hp->Prop),Inv X pins σ H s->RelV v u->t v σ H Q->
  wpAny (model X.prog X.w) X.A (assign target X.env u) (fun _ s'=>∃ σ' H',Inv X pins σ' H' s'/\Q σ' H') X.xe s
def PGs (X:Cx) (ts:List Expr) (t:TGs):Prop:=
 ∀ (pins:List (Addr×Obj)) (s:Shared) (σ:St) (H:Hp) (vs:List V) (us:List Value) (Q:St->Hp->Prop),Inv X pins σ H s->Vals vs us->t vs σ H Q->
  wpAny (model X.prog X.w) X.A (assignInOrder ((assignEach ts X.env).map (·.2)) us) (fun _ s'=>∃ σ' H',Inv X pins σ' H' s'/\Q σ' H') X.xe s
abbrev Ej:=V->V->V->Hp->(Hp->Prop)->Prop
def J3 (X:Cx) (t:Ej):Prop:=
 ∀ (pins:List (Addr×Obj)) (s:Shared) (σ:St) (H:Hp) (o i v:V) (ov iv u:Value) (Q:Hp->Prop),Inv X pins σ H s->RelV o ov->RelV i iv->RelV v u->t o i v H Q->
  wpAny (model X.prog X.w) X.A (setItem ov iv u) (fun _ s'=>∃ H',Inv X pins σ H' s'/\Q H') X.xe s
abbrev TIp:=V->V->Hp->VK->Prop
def PIp (X:Cx) (op:Operator) (t:TIp):Prop:=
 ∀ (pins:List (Addr×Obj)) (s:Shared) (σ:St) (H:Hp) (x y:V) (v u:Value) (Q:VK),Inv X pins σ H s->RelV x v->RelV y u->t x y H Q->
  wpAny (model X.prog X.w) X.A (inplaceOp op v u) (EP X pins σ Q) X.xe s
section
variable {X:Cx} {pos:Pos}
def wB (i:Nat):TG:=fun v σ H Q=>Q (σ.set i (some v)) H
theorem wX {i:Nat} {x:Str} (hN:X.N.Nodup) (hi:X.N[i]? = some x) (hx:Loc X.env.scope x) (hf:X.fn x=true∨X.env.scope.names.lookup x=some .local:=by first | exact .inl rfl | exact .inr rfl | assumption):PG X (.Name x pos) (wB i):=by
 intro pins s σ H v u Q I r h
 exact wpAny_assign_Name (mR I hN hi hx r (fun s' I'=>⟨_,H,I',h⟩) hf)
def Jd:TGs:=fun vs σ H Q=>vs=[]/\Q σ H
def Hr (t:TG) (u:TGs):TGs:=fun vs σ H Q=>∃ v r,vs=v :: r/\t v σ H fun σ' H'=>u r σ' H' Q
theorem Cj:PGs X [] Jd:=by
 intro pins s σ H vs us Q I r h
 obtain ⟨e,h⟩:=h
 subst e
 cases r
 exact assignInOrder_nil ⟨σ,H,I,h⟩
theorem zf {e:Expr} {es:List Expr} {t:TG} {u:TGs} (h1:PG X e t) (h2:PGs X es u)
  (hs:(assignEach (e :: es) X.env).map (·.2)=assign e X.env :: (assignEach es X.env).map (·.2):=by rfl):PGs X (e :: es) (Hr t u):=by
 intro pins s σ H vs us Q I r h
 obtain ⟨v,vr,e1,h⟩:=h
 subst e1
 cases r with
 | cons r rr=>
  rw [hs]
  refine assignInOrder_cons (thn (h1 pins s σ H _ _ _ I r h) fun _ s1 ⟨σ1,H1,I1,q1⟩=>?_)
  exact h2 pins s1 σ1 H1 _ _ Q I1 rr q1
def Mh (K:PySem.W.Frag) (n:Nat) (t:TGs):TG:=fun v σ H Q=>∃ a xs,v = .ref a/\SqT K H a xs/\xs.length=n/\t xs σ H Q
theorem Eu {es:List Expr} {k:Nat} {t:TGs} {n:Nat} (hc:X.calm=true) (h:PGs X es t)
  (hn:(assignEach es X.env).length=n:=by rfl) (hst:(assignEach es X.env).findIdx? (·.1)=none:=by rfl):PG X (.Tuple es k pos) (Mh X.K n t):=by
 intro pins s σ H v u Q I r hw
 obtain ⟨a,xs,e1,hq,hl,hw⟩:=hw
 subst e1
 cases r
 obtain ⟨its,rv,ht,hz⟩:=I.tuple hq
 refine assign_Tuple_tuple (I.ok.hd hc) ht (by simp [hn,← hl,rv.length]) hst fun h' hx=>?_
 have I1:Inv X pins σ H { s with heap:=h' }:=I.kept (t':=s.toks) fun b o e=>hx b o (Nat.ne_of_lt (Heap.lt_size e)) e
 exact h pins _ σ H xs _ Q I1 (by simpa using rv) hw
def lA (to ti:TE) (t:Ej):TG:=fun v σ H Q=>to σ H fun o H1=>ti σ H1 fun i H2=>t o i v H2 fun H3=>Q σ H3
theorem Lp {o i:Expr} {to ti:TE} {t:Ej} (ho:PE X o to) (hi:PE X i ti) (hs:J3 X t)
  (ha:∀ v,assign (.Subscript o i pos) X.env v=(do
   let ov ← holding [v] (eval o X.env)
   let iv ← holding [v,ov] (eval i X.env)
   standAt pos
   holding [v,ov,iv] (setItem ov iv v)
   release [v,ov,iv] []):=by intro _; rfl):PG X (.Subscript o i pos) (lA to ti t):=by
 intro pins s σ H v u Q I r h
 rw [ha]
 refine wpAny_bind (wpAny_holding (thn (ho pins s σ H _ I h) fun ov s1 ⟨x,H1,I1,r1,q1⟩=>?_))
 refine wpAny_bind (wpAny_holding (thn (hi pins s1 σ H1 _ I1 q1) fun iv s2 ⟨y,H2,I2,r2,q2⟩=>?_))
 refine wpAny_bind (wpAny_standAt (wpAny_bind (wpAny_holding (thn (hs pins s2 σ H2 x y v ov iv u _ I2 r1 r2 r q2) fun _ s3 ⟨H3,I3,q3⟩=>?_))))
 exact wpAny_release ⟨σ,H3,I3,q3⟩
def Je (te:TE) (g:TG):TS:=fun D σ H=>te σ H fun x H1=>g x σ H1 D.nx
theorem Fd {tg e:Expr} {te:TE} {g:TG} (he:PE X e te) (hg:PG X tg g) (hs:swapsWithSole [tg] e pos.line X.env=pure false:=by rfl) (hw:swappedStores [tg] e X.env=pure none:=by rfl)
  (h1:(assignEach [tg] X.env).map (·.2)=[assign tg X.env]:=by rfl):PS X (.Assign [tg] e pos) (Je te g):=by
 intro pins s σ H D I h
 refine wpAny_Assign_stores (thn (he pins s σ H _ I h) fun v s1 ⟨x,H1,I1,r1,q1⟩=>?_) hs hw
 rw [h1]
 exact thn (hg pins s1 σ H1 x v _ I1 r1 q1) fun _ s2 q=>q
theorem FP {i:Nat} {x:Str} {e:Expr} {te:TE} {pos':Pos} (hN:X.N.Nodup) (hi:X.N[i]? = some x) (hx:Loc X.env.scope x) (he:PE X e te) (hs:swapsWith e (some (.Name x pos')) pos.line X.env=pure false:=by rfl) (hf:X.fn x=true∨X.env.scope.names.lookup x=some .local:=by first | exact .inl rfl | exact .inr rfl | assumption) :
  PS X (.Assign [.Name x pos'] e pos) (Je te (wB i)):=by
 intro pins s σ H D I h
 refine wpAny_Assign_Name (thn (he pins s σ H _ I h) fun v s1 ⟨y,H1,I1,r1,q1⟩=>?_) hs
 exact mR I1 hN hi hx r1 (fun s2 I2=>⟨_,H1,I2,q1⟩) hf
def Pz (i j:Nat) (ta:TA):TS:=fun D σ H=>ta σ H fun vs H1=>∃ v w,vs=[v,w]/\D.nx ((σ.set i (some v)).set j (some w)) H1
theorem Fb {i j:Nat} {x y:Str} {a b:Expr} {ta:TA} {px py pt:Pos} {kt k2 pt2} (hc:X.calm=true) (hN:X.N.Nodup) (hi:X.N[i]? = some x) (hj:X.N[j]? = some y) (hij:i≠j)
  (hx:X.env.scope.names.lookup x=some .local) (hy:X.env.scope.names.lookup y=some .local) (ha:PA X [a,b] ta)
  (hw:swappedStores [.Tuple [.Name x px,.Name y py] kt pt] (.Tuple [a,b] k2 pt2) X.env=pure (some [x,y]))
  (hs:swapsWithSole [.Tuple [.Name x px,.Name y py] kt pt] (.Tuple [a,b] k2 pt2) pos.line X.env=pure false:=by rfl) :
  PS X (.Assign [.Tuple [.Name x px,.Name y py] kt pt] (.Tuple [a,b] k2 pt2) pos) (Pz i j ta):=by
 intro pins s σ H D I h
 rw [exec_Assign_arm]
 refine wpAny_bind (wpAny_standAt ?_)
 rw [hs]
 refine wpAny_bind (wpAny_pure ?_)
 rw [if_neg (by decide)]
 refine wpAny_bind (Tuple_ (thn (ha _ pins s σ H _ I h) fun us s1 ⟨vs,H1,I1,r1,q1⟩=>?_))
 obtain ⟨v,w,e1,q1⟩:=q1
 subst e1
 obtain ⟨u1,u2,rfl,rv,rw'⟩:∃ u1 u2,us=[u1,u2]/\RelV v u1/\RelV w u2:=by
  cases r1 with
  | cons p q=>
   cases q with
   | cons p' q'=>
    cases q'
    exact ⟨_,_,rfl,p,p'⟩
 refine wpAny_newObj_type ?_ (by show 2<=sizeLine; decide)
 have I2:Inv X pins σ H1 { s1 with heap:=s1.heap.push { cls:=.type "tuple",data:=.seq [u1,u2].toArray } }:=I1.kept (t':=s1.toks) fun b o e=>Heap.get?_push_of_some _ e
 rw [hw]
 refine wpAny_bind (wpAny_pure ?_)
 show wpAny (model X.prog X.w) X.A (do rule "assign.swapped-stores"; let items ← unpackItems (.ref s1.heap.objs.size) 2 none; assignInOrder [fun v=>bindName X.env y v,fun v=>bindName X.env x v] items.reverse; pure Flow.next) _ _ _
 refine wpAny_bind (wpAny_rule (wpAny_bind (unpackItems_tuple (items:=#[u1,u2]) (I.ok.hd hc) (IsTup.new s1.heap _) fun h' hx'=>?_)))
 have I3:=I2.kept (h':=h') (t':=s1.toks) fun b o e=>hx' b o (Nat.ne_of_lt (Heap.lt_size e)) e
 show wpAny _ _ (assignInOrder [fun v=>bindName X.env y v,fun v=>bindName X.env x v] [u2,u1] >>= fun _=>pure Flow.next) _ _ _
 refine wpAny_bind (assignInOrder_cons (wpAny_bindName (mR I3 hN hj (.inl hy) rw' (fun s2 I4=>?_) (.inr hy))))
 refine assignInOrder_cons (wpAny_bindName (mR I4 hN hi (.inl hx) rv (fun s3 I5=>assignInOrder_nil (wpAny_pure ?_)) (.inr hx)))
 rw [List.set_comm _ _ (Ne.symm hij)] at I5
 exact ⟨_,H1,I5,q1⟩
def O4 (i:Nat) (te:TE) (ti:TIp):TS:=fun D σ H=>∃ x,σ[i]? = some (some x)/\te σ H fun y H1=>ti x y H1 fun z H2=>D.nx (σ.set i (some z)) H2
theorem M9 {i:Nat} {x:Str} {e:Expr} {te:TE} {op:Operator} {ti:TIp} {pos':Pos} (hN:X.N.Nodup) (hi:X.N[i]? = some x) (hx:Loc X.env.scope x) (he:PE X e te) (ho:PIp X op ti) (hf:X.fn x=true∨X.env.scope.names.lookup x=some .local:=by first | exact .inl rfl | exact .inr rfl | assumption) :
  PS X (.AugAssign (.Name x pos') op e pos) (O4 i te ti):=by
 intro pins s σ H D I h
 obtain ⟨v,e1,h⟩:=h
 obtain ⟨m,hn,hl⟩:=I.loc
 have vis:Vis X.env.scope x:=by rcases hx with k | k; exact .inl k; exact .inr (.inl k)
 obtain ⟨u,r,l⟩:=hl i x v hi e1 vis
 refine wpAny_AugAssign_Name ?_
 have go:wpAny (model X.prog X.w) X.A (eval e X.env) (fun w s₂=>wpAny (model X.prog X.w) X.A (inplaceOp op u w) (fun r s₃=>wpAny (model X.prog X.w) X.A (storeName X.env x r) (fun _=>SP X pins D .next) X.xe s₃) X.xe s₂) X.xe s:=by
  refine thn (he pins s σ H _ I h) fun w s1 ⟨y,H1,I1,r1,q1⟩=>?_
  refine thn (ho pins s1 σ H1 v y u w _ I1 r r1 q1) fun z s2 ⟨zv,H2,I2,r2,q2⟩=>?_
  exact mR I2 hN hi hx r2 (fun s3 I3=>⟨_,H2,I3,q2⟩) hf
 rcases l with ⟨hk,hm⟩ | ⟨hk,c,hc,hcell⟩
 .exact wpAny_loadName_local I.ok.kind hk hn hm go
 .rcases hk with hk | hk
  .exact wpAny_loadName_cell I.ok.kind hk hc hcell go
  .rcases hx with k | k
   .have:X.env.scope.names.lookup x=some .free:=hk
    rw [k] at this; cases this
   .have:X.env.scope.names.lookup x=some .free:=hk
    rw [k] at this; cases this
def ipI (f:Int->Int->Int):TIp:=fun x y H Q=>∃ i j,x = .int i/\y = .int j/\Q (.int (f i j)) H
theorem Ln:PIp X .Add (ipI fun i j=>i + j):=by
 intro pins s σ H x y v u Q I r1 r2 h
 obtain ⟨i,j,e1,e2,q⟩:=h
 subst e1; subst e2
 obtain ⟨t,rfl⟩:=r1
 obtain ⟨t',rfl⟩:=r2
 exact iadd_int ⟨.int _,H,I.tok _,⟨_,rfl⟩,q⟩
end
structure It where
 go:Nat->Hp->Prop
 yld:Nat->Hp->V->Hp->Prop
 stop:Nat->Hp->Prop
def m6 (X:Cx) (pins:List (Addr×Obj)) (H:Hp) (b:Addr):Prop:=
 H b=none/\b≠X.env.locals/\b∉X.fs/\(b∈X.ex∨X.s₀.heap.objs.size<=b)/\(∀ x c,X.env.cells.lookup x=some c->c≠b)/\∀ p∈X.pn++pins,p.1≠b
theorem Inv.fpOk {X:Cx} {pins:List (Addr×Obj)} {σ:St} {H H':Hp} {s:Shared} {b:Addr} (I:Inv X pins σ H s) (hb:s.heap.objs.size<=b) (hn:H' b=none):m6 X pins H' b:=by
 refine ⟨hn,Nat.ne_of_gt (Nat.lt_of_lt_of_le I.lt hb),I.nofs hb,.inr (Nat.le_trans I.sz hb),fun x c e z=>?_,fun p hp z=>?_⟩
 .obtain ⟨v,q⟩:=I.cell x c e
  exact absurd (Nat.lt_of_lt_of_le q.lt (by rw [z]; exact hb)) (Nat.lt_irrefl _)
 .exact absurd (Nat.lt_of_lt_of_le (Heap.lt_size (I.pin p hp).1) (by rw [z]; exact hb)) (Nat.lt_irrefl _)
structure Turn (P:Program) (w:World) (K:PySem.W.Frag) (tg:Expr) (J:It) (fp:List Addr) (it:Addr) (tn:Nat->Heap->Prop):Prop where
 mem:it∈fp
 obj:∀ i h,tn i h->∀ b∈fp,∃ o,h.get? b=some o/\∀ v,o.data≠.cell v
 keep:∀ i h h',tn i h->(∀ b∈fp,∀ o,h.get? b=some o->h'.get? b=some o)->tn i h'
 item:∀ (X:Cx),X.prog=P->X.w=w->X.K=K->X.calm=true->∀ (i:Nat) (pins:List (Addr×Obj)) (s:Shared) (σ:St) (H:Hp) (E:Value->Shared->Prop),Inv X pins σ H s->(∀ b∈fp,m6 X pins H b)->tn i s.heap->J.go i H->
  wpAny (model P w) X.A (pyNext (.ref it)) (fun r s1=>∃ u,r=some u/\
   wpAny (model P w) X.A (letOwnedTupleGo tg (.ref it) u) (fun _ s2=>∃ x H',Inv X pins σ H' s2/\RelV x u/\J.yld i H x H'/\tn (i + 1) s2.heap/\∀ b∈fp,H' b=none) E s1) E s
 done:∀ (X:Cx),X.prog=P->X.w=w->X.K=K->X.calm=true->∀ (i:Nat) (pins:List (Addr×Obj)) (s:Shared) (σ:St) (H:Hp) (E:Value->Shared->Prop),Inv X pins σ H s->(∀ b∈fp,m6 X pins H b)->tn i s.heap->J.stop i H->
  wpAny (model P w) X.A (pyNext (.ref it)) (fun r s1=>r=none/\Inv X pins σ H s1) E s
 self:∀ (A:Around) (i:Nat) (s:Shared) (Q:Value->Shared->Prop) (E:Value->Shared->Prop),tn i s.heap->Q (.ref it) s->wpAny (model P w) A (pyIter (.ref it)) Q E s
abbrev TI:=St->Hp->(It->Hp->Prop)->Prop
def PIE (X:Cx) (pins:List (Addr×Obj)) (σ:St) (tg:Expr) (R:It->Hp->Prop) (itv:Value) (s2:Shared):Prop:=
 ∃ (it:Addr) (fp:List Addr) (tn:Nat->Heap->Prop) (J:It) (H':Hp),itv = .ref it/\Inv X pins σ H' s2/\Turn X.prog X.w X.K tg J fp it tn/\tn 0 s2.heap/\(∀ b∈fp,m6 X pins H' b)/\R J H'
def PI (X:Cx) (tg iter:Expr) (wi:TI):Prop:=
 ∀ (pins:List (Addr×Obj)) (s:Shared) (σ:St) (H:Hp) (R:It->Hp->Prop),Inv X pins σ H s->wi σ H R->
  wpAny (model X.prog X.w) X.A (eval iter X.env) (fun v s1=>wpAny (model X.prog X.w) X.A (pyIter v) (PIE X pins σ tg R) X.xe s1) X.xe s
theorem GX {M:Model} {A:Around} {E:Value->Shared->Prop} {s:Shared} {tg:Expr} {it:Addr} {u:Value} {o:Obj} {n:String} {vs:Array Value} {Q:Unit->Shared->Prop} (ho:s.heap.get? it=some o) (hc:o.cls = .type n) (hd:o.data = .fields vs)
    (hn:["enumerate", "zip", "dict_itemiterator", "dict_reverseitemiterator", "odict_iterator", "itertools.zip_longest", "itertools.pairwise"].contains n=false) (hQ:Q () s):wpAny M A (letOwnedTupleGo tg (.ref it) u) Q E s:=by
  unfold letOwnedTupleGo
  cases tg <;> first
    | exact wpAny_pure hQ
    | (cases u <;> first
        | exact wpAny_pure hQ
        | (refine wpAny_bind (wpAny_load ho ?_)
           rw [hc,hd]
           show wpAny M A (if (["enumerate", "zip", "dict_itemiterator", "dict_reverseitemiterator", "odict_iterator", "itertools.zip_longest", "itertools.pairwise"].contains n && vs[0]? == some (rawInt _))=true then _ else _) Q E s
           rw [if_neg (by intro h; rw [hn,Bool.false_and] at h; cases h)]
           exact wpAny_pure hQ))
def Itl (K:PySem.W.Frag) (a:Addr):It:=
 ⟨fun i H=>∃ xs x,SqL K H a xs/\xs[i]? = some x,fun i H x H'=>H'=H/\∀ xs,SqL K H a xs->xs[i]? = some x,fun i H=>∃ xs,SqL K H a xs/\xs.length<=i⟩
def Itt (K:PySem.W.Frag) (a:Addr):It:=
 ⟨fun i H=>∃ xs x,SqT K H a xs/\xs[i]? = some x,fun i H x H'=>H'=H/\∀ xs,SqT K H a xs->xs[i]? = some x,fun i H=>∃ xs,SqT K H a xs/\xs.length<=i⟩
def Itr (lo:Int) (n:Nat):It:=⟨fun i _=>i < n,fun i H x H'=>H'=H/\x = .int (lo + i),fun i _=>n<=i⟩
theorem Dp {P:Program} {w:World} {K:PySem.W.Frag} {tg:Expr} (a it:Addr):Turn P w K tg (Itl K a) [it] it (fun i h=>h.IsListIter it a i) where
 mem:=by simp
 obj:=fun i h st b hb=>by
  have e:b=it:=by simpa using hb
  subst e
  obtain ⟨o,e,c,d⟩:=st
  exact ⟨o,e,fun v z=>by rw [d] at z; cases z⟩
 keep:=fun i h h' st k=>st.at fun o e=>k it (by simp) o e
 item:=by
  intro X hP hw hK hc i pins s σ H E I hf st hg
  subst hP hw hK
  obtain ⟨xs,x,hq,hx⟩:=hg
  obtain ⟨its,rv,p,hz⟩:=I.list hq
  obtain ⟨u,hu,ru⟩:=rv.get hx
  obtain ⟨f0,f1,f2,f3,f4,f5⟩:=hf it (by simp)
  refine wpAny_pyNext_list_item st p.isList (x:=u) (by simpa using hu) fun h' st' sb=>?_
  have I1:Inv X pins σ H { s with heap:=h' }:=I.turned (t':=s.toks) (fun b o hb e=>(sb.2 b hb).trans e) f0 f1 f3 f4 f5
  obtain ⟨o,e,c,d⟩:=id st'
  exact ⟨u,rfl,GX (s:={ s with heap:=h' }) e c d (by decide) ⟨x,H,I1,ru,⟨rfl,fun ys hy=>by rw [I.list_inj hy hq]; exact hx⟩,st',fun b hb=>(hf b hb).1⟩⟩
 done:=by
  intro X hP hw hK hc i pins s σ H E I hf st hg
  subst hP hw hK
  obtain ⟨xs,hq,hx⟩:=hg
  obtain ⟨its,rv,p,hz⟩:=I.list hq
  obtain ⟨f0,f1,f2,f3,f4,f5⟩:=hf it (by simp)
  have hl:=rv.length
  exact wpAny_pyNext_list_end (I.ok.hd hc) st p.isList (by simp; omega) fun h' eb=>⟨rfl,I.turned (t':=s.toks) (fun b o hb e=>eb b o hb e) f0 f1 f3 f4 f5⟩
 self:=fun _ _ _ _ _ st h=>wpAny_pyIter_listiter st h
theorem Af {P:Program} {w:World} {K:PySem.W.Frag} {tg:Expr} (a it:Addr):Turn P w K tg (Itt K a) [it] it (fun i h=>h.IsTupleIter it a i) where
 mem:=by simp
 obj:=fun i h st b hb=>by
  have e:b=it:=by simpa using hb
  subst e
  obtain ⟨o,e,c,d⟩:=st
  exact ⟨o,e,fun v z=>by rw [d] at z; cases z⟩
 keep:=fun i h h' st k=>st.at fun o e=>k it (by simp) o e
 item:=by
  intro X hP hw hK hc i pins s σ H E I hf st hg
  subst hP hw hK
  obtain ⟨xs,x,hq,hx⟩:=hg
  obtain ⟨its,rv,p,hz⟩:=I.tuple hq
  obtain ⟨u,hu,ru⟩:=rv.get hx
  obtain ⟨f0,f1,f2,f3,f4,f5⟩:=hf it (by simp)
  refine wpAny_pyNext_tuple_item st (show s.heap.IsTuple a its.toArray from p) (x:=u) (by simpa using hu) fun h' st' sb=>?_
  have I1:Inv X pins σ H { s with heap:=h' }:=I.turned (t':=s.toks) (fun b o hb e=>(sb.2 b hb).trans e) f0 f1 f3 f4 f5
  obtain ⟨o,e,c,d⟩:=id st'
  exact ⟨u,rfl,GX (s:={ s with heap:=h' }) e c d (by decide) ⟨x,H,I1,ru,⟨rfl,fun ys hy=>by rw [I.tuple_inj hy hq]; exact hx⟩,st',fun b hb=>(hf b hb).1⟩⟩
 done:=by
  intro X hP hw hK hc i pins s σ H E I hf st hg
  subst hP hw hK
  obtain ⟨xs,hq,hx⟩:=hg
  obtain ⟨its,rv,p,hz⟩:=I.tuple hq
  obtain ⟨f0,f1,f2,f3,f4,f5⟩:=hf it (by simp)
  have hl:=rv.length
  exact wpAny_pyNext_tuple_end (I.ok.hd hc) st (show s.heap.IsTuple a its.toArray from p) (by simp; omega) fun h' eb=>⟨rfl,I.turned (t':=s.toks) (fun b o hb e=>eb b o hb e) f0 f1 f3 f4 f5⟩
 self:=fun _ _ _ _ _ st h=>wpAny_pyIter_tupleiter st h
theorem zT {P:Program} {w:World} {K:PySem.W.Frag} {tg:Expr} (it:Addr) (lo:Int) (n:Nat):Turn P w K tg (Itr lo n) [it] it (fun i h=>IsRangeIter h it (lo + (i:Nat) * 1) ((n:Int) - (i:Nat)) 1) where
 mem:=by simp
 obj:=fun i h st b hb=>by
  have e:b=it:=by simpa using hb
  subst e
  exact ⟨_,st,fun v z=>by
   have z':Data.fields _=Data.cell v:=z
   cases z'⟩
 keep:=fun i h h' st k=>k it (by simp) _ st
 item:=by
  intro X hP hw hK hc i pins s σ H E I hf st hg
  subst hP hw hK
  obtain ⟨f0,f1,f2,f3,f4,f5⟩:=hf it (by simp)
  have W:=Walks.range (prog:=X.prog) (w:=X.w) (I.ok.hd hc) it lo 1 n
  refine W.item i s _ _ hg st fun v h' tk hv st' kk=>?_
  obtain ⟨t,rfl⟩:=hv
  have I1:Inv X pins σ H { s with heap:=h',toks:=tk }:=I.turned (fun b o hb e=>kk b o (by simpa using hb) e) f0 f1 f3 f4 f5
  refine ⟨_,rfl,GX (s:={ s with heap:=h',toks:=tk }) (n:="range_iterator") st' rfl rfl (by decide) ⟨.int (lo + i),H,I1,⟨t,?_⟩,⟨rfl,rfl⟩,st',fun b hb=>(hf b hb).1⟩⟩
  rw [Int.mul_one]
 done:=by
  intro X hP hw hK hc i pins s σ H E I hf st hg
  subst hP hw hK
  obtain ⟨f0,f1,f2,f3,f4,f5⟩:=hf it (by simp)
  exact wpAny_pyNext_range_end (I.ok.hd hc) st (by have:n<=i:=hg; omega) fun h' eb=>⟨rfl,I.turned (t':=s.toks) (fun b o hb e=>eb b o hb e) f0 f1 f3 f4 f5⟩
 self:=fun _ _ _ _ _ st h=>wpAny_pyIter_rangeiter st h
section
variable {X:Cx} {tg:Expr}
theorem G_ {pins:List (Addr×Obj)} {σ:St} {H:Hp} {s:Shared} {R:It->Hp->Prop} {E:Value->Shared->Prop} {lo hi:Int} {t u v:Tok} {tk:Nat} (I:Inv X pins σ H s) (h1 : -(2 ^ 62)<=lo) (h2:lo < 2 ^ 62) (h3 : -(2 ^ 62)<=hi) (h4:hi < 2 ^ 62)
  (q:R (Itr lo (hi - lo).toNat) H):wpAny (model X.prog X.w) X.A (pyIter (.ref s.heap.objs.size)) (PIE X pins σ tg R) E { s with heap:=s.heap.push { cls:=.type "range",data:=.fields #[.int lo t,.int hi u,.int 1 v] },toks:=tk }:=by
 refine wpAny_pyIter_range (IsRange.new ..) (small_one h1 h2 h3 h4) ?_
 have I1:Inv X pins σ H { s with heap:=s.heap.push { cls:=.type "range",data:=.fields #[.int lo t,.int hi u,.int 1 v] },toks:=tk }:=I.kept fun b o e=>Heap.get?_push_of_some _ e
 refine ⟨(s.heap.push { cls:=.type "range",data:=.fields #[.int lo t,.int hi u,.int 1 v] }).objs.size,[(s.heap.push { cls:=.type "range",data:=.fields #[.int lo t,.int hi u,.int 1 v] }).objs.size],_,_,H,rfl,
  I1.kept (t':=tk) fun b o e=>Heap.get?_push_of_some _ e,zT _ lo (hi - lo).toNat,?_,fun b hb=>?_,q⟩
 .have e1:lo + ((0:Nat):Int) * 1=lo:=by simp
  have e2:(((hi - lo).toNat:Nat):Int) - ((0:Nat):Int)=Builtin.Range.rangeSize lo hi 1:=by rw [rangeSize_one]; split <;> omega
  show IsRangeIter _ _ (lo + ((0:Nat):Int) * 1) ((((hi - lo).toNat:Nat):Int) - ((0:Nat):Int)) 1
  rw [e1,e2]
  exact Heap.get?_push_size _ rfl
 .have e:b=(s.heap.push { cls:=.type "range",data:=.fields #[.int lo t,.int hi u,.int 1 v] }).objs.size:=by simpa using hb
  subst e
  exact I1.fpOk (Nat.le_refl _) (I1.hok.fresh (Nat.le_refl _))
def HY (ta:TA):TI:=fun σ H R=>ta σ H fun vs H1=>∃ j:Int,vs=[.int j]/\-(2 ^ 62)<=j/\j < 2 ^ 62/\R (Itr 0 j.toNat) H1
theorem wy {a:Expr} {ta:TA} {p pos:Pos} (hg:Gl X "range") (hm:X.mg "range" = none) (ha:PA X [a] ta) (hs:starEach [a] X.env=[(false,eval a X.env)]:=by rfl):PI X tg (.Call (.Name "range" p) [a] [] pos) (HY ta):=by
 intro pins s σ H R I h
 refine Call_ (pX I hg hm boot_range (PyProof.Rows.callWith_type1 (thn (ha pos pins s σ H _ I h) fun us s1 ⟨vs,H1,I1,r1,q1⟩=>?_) hs rfl))
 obtain ⟨j,e,q1,q2,q⟩:=q1
 subst e
 cases r1 with
 | cons r rr=>
  cases rr
  obtain ⟨t,rfl⟩:=r
  exact call_range_1 (G_ I1 (by omega) (by omega) q1 q2 (by simpa using q))
def K9 (wi:TI) (g:TG) (tb:TS):TS:=fun D σ H=>wi σ H fun J H1=>∃ W:Nat->Nat->St->Hp->Prop,(∃ m,W 0 m σ H1)/\∀ i m σ H,W i m σ H->
 (J.stop i H/\D.nx σ H)∨(J.go i H/\∃ N:St->Hp->Prop,(∀ σ' H',N σ' H'->∃ m',m' < m/\W (i + 1) m' σ' H')/\∀ x H',J.yld i H x H'->g x σ H' fun σ2 H2=>tb { D with nx:=N,ct:=N,bk:=D.nx } σ2 H2)
def qb (fp:List Addr) (h:Heap):List (Addr×Obj):=fp.filterMap fun b=>(h.get? b).map fun o=>(b,o)
theorem jK {fp:List Addr} {h:Heap} {b:Addr} {o:Obj} (hb:b∈fp) (e:h.get? b=some o):(b,o)∈qb fp h:=List.mem_filterMap.mpr ⟨b,hb,by rw [e]; rfl⟩
theorem vY {fp:List Addr} {h:Heap} {p:Addr×Obj} (hp:p∈qb fp h):p.1∈fp/\h.get? p.1=some p.2:=by
 obtain ⟨b,hb,e⟩:=List.mem_filterMap.mp hp
 cases q:h.get? b with
 | none=>rw [q] at e; cases e
 | some o=>
  rw [q] at e
  have e':(b,o)=p:=Option.some.inj e
  subst e'
  exact ⟨hb,q⟩
theorem Inv.pinned {pins:List (Addr×Obj)} {σ:St} {H:Hp} {s:Shared} {fp:List Addr} (I:Inv X pins σ H s) (hf:∀ b∈fp,m6 X pins H b) (ho:∀ b∈fp,∃ o,s.heap.get? b=some o/\∀ v,o.data≠.cell v):Inv X (pins++qb fp s.heap) σ H s:=
 I.pins_of fun p hp=>(List.mem_append.mp hp).elim (fun z=>I.pin p (List.mem_append_right _ z)) fun z=>by
  obtain ⟨hb,e⟩:=vY z
  obtain ⟨f0,f1,f2,_⟩:=hf p.1 hb
  obtain ⟨o,e',d⟩:=ho p.1 hb
  rw [e] at e'; cases e'
  exact ⟨e,f0,f1,f2,d⟩
theorem Inv.unpinned {pins pl:List (Addr×Obj)} {σ:St} {H:Hp} {s:Shared} (I:Inv X (pins++pl) σ H s):Inv X pins σ H s:=I.pins_of fun p hp=>I.pin p (List.mem_append_right _ (List.mem_append_left _ hp))
theorem Gy {iter:Expr} {body:List Stmt} {wi:TI} {g:TG} {tb:TS} {pos:Pos} (hp:PassesOwn (model X.prog X.w) X.A X.env X.xe) (hc:X.calm=true) (hi:PI X tg iter wi) (hg:PG X tg g) (hb:PSs X body tb)
  (hs:∀ x,foldedSetIterable iter X.env x=pure x:=by intro _; rfl):PS X (.For tg iter body [] pos) (K9 wi g tb):=by
 intro pins s σ H D I h
 refine wpAny_For (thn (hi pins s σ H _ I h) fun v s1 h1=>thn h1 fun itv s2 h2=>?_) hs
 obtain ⟨it,fp,tn,J,H2,e,I2,T,st2,f2,W,⟨m0,w0⟩,turn⟩:=h2
 subst e
 have stat:∀ {H':Hp},(∀ b∈fp,H' b=none)->∀ b∈fp,m6 X pins H' b:=fun hn b hb=>⟨hn b hb,(f2 b hb).2⟩
 refine codeAny_forLoop_any (fun n s'=>∃ i σ' H',Inv X pins σ' H' s'/\tn i s'.heap/\(∀ b∈fp,H' b=none)/\W i n σ' H') ?_ m0 ⟨0,σ,H2,I2,st2,fun b hb=>(f2 b hb).1,w0⟩
 rintro n s3 ⟨i,σ3,H3,I3,st3,fr3,w3⟩
 rcases turn i n σ3 H3 w3 with ⟨stop,qn⟩ | ⟨go,N,hN,step⟩
 .refine wpAny_passesOwn hp (thn (T.done X rfl rfl rfl hc i pins s3 σ3 H3 X.xe I3 (stat fr3) st3 stop) fun r s4 ⟨hr,I4⟩=>?_)
  subst hr
  exact wpAny_execs_nil ⟨σ3,H3,I4,qn⟩
 .refine wpAny_passesOwn hp (thn (T.item X rfl rfl rfl hc i pins s3 σ3 H3 X.xe I3 (stat fr3) st3 go) fun r s4 ⟨u,hr,h4⟩=>?_)
  subst hr
  refine wpAny_passesOwn hp (thn h4 fun _ s5 ⟨x,H5,I5,r5,y5,st5,fr5⟩=>?_)
  have I5':=I5.pinned (stat fr5) (T.obj _ _ st5)
  refine wpAny_passesOwn hp (thn (hg _ s5 σ3 H5 x u _ I5' r5 (step x H5 y5)) fun _ s6 ⟨σ6,H6,I6,q6⟩=>?_)
  refine wpAny_passesOwn hp (thn (hb _ s6 σ6 H6 _ I6 q6) fun f s7 q7=>?_)
  have again:∀ {σ7:St} {H7:Hp},Inv X (pins++qb fp s5.heap) σ7 H7 s7->N σ7 H7->∃ m,m < n/\∃ i σ' H',Inv X pins σ' H' s7/\tn i s7.heap/\(∀ b∈fp,H' b=none)/\W i m σ' H':=fun {σ7 H7} I7 n7=>by
   obtain ⟨m',hm,w7⟩:=hN σ7 H7 n7
   refine ⟨m',hm,i + 1,σ7,H7,I7.unpinned,T.keep _ _ _ st5 fun b hb o e=>(I7.pin (b,o) (List.mem_append_right _ (List.mem_append_right _ (jK hb e)))).1,fun b hb=>?_,w7⟩
   obtain ⟨o,e,d⟩:=T.obj _ _ st5 b hb
   exact (I7.pin (b,o) (List.mem_append_right _ (List.mem_append_right _ (jK hb e)))).2.1
  cases f with
  | next=>obtain ⟨σ7,H7,I7,n7⟩:=q7; exact again I7 n7
  | cont=>obtain ⟨σ7,H7,I7,n7⟩:=q7; exact again I7 n7
  | brk=>obtain ⟨σ7,H7,I7,q7⟩:=q7; exact ⟨σ7,H7,I7.unpinned,q7⟩
  | ret v=>obtain ⟨x7,σ7,H7,I7,r7,q7⟩:=q7; exact ⟨x7,σ7,H7,I7.unpinned,r7,q7⟩
end
abbrev R2:=V->V->Hp->VK->Prop
def OpR (X:Cx) (f:Value->Value->Sem Value) (r:R2):Prop:=
 ∀ (pins:List (Addr×Obj)) (s:Shared) (σ:St) (H:Hp) (x y:V) (v u:Value) (Q:VK),Inv X pins σ H s->RelV x v->RelV y u->r x y H Q->
  wpAny (model X.prog X.w) X.A (f v u) (EP X pins σ Q) X.xe s
def UnR (X:Cx) (f:Value->Sem Value) (r:V->Hp->VK->Prop):Prop:=
 ∀ (pins:List (Addr×Obj)) (s:Shared) (σ:St) (H:Hp) (x:V) (v:Value) (Q:VK),Inv X pins σ H s->RelV x v->r x H Q->
  wpAny (model X.prog X.w) X.A (f v) (EP X pins σ Q) X.xe s
def iD (X:Cx) (f:Value) (r:List V->Hp->VK->Prop):Prop:=
 ∀ (pins:List (Addr×Obj)) (s:Shared) (σ:St) (H:Hp) (xs:List V) (us:List Value) (Q:VK),Inv X pins σ H s->Vals xs us->r xs H Q->
  wpAny (model X.prog X.w) X.A (call f us) (EP X pins σ Q) X.xe s
def QH (X:Cx) (r:V->Hp->(Bool->Hp->Prop)->Prop):Prop:=
 ∀ (pins:List (Addr×Obj)) (s:Shared) (σ:St) (H:Hp) (x:V) (v:Value) (Q:Bool->Hp->Prop),Inv X pins σ H s->RelV x v->r x H Q->
  wpAny (model X.prog X.w) X.A (truthy v) (TP X pins σ Q) X.xe s
def tOp (r:R2) (ta tb:TE):TE:=fun σ H Q=>ta σ H fun x H1=>tb σ H1 fun y H2=>r x y H2 Q
def tUn (r:V->Hp->VK->Prop) (ta:TE):TE:=fun σ H Q=>ta σ H fun x H1=>r x H1 Q
def rI (C:Int->Int->Prop) (g:Int->Int->V):R2:=fun x y H Q=>∃ i j,x = .int i/\y = .int j/\C i j/\Q (g i j) H
def rI0 (g:Int->Int->V):R2:=fun x y H Q=>∃ i j,x = .int i/\y = .int j/\Q (g i j) H
def rU (g:Int->V):V->Hp->VK->Prop:=fun x H Q=>∃ i,x = .int i/\Q (g i) H
section
variable {X:Cx} {a b c:Expr} {ta tb tc:TE} {pos:Pos}
theorem LQ (ha:PE X a ta) (hb:PE X b tb) {pins:List (Addr×Obj)} {s:Shared} {σ:St} {H:Hp} {R:V->V->Hp->Prop} (I:Inv X pins σ H s)
  (h:ta σ H fun x H1=>tb σ H1 fun y H2=>R x y H2) {Q:Value->Shared->Prop} {f:Value->Value->Sem Value}
  (hf:∀ v u s2 x y H2,Inv X pins σ H2 s2->RelV x v->RelV y u->R x y H2->wpAny (model X.prog X.w) X.A (f v u) Q X.xe s2) :
  wpAny (model X.prog X.w) X.A (eval a X.env) (fun v s₁=>wpAny (model X.prog X.w) X.A (eval b X.env) (fun u s₂=>wpAny (model X.prog X.w) X.A (f v u) Q X.xe s₂) X.xe s₁) X.xe s:=by
 refine thn (ha pins s σ H _ I h) fun v s1 ⟨x,H1,I1,r1,q1⟩=>?_
 refine thn (hb pins s1 σ H1 _ I1 q1) fun u s2 ⟨y,H2,I2,r2,q2⟩=>?_
 exact hf v u s2 x y H2 I2 r1 r2 q2
theorem Kw {op:Operator} {r:R2} (ho:OpR X (binaryOp op) r) (ha:PE X a ta) (hb:PE X b tb):PE X (.BinOp a op b pos) (tOp r ta tb):=by
 intro pins s σ H Q I h
 exact wpAny_BinOp (LQ ha hb I h fun v u s2 x y H2 I2 rx ry q=>ho pins s2 σ H2 x y v u Q I2 rx ry q)
theorem Qo {op:UnaryOp} {r:V->Hp->VK->Prop} (ho:UnR X (unaryOp op) r) (ha:PE X a ta):PE X (.UnaryOp op a pos) (tUn r ta):=by
 intro pins s σ H Q I h
 exact UnaryOp_ (thn (ha pins s σ H _ I h) fun v s1 ⟨x,H1,I1,r1,q1⟩=>ho pins s1 σ H1 x v Q I1 r1 q1)
theorem opI {f:Value->Value->Sem Value} {C:Int->Int->Prop} {g:Int->Int->Int}
  (rule:∀ (i j:Int) (t u:Tok) (s:Shared) (Q:Value->Shared->Prop) (E:Value->Shared->Prop),C i j->Q (.int (g i j) s.toks) { s with toks:=s.toks + 1 }->wpAny (model X.prog X.w) X.A (f (.int i t) (.int j u)) Q E s) :
  OpR X f (rI C fun i j=>.int (g i j)):=by
 intro pins s σ H x y v u Q I rx ry h
 obtain ⟨i,j,rfl,rfl,hc,q⟩:=h
 obtain ⟨t,rfl⟩:=rx
 obtain ⟨t',rfl⟩:=ry
 exact rule i j t t' s _ _ hc ⟨.int (g i j),H,I.tok _,⟨_,rfl⟩,q⟩
theorem Qk {f:Value->Value->Sem Value} {g:Int->Int->Int}
  (rule:∀ (i j:Int) (t u:Tok) (s:Shared) (Q:Value->Shared->Prop) (E:Value->Shared->Prop),Q (.int (g i j) s.toks) { s with toks:=s.toks + 1 }->wpAny (model X.prog X.w) X.A (f (.int i t) (.int j u)) Q E s) :
  OpR X f (rI0 fun i j=>.int (g i j)):=by
 intro pins s σ H x y v u Q I rx ry h
 obtain ⟨i,j,rfl,rfl,q⟩:=h
 obtain ⟨t,rfl⟩:=rx
 obtain ⟨t',rfl⟩:=ry
 exact rule i j t t' s _ _ ⟨.int (g i j),H,I.tok _,⟨_,rfl⟩,q⟩
theorem Ik {f:Value->Value->Sem Value} {g:Int->Int->Bool}
  (rule:∀ (i j:Int) (t u:Tok) (s:Shared) (Q:Value->Shared->Prop) (E:Value->Shared->Prop),Q (.bool (g i j)) s->wpAny (model X.prog X.w) X.A (f (.int i t) (.int j u)) Q E s) :
  OpR X f (rI0 fun i j=>.bl (g i j)):=by
 intro pins s σ H x y v u Q I rx ry h
 obtain ⟨i,j,rfl,rfl,q⟩:=h
 obtain ⟨t,rfl⟩:=rx
 obtain ⟨t',rfl⟩:=ry
 exact rule i j t t' s _ _ ⟨.bl (g i j),H,I,rfl,q⟩
def Qz (i j:Int):Prop:=0<=j/\j<=1000000/\i.natAbs < 2 ^ 64
def Mw (i j:Int):Prop:=(-(2 ^ 64) < i/\i < 2 ^ 64)∨(-(2 ^ 64) < j/\j < 2 ^ 64)
theorem Mw.ok {i j:Int} (h:Mw i j):IntMulOk i j:=by
 rcases h with ⟨h1,h2⟩ | ⟨h1,h2⟩
 .exact .of_left (intBits_le_64 h1 h2)
 .exact .of_right (intBits_le_64 h1 h2)
theorem MN:OpR X (binaryOp .Add) (rI0 fun i j=>.int (i + j)):=Qk fun _ _ _ _ _ _ _ q=>add_int q
theorem M_:OpR X (binaryOp .Sub) (rI0 fun i j=>.int (i - j)):=Qk fun _ _ _ _ _ _ _ q=>sub_int q
theorem Lw:OpR X (binaryOp .Mult) (rI Mw fun i j=>.int (i * j)):=opI fun _ _ _ _ _ _ _ hc q=>mul_int q hc.ok
theorem La:OpR X (binaryOp .Mod) (rI (fun _ j=>0 < j) fun i j=>.int (i % j)):=opI fun i j _ _ _ _ _ hc q=>by
 have h1:(0:Int) < j:=hc
 exact mod_int' (by omega) (by rw [Int.fmod_eq_emod_of_nonneg i (by omega)]; exact q)
theorem MJ:OpR X (binaryOp .Pow) (rI Qz fun i j=>.int (i ^ j.toNat)):=opI fun _ _ _ _ _ _ _ hc q=>pow_int_small hc.1 hc.2.1 hc.2.2 q
theorem unI {f:Value->Sem Value} {g:Int->Int}
  (rule:∀ (i:Int) (t:Tok) (s:Shared) (Q:Value->Shared->Prop) (E:Value->Shared->Prop),Q (.int (g i) s.toks) { s with toks:=s.toks + 1 }->wpAny (model X.prog X.w) X.A (f (.int i t)) Q E s) :
  UnR X f (rU fun i=>.int (g i)):=by
 intro pins s σ H x v Q I rx h
 obtain ⟨i,rfl,q⟩:=h
 obtain ⟨t,rfl⟩:=rx
 exact rule i t s _ _ ⟨.int (g i),H,I.tok _,⟨_,rfl⟩,q⟩
theorem Nr:UnR X (unaryOp .USub) (rU fun i=>.int (-i)):=unI fun _ _ _ _ _ q=>neg_int q
end
section
variable {X:Cx} {a b c:Expr} {ta tb tc:TE} {pos:Pos}
theorem zV {pins:List (Addr×Obj)} {σ:St} {H:Hp} {s:Shared} {Q:VK} {k k':Bool} (I:Inv X pins σ H s) (q:Q (.bl k) H) (e:k=k'):EP X pins σ Q (.bool k') s:=by
 subst e
 exact ⟨.bl k,H,I,rfl,q⟩
theorem O7:OpR X (compareOp .Lt) (rI0 fun i j=>.bl (decide (i < j))):=Ik fun _ _ _ _ _ _ _ q=>lt_int q
theorem O8:OpR X (compareOp .LtE) (rI0 fun i j=>.bl (decide (i<=j))):=Ik fun _ _ _ _ _ _ _ q=>le_int q
theorem PK:OpR X (compareOp .Gt) (rI0 fun i j=>.bl (decide (j < i))):=Ik fun _ _ _ _ _ _ _ q=>gt_int q
theorem Px:OpR X (compareOp .GtE) (rI0 fun i j=>.bl (decide (j<=i))):=Ik fun _ _ _ _ _ _ _ q=>ge_int q
theorem DX:OpR X (compareOp .Lt) (fun x y H Q=>∃ i j,x = .str i/\y = .str j/\Q (.bl (decide (i.cps.toList < j.cps.toList))) H):=by
 intro pins s σ H x y v u Q I rx ry h
 obtain ⟨i,j,rfl,rfl,q⟩:=h
 obtain ⟨t,rfl⟩:=rx
 obtain ⟨t',rfl⟩:=ry
 exact lt_str (zV I q rfl)
theorem Dy:OpR X (compareOp .In) (fun x y H Q=>∃ i j,x = .str i/\y = .str j/\Q (.bl (!(Builtin.Str.occurrences j i 0 j.length 1).isEmpty)) H):=by
 intro pins s σ H x y v u Q I rx ry h
 obtain ⟨i,j,rfl,rfl,q⟩:=h
 obtain ⟨t,rfl⟩:=rx
 obtain ⟨t',rfl⟩:=ry
 exact in_str (zV I q rfl)
theorem Lg:OpR X (compareOp .Is) (fun x y H Q=>y = .non/\Q (.bl (decide (x = .non))) H):=by
 intro pins s σ H x y v u Q I rx ry h
 obtain ⟨rfl,q⟩:=h
 cases ry
 refine is_none_gen (zV I q ?_)
 cases x <;> first
  | (cases rx; rfl)
  | (obtain ⟨t,rfl⟩:=rx; rfl)
theorem A_ {op:CmpOp} {r:R2} (ho:OpR X (compareOp op) r) (ha:PE X a ta) (hb:PE X b tb) (hm:behindInMarks op b=false):PE X (.Compare a [op] [b] pos) (tOp r ta tb):=by
 intro pins s σ H Q I h
 exact wpAny_Compare1 (LQ ha hb I h fun v u s2 x y H2 I2 rx ry q=>ho pins s2 σ H2 x y v u Q I2 rx ry q) hm
def BR (t:TE):TT:=fun σ H Q=>t σ H fun x H'=>∃ k,x = .bl k/\Q k H'
theorem Bs {op:CmpOp} {r:R2} (ho:OpR X (compareOp op) r) (ha:PE X a ta) (hb:PE X b tb) (hm:behindInMarks op b=false):PT X (.Compare a [op] [b] pos) (BR (tOp r ta tb)):=by
 intro pins s σ H Q I h
 refine wpAny_isTrue_Compare1 (thn (ha pins s σ H _ I h) fun v s1 ⟨x,H1,I1,r1,q1⟩=>thn (hb pins s1 σ H1 _ I1 q1) fun u s2 ⟨y,H2,I2,r2,q2⟩=>
  thn (ho pins s2 σ H2 x y v u _ I2 r1 r2 q2) fun c s3 ⟨z,H3,I3,r3,k,e,q3⟩=>?_) hm
 subst e
 cases r3
 exact wpAny_truthy_bool ⟨H3,I3,q3⟩
def zR (r r':R2) (ta tb tc:TE):TE:=fun σ H Q=>ta σ H fun x H1=>tb σ H1 fun y H2=>r x y H2 fun z H3=>∃ k,z = .bl k/\
 (if k=true then tc σ H3 fun w' H4=>r' y w' H4 Q else Q (.bl false) H3)
theorem HX {op op':CmpOp} {r r':R2} (ho:OpR X (compareOp op) r) (ho':OpR X (compareOp op') r') (ha:PE X a ta) (hb:PE X b tb) (hc:PE X c tc)
  (hm:lastMarks [op,op'] [b,c]=false:=by with_unfolding_all rfl):PE X (.Compare a [op,op'] [b,c] pos) (zR r r' ta tb tc):=by
 intro pins s σ H Q I h
 refine Compare_chain (thn (ha pins s σ H _ I h) fun v s1 ⟨x,H1,I1,r1,q1⟩=>chain_link (thn (hb pins s1 σ H1 _ I1 q1) fun u s2 ⟨y,H2,I2,r2,q2⟩=>
  thn (ho pins s2 σ H2 x y v u _ I2 r1 r2 q2) fun d s3 ⟨z,H3,I3,r3,k,e,q3⟩=>?_)) hm
 subst e
 cases r3
 refine wpAny_truthy_bool ?_
 cases k with
 | false=>exact ite_ff ⟨.bl false,H3,I3,rfl,q3⟩
 | true=>exact ite_tt (chain_last (thn (hc pins s3 σ H3 _ I3 q3) fun w' s4 ⟨z',H4,I4,r4,q4⟩=>ho' pins s4 σ H4 y z' u w' Q I4 r2 r4 q4))
theorem Ew {op op':CmpOp} {r r':R2} (ho:OpR X (compareOp op) r) (ho':OpR X (compareOp op') r') (ha:PE X a ta) (hb:PE X b tb) (hc:PE X c tc)
  (hm:lastMarks [op,op'] [b,c]=false:=by with_unfolding_all rfl):PT X (.Compare a [op,op'] [b,c] pos) (BR (zR r r' ta tb tc)):=by
 intro pins s σ H Q I h
 refine isTrue_chain (thn (ha pins s σ H _ I h) fun v s1 ⟨x,H1,I1,r1,q1⟩=>test_link (thn (hb pins s1 σ H1 _ I1 q1) fun u s2 ⟨y,H2,I2,r2,q2⟩=>
  thn (ho pins s2 σ H2 x y v u _ I2 r1 r2 q2) fun d s3 ⟨z,H3,I3,r3,k,e,q3⟩=>?_)) hm
 subst e
 cases r3
 refine wpAny_truthy_bool ?_
 cases k with
 | false=>
  obtain ⟨k',e',q'⟩:=q3
  cases e'
  exact ite_ff ⟨H3,I3,q'⟩
 | true=>
  refine ite_tt (test_last (thn (hc pins s3 σ H3 _ I3 q3) fun w' s4 ⟨z',H4,I4,r4,q4⟩=>thn (ho' pins s4 σ H4 y z' u w' _ I4 r2 r4 q4) fun d' s5 ⟨z2,H5,I5,r5,k2,e2,q5⟩=>?_))
  subst e2
  cases r5
  exact wpAny_truthy_bool ⟨H5,I5,q5⟩
def Gs (K:PySem.W.Frag) (x:V) (H:Hp) (k:Bool):Prop:=
 match x with
 | .non=>k=false
 | .bl b=>k=b
 | .int i=>k=(i != 0)
 | .str y=>y.length<=sizeLine/\k=((y.length:Int) != 0)
 | .byt y=>y.size<=sizeLine/\k=((y.size:Int) != 0)
 | .ref p=>(∃ xs,SqL K H p xs/\k = !xs.isEmpty)∨(∃ xs,SqT K H p xs/\k = !xs.isEmpty)∨∃ kvs,H p=some (.dK kvs)/\k = !kvs.isEmpty
 | _=>False
theorem Aj {κ:Type} {kvs:List (κ×V)} {vs:List (κ×Value)} (r:KV kvs vs):(!vs.isEmpty) = !kvs.isEmpty:=by
 cases r <;> rfl
theorem uQ {xs:List V} {its:List Value} (r:Vals xs its):(!its.toArray.isEmpty) = !xs.isEmpty:=by
 cases r <;> simp
theorem pZ:(sizeLine:Nat) < 2 ^ 63:=by rw [sizeLine_eq]; decide
theorem Mg:QH X (fun x H Q=>∃ k,Gs X.K x H k/\Q k H):=by
 intro pins s σ H x v Q I rx h
 obtain ⟨k,e,q⟩:=h
 have hl:=pZ
 have hs:sizeLine=16777216:=sizeLine_eq
 cases x with
 | non=>
  cases rx
  have e':k=false:=e
  subst e'
  exact truthy_none ⟨H,I,q⟩
 | bl b=>
  cases rx
  have e':k=b:=e
  subst e'
  exact wpAny_truthy_bool ⟨H,I,q⟩
 | int i=>
  obtain ⟨t,rfl⟩:=rx
  have e':k=(i != 0):=e
  subst e'
  exact PySem.P.truthy_int ⟨H,I,q⟩
 | str y=>
  obtain ⟨t,rfl⟩:=rx
  obtain ⟨hy,e'⟩:y.length<=sizeLine/\k=((y.length:Int) != 0):=e
  subst e'
  exact PySem.P.truthy_str (by omega) ⟨H,I.tok _,q⟩
 | byt y=>
  obtain ⟨t,rfl⟩:=rx
  obtain ⟨hy,e'⟩:y.size<=sizeLine/\k=((y.size:Int) != 0):=e
  subst e'
  exact PySem.W.truthy_bytes (by omega) ⟨H,I.tok _,q⟩
 | ref p=>
  cases rx
  have e':(∃ xs,SqL X.K H p xs/\k = !xs.isEmpty)∨(∃ xs,SqT X.K H p xs/\k = !xs.isEmpty)∨∃ kvs,H p=some (.dK kvs)/\k = !kvs.isEmpty:=e
  rcases e' with ⟨xs,hx,e'⟩ | ⟨xs,hx,e'⟩ | ⟨kvs,hx,e'⟩
  .subst e'
   obtain ⟨its,r,pl,hz⟩:=I.list hx
   have hlen:=r.length
   exact wpAny_truthy_list pl.isList (by simp only [List.size_toArray]; omega) ⟨H,I.tok _,by rw [uQ r]; exact q⟩
  .subst e'
   obtain ⟨its,r,pl,hz⟩:=I.tuple hx
   have hlen:=r.length
   exact truthy_tuple pl (by simp only [List.size_toArray]; omega) ⟨H,I.tok _,by rw [uQ r]; exact q⟩
  .subst e'
   obtain ⟨hz,hS,vs,r,m⟩:kvs.length<=sizeLine/\(p == sysModules)=false/\∃ vs,KV kvs vs/\s.heap.DictOf (cU X.prog X.w) p vs:=I.hok p _ hx
   have hlen:kvs.length=vs.length:=Paired.length r
   exact wpAny_truthy_dict hS m (by omega) ⟨H,I.tok _,by rw [Aj r]; exact q⟩
 | _=>exact (show False from e).elim
theorem yl (ha:PE X a ta) (he:∀ whole,isTrue a X.env whole=(do let v ← whole; standAt a.pos; holding [v] (truthy v))) :
  PT X a (fun σ H Q=>ta σ H fun x H'=>∃ k,Gs X.K x H' k/\Q k H'):=by
 intro pins s σ H Q I h
 exact isTrue_plain (thn (ha pins s σ H _ I h) fun v s1 ⟨x,H1,I1,r1,q1⟩=>Mg pins s1 σ H1 x v Q I1 r1 q1) (he _)
theorem zU:OpR X (binaryOp .Add) (fun x y H Q=>∃ i j,x = .str i/\y = .str j/\i.length + j.length<=sizeLine/\Q (.str (i++j)) H):=by
 intro pins s σ H x y v u Q I rx ry h
 obtain ⟨i,j,rfl,rfl,hz,q⟩:=h
 obtain ⟨t,rfl⟩:=rx
 obtain ⟨t',rfl⟩:=ry
 exact add_str (fun t' tk=>⟨.str (i++j),H,I.tok _,⟨_,rfl⟩,q⟩) hz
theorem vals1 {x:V} {us:List Value} (r:Vals [x] us):∃ u,us=[u]/\RelV x u:=by
 cases r with
 | cons r1 r2=>cases r2; exact ⟨_,rfl,r1⟩
theorem vals2 {x y:V} {us:List Value} (r:Vals [x,y] us):∃ u w',us=[u,w']/\RelV x u/\RelV y w':=by
 cases r with
 | cons r1 r2=>
  cases r2 with
  | cons r3 r4=>cases r4; exact ⟨_,_,rfl,r1,r3⟩
theorem Gw:iD X (.builtin "abs") (fun xs H Q=>∃ i,xs=[.int i]/\Q (.int (if i < 0 then -i else i)) H):=by
 intro pins s σ H xs us Q I r h
 obtain ⟨i,rfl,q⟩:=h
 obtain ⟨u,rfl,t,rfl⟩:=vals1 r
 exact call_abs_int fun u tk=>⟨.int (if i < 0 then -i else i),H,I.tok _,⟨_,rfl⟩,q⟩
theorem Dh (hc:X.calm=true):iD X (.builtin "min") (fun xs H Q=>∃ i j,xs=[.int i,.int j]/\Q (.int (if j < i then j else i)) H):=by
 intro pins s σ H xs us Q I r h
 obtain ⟨i,j,rfl,q⟩:=h
 obtain ⟨u,w',rfl,⟨t,rfl⟩,⟨t',rfl⟩⟩:=vals2 r
 refine min_two_ints (I.ok.hd hc) fun h' tk k=>⟨_,H,I.kept k,?_,q⟩
 by_cases hj:j < i
 .rw [if_pos hj,if_pos hj]; exact ⟨_,rfl⟩
 .rw [if_neg hj,if_neg hj]; exact ⟨_,rfl⟩
theorem C_:iD X (.type "int") (fun xs H Q=>(∃ i,xs=[.int i]/\Q (.int i) H)∨∃ k,xs=[.bl k]/\Q (.int (if k then 1 else 0)) H):=by
 intro pins s σ H xs us Q I r h
 rcases h with ⟨i,rfl,q⟩ | ⟨k,rfl,q⟩
 .obtain ⟨u,rfl,t,rfl⟩:=vals1 r
  exact call_int_int ⟨.int i,H,I,⟨_,rfl⟩,q⟩
 .obtain ⟨u,rfl,r1⟩:=vals1 r
  cases r1
  exact call_int_bool ⟨.int (if k then 1 else 0),H,I.tok _,⟨_,rfl⟩,q⟩
theorem xH:iD X (.type "str") (fun xs H Q=>∃ i,xs=[.int i]/\i.natAbs.log2 < 1920/\Q (.str (toString i)) H):=by
 intro pins s σ H xs us Q I r h
 obtain ⟨i,rfl,hz,q⟩:=h
 obtain ⟨u,rfl,t,rfl⟩:=vals1 r
 exact PySem.P.str_of_int hz ⟨.str _,H,I.tok _,⟨_,rfl⟩,q⟩
end
structure Lj (h:Heap) (x dx C:Addr) (mA:Str->Option Value):Prop where
 obj:h.get? x=some (PySem.W.instObj C dx)
 ns:h.Ns1 dx mA
 ne:dx≠x
theorem DP {h:Heap} {dx:Addr} {mA:Str->Option Value} (n:h.Ns1 dx mA):∃ od,h.get? dx=some od/\∀ name,PySem.W.lookIn name od=some (mA name):=by
 obtain ⟨o,es,ep,ho,hd,hk,_,hm⟩:=n
 refine ⟨o,ho,fun name=>?_⟩
 have e:=hm name
 unfold nsFind findBy at e
 rw [← Array.find?_toList] at e
 unfold PySem.W.lookIn
 rw [hd]
 dsimp only
 split
 .rename_i y q
  rw [q] at e
  exact congrArg some e
 .rename_i q
  rw [q] at e
  have a:es.toList.any (·.refKey)=false:=by
   rw [List.any_eq_false]
   intro y hy
   obtain ⟨z,t,hkey⟩:=hk y (Array.mem_toList_iff.mp hy)
   simp [DictEntry.refKey,hkey]
  have a':¬ es.toList.any (·.refKey)=true:=by rw [a]; exact Bool.false_ne_true
  rw [if_neg a']
  exact congrArg some e
theorem Lj.look {h:Heap} {x dx C:Addr} {mA:Str->Option Value} (I:Lj h x dx C mA):∃ od,PySem.W.InstAt h x (PySem.W.instObj C dx) C (some od)/\∀ name,PySem.W.lookIn name od=some (mA name):=
 let ⟨od,ho,hl⟩:=DP I.ns
 ⟨od,⟨I.obj,rfl,rfl,ho⟩,hl⟩
theorem rz.some_of {v:V} {o:Option Value} (r:rz (some v) o):∃ u,o=some u/\RelV v u:=by
 cases o with
 | none=>exact (show False from r).elim
 | some u=>exact ⟨u,rfl,r⟩
section
variable {P:Program} {w:World} {H H':Hp} {h h':Heap} {a C dx:Addr} {fs fs':List (Str×V)}
theorem Bp (hok:HOk P w H h) (e:H a=some (.ins C dx fs)):∃ mA,Lj h a dx C mA/\(∀ f,rz (fs.lookup f) (mA f))/\PySem.Within mA (fs.map (·.1))/\fs.length<=1000/\H dx=some (.own a):=by
 obtain ⟨d,z,ne,ob,mA,n,r,q⟩:=(show fu P w H h a (.ins C dx fs) from hok a _ e)
 exact ⟨mA,⟨ob,n,ne⟩,r,q,z,d⟩
end
structure Cls (K:PySem.W.Frag) (C:Addr):Prop where
 pg:PySem.W.plainGet K C Str.empty=true
 hd:PySem.W.hasDictIn K C=true
 po:PySem.W.plainOver K C=true
 sa:PySem.W.findIn K (.ref C) "__setattr__" = some (some (.builtin "object.__setattr__"))
theorem Cls.get {K:PySem.W.Frag} {C:Addr} (c:Cls K C) (f:Str):PySem.W.plainGet K C f=true:=c.pg
section
variable {X:Cx} {pins:List (Addr×Obj)} {σ:St} {H:Hp} {s:Shared} {A:Around} {E:Value->Shared->Prop} {Q:Value->Shared->Prop} {c:Value} {b:Bool}
inductive nY (K:PySem.W.Frag) (H:Hp):V->Value->Prop where
 | non:nY K H .non (.type "NoneType")
 | bl (x:Bool):nY K H (.bl x) (.type "bool")
 | int (i:Int):nY K H (.int i) (.type "int")
 | str (x:Str):nY K H (.str x) (.type "str")
 | flt (x:UInt64):nY K H (.flt x) (.type "float")
 | lst {a:Addr} {xs:List V} (e:H a=some (.lst xs)):nY K H (.ref a) (.type "list")
 | frz {a:Addr} {o:Obj} {xs:List V} (e:H a=some (.frz o (.lst xs))):nY K H (.ref a) (.type "list")
 | tup {a:Addr} {xs:List V} (e:H a=some (.tup xs)):nY K H (.ref a) (.type "tuple")
 | dK {a:Addr} {kvs:List (Key×V)} (e:H a=some (.dK kvs)):nY K H (.ref a) (.type "dict")
 | dT {a:Addr} {kvs:List (List Key×V)} (e:H a=some (.dT kvs)):nY K H (.ref a) (.type "dict")
 | ins {a C dx:Addr} {fs:List (Str×V)} (e:H a=some (.ins C dx fs)) (cl:Cls K C) (ha:PySem.W.findIn K (.ref C) "__class__" = some (some (.builtin "object.__class__")))
   (hn:PySem.W.specialIn K (.builtin "object.__class__") "__get__" = some (some (.builtin "getset_descriptor.__get__"))) (htk:PySem.W.takesIn K (.builtin "object.__class__")=some true)
   (hm:PySem.W.mroIn K C (.type "object")=some true):nY K H (.ref a) (.ref C)
theorem Ei {x:V} {u t:Value} (I:Inv X pins σ H s) (rx:RelV x u) (ty:nY X.K H x t) (e:PySem.W.kitOne X.K t c=some b) (h:∀ tk,Q (.bool b) { s with toks:=tk }) :
  wpAny (model X.prog X.w) A (call (.builtin "isinstance") [u,c]) Q E s:=by
 cases ty with
 | non=>cases (show u=Value.none from rx); exact PySem.W.kia_one PySem.W.kitx_none I.kIn True.intro e (fun z=>nomatch z) h
 | bl y=>cases (show u=Value.bool y from rx); exact PySem.W.kia_one PySem.W.kitx_bool I.kIn True.intro e (fun z=>nomatch z) h
 | int i=>obtain ⟨t,q⟩:=(show ∃ t,u=Value.int i t from rx); cases q; exact PySem.W.kia_one PySem.W.kitx_int I.kIn True.intro e (fun z=>nomatch z) h
 | str y=>obtain ⟨t,q⟩:=(show ∃ t,u=Value.str y t from rx); cases q; exact PySem.W.kia_one PySem.W.kitx_str I.kIn True.intro e (fun z=>nomatch z) h
 | flt y=>obtain ⟨t,q⟩:=(show ∃ t,u=Value.float y t from rx); cases q; exact PySem.W.kia_one PySem.W.kitx_float I.kIn True.intro e (fun z=>nomatch z) h
 | @lst a xs ea=>
  cases (show u=Value.ref a from rx)
  obtain ⟨_,_,n,_,h1⟩:=(show fu X.prog X.w H s.heap a (.lst xs) from I.hok a _ ea)
  exact PySem.W.kia_one PySem.W.kitx_list I.kIn ⟨_,h1,rfl⟩ e (fun z=>nomatch z) h
 | @frz a ob xs ea=>
  cases (show u=Value.ref a from rx)
  obtain ⟨_,_,_,n,_,h1⟩:=(show fu X.prog X.w H s.heap a (.frz ob (.lst xs)) from I.hok a _ ea)
  exact PySem.W.kia_one PySem.W.kitx_list I.kIn ⟨_,h1,rfl⟩ e (fun z=>nomatch z) h
 | @tup a xs ea=>
  cases (show u=Value.ref a from rx)
  obtain ⟨_,_,_,p⟩:=(show fu X.prog X.w H s.heap a (.tup xs) from I.hok a _ ea)
  obtain ⟨o,h1,h2,_⟩:=p
  exact PySem.W.kia_one PySem.W.kitx_tuple I.kIn ⟨o,h1,h2⟩ e (fun z=>nomatch z) h
 | @dK a kvs ea=>
  cases (show u=Value.ref a from rx)
  obtain ⟨_,_,vs,_,p⟩:=(show fu X.prog X.w H s.heap a (.dK kvs) from I.hok a _ ea)
  obtain ⟨o,es,ep,h1,h2,_⟩:=p
  exact PySem.W.kia_one PySem.W.kitx_dict I.kIn ⟨o,h1,h2.1⟩ e (fun z=>nomatch z) h
 | @dT a kvs ea=>
  cases (show u=Value.ref a from rx)
  obtain ⟨_,_,xs,_,o,es,ep,h1,h2,_⟩:=(show fu X.prog X.w H s.heap a (.dT kvs) from I.hok a _ ea)
  exact PySem.W.kia_one PySem.W.kitx_dict I.kIn ⟨o,h1,h2.1⟩ e (fun z=>nomatch z) h
 | @ins a C dx fs ea cl ha hn htk hm=>
  cases (show u=Value.ref a from rx)
  obtain ⟨mA,O,_⟩:=Bp I.hok ea
  obtain ⟨od,J,_⟩:=O.look
  exact PySem.W.kia_one (PySem.W.kitx_own (cl.get _) cl.hd ha hn htk hm) I.kIn J e (fun z=>nomatch z) h
end
structure lD (k:Nat) (A:Around):Prop where
 hd:A.handled=none
 dp:A.depth + 3 * k + 5 < recursionLimit
 un:A.units + 16 * k + 200 < cLine
 gd:A.guards=some []
theorem lD.mono {j k:Nat} {A:Around} (r:lD k A) (h:j<=k):lD j A:=⟨r.hd,by have:=r.dp; omega,by have:=r.un; omega,r.gd⟩
theorem lD.deeper {k:Nat} {A:Around} (r:lD (k + 1) A) (env:Env):lD k (A.deeper env):=
 ⟨r.hd,by have:=r.dp; show A.depth + 1 + 3 * k + 5 < _; omega,by have:=r.un; show A.units + 3 + 16 * k + 200 < _; omega,r.gd⟩
theorem lD.depth {k:Nat} {A:Around} (r:lD k A):A.depth < recursionLimit:=by have:=r.dp; omega
theorem lD.units {k:Nat} {A:Around} (r:lD k A):A.units + 64 < cLine:=by have:=r.un; omega
def PL:TA:=fun _ H Q=>Q [] H
def EY (ta:TE) (tr:TA):TA:=fun σ H Q=>ta σ H fun x H1=>tr σ H1 fun xs H2=>Q (x :: xs) H2
section
variable {X:Cx} {e:Expr} {es:List Expr} {te:TE} {t:TA} {pos:Pos}
theorem LK:PA X [] PL:=fun _ _ _ _ H Q I h=>Calls.spliced_nil ⟨[],H,I,.nil,h⟩
theorem wH (ha:PE X e te) (hr:PA X es t) (hs:starEach (e :: es) X.env=(false,eval e X.env) :: starEach es X.env:=by rfl):PA X (e :: es) (EY te t):=by
 intro pos pins s σ H Q I h
 rw [hs]
 show wpAny _ _ (spliced ((false,eval e X.env) :: backTo pos (starEach es X.env))) _ _ s
 refine Calls.spliced_cons (thn (ha pins s σ H _ I h) fun u s1 ⟨x,H1,I1,r1,q1⟩=>?_)
 exact thn (hr pos pins s1 σ H1 _ I1 q1) fun us s2 ⟨xs,H2,I2,r2,q2⟩=>⟨x :: xs,H2,I2,.cons r1 r2,q2⟩
def Qw (t:TA):TE:=fun σ H Q=>t σ H fun xs H1=>xs.length<=sizeLine/\∀ p,H1 p=none->Q (.ref p) (upd H1 p (.tup xs))
def Qv (t:TA):TE:=fun σ H Q=>t σ H fun xs H1=>xs.length<=sizeLine/\∀ p,H1 p=none->Q (.ref p) (upd H1 p (.lst xs))
theorem H9 {x1} (h:PA X es t):PE X (.Tuple es x1 pos) (Qw t):=by
 intro pins s σ H Q I hq
 refine wpAny_Tuple_spliced (thn (h pos pins s σ H _ I hq) fun us s1 ⟨xs,H1,I1,r,z,q⟩=>⟨by rw [← r.length]; exact z,?_⟩)
 have hf:H1 s1.heap.objs.size=none:=I1.hok.fresh (Nat.le_refl _)
 refine ⟨.ref s1.heap.objs.size,upd H1 s1.heap.objs.size (.tup xs),I1.laid (t':=s1.toks) (fun b u e=>Heap.get?_push_of_some _ e) (Nat.le_refl _) ?_,rfl,q _ hf⟩
 exact ⟨z,us,r,⟨_,Heap.get?_push_size _ rfl,rfl,_,rfl⟩⟩
theorem Fe (h:PA X es t):PE X (.List es pos) (Qv t):=by
 intro pins s σ H Q I hq
 refine wpAny_List_spliced (thn (h pos pins s σ H _ I hq) fun us s1 ⟨xs,H1,I1,r,z,q⟩=>⟨by rw [← r.length]; exact z,?_⟩)
 have hf:H1 s1.heap.objs.size=none:=I1.hok.fresh (Nat.le_refl _)
 refine ⟨.ref s1.heap.objs.size,upd H1 s1.heap.objs.size (.lst xs),I1.laid (t':=s1.toks) (fun b u e=>Heap.get?_push_of_some _ e) (Nat.le_refl _) ?_,rfl,q _ hf⟩
 exact ⟨z,us,0,r,Heap.get?_push_size _ rfl⟩
end
abbrev Sp:=List V->Hp->VK->XK->Prop
abbrev CXT:=List Env->Hp->Shared->XK->Value->Shared->Prop
structure J9 (P:Program) (w:World) (K:PySem.W.Frag) (mg:Str->Option Value) (base:Heap) (A:Around) (outer:List Env) (s:Shared) (H:Hp):Prop where
 frames:A.frames=some outer
 mod:Mod K mg base
 bs:∀ b o,base.get? b=some o->s.heap.get? b=some o/\H b=none
 bsz:base.objs.size<=s.heap.objs.size
 funs:s.heap.FunFrames base outer
 frf:∀ b∈frs outer,H b=none
 hok:HOk P w H s.heap
 bare:AllBare s.gens
def CE (outer:List Env) (P:Program) (w:World) (H:Hp) (s:Shared) (Q:VK) (u:Value) (s':Shared):Prop:=
 ∃ v H',s'.os=s.os/\AllBare s'.gens/\Un (frs outer) [] H H' s.heap s'.heap/\HOk P w H' s'.heap/\RelV v u/\Q v H'
def CR (CX:CXT) (outer:List Env) (P:Program) (w:World) (H:Hp) (s:Shared) (Q:VK) (E:XK) (r:Result) (s':Shared):Prop:=
 match r with
 | .ok (.ret u)=>CE outer P w H s Q u s'
 | .ok _=>False
 | .error e=>CX outer H s E e s'
structure iI (P:Program) (w:World) (K:PySem.W.Frag) (mg:Str->Option Value) (base:Heap) (CX:CXT) (k:Nat) (f:Addr) (fd:FuncData) (ps:List Str) (sp:Sp):Prop where
 len:∀ vs H Q E,sp vs H Q E->vs.length=ps.length
 run:∀ (A:Around) (outer:List Env) (s:Shared) (H:Hp) (args:Args) (us:List Value) (vs:List V) (Q:VK) (E:XK),lD k A->J9 P w K mg base A outer s H->BindsTo s fd args (ps.zip us)->Vals vs us->sp vs H Q E->
  codeAny (model P w) A (.call (.ref f) args) (CR CX outer P w H s Q E) s
theorem iI.imp {P:Program} {w:World} {K:PySem.W.Frag} {mg:Str->Option Value} {base:Heap} {CX:CXT} {k:Nat} {f:Addr} {fd:FuncData} {ps:List Str} {sp sp':Sp} (F:iI P w K mg base CX k f fd ps sp)
  (h:∀ vs H Q E,sp' vs H Q E->sp vs H Q E):iI P w K mg base CX k f fd ps sp':=
 ⟨fun vs H Q E q=>F.len vs H Q E (h _ _ _ _ q),fun A outer s H args us vs Q E hr he hb hv hs=>F.run A outer s H args us vs Q E hr he hb hv (h _ _ _ _ hs)⟩
section
variable {X:Cx} {pins:List (Addr×Obj)} {σ:St} {H:Hp} {s s':Shared}
theorem Inv.env0 (I:Inv X pins σ H s):J9 X.prog X.w X.K X.mg X.base X.A X.stack s H:=
 ⟨I.ok.frames,I.ok.mod,I.bs,Nat.le_trans I.ok.bsz I.sz,I.stack,I.stkFree,I.hok,I.bare⟩
theorem Inv.after {Q:VK} {u:Value} (I:Inv X pins σ H s) (h:CE X.stack X.prog X.w H s Q u s'):EP X pins σ Q u s':=by
 obtain ⟨v,H',os,bare,un,hok,r,q⟩:=h
 obtain ⟨hh,g,d,t,os'⟩:=s'
 obtain rfl:os'=s.os:=os
 exact ⟨v,H',I.call (h':=hh) (g':=g) (d':=d) (t':=t) (ch:=[]) un hok bare (fun b z=>absurd z (by simp)),r,q⟩
end
def KQ (sp:Sp) (dvs:List V) (E:XK) (t:TA):TE:=fun σ H Q=>t σ H fun vs H1=>sp (vs++dvs) H1 Q E
def Binds (K:PySem.W.Frag) (fd:FuncData) (ps:List Str) (ds:List Value):Prop:=
 ∀ (s:Shared) (us:List Value),K.In s.heap->(us++ds).length=ps.length->BindsTo s fd ⟨us,[]⟩ (ps.zip (us++ds))
theorem Binds.all {K:PySem.W.Frag} {fd:FuncData} {ps:List Str} (h:∀ us:List Value,us.length=ps.length->bindArgs fd ⟨us,[]⟩=pure (ps.zip us)):Binds K fd ps []:=fun s us _ hl=>by
 rw [List.append_nil] at hl ⊢
 exact .of_eq (h us hl)
def Ak (CX:CXT) (X:Cx) (E:XK):Prop:=∀ (pins:List (Addr×Obj)) (σ:St) (H:Hp) (s:Shared) (e:Value) (s':Shared),Inv X pins σ H s->CX X.stack H s E e s'->X.xe e s'
section
variable {X:Cx} {CX:CXT} {k:Nat} {f C:Addr} {fd:FuncData} {ps:List Str} {sp:Sp} {dvs:List V} {ds:List Value} {E:XK} {x m:Str} {p pos apos:Pos} {e o:Expr} {es:List Expr} {ta:TE} {t:TA}
theorem Nj {pins:List (Addr×Obj)} {σ:St} {H:Hp} {s:Shared} {Q:VK} {us:List Value} {vs:List V} (F:iI X.prog X.w X.K X.mg X.base CX k f fd ps sp) (hr:lD k X.A) (hb:Binds X.K fd ps ds) (hd:Vals dvs ds) (hx:Ak CX X E)
  (I:Inv X pins σ H s) (r:Vals vs us) (h:sp (vs++dvs) H Q E):wpAny (model X.prog X.w) X.A (call (.ref f) us) (EP X pins σ Q) X.xe s:=by
 have r2:Vals (vs++dvs) (us++ds):=r.append hd
 have hl:(us++ds).length=ps.length:=by rw [← r2.length]; exact F.len _ _ _ _ h
 refine wpAny_call (codeAny_mono (F.run X.A X.stack s H ⟨us,[]⟩ (us++ds) (vs++dvs) Q E hr I.env0 (hb s us I.kIn hl) r2 h) fun r s' hq=>?_)
 cases r with
 | error e=>exact hx pins σ H s e s' I hq
 | ok fl=>
  cases fl with
  | ret u=>exact I.after hq
  | next=>exact False.elim hq
  | brk=>exact False.elim hq
  | cont=>exact False.elim hq
theorem Js (F:iI X.prog X.w X.K X.mg X.base CX k f fd ps sp) (hr:lD k X.A) (hg:Gl X x) (hm:X.mg x=some (.ref f)) (hk:PySem.W.keepIn X.K (.ref f)=true) (hb:Binds X.K fd ps ds) (hd:Vals dvs ds) (hx:Ak CX X E)
  (ha:PA X (e :: es) t) (hdb:(x == ("__debug__" : Str))=false:=by decide) (he:starEach (e :: es) X.env=(false,eval e X.env) :: starEach es X.env:=by rfl) (hpl:(backTo pos (starEach es X.env)).any (·.1)=false:=by rfl) :
  PE X (.Call (.Name x p) (e :: es) [] pos) (KQ sp dvs E t):=by
 intro pins s σ H Q I h
 refine wpAny_Call_Name_kw (J5 I hg hm ?_ hdb)
 refine PySem.W.callWith_K (h₀:=X.base) I.ok.mod.kin hk (thn (ha pos pins s σ H _ I h) fun us s1 ⟨vs,H1,I1,r,q⟩=>⟨I1.kIn,?_⟩) he hpl
 exact Nj F hr hb hd hx I1 r q
end
structure cF (N P:List Str) (sc:Scope):Prop where
 kind:sc.kind = .function
 co:sc.isCoroutine=false
 gen:sc.isGenerator=false
 nd:N.Nodup
 pre:N.take P.length=P
 par:∀ x∈P,sc.names.lookup x=some .local∨sc.names.lookup x=some .cell
 nofree:∀ y∈sc.names,y.2≠.free
theorem vZ {kindOf:Str->Option NameKind} {x:Str}:∀ {binds:List (Str×Value)} {m:Str->Option Value},(∀ v,(x,v)∉binds)->bindL kindOf binds m x=m x
 | [],_,_=>rfl
 | (n,v) :: r,m,h=>by
  unfold bindL
  rw [vZ fun w hw=>h w (List.mem_cons_of_mem _ hw)]
  split
  .have:x≠n:=by rintro rfl; exact h v List.mem_cons_self
   simp [this]
  .rfl
theorem vO {kindOf:Str->Option NameKind} {x:Str}:∀ {binds:List (Str×Value)} {m:Str->Option Value},(∀ v,(x,v)∉binds)->bindC kindOf binds m x=m x
 | [],_,_=>rfl
 | (n,v) :: r,m,h=>by
  unfold bindC
  rw [vO fun w hw=>h w (List.mem_cons_of_mem _ hw)]
  split
  .rfl
  .have:x≠n:=by rintro rfl; exact h v List.mem_cons_self
   simp [this]
theorem ww {kindOf:Str->Option NameKind} {x:Str} {v:Value}:∀ {P:List Str} {vs:List Value} {i:Nat} {m:Str->Option Value},P.Nodup->P[i]? = some x->vs[i]? = some v->kindOf x=some .local->
  bindL kindOf (P.zip vs) m x=some v
 | [],_,_,_,_,h,_,_=>by simp at h
 | _ :: _,[],_,_,_,_,h,_=>by simp at h
 | p :: P,w :: vs,0,m,nd,h1,h2,hk=>by
  simp at h1 h2; subst h1; subst h2
  show bindL kindOf ((p,w) :: P.zip vs) m p=_
  unfold bindL
  rw [vZ fun v hv=>(List.nodup_cons.mp nd).1 (List.of_mem_zip hv).1,if_pos hk]
  simp
 | p :: P,w :: vs,i + 1,m,nd,h1,h2,hk=>by
  show bindL kindOf ((p,w) :: P.zip vs) m x=_
  unfold bindL
  exact ww (i:=i) (List.nodup_cons.mp nd).2 (by simpa using h1) (by simpa using h2) hk
theorem wu {kindOf:Str->Option NameKind} {x:Str} {v:Value}:∀ {P:List Str} {vs:List Value} {i:Nat} {m:Str->Option Value},P.Nodup->P[i]? = some x->vs[i]? = some v->kindOf x≠some .local->
  bindC kindOf (P.zip vs) m x=some v
 | [],_,_,_,_,h,_,_=>by simp at h
 | _ :: _,[],_,_,_,_,h,_=>by simp at h
 | p :: P,w :: vs,0,m,nd,h1,h2,hk=>by
  simp at h1 h2; subst h1; subst h2
  show bindC kindOf ((p,w) :: P.zip vs) m p=_
  unfold bindC
  rw [vO fun v hv=>(List.nodup_cons.mp nd).1 (List.of_mem_zip hv).1,if_neg hk]
  simp
 | p :: P,w :: vs,i + 1,m,nd,h1,h2,hk=>by
  show bindC kindOf ((p,w) :: P.zip vs) m x=_
  unfold bindC
  exact wu (i:=i) (List.nodup_cons.mp nd).2 (by simpa using h1) (by simpa using h2) hk
def start (N:List Str) (vs:List V):St:=vs.map some++List.replicate (N.length - vs.length) none
def zb (CX:CXT) (P:Program) (w:World) (K:PySem.W.Frag) (mg:Str->Option Value) (base:Heap) (N:List Str) (qual:Str) (scope:Scope) (f:Addr) (cd:Value) (A:Around) (outer:List Env) (s:Shared) (H:Hp) (E:XK):Cx where
 prog:=P
 w:=w
 K:=K
 mg:=mg
 base:=base
 A:=A.deeper (envOfC qual scope s.heap.objs.size f cd)
 N:=N
 s₀:=s
 H₀:=H
 env:=envOfC qual scope s.heap.objs.size f cd
 outer:=outer
 stack:=envOfC qual scope s.heap.objs.size f cd :: outer
 ex:=[]
 calm:=true
 fn:=fun _=>true
 pn:=[]
 xe:=fun e s'=>wpAny (model P w) (A.deeper (envOfC qual scope s.heap.objs.size f cd)) (leaving (envOfC qual scope s.heap.objs.size f cd) e) (fun _ s''=>CX outer H s E e s'') (fun e' s''=>CX outer H s E e' s'') s'
theorem yO {sc:Scope} {n:Nat} {x:Str} (h:sc.names.lookup x=some .cell):∃ c,(cellsFrom n sc.names []).lookup x=some c:=by
 have q:=PySem.W.cellsFrom_some sc.names n [] (.inl h)
 exact Option.isSome_iff_exists.mp q
theorem Dk {CX:CXT} {P:Program} {w:World} {K:PySem.W.Frag} {mg:Str->Option Value} {base:Heap} {N ps:List Str} {qual:Str} {scope:Scope} {f:Addr} {cd:Value} {A:Around} {outer:List Env} {s s1:Shared} {H:Hp} {E:XK} {us:List Value} {vs:List V}
  (S:cF N ps scope) (hd:A.handled=none) (e0:J9 P w K mg base A outer s H) (hl:vs.length=ps.length) (r:Vals vs us)
  (x:InCallC s s.heap.objs.size (bindL (envOfC qual scope s.heap.objs.size f cd).kindOf (ps.zip us) fun _=>none) (cellsFrom (s.heap.objs.size + 1) scope.names []) (bindC (envOfC qual scope s.heap.objs.size f cd).kindOf (ps.zip us) fun _=>none) s1) :
  Inv (zb CX P w K mg base N qual scope f cd A outer s H E) [] (start N vs) H s1:=by
 have hpl:ps.length<=N.length:=by have:=congrArg List.length S.pre; rw [List.length_take] at this; omega
 obtain ⟨h1,tk,rfl,hk⟩:=x.done
 have noA:∀ b:Addr,b∉(zb CX P w K mg base N qual scope f cd A outer s H E).ex:=fun b z=>absurd (show b∈([]:List Addr) from z) (by simp)
 refine ⟨⟨e0.mod,S.kind,rfl,rfl,Nat.le_refl _,fun y z c h1 h2=>?_,fun y hy=>?_,fun y c _ h=>?_,fun _=>hd,Around.frames_deeper e0.frames,.inr ⟨rfl,rfl⟩,fun b z=>absurd z (noA b),e0.bs,e0.bsz,fun b _ _=>noA b,fun b z=>absurd z (noA b),e0.funs,e0.frf⟩,
  rfl,e0.bare,Un.kept hk,⟨_,x.toInCall.ns,fun i y v h1 h2 h3=>?_⟩,fun y c h=>⟨_,x.cell y c h⟩,e0.hok.fresh (Nat.le_refl _),fun y c h=>?_,fun p hp=>absurd (show p∈([]:List (Addr×Obj)) from hp) (by simp),e0.hok.kept hk,?_⟩
 .exact name_of_addr x.apart (PySem.mem_of_lookup h1) (PySem.mem_of_lookup h2)
 .have hy:scope.names.lookup y=some .cell∨scope.names.lookup y=some .free:=hy
  rcases hy with hy | hy
  .exact yO hy
  .exact absurd rfl (S.nofree _ (PySem.mem_of_lookup hy))
 .exact Nat.le_of_lt (x.above y c (PySem.mem_of_lookup h))
 .have hi:i < vs.length:=by
   unfold start at h2
   by_cases hi:i < vs.length
   .exact hi
   .rw [List.getElem?_append_right (by simpa using hi)] at h2
    rw [List.getElem?_replicate] at h2
    split at h2 <;> cases h2
  have ha:vs[i]? = some v:=by
   unfold start at h2
   rw [List.getElem?_append_left (by simpa using hi),List.getElem?_map] at h2
   cases e:vs[i]? with
   | none=>rw [e] at h2; cases h2
   | some a=>rw [e] at h2; cases h2; rfl
  obtain ⟨u,hu,rv⟩:=r.get ha
  have hp:ps[i]? = some y:=by
   rw [← S.pre,List.getElem?_take_of_lt (by omega)]; exact h1
  have ndP:ps.Nodup:=by rw [← S.pre]; exact S.nd.sublist (List.take_sublist _ _)
  refine ⟨u,rv,?_⟩
  rcases S.par y (List.mem_of_getElem? hp) with k | k
  .exact .inl ⟨k,ww ndP hp hu k⟩
  .obtain ⟨c,e⟩:=yO (n:=s.heap.objs.size + 1) k
   refine .inr ⟨.inl k,c,e,?_⟩
   have q:=x.cell y c e
   rw [wu ndP hp hu (by show scope.names.lookup y≠_; rw [k]; decide)] at q
   exact q
 .exact e0.hok.fresh (Nat.le_of_lt (x.above y c (PySem.mem_of_lookup h)))
 .unfold start
  show _=N.length
  rw [List.length_append,List.length_map,List.length_replicate]
  omega
theorem O2 {CX:CXT} {P:Program} {w:World} {K:PySem.W.Frag} {mg:Str->Option Value} {base:Heap} {k:Nat} {f:Addr} {name qual:Str} {params:Arguments} {body:List Stmt} {scope:Scope} {dV kV doc pm cdv ct oc:Value} {an od:Option Addr}
  {osl:Array (Option Value)} {N ps:List Str} {sp:Sp} (lk:K.lookup f=some ⟨oc,od,.func (PySem.W.fnOf name qual params body scope dV kV doc pm an cdv ct),osl⟩) (hcd:PySem.W.codeIn K cdv qual=true) (S:cF N ps scope)
  (len:∀ vs H Q E,sp vs H Q E->vs.length=ps.length)
  (hbody:∀ (A:Around) (outer:List Env) (s:Shared) (H:Hp) (vs:List V) (Q:VK) (E:XK),lD k (A.deeper (envOfC qual scope s.heap.objs.size f cdv))->sp vs H Q E->
   ∃ t,PSs (zb CX P w K mg base N qual scope f cdv A outer s H E) body t/\t { nx:=fun _ H'=>Q .non H',rt:=Q } (start N vs) H) :
  iI P w K mg base CX (k + 1) f (PySem.W.fnOf name qual params body scope dV kV doc pm an cdv ct) ps sp:=by
 refine ⟨len,fun A outer s H args us vs Q E hr e0 hb r hsp=>?_⟩
 have hl:=len _ _ _ _ hsp
 have KX:K.In s.heap:=e0.mod.kin.keeps fun b o e=>(e0.bs b o e).1
 have lim:s.heap.NoLimit:=e0.mod.nolimit.keeps fun b o e=>(e0.bs b o e).1
 have hkind:∀ y∈ps.zip us,scope.names.lookup y.1=some .local∨(scope.names.lookup y.1=some .cell/\((cellsFrom (s.heap.objs.size + 1) scope.names []).lookup y.1).isSome=true):=fun ⟨n,v⟩ hy=>by
  rcases S.par n (List.of_mem_zip hy).1 with q | q
  .exact .inl q
  .exact .inr ⟨q,PySem.W.cellsFrom_some _ _ _ (.inl q)⟩
 refine codeAny_call_function hr.depth (KX _ _ lk) rfl S.co S.gen rfl (PySem.W.codeRec_of KX hcd) (hb _ _ _ _ ?_)
 refine wpAny_newFunctionEnv_cells S.kind hkind fun env he s1 x=>?_
 subst he
 refine ⟨lim.keeps x.toInCall.keep,codeAny_func ?_⟩
 obtain ⟨t,ht,hq⟩:=hbody A outer s H vs Q E (hr.deeper _) hsp
 have I:Inv (zb CX P w K mg base N qual scope f cdv A outer s H E) [] (start N vs) H s1:=Dk S hr.hd e0 hl r x
 refine wpAny_mono (ht [] s1 (start N vs) H _ I hq) (fun fl s' hs=>?_) fun e s' hs=>hs
 have fin:∀ {σ':St} {H':Hp} {v:V} {u:Value},Inv (zb CX P w K mg base N qual scope f cdv A outer s H E) [] σ' H' s'->RelV v u->Q v H'->CE outer P w H s Q u s':=
  fun {σ' H' v u} J rv q=>⟨v,H',J.os,J.bare,J.base,J.hok,rv,q⟩
 cases fl with
 | ret u=>
  obtain ⟨v,σ',H',J,rv,q⟩:=hs
  exact fin J rv q
 | next=>
  obtain ⟨σ',H',J,q⟩:=hs
  exact fin (v:=V.non) (u:=Value.none) J rfl q
 | brk=>
  obtain ⟨_,_,_,q⟩:=hs
  exact False.elim q
 | cont=>
  obtain ⟨_,_,_,q⟩:=hs
  exact False.elim q
section
variable {X:Cx} {x:Str} {p pos:Pos} {e:Expr} {es:List Expr} {t:TA} {id T:String} {r:List V->Hp->VK->Prop}
def tCB (r:List V->Hp->VK->Prop) (t:TA):TE:=fun σ H Q=>t σ H fun vs H1=>r vs H1 Q
theorem yH (hc:iD X (.builtin id) r) (hg:Gl X x) (hm:X.mg x=none) (hv:bootBuiltins x=some (.builtin id)) (ha:PA X (e :: es) t) (hn:x≠"__name__" := by decide) (hdb:(x == ("__debug__" : Str))=false:=by decide)
  (he:starEach (e :: es) X.env=(false,eval e X.env) :: starEach es X.env:=by rfl) (hpl:(backTo pos (starEach es X.env)).any (·.1)=false:=by rfl):PE X (.Call (.Name x p) (e :: es) [] pos) (tCB r t):=by
 intro pins s σ H Q I h
 refine wpAny_Call_Name_kw (pX I hg hm hv ?_ hn hdb)
 exact PyProof.Rows.callWith_builtin1 (thn (ha pos pins s σ H _ I h) fun us s1 ⟨vs,H1,I1,r1,q1⟩=>hc pins s1 σ H1 vs us Q I1 r1 q1) he hpl
theorem wA (hc:iD X (.type T) r) (hg:Gl X x) (hm:X.mg x=none) (hv:bootBuiltins x=some (.type T)) (ha:PA X (e :: es) t) (hn:x≠"__name__" := by decide) (hdb:(x == ("__debug__" : Str))=false:=by decide)
  (he:starEach (e :: es) X.env=(false,eval e X.env) :: starEach es X.env:=by rfl) (hpl:(backTo pos (starEach es X.env)).any (·.1)=false:=by rfl):PE X (.Call (.Name x p) (e :: es) [] pos) (tCB r t):=by
 intro pins s σ H Q I h
 refine wpAny_Call_Name_kw (pX I hg hm hv ?_ hn hdb)
 exact PyProof.Rows.callWith_type1 (thn (ha pos pins s σ H _ I h) fun us s1 ⟨vs,H1,I1,r1,q1⟩=>hc pins s1 σ H1 vs us Q I1 r1 q1) he hpl
end
end L2
namespace HT
open PySem PyProof.Rows
section
variable {prog:Program} {w:World} {A:Around} {E:Value->Shared->Prop} {s:Shared}
theorem cat_tup {t b:Addr} {vs ws:List Value} {Q:Value->Shared->Prop} (ht:IsTup s.heap t vs.toArray) (hb:IsTup s.heap b ws.toArray) (hv:vs≠[])
  (h1:ws=[]->Q (.ref t) s) (h2:ws≠[]->Q (.ref s.heap.objs.size) { s with heap:=s.heap.push { cls:=.type "tuple",data:=.seq (vs++ws).toArray } })
  (hsz:vs.length + ws.length<=sizeLine):wpAny (model prog w) A (binaryOp .Add (.ref t) (.ref b)) Q E s:=by
 obtain ⟨⟨cls,dd,data,sl⟩,ho,hc,n,hd⟩:=id ht
 obtain ⟨⟨cls2,dd2,data2,sl2⟩,ho2,hc2,n2,hd2⟩:=id hb
 simp only at hc hd hc2 hd2
 subst hc hd hc2 hd2
 have e:vs.toArray++ws.toArray=(vs++ws).toArray:=by simp
 by_cases hw:ws=[]
 .exact concat_meets ⟨_,ho,rfl⟩ ⟨_,ho2,rfl⟩ noFill_tuple_add seq_tuple_add PySem.F.slot_tuple_add PySem.F.entry_tuple_add (PySem.F.args_tuple_add_2 _ _)
   (tuple_addW1 t b vs.toArray ws.toArray n n2 dd dd2 sl sl2 (by simpa using hv) (by simp [hw])) ⟨ho,ho2,h1 hw⟩
 .refine concat_meets ⟨_,ho,rfl⟩ ⟨_,ho2,rfl⟩ noFill_tuple_add seq_tuple_add PySem.F.slot_tuple_add PySem.F.entry_tuple_add (PySem.F.args_tuple_add_2 _ _)
   (tuple_addW2 t b vs.toArray ws.toArray n n2 dd dd2 sl sl2 (by simpa using hv) (by simpa using hw) (by rw [List.size_toArray,List.size_toArray]; exact hsz)) ⟨ho,ho2,?_⟩
  rw [e]
  exact h2 hw
def sIx (n d:Nat):Option Int->Nat
 | none=>d
 | some v=>if v < 0 then (v + (n:Int)).toNat else min v.toNat n
theorem M5 (n d:Nat) (hd:d<=n) (o:Option Int):sIx n d o<=n:=by
 cases o with
 | none=>exact hd
 | some v=>
  show (if v < 0 then (v + (n:Int)).toNat else min v.toNat n)<=n
  by_cases hv:v < 0
  .rw [if_pos hv]; omega
  .rw [if_neg hv]; exact Nat.min_le_right _ _
theorem CG (v:Int) (n d:Nat):(if v < 0 then max (v + (n:Int)) 0 else min v (n:Int))=((sIx n d (some v):Nat):Int):=by
 show (if v < 0 then max (v + (n:Int)) 0 else min v (n:Int))=(((if v < 0 then (v + (n:Int)).toNat else min v.toNat n):Nat):Int)
 by_cases hv:v < 0
 .simp only [if_pos hv]; omega
 .simp only [if_neg hv]; omega
theorem adjust_gen (lo hi:Option Int) (n:Nat):Builtin.Slice.sliceAdjust lo hi 1 (n:Int)=(((sIx n 0 lo:Nat):Int),((sIx n n hi:Nat):Int)):=by
 have h1:¬ ((1:Int) < 0):=by omega
 unfold Builtin.Slice.sliceAdjust
 simp only [h1,if_false]
 refine Prod.ext ?_ ?_
 .cases lo with
  | none=>rfl
  | some v=>exact CG v n 0
 .cases hi with
  | none=>rfl
  | some v=>exact CG v n n
theorem places_gen (i j:Nat):Builtin.Slice.slicePlaces (i:Int) (j:Int) 1=j - i:=by
 unfold Builtin.Slice.slicePlaces
 have h1:(1:Int) > 0:=by omega
 simp only [h1,if_true,Int.ediv_one]
 split <;> omega
theorem slicePart_ {v:Value} {o:Option Int} {Q:Option Int->Shared->Prop} (p:IsPart v o) (h:Q o s):wpAny (model prog w) A (Builtin.Slice.slicePartIndex v) Q E s:=by
 cases p with
 | none=>exact slicePart_none h
 | int i t=>exact slicePart_int h
theorem rF {sl:Addr} {vl vu:Value} {lo hi:Option Int} {n:Nat} {Q:Int×Int×Nat->Shared->Prop} (hs:s.heap.IsSliceOf sl vl vu .none) (pl:IsPart vl lo) (pu:IsPart vu hi)
  (h:Q (((sIx n 0 lo:Nat):Int),1,sIx n n hi - sIx n 0 lo) s):wpAny (model prog w) A (Builtin.Slice.sliceApplied (.ref sl) (pure (n:Int))) Q E s:=by
 obtain ⟨os,hos,hcs,hds⟩:=id hs
 unfold Builtin.Slice.sliceApplied Builtin.Slice.sliceFields
 refine wpAny_bind (wpAny_bind (wpAny_field hos hds (x:=vl) rfl (wpAny_bind (wpAny_field hos hds (x:=vu) rfl (wpAny_bind (wpAny_field hos hds (x:=.none) rfl (wpAny_pure ?_)))))))
 refine wpAny_bind (slicePart_none ?_)
 show wpAny _ _ (if ((1:Int) == 0)=true then _ else _) _ _ s
 rw [if_neg (by decide)]
 refine wpAny_bind (slicePart_ pl (wpAny_bind (slicePart_ pu (wpAny_bind (wpAny_pure ?_)))))
 show wpAny _ _ (match Builtin.Slice.sliceAdjust lo hi 1 (n:Int) with | (lo,hi)=>pure (lo,(1:Int),Builtin.Slice.slicePlaces lo hi 1)) _ _ s
 rw [adjust_gen lo hi n]
 show wpAny _ _ (pure (((sIx n 0 lo:Nat):Int),(1:Int),Builtin.Slice.slicePlaces ((sIx n 0 lo:Nat):Int) ((sIx n n hi:Nat):Int) 1)) _ _ s
 rw [places_gen]
 exact wpAny_pure h
theorem Fq (xs:Array Value) (i k:Nat):((List.range k).filterMap fun (m:Nat)=>xs[((i:Int) + (m:Int) * 1).toNat]?).toArray=((xs.toList.drop i).take k).toArray:=by
 have e:(fun (m:Nat)=>xs[((i:Int) + (m:Int) * 1).toNat]?)=fun m=>xs[i + m]?:=by
  funext m
  have:((i:Int) + (m:Int) * 1).toNat=i + m:=by omega
  rw [this]
 rw [e]
 have:=pick_run xs i k
 rw [List.filterMap_map] at this
 have e2:((fun x=>xs[x]?) ∘ fun x=>i + x)=fun m=>xs[i + m]?:=rfl
 rw [e2] at this
 rw [this]
theorem getItem_tuple_cut {t sl:Addr} {items:Array Value} {vl vu:Value} {lo hi:Option Int} {Q:Value->Shared->Prop} (ht:IsTup s.heap t items) (hs:s.heap.IsSliceOf sl vl vu .none) (pl:IsPart vl lo) (pu:IsPart vu hi)
  (hw:¬ (sIx items.size 0 lo=0/\sIx items.size items.size hi=items.size))
  (h:Q (.ref s.heap.objs.size) { s with heap:=s.heap.push { cls:=.type "tuple",data:=.seq ((items.toList.drop (sIx items.size 0 lo)).take (sIx items.size items.size hi - sIx items.size 0 lo)).toArray } })
  (hsz:items.size<=sizeLine):wpAny (model prog w) A (getItem (.ref t) (.ref sl)) Q E s:=by
 have htake:sizeOk (.seq ((items.toList.drop (sIx items.size 0 lo)).take (sIx items.size items.size hi - sIx items.size 0 lo)).toArray):=by
  show ((items.toList.drop (sIx items.size 0 lo)).take (sIx items.size items.size hi - sIx items.size 0 lo)).toArray.size<=sizeLine
  rw [List.size_toArray,List.length_take,List.length_drop,Array.length_toList]
  omega
 have hj:sIx items.size items.size hi<=items.size:=M5 _ _ (Nat.le_refl _) hi
 obtain ⟨os,hos,hcs,hds⟩:=id hs
 have hTs:s.TypeIs (.ref sl) "slice" := ⟨os,hos,hcs⟩
 unfold getItem
 try with_reducible refine wpAny_holding ?_
 first | refine wpAny_bind (wpAny_pure ?_) | skip
 refine wpAny_bind (wpAny_sequenceKey ht.typeIs (by decide) ?_)
 refine wpAny_bind (wpAny_callSpecial?_slot (name:=Str.ofString "__getitem__") ht.typeIs PyProof.Rows.slot_tuple_getitem
  (wpAny_call_entry PyProof.Rows.slot_tuple_getitem ht.typeIs entry_tuple_getitem ?_ (args_tuple_getitem _ _)))
 show wpAny _ _ (Builtin.Tuple.tupleItemsOf (.ref t) >>= _) _ _ s
 refine wpAny_bind (tupleItemsOf_ ht ?_)
 refine wpAny_bind (wpAny_typeOf hTs ?_)
 rw [if_pos (by decide)]
 refine wpAny_bind (rF hs pl pu ?_)
 have hno:¬ ((((sIx items.size 0 lo:Nat):Int) == 0 && (1:Int) == 1 && (sIx items.size items.size hi - sIx items.size 0 lo) == items.size)=true):=by
  intro q
  rw [Bool.and_eq_true,Bool.and_eq_true] at q
  have q1:((sIx items.size 0 lo:Nat):Int)=0:=eq_of_beq q.1.1
  have q2:sIx items.size items.size hi - sIx items.size 0 lo=items.size:=eq_of_beq q.2
  exact hw ⟨by omega,by omega⟩
 show wpAny _ _ (if (((sIx items.size 0 lo:Nat):Int) == 0 && (1:Int) == 1 && (sIx items.size items.size hi - sIx items.size 0 lo) == items.size)=true then _ else _) _ _ s
 rw [if_neg hno,Fq]
 first
  | exact wpAny_bind (m:=Builtin.Tuple.tupleExact _) (wpAny_newObj_type (wpAny_pure ⟨_,rfl,wpAny_pure h⟩) htake)
  | exact wpAny_bind (m:=Builtin.Tuple.tupleExact _) (wpAny_newObj_type (wpAny_bind (wpAny_pure (wpAny_pure ⟨_,rfl,wpAny_pure h⟩))) htake)
  | exact wpAny_bind (wpAny_bind (m:=Builtin.Tuple.tupleExact _) (wpAny_newObj_type (wpAny_pure (wpAny_pure ⟨_,rfl,wpAny_pure h⟩)) htake))
  | exact wpAny_bind (wpAny_bind (m:=Builtin.Tuple.tupleExact _) (wpAny_newObj_type (wpAny_pure ⟨_,rfl,wpAny_pure h⟩) htake))
end
end HT
namespace L2
open PySem PySem.Spec PyProof.Rows
abbrev TO:=St->Hp->(Option Int->Hp->Prop)->Prop
def PO (X:Cx) (e:Option Expr) (t:TO):Prop:=
 ∀ (pins:List (Addr×Obj)) (s:Shared) (σ:St) (H:Hp) (Q:Option Int->Hp->Prop),Inv X pins σ H s->t σ H Q->
  wpAny (model X.prog X.w) X.A (evalPart e X.env) (fun u s'=>∃ o H',Inv X pins σ H' s'/\IsPart u o/\Q o H') X.xe s
def JW:TO:=fun _ H Q=>Q none H
def Qg (t:TE):TO:=fun σ H Q=>t σ H fun x H1=>∃ i,x = .int i/\Q (some i) H1
section
variable {X:Cx} {e:Expr} {te:TE} {lo hi:Option Expr} {tl th:TO} {pos p2:Pos}
theorem Ij:PO X none JW:=by
 intro pins s σ H Q I h
 rw [evalPart_none]
 exact wpAny_pure ⟨none,H,I,.none,h⟩
theorem Jc (h:PE X e te):PO X (some e) (Qg te):=by
 intro pins s σ H Q I hw
 rw [evalPart_some]
 refine thn (h pins s σ H _ I hw) fun u s1 ⟨x,H1,I1,r1,q1⟩=>?_
 obtain ⟨i,rfl,q⟩:=q1
 obtain ⟨t,rfl⟩:=r1
 exact ⟨some i,H1,I1,.int i t,q⟩
def SlR (X:Cx) (r:V->Option Int->Option Int->Hp->VK->Prop):Prop:=
 ∀ (pins:List (Addr×Obj)) (s:Shared) (σ:St) (H:Hp) (x:V) (v vl vu:Value) (lo hi:Option Int) (sl:Addr) (Q:VK),Inv X pins σ H s->RelV x v->s.heap.IsSliceOf sl vl vu .none->IsPart vl lo->IsPart vu hi->r x lo hi H Q->
  ∃ T id,typeLookup (.type T) "__getitem__" = pure (some (.builtin id))/\s.TypeIs v T/\wpAny (model X.prog X.w) X.A (getItem v (.ref sl)) (EP X pins σ Q) X.xe s
theorem SlR.or {r r':V->Option Int->Option Int->Hp->VK->Prop} (h:SlR X r) (h':SlR X r'):SlR X (fun x lo hi H Q=>r x lo hi H Q∨r' x lo hi H Q):=by
 intro pins s σ H x v vl vu lo hi sl Q I rx hs pl pu q
 rcases q with q | q
 .exact h pins s σ H x v vl vu lo hi sl Q I rx hs pl pu q
 .exact h' pins s σ H x v vl vu lo hi sl Q I rx hs pl pu q
def tSl (r:V->Option Int->Option Int->Hp->VK->Prop) (te:TE) (tl th:TO):TE:=fun σ H Q=>te σ H fun x H1=>tl σ H1 fun l H2=>th σ H2 fun u H3=>r x l u H3 Q
theorem zm {r:V->Option Int->Option Int->Hp->VK->Prop} (hr:SlR X r) (he:PE X e te) (hl:PO X lo tl) (hu:PO X hi th):PE X (.Subscript e (.Slice lo hi none p2) pos) (tSl r te tl th):=by
 intro pins s σ H Q I h
 refine Subscript_ (thn (he pins s σ H _ I h) fun v s1 ⟨x,H1,I1,r1,q1⟩=>?_)
 refine wpAny_Slice (thn (hl pins s1 σ H1 _ I1 q1) fun vl s2 ⟨l,H2,I2,pl,q2⟩=>thn (hu pins s2 σ H2 _ I2 q2) fun vu s3 ⟨u,H3,I3,pu,q3⟩=>?_)
 rw [evalPart_none]
 refine wpAny_pure ?_
 have I4:Inv X pins σ H3 { s3 with heap:=s3.heap.push { cls:=.type "slice",data:=.fields #[vl,vu,.none] } }:=I3.kept (t':=s3.toks) fun b ob q=>Heap.get?_push_of_some _ q
 obtain ⟨T,id,hT,ht,hg⟩:=hr pins { s3 with heap:=s3.heap.push { cls:=.type "slice",data:=.fields #[vl,vu,.none] } } σ H3 x v vl vu l u s3.heap.objs.size Q I4 r1 (Heap.IsSliceOf.new ..) pl pu q3
 show wpAny (model X.prog X.w) X.A (subscriptTail e (.Slice lo hi none p2) v (.ref s3.heap.objs.size)) (EP X pins σ Q) X.xe { s3 with heap:=s3.heap.push { cls:=.type "slice",data:=.fields #[vl,vu,.none] } }
 exact tail_any (ops:=[.ref s3.heap.objs.size,v]) ht hT hg (by with_unfolding_all rfl)
def uF (xs:List V) (lo hi:Option Int):List V:=(xs.drop (HT.sIx xs.length 0 lo)).take (HT.sIx xs.length xs.length hi - HT.sIx xs.length 0 lo)
theorem rR (xs:List V) (lo hi:Option Int):(uF xs lo hi).length<=xs.length:=by
 unfold uF
 rw [List.length_take,List.length_drop]
 omega
def Qy (K:PySem.W.Frag):V->Option Int->Option Int->Hp->VK->Prop:=fun x lo hi H Q=>∃ a xs,x = .ref a/\SqT K H a xs/\
 ¬ (HT.sIx xs.length 0 lo=0/\HT.sIx xs.length xs.length hi=xs.length)/\∀ p,H p=none->Q (.ref p) (upd H p (.tup (uF xs lo hi)))
theorem M4:SlR X (Qy X.K):=by
 intro pins s σ H x v vl vu lo hi sl Q I rx hs pl pu h
 obtain ⟨a,xs,rfl,hx,hw,q⟩:=h
 cases rx
 obtain ⟨its,r,ht,hz⟩:=I.tuple hx
 have hlen:its.toArray.size=xs.length:=by rw [List.size_toArray]; exact r.length.symm
 refine ⟨"tuple",_,PyProof.Rows.slot_tuple_getitem.lookup,ht.typeIs,?_⟩
 refine HT.getItem_tuple_cut ht hs pl pu (by rw [hlen]; exact hw) ?_ (by rw [hlen]; exact hz)
 rw [hlen]
 refine ⟨.ref s.heap.objs.size,_,I.laid (t':=s.toks) (o:=.tup (uF xs lo hi)) (fun b ob q=>Heap.get?_push_of_some _ q) (Nat.le_refl _) ?_,rfl,q _ (I.hok.fresh (Nat.le_refl _))⟩
 exact ⟨Nat.le_trans (rR xs lo hi) hz,_,(r.drop (HT.sIx xs.length 0 lo)).take (HT.sIx xs.length xs.length hi - HT.sIx xs.length 0 lo),IsTup.new _ _⟩
def OJ (K:PySem.W.Frag):R2:=fun x y H Q=>∃ a b xs ys,x = .ref a/\y = .ref b/\SqT K H a xs/\SqT K H b ys/\xs≠[]/\xs.length + ys.length<=sizeLine/\
 (ys=[]->Q (.ref a) H)/\(ys≠[]->∀ p,H p=none->Q (.ref p) (upd H p (.tup (xs++ys))))
theorem Vals.nil_iff {xs:List V} {us:List Value} (r:Vals xs us):us=[]↔xs=[]:=by
 cases r with
 | nil=>simp
 | cons _ _=>simp
theorem JH:OpR X (binaryOp .Add) (OJ X.K):=by
 intro pins s σ H x y v u Q I rx ry h
 obtain ⟨a,b,xs,ys,rfl,rfl,ha,hb,hx,hz,q1,q2⟩:=h
 cases rx
 cases ry
 obtain ⟨its,r1,p1,_⟩:=I.tuple ha
 obtain ⟨its2,r2,p2,_⟩:=I.tuple hb
 refine HT.cat_tup p1 p2 (fun z=>hx (r1.nil_iff.mp z)) (fun z=>⟨.ref a,H,I,rfl,q1 (r2.nil_iff.mp z)⟩) (fun z=>?_) (by rw [← r1.length,← r2.length]; exact hz)
 refine ⟨.ref s.heap.objs.size,_,I.laid (t':=s.toks) (o:=.tup (xs++ys)) (fun b ob q=>Heap.get?_push_of_some _ q) (Nat.le_refl _) ?_,rfl,q2 (fun w=>z (r2.nil_iff.mpr w)) _ (I.hok.fresh (Nat.le_refl _))⟩
 exact ⟨by rw [List.length_append]; exact hz,_,r1.append r2,IsTup.new _ _⟩
end
def ixN (n:Nat) (i:Int):Option Nat:=if 0<=i then (if i < n then some i.toNat else none) else if -(n:Int)<=i then some (i + n).toNat else none
def atI {α:Type} (xs:List α) (i:Int):Option α:=(ixN xs.length i).bind fun j=>xs[j]?
theorem BX {n:Nat} {i:Int} {j:Nat} (h:ixN n i=some j):seqIndex? i n=some j/\j < n/\-(n:Int)<=i/\i < n:=by
 unfold ixN at h
 by_cases h0:0<=i
 .rw [if_pos h0] at h
  by_cases h1:i < n
  .rw [if_pos h1] at h
   have e:i.toNat=j:=Option.some.inj h
   exact ⟨by rw [seqIndex_of h0 h1,e],by omega,by omega,h1⟩
  .rw [if_neg h1] at h; cases h
 .rw [if_neg h0] at h
  by_cases h1 : -(n:Int)<=i
  .rw [if_pos h1] at h
   have e:(i + n).toNat=j:=Option.some.inj h
   exact ⟨by rw [seqIndex_neg (by omega) h1,e],by omega,h1,by omega⟩
  .rw [if_neg h1] at h; cases h
theorem o5 {α:Type} {xs:List α} {i:Int} {v:α} (h:atI xs i=some v):∃ j,seqIndex? i xs.length=some j/\xs[j]? = some v/\j < xs.length/\-(xs.length:Int)<=i/\i < xs.length:=by
 unfold atI at h
 cases e:ixN xs.length i with
 | none=>rw [e] at h; cases h
 | some j=>
  rw [e] at h
  obtain ⟨h1,h2,h3,h4⟩:=BX e
  exact ⟨j,h1,h,h2,h3,h4⟩
theorem qj {α:Type} (xs:List α) (v:α):atI (xs++[v]) (-1)=some v:=by
 have hl:(xs++[v]).length=xs.length + 1:=by simp
 have e:ixN (xs++[v]).length (-1)=some xs.length:=by
  unfold ixN
  rw [hl,if_neg (by decide),if_pos (by omega)]
  congr 1
  omega
 unfold atI
 rw [e]
 show (xs++[v])[xs.length]? = some v
 simp
def xf (b:Expr):Prop:=∀ o i,subscripted b false o i=operate [o,i] (getItem o i)
def IxR (X:Cx) (r:R2):Prop:=
 ∀ (value slice:Expr) (pins:List (Addr×Obj)) (s:Shared) (σ:St) (H:Hp) (x y:V) (v u:Value) (Q:VK),Inv X pins σ H s->RelV x v->RelV y u->r x y H Q->
  subscripted slice false v u=operate [v,u] (getItem v u)->wpAny (model X.prog X.w) X.A (subscriptTail value slice v u) (EP X pins σ Q) X.xe s
def MtR (X:Cx) (id:String) (r:V->List V->Hp->VK->Prop):Prop:=
 ∀ (pins:List (Addr×Obj)) (s:Shared) (σ:St) (H:Hp) (x:V) (xs:List V) (v:Value) (us:List Value) (Q:VK),Inv X pins σ H s->RelV x v->Vals xs us->r x xs H Q->
  wpAny (model X.prog X.w) X.A (call (.builtin id) (v :: us)) (EP X pins σ Q) X.xe s
section
variable {X:Cx} {a b:Expr} {ta tb:TE} {pos:Pos}
theorem IxR.or {r r':R2} (h:IxR X r) (h':IxR X r'):IxR X (fun x y H Q=>r x y H Q∨r' x y H Q):=by
 intro value slice pins s σ H x y v u Q I rx ry q hs
 rcases q with q | q
 .exact h value slice pins s σ H x y v u Q I rx ry q hs
 .exact h' value slice pins s σ H x y v u Q I rx ry q hs
theorem K7 {r:R2} (hr:IxR X r) (ha:PE X a ta) (hb:PE X b tb) (hs:xf b):PE X (.Subscript a b pos) (tOp r ta tb):=by
 intro pins s σ H Q I h
 exact Subscript_ (LQ ha hb I h fun v u s2 x y H2 I2 rx ry q=>hr a b pins s2 σ H2 x y v u Q I2 rx ry q (hs _ _))
def Py (K:PySem.W.Frag):R2:=fun x y H Q=>∃ p xs i v,x = .ref p/\y = .int i/\SqL K H p xs/\atI xs i=some v/\Q v H
def O5 (K:PySem.W.Frag):R2:=fun x y H Q=>∃ p xs i v,x = .ref p/\y = .int i/\SqT K H p xs/\atI xs i=some v/\Q v H
def Qi:R2:=fun x y H Q=>∃ z i c,x = .str z/\y = .int i/\z.length<=sizeLine/\atI z.cps.toList i=some c/\Q (.str ⟨#[c]⟩) H
theorem Ko:IxR X (Py X.K):=by
 intro value slice pins s σ H x y v u Q I rx ry h hs
 obtain ⟨p,xs,i,z,rfl,rfl,hq,he,q⟩:=h
 cases rx
 obtain ⟨t,rfl⟩:=ry
 obtain ⟨its,r,pl,hz⟩:=I.list hq
 obtain ⟨j,h1,h2,h3,h4,h5⟩:=o5 he
 obtain ⟨w,ew,rw'⟩:=r.get h2
 have hl:=r.length
 have hn:=pZ
 have fin:EP X pins σ Q w s:=⟨z,H,I,rw',q⟩
 by_cases h0:0<=i
 .have hj:i.toNat=j:=by
   rw [seqIndex_of h0 h5] at h1
   exact Option.some.inj h1
  exact item_listR pl.isList h0 (by omega) (by rw [hj]; simpa using ew) fin hs
 .have hj:(i + (its.toArray.size:Int)).toNat=j:=by
   rw [seqIndex_neg (by omega) h4] at h1
   rw [List.size_toArray,← hl]
   exact Option.some.inj h1
  exact subscriptTail_builtinR (x:=w) pl.isList.typeIs slot_list_getitem.lookup
   (wpAny_getItem_list_neg (Q:=fun r s'=>r=w/\EP X pins σ Q r s') pl.isList (by omega) (by rw [List.size_toArray] <;> omega) (by omega) (by rw [hj]; simpa using ew) ⟨rfl,fin⟩) hs
theorem Nf:IxR X (O5 X.K):=by
 intro value slice pins s σ H x y v u Q I rx ry h hs
 obtain ⟨p,xs,i,z,rfl,rfl,hq,he,q⟩:=h
 cases rx
 obtain ⟨t,rfl⟩:=ry
 obtain ⟨its,r,pl,hz⟩:=I.tuple hq
 obtain ⟨j,h1,h2,h3,h4,h5⟩:=o5 he
 obtain ⟨w,ew,rw'⟩:=r.get h2
 have hl:=r.length
 have hn:=pZ
 have fin:EP X pins σ Q w s:=⟨z,H,I,rw',q⟩
 exact subscriptTail_builtinR (x:=w) pl.typeIs slot_tuple_getitem.lookup
  (getItem_tuple (j:=j) (Q:=fun r s'=>r=w/\EP X pins σ Q r s') pl (by omega) (by omega) (by rw [List.size_toArray,← hl]; exact h1) (by simpa using ew) ⟨rfl,fin⟩) hs
theorem Nx:IxR X Qi:=by
 intro value slice pins s σ H x y v u Q I rx ry h hs
 obtain ⟨z,i,c,rfl,rfl,hz,he,q⟩:=h
 obtain ⟨t,rfl⟩:=rx
 obtain ⟨t',rfl⟩:=ry
 obtain ⟨j,h1,h2,h3,h4,h5⟩:=o5 he
 have hl:z.cps.toList.length=z.length:=by simp [Str.length]
 rw [hl] at h1 h4 h5
 have hn:=pZ
 exact tail_any (typeIs_str s z t) slot_str_getitem.lookup (getItem_str (c:=c) (by
  have e1:decide (i < -(2 ^ 63:Int))=false:=decide_eq_false (by omega)
  have e2:decide (i >= 2 ^ 63)=false:=decide_eq_false (by omega)
  rw [e1,e2,Bool.or_false]) (by rw [h1]; simpa using h2) ⟨.str ⟨#[c]⟩,H,I.tok _,⟨_,rfl⟩,q⟩) hs
def rIx (K:PySem.W.Frag):R2:=fun x y H Q=>Py K x y H Q∨O5 K x y H Q∨Qi x y H Q
theorem Oi:IxR X (rIx X.K):=Ko.or (Nf.or Nx)
theorem zF (its:List Value) (n j:Nat) (u:Value):Obj.mapSeq (·.setIfInBounds j u) { cls:=.type "list",data:=.seq its.toArray n }={ cls:=.type "list",data:=.seq (its.set j u).toArray n }:=by
 simp [Obj.mapSeq]
theorem Inv.lst {pins:List (Addr×Obj)} {σ:St} {H:Hp} {s:Shared} {p:Addr} {xs:List V} (I:Inv X pins σ H s) (h:H p=some (.lst xs)) :
  ∃ (its:List Value) (n:Nat),Vals xs its/\s.heap.get? p=some { cls:=.type "list",data:=.seq its.toArray n }/\xs.length<=sizeLine:=by
 obtain ⟨z,its,n,r,e⟩:=I.hok p _ h
 exact ⟨its,n,r,e,z⟩
theorem Inv.lstUpd {pins:List (Addr×Obj)} {σ:St} {H:Hp} {s:Shared} {p:Addr} {xs ys:List V} {its its':List Value} {n n':Nat} {f:Obj->Obj} (I:Inv X pins σ H s) (h:H p=some (.lst xs))
  (ho:s.heap.get? p=some { cls:=.type "list",data:=.seq its.toArray n }) (hf:f { cls:=.type "list",data:=.seq its.toArray n }={ cls:=.type "list",data:=.seq its'.toArray n' }) (r:Vals ys its') (hz:ys.length<=sizeLine) (t:Nat) :
  Inv X pins σ (upd H p (.lst ys)) { s with heap:=s.heap.update p f,toks:=t }:=by
 have e:(s.heap.update p f).get? p=some { cls:=.type "list",data:=.seq its'.toArray n' }:=by
  rw [Heap.get?_update_self f ho (by rw [hf] <;> rfl),hf]
 refine I.write (x:=p) (e:=p) (by rw [h]; trivial) (.inl rfl) (fun b u hb q=>(Heap.get?_update_other _ _ (Ne.symm hb)).trans q) ⟨_,e⟩ ?_
 exact ⟨hz,its',n',r,e⟩
def Ky:V->V->V->Hp->(Hp->Prop)->Prop:=fun o i v H Q=>∃ p xs k j,o = .ref p/\i = .int k/\H p=some (.lst xs)/\ixN xs.length k=some j/\Q (upd H p (.lst (xs.set j v)))
theorem set_list:J3 X Ky:=by
 intro pins s σ H o i v ov iv u Q I ro ri rv h
 obtain ⟨p,xs,k,j,rfl,rfl,hp,hj,q⟩:=h
 cases ro
 obtain ⟨t,rfl⟩:=ri
 obtain ⟨its,n,r,ho,hz⟩:=I.lst hp
 obtain ⟨h1,h2,h3,h4⟩:=BX hj
 have hl:=r.length
 have hn:=pZ
 have I':Inv X pins σ (upd H p (.lst (xs.set j v))) { s with heap:=s.heap.update p (Obj.mapSeq (·.setIfInBounds j u)) }:=
  I.lstUpd hp ho (zF its n j u) (r.set rv j) (by rw [List.length_set]; exact hz) s.toks
 by_cases h0:0<=k
 .have hk:k.toNat=j:=by
   rw [seqIndex_of h0 h4] at h1
   exact Option.some.inj h1
  exact PySem.W.ki_setAt ho h0 (by omega) (by rw [List.size_toArray,← hl]; exact h4) (by rw [hk]; exact ⟨_,I',q⟩)
 .have hk:(k + (its.toArray.size:Int)).toNat=j:=by
   rw [seqIndex_neg (by omega) h3] at h1
   rw [List.size_toArray,← hl]
   exact Option.some.inj h1
  exact PySem.W.ki_setBack ho (by omega) (by rw [List.size_toArray,← hl]; exact h3) (by omega) (by rw [hk]; exact ⟨_,I',q⟩)
theorem xR (lo hi:Option Int) (n:Nat):(sliceBounds lo hi none n).1=((HT.sIx n 0 lo:Nat):Int)/\(sliceBounds lo hi none n).2.1=((HT.sIx n n hi:Nat):Int)/\(sliceBounds lo hi none n).2.2=1:=by
 refine ⟨?_,?_,rfl⟩
 .cases lo with
  | none=>simp [sliceBounds,HT.sIx]
  | some i=>
   simp only [sliceBounds,HT.sIx,Option.getD_none,show (1:Int) > 0 by decide,if_true]
   by_cases h:i < 0
   .simp only [h,if_true] <;> omega
   .simp only [h,if_false] <;> omega
 .cases hi with
  | none=>simp [sliceBounds,HT.sIx]
  | some i=>
   simp only [sliceBounds,HT.sIx,Option.getD_none,show (1:Int) > 0 by decide,if_true]
   by_cases h:i < 0
   .simp only [h,if_true] <;> omega
   .simp only [h,if_false] <;> omega
theorem vA (its:List Value) (lo hi:Option Int):slicePick its.toArray lo hi none=((its.drop (HT.sIx its.length 0 lo)).take (HT.sIx its.length its.length hi - HT.sIx its.length 0 lo)).toArray:=by
 obtain ⟨h1,h2,h3⟩:=xR lo hi its.toArray.size
 unfold slicePick
 rw [h1,h2,h3]
 simp only [sliceRange_one,pick_run,List.size_toArray] <;> rfl
def O1 (K:PySem.W.Frag):V->Option Int->Option Int->Hp->VK->Prop:=fun x lo hi H Q=>∃ a xs,x = .ref a/\SqL K H a xs/\∀ p,H p=none->Q (.ref p) (upd H p (.lst (uF xs lo hi)))
theorem J6:SlR X (O1 X.K):=by
 intro pins s σ H x v vl vu lo hi sl Q I rx hs pl pu h
 obtain ⟨a,xs,rfl,hx,q⟩:=h
 cases rx
 obtain ⟨its,r,ht,hz⟩:=I.list hx
 have hlen:=r.length
 refine ⟨"list",_,slot_list_getitem.lookup,ht.isList.typeIs,?_⟩
 refine wpAny_getItem_list_slice ht.isList hs pl pu .none (by simp) ?_ (by rw [List.size_toArray] <;> omega)
 rw [vA,← hlen]
 refine ⟨.ref s.heap.objs.size,_,I.laid (t':=s.toks) (o:=.lst (uF xs lo hi)) (fun b ob q=>Heap.get?_push_of_some _ q) (Nat.le_refl _) ?_,rfl,q _ (I.hok.fresh (Nat.le_refl _))⟩
 exact ⟨Nat.le_trans (rR xs lo hi) hz,_,0,(r.drop (HT.sIx xs.length 0 lo)).take (HT.sIx xs.length xs.length hi - HT.sIx xs.length 0 lo),Heap.get?_push_size _ rfl⟩
def nO:V->Bool
 | .non=>true
 | .bl _=>true
 | .int _=>true
 | .str _=>true
 | _=>false
def eqV:V->V->Bool
 | .non,.non=>true
 | .bl a,.bl b=>a == b
 | .bl a,.int b=>(if a then 1 else 0) == b
 | .int a,.bl b=>a == (if b then 1 else 0)
 | .int a,.int b=>a == b
 | .str a,.str b=>a == b
 | _,_=>false
theorem Oe {A:Around} {s:Shared} {y x:V} {u v:Value} (ry:RelV y u) (rx:RelV x v) (fy:nO y=true) (fx:nO x=true):SeqAt.EqAt A s u v (eqV y x):=by
 cases y with
 | non=>
  cases ry
  cases x with
  | non=>cases rx; exact SeqAt.EqAt.same _
  | bl b=>cases rx; exact SeqAt.EqAt.none_bool b
  | int b=>obtain ⟨t,rfl⟩:=rx; exact SeqAt.EqAt.none_int b t
  | str b=>obtain ⟨t,rfl⟩:=rx; exact SeqAt.EqAt.none_str b t
  | _=>exact absurd (show false=true from fx) Bool.false_ne_true
 | bl a=>
  cases ry
  cases x with
  | non=>cases rx; exact SeqAt.EqAt.bool_none a
  | bl b=>cases rx; exact SeqAt.EqAt.bool_bool a b
  | int b=>obtain ⟨t,rfl⟩:=rx; exact SeqAt.EqAt.bool_int a b t
  | str b=>obtain ⟨t,rfl⟩:=rx; exact SeqAt.EqAt.bool_str a b t
  | _=>exact absurd (show false=true from fx) Bool.false_ne_true
 | int a=>
  obtain ⟨t',rfl⟩:=ry
  cases x with
  | non=>cases rx; exact SeqAt.EqAt.int_none a t'
  | bl b=>cases rx; exact SeqAt.EqAt.int_bool a t' b
  | int b=>obtain ⟨t,rfl⟩:=rx; exact SeqAt.EqAt.int_int a t' b t
  | str b=>obtain ⟨t,rfl⟩:=rx; exact SeqAt.EqAt.int_str a t' b t
  | _=>exact absurd (show false=true from fx) Bool.false_ne_true
 | str a=>
  obtain ⟨t',rfl⟩:=ry
  cases x with
  | non=>cases rx; exact SeqAt.EqAt.str_none a t'
  | bl b=>cases rx; exact SeqAt.EqAt.str_bool a t' b
  | int b=>obtain ⟨t,rfl⟩:=rx; exact SeqAt.EqAt.str_int a t' b t
  | str b=>obtain ⟨t,rfl⟩:=rx; exact SeqAt.EqAt.str_str a t' b t
  | _=>exact absurd (show false=true from fx) Bool.false_ne_true
 | _=>exact absurd (show false=true from fy) Bool.false_ne_true
def eqU (x:V) (u:Value):Bool:=match u with
 | .none=>eqV .non x
 | .bool b=>eqV (.bl b) x
 | .int i _=>eqV (.int i) x
 | .str z _=>eqV (.str z) x
 | _=>false
theorem Ff {x y:V} {u:Value} (r:RelV y u) (f:nO y=true):eqU x u=eqV y x:=by
 cases y with
 | non=>cases r; rfl
 | bl b=>cases r; rfl
 | int i=>obtain ⟨t,rfl⟩:=r; rfl
 | str z=>obtain ⟨t,rfl⟩:=r; rfl
 | _=>exact absurd (show false=true from f) Bool.false_ne_true
theorem qD {x:V}:∀ {xs:List V} {us:List Value},Vals xs us->xs.all nO=true->us.any (eqU x)=xs.any fun y=>eqV y x
 | _,_,.nil,_=>rfl
 | y :: xs,u :: us,.cons r t,f=>by
  rw [List.all_cons,Bool.and_eq_true] at f
  rw [List.any_cons,List.any_cons,Ff r f.1,qD t f.2]
theorem oX {A:Around} {s:Shared} {x:V} {v:Value} (rx:RelV x v) (fx:nO x=true):∀ {xs:List V} {us:List Value},Vals xs us->xs.all nO=true->∀ u∈us,SeqAt.EqAt A s u v (eqU x u)
 | _,_,.nil,_=>fun u hu=>by cases hu
 | y :: xs,u :: us,.cons r t,f=>fun u' hu=>by
  rw [List.all_cons,Bool.and_eq_true] at f
  rcases List.mem_cons.mp hu with rfl | hu
  .rw [Ff r f.1]; exact Oe r rx f.1 fx
  .exact oX rx fx t f.2 u' hu
def inV (x:V) (xs:List V):Bool:=xs.any fun y=>eqV y x
def rIn (K:PySem.W.Frag) (neg:Bool):R2:=fun x y H Q=>∃ p xs,y = .ref p/\(SqL K H p xs∨SqT K H p xs)/\nO x=true/\xs.all nO=true/\Q (.bl (if neg then !inV x xs else inV x xs)) H
theorem DY:OpR X (compareOp .In) (rIn X.K false):=by
 intro pins s σ H x y v u Q I rx ry h
 obtain ⟨p,xs,rfl,hq,fx,fs,q⟩:=h
 cases ry
 rcases hq with hq | hq
 .obtain ⟨its,r,pl,hz⟩:=I.list hq
  refine SeqAt.in_listAt (eqU x) pl.isList (fun w hw=>oX rx fx r fs w (by simpa using hw)) ⟨.bl _,H,I,rfl,?_⟩
  rw [show its.toArray.any (eqU x)=its.any (eqU x) by simp,qD r fs]
  exact q
 .obtain ⟨its,r,pl,hz⟩:=I.tuple hq
  refine SeqAt.in_tupleAt (eqU x) pl (fun w hw=>oX rx fx r fs w (by simpa using hw)) ⟨.bl _,H,I,rfl,?_⟩
  rw [show its.toArray.any (eqU x)=its.any (eqU x) by simp,qD r fs]
  exact q
theorem wV:OpR X (compareOp .NotIn) (rIn X.K true):=by
 intro pins s σ H x y v u Q I rx ry h
 obtain ⟨p,xs,rfl,hq,fx,fs,q⟩:=h
 cases ry
 rcases hq with hq | hq
 .obtain ⟨its,r,pl,hz⟩:=I.list hq
  refine SeqAt.notIn_listAt (eqU x) pl.isList (fun w hw=>oX rx fx r fs w (by simpa using hw)) ⟨.bl _,H,I,rfl,?_⟩
  rw [show its.toArray.any (eqU x)=its.any (eqU x) by simp,qD r fs]
  exact q
 .obtain ⟨its,r,pl,hz⟩:=I.tuple hq
  refine SeqAt.notIn_tupleAt (eqU x) pl (fun w hw=>oX rx fx r fs w (by simpa using hw)) ⟨.bl _,H,I,rfl,?_⟩
  rw [show its.toArray.any (eqU x)=its.any (eqU x) by simp,qD r fs]
  exact q
theorem xG:OpR X (compareOp .NotIn) (fun x y H Q=>∃ i j,x = .str i/\y = .str j/\Q (.bl (!(!(Builtin.Str.occurrences j i 0 j.length 1).isEmpty))) H):=by
 intro pins s σ H x y v u Q I rx ry h
 obtain ⟨i,j,rfl,rfl,q⟩:=h
 obtain ⟨t,rfl⟩:=rx
 obtain ⟨t',rfl⟩:=ry
 exact notIn_str ⟨.bl _,H,I,rfl,q⟩
theorem xF:iD X (.builtin "len") (fun xs H Q=>∃ p ys,xs=[.ref p]/\(SqL X.K H p ys∨SqT X.K H p ys)/\Q (.int ys.length) H):=by
 intro pins s σ H xs us Q I r h
 obtain ⟨p,ys,rfl,hq,q⟩:=h
 obtain ⟨u,rfl,rx⟩:=vals1 r
 cases rx
 have hn:=pZ
 rcases hq with hq | hq
 .obtain ⟨its,r',pl,hz⟩:=I.list hq
  have hlen:=r'.length
  exact Calls.call_len_list pl.isList (by simp only [List.size_toArray] <;> omega) ⟨.int ys.length,H,I.tok _,⟨s.toks + 1,by rw [List.size_toArray,hlen]⟩,q⟩
 .obtain ⟨its,r',pl,hz⟩:=I.tuple hq
  have hlen:=r'.length
  exact len_tuple pl (by simp only [List.size_toArray] <;> omega) ⟨.int ys.length,H,I.tok _,⟨s.toks + 1,by rw [List.size_toArray,hlen]⟩,q⟩
theorem xr:iD X (.builtin "len") (fun xs H Q=>∃ z,xs=[.str z]/\z.length<=sizeLine/\Q (.int z.length) H):=by
 intro pins s σ H xs us Q I r h
 obtain ⟨z,rfl,hz,q⟩:=h
 obtain ⟨u,rfl,t,rfl⟩:=vals1 r
 have hn:=pZ
 exact len_str (by omega) ⟨.int z.length,H,I.tok _,⟨_,rfl⟩,q⟩
theorem xQ:iD X (.type "list") (fun xs H Q=>∃ p ys,xs=[.ref p]/\(SqL X.K H p ys∨SqT X.K H p ys)/\∀ l,H l=none->Q (.ref l) (upd H l (.lst ys))):=by
 intro pins s σ H xs us Q I r h
 obtain ⟨p,ys,rfl,hq,q⟩:=h
 obtain ⟨u,rfl,rx⟩:=vals1 r
 cases rx
 have fin:∀ (its:List Value),Vals ys its->ys.length<=sizeLine->∀ (h':Heap) (c':Nat),(∀ b o',s.heap.get? b=some o'->h'.get? b=some o')->
   h'.get? s.heap.objs.size=some { cls:=.type "list",dict:=none,data:=.seq its.toArray c',slots:=#[] }->EP X pins σ Q (.ref s.heap.objs.size) { s with heap:=h' }:=fun its r' hz h' c' kp e=>
  ⟨.ref s.heap.objs.size,_,I.laid (t':=s.toks) kp (Nat.le_refl _) (show fu X.prog X.w _ h' _ (.lst ys) from ⟨hz,its,c',r',e⟩),rfl,q _ (I.hok.fresh (Nat.le_refl _))⟩
 rcases hq with hq | hq
 .obtain ⟨its,r',pl,hz⟩:=I.list hq
  have hlen:=r'.length
  obtain ⟨o,ho,hc,n,hd⟩:=pl.isList
  exact call_list_seq p (.inl rfl) ho hc hd (fun h' c' kp e=>fin its r' hz h' c' kp e) (by simp only [List.size_toArray] <;> omega)
 .obtain ⟨its,r',pl,hz⟩:=I.tuple hq
  have hlen:=r'.length
  obtain ⟨o,ho,hc,n,hd⟩:=pl
  exact call_list_seq p (.inr rfl) ho hc hd (fun h' c' kp e=>fin its r' hz h' c' kp e) (by simp only [List.size_toArray] <;> omega)
theorem vI:iD X (.type "tuple") (fun xs H Q=>∃ p ys,xs=[.ref p]/\((SqL X.K H p ys/\∀ l,H l=none->Q (.ref l) (upd H l (.tup ys)))∨(SqT X.K H p ys/\Q (.ref p) H))):=by
 intro pins s σ H xs us Q I r h
 obtain ⟨p,ys,rfl,h⟩:=h
 obtain ⟨u,rfl,rx⟩:=vals1 r
 cases rx
 rcases h with ⟨hq,q⟩ | ⟨hq,q⟩
 .obtain ⟨its,r',pl,hz⟩:=I.list hq
  have hlen:=r'.length
  refine call_tuple_list pl.isList (fun h' kp=>?_) (by simp only [List.size_toArray] <;> omega)
  have I1:Inv X pins σ H { s with heap:=h' }:=I.kept (t':=s.toks) kp
  have I2:Inv X pins σ (upd H h'.objs.size (.tup ys)) { s with heap:=h'.push { cls:=.type "tuple",data:=.seq its.toArray } }:=
   I1.laid (t':=s.toks) (fun b o e=>Heap.get?_push_of_some _ e) (Nat.le_refl _) (show fu X.prog X.w _ _ _ (.tup ys) from ⟨hz,its,r',IsTup.new _ _⟩)
  exact ⟨.ref h'.objs.size,_,I2,rfl,q _ (I1.hok.fresh (Nat.le_refl _))⟩
 .obtain ⟨its,r',pl,hz⟩:=I.tuple hq
  exact call_tuple_same pl ⟨.ref p,H,I,rfl,q⟩
def tyV (K:PySem.W.Frag) (T:String) (x:V) (H:Hp):Prop:=match x with
 | .str _=>T = "str"
 | .int _=>T = "int"
 | .ref p=>(T = "list" /\ ∃ xs,SqL K H p xs)∨(T = "tuple" /\ ∃ o,K.lookup p=some o/\o.cls = .type "tuple" /\ o.dict=none)∨
   (T = "dict" /\ ((∃ kvs,H p=some (.dK kvs))∨∃ kvs,H p=some (.dT kvs)))∨(T = "set" /\ ∃ S n,H p=some (.set S n))
 | _=>False
theorem Lz {pins:List (Addr×Obj)} {σ:St} {H:Hp} {s:Shared} {T:String} {x:V} {v:Value} (I:Inv X pins σ H s) (r:RelV x v) (ty:tyV X.K T x H) :
  s.TypeIs v T/\∀ a,v = .ref a->∃ ob,s.heap.get? a=some ob/\ob.dict=none:=by
 cases x with
 | str z=>
  obtain ⟨t,rfl⟩:=r
  cases (show T = "str" from ty)
  exact ⟨typeIs_str s z t,fun _ e=>nomatch e⟩
 | int i=>
  obtain ⟨t,rfl⟩:=r
  cases (show T = "int" from ty)
  exact ⟨typeIs_int s i t,fun _ e=>nomatch e⟩
 | ref p=>
  cases r
  rcases ty with ⟨rfl,xs,hq⟩ | ⟨rfl,o,hk,hc,hd⟩ | ⟨rfl,hk⟩ | ⟨rfl,S,n,hk⟩
  .obtain ⟨its,_,pl,_⟩:=I.list hq
   refine ⟨pl.isList.typeIs,fun a e=>?_⟩
   cases e
   obtain ⟨o,n,e,c,hd,_⟩:=pl
   exact ⟨o,e,hd⟩
  .refine ⟨⟨o,I.kIn p o hk,hc⟩,fun a e=>?_⟩
   cases e
   exact ⟨o,I.kIn _ o hk,hd⟩
  .have z:∃ o,s.heap.get? p=some o/\o.ExactDict:=by
    rcases hk with ⟨kvs,hk⟩ | ⟨kvs,hk⟩
    .obtain ⟨_,_,_,_,o,_,_,e,ex,_⟩:=I.hok p _ hk
     exact ⟨o,e,ex⟩
    .obtain ⟨_,_,_,_,o,_,_,e,ex,_⟩:=I.hok p _ hk
     exact ⟨o,e,ex⟩
   obtain ⟨o,e,ex⟩:=z
   refine ⟨⟨o,e,ex.1⟩,fun a e2=>?_⟩
   cases e2
   exact ⟨o,e,ex.2.1⟩
  .obtain ⟨o,_,_,_,e,ex,_⟩:=I.hok p _ hk
   refine ⟨⟨o,e,ex.1⟩,fun a e2=>?_⟩
   cases e2
   exact ⟨o,e,ex.2.1⟩
 | _=>exact False.elim ty
def tBM (K:PySem.W.Frag) (T:String) (r:V->List V->Hp->VK->Prop) (to:TE) (t:TA):TE:=fun σ H Q=>to σ H fun x H1=>tyV K T x H1/\t σ H1 fun xs H2=>r x xs H2 Q
variable {o e:Expr} {es:List Expr} {to:TE} {t:TA} {name:Str} {apos cpos:Pos} {T id:String} {r:V->List V->Hp->VK->Prop}
theorem Ga (pa:PlainAttrs T) (slot:Slot T name id) (hty:typeOf (.builtin id)=pure (.type "method_descriptor")) (hm:MtR X id r) (ho:PE X o to) (ha:PA X (e :: es) t)
  (hbase:attributeBase o name X.env (eval o X.env)=eval o X.env:=by rfl)
  (hfew:((backTo cpos (starEach (e :: es) X.env)).all (fun x=>!x.1) && (backToKw cpos (keywordEach [] X.env)).all (fun x=>x.1.isSome)
   && decide ((e :: es).length + ([]:List Keyword).length + (if ([]:List Keyword).isEmpty then 0 else 1) < 30))=true:=by rfl)
  (hline:(apos.endLine == cpos.line)=true:=by rfl) (hs:starEach (e :: es) X.env=(false,eval e X.env) :: starEach es X.env:=by rfl) (hplain:(backTo cpos (starEach es X.env)).any (·.1)=false:=by rfl) :
  PE X (.Call (.Attribute o name apos) (e :: es) [] cpos) (tBM X.K T r to t):=by
 intro pins s σ H Q I h
 refine wpAny_Call_method_late hbase hfew hline rfl (thn (ho pins s σ H _ I h) fun v s1 ⟨x,H1,I1,r1,ty,q1⟩=>?_)
 obtain ⟨h1,h2⟩:=Lz I1 r1 ty
 refine ⟨T,id,pa,slot,hty,h1,h2,?_⟩
 have hA:=ha cpos pins s1 σ H1 _ I1 q1
 rw [hs] at hA ⊢
 refine Calls.callWith_builtin (by show (false || (backTo cpos (starEach es X.env)).any (·.1))=false; rw [hplain] <;> rfl) (Calls.evalArgs_plain ?_)
 exact thn hA fun us s2 ⟨vs,H2,I2,r2,q2⟩=>hm pins s2 σ H2 x vs v us Q I2 r1 r2 q2
end
def MtM (X:Cx) (id:String) (r:V->List V->Hp->VK->Prop):Prop:=
 ∀ (pins:List (Addr×Obj)) (s:Shared) (σ:St) (H:Hp) (x:V) (xs:List V) (v:Value) (us:List Value) (Q:VK),Inv X pins σ H s->RelV x v->Vals xs us->r x xs H Q->
  wpAny (model X.prog X.w) X.A (call (.builtin id) (v :: us)) (EP X pins σ Q) X.xe s
theorem Vals.one:∀ {x:V} {us:List Value},Vals [x] us->∃ u,us=[u]/\RelV x u
 | _,_,.cons r .nil=>⟨_,rfl,r⟩
theorem Vals.reverse {xs:List V} {us:List Value} (h:Vals xs us):Vals xs.reverse us.reverse:=by
 induction h with
 | nil=>exact .nil
 | cons r t ih=>rw [List.reverse_cons,List.reverse_cons]; exact Vals.append ih (.cons r .nil)
section
variable {X:Cx} {pins:List (Addr×Obj)} {σ:St} {H:Hp} {s:Shared} {l b:Addr} {xs ys zs:List V}
theorem Inv.lset {its its':List Value} {n:Nat} {f:Array Value->Array Value} {t':Nat} (I:Inv X pins σ H s) (hH:H l=some (.lst xs))
  (e:s.heap.get? l=some { cls:=.type "list",data:=.seq its.toArray n }) (hf:f its.toArray=its'.toArray) (hv:Vals ys its') (hz:ys.length<=sizeLine) :
  Inv X pins σ (upd H l (.lst ys)) { s with heap:=s.heap.update l (Obj.mapSeq f),toks:=t' }:=by
 have q:=PySem.IsL.update e f
 rw [hf] at q
 refine I.write (x:=l) (e:=l) (by rw [hH]; exact trivial) (.inl rfl) (fun b' u hb hu=>(Heap.get?_update_other s.heap (Obj.mapSeq f) (Ne.symm hb)).trans hu) ⟨_,q⟩ ?_
 exact ⟨hz,its',_,hv,q⟩
theorem Inv.lnew {its:List Value} {t':Nat} (I:Inv X pins σ H s) (hv:Vals ys its) (hz:ys.length<=sizeLine) :
  Inv X pins σ (upd H s.heap.objs.size (.lst ys)) { s with heap:=s.heap.push { cls:=.type "list",data:=.seq its.toArray },toks:=t' }:=
 I.laid (fun _ _ q=>Heap.get?_push_of_some _ q) (Nat.le_refl _) ⟨hz,its,0,hv,Heap.get?_push_size _ rfl⟩
theorem Inv.fresh (I:Inv X pins σ H s):H s.heap.objs.size=none:=I.hok.fresh (Nat.le_refl _)
theorem Inv.lstM (I:Inv X pins σ H s) (hH:H l=some (.lst xs)):xs.length<=sizeLine/\∃ (its:List Value) (n:Nat),Vals xs its/\xs.length=its.length/\s.heap.get? l=some { cls:=.type "list",data:=.seq its.toArray n }:=by
 obtain ⟨z,its,n,r,e⟩:=I.hok l _ hH
 exact ⟨z,its,n,r,r.length,e⟩
theorem HQ {n:Nat} (h:n<=sizeLine):Builtin.List.listTooLong n=false:=by
 unfold Builtin.List.listTooLong
 exact decide_eq_false (by omega)
end
section
variable {X:Cx}
def BZ:V->List V->Hp->VK->Prop:=fun x vs H Q=>∃ l xs y,x = .ref l/\vs=[y]/\H l=some (.lst xs)/\xs.length < sizeLine/\Q .non (upd H l (.lst (xs++[y])))
theorem Ea:MtM X "list.append" BZ:=by
 intro pins s σ H x vs v us Q I rx rv h
 obtain ⟨l,xs,y,rfl,rfl,hH,hz,q⟩:=h
 cases rx
 obtain ⟨u,rfl,ru⟩:=rv.one
 obtain ⟨z,its,n,r,hl,e⟩:=I.lstM hH
 refine call_meets F.slot_list_append ⟨_,e,rfl⟩ F.entry_list_append (F.args_list_append_2 _ _) (PySem.list_append l its.toArray n u (by rw [List.size_toArray]; omega)) ⟨e,?_⟩
 refine ⟨.non,_,I.lset (its':=its++[u]) hH e (by simp) (r.append (.cons ru .nil)) ?_,rfl,q⟩
 rw [List.length_append,List.length_singleton]
 omega
def Il:V->List V->Hp->VK->Prop:=fun x vs H Q=>∃ l b xs zs,x = .ref l/\vs=[.ref b]/\H l=some (.lst xs)/\H b=some (.lst zs)/\xs.length + zs.length<=sizeLine/\Q .non (upd H l (.lst (xs++zs)))
theorem mt_extend:MtM X "list.extend" Il:=by
 intro pins s σ H x vs v us Q I rx rv h
 obtain ⟨l,b,xs,zs,rfl,rfl,hH,hB,hz,q⟩:=h
 cases rx
 obtain ⟨u,rfl,ru⟩:=rv.one
 cases ru
 obtain ⟨z,its,n,r,hl,e⟩:=I.lstM hH
 obtain ⟨z2,its2,n2,r2,hl2,e2⟩:=I.lstM hB
 have hsz:its.toArray.size + its2.toArray.size<=sizeLine:=by rw [List.size_toArray,List.size_toArray]; omega
 have hlong:¬ (!its.toArray.isEmpty && Builtin.List.listTooLong (its.toArray.size + its2.toArray.size))=true:=by
  rw [HQ hsz,Bool.and_false]
  exact Bool.false_ne_true
 refine call_meets F.slot_list_extend ⟨_,e,rfl⟩ F.entry_list_extend (F.args_list_extend_2 _ _)
  (AutoSeq1.list_extend_list_list_0 l its.toArray n b its2.toArray n2 hlong (by rw [List.size_toArray]; omega) (by omega)) ⟨e,e2,?_⟩
 refine ⟨.non,_,I.lset (its':=its++its2) hH e (by simp) (r.append r2) ?_,rfl,q⟩
 rw [List.length_append]
 omega
def Pq:R2:=fun x y H Q=>∃ l b xs zs,x = .ref l/\y = .ref b/\H l=some (.lst xs)/\H b=some (.lst zs)/\xs.length + zs.length<=sizeLine/\∀ p,H p=none->Q (.ref p) (upd H p (.lst (xs++zs)))
theorem NB:OpR X (binaryOp .Add) Pq:=by
 intro pins s σ H x y v u Q I rx ry h
 obtain ⟨l,b,xs,zs,rfl,rfl,hH,hB,hz,q⟩:=h
 cases rx
 cases ry
 obtain ⟨z,its,n,r,hl,e⟩:=I.lstM hH
 obtain ⟨z2,its2,n2,r2,hl2,e2⟩:=I.lstM hB
 refine PySem.P.add_list e e2 ?_ (by rw [List.size_toArray,List.size_toArray]; omega)
 have ea:its.toArray++its2.toArray=(its++its2).toArray:=by simp
 rw [ea]
 exact ⟨.ref _,_,I.lnew (t':=s.toks) (r.append r2) (by rw [List.length_append]; omega),rfl,q _ I.fresh⟩
end
section
variable {κ:Type} [DecidableEq κ]
def nq (kvs:List (κ×V)) (k:κ):Option V:=(kvs.find? fun kv=>decide (kv.1=k)).map (·.2)
def putK (kvs:List (κ×V)) (k:κ) (v:V):List (κ×V):=
 if (kvs.any fun kv=>decide (kv.1=k))=true then kvs.map (fun kv=>if kv.1=k then (kv.1,v) else kv) else kvs++[(k,v)]
theorem ux {p:κ×V} {r:List (κ×V)} {k:κ} (e:p.1=k):nq (p :: r) k=some p.2:=by simp [nq,List.find?_cons,e]
theorem u_ {p:κ×V} {r:List (κ×V)} {k:κ} (e:¬ p.1=k):nq (p :: r) k=nq r k:=by simp [nq,List.find?_cons,e]
theorem uv (k:κ):∀ kvs:List (κ×V),(kvs.any fun kv=>decide (kv.1=k))=(nq kvs k).isSome
 | []=>rfl
 | p :: r=>by
  rw [List.any_cons]
  by_cases e:p.1=k
  .simp only [ux e,decide_eq_true e,Bool.true_or,Option.isSome_some]
  .rw [u_ e,decide_eq_false e,Bool.false_or]; exact uv k r
theorem mj (kvs:List (κ×V)) (k:κ) (v:V):(putK kvs k v).length<=kvs.length + 1:=by
 unfold putK
 split
 .rw [List.length_map]; omega
 .rw [List.length_append,List.length_cons,List.length_nil]; omega
theorem vh {kvs:List (κ×V)} {k:κ} (v:V) (h:nq kvs k=none):putK kvs k v=kvs++[(k,v)]:=by
 unfold putK
 rw [uv,h]
 exact if_neg (by decide)
theorem rz.isSome_eq {o:Option V} {u:Option Value} (r:rz o u):o.isSome=u.isSome:=by
 cases o with
 | none=>cases u with
  | none=>rfl
  | some _=>exact (show False from r).elim
 | some _=>cases u with
  | none=>exact (show False from r).elim
  | some _=>rfl
theorem rz.getD {o:Option V} {u:Option Value} {d:V} {d':Value} (r:rz o u) (rd:RelV d d'):RelV (o.getD d) (u.getD d'):=by
 cases o with
 | none=>cases u with
  | none=>exact rd
  | some _=>exact (show False from r).elim
 | some _=>cases u with
  | none=>exact (show False from r).elim
  | some _=>exact r
theorem KV.val {kvs:List (κ×V)} {vs:List (κ×Value)} (r:KV kvs vs) (k:κ):rz (nq kvs k) (valueAt vs k):=by
 unfold KV at r
 induction r with
 | nil=>exact True.intro
 | @cons p q ps qs h t ih=>
  obtain ⟨h1,h2⟩:=h
  by_cases e:p.1=k
  .have e':q.1=k:=h1.symm.trans e
   have b:valueAt (q :: qs) k=some q.2:=by simp [valueAt,List.find?_cons,e']
   rw [ux e,b]; exact h2
  .have e':¬ q.1=k:=fun z=>e (h1.trans z)
   have b:valueAt (q :: qs) k=valueAt qs k:=by simp [valueAt,List.find?_cons,e']
   rw [u_ e,b]; exact ih
theorem KV.any {kvs:List (κ×V)} {vs:List (κ×Value)} (r:KV kvs vs) (k:κ):(kvs.any fun kv=>decide (kv.1=k))=vs.any fun kv=>decide (kv.1=k):=by
 unfold KV at r
 induction r with
 | nil=>rfl
 | cons h t ih=>rw [List.any_cons,List.any_cons,ih,h.1]
theorem KV.repl {kvs:List (κ×V)} {vs:List (κ×Value)} (r:KV kvs vs) (k:κ) {y:V} {u:Value} (ry:RelV y u) :
  KV (kvs.map fun kv=>if kv.1=k then (kv.1,y) else kv) (vs.map fun kv=>if kv.1=k then (kv.1,u) else kv):=by
 unfold KV at r ⊢
 induction r with
 | nil=>exact .nil
 | @cons p q ps qs h t ih=>
  rw [List.map_cons,List.map_cons]
  refine .cons ?_ ih
  obtain ⟨h1,h2⟩:=h
  by_cases e:p.1=k
  .rw [if_pos e,if_pos (h1.symm.trans e)]; exact ⟨h1,ry⟩
  .rw [if_neg e,if_neg (fun z=>e (h1.trans z))]; exact ⟨h1,h2⟩
theorem KV.put {kvs:List (κ×V)} {vs:List (κ×Value)} (r:KV kvs vs) (k:κ) {y:V} {u:Value} (ry:RelV y u):KV (putK kvs k y) (stored vs k u):=by
 unfold putK stored
 rw [r.any k]
 by_cases e:(vs.any fun kv=>decide (kv.1=k))=true
 .rw [if_pos e,if_pos e]; exact r.repl k ry
 .rw [if_neg e,if_neg e]; exact Paired.snoc r ⟨rfl,ry⟩
theorem KV.keys {kvs:List (κ×V)} {vs:List (κ×Value)} (r:KV kvs vs):kvs.map (·.1)=vs.map (·.1):=by
 unfold KV at r
 induction r with
 | nil=>rfl
 | cons h t ih=>rw [List.map_cons,List.map_cons,ih,h.1]
theorem KV.length {kvs:List (κ×V)} {vs:List (κ×Value)} (r:KV kvs vs):kvs.length=vs.length:=Paired.length r
end
theorem pO {P:Program} {w:World} {k:Key} {u:Value} (r:RelV (kV k) u):(cU P w).is k u=true:=by
 cases k with
 | inl i=>obtain ⟨t,e⟩:=(show ∃ t,u=Value.int i t from r); subst e; exact xX P w i t
 | inr x=>obtain ⟨t,e⟩:=(show ∃ t,u=Value.str x t from r); subst e; exact yz P w x t
theorem v8 {P:Program} {w:World}:∀ {ks:List Key} {us:List Value},Vals (ks.map kV) us->ItemsAre (cU P w) ks us
 | [],_,r=>by rw [List.map_nil] at r; cases r; exact .nil
 | k :: ks,_,r=>by
  rw [List.map_cons] at r
  cases r with
  | cons h t=>exact .cons (pO h) (v8 t)
abbrev KT (H:Hp):List (List Key×V)->List (List Key×Addr×Value)->Prop:=Paired fun p q=>p.1=q.1/\H q.2.1=some (.tup (p.1.map kV))/\RelV p.2 q.2.2
theorem KT.val {H:Hp} {kvs:List (List Key×V)} {xs:List (List Key×Addr×Value)} (r:KT H kvs xs) (k:List Key):rz (nq kvs k) ((atKey xs k).map (·.2)):=by
 induction r with
 | nil=>exact True.intro
 | @cons p q ps qs h t ih=>
  obtain ⟨h1,_,h2⟩:=h
  by_cases e:p.1=k
  .have e':q.1=k:=h1.symm.trans e
   have b:atKey (q :: qs) k=some q.2:=by simp [atKey,List.find?_cons,e']
   rw [ux e,b]; exact h2
  .have e':¬ q.1=k:=fun z=>e (h1.trans z)
   have b:atKey (q :: qs) k=atKey qs k:=by simp [atKey,List.find?_cons,e']
   rw [u_ e,b]; exact ih
theorem KT.repl {H:Hp} {kvs:List (List Key×V)} {xs:List (List Key×Addr×Value)} (r:KT H kvs xs) (k:List Key) {y:V} {u:Value} (ry:RelV y u) :
  KT H (kvs.map fun kv=>if kv.1=k then (kv.1,y) else kv) (xs.map (putAt k u)):=by
 induction r with
 | nil=>exact .nil
 | @cons p q ps qs h t ih=>
  rw [List.map_cons,List.map_cons]
  refine .cons ?_ ih
  obtain ⟨h1,h2,h3⟩:=h
  unfold putAt
  by_cases e:p.1=k
  .rw [if_pos e,if_pos (h1.symm.trans e)]; exact ⟨h1,h2,ry⟩
  .rw [if_neg e,if_neg (fun z=>e (h1.trans z))]; exact ⟨h1,h2,h3⟩
theorem KT.put {H:Hp} {kvs:List (List Key×V)} {xs:List (List Key×Addr×Value)} (r:KT H kvs xs) (k:List Key) {b:Addr} {y:V} {u:Value} (hb:H b=some (.tup (k.map kV))) (ry:RelV y u) :
  KT H (putK kvs k y) (storedH xs k b u):=by
 have e:(kvs.any fun kv=>decide (kv.1=k))=(atKey xs k).isSome:=by
  rw [uv,(r.val k).isSome_eq,Option.isSome_map]
 unfold putK storedH
 rw [e]
 by_cases q:(atKey xs k).isSome=true
 .rw [if_pos q,if_pos q]; exact r.repl k ry
 .rw [if_neg q,if_neg q]; exact Paired.snoc r ⟨rfl,hb,ry⟩
theorem KT.keeps {H H':Hp} {kvs:List (List Key×V)} {xs:List (List Key×Addr×Value)} (r:KT H kvs xs) (ht:∀ b ys,H b=some (.tup ys)->H' b=some (.tup ys)):KT H' kvs xs:=
 Paired.mapP r fun _ _ z=>⟨z.1,ht _ _ z.2.1,z.2.2⟩
section
variable {P:Program} {w:World} {H:Hp} {h:Heap} {a:Addr}
theorem Kz {u:HO} (ok:HOk P w H h) (e:Rd H a u):fu P w H h a u:=e.ok ok
theorem v5 {kvs:List (Key×V)} (ok:HOk P w H h) (e:Rd H a (.dK kvs)):kvs.length<=sizeLine/\(a == sysModules)=false/\∃ vs,KV kvs vs/\h.DictOf (cU P w) a vs:=
 show fu P w H h a (.dK kvs) from Kz ok e
theorem K8 {kvs:List (Key×V)} (ok:HOk P w H h) (e:H a=some (.dK kvs)):kvs.length<=sizeLine/\(a == sysModules)=false/\∃ vs,KV kvs vs/\h.DictOf (cU P w) a vs:=v5 ok (.inl e)
theorem uf {ks:List Key} (ok:HOk P w H h) (e:H a=some (.tup (ks.map kV))):(tupleKind (cU P w)).is h ks a:=by
 obtain ⟨_,its,r,o,h1,h2,n,h3⟩:=(show fu P w H h a (.tup (ks.map kV)) from ok a _ e)
 exact ⟨o,its.toArray,n,h1,h2,h3,by simpa using v8 r⟩
theorem yq {kvs:List (List Key×V)} (ok:HOk P w H h) (e:Rd H a (.dT kvs)):kvs.length<=sizeLine/\(a == sysModules)=false/\
  ∃ xs,KT H kvs xs/\h.DictOfH (tupleKind (cU P w)) a xs:=by
 obtain ⟨z,y,xs,r,o,es,ep,h1,h2,h3,h4,h5⟩:=(show fu P w H h a (.dT kvs) from Kz ok e)
 refine ⟨z,y,xs,r,o,es,ep,h1,h2,h3,h4,fun x hx=>?_,h5⟩
 have all:∀ {l:List (List Key×V)} {m:List (List Key×Addr×Value)},KT H l m->∀ x∈m,(tupleKind (cU P w)).is h x.1 x.2.1:=by
  intro l m q
  induction q with
  | nil=>intro x hx; exact nomatch hx
  | @cons p q ps qs hq t ih=>
   intro x hx
   rcases List.mem_cons.mp hx with e | hx
   .subst e
    exact uf ok (by rw [← hq.1]; exact hq.2.1)
   .exact ih x hx
 exact all r x hx
theorem Pg {kvs:List (List Key×V)} (ok:HOk P w H h) (e:H a=some (.dT kvs)):kvs.length<=sizeLine/\(a == sysModules)=false/\
  ∃ xs,KT H kvs xs/\h.DictOfH (tupleKind (cU P w)) a xs:=yq ok (.inl e)
end
def qI (H:Hp) (a:Addr) (y:V) (r:Option V):Prop:=
 (∃ kvs k,Rd H a (.dK kvs)/\y=kV k/\r=nq kvs k)∨∃ kvs k b,Rd H a (.dT kvs)/\y = .ref b/\H b=some (.tup (k.map kV))/\r=nq kvs k
def zX (H:Hp) (a:Addr) (y v:V) (H':Hp):Prop:=
 (∃ kvs k,H a=some (.dK kvs)/\y=kV k/\kvs.length < sizeLine/\H'=upd H a (.dK (putK kvs k v)))∨
 ∃ kvs k b,H a=some (.dT kvs)/\y = .ref b/\H b=some (.tup (k.map kV))/\kvs.length < sizeLine/\H'=upd H a (.dT (putK kvs k v))
theorem qI.k {H:Hp} {a:Addr} {kvs:List (Key×V)} {k:Key} (e:H a=some (.dK kvs)):qI H a (kV k) (nq kvs k):=.inl ⟨kvs,k,.inl e,rfl,rfl⟩
theorem qI.t {H:Hp} {a b:Addr} {kvs:List (List Key×V)} {k:List Key} (e:H a=some (.dT kvs)) (eb:H b=some (.tup (k.map kV))):qI H a (.ref b) (nq kvs k):=.inr ⟨kvs,k,b,.inl e,rfl,eb,rfl⟩
theorem zX.k {H:Hp} {a:Addr} {kvs:List (Key×V)} {k:Key} {v:V} (e:H a=some (.dK kvs)) (hl:kvs.length < sizeLine):zX H a (kV k) v (upd H a (.dK (putK kvs k v))):=.inl ⟨kvs,k,e,rfl,hl,rfl⟩
theorem zX.t {H:Hp} {a b:Addr} {kvs:List (List Key×V)} {k:List Key} {v:V} (e:H a=some (.dT kvs)) (eb:H b=some (.tup (k.map kV))) (hl:kvs.length < sizeLine) :
  zX H a (.ref b) v (upd H a (.dT (putK kvs k v))):=.inr ⟨kvs,k,b,e,rfl,eb,hl,rfl⟩
section
variable {X:Cx} {pins:List (Addr×Obj)} {σ:St} {H:Hp} {s:Shared} {a:Addr} {y v:V} {u r:Value} {o:Option V} {A:Around} {E:Value->Shared->Prop}
theorem Inv.big (I:Inv X pins σ H s):sysModules < s.heap.objs.size:=by
 have h:mainGlobals < s.heap.objs.size:=(I.mod.glob.keeps I.bk).lt
 exact Nat.lt_trans (by decide) h
theorem DK {Q:Value->Shared->Prop} (hu:A.units + 1 < cLine) (I:Inv X pins σ H s) (g:qI H a y (some v)) (ry:RelV y u) (h:∀ w' s',Inv X pins σ H s'->RelV v w'->Q w' s') :
  wpAny (model X.prog X.w) A (getItem (.ref a) u) Q E s:=by
 rcases g with ⟨kvs,k,e,ey,l⟩ | ⟨kvs,k,b,e,ey,eb,l⟩
 .subst ey
  obtain ⟨z,hd,vs,rel,dd⟩:=v5 I.hok e
  obtain ⟨w',hw,rw'⟩:=rz.some_of (v:=v) (o:=valueAt vs k) (by rw [l]; exact rel.val k)
  exact wpAny_getItem_of (pO ry) dd.mapOf hw (h w' _ (I.tok _) rw')
 .subst ey
  cases (show u=Value.ref b from ry)
  obtain ⟨z,hd,xs,rel,dd⟩:=yq I.hok e
  obtain ⟨w',hw,rw'⟩:=rz.some_of (v:=v) (o:=(atKey xs k).map (·.2)) (by rw [l]; exact rel.val k)
  obtain ⟨p,hp,hp2⟩:=Option.map_eq_some_iff.mp hw
  refine wpAny_getItem_heap (tupleKind_room_in1 hu) (uf I.hok eb) dd hp ?_
  rw [hp2]
  exact h w' _ (I.tok _) rw'
theorem QK {Q:Value->Shared->Prop} (hu:A.units + 1 < cLine) (I:Inv X pins σ H s) (g:qI H a y o) (ry:RelV y u) (h:∀ s',Inv X pins σ H s'->Q (.bool o.isSome) s') :
  wpAny (model X.prog X.w) A (compareOp .In u (.ref a)) Q E s:=by
 rcases g with ⟨kvs,k,e,ey,l⟩ | ⟨kvs,k,b,e,ey,eb,l⟩
 .subst ey
  obtain ⟨z,hd,vs,rel,dd⟩:=v5 I.hok e
  refine wpAny_in_of (pO ry) hd dd.mapOf ?_
  rw [← (rel.val k).isSome_eq,← l]
  exact h _ (I.tok _)
 .subst ey
  cases (show u=Value.ref b from ry)
  obtain ⟨z,hd,xs,rel,dd⟩:=yq I.hok e
  refine wpAny_in_heap (tupleKind_room_in1 hu) (uf I.hok eb) hd dd ?_
  have q:=(rel.val k).isSome_eq
  rw [Option.isSome_map] at q
  rw [← q,← l]
  exact h _ (I.tok _)
theorem JN {Q:Value->Shared->Prop} (hu:A.units + 1 < cLine) (I:Inv X pins σ H s) (g:qI H a y o) (ry:RelV y u) (h:∀ s',Inv X pins σ H s'->Q (.bool (!o.isSome)) s') :
  wpAny (model X.prog X.w) A (compareOp .NotIn u (.ref a)) Q E s:=by
 rcases g with ⟨kvs,k,e,ey,l⟩ | ⟨kvs,k,b,e,ey,eb,l⟩
 .subst ey
  obtain ⟨z,hd,vs,rel,dd⟩:=v5 I.hok e
  refine wpAny_notIn_of (pO ry) hd dd.mapOf ?_
  rw [← (rel.val k).isSome_eq,← l]
  exact h _ (I.tok _)
 .subst ey
  cases (show u=Value.ref b from ry)
  obtain ⟨z,hd,xs,rel,dd⟩:=yq I.hok e
  refine wpAny_notIn_heap (tupleKind_room_in1 hu) (uf I.hok eb) hd dd ?_
  have q:=(rel.val k).isSome_eq
  rw [Option.isSome_map] at q
  rw [← q,← l]
  exact h _ (I.tok _)
theorem wK {h':Heap} {t':Nat} {ob:HO} (I:Inv X pins σ H s) (mu:Mut (H a)) (hs:Heap.SameBut a s.heap h') (he:∃ q,h'.get? a=some q) (new:fu X.prog X.w (upd H a ob) h' a ob) :
  Inv X pins σ (upd H a ob) { s with heap:=h',toks:=t' }:=
 I.write (x:=a) (e:=a) mu (.inl rfl) (fun b q hb z=>(hs.2 b hb).trans z) he new
theorem FW {P:Program} {w:World} {H':Hp} {h':Heap} {kvs:List (Key×V)} {vs:List (Key×Value)} (z:kvs.length<=sizeLine) (hd:(a == sysModules)=false) (rel:KV kvs vs) (dd:h'.DictOf (cU P w) a vs) :
  fu P w H' h' a (.dK kvs):=⟨z,hd,vs,rel,dd⟩
theorem Ds {H':Hp} {Q:Unit->Shared->Prop} (hu:A.units + 1 < cLine) (I:Inv X pins σ H s) (g:zX H a y v H') (ry:RelV y u) (rv:RelV v r) (h:∀ s',Inv X pins σ H' s'->Q () s') :
  wpAny (model X.prog X.w) A (setItem (.ref a) u r) Q E s:=by
 rcases g with ⟨kvs,k,e,ey,l,eH⟩ | ⟨kvs,k,b,e,ey,eb,l,eH⟩
 .subst ey eH
  obtain ⟨z,hd,vs,rel,dd⟩:=K8 I.hok e
  have hz:vs.length<=sizeLine:=by rw [← rel.length]; exact z
  have hl:(putK kvs k v).length<=sizeLine:=by have:=mj kvs k v; omega
  refine wpAny_setItem_pairs (hsz:=hz) (pO ry) dd fun h' dd' hs=>h _ ?_
  have he:∃ q,h'.get? a=some q:=let ⟨q,_,_,hq,_⟩:=dd'; ⟨q,hq⟩
  exact wK I (by rw [e]; exact True.intro) hs he (FW hl hd (rel.put k rv) dd')
 .subst ey eH
  cases (show u=Value.ref b from ry)
  obtain ⟨z,hd,xs,rel,dd⟩:=Pg I.hok e
  have hz:xs.length<=sizeLine:=by rw [← Paired.length rel]; exact z
  have hl:(putK kvs k v).length<=sizeLine:=by have:=mj kvs k v; omega
  refine wpAny_setItem_heap (hsz:=hz) (tupleKind_room_in1 hu) (uf I.hok eb) dd fun h' dd' hs=>h _ ?_
  obtain ⟨q,es,ep,hq,h2,h3,h4,_,h5⟩:=dd'
  refine wK I (by rw [e]; exact True.intro) hs ⟨q,hq⟩ ⟨hl,hd,_,(rel.put k eb rv).keeps fun c ys ec=>?_,q,es,ep,hq,h2,h3,h4,h5⟩
  rw [bh (Bc ec e (fun z=>nomatch z))]
  exact ec
end
section
variable {X:Cx} {pins:List (Addr×Obj)} {σ:St} {H:Hp} {s:Shared} {a:Addr} {kvs:List (Key×V)} {k:Key} {u:Value} {A:Around} {E:Value->Shared->Prop}
theorem Ot {Q:Value->Shared->Prop} (I:Inv X pins σ H s) (e:Rd H a (.dK kvs)) (h:∀ t s',Inv X pins σ H s'->Q (.int kvs.length t) s'):wpAny (model X.prog X.w) A (call (.builtin "len") [.ref a]) Q E s:=by
 obtain ⟨z,hd,vs,rel,dd⟩:=v5 I.hok e
 refine call_len_dict hd dd (by rw [← rel.length]; rw [sizeLine_eq] at z; omega) ?_
 rw [← rel.length]
 exact h _ _ (I.tok _)
end
theorem yU {X:Cx} {pins:List (Addr×Obj)} {σ:St} {H:Hp} {s:Shared} {a:Addr} {y:V} {o:Option V} (I:Inv X pins σ H s) (g:qI H a y o):s.TypeIs (.ref a) "dict" := by
 rcases g with ⟨kvs,k,e,_,_⟩ | ⟨kvs,k,b,e,_,_,_⟩
 .obtain ⟨_,_,vs,_,dd⟩:=v5 I.hok e
  exact dd.typeIs
 .obtain ⟨_,_,xs,_,dd⟩:=yq I.hok e
  exact dd.typeIs
theorem HB {P:Program} {w:World} {H:Hp} (h:Heap) (hb:sysModules < h.objs.size):fu P w H (h.push { cls:=.type "dict",data:=.dict #[] }) h.objs.size (.dK []):=
 ⟨Nat.zero_le _,beq_eq_false_iff_ne.mpr (Ne.symm (Nat.ne_of_lt hb)),[],.nil,Heap.DictOf.new h⟩
end L2
namespace Att
open PySem PySem.W PySem.Calls PyProof.Rows
theorem sJ {P:Params} {h:Heap}:∀ (ns:List Int) (vs:List Value),WellAll P h vs (ns.map WData.int)->IntsAre vs ns:=by
 intro ns
 induction ns with
 | nil=>
  intro vs w
  rw [List.map_nil] at w
  cases w
  exact .nil
 | cons n ns ih=>
  intro vs w
  rw [List.map_cons] at w
  cases w with
  | cons a b=>
   cases a
   exact .cons _ _ (ih _ b)
theorem Df {l:OpenLaw} {n:Nat} (hn:l.most=some n) {P:Params} {h:Heap} {args:List WData} {vals:List Value}
  (hpre:l.row.toRowW.claim.pre args=true) (hwl:WellAll P h vals args) :
  ∃ a vs ns,vals=[Value.ref a]/\args=[WData.list (ns.map WData.int)]/\h.get? a=some { cls:=.type "list",data:=.seq vs.toArray }/\IntsAre vs ns/\ns.length<=n:=by
 have hsh:WShape.hasAll [] args [.list .int]=true:=(pre_splitW hpre).1
 have hc:l.pre.holds [] { args:=args }=true:=(pre_splitW hpre).2
 obtain ⟨d,r,rfl,h1,h2⟩:=hasAllW_cons hsh
 obtain rfl:=hasAllW_nil h2
 obtain ⟨xs,rfl,h3⟩:=hasW_list h1
 obtain ⟨ns,rfl⟩:=items_int h3
 have hlen:ns.length<=n:=by
  unfold OpenLaw.pre at hc
  have h4:(WTm.not (.lt (.lit (.int (n:Int))) (.len (.arg 0)))).holds [] { args:=[.list (ns.map .int)] }=true:=by
   have h4:=(holds_andW hc).1
   rw [hn] at h4
   exact h4
  have h5:=condW_of h4 (w_not (w_lt w_lit (w_len_list (w_arg rfl))))
  rw [List.length_map] at h5
  refine Nat.le_of_not_lt fun q=>?_
  have q':(n:Int) < ((ns.length:Nat):Int):=by omega
  first
   | (rw [decide_eq_true q'] at h5; exact absurd h5 (by decide))
   | (simp at h5; omega)
 cases hwl with
 | cons w1 w2=>
  cases w2
  cases w1 with
  | list ho hall=>exact ⟨_,_,ns,rfl,rfl,ho,sJ ns _ hall,hlen⟩
theorem Ed (l:OpenLaw) (args:List WData):l.row.toRowW.claim.post args (.bool true) args=true:=
 postW_of (r:=l.row.toRowW) (X:=(true == true))
  (show WShape.has [] (.bool true) .bool=true by first | rfl | decide | simp [WShape.has,WShape.arms,WShape.armsAll])
  (show (WTm.eq .res (.lit (.bool true))).value [] { args:=args,res:=some (.bool true),after:=args }=some (.bool (true == true)) from w_eq_bool (w_res rfl) w_lit) rfl
theorem attach_call {l:OpenLaw} {n:Nat} {q:Program} {loose:List Str} {XP:(Str->Option Value)->Heap->Prop} {YP:World->Heap->Prop} {d:DefRec}
  (hn:l.most=some n) (hdf:d.params.defaults=[])
  (call:∀ (w:World) (s₀ s₁:Shared) (mg mb:Str->Option Value) (fa:Addr) (o:Obj) (pm cd doc:Value) (a:Addr) (vs:List Value) (ns:List Int),
   Ground q loose [] XP w s₀ mg mb s₁.heap->YP w s₁.heap->
   s₁.heap.get? fa=some o->o.data = .func (docDef d.name d.params d.body d.scope pm cd doc)->s₁.heap.CodeRec cd d.name->mg d.name=some (.ref fa)->
   s₁.heap.get? a=some { cls:=.type "list",data:=.seq vs.toArray }->IntsAre vs ns->ns.length<=n->s₁.gens = #[]->
   codeAny (model l.prog w) callerA (.call (.ref fa) ⟨[.ref a],[]⟩) (fun r s'=>r = .ok (.ret (.bool true))/\OldK s₁.heap s'.heap/\s'.os=s₁.os/\AllBare s'.gens) s₁) :
  WalkO q loose XP YP l.row.toRowW d [] (fun f vs=>PySem.call f vs):=by
 intro w s₀ s₁ mg mb G Y fa o pm cd doc dV kV ho hd hcd hD hmg hg args vals as hpre hlay hrd hwl hlo
 obtain rfl:dV = .none:=Dflts.none hD hdf
 obtain rfl:kV = .none:=Dflts.noKw hD
 obtain ⟨a,vs,ns,rfl,rfl,hobj,hints,hlen⟩:=Df hn hpre hwl
 refine enter_call (codeAny_mono (call w s₀ s₁ mg mb fa o pm cd doc a vs ns G Y ho (fd_plain hd) hcd hmg hobj hints hlen hg) fun r s' hq=>?_)
 obtain ⟨rfl,h2,h3,h4⟩:=hq
 exact ⟨.inl ⟨.bool true,.bool true,[],rfl,fun _=>rfl,.bool true,Ed l _,fun _=>⟨List.Pairwise.nil,fun _ hm=>(nomatch hm)⟩⟩,h2,h3,h4⟩
end Att
namespace L2
open PySem PySem.Spec PyProof.Rows
theorem wD:∀ {vs:List Value} {ns:List Int},IntsAre vs ns->Vals (ns.map V.int) vs
 | _,_,.nil=>.nil
 | _,_,.cons n t h=>.cons ⟨t,rfl⟩ (wD h)
def Only (H:Hp):Prop:=∀ b,H b=none∨∃ o xs,H b=some (.frz o (.lst xs))
theorem Et {P:Program} {w:World} {K:PySem.W.Frag} {mg mb:Str->Option Value} {CX:CXT} {k:Nat} {fa a:Addr} {fd:FuncData} {x:Str} {sp:Sp} {s₁:Shared} {vs:List Value} {ns:List Int}
  (KX:K.In s₁.heap) (hns:s₁.heap.Ns mainGlobals mg) (hb:s₁.heap.Ns builtinsNs mb) (hbb:∀ x:Str,x≠"__name__" -> mb x=bootBuiltins x) (hlim:s₁.heap.NoLimit) (hg:s₁.gens = #[])
  (ha:s₁.heap.get? a=some { cls:=.type "list",data:=.seq vs.toArray }) (hi:IntsAre vs ns) (hl:ns.length<=sizeLine) (hr:lD k callerA)
  (F:∀ base:Heap,K.In base->base.Ns mainGlobals mg->iI P w K mg base CX k fa fd [x] sp) (hbind:∀ (s:Shared) (u:Value),BindsTo s fd ⟨[u],[]⟩ [(x,u)])
  (hsp:∀ H:Hp,Only H->SqL K H a (ns.map V.int)->sp [.ref a] H (fun v _=>v = .bl true) fun _ _ _=>False)
  (hCX:∀ H e s',CX [] H s₁ (fun _ _ _=>False) e s'->False) :
  codeAny (model P w) callerA (.call (.ref fa) ⟨[.ref a],[]⟩) (fun r s'=>r = .ok (.ret (.bool true))/\OldK s₁.heap s'.heap/\s'.os=s₁.os/\AllBare s'.gens) s₁:=by
 have rv:=wD hi
 have lenV:=hi.length
 have core:∀ H:Hp,Only H->SqL K H a (ns.map V.int)->HOk P w H s₁.heap->(∀ b,H b≠none->b=a)->(H a≠none->K.lookup a=none)->
   codeAny (model P w) callerA (.call (.ref fa) ⟨[.ref a],[]⟩) (fun r s'=>r = .ok (.ret (.bool true))/\OldK s₁.heap s'.heap/\s'.os=s₁.os/\AllBare s'.gens) s₁:=by
  intro H hO hS hok hA hK
  have base_of:∀ {b:Addr} {o:Obj},s₁.heap.get? b=some o->H b=none->(wO s₁.heap H).get? b=some o:=fun e n=>Hi e n
  have noA:∀ {b:Addr} {o:Obj} {es:Array DictEntry} {ep:Nat},s₁.heap.get? b=some o->o.data = .dict es ep->H b=none:=fun {b o es ep} e d=>by
   cases q:H b with
   | none=>rfl
   | some u=>
    have e':b=a:=hA b (by rw [q]; simp)
    subst e'
    rw [ha] at e; cases e
    have d':Data.seq vs.toArray _=Data.dict es ep:=d
    cases d'
  have nsK:∀ {b:Addr} {m:Str->Option Value},s₁.heap.Ns b m->(wO s₁.heap H).Ns b m:=fun {b m} ⟨o,es,ep,e,d,r⟩=>⟨o,es,ep,base_of e (noA e d),d,r⟩
  have hKb:K.In (wO s₁.heap H):=fun b o e=>base_of (KX b o e) (by
   cases q:H b with
   | none=>rfl
   | some u=>
    have e':b=a:=hA b (by rw [q]; simp)
    subst e'
    rw [hK (by rw [q]; simp)] at e; cases e)
  have hM:Mod K mg (wO s₁.heap H):=⟨hKb,nsK hns,⟨mb,nsK hb,hbb⟩,let ⟨mc,h1,h2⟩:=hlim; ⟨mc,nsK h1,h2⟩⟩
  have e0:J9 P w K mg (wO s₁.heap H) callerA [] s₁ H:=⟨rfl,hM,fun b o e=>Ii e,Nat.le_of_eq (Ef _ _),trivial,fun b hb=>absurd (show b∈([]:List Addr) from hb) (by simp),hok,.of_eq hg⟩
  refine codeAny_mono ((F _ hKb (nsK hns)).run callerA [] s₁ H ⟨[.ref a],[]⟩ [.ref a] [.ref a] _ _ hr e0 (hbind s₁ (.ref a)) (.cons rfl .nil) (hsp H hO hS)) fun r s' h=>?_
  cases r with
  | error e=>exact (hCX H e s' h).elim
  | ok fl=>
   cases fl with
   | next=>exact False.elim h
   | brk=>exact False.elim h
   | cont=>exact False.elim h
   | ret u=>
    obtain ⟨v,H',os,bare,un,hok',r',q⟩:=h
    have q':v = .bl true:=q
    subst q'
    obtain rfl:u=Value.bool true:=r'
    refine ⟨rfl,OldK.of_keep fun b o e=>?_,os,bare⟩
    cases q:H b with
    | none=>exact un.keep b o e q (by intro z; exact absurd (show b∈([]:List Addr) from z) (by simp)) (by simp)
    | some u=>
     rcases hO b with z | ⟨ob,xs,z⟩
     .rw [q] at z; cases z
     .have z2:=un.frzs b ob _ z
      obtain ⟨e1,_⟩:=hok b _ z
      obtain ⟨e2,_⟩:=hok' b _ z2
      rw [e] at e1; cases e1
      exact e2
 cases hk:K.lookup a with
 | some o=>
  have e:=KX a o hk
  rw [ha] at e
  cases e
  refine core (fun _=>none) (fun _=>.inl rfl) (.inr ⟨_,vs.toArray,_,hk,rfl,rfl,rfl,by rw [List.size_toArray,lenV]; exact hl,by simpa using rv⟩) (fun b u z=>by have z':(none:Option HO)=some u:=z; cases z') (fun b z=>absurd rfl z) fun z=>absurd rfl z
 | none=>
  refine core (fun b=>if b=a then some (.frz { cls:=.type "list",data:=.seq vs.toArray } (.lst (ns.map V.int))) else none) (fun b=>?_) (.inl (.inr ⟨{ cls:=.type "list",data:=.seq vs.toArray },if_pos rfl⟩)) (fun b u z=>?_) (fun b z=>?_) fun _=>hk
  .by_cases hb:b=a
   .exact .inr ⟨_,_,if_pos hb⟩
   .exact .inl (if_neg hb)
  .by_cases hb:b=a
   .have z':=(if_pos hb).symm.trans z
    cases z'
    subst hb
    exact ⟨ha,by rw [List.length_map]; exact hl,vs,_,rv,ha⟩
   .have z':=(if_neg hb).symm.trans z
    cases z'
  .by_cases hb:b=a
   .exact hb
   .exact absurd (if_neg hb) z
theorem walk_of {l:PySem.W.OpenLaw} {n k:Nat} {q:Program} {loose:List Str} {XP:(Str->Option Value)->Heap->Prop} {YP:World->Heap->Prop} {d:DefRec} {K:Params->PySem.W.Frag} {CX:World->CXT} {sp:World->Sp} {x:Str}
  (hn:l.most=some n) (hn2:n<=sizeLine) (hdf:d.params.defaults=[]) (hr:lD k callerA)
  (hY:∀ (w:World) (h:Heap),YP w h->(K w.params).In h)
  (F:∀ (w:World) (mg:Str->Option Value) (fa:Addr) (h:Heap),(K w.params).In h->h.Ns mainGlobals mg->mg d.name=some (.ref fa)->
   ∃ fd:FuncData,(∀ (s:Shared) (u:Value),BindsTo s fd ⟨[u],[]⟩ [(x,u)])/\
    ∀ base:Heap,(K w.params).In base->base.Ns mainGlobals mg->iI l.prog w (K w.params) mg base (CX w) k fa fd [x] (sp w))
  (hsp:∀ (w:World) (H:Hp) (a:Addr) (ns:List Int),ns.length<=n->Only H->SqL (K w.params) H a (ns.map V.int)->sp w [.ref a] H (fun v _=>v = .bl true) fun _ _ _=>False)
  (hCX:∀ (w:World) (H:Hp) (s:Shared) (e:Value) (s':Shared),CX w [] H s (fun _ _ _=>False) e s'->False) :
  PySem.W.WalkO q loose XP YP l.row.toRowW d [] (fun f vs=>PySem.call f vs):=by
 refine Att.attach_call hn hdf fun w s₀ s₁ mg mb fa o pm cd doc a vs ns G Y ho hd hcd hmg hobj hints hlen hg=>?_
 have KX:=hY w _ Y
 obtain ⟨fd,hb,hF⟩:=F w mg fa _ KX G.T.g hmg
 exact Et KX G.T.g G.T.b G.T.builtins G.T.nolimit hg hobj hints (Nat.le_trans hlen hn2) hr hF hb (fun H hO hS=>hsp w H a ns hlen hO hS) fun H e s'=>hCX w H s₁ e s'
def cD (s:Stmt):Arguments:=match s with
 | .FunctionDef _ a _ _ _ _ _ _ _ _=>a
 | _=>{ posonlyargs:=[],args:=[],vararg:=none,kwonlyargs:=[],kw_defaults:=[],kwarg:=none,defaults:=[] }
def bV (s:Stmt):List Stmt:=match s with
 | .FunctionDef _ _ b _ _ _ _ _ _ _=>b
 | _=>[]
def aK (s:Stmt):Scope:=match s with
 | .FunctionDef _ _ _ _ _ _ sc _ _ _=>sc
 | _=>{ kind:=.function,names:=[],isGenerator:=false,isCoroutine:=false }
abbrev CX0:CXT:=fun _ _ _ _ _ _=>False
abbrev E0:XK:=fun _ _ _=>False
theorem Pn {X:Cx}:Ak CX0 X E0:=fun _ _ _ _ _ _ _ h=>h.elim
structure Fun (K:PySem.W.Frag) (x qual:Str) (st:Stmt) (f:Addr) (fd:FuncData):Prop where
 ex:∃ (oc:Value) (od:Option Addr) (kV doc pm:Value) (an:Option Addr) (cdv ct:Value) (osl:Array (Option Value)),
  fd=PySem.W.fnOf x qual (cD st) (bV st) (aK st) .none kV doc pm an cdv ct/\K.lookup f=some ⟨oc,od,.func fd,osl⟩/\PySem.W.codeIn K cdv qual=true
 kp:PySem.W.keepIn K (.ref f)=true
section
variable {P:Program} {w:World} {K:PySem.W.Frag} {mg:Str->Option Value} {base:Heap}
theorem Fun.ok {x qual:Str} {st:Stmt} {f:Addr} {fd:FuncData} {N ps:List Str} {k:Nat} {sp:Sp} (F:Fun K x qual st f fd) (S:cF N ps (aK st)) (len:∀ vs H Q E,sp vs H Q E->vs.length=ps.length)
  (hbody:∀ (cdv:Value) (A:Around) (outer:List Env) (s:Shared) (H:Hp) (vs:List V) (Q:VK) (E:XK),lD k (A.deeper (envOfC qual (aK st) s.heap.objs.size f cdv))->sp vs H Q E->
   ∃ t,PSs (zb CX0 P w K mg base N qual (aK st) f cdv A outer s H E).nox (bV st) t/\t { nx:=fun _ H'=>Q .non H',rt:=Q } (start N vs) H):iI P w K mg base CX0 (k + 1) f fd ps sp:=by
 obtain ⟨oc,od,kV,doc,pm,an,cdv,ct,osl,rfl,lk,hcd⟩:=F.ex
 refine O2 lk hcd S len fun A outer s H vs Q E hr hsp=>?_
 obtain ⟨t,h,q⟩:=hbody cdv A outer s H vs Q E hr hsp
 exact ⟨t,h.nox,q⟩
theorem Fun.binds {x qual:Str} {st:Stmt} {f:Addr} {fd:FuncData} {ps:List Str} (F:Fun K x qual st f fd)
  (h:∀ (kV doc pm:Value) (an:Option Addr) (cdv ct:Value) (us:List Value),us.length=ps.length->bindArgs (PySem.W.fnOf x qual (cD st) (bV st) (aK st) .none kV doc pm an cdv ct) ⟨us,[]⟩=pure (ps.zip us)):Binds K fd ps []:=by
 obtain ⟨oc,od,kV,doc,pm,an,cdv,ct,osl,rfl,lk,hcd⟩:=F.ex
 exact .all (h kV doc pm an cdv ct)
theorem fL {x qual:Str} {st:Stmt} {f:Addr} {oc:Value} {od an:Option Addr} {osl:Array (Option Value)} {kV doc pm cdv ct:Value} (l:K.lookup f=some ⟨oc,od,.func (PySem.W.fnOf x qual (cD st) (bV st) (aK st) .none kV doc pm an cdv ct),osl⟩)
  (c:PySem.W.codeIn K cdv qual=true) (k:PySem.W.keepIn K (.ref f)=true):Fun K x qual st f (PySem.W.fnOf x qual (cD st) (bV st) (aK st) .none kV doc pm an cdv ct):=⟨⟨oc,od,kV,doc,pm,an,cdv,ct,osl,rfl,l,c⟩,k⟩
end
section
variable {X:Cx}
theorem pv (i:Nat) {x:Str} {pos:Pos} (hN:X.N[i]? = some x:=by rfl) (hv:Vis X.env.scope x:=by first | exact Or.inl rfl | exact Or.inr (Or.inl rfl) | exact Or.inr (Or.inr rfl)) (hd:(x == ("__debug__" : Str))=false:=by decide)
  (hcd:(x == ("__classdict__" : Str))=false:=by decide):PE X (.Name x pos) (Ke i):=Nq hN hv hd hcd
end
theorem xx {A B:Prop} (h:B):if false=true then A else B:=by
 rw [if_neg Bool.false_ne_true]
 exact h
theorem sX {A B:Prop} (h:A):if true=true then A else B:=by
 rw [if_pos rfl]
 exact h
def Same (H H':Hp):Prop:=∀ b o,H b=some o->H' b=some o
theorem Same.refl (H:Hp):Same H H:=fun _ _ h=>h
theorem Same.trans {H H1 H2:Hp} (a:Same H H1) (b:Same H1 H2):Same H H2:=fun c o h=>b c o (a c o h)
theorem Same.free {H H':Hp} (e:Same H H') {l:Addr} (h:H' l=Option.none):H l=Option.none:=by
 cases q:H l with
 | none=>rfl
 | some o=>
  rw [e l o q] at h
  cases h
theorem Same.seq {K:PySem.W.Frag} {H H':Hp} {a:Addr} {xs:List V} (e:Same H H') (h:SqL K H a xs):SqL K H' a xs:=by
 rcases h with (h | ⟨o,h⟩) | h
 .exact .inl (.inl (e _ _ h))
 .exact .inl (.inr ⟨o,e _ _ h⟩)
 .exact .inr h
section
variable {X:Cx}
theorem Do:iD X (.builtin "len") (fun xs H Q=>∃ a kvs,xs=[V.ref a]/\H a=some (.dK kvs)/\Q (.int kvs.length) H):=by
 intro pins s σ H xs us Q I r h
 obtain ⟨a,kvs,rfl,ha,q⟩:=h
 obtain ⟨u,rfl,ru⟩:=vals1 r
 cases ru
 exact Ot I (.inl ha) fun t s' I'=>⟨.int kvs.length,H,I',⟨t,rfl⟩,q⟩
end
end L2
set_option maxHeartbeats 4000000
namespace Jb
open PySem PySem.Spec PyProof.Rows L2
structure Cal (P:Program) (w:World) (K:PySem.W.Frag) (mg:Str->Option Value) (base:Heap) (k:Nat) (x:Str) (ps:List Str) (sp:Sp):Prop where
 ex:∃ f fd,iI P w K mg base CX0 k f fd ps sp/\mg x=some (.ref f)/\PySem.W.keepIn K (.ref f)=true/\Binds K fd ps []
section
variable {X:Cx} {e:Expr} {es:List Expr} {t:TA} {p pos:Pos} {a b:Expr} {ta tb:TE}
theorem Ac {k:Nat} {x:Str} {ps:List Str} {sp:Sp} (C:Cal X.prog X.w X.K X.mg X.base k x ps sp) (hr:lD k X.A) (hg:Gl X x) (ha:PA X (e :: es) t)
  (hdb:(x == ("__debug__" : Str))=false:=by decide) (he:starEach (e :: es) X.env=(false,eval e X.env) :: starEach es X.env:=by rfl) (hpl:(backTo pos (starEach es X.env)).any (·.1)=false:=by rfl) :
  PE X (.Call (.Name x p) (e :: es) [] pos) (KQ sp [] E0 t):=by
 obtain ⟨f,fd,F,hm,hk,hb⟩:=C.ex
 exact Js F hr hg hm hk hb .nil Pn ha hdb he hpl
theorem Qd {x:Str} {n:String} (hg:Gl X x) (hm:X.mg x=none) (hv:bootBuiltins x=some (.type n)) (hn:x≠"__name__" := by decide) (hd:(x == ("__debug__" : Str))=false:=by decide):PE X (.Name x pos) (tC (.ty n)):=
 IW hg hm hv rfl hn hd
def Pa (_ j:Int):Prop:=0 < j/\j < 18446744073709551616
theorem FN:OpR X (binaryOp .FloorDiv) (rI Pa fun i j=>.int (i / j)):=opI fun i j _ _ _ _ _ hc q=>by
 have h1:(0:Int) < j:=hc.1
 have h2:j < 18446744073709551616:=hc.2
 have h3:j.natAbs < 2 ^ 64:=by omega
 have h4:j.natAbs≠0:=by omega
 have h5:j.natAbs.log2 < 64:=(Nat.log2_lt h4).mpr h3
 exact floordiv_int (by omega) (by rw [Int.fdiv_eq_ediv_of_nonneg i (by omega)]; exact q) (.inl (PyProof.noPylong_of_log2 (by omega)))
theorem zc:iD X (.builtin "isinstance") (fun xs H Q=>∃ x n t b,xs=[x,.ty n]/\nY X.K H x t/\PySem.W.kitOne X.K t (.type n)=some b/\Q (.bl b) H):=by
 intro pins s σ H xs us Q I r h
 obtain ⟨x,n,t,b,rfl,ty,e,q⟩:=h
 obtain ⟨u,w',rfl,r1,r2⟩:=vals2 r
 cases r2
 exact Ei I r1 ty e fun tk=>⟨.bl b,H,I.tok tk,rfl,q⟩
end
theorem Same.new {q:Addr} {H:Hp} {o:HO} (h:H q=none):Same H (L2.upd H q o):=fun b u e=>by rw [bh (bN e h)]; exact e
theorem Ae {α β:Type} {l:List α} {f:α->β->Sem (ForInStep β)} (g:β->α->β):∀ (init:β),(∀ x∈l,∀ c,f x c=pure (.yield (g c x)))->forIn l init f=pure (l.foldl g init):=by
 induction l with
 | nil=>intro init _; rfl
 | cons x r ih=>
  intro init h
  rw [List.forIn_cons,h x List.mem_cons_self init]
  show (pure (ForInStep.yield (g init x)) >>= _)=_
  rw [pure_bind]
  exact ih (g init x) fun y hy c=>h y (List.mem_cons_of_mem _ hy) c
def pK (env:Env) (cs:List (Str×Addr)) (y:Str×NameKind):List (Str×Addr):=if y.2 == .free then (y.1,(env.cells.lookup y.1).getD 0) :: cs else cs
def uJ (scope:Scope) (env:Env):List (Str×Addr):=scope.names.foldl (pK env) []
theorem pN {scope:Scope} {env:Env} (h:∀ y∈scope.names,y.2 = .free->∃ c,env.cells.lookup y.1=some c):closureFor scope env=pure (uJ scope env):=by
 unfold closureFor
 dsimp only
 rw [Ae (pK env) [] fun y hy c=>?_]
 .rw [pure_bind]
  rfl
 .obtain ⟨n,k⟩:=y
  unfold pK
  dsimp only
  by_cases hk:(k == NameKind.free)=true
  .rw [if_pos hk,if_pos hk]
   obtain ⟨a,ha⟩:=h (n,k) hy (by simpa using hk)
   have ha:env.cells.lookup n=some a:=ha
   unfold cellOf
   rw [ha]
   rfl
  .rw [if_neg hk,if_neg hk]
theorem vR {env:Env} (R:Str->Addr->Prop):∀ (l:List (Str×NameKind)) (acc:List (Str×Addr)),(∀ x c,acc.lookup x=some c->R x c)->(∀ y∈l,y.2 = .free->R y.1 ((env.cells.lookup y.1).getD 0))->
  ∀ x c,(l.foldl (pK env) acc).lookup x=some c->R x c
 | [],acc,h,_=>h
 | y :: r,acc,h,hy=>by
  refine vR R r (pK env acc y) (fun x c e=>?_) fun z hz=>hy z (List.mem_cons_of_mem _ hz)
  unfold pK at e
  split at e
  .rename_i hk
   rw [List.lookup_cons] at e
   cases hx:(x == y.1) with
   | true=>
    rw [hx] at e
    have ex:x=y.1:=by simpa using hx
    cases e
    rw [ex]
    exact hy y List.mem_cons_self (by simpa using hk)
   | false=>
    rw [hx] at e
    exact h x c e
  .exact h x c e
theorem rN {env:Env}:∀ (l:List (Str×NameKind)) (acc:List (Str×Addr)) (x:Str),((∃ c,acc.lookup x=some c)∨(x,NameKind.free)∈l)->∃ c,(l.foldl (pK env) acc).lookup x=some c
 | [],acc,x,h=>by
  rcases h with h | h
  .exact h
  .cases h
 | y :: r,acc,x,h=>by
  refine rN r (pK env acc y) x ?_
  rcases h with ⟨c,h⟩ | h
  .left
   unfold pK
   split
   .rw [List.lookup_cons]
    cases hx:(x == y.1) with
    | true=>exact ⟨_,rfl⟩
    | false=>exact ⟨c,h⟩
   .exact ⟨c,h⟩
  .rcases List.mem_cons.mp h with e | e
   .left
    unfold pK
    subst e
    rw [if_pos (by rfl),List.lookup_cons,show (x == x)=true by simp]
    exact ⟨_,rfl⟩
   .exact .inr e
def gV (X:Cx) (N':List Str) (scope:Scope) (C:Addr) (s₂:Shared) (H₂:Hp) (fp:List Addr):Cx:=
 { X with N:=N',s₀:=s₂,H₀:=H₂,env:=compEnvC scope (uJ scope X.env) C X.env,outer:=X.stack,stack:=X.stack,ex:=fp,fn:=fun _=>false,pn:=[],xe:=fun _ _=>False }
def j_ (cap:List (Option Nat)) (σ:L2.St):L2.St:=cap.map fun o=>o.bind fun j=>(σ[j]?).bind id
structure gU (sc:Scope) (N N':List Str) (scope:Scope) (cap:List (Option Nat)):Prop where
 kind:scope.kind = .function
 nocell:∀ y∈scope.names,y.2≠.cell
 nm:∀ y∈scope.names,y.2 = .local->scope.names.lookup y.1=some .local
 free:∀ y∈scope.names,y.2 = .free->sc.names.lookup y.1=some .cell∨sc.names.lookup y.1=some .free
 len:cap.length=N'.length
 cap:∀ i∈List.range cap.length,∀ j∈List.range N.length,cap[i]? = some (some j)->N[j]? = N'[i]?/\∀ x∈N'[i]?,scope.names.lookup x=some .free
theorem oO {α:Type} {l:List (Str×α)} {x:Str} {k:α} (h:l.lookup x=some k):(x,k)∈l:=PySem.mem_of_lookup h
theorem qe {scope:Scope} {env:Env} {x:Str} {k:NameKind} (hk:(relabel scope env).names.lookup x=some k) (hk2:k = .cell∨k = .free) (hnc:∀ y∈scope.names,y.2≠.cell):(x,NameKind.free)∈scope.names:=by
 have h:=oO hk
 obtain ⟨⟨n,q⟩,hm,e⟩:=List.mem_map.mp h
 dsimp only at e
 split at e
 .rename_i hc
  cases e
  have:q = .free:=by
   have:=(Bool.and_eq_true_iff.mp (Bool.and_eq_true_iff.mp hc).1).1
   simpa using this
  subst this
  exact hm
 .cases e
  rcases hk2 with z | z
  .subst z; exact absurd rfl (hnc _ hm)
  .subst z; exact hm
section
variable {X:Cx} {pins:List (Addr×Obj)} {σ:L2.St} {H:Hp} {s:Shared} {scope:Scope} {N':List Str} {cap:List (Option Nat)} {fp:List Addr} {C:Addr}
theorem lV (I:Inv X pins σ H s) (O:gU X.env.scope X.N N' scope cap) {x:Str} {c:Addr} (h:(uJ scope X.env).lookup x=some c):X.env.cells.lookup x=some c:=by
 refine vR (fun x c=>X.env.cells.lookup x=some c) scope.names [] (fun x c e=>by simp at e) (fun y hy hk=>?_) x c h
 obtain ⟨c,e⟩:=I.ok.has y.1 (O.free y hy hk)
 rw [e]
 rfl
theorem Kg (I:Inv X pins σ H s) (O:gU X.env.scope X.N N' scope cap) (hf:∀ b∈fp,m6 X pins H b) (hlt:∀ b∈fp,b < s.heap.objs.size) (hC:s.heap.objs.size<=C):(gV X N' scope C s H fp).Ok where
 mod:=I.ok.mod
 kind:=O.kind
 glob:=I.ok.glob
 blt:=I.ok.blt
 above:=hC
 inj:=fun x y c h1 h2=>I.ok.inj x y c (lV I O h1) (lV I O h2)
 has:=fun x h=>by
  refine rN scope.names [] x (.inr ?_)
  rcases h with h | h
  .exact qe h (.inl rfl) O.nocell
  .exact qe h (.inr rfl) O.nocell
 cab:=fun x c h _=>by cases h
 hd:=I.ok.hd
 frames:=I.ok.frames
 stk:=.inl rfl
 exf:=fun b hb=>⟨Nat.ne_of_lt (Nat.lt_of_lt_of_le (hlt b hb) hC),fun x c e=>(hf b hb).2.2.2.2.1 x c (lV I O e)⟩
 bs:=I.bs
 bsz:=Nat.le_trans I.ok.bsz I.sz
 noex:=fun b o e hb=>by
  rcases (hf b hb).2.2.2.1 with z | z
  .exact I.ok.noex b o e z
  .exact absurd (Nat.lt_of_lt_of_le (Heap.lt_size (I.ok.bs b o e).1) z) (Nat.lt_irrefl _)
 exfs:=fun b hb z=>by
  rcases List.mem_cons.mp (I.stkSub b z) with q | q
  .exact (hf b hb).2.1 q
  .exact (hf b hb).2.2.1 q
 funs:=I.stack
 frf:=I.stkFree
theorem HD {h₁:Heap} {tk:Nat} {D:Addr} {o:Obj} (I:Inv X pins σ H s) (O:gU X.env.scope X.N N' scope cap) (hf:∀ b∈fp,m6 X pins H b) (hlt:∀ b∈fp,b < s.heap.objs.size)
  (hC:s.heap.objs.size<=C) (hD:s.heap.objs.size<=D) (hDC:D≠C) (old:∀ b u,s.heap.get? b=some u->h₁.get? b=some u) {m:Str->Option Value} (hns:h₁.Ns C m) (hDo:h₁.get? D=some o) (hoc:∀ v,o.data≠.cell v) :
  Inv (gV X N' scope C s H fp) [(D,o)] (j_ cap σ) H { s with heap:=h₁,toks:=tk } where
 ok:=Kg I O hf hlt hC
 os:=rfl
 bare:=I.bare
 base:=Un.kept old
 loc:=by
  refine ⟨m,hns,fun i x v e1 e2 e3=>?_⟩
  have e1:N'[i]? = some x:=e1
  unfold j_ at e2
  rw [List.getElem?_map] at e2
  cases hc:cap[i]? with
  | none=>rw [hc] at e2; cases e2
  | some q=>
   rw [hc] at e2
   cases q with
   | none=>cases e2
   | some j=>
    have e2:(σ[j]?).bind id=some v:=Option.some.inj e2
    have e2':σ[j]? = some (some v):=by
     cases z:σ[j]? with
     | none=>rw [z] at e2; cases e2
     | some y=>
      rw [z] at e2
      have:y=some v:=e2
      rw [this]
    have hi:i < cap.length:=(List.getElem?_eq_some_iff.mp hc).1
    have hj:j < X.N.length:=by
     have:=(List.getElem?_eq_some_iff.mp e2').1
     rw [I.len] at this
     exact this
    obtain ⟨c1,c2⟩:=O.cap i (List.mem_range.mpr hi) j (List.mem_range.mpr hj) hc
    have hfr:scope.names.lookup x=some .free:=c2 x (by rw [e1]; rfl)
    have hN:X.N[j]? = some x:=c1.trans e1
    have hfm:=oO hfr
    have hvis:Vis X.env.scope x:=(O.free _ hfm rfl).elim (fun z=>.inr (.inl z)) fun z=>.inr (.inr z)
    obtain ⟨m0,_,hl⟩:=I.loc
    obtain ⟨u,r,lk⟩:=hl j x v hN e2' hvis
    refine ⟨u,r,?_⟩
    rcases lk with ⟨k,_⟩ | ⟨_,c,ec,hcell⟩
    .have k:X.env.scope.names.lookup x=some .local:=k
     rcases O.free _ hfm rfl with z | z
     .rw [k] at z; cases z
     .rw [k] at z; cases z
    .right
     obtain ⟨c',ec'⟩:=rN (env:=X.env) scope.names [] x (.inr hfm)
     have e3':=lV I O ec'
     rw [ec] at e3'
     cases e3'
     refine ⟨?_,c,ec',?_⟩
     .have e3:Vis (relabel scope X.env) x:=e3
      rcases e3 with e3 | e3 | e3
      .exfalso
       have hm:=oO e3
       obtain ⟨⟨n,q⟩,hm',e⟩:=List.mem_map.mp hm
       dsimp only at e
       split at e
       .cases e
       .cases e
        have:=O.nm _ hm' rfl
        rw [hfr] at this
        cases this
      .exact .inl e3
      .exact .inr e3
     .obtain ⟨oc,h1,h2⟩:=hcell
      exact ⟨oc,old _ _ h1,h2⟩
 cell:=fun x c e=>by
  obtain ⟨v,oc,h1,h2⟩:=I.cell x c (lV I O e)
  exact ⟨v,oc,old _ _ h1,h2⟩
 free:=I.hok.fresh hC
 freeC:=fun x c e=>I.freeC x c (lV I O e)
 pin:=fun p hp=>by
  have e:p=(D,o):=by simpa [gV] using hp
  subst e
  refine ⟨hDo,I.hok.fresh hD,hDC,fun z=>?_,hoc⟩
  obtain ⟨b,hb,e⟩:=List.mem_filterMap.mp z
  have hz:D∈X.env.locals :: X.fs:=I.stkSub D z
  rcases List.mem_cons.mp hz with q | q
  .exact absurd (Nat.lt_of_lt_of_le (by rw [q]; exact I.lt) hD) (Nat.lt_irrefl _)
  .exact I.nofs hD q
 hok:=I.hok.kept old
 len:=by
  unfold j_
  rw [List.length_map]
  exact O.len
end
abbrev NoX:Value->Shared->Prop:=fun _ _=>False
section
variable {prog:Program} {w:World} {A:Around} {R:Result->Shared->Prop} {s:Shared}
theorem w6 {elt target iter:Expr} {ifs:List Expr} {scope:Scope} {pos:Pos} {it acc:Value} {env:Env} (I:Nat->Shared->Prop)
  (turn:∀ n s,I n s->wpAny (model prog w) A (pyNext it) (fun r s₁=>match r with
   | none=>R (.ok .next) s₁
   | some v=>wpAny (model prog w) A (letOwnedTupleGo target it v) (fun _ s₁'=>wpAny (model prog w) A (assign target env v) (fun _ s₂=>
     wpAny (model prog w) A (forIn ifs true fun c r=>if r=true then do let ok ← isTrue c env (eval c env); pure (ForInStep.yield ok) else pure (ForInStep.yield r)) (fun ok s₃=>
      if ok=true then wpAny (model prog w) A (eval elt env) (fun x s₄=>wpAny (model prog w) A (call (.builtin "list.append") [acc,x]) (fun _ s₅=>∃ m,m < n/\I m s₅) NoX s₄) NoX s₃
      else ∃ m,m < n/\I m s₃) NoX s₂) NoX s₁') NoX s₁) NoX s)
  (n:Nat) (h:I n s):codeAny (model prog w) A (.compLoop (.ListComp elt [⟨target,iter,ifs,0⟩] scope pos) 0 it acc env) R s:=by
 refine codeAny_loop rfl I (fun n s hI=>?_) n h
 show wpAny _ A ((compTurn (.ListComp elt [⟨target,iter,ifs,0⟩] scope pos) 0 it acc env).onRaise (fun x=>do noteFrame x env; theTreesLotGoes x)) _ _ s
 refine wpAny_noted ?_
 rw [compTurn_list]
 refine wpAny_bind (wpAny_standAt (wpAny_bind (wpAny_mono (turn n s hI) (fun r s₁ h₁=>?_) fun _ _ h'=>h'.elim)))
 cases r with
 | none=>exact wpAny_pure h₁
 | some v=>
  refine wpAny_bind (wpAny_mono h₁ (fun _ s₁' h₁'=>?_) fun _ _ h'=>h'.elim)
  refine wpAny_bind (wpAny_mono h₁' (fun _ s₂ h₂=>wpAny_bind (wpAny_mono h₂ (fun ok s₃ h₃=>?_) fun _ _ h'=>h'.elim)) fun _ _ h'=>h'.elim)
  cases ok with
  | false=>exact wpAny_pure ⟨rfl,h₃⟩
  | true=>
   exact wpAny_bind (wpAny_bind (wpAny_mono h₃ (fun x s₄ h₄=>wpAny_bind (wpAny_mono h₄ (fun _ s₅ h₅=>wpAny_pure (wpAny_pure ⟨rfl,h₅⟩)) fun _ _ h'=>h'.elim)) fun _ _ h'=>h'.elim))
end
def PTs (X:Cx) (ifs:List Expr) (t:TT):Prop:=
 ∀ (pins:List (Addr×Obj)) (s:Shared) (σ:L2.St) (H:Hp) (Q:Bool->Hp->Prop),Inv X pins σ H s->t σ H Q->
  wpAny (model X.prog X.w) X.A (forIn ifs true fun c r=>if r=true then do let ok ← isTrue c X.env (eval c X.env); pure (ForInStep.yield ok) else pure (ForInStep.yield r)) (TP X pins σ Q) X.xe s
def PJ:TT:=fun _ H Q=>Q true H
theorem Ia {X:Cx}:PTs X [] PJ:=fun _ _ _ H _ I h=>wpAny_tests_nil ⟨H,I,h⟩
theorem Ir {X:Cx} {c:Expr} {t:TT} (h:PT X c t):PTs X [c] t:=fun pins s σ H Q I q=>wpAny_tests_one (h pins s σ H Q I q)
def Kp (σ τ:L2.St):Prop:=∀ (i:Nat) v,σ[i]? = some (some v)->τ[i]? = some (some v)
theorem Kp.nil:Kp [] []:=fun i v h=>h
theorem Kp.none {σ τ:L2.St} {a:Option V} (h:Kp σ τ):Kp (Option.none :: σ) (a :: τ):=fun i v e=>by
 cases i with
 | zero=>cases e
 | succ i=>exact h i v e
theorem Kp.cons {σ τ:L2.St} {a:Option V} (h:Kp σ τ):Kp (a :: σ) (a :: τ):=fun i v e=>by
 cases i with
 | zero=>exact e
 | succ i=>exact h i v e
def Kr (J:It) (H:Hp) (g:TG) (tt:TT) (te:TE) (σ:L2.St) (Q:List V->Hp->Prop):Prop:=
 ∃ W:Nat->Nat->List V->Hp->Prop,(∃ m,W 0 m [] H)/\∀ i m ys H,W i m ys H->
  (J.stop i H/\Q ys H)∨(J.go i H/\ys.length < sizeLine/\∃ N:List V->Hp->Prop,(∀ ys' H',N ys' H'->∃ m',m' < m/\W (i + 1) m' ys' H')/\
   ∀ x H',J.yld i H x H'->g x σ H' fun σ2 H2=>Kp σ σ2/\tt σ2 H2 fun b H3=>if b=true then te σ2 H3 fun v H4=>N (ys++[v]) H4 else N ys H3)
def Cy (cap:List (Option Nat)) (wi:TI) (g:TG) (tt:TT) (te:TE):TE:=fun σ H Q=>wi σ H fun J H1=>
 Kr J H1 g tt te (j_ cap σ) fun ys H2=>ys.length<=sizeLine/\∀ D,H2 D=none->Q (.ref D) (upd H2 D (.lst ys))
section
variable {X:Cx} {elt target iter:Expr} {ifs:List Expr} {scope:Scope} {pos:Pos} {N':List Str} {cap:List (Option Nat)} {wi:TI} {g:TG} {tt:TT} {te:TE}
def lobj (its:List Value) (n:Nat):Obj:={ cls:=.type "list",data:=.seq its.toArray n }
theorem uh {pins:List (Addr×Obj)} {σ:L2.St} {H:Hp} {s₂:Shared} {it:Addr} {fp:List Addr} {tn:Nat->Heap->Prop} {J:It} {Q:List V->Hp->Prop} {RR:Value->Addr->Result->Shared->Prop} {E:Value->Shared->Prop}
  (hc:X.calm=true) (O:gU X.env.scope X.N N' scope cap) (I:Inv X pins σ H s₂) (T:Turn X.prog X.w X.K target J fp it tn) (st:tn 0 s₂.heap) (f2:∀ b∈fp,m6 X pins H b)
  (hg:∀ C,PG (gV X N' scope C s₂ H fp) target g) (ht:∀ C,PTs (gV X N' scope C s₂ H fp) ifs tt) (he:∀ C,PE (gV X N' scope C s₂ H fp) elt te) (cw:Kr J H g tt te (j_ cap σ) Q)
  (hRR:∀ (D C:Addr) (s':Shared) (H':Hp) (ys:List V) (its:List Value) (n:Nat) (σ':L2.St),s₂.heap.objs.size<=D->s₂.heap.objs.size<=C->D≠C->Inv (gV X N' scope C s₂ H fp) [(D,lobj its n)] σ' H' s'->Vals ys its->Q ys H'->
   RR (.ref D) C (.ok .next) s') :
  wpAny (model X.prog X.w) X.A (newList []) (fun acc s₃=>wpAny (model X.prog X.w) X.A (newFunctionEnv scope X.env.globals (uJ scope X.env) [] X.env.qual none .none (some X.env)) (fun cenv s₄=>
   codeAny (model X.prog X.w) X.A (.compStart (.ListComp elt [⟨target,iter,ifs,0⟩] scope pos) 0 (.ref it) acc { cenv with scope:=relabel scope X.env }) (RR acc cenv.locals) s₄) E s₃) E s₂:=by
 refine wpAny_newObj_type (wpAny_newFunctionEnv O.nocell (by intro y hy; simp at hy) (fun h₁ hns₁ hsb₁=>?_) O.kind)
 dsimp only at hns₁ hsb₁ ⊢
 generalize hH2:s₂.heap.push { cls:=.type "list",dict:=none,data:=.seq ([]:List Value).toArray }=H2 at hns₁ hsb₁ ⊢
 have hC:H2.objs.size=s₂.heap.objs.size + 1:=by rw [← hH2,Heap.size_push]
 have hDC:s₂.heap.objs.size≠H2.objs.size:=by rw [hC]; exact Nat.ne_of_lt (Nat.lt_succ_self _)
 have hCle:s₂.heap.objs.size<=H2.objs.size:=by rw [hC]; exact Nat.le_succ _
 have old:∀ b o,s₂.heap.get? b=some o->h₁.get? b=some o:=fun b o e=>hsb₁.extBut b o (by rw [hC]; exact Nat.ne_of_lt (Nat.lt_succ_of_lt (Heap.lt_size e))) (Heap.get?_push_of_some _ (hH2 ▸ Heap.get?_push_of_some _ e))
 have hacc:h₁.get? s₂.heap.objs.size=some (lobj [] 0):=hsb₁.extBut _ _ hDC (Heap.get?_push_of_some _ (hH2 ▸ Heap.get?_push_size _ rfl))
 have hlt:∀ b∈fp,b < s₂.heap.objs.size:=fun b hb=>by
  obtain ⟨o,e,_⟩:=T.obj 0 _ st b hb
  exact Heap.lt_size e
 have I1:=HD (tk:=s₂.toks + ([]:List (Str×Value)).length) I O f2 hlt hCle (Nat.le_refl _) hDC old hns₁ hacc (fun v z=>by cases z)
 have st1:tn 0 h₁:=T.keep _ _ _ st fun b _ o e=>old b o e
 obtain ⟨W,⟨m0,w0⟩,turn⟩:=cw
 generalize hD:s₂.heap.objs.size=D at *
 generalize hCC:H2.objs.size=C at *
 have stat:∀ {H':Hp} {o:Obj},(∀ b∈fp,H' b=none)->∀ b∈fp,m6 (gV X N' scope C s₂ H fp) [(D,o)] H' b:=fun {H' o} hn b hb=>by
  refine ⟨hn b hb,Nat.ne_of_lt (Nat.lt_of_lt_of_le (hlt b hb) hCle),I1.ok.exfs b hb,.inl hb,(I1.ok.exf b hb).2,fun p hp=>?_⟩
  have e:p=(D,o):=by simpa [gV] using hp
  subst e
  exact Nat.ne_of_gt (hlt b hb)
 have loop:codeAny (model X.prog X.w) X.A (.compLoop (.ListComp elt [⟨target,iter,ifs,0⟩] scope pos) 0 (.ref it) (.ref D) (compEnvC scope (uJ scope X.env) C X.env)) (RR (.ref D) C) { s₂ with heap:=h₁,toks:=s₂.toks + ([]:List (Str×Value)).length }:=by
  refine w6 (fun n s'=>∃ i ys its k H',Inv (gV X N' scope C s₂ H fp) [(D,lobj its k)] (j_ cap σ) H' s'/\Vals ys its/\tn i s'.heap/\(∀ b∈fp,H' b=none)/\W i n ys H') ?_ m0 ⟨0,[],[],0,H,I1,.nil,st1,fun b hb=>(f2 b hb).1,w0⟩
  rintro n s3 ⟨i,ys,its,k,H3,I3,rv,st3,fr3,w3⟩
  rcases turn i n ys H3 w3 with ⟨stop,qn⟩ | ⟨go,hsz,N,hN,step⟩
  .refine thn (T.done (gV X N' scope C s₂ H fp) rfl rfl rfl hc i _ s3 _ H3 NoX I3 (stat fr3) st3 stop) fun r s4 ⟨hr,I4⟩=>?_
   subst hr
   exact hRR D C s4 H3 ys its k _ (Nat.le_refl _) hCle hDC I4 rv qn
  .refine thn (T.item (gV X N' scope C s₂ H fp) rfl rfl rfl hc i _ s3 _ H3 NoX I3 (stat fr3) st3 go) fun r s4 ⟨u,hr,h4⟩=>?_
   subst hr
   refine thn h4 fun _ s5 ⟨x,H5,I5,r5,y5,st5,fr5⟩=>?_
   have I5':=I5.pinned (stat fr5) (T.obj _ _ st5)
   refine thn (hg C _ s5 _ H5 x u _ I5' r5 (step x H5 y5)) fun _ s6 ⟨σ6,H6,I6,kp6,q6⟩=>?_
   refine thn (ht C _ s6 σ6 H6 _ I6 q6) fun ok s7 ⟨H7,I7,q7⟩=>?_
   have keepT:∀ {s':Shared} {H':Hp} {σ':L2.St},Inv (gV X N' scope C s₂ H fp) ([(D,lobj its k)]++qb fp s5.heap) σ' H' s'->tn (i + 1) s'.heap/\∀ b∈fp,H' b=none:=fun {s' H' σ'} Ix=>by
    refine ⟨T.keep _ _ _ st5 fun b hb o e=>(Ix.pin (b,o) (List.mem_append_right _ (List.mem_append_right _ (jK hb e)))).1,fun b hb=>?_⟩
    obtain ⟨o,e,d⟩:=T.obj _ _ st5 b hb
    exact (Ix.pin (b,o) (List.mem_append_right _ (List.mem_append_right _ (jK hb e)))).2.1
   have ln6:(j_ cap σ).length=σ6.length:=by rw [I6.len,I1.len]
   cases ok with
   | false=>
    have n7:N ys H7:=by simpa using q7
    obtain ⟨m',hm,w7⟩:=hN _ _ n7
    exact ⟨m',hm,i + 1,ys,its,k,H7,I7.unpinned.weak ln6 kp6,rv,(keepT I7).1,(keepT I7).2,w7⟩
   | true=>
    have q7:te σ6 H7 fun v H4=>N (ys++[v]) H4:=by simpa using q7
    refine thn (he C _ s7 σ6 H7 _ I7 q7) fun u8 s8 ⟨v,H8,I8,r8,n8⟩=>?_
    obtain ⟨eD,nD,_,nfD,_⟩:=I8.pin (D,lobj its k) (List.mem_append_right _ (List.mem_append_left _ List.mem_cons_self))
    have lv:=rv.length
    refine call_meets F.slot_list_append ⟨_,eD,rfl⟩ F.entry_list_append (F.args_list_append_2 _ _) (PySem.list_append D its.toArray k u8 (by rw [List.size_toArray]; omega)) ⟨eD,?_⟩
    obtain ⟨m',hm,w8⟩:=hN _ _ n8
    obtain ⟨k',eN⟩:∃ k',(s8.heap.update D (Obj.mapSeq (·.push u8))).get? D=some (lobj (its++[u8]) k'):=by
     have q:=PySem.IsL.update eD (·.push u8)
     dsimp only at q
     rw [List.push_toArray] at q
     exact ⟨_,q⟩
    have I9:Inv (gV X N' scope C s₂ H fp) (qb fp s5.heap) σ6 H8 { s8 with heap:=s8.heap.update D (Obj.mapSeq (·.push u8)) }:=by
     refine Inv.turned (it:=D) (t':=s8.toks) (I8.pins_of fun p hp=>I8.pin p (List.mem_append_right _ (List.mem_append_right _ hp))) (fun b o hb e=>(Heap.get?_update_other s8.heap (Obj.mapSeq _) (Ne.symm hb)).trans e) nD hDC (.inr (by rw [← hD]; exact Nat.le_refl _)) (fun x c e z=>?_) (fun p hp z=>?_)
     .obtain ⟨vc,oc,h1,_⟩:=I.cell x c (lV I O e)
      have hh:=Heap.lt_size h1
      rw [z,hD] at hh
      exact Nat.lt_irrefl _ hh
     .have hp:p∈qb fp s5.heap:=hp
      have hh:=hlt p.1 (vY hp).1
      rw [z] at hh
      exact Nat.lt_irrefl _ hh
    refine ⟨m',hm,i + 1,ys++[v],its++[u8],k',H8,(I9.weak ln6 kp6).pins_of (fun p hp=>?_),rv.append (.cons r8 .nil),?_,fun b hb=>?_,w8⟩
    .have e:p=(D,lobj (its++[u8]) k'):=List.mem_singleton.mp hp
     rw [e]
     exact ⟨eN,nD,hDC,nfD,fun v z=>by cases z⟩
    .exact T.keep _ _ _ st5 fun b hb o e=>(I9.pin (b,o) (List.mem_append_right _ (jK hb e))).1
    .obtain ⟨o,e,d⟩:=T.obj _ _ st5 b hb
     exact (I9.pin (b,o) (List.mem_append_right _ (jK hb e))).2.1
 exact codeAny_compStart_list loop (T.self _ 0 _ _ _ st1 loop)
theorem CK (hx:X.xe=NoX) (hc:X.calm=true) (O:gU X.env.scope X.N N' scope cap) (hi:PI X target iter wi)
  (hg:∀ C s₂ H fp,PG (gV X N' scope C s₂ H fp) target g) (ht:∀ C s₂ H fp,PTs (gV X N' scope C s₂ H fp) ifs tt) (he:∀ C s₂ H fp,PE (gV X N' scope C s₂ H fp) elt te)
  (hs:∀ x,foldedSetIterable iter X.env x=pure x:=by intro _; rfl):PE X (.ListComp elt [⟨target,iter,ifs,0⟩] scope pos) (Cy cap wi g tt te):=by
 intro pins s σ H Q I h
 rw [eval_ListComp]
 refine wpAny_comprehension_free (use:=none) rfl hs (pN fun y hy hk=>I.ok.has y.1 (O.free y hy hk)) O.kind O.nm (thn (hi pins s σ H _ I h) fun v s1 h1=>thn h1 fun itv s2 h2=>?_)
 obtain ⟨it,fp,tn,J,H2,e,I2,T,st2,f2,cw⟩:=h2
 subst e
 refine uh (RR:=fun acc C=>compPost (model X.prog X.w) X.A X.xe none (EP X pins σ Q) acc C) hc O I2 T st2 f2 (fun C=>hg C _ _ _) (fun C=>ht C _ _ _) (fun C=>he C _ _ _) cw ?_
 intro D C s' H' ys its n σ' hD hC hDC I' rv q
 obtain ⟨hz,q⟩:=q
 obtain ⟨m,hns,_⟩:=I'.loc
 refine ⟨m,hns,fun h' sb=>?_⟩
 obtain ⟨eD,nD,_,nfD,_⟩:=I'.pin (D,lobj its n) (List.mem_append_right _ List.mem_cons_self)
 have I'':Inv X pins σ (upd H' D (.lst ys)) { s' with heap:=h' }:=by
  refine I2.call' (ch:=fp) I'.os ?_ ?_ I'.bare (fun b hb=>⟨(f2 b hb).2.2.2.1,(f2 b hb).2.1,(f2 b hb).2.2.2.2.1,(f2 b hb).2.2.2.2.2⟩)
  .have ne:∀ b o,s2.heap.get? b=some o->b≠C/\b≠D:=fun b o e=>⟨Nat.ne_of_lt (Nat.lt_of_lt_of_le (Heap.lt_size e) hC),Nat.ne_of_lt (Nat.lt_of_lt_of_le (Heap.lt_size e) hD)⟩
   refine ⟨fun b o e n hb he=>sb.extBut b o (ne b o e).1 (I'.base.keep b o e n hb he),fun b o e n hb he=>?_,fun b o e n he=>?_,fun b o e he=>?_,fun b xs e=>?_,fun b o u e=>?_,fun b ps e=>?_⟩
   .obtain ⟨sl,e1⟩:=I'.base.slot b o e n hb he
    exact ⟨sl,sb.extBut b _ (ne b o e).1 e1⟩
   .rw [bh (ne b o e).2]
    exact I'.base.free b o e n he
   .obtain ⟨o',e1⟩:=I'.base.there b o e he
    exact ⟨o',sb.extBut b _ (ne b o e).1 e1⟩
   .have e1:=I'.base.tups b xs e
    rw [bh (bN e1 nD)]
    exact e1
   .have e1:=I'.base.frzs b o u e
    rw [bh (bN e1 nD)]
    exact e1
   .obtain ⟨more,e1⟩:=I'.base.tbls b ps e
    refine ⟨more,?_⟩
    rw [bh (bN e1 nD)]
    exact e1
  .intro b u e
   by_cases hb:b=D
   .subst hb
    rw [dg] at e
    cases e
    exact ⟨hz,its,n,rv,sb.extBut _ _ hDC eD⟩
   .rw [bh hb] at e
    have nC:∀ b u,H' b=some u->b≠C:=fun b u e z=>by
     have hf:H' C=none:=I'.free
     rw [z,hf] at e
     cases e
    refine (I'.hok b u e).stay (fun c v hc q=>sb.extBut c v ?_ q) (fun c q=>by rw [bh (bN q nD)]; exact q) fun c xs q=>by rw [bh (bN q nD)]; exact q
    rcases hc with z | z
    .rw [z]
     exact nC b u e
    .exact nC c _ z
 exact ⟨.ref D,_,I'',rfl,q D nD⟩
end
section
variable {X:Cx} {pins:List (Addr×Obj)} {σ:L2.St} {H:Hp} {s:Shared}
theorem Ml {x:V} {u t:Value} (I:Inv X pins σ H s) (rx:RelV x u) (ty:nY X.K H x t):∃ Hq,PySem.W.KitX X.K u t Hq/\Hq s.heap/\u≠.builtin "__main__.__loader__#opaque" := by
 cases ty with
 | non=>cases (show u=Value.none from rx); exact ⟨_,PySem.W.kitx_none,True.intro,fun z=>nomatch z⟩
 | bl y=>cases (show u=Value.bool y from rx); exact ⟨_,PySem.W.kitx_bool,True.intro,fun z=>nomatch z⟩
 | int i=>obtain ⟨t,q⟩:=(show ∃ t,u=Value.int i t from rx); cases q; exact ⟨_,PySem.W.kitx_int,True.intro,fun z=>nomatch z⟩
 | str y=>obtain ⟨t,q⟩:=(show ∃ t,u=Value.str y t from rx); cases q; exact ⟨_,PySem.W.kitx_str,True.intro,fun z=>nomatch z⟩
 | flt y=>obtain ⟨t,q⟩:=(show ∃ t,u=Value.float y t from rx); cases q; exact ⟨_,PySem.W.kitx_float,True.intro,fun z=>nomatch z⟩
 | @lst a xs ea=>
  cases (show u=Value.ref a from rx)
  obtain ⟨_,_,n,_,h1⟩:=(show fu X.prog X.w H s.heap a (.lst xs) from I.hok a _ ea)
  exact ⟨_,PySem.W.kitx_list,⟨_,h1,rfl⟩,fun z=>nomatch z⟩
 | @frz a ob xs ea=>
  cases (show u=Value.ref a from rx)
  obtain ⟨_,_,_,n,_,h1⟩:=(show fu X.prog X.w H s.heap a (.frz ob (.lst xs)) from I.hok a _ ea)
  exact ⟨_,PySem.W.kitx_list,⟨_,h1,rfl⟩,fun z=>nomatch z⟩
 | @tup a xs ea=>
  cases (show u=Value.ref a from rx)
  obtain ⟨_,_,_,p⟩:=(show fu X.prog X.w H s.heap a (.tup xs) from I.hok a _ ea)
  obtain ⟨o,h1,h2,_⟩:=p
  exact ⟨_,PySem.W.kitx_tuple,⟨o,h1,h2⟩,fun z=>nomatch z⟩
 | @dK a kvs ea=>
  cases (show u=Value.ref a from rx)
  obtain ⟨_,_,vs,_,p⟩:=(show fu X.prog X.w H s.heap a (.dK kvs) from I.hok a _ ea)
  obtain ⟨o,es,ep,h1,h2,_⟩:=p
  exact ⟨_,PySem.W.kitx_dict,⟨o,h1,h2.1⟩,fun z=>nomatch z⟩
 | @dT a kvs ea=>
  cases (show u=Value.ref a from rx)
  obtain ⟨_,_,xs,_,o,es,ep,h1,h2,_⟩:=(show fu X.prog X.w H s.heap a (.dT kvs) from I.hok a _ ea)
  exact ⟨_,PySem.W.kitx_dict,⟨o,h1,h2.1⟩,fun z=>nomatch z⟩
 | @ins a C dx fs ea cl ha hn htk hm=>
  cases (show u=Value.ref a from rx)
  obtain ⟨mA,O,_⟩:=Bp I.hok ea
  obtain ⟨od,J,_⟩:=O.look
  exact ⟨_,PySem.W.kitx_own (cl.get _) cl.hd ha hn htk hm,J,fun z=>nomatch z⟩
theorem Ca:∀ {tys:List String} {us:List Value},Vals (tys.map V.ty) us->us=tys.map Value.type
 | [],_,.nil=>rfl
 | t :: r,_,.cons h q=>by cases (show _=Value.type t from h); rw [Ca q]; rfl
theorem wJ:iD X (.builtin "isinstance") (fun xs H Q=>∃ x tp tys t b,xs=[x,.ref tp]/\H tp=some (.tup (List.map V.ty tys))/\nY X.K H x t/\PySem.W.kitAny X.K t (tys.map Value.type)=some b/\Q (.bl b) H):=by
 intro pins s σ H xs us Q I r h
 obtain ⟨x,tp,tys,t,b,rfl,htp,ty,e,q⟩:=h
 obtain ⟨u,w',rfl,r1,r2⟩:=vals2 r
 cases r2
 obtain ⟨Hq,Z,hz,hn⟩:=Ml I r1 ty
 obtain ⟨_,its,rv,o,h1,h2,n,h3⟩:=(show fu X.prog X.w H s.heap tp (.tup (tys.map V.ty)) from I.hok tp _ htp)
 rw [Ca rv] at h3
 obtain ⟨cls,dd,data,sl⟩:=o
 cases h2
 cases h3
 exact PySem.W.kia_tup Z I.kIn hz h1 e hn fun tk=>⟨.bl b,H,I.tok tk,rfl,q⟩
theorem vQ:∀ (tk:Nat) (l:List Str),Vals (l.map V.str) (strsFrom tk l)
 | _,[]=>.nil
 | tk,x :: r=>.cons ⟨_,rfl⟩ (vQ (tk + 1) r)
def LC:V->List V->Hp->VK->Prop:=fun x vs H Q=>∃ (a b:Str) (l:List Str),x = .str a/\vs=[.str b]/\(decide (a.length < b.length) || decide (Builtin.Str.strKind a < Builtin.Str.strKind b))=false/\(b.length == 0)=false/\
 (Builtin.Str.occurrences a b 0 a.length (a.length + 1)).isEmpty=false/\a.length<=sizeLine/\Builtin.Str.partsBetween a (Builtin.Str.occurrences a b 0 a.length (a.length + 1)) b.length=l/\l.length<=sizeLine/\
 ∀ p,H p=none->Q (.ref p) (upd H p (.lst (l.map V.str)))
theorem FT:MtR X "str.split" LC:=by
 intro pins s σ H x vs v us Q I rx rv h
 obtain ⟨a,b,l,rfl,rfl,c1,c2,c3,c4,rfl,c5,q⟩:=h
 obtain ⟨t,rfl⟩:=rx
 obtain ⟨u,rfl,t',rfl⟩:=rv.one
 refine call_meets F.slot_str_split (typeIs_str s a t) F.entry_str_split (F.args_str_split_2 _ _) (meets_str_split_sep a b t t' c1 c2 c3 c4 c5) ?_
 exact ⟨.ref s.heap.objs.size,_,I.lnew (vQ _ _) (by rw [List.length_map]; exact c5),rfl,q _ I.fresh⟩
end
inductive Dt where
 | non | bl (b:Bool) | int (i:Int) | str (x:Str) | lst (ds:List Dt) | tup (ds:List Dt)
mutual
def eqD:Dt->Dt->Bool
 | .non,.non=>true
 | .bl a,.bl b=>a == b
 | .int a,.int b=>a == b
 | .bl a,.int b=>(if a then 1 else 0) == b
 | .int a,.bl b=>a == (if b then 1 else 0)
 | .str a,.str b=>a == b
 | .lst a,.lst b=>eqL a b
 | .tup a,.tup b=>eqL a b
 | _,_=>false
def eqL:List Dt->List Dt->Bool
 | [],[]=>true
 | a :: r,b :: q=>eqD a b && eqL r q
 | _,_=>false
end
mutual
def dp:Dt->Nat
 | .lst ds=>dpL ds + 1
 | .tup ds=>dpL ds + 1
 | _=>0
def dpL:List Dt->Nat
 | []=>0
 | d :: r=>max (dp d) (dpL r)
end
mutual
def Brs (K:PySem.W.Frag) (H:Hp):Dt->V->Prop
 | .non,v=>v = .non
 | .bl b,v=>v = .bl b
 | .int i,v=>v = .int i
 | .str x,v=>v = .str x
 | .lst ds,v=>∃ a xs,v = .ref a/\SqL K H a xs/\j8 K H ds xs
 | .tup ds,v=>∃ a xs,v = .ref a/\SqT K H a xs/\j8 K H ds xs
def j8 (K:PySem.W.Frag) (H:Hp):List Dt->List V->Prop
 | [],xs=>xs=[]
 | d :: r,xs=>∃ x ys,xs=x :: ys/\Brs K H d x/\j8 K H r ys
end
mutual
theorem vq:∀ d:Dt,eqD d d=true
 | .non=>by simp [eqD]
 | .bl _=>by simp [eqD]
 | .int _=>by simp [eqD]
 | .str _=>by simp [eqD]
 | .lst ds=>by simp [eqD,uU ds]
 | .tup ds=>by simp [eqD,uU ds]
theorem uU:∀ ds:List Dt,eqL ds ds=true
 | []=>by simp [eqL]
 | d :: r=>by simp [eqL,vq d,uU r]
end
theorem j8.length {K:PySem.W.Frag} {H:Hp}:∀ {ds:List Dt} {xs:List V},j8 K H ds xs->ds.length=xs.length
 | [],xs,h=>by
  have h:xs=[]:=by simpa [j8] using h
  rw [h]
  rfl
 | d :: r,xs,h=>by
  obtain ⟨x,ys,rfl,_,h⟩:=(by simpa [j8] using h:∃ x ys,xs=x :: ys/\Brs K H d x/\j8 K H r ys)
  simp [j8.length h]
theorem m8:∀ {ds es:List Dt},ds.length≠es.length->eqL ds es=false
 | [],[],h=>absurd rfl h
 | [],_ :: _,_=>by simp [eqL]
 | _ :: _,[],_=>by simp [eqL]
 | d :: r,e :: q,h=>by
  have:r.length≠q.length:=by simpa using h
  simp [eqL,m8 this]
def eqJ (ds es:List Dt) (j:Nat):Bool:=eqD (ds.getD j .non) (es.getD j .non)
theorem m5:∀ {ds es:List Dt},ds.length=es.length->(List.range ds.length).all (eqJ ds es)=eqL ds es
 | [],[],_=>by simp [eqL]
 | [],_ :: _,h=>by simp at h
 | _ :: _,[],h=>by simp at h
 | d :: r,e :: q,h=>by
  have h':r.length=q.length:=by simpa using h
  have ih:=m5 h'
  rw [List.length_cons,List.range_succ_eq_map,List.all_cons,List.all_map,eqL]
  congr 1
section
variable {X:Cx} {pins:List (Addr×Obj)} {σ:L2.St} {H:Hp} {s:Shared}
theorem yo (I:Inv X pins σ H s) {a:Addr} {xs ys:List V} (h1:SqL X.K H a xs) (h2:SqT X.K H a ys):False:=by
 obtain ⟨its,_,p,_⟩:=I.list h1
 obtain ⟨jts,_,q,_⟩:=I.tuple h2
 obtain ⟨o,e1,c1,_⟩:=p.isList
 obtain ⟨o',e2,c2,_⟩:=q
 rw [e1] at e2
 cases e2
 rw [c1] at c2
 injection c2 with z
 exact absurd z (by decide)
mutual
theorem wZ (I:Inv X pins σ H s):∀ (d e:Dt) {v:V},Brs X.K H d v->Brs X.K H e v->d=e
 | .non,e,v,h,h'=>by
  simp only [Brs] at h
  subst h
  cases e <;> simp [Brs] at h' <;> rfl
 | .bl b,e,v,h,h'=>by
  simp only [Brs] at h
  subst h
  cases e <;> simp [Brs] at h' <;> simp [h']
 | .int b,e,v,h,h'=>by
  simp only [Brs] at h
  subst h
  cases e <;> simp [Brs] at h' <;> simp [h']
 | .str b,e,v,h,h'=>by
  simp only [Brs] at h
  subst h
  cases e <;> simp [Brs] at h' <;> simp [h']
 | .lst ds,e,v,h,h'=>by
  simp only [Brs] at h
  obtain ⟨a,xs,rfl,hq,hb⟩:=h
  cases e with
  | lst es=>
   simp only [Brs] at h'
   obtain ⟨a',ys,e1,hq',hb'⟩:=h'
   cases e1
   have:=I.list_inj hq hq'
   subst this
   rw [uL I ds es hb hb']
  | tup es=>
   simp only [Brs] at h'
   obtain ⟨a',ys,e1,hq',hb'⟩:=h'
   cases e1
   exact (yo I hq hq').elim
  | _=>simp [Brs] at h'
 | .tup ds,e,v,h,h'=>by
  simp only [Brs] at h
  obtain ⟨a,xs,rfl,hq,hb⟩:=h
  cases e with
  | tup es=>
   simp only [Brs] at h'
   obtain ⟨a',ys,e1,hq',hb'⟩:=h'
   cases e1
   have:=I.tuple_inj hq hq'
   subst this
   rw [uL I ds es hb hb']
  | lst es=>
   simp only [Brs] at h'
   obtain ⟨a',ys,e1,hq',hb'⟩:=h'
   cases e1
   exact (yo I hq' hq).elim
  | _=>simp [Brs] at h'
theorem uL (I:Inv X pins σ H s):∀ (ds es:List Dt) {xs:List V},j8 X.K H ds xs->j8 X.K H es xs->ds=es
 | [],es,xs,h,h'=>by
  simp only [j8] at h
  subst h
  cases es with
  | nil=>rfl
  | cons e r=>simp [j8] at h'
 | d :: r,es,xs,h,h'=>by
  simp only [j8] at h
  obtain ⟨x,ys,rfl,hd,hr⟩:=h
  cases es with
  | nil=>simp [j8] at h'
  | cons e q=>
   simp only [j8] at h'
   obtain ⟨x',ys',e1,he,hq⟩:=h'
   cases e1
   rw [wZ I d e hd he,uL I r q hr hq]
end
open PySem.SeqAt in
mutual
theorem Ov (I:Inv X pins σ H s):∀ (d e:Dt) {A:Around} {v u:V} {v' u':Value},Brs X.K H d v->Brs X.K H e u->RelV v v'->RelV u u'->A.units + dp d < cLine->A.units + dp e < cLine->EqAt A s v' u' (eqD d e)
 | .non,e,A,v,u,v',u',h,h',r,r',hu,hu'=>by
  have hz:A.units < cLine:=by omega
  simp only [Brs] at h
  subst h
  cases (show v'=Value.none from r)
  cases e with
  | non=>simp only [Brs] at h'; subst h'; cases (show u'=Value.none from r'); exact EqAt.same _
  | bl b=>simp only [Brs] at h'; subst h'; cases (show u'=Value.bool b from r'); exact EqAt.none_bool b
  | int b=>simp only [Brs] at h'; subst h'; obtain ⟨t,q⟩:=(show ∃ t,u'=Value.int b t from r'); cases q; exact EqAt.none_int b t
  | str b=>simp only [Brs] at h'; subst h'; obtain ⟨t,q⟩:=(show ∃ t,u'=Value.str b t from r'); cases q; exact EqAt.none_str b t
  | lst es=>simp only [Brs] at h'; obtain ⟨a,xs,rfl,hq,_⟩:=h'; cases (show u'=Value.ref a from r'); obtain ⟨its,_,p,_⟩:=I.list hq; exact EqAt.none_list p.isList hz
  | tup es=>simp only [Brs] at h'; obtain ⟨a,xs,rfl,hq,_⟩:=h'; cases (show u'=Value.ref a from r'); obtain ⟨its,_,p,_⟩:=I.tuple hq; exact EqAt.none_tuple p hz
 | .bl c,e,A,v,u,v',u',h,h',r,r',hu,hu'=>by
  have hz:A.units < cLine:=by omega
  simp only [Brs] at h
  subst h
  cases (show v'=Value.bool c from r)
  cases e with
  | non=>simp only [Brs] at h'; subst h'; cases (show u'=Value.none from r'); exact EqAt.bool_none c
  | bl b=>simp only [Brs] at h'; subst h'; cases (show u'=Value.bool b from r'); exact EqAt.bool_bool c b
  | int b=>simp only [Brs] at h'; subst h'; obtain ⟨t,q⟩:=(show ∃ t,u'=Value.int b t from r'); cases q; exact EqAt.bool_int c b t
  | str b=>simp only [Brs] at h'; subst h'; obtain ⟨t,q⟩:=(show ∃ t,u'=Value.str b t from r'); cases q; exact EqAt.bool_str c b t
  | lst es=>simp only [Brs] at h'; obtain ⟨a,xs,rfl,hq,_⟩:=h'; cases (show u'=Value.ref a from r'); obtain ⟨its,_,p,_⟩:=I.list hq; exact EqAt.bool_list c p.isList hz
  | tup es=>simp only [Brs] at h'; obtain ⟨a,xs,rfl,hq,_⟩:=h'; cases (show u'=Value.ref a from r'); obtain ⟨its,_,p,_⟩:=I.tuple hq; exact EqAt.bool_tuple c p hz
 | .int c,e,A,v,u,v',u',h,h',r,r',hu,hu'=>by
  have hz:A.units < cLine:=by omega
  simp only [Brs] at h
  subst h
  obtain ⟨tc,q⟩:=(show ∃ t,v'=Value.int c t from r)
  cases q
  cases e with
  | non=>simp only [Brs] at h'; subst h'; cases (show u'=Value.none from r'); exact EqAt.int_none c tc
  | bl b=>simp only [Brs] at h'; subst h'; cases (show u'=Value.bool b from r'); exact EqAt.int_bool c tc b
  | int b=>simp only [Brs] at h'; subst h'; obtain ⟨t,q⟩:=(show ∃ t,u'=Value.int b t from r'); cases q; exact EqAt.int_int c tc b t
  | str b=>simp only [Brs] at h'; subst h'; obtain ⟨t,q⟩:=(show ∃ t,u'=Value.str b t from r'); cases q; exact EqAt.int_str c tc b t
  | lst es=>simp only [Brs] at h'; obtain ⟨a,xs,rfl,hq,_⟩:=h'; cases (show u'=Value.ref a from r'); obtain ⟨its,_,p,_⟩:=I.list hq; exact EqAt.int_list c tc p.isList hz
  | tup es=>simp only [Brs] at h'; obtain ⟨a,xs,rfl,hq,_⟩:=h'; cases (show u'=Value.ref a from r'); obtain ⟨its,_,p,_⟩:=I.tuple hq; exact EqAt.int_tuple c tc p hz
 | .str c,e,A,v,u,v',u',h,h',r,r',hu,hu'=>by
  have hz:A.units < cLine:=by omega
  simp only [Brs] at h
  subst h
  obtain ⟨tc,q⟩:=(show ∃ t,v'=Value.str c t from r)
  cases q
  cases e with
  | non=>simp only [Brs] at h'; subst h'; cases (show u'=Value.none from r'); exact EqAt.str_none c tc
  | bl b=>simp only [Brs] at h'; subst h'; cases (show u'=Value.bool b from r'); exact EqAt.str_bool c tc b
  | int b=>simp only [Brs] at h'; subst h'; obtain ⟨t,q⟩:=(show ∃ t,u'=Value.int b t from r'); cases q; exact EqAt.str_int c tc b t
  | str b=>simp only [Brs] at h'; subst h'; obtain ⟨t,q⟩:=(show ∃ t,u'=Value.str b t from r'); cases q; exact EqAt.str_str c tc b t
  | lst es=>simp only [Brs] at h'; obtain ⟨a,xs,rfl,hq,_⟩:=h'; cases (show u'=Value.ref a from r'); obtain ⟨its,_,p,_⟩:=I.list hq; exact EqAt.str_list c tc p.isList hz
  | tup es=>simp only [Brs] at h'; obtain ⟨a,xs,rfl,hq,_⟩:=h'; cases (show u'=Value.ref a from r'); obtain ⟨its,_,p,_⟩:=I.tuple hq; exact EqAt.str_tuple c tc p hz
 | .lst ds,e,A,v,u,v',u',h,h',r,r',hu,hu'=>by
  have hz:A.units < cLine:=by omega
  have hd:A.in1.units + dpL ds < cLine:=by
   have:dp (.lst ds)=dpL ds + 1:=by simp [dp]
   show A.units + 1 + dpL ds < cLine
   omega
  have h0:=h
  simp only [Brs] at h
  obtain ⟨b,ys,rfl,hp,hb⟩:=h
  cases (show v'=Value.ref b from r)
  obtain ⟨jts,rw',pw,_⟩:=I.list hp
  cases e with
  | non=>simp only [Brs] at h'; subst h'; cases (show u'=Value.none from r'); exact EqAt.list_none pw.isList hz
  | bl c=>simp only [Brs] at h'; subst h'; cases (show u'=Value.bool c from r'); exact EqAt.list_bool c pw.isList hz
  | int c=>simp only [Brs] at h'; subst h'; obtain ⟨t,q⟩:=(show ∃ t,u'=Value.int c t from r'); cases q; exact EqAt.list_int c t pw.isList hz
  | str c=>simp only [Brs] at h'; subst h'; obtain ⟨t,q⟩:=(show ∃ t,u'=Value.str c t from r'); cases q; exact EqAt.list_str c t pw.isList hz
  | tup es=>simp only [Brs] at h'; obtain ⟨a,xs,rfl,hq,_⟩:=h'; cases (show u'=Value.ref a from r'); obtain ⟨its,_,p,_⟩:=I.tuple hq; exact EqAt.list_tuple pw.isList p hz
  | lst es=>
   have h0':=h'
   simp only [Brs] at h'
   obtain ⟨a,xs,rfl,hq,hb'⟩:=h'
   cases (show u'=Value.ref a from r')
   obtain ⟨its,rv,p,_⟩:=I.list hq
   have he:A.in1.units + dpL es < cLine:=by
    have:dp (.lst es)=dpL es + 1:=by simp [dp]
    show A.units + 1 + dpL es < cLine
    omega
   by_cases hab:b=a
   .subst hab
    rw [wZ I _ _ h0 h0',vq]
    exact EqAt.same _
   .refine EqAt.of_refs hab ?_
    have l1:=hb.length
    have l2:=hb'.length
    have l3:=rw'.length
    have l4:=rv.length
    rw [show eqD (.lst ds) (.lst es)=eqL ds es by simp [eqD]]
    by_cases hl:ds.length=es.length
    .rw [← m5 hl,show ds.length=jts.toArray.size by rw [List.size_toArray]; omega]
     exact RcAt.lists pw.isList p.isList (by rw [List.size_toArray,List.size_toArray]; omega) hz (p_ I ds es hb hb' rw' rv hd he)
    .rw [m8 hl]
     exact RcAt.lists_lengths pw.isList p.isList (by rw [List.size_toArray,List.size_toArray]; exact bne_iff_ne.mpr (by omega)) hz
 | .tup ds,e,A,v,u,v',u',h,h',r,r',hu,hu'=>by
  have hz:A.units < cLine:=by omega
  have hd:A.in1.units + dpL ds < cLine:=by
   have:dp (.tup ds)=dpL ds + 1:=by simp [dp]
   show A.units + 1 + dpL ds < cLine
   omega
  have h0:=h
  simp only [Brs] at h
  obtain ⟨b,ys,rfl,hp,hb⟩:=h
  cases (show v'=Value.ref b from r)
  obtain ⟨jts,rw',pw,_⟩:=I.tuple hp
  cases e with
  | non=>simp only [Brs] at h'; subst h'; cases (show u'=Value.none from r'); exact EqAt.tuple_none pw hz
  | bl c=>simp only [Brs] at h'; subst h'; cases (show u'=Value.bool c from r'); exact EqAt.tuple_bool c pw hz
  | int c=>simp only [Brs] at h'; subst h'; obtain ⟨t,q⟩:=(show ∃ t,u'=Value.int c t from r'); cases q; exact EqAt.tuple_int c t pw hz
  | str c=>simp only [Brs] at h'; subst h'; obtain ⟨t,q⟩:=(show ∃ t,u'=Value.str c t from r'); cases q; exact EqAt.tuple_str c t pw hz
  | lst es=>simp only [Brs] at h'; obtain ⟨a,xs,rfl,hq,_⟩:=h'; cases (show u'=Value.ref a from r'); obtain ⟨its,_,p,_⟩:=I.list hq; exact EqAt.tuple_list pw p.isList hz
  | tup es=>
   have h0':=h'
   simp only [Brs] at h'
   obtain ⟨a,xs,rfl,hq,hb'⟩:=h'
   cases (show u'=Value.ref a from r')
   obtain ⟨its,rv,p,_⟩:=I.tuple hq
   have he:A.in1.units + dpL es < cLine:=by
    have:dp (.tup es)=dpL es + 1:=by simp [dp]
    show A.units + 1 + dpL es < cLine
    omega
   by_cases hab:b=a
   .subst hab
    rw [wZ I _ _ h0 h0',vq]
    exact EqAt.same _
   .refine EqAt.of_refs hab ?_
    have l1:=hb.length
    have l2:=hb'.length
    have l3:=rw'.length
    have l4:=rv.length
    rw [show eqD (.tup ds) (.tup es)=((List.range (min jts.toArray.size its.toArray.size)).all (eqJ ds es) && jts.toArray.size == its.toArray.size) from ?_]
    .exact RcAt.tuples pw p hz (p_ I ds es hb hb' rw' rv hd he)
    .rw [show eqD (.tup ds) (.tup es)=eqL ds es by simp [eqD],List.size_toArray,List.size_toArray]
     by_cases hl:ds.length=es.length
     .rw [show min jts.length its.length=ds.length by omega,m5 hl,show (jts.length == its.length)=true by simp; omega,Bool.and_true]
     .rw [m8 hl,show (jts.length == its.length)=false by simp; omega,Bool.and_false]
theorem p_ (I:Inv X pins σ H s):∀ (ds es:List Dt) {A:Around} {ys xs:List V} {jts its:List Value},j8 X.K H ds ys->j8 X.K H es xs->Vals ys jts->Vals xs its->A.units + dpL ds < cLine->A.units + dpL es < cLine->
  ∀ j (h1:j < jts.toArray.size) (h2:j < its.toArray.size),EqAt A s jts.toArray[j] its.toArray[j] (eqJ ds es j)
 | [],es,A,ys,xs,jts,its,h,h',r,r',hu,hu',j,h1,h2=>by
  simp only [j8] at h
  subst h
  cases r
  simp at h1
 | d :: ds,es,A,ys,xs,jts,its,h,h',r,r',hu,hu',j,h1,h2=>by
  simp only [j8] at h
  obtain ⟨y,ys',rfl,hd,hr⟩:=h
  cases r with
  | cons ra rb=>
   cases es with
   | nil=>
    simp only [j8] at h'
    subst h'
    cases r'
    simp at h2
   | cons e es=>
    simp only [j8] at h'
    obtain ⟨x,xs',rfl,hd',hr'⟩:=h'
    cases r' with
    | cons ra' rb'=>
     have m1:dpL (d :: ds)=max (dp d) (dpL ds):=by simp [dpL]
     have m2:dpL (e :: es)=max (dp e) (dpL es):=by simp [dpL]
     cases j with
     | zero=>exact Ov I d e hd hd' ra ra' (by omega) (by omega)
     | succ j=>exact p_ I ds es hr hr' rb rb' (by omega) (by omega) j (by simpa using h1) (by simpa using h2)
end
open PySem.SeqAt in
theorem Qs (I:Inv X pins σ H s) (d e:Dt) {A:Around} {v u:V} {v' u':Value} (h1:Brs X.K H d v) (h2:Brs X.K H e u) (r1:RelV v v') (r2:RelV u u') (hu:A.units + dp d < cLine) (hu':A.units + dp e < cLine):RcAt A s v' u' (eqD d e):=by
 have hz:A.units < cLine:=by omega
 cases d with
 | non=>
  simp only [Brs] at h1; subst h1; cases (show _=Value.none from r1)
  cases e with
  | non=>(simp only [Brs] at h2; subst h2; cases (show _=Value.none from r2)); exact RcAt.none_none
  | bl c2=>(simp only [Brs] at h2; subst h2; cases (show _=Value.bool c2 from r2)); exact RcAt.none_bool c2
  | int c2=>(simp only [Brs] at h2; subst h2; obtain ⟨t2,q2⟩:=(show ∃ t,_=Value.int c2 t from r2); cases q2); exact RcAt.none_int c2 t2
  | str c2=>(simp only [Brs] at h2; subst h2; obtain ⟨t2,q2⟩:=(show ∃ t,_=Value.str c2 t from r2); cases q2); exact RcAt.none_str c2 t2
  | lst es=>(simp only [Brs] at h2; obtain ⟨a2,xs2,rfl,hq2,hb2⟩:=h2; cases (show _=Value.ref a2 from r2); obtain ⟨its2,rv2,p2,_⟩:=I.list hq2); exact RcAt.none_list p2.isList hz
  | tup es=>(simp only [Brs] at h2; obtain ⟨a2,xs2,rfl,hq2,hb2⟩:=h2; cases (show _=Value.ref a2 from r2); obtain ⟨its2,rv2,p2,_⟩:=I.tuple hq2); exact RcAt.none_tuple p2 hz
 | bl c1=>
  simp only [Brs] at h1; subst h1; cases (show _=Value.bool c1 from r1)
  cases e with
  | non=>(simp only [Brs] at h2; subst h2; cases (show _=Value.none from r2)); exact RcAt.bool_none c1
  | bl c2=>(simp only [Brs] at h2; subst h2; cases (show _=Value.bool c2 from r2)); exact RcAt.bool_bool c1 c2
  | int c2=>(simp only [Brs] at h2; subst h2; obtain ⟨t2,q2⟩:=(show ∃ t,_=Value.int c2 t from r2); cases q2); exact RcAt.bool_int c1 c2 t2
  | str c2=>(simp only [Brs] at h2; subst h2; obtain ⟨t2,q2⟩:=(show ∃ t,_=Value.str c2 t from r2); cases q2); exact RcAt.bool_str c1 c2 t2
  | lst es=>(simp only [Brs] at h2; obtain ⟨a2,xs2,rfl,hq2,hb2⟩:=h2; cases (show _=Value.ref a2 from r2); obtain ⟨its2,rv2,p2,_⟩:=I.list hq2); exact RcAt.bool_list c1 p2.isList hz
  | tup es=>(simp only [Brs] at h2; obtain ⟨a2,xs2,rfl,hq2,hb2⟩:=h2; cases (show _=Value.ref a2 from r2); obtain ⟨its2,rv2,p2,_⟩:=I.tuple hq2); exact RcAt.bool_tuple c1 p2 hz
 | int c1=>
  simp only [Brs] at h1; subst h1; obtain ⟨t1,q1⟩:=(show ∃ t,_=Value.int c1 t from r1); cases q1
  cases e with
  | non=>(simp only [Brs] at h2; subst h2; cases (show _=Value.none from r2)); exact RcAt.int_none c1 t1
  | bl c2=>(simp only [Brs] at h2; subst h2; cases (show _=Value.bool c2 from r2)); exact RcAt.int_bool c1 t1 c2
  | int c2=>(simp only [Brs] at h2; subst h2; obtain ⟨t2,q2⟩:=(show ∃ t,_=Value.int c2 t from r2); cases q2); exact RcAt.int_int c1 t1 c2 t2
  | str c2=>(simp only [Brs] at h2; subst h2; obtain ⟨t2,q2⟩:=(show ∃ t,_=Value.str c2 t from r2); cases q2); exact RcAt.int_str c1 t1 c2 t2
  | lst es=>(simp only [Brs] at h2; obtain ⟨a2,xs2,rfl,hq2,hb2⟩:=h2; cases (show _=Value.ref a2 from r2); obtain ⟨its2,rv2,p2,_⟩:=I.list hq2); exact RcAt.int_list c1 t1 p2.isList hz
  | tup es=>(simp only [Brs] at h2; obtain ⟨a2,xs2,rfl,hq2,hb2⟩:=h2; cases (show _=Value.ref a2 from r2); obtain ⟨its2,rv2,p2,_⟩:=I.tuple hq2); exact RcAt.int_tuple c1 t1 p2 hz
 | str c1=>
  simp only [Brs] at h1; subst h1; obtain ⟨t1,q1⟩:=(show ∃ t,_=Value.str c1 t from r1); cases q1
  cases e with
  | non=>(simp only [Brs] at h2; subst h2; cases (show _=Value.none from r2)); exact RcAt.str_none c1 t1
  | bl c2=>(simp only [Brs] at h2; subst h2; cases (show _=Value.bool c2 from r2)); exact RcAt.str_bool c1 t1 c2
  | int c2=>(simp only [Brs] at h2; subst h2; obtain ⟨t2,q2⟩:=(show ∃ t,_=Value.int c2 t from r2); cases q2); exact RcAt.str_int c1 t1 c2 t2
  | str c2=>(simp only [Brs] at h2; subst h2; obtain ⟨t2,q2⟩:=(show ∃ t,_=Value.str c2 t from r2); cases q2); exact RcAt.str_str c1 t1 c2 t2
  | lst es=>(simp only [Brs] at h2; obtain ⟨a2,xs2,rfl,hq2,hb2⟩:=h2; cases (show _=Value.ref a2 from r2); obtain ⟨its2,rv2,p2,_⟩:=I.list hq2); exact RcAt.str_list c1 t1 p2.isList hz
  | tup es=>(simp only [Brs] at h2; obtain ⟨a2,xs2,rfl,hq2,hb2⟩:=h2; cases (show _=Value.ref a2 from r2); obtain ⟨its2,rv2,p2,_⟩:=I.tuple hq2); exact RcAt.str_tuple c1 t1 p2 hz
 | lst ds=>
  simp only [Brs] at h1; obtain ⟨a1,xs1,rfl,hq1,hb1⟩:=h1; cases (show _=Value.ref a1 from r1); obtain ⟨its1,rv1,p1,_⟩:=I.list hq1
  cases e with
  | non=>(simp only [Brs] at h2; subst h2; cases (show _=Value.none from r2)); exact RcAt.list_none p1.isList hz
  | bl c2=>(simp only [Brs] at h2; subst h2; cases (show _=Value.bool c2 from r2)); exact RcAt.list_bool c2 p1.isList hz
  | int c2=>(simp only [Brs] at h2; subst h2; obtain ⟨t2,q2⟩:=(show ∃ t,_=Value.int c2 t from r2); cases q2); exact RcAt.list_int c2 t2 p1.isList hz
  | str c2=>(simp only [Brs] at h2; subst h2; obtain ⟨t2,q2⟩:=(show ∃ t,_=Value.str c2 t from r2); cases q2); exact RcAt.list_str c2 t2 p1.isList hz
  | lst es=>
   simp only [Brs] at h2; obtain ⟨a2,xs2,rfl,hq2,hb2⟩:=h2; cases (show _=Value.ref a2 from r2); obtain ⟨its2,rv2,p2,_⟩:=I.list hq2
   have hd:A.in1.units + dpL ds < cLine:=by
    have:dp (.lst ds)=dpL ds + 1:=by simp [dp]
    show A.units + 1 + dpL ds < cLine
    omega
   have he:A.in1.units + dpL es < cLine:=by
    have:dp (.lst es)=dpL es + 1:=by simp [dp]
    show A.units + 1 + dpL es < cLine
    omega
   have l1:=hb1.length
   have l2:=hb2.length
   have l3:=rv1.length
   have l4:=rv2.length
   rw [show eqD (.lst ds) (.lst es)=eqL ds es by simp [eqD]]
   by_cases hl:ds.length=es.length
   .rw [← m5 hl,show ds.length=its1.toArray.size by rw [List.size_toArray]; omega]
    exact RcAt.lists p1.isList p2.isList (by rw [List.size_toArray,List.size_toArray]; omega) hz (p_ I ds es hb1 hb2 rv1 rv2 hd he)
   .rw [m8 hl]
    exact RcAt.lists_lengths p1.isList p2.isList (by rw [List.size_toArray,List.size_toArray]; exact bne_iff_ne.mpr (by omega)) hz
  | tup es=>(simp only [Brs] at h2; obtain ⟨a2,xs2,rfl,hq2,hb2⟩:=h2; cases (show _=Value.ref a2 from r2); obtain ⟨its2,rv2,p2,_⟩:=I.tuple hq2); exact RcAt.list_tuple p1.isList p2 hz
 | tup ds=>
  simp only [Brs] at h1; obtain ⟨a1,xs1,rfl,hq1,hb1⟩:=h1; cases (show _=Value.ref a1 from r1); obtain ⟨its1,rv1,p1,_⟩:=I.tuple hq1
  cases e with
  | non=>(simp only [Brs] at h2; subst h2; cases (show _=Value.none from r2)); exact RcAt.tuple_none p1 hz
  | bl c2=>(simp only [Brs] at h2; subst h2; cases (show _=Value.bool c2 from r2)); exact RcAt.tuple_bool c2 p1 hz
  | int c2=>(simp only [Brs] at h2; subst h2; obtain ⟨t2,q2⟩:=(show ∃ t,_=Value.int c2 t from r2); cases q2); exact RcAt.tuple_int c2 t2 p1 hz
  | str c2=>(simp only [Brs] at h2; subst h2; obtain ⟨t2,q2⟩:=(show ∃ t,_=Value.str c2 t from r2); cases q2); exact RcAt.tuple_str c2 t2 p1 hz
  | lst es=>(simp only [Brs] at h2; obtain ⟨a2,xs2,rfl,hq2,hb2⟩:=h2; cases (show _=Value.ref a2 from r2); obtain ⟨its2,rv2,p2,_⟩:=I.list hq2); exact RcAt.tuple_list p1 p2.isList hz
  | tup es=>
   simp only [Brs] at h2; obtain ⟨a2,xs2,rfl,hq2,hb2⟩:=h2; cases (show _=Value.ref a2 from r2); obtain ⟨its2,rv2,p2,_⟩:=I.tuple hq2
   have hd:A.in1.units + dpL ds < cLine:=by
    have:dp (.tup ds)=dpL ds + 1:=by simp [dp]
    show A.units + 1 + dpL ds < cLine
    omega
   have he:A.in1.units + dpL es < cLine:=by
    have:dp (.tup es)=dpL es + 1:=by simp [dp]
    show A.units + 1 + dpL es < cLine
    omega
   have l1:=hb1.length
   have l2:=hb2.length
   have l3:=rv1.length
   have l4:=rv2.length
   rw [show eqD (.tup ds) (.tup es)=((List.range (min its1.toArray.size its2.toArray.size)).all (eqJ ds es) && its1.toArray.size == its2.toArray.size) from ?_]
   .exact RcAt.tuples p1 p2 hz (p_ I ds es hb1 hb2 rv1 rv2 hd he)
   .rw [show eqD (.tup ds) (.tup es)=eqL ds es by simp [eqD],List.size_toArray,List.size_toArray]
    by_cases hl:ds.length=es.length
    .rw [show min its1.length its2.length=ds.length by omega,m5 hl,show (its1.length == its2.length)=true by simp; omega,Bool.and_true]
    .rw [m8 hl,show (its1.length == its2.length)=false by simp; omega,Bool.and_false]
open PySem.SeqAt in
theorem Jh (I:Inv X pins σ H s) (d e:Dt) {A:Around} {v u:V} {v' u':Value} (h1:Brs X.K H d v) (h2:Brs X.K H e u) (r1:RelV v v') (r2:RelV u u') (hu:A.units + dp d < cLine) (hu':A.units + dp e < cLine):RcNeAt A s v' u' (!eqD d e):=by
 have hz:A.units < cLine:=by omega
 cases d with
 | non=>
  simp only [Brs] at h1; subst h1; cases (show _=Value.none from r1)
  cases e with
  | non=>(simp only [Brs] at h2; subst h2; cases (show _=Value.none from r2)); exact RcNeAt.none_none
  | bl c2=>(simp only [Brs] at h2; subst h2; cases (show _=Value.bool c2 from r2)); exact RcNeAt.none_bool c2
  | int c2=>(simp only [Brs] at h2; subst h2; obtain ⟨t2,q2⟩:=(show ∃ t,_=Value.int c2 t from r2); cases q2); exact RcNeAt.none_int c2 t2
  | str c2=>(simp only [Brs] at h2; subst h2; obtain ⟨t2,q2⟩:=(show ∃ t,_=Value.str c2 t from r2); cases q2); exact RcNeAt.none_str c2 t2
  | lst es=>(simp only [Brs] at h2; obtain ⟨a2,xs2,rfl,hq2,hb2⟩:=h2; cases (show _=Value.ref a2 from r2); obtain ⟨its2,rv2,p2,_⟩:=I.list hq2); exact RcNeAt.none_list p2.isList hz
  | tup es=>(simp only [Brs] at h2; obtain ⟨a2,xs2,rfl,hq2,hb2⟩:=h2; cases (show _=Value.ref a2 from r2); obtain ⟨its2,rv2,p2,_⟩:=I.tuple hq2); exact RcNeAt.none_tuple p2 hz
 | bl c1=>
  simp only [Brs] at h1; subst h1; cases (show _=Value.bool c1 from r1)
  cases e with
  | non=>(simp only [Brs] at h2; subst h2; cases (show _=Value.none from r2)); exact RcNeAt.bool_none c1
  | bl c2=>(simp only [Brs] at h2; subst h2; cases (show _=Value.bool c2 from r2)); exact RcNeAt.bool_bool c1 c2
  | int c2=>(simp only [Brs] at h2; subst h2; obtain ⟨t2,q2⟩:=(show ∃ t,_=Value.int c2 t from r2); cases q2); exact RcNeAt.bool_int c1 c2 t2
  | str c2=>(simp only [Brs] at h2; subst h2; obtain ⟨t2,q2⟩:=(show ∃ t,_=Value.str c2 t from r2); cases q2); exact RcNeAt.bool_str c1 c2 t2
  | lst es=>(simp only [Brs] at h2; obtain ⟨a2,xs2,rfl,hq2,hb2⟩:=h2; cases (show _=Value.ref a2 from r2); obtain ⟨its2,rv2,p2,_⟩:=I.list hq2); exact RcNeAt.bool_list c1 p2.isList hz
  | tup es=>(simp only [Brs] at h2; obtain ⟨a2,xs2,rfl,hq2,hb2⟩:=h2; cases (show _=Value.ref a2 from r2); obtain ⟨its2,rv2,p2,_⟩:=I.tuple hq2); exact RcNeAt.bool_tuple c1 p2 hz
 | int c1=>
  simp only [Brs] at h1; subst h1; obtain ⟨t1,q1⟩:=(show ∃ t,_=Value.int c1 t from r1); cases q1
  cases e with
  | non=>(simp only [Brs] at h2; subst h2; cases (show _=Value.none from r2)); exact RcNeAt.int_none c1 t1
  | bl c2=>(simp only [Brs] at h2; subst h2; cases (show _=Value.bool c2 from r2)); exact RcNeAt.int_bool c1 t1 c2
  | int c2=>(simp only [Brs] at h2; subst h2; obtain ⟨t2,q2⟩:=(show ∃ t,_=Value.int c2 t from r2); cases q2); exact RcNeAt.int_int c1 t1 c2 t2
  | str c2=>(simp only [Brs] at h2; subst h2; obtain ⟨t2,q2⟩:=(show ∃ t,_=Value.str c2 t from r2); cases q2); exact RcNeAt.int_str c1 t1 c2 t2
  | lst es=>(simp only [Brs] at h2; obtain ⟨a2,xs2,rfl,hq2,hb2⟩:=h2; cases (show _=Value.ref a2 from r2); obtain ⟨its2,rv2,p2,_⟩:=I.list hq2); exact RcNeAt.int_list c1 t1 p2.isList hz
  | tup es=>(simp only [Brs] at h2; obtain ⟨a2,xs2,rfl,hq2,hb2⟩:=h2; cases (show _=Value.ref a2 from r2); obtain ⟨its2,rv2,p2,_⟩:=I.tuple hq2); exact RcNeAt.int_tuple c1 t1 p2 hz
 | str c1=>
  simp only [Brs] at h1; subst h1; obtain ⟨t1,q1⟩:=(show ∃ t,_=Value.str c1 t from r1); cases q1
  cases e with
  | non=>(simp only [Brs] at h2; subst h2; cases (show _=Value.none from r2)); exact RcNeAt.str_none c1 t1
  | bl c2=>(simp only [Brs] at h2; subst h2; cases (show _=Value.bool c2 from r2)); exact RcNeAt.str_bool c1 t1 c2
  | int c2=>(simp only [Brs] at h2; subst h2; obtain ⟨t2,q2⟩:=(show ∃ t,_=Value.int c2 t from r2); cases q2); exact RcNeAt.str_int c1 t1 c2 t2
  | str c2=>(simp only [Brs] at h2; subst h2; obtain ⟨t2,q2⟩:=(show ∃ t,_=Value.str c2 t from r2); cases q2); exact RcNeAt.str_str c1 t1 c2 t2
  | lst es=>(simp only [Brs] at h2; obtain ⟨a2,xs2,rfl,hq2,hb2⟩:=h2; cases (show _=Value.ref a2 from r2); obtain ⟨its2,rv2,p2,_⟩:=I.list hq2); exact RcNeAt.str_list c1 t1 p2.isList hz
  | tup es=>(simp only [Brs] at h2; obtain ⟨a2,xs2,rfl,hq2,hb2⟩:=h2; cases (show _=Value.ref a2 from r2); obtain ⟨its2,rv2,p2,_⟩:=I.tuple hq2); exact RcNeAt.str_tuple c1 t1 p2 hz
 | lst ds=>
  simp only [Brs] at h1; obtain ⟨a1,xs1,rfl,hq1,hb1⟩:=h1; cases (show _=Value.ref a1 from r1); obtain ⟨its1,rv1,p1,_⟩:=I.list hq1
  cases e with
  | non=>(simp only [Brs] at h2; subst h2; cases (show _=Value.none from r2)); exact RcNeAt.list_none p1.isList hz
  | bl c2=>(simp only [Brs] at h2; subst h2; cases (show _=Value.bool c2 from r2)); exact RcNeAt.list_bool c2 p1.isList hz
  | int c2=>(simp only [Brs] at h2; subst h2; obtain ⟨t2,q2⟩:=(show ∃ t,_=Value.int c2 t from r2); cases q2); exact RcNeAt.list_int c2 t2 p1.isList hz
  | str c2=>(simp only [Brs] at h2; subst h2; obtain ⟨t2,q2⟩:=(show ∃ t,_=Value.str c2 t from r2); cases q2); exact RcNeAt.list_str c2 t2 p1.isList hz
  | lst es=>
   simp only [Brs] at h2; obtain ⟨a2,xs2,rfl,hq2,hb2⟩:=h2; cases (show _=Value.ref a2 from r2); obtain ⟨its2,rv2,p2,_⟩:=I.list hq2
   have hd:A.in1.units + dpL ds < cLine:=by
    have:dp (.lst ds)=dpL ds + 1:=by simp [dp]
    show A.units + 1 + dpL ds < cLine
    omega
   have he:A.in1.units + dpL es < cLine:=by
    have:dp (.lst es)=dpL es + 1:=by simp [dp]
    show A.units + 1 + dpL es < cLine
    omega
   have l1:=hb1.length
   have l2:=hb2.length
   have l3:=rv1.length
   have l4:=rv2.length
   rw [show eqD (.lst ds) (.lst es)=eqL ds es by simp [eqD]]
   by_cases hl:ds.length=es.length
   .rw [← m5 hl,show ds.length=its1.toArray.size by rw [List.size_toArray]; omega]
    exact RcNeAt.lists p1.isList p2.isList (by rw [List.size_toArray,List.size_toArray]; omega) hz (p_ I ds es hb1 hb2 rv1 rv2 hd he)
   .rw [m8 hl]
    exact RcNeAt.lists_lengths p1.isList p2.isList (by rw [List.size_toArray,List.size_toArray]; exact bne_iff_ne.mpr (by omega)) hz
  | tup es=>(simp only [Brs] at h2; obtain ⟨a2,xs2,rfl,hq2,hb2⟩:=h2; cases (show _=Value.ref a2 from r2); obtain ⟨its2,rv2,p2,_⟩:=I.tuple hq2); exact RcNeAt.list_tuple p1.isList p2 hz
 | tup ds=>
  simp only [Brs] at h1; obtain ⟨a1,xs1,rfl,hq1,hb1⟩:=h1; cases (show _=Value.ref a1 from r1); obtain ⟨its1,rv1,p1,_⟩:=I.tuple hq1
  cases e with
  | non=>(simp only [Brs] at h2; subst h2; cases (show _=Value.none from r2)); exact RcNeAt.tuple_none p1 hz
  | bl c2=>(simp only [Brs] at h2; subst h2; cases (show _=Value.bool c2 from r2)); exact RcNeAt.tuple_bool c2 p1 hz
  | int c2=>(simp only [Brs] at h2; subst h2; obtain ⟨t2,q2⟩:=(show ∃ t,_=Value.int c2 t from r2); cases q2); exact RcNeAt.tuple_int c2 t2 p1 hz
  | str c2=>(simp only [Brs] at h2; subst h2; obtain ⟨t2,q2⟩:=(show ∃ t,_=Value.str c2 t from r2); cases q2); exact RcNeAt.tuple_str c2 t2 p1 hz
  | lst es=>(simp only [Brs] at h2; obtain ⟨a2,xs2,rfl,hq2,hb2⟩:=h2; cases (show _=Value.ref a2 from r2); obtain ⟨its2,rv2,p2,_⟩:=I.list hq2); exact RcNeAt.tuple_list p1 p2.isList hz
  | tup es=>
   simp only [Brs] at h2; obtain ⟨a2,xs2,rfl,hq2,hb2⟩:=h2; cases (show _=Value.ref a2 from r2); obtain ⟨its2,rv2,p2,_⟩:=I.tuple hq2
   have hd:A.in1.units + dpL ds < cLine:=by
    have:dp (.tup ds)=dpL ds + 1:=by simp [dp]
    show A.units + 1 + dpL ds < cLine
    omega
   have he:A.in1.units + dpL es < cLine:=by
    have:dp (.tup es)=dpL es + 1:=by simp [dp]
    show A.units + 1 + dpL es < cLine
    omega
   have l1:=hb1.length
   have l2:=hb2.length
   have l3:=rv1.length
   have l4:=rv2.length
   rw [show eqD (.tup ds) (.tup es)=((List.range (min its1.toArray.size its2.toArray.size)).all (eqJ ds es) && its1.toArray.size == its2.toArray.size) from ?_]
   .exact RcNeAt.tuples p1 p2 hz (p_ I ds es hb1 hb2 rv1 rv2 hd he)
   .rw [show eqD (.tup ds) (.tup es)=eqL ds es by simp [eqD],List.size_toArray,List.size_toArray]
    by_cases hl:ds.length=es.length
    .rw [show min its1.length its2.length=ds.length by omega,m5 hl,show (its1.length == its2.length)=true by simp; omega,Bool.and_true]
    .rw [m8 hl,show (its1.length == its2.length)=false by simp; omega,Bool.and_false]
def P_ (K:PySem.W.Frag) (A:Around):R2:=fun x y H Q=>∃ d e,Brs K H d x/\Brs K H e y/\A.units + dp d < cLine/\A.units + dp e < cLine/\Q (.bl (eqD d e)) H
def Qp (K:PySem.W.Frag) (A:Around):R2:=fun x y H Q=>∃ d e,Brs K H d x/\Brs K H e y/\A.units + dp d < cLine/\A.units + dp e < cLine/\Q (.bl (!eqD d e)) H
theorem NT:OpR X (compareOp .Eq) (P_ X.K X.A):=by
 intro pins s σ H x y v u Q I rx ry h
 obtain ⟨d,e,h1,h2,hu,hu',q⟩:=h
 exact Qs I d e h1 h2 rx ry hu hu' _ _ _ _ ⟨.bl (eqD d e),H,I,rfl,q⟩
theorem Le:OpR X (compareOp .NotEq) (Qp X.K X.A):=by
 intro pins s σ H x y v u Q I rx ry h
 obtain ⟨d,e,h1,h2,hu,hu',q⟩:=h
 exact Jh I d e h1 h2 rx ry hu hu' _ _ _ _ ⟨.bl (!eqD d e),H,I,rfl,q⟩
end
section
variable {prog:Program} {w:World} {A:Around} {E:Value->Shared->Prop} {s:Shared}
theorem sO {sl:Addr} {vl vu vs:Value} {lo hi st:Option Int} {n:Nat} {Q:Int×Int×Nat->Shared->Prop} (hs:s.heap.IsSliceOf sl vl vu vs) (pl:IsPart vl lo) (pu:IsPart vu hi) (ps:IsPart vs st) (h0:st.getD 1≠0)
  (h:Q ((Builtin.Slice.sliceAdjust lo hi (st.getD 1) (n:Int)).1,st.getD 1,Builtin.Slice.slicePlaces (Builtin.Slice.sliceAdjust lo hi (st.getD 1) (n:Int)).1 (Builtin.Slice.sliceAdjust lo hi (st.getD 1) (n:Int)).2 (st.getD 1)) s) :
  wpAny (model prog w) A (Builtin.Slice.sliceApplied (.ref sl) (pure (n:Int))) Q E s:=by
 obtain ⟨os,hos,hcs,hds⟩:=id hs
 unfold Builtin.Slice.sliceApplied
 refine wpAny_bind (wpAny_bind (wpAny_field hos hds (x:=vl) rfl (wpAny_bind (wpAny_field hos hds (x:=vu) rfl (wpAny_bind (wpAny_field hos hds (x:=vs) rfl (wpAny_pure ?_)))))))
 refine wpAny_bind (HT.slicePart_ ps ?_)
 have h1:(st.getD 1 == 0)=false:=by simpa using h0
 simp only [h1,Bool.false_eq_true,if_false,pure_bind]
 exact wpAny_bind (HT.slicePart_ pl (wpAny_bind (HT.slicePart_ pu (wpAny_pure h))))
def ou {α:Type} (xs:List α) (l st:Int) (k:Nat):List α:=(List.range k).filterMap fun (m:Nat)=>xs[(l + (m:Int) * st).toNat]?
theorem kI {t sl:Addr} {items:List Value} {vl vu vs:Value} {lo hi st:Option Int} {Q:Value->Shared->Prop} (ht:IsTup s.heap t items.toArray) (hs:s.heap.IsSliceOf sl vl vu vs) (pl:IsPart vl lo) (pu:IsPart vu hi) (ps:IsPart vs st) (h0:st.getD 1≠0)
  {l h':Int} (ea:Builtin.Slice.sliceAdjust lo hi (st.getD 1) (items.length:Int)=(l,h')) {k:Nat} (ek:Builtin.Slice.slicePlaces l h' (st.getD 1)=k)
  (hw:(l=0/\st.getD 1=1/\k=items.length)->Q (.ref t) s)
  (hn:¬ (l=0/\st.getD 1=1/\k=items.length)->Q (.ref s.heap.objs.size) { s with heap:=s.heap.push { cls:=.type "tuple",data:=.seq (ou items l (st.getD 1) k).toArray } })
  (hsz:(ou items l (st.getD 1) k).length<=sizeLine):wpAny (model prog w) A (getItem (.ref t) (.ref sl)) Q E s:=by
 have htake:sizeOk (.seq (ou items l (st.getD 1) k).toArray):=by
  show (ou items l (st.getD 1) k).toArray.size<=sizeLine
  rw [List.size_toArray]
  exact hsz
 obtain ⟨os,hos,hcs,hds⟩:=id hs
 have hTs:s.TypeIs (.ref sl) "slice" := ⟨os,hos,hcs⟩
 unfold getItem
 try with_reducible refine wpAny_holding ?_
 first | refine wpAny_bind (wpAny_pure ?_) | skip
 refine wpAny_bind (wpAny_sequenceKey ht.typeIs (by decide) ?_)
 refine wpAny_bind (wpAny_callSpecial?_slot (name:=Str.ofString "__getitem__") ht.typeIs PyProof.Rows.slot_tuple_getitem
  (wpAny_call_entry PyProof.Rows.slot_tuple_getitem ht.typeIs entry_tuple_getitem ?_ (args_tuple_getitem _ _)))
 show wpAny _ _ (Builtin.Tuple.tupleItemsOf (.ref t) >>= _) _ _ s
 refine wpAny_bind (tupleItemsOf_ ht ?_)
 refine wpAny_bind (wpAny_typeOf hTs ?_)
 rw [if_pos (by decide)]
 rw [List.size_toArray]
 refine wpAny_bind (sO hs pl pu ps h0 ?_)
 rw [ea,ek]
 dsimp only
 by_cases hc:(l=0/\st.getD 1=1/\k=items.length)
 .rw [if_pos (by simp [hc])]
  refine wpAny_bind ?_
  unfold Builtin.Tuple.tupleIsExact
  refine wpAny_bind (wpAny_typeOf ht.typeIs (wpAny_pure ?_))
  rw [if_pos (by decide)]
  exact wpAny_bind (wpAny_rule (wpAny_pure ⟨_,rfl,wpAny_pure (hw hc)⟩))
 .rw [if_neg (by simpa using hc)]
  have e:(List.filterMap (fun (k:Nat)=>items.toArray[(l + (k:Int) * st.getD 1).toNat]?) (List.range k)).toArray=(ou items l (st.getD 1) k).toArray:=by
   unfold ou
   simp
  rw [e]
  exact wpAny_bind (m:=Builtin.Tuple.tupleExact _) (wpAny_newObj_type (wpAny_pure ⟨_,rfl,wpAny_pure (hn hc)⟩) htake)
end
theorem uY {α:Type} (xs:List α) (l st:Int) (k:Nat):(ou xs l st k).length<=k:=by
 unfold ou
 have:=List.length_filterMap_le (fun (m:Nat)=>xs[(l + (m:Int) * st).toNat]?) (List.range k)
 rw [List.length_range] at this
 exact this
theorem Ey {α:Type} (xs:List α):ou xs ((xs.length:Int) - 1) (-1) xs.length=xs.reverse:=by
 unfold ou
 apply List.ext_getElem?
 intro j
 have key:∀ n,n<=xs.length->(List.range n).filterMap (fun (m:Nat)=>xs[((xs.length:Int) - 1 + (m:Int) * -1).toNat]?)=(xs.reverse).take n:=by
  intro n
  induction n with
  | zero=>intro _; simp
  | succ n ih=>
   intro hn
   rw [List.range_succ,List.filterMap_append,ih (by omega),List.take_add_one]
   congr 1
   have e1:((xs.length:Int) - 1 + (n:Int) * -1).toNat=xs.length - 1 - n:=by omega
   rw [List.getElem?_reverse (by omega)]
   simp only [List.filterMap_cons,List.filterMap_nil,e1]
   rw [List.getElem?_eq_getElem (by omega)]
   try rfl
 rw [key xs.length (Nat.le_refl _),List.take_of_length_le (by simp)]
section
variable {X:Cx} {e:Expr} {te:TE} {p2 pos:Pos}
def PX (K:PySem.W.Frag):V->Option Int->Option Int->Hp->VK->Prop:=fun x lo hi H Q=>∃ a xs,x = .ref a/\SqT K H a xs/\(uF xs lo hi=xs->Q (.ref a) H)/\∀ p,H p=none->Q (.ref p) (upd H p (.tup (uF xs lo hi)))
theorem NZ:SlR X (PX X.K):=by
 intro pins s σ H x v vl vu lo hi sl Q I rx hs pl pu h
 obtain ⟨a,xs,rfl,hx,q1,q2⟩:=h
 by_cases hw:(HT.sIx xs.length 0 lo=0/\HT.sIx xs.length xs.length hi=xs.length)
 .have rx0:=rx
  cases rx
  obtain ⟨its,r,ht,hz⟩:=I.tuple hx
  have hlen:=r.length
  refine ⟨"tuple",_,PyProof.Rows.slot_tuple_getitem.lookup,ht.typeIs,?_⟩
  have e1:Builtin.Slice.sliceAdjust lo hi ((none:Option Int).getD 1) (its.length:Int)=(((0:Nat):Int),((xs.length:Nat):Int)):=by
   have e1:=HT.adjust_gen lo hi its.length
   rw [← hlen,hw.1,hw.2] at e1
   rw [← hlen]
   exact e1
  refine kI (items:=its) (st:=none) ht hs pl pu .none (by decide) e1 rfl (fun _=>?_) (fun hc=>?_) ?_
  .refine ⟨.ref a,H,I,rfl,q1 ?_⟩
   unfold uF
   rw [hw.1,hw.2]
   simp
  .refine absurd ⟨rfl,rfl,?_⟩ hc
   show Builtin.Slice.slicePlaces ((0:Nat):Int) ((xs.length:Nat):Int) 1=its.length
   rw [HT.places_gen]
   omega
  .refine Nat.le_trans (uY _ _ _ _) ?_
   show Builtin.Slice.slicePlaces ((0:Nat):Int) ((xs.length:Nat):Int) 1<=sizeLine
   rw [HT.places_gen]
   omega
 .exact M4 pins s σ H _ v vl vu lo hi sl Q I rx hs pl pu ⟨a,xs,rfl,hx,hw,q2⟩
def PQ (K:PySem.W.Frag):R2:=fun x y H Q=>∃ a xs,x = .ref a/\SqT K H a xs/\((y = .int 1/\Q (.ref a) H)∨(y = .int (-1)/\∀ p,H p=none->Q (.ref p) (upd H p (.tup xs.reverse))))
def Hl (K:PySem.W.Frag):R2:=fun x y H Q=>∃ a b xs ys,x = .ref a/\y = .ref b/\SqT K H a xs/\SqT K H b ys/\xs.length + ys.length<=sizeLine/\
 (xs=[]->Q (.ref b) H)/\(xs≠[]->ys=[]->Q (.ref a) H)/\(xs≠[]->ys≠[]->∀ p,H p=none->Q (.ref p) (upd H p (.tup (xs++ys))))
theorem G4:OpR X (binaryOp .Add) (Hl X.K):=by
 intro pins s σ H x y v u Q I rx ry h
 obtain ⟨a,b,xs,ys,rfl,rfl,ha,hb,hz,q0,q1,q2⟩:=h
 by_cases hx:xs=[]
 .cases rx
  cases ry
  obtain ⟨its,r1,p1,_⟩:=I.tuple ha
  obtain ⟨its2,r2,p2,_⟩:=I.tuple hb
  obtain ⟨⟨cls,dd,data,sl⟩,ho,hc,n,hd⟩:=id p1
  obtain ⟨⟨cls2,dd2,data2,sl2⟩,ho2,hc2,n2,hd2⟩:=id p2
  simp only at hc hd hc2 hd2
  subst hc hd hc2 hd2
  exact concat_meets ⟨_,ho,rfl⟩ ⟨_,ho2,rfl⟩ noFill_tuple_add seq_tuple_add PySem.F.slot_tuple_add PySem.F.entry_tuple_add (PySem.F.args_tuple_add_2 _ _)
   (tuple_addW0 a b its.toArray its2.toArray n n2 dd dd2 sl sl2 (by rw [r1.nil_iff.mpr hx]; rfl)) ⟨ho,ho2,⟨.ref b,H,I,rfl,q0 hx⟩⟩
 .exact JH pins s σ H _ _ v u Q I rx ry ⟨a,b,xs,ys,rfl,rfl,ha,hb,hx,hz,q1 hx,q2 hx⟩
end
section
variable {X:Cx} {pins:List (Addr×Obj)} {σ:L2.St} {H:Hp} {s:Shared} {h':Heap}
theorem yP {fp:List Addr} {t':Nat} {p:Addr} {o:HO} (I:Inv X pins σ H s) (hf:∀ b∈fp,m6 X pins H b) (keep:∀ b u,b∉fp->s.heap.get? b=some u->h'.get? b=some u) (hp:s.heap.objs.size<=p)
  (new:fu X.prog X.w (upd H p o) h' p o):Inv X pins σ (upd H p o) { s with heap:=h',toks:=t' }:=by
 have hn:H p=none:=I.hok.fresh hp
 have nf:∀ b u,H b=some u->b∉fp:=fun b u e hb=>by rw [(hf b hb).1] at e; cases e
 have np:∀ b u,s.heap.get? b=some u->b≠p:=fun b u e=>Nat.ne_of_lt (Nat.lt_of_lt_of_le (Heap.lt_size e) hp)
 refine I.step (g':=s.gens) (d':=s.drawn) (ch:=fp) (fun b hb=>⟨(hf b hb).2.2.2.1,(hf b hb).2.1,(hf b hb).2.2.2.2.1,(hf b hb).2.2.2.2.2⟩) (fun b u _ _ hc e _=>keep b u hc e) (fun b u _ _ hc e _=>⟨u.slots,keep b u hc e⟩)
  (fun b u _ e n=>by rw [bh (np b u e)]; exact n) (fun b u hc e=>⟨u,keep b u hc e⟩) (fun b xs e=>by rw [bh (bN e hn)]; exact e) (fun b ob u e=>by rw [bh (bN e hn)]; exact e)
  (fun b ps e=>⟨#[],by rw [bh (bN e hn),e]; simp⟩) (fun m hm=>?_) (fun b u e=>?_) I.bare
 .obtain ⟨ob,es,ep,ho,r⟩:=hm
  exact ⟨ob,es,ep,keep _ ob (fun z=>(hf _ z).2.1 rfl) ho,r⟩
 .by_cases hb:b=p
  .subst hb
   rw [dg] at e
   cases e
   exact new
  .rw [bh hb] at e
   refine (I.hok b u e).stay (fun c v hc q=>keep c v ?_ q) (fun c q=>by rw [bh (bN q hn)]; exact q) fun c xs q=>by rw [bh (bN q hn)]; exact q
   rcases hc with z | z
   .rw [z]
    exact nf b u e
   .exact nf c _ z
theorem o4 {fp:List Addr} {t':Nat} (I:Inv X pins σ H s) (hf:∀ b∈fp,m6 X pins H b) (keep:∀ b u,b∉fp->s.heap.get? b=some u->h'.get? b=some u):Inv X pins σ H { s with heap:=h',toks:=t' }:=by
 have nf:∀ b u,H b=some u->b∉fp:=fun b u e hb=>by rw [(hf b hb).1] at e; cases e
 refine I.step (g':=s.gens) (d':=s.drawn) (ch:=fp) (fun b hb=>⟨(hf b hb).2.2.2.1,(hf b hb).2.1,(hf b hb).2.2.2.2.1,(hf b hb).2.2.2.2.2⟩) (fun b u _ _ hc e _=>keep b u hc e) (fun b u _ _ hc e _=>⟨u.slots,keep b u hc e⟩)
  (fun b u _ e n=>n) (fun b u hc e=>⟨u,keep b u hc e⟩) (fun b xs e=>e) (fun b ob u e=>e) (fun b ps e=>⟨#[],by rw [e]; simp⟩) (fun m hm=>?_) (fun b u e=>?_) I.bare
 .obtain ⟨ob,es,ep,ho,r⟩:=hm
  exact ⟨ob,es,ep,keep _ ob (fun z=>(hf _ z).2.1 rfl) ho,r⟩
 .refine (I.hok b u e).stay (fun c v hc q=>keep c v ?_ q) (fun c q=>q) fun c xs q=>q
  rcases hc with z | z
  .rw [z]
   exact nf b u e
  .exact nf c _ z
end
def Ite (K:PySem.W.Frag) (a:Addr):It:=
 ⟨fun i H=>∃ xs x,SqL K H a xs/\xs[i]? = some x,fun i H x H'=>∃ p v,H p=none/\x = .ref p/\(∀ xs,SqL K H a xs->xs[i]? = some v)/\H'=upd H p (.tup [.int i,v]),fun i H=>∃ xs,SqL K H a xs/\xs.length<=i⟩
theorem Dg {P:Program} {w:World} {K:PySem.W.Frag} {elts:List Expr} {x1} {pos:Pos} (a e it:Addr) (hne:e≠it) :
  Turn P w K (.Tuple elts x1 pos) (Ite K a) [e,it] e (fun i h=>(∃ old,IsEnum h e it (i:Int) old)/\h.IsListIter it a i) where
 mem:=by simp
 obj:=fun i h st b hb=>by
  obtain ⟨⟨old,he⟩,o,ho,c,d⟩:=st
  rcases List.mem_cons.mp hb with z | z
  .subst z
   exact ⟨_,he,fun v z=>by cases z⟩
  .have z:b=it:=by simpa using z
   subst z
   exact ⟨o,ho,fun v z=>by rw [d] at z; cases z⟩
 keep:=fun i h h' st k=>by
  obtain ⟨⟨old,he⟩,hit⟩:=st
  exact ⟨⟨old,k e (by simp) _ he⟩,hit.at fun o q=>k it (by simp) o q⟩
 item:=by
  intro X hP hw hK hc i pins s σ H E I hf st hg
  subst hP hw hK
  obtain ⟨xs,x,hq,hx⟩:=hg
  obtain ⟨its,rv,p,hz⟩:=I.list hq
  obtain ⟨u,hu,ru⟩:=rv.get hx
  obtain ⟨⟨old,he⟩,hit⟩:=st
  refine wpAny_pyNext_enum_item he hit p.isList (x:=u) (by simpa using hu) hne fun h1 ho1 hit1 ht1 hsz1 k1=>?_
  refine ⟨.ref s.heap.objs.size,rfl,wpAny_letOwnedTupleGo_enum ho1 fun h2 he2 sb2=>?_⟩
  have hel:e < s.heap.objs.size:=Heap.lt_size he
  have hpe:s.heap.objs.size≠e:=Nat.ne_of_gt hel
  have ht2:h2.get? s.heap.objs.size=some { cls:=.type "tuple",data:=.seq #[.int i s.toks,u] }:=sb2.extBut _ _ hpe ht1
  have I2:Inv X pins σ (upd H s.heap.objs.size (.tup [.int i,x])) { s with heap:=h2,toks:=s.toks + 1 }:=by
   refine yP (fp:=[e,it]) (t':=s.toks + 1) I hf (fun b o hb q=>?_) (Nat.le_refl _) ?_
   .have n1:b≠e:=fun z=>hb (by simp [z])
    have n2:b≠it:=fun z=>hb (by simp [z])
    exact sb2.extBut b o n1 (k1 b o n1 n2 q)
   .exact ⟨by show 2<=sizeLine; decide,[.int i s.toks,u],.cons ⟨_,rfl⟩ (.cons ru .nil),_,ht2,rfl,_,rfl⟩
  refine ⟨.ref s.heap.objs.size,upd H s.heap.objs.size (.tup [.int i,x]),I2,rfl,⟨_,x,I.hok.fresh (Nat.le_refl _),rfl,fun ys hy=>by rw [I.list_inj hy hq]; exact hx,rfl⟩,?_,fun b hb=>?_⟩
  .refine ⟨⟨u,?_⟩,hit1.extBut sb2.extBut (Ne.symm hne)⟩
   have e1:(((i + 1:Nat)):Int)=(i:Int) + 1:=by omega
   rw [e1]
   exact he2
  .rw [bh]
   .exact (hf b hb).1
   .intro z
    rw [z] at hb
    rcases List.mem_cons.mp hb with q | q
    .exact hpe q
    .have q:s.heap.objs.size=it:=by simpa using q
     obtain ⟨o,ho,_⟩:=hit
     exact absurd (Heap.lt_size ho) (by rw [q]; exact Nat.lt_irrefl _)
 done:=by
  intro X hP hw hK hc i pins s σ H E I hf st hg
  subst hP hw hK
  obtain ⟨xs,hq,hx⟩:=hg
  obtain ⟨its,rv,p,hz⟩:=I.list hq
  obtain ⟨⟨old,he⟩,hit⟩:=st
  have hl:=rv.length
  refine wpAny_pyNext_enum_end (I.ok.hd hc) he hit p.isList (by simp; omega) fun h1 eb=>⟨rfl,?_⟩
  exact o4 (fp:=[e,it]) (t':=s.toks) I hf fun b o hb q=>eb b o (fun z=>hb (by simp [z])) q
 self:=fun A i s Q E st h=>by
  obtain ⟨⟨old,he⟩,_⟩:=st
  exact wpAny_pyIter_enum he h
end Jb
namespace PySem
open Sem (wp)
theorem F.first_AttributeError:((Manifest.find? "AttributeError").elim false fun t=>t.mro.contains "StopIteration" || t.mro.contains "SystemExit")=false:=by decide +kernel
theorem F.sub_AttributeError:isSubtype (.type "AttributeError") (.type "AttributeError")=pure true:=by rw [isSubtype_type]; kernel_rfl
section
variable {prog:Program} {w:World} {A:Around} {E:Value->Shared->Prop}
theorem sS {α:Type} {o:Value} {name msg:Str} {Q:α->Shared->Prop} {h:Heap} {g:Array GenState} {d:Drawn} {t:Nat} {os:OsState} (hh:A.handled=none) (hm:msg.length<=sizeLine)
  (hq:∀ h' tk e,(∀ b u,h.get? b=some u->h'.get? b=some u)->(∃ oe,h'.get? e=some oe/\oe.cls = .type "AttributeError")->E (.ref e) ⟨h',g,d,tk,os⟩):wpAny (model prog w) A (raiseAttrError o name msg:Sem α) Q E ⟨h,g,d,t,os⟩:=by
 unfold raiseAttrError
 refine wpAny_bind (wpAny_mkStr (wpAny_bind ?_) hm)
 unfold newExc newTuple
 refine wpAny_bind (wpAny_newObj_type ?_)
 refine wpAny_bind (m:=firstArgMember _ _) (wpAny_of_eq (a:=Value.none) (by simp only [firstArgMember,F.first_AttributeError]; rfl) ?_)
 refine wpAny_newObj_type ?_
 refine wpAny_bind (wpAny_mkText (wpAny_bind ?_))
 dsimp only
 generalize hH1:h.push { cls:=.type "tuple",dict:=none,data:=.seq [Value.str msg t].toArray }=H1
 generalize hob:({ cls:=.type "AttributeError",dict:=none,data:=.fields (#[.ref h.objs.size,.none,.none,.none,.bool false,.none]++ownMembersOf (.type "AttributeError") [Value.str msg t]) }:Obj)=ob
 have he:(H1.push ob).get? H1.objs.size=some ob:=Heap.get?_push_size _ (by subst hob; rfl)
 have hT:(⟨H1.push ob,g,d,t + 1 + 1,os⟩:Shared).TypeIs (.ref H1.objs.size) "AttributeError" := ⟨_,he,by subst hob; rfl⟩
 have f1:=F.sub_AttributeError
 have old:∀ b u,h.get? b=some u->(H1.push ob).get? b=some u:=fun b u e=>Heap.get?_push_of_some _ (hH1 ▸ Heap.get?_push_of_some _ e)
 have hcls:ob.cls = .type "AttributeError" := by subst hob; rfl
 obtain ⟨vs,hds,hv6,hv7⟩:∃ vs,ob.data = .fields vs/\vs[6]? = some unsetMember/\vs[7]? = some unsetMember:=by subst hob; exact ⟨_,rfl,rfl,rfl⟩
 unfold noteAttr
 dsimp only
 refine wpAny_bind ?_
 unfold lacksNameAndObj
 refine wpAny_bind (wpAny_isInstance hT f1 ?_)
 simp only [Bool.not_true,Bool.false_eq_true,if_false]
 refine wpAny_bind (wpAny_load he ?_)
 rw [hds]
 dsimp only
 rw [hv6,hv7]
 show wpAny (model prog w) A (pure true) _ _ _
 refine wpAny_pure ?_
 rw [if_pos rfl]
 refine wpAny_bind (wpAny_rule (wpAny_bind (wpAny_typeOf hT ?_)))
 dsimp only
 unfold layMembers
 refine wpAny_bind (wpAny_load he ?_)
 rw [hds]
 dsimp only
 refine wpAny_update he ?_
 unfold raiseNew
 refine wpAny_bind (wpAny_handled ?_)
 rw [hh]
 dsimp only
 have hlt:h.objs.size < H1.objs.size:=by rw [← hH1,Heap.size_push]; exact Nat.lt_succ_self _
 refine wpAny_throw (hq _ _ _ (fun b u e=>?_) ⟨_,Heap.get?_update_self _ he (Obj.isFreed_of_fields (Obj.data_mapFields hds _)),(Obj.cls_mapFields ..).trans hcls⟩)
 exact (Heap.get?_update_other (H1.push ob) _ (Ne.symm (Nat.ne_of_lt (Nat.lt_trans (Heap.lt_size e) hlt)))).trans (old b u e)
theorem F.lk_list_keys:typeLookup (.type "list") "keys" = pure none:=by rw [typeLookup_type,builtinLookup_eq_fast]; kernel_rfl
theorem F.lk_list_getattr:typeLookup (.type "list") "__getattr__" = pure none:=by rw [typeLookup_type,builtinLookup_eq_fast]; kernel_rfl
variable {h:Heap} {g:Array GenState} {d:Drawn} {t:Nat} {os:OsState} {a:Addr} {items:Array Value} {n:Nat}
def zH (E:Value->Shared->Prop) (h:Heap) (g:Array GenState) (d:Drawn) (os:OsState):Prop:=∀ h' tk e,(∀ b u,h.get? b=some u->h'.get? b=some u)->(∃ oe,h'.get? e=some oe/\oe.cls = .type "AttributeError")->E (.ref e) ⟨h',g,d,tk,os⟩
theorem sU {tk:Tok} {Q:Fin->Shared->Prop} (hh:A.handled=none) (hx:h.get? a=some { cls:=.type "list",data:=.seq items n }) (hq:zH E h g d os) :
  wpAny (model prog w) A (Builtin.«object.__getattribute__» ⟨[.ref a,.str "keys" tk],[]⟩) Q E ⟨h,g,d,t,os⟩:=by
 have hT:(⟨h,g,d,t,os⟩:Shared).TypeIs (.ref a) "list" := ⟨_,hx,rfl⟩
 have f4:=F.lk_list_keys
 repeat (any_goals (first | assumption | wp_step))
 exact sS hh (by decide +kernel) hq
theorem ut {tk:Tok} {R:Result->Shared->Prop} (hh:A.handled=none) (hx:h.get? a=some { cls:=.type "list",data:=.seq items n }) (hq:zH (fun e s=>R (.error e) s) h g d os) :
  codeAny (model prog w) A (.call (.builtin "list.__getattribute__") ⟨[.ref a,.str "keys" tk],[]⟩) R ⟨h,g,d,t,os⟩:=
 codeAny_call_builtin F.slot_list_getattribute.plain F.entry_list_ga (F.slot_list_getattribute.check _ _ _ _ _ _ _ _ (show (⟨h,g,d,t,os⟩:Shared).TypeIs (.ref a) "list" from ⟨_,hx,rfl⟩) (F.args_list_getattribute_2 _ _) (sU hh hx hq))
theorem wF {tk:Tok} {Q:Value->Shared->Prop} (hh:A.handled=none) (hx:h.get? a=some { cls:=.type "list",data:=.seq items n }) (hq:zH E h g d os):wpAny (model prog w) A (getAttrBy (.ref a) (.str "keys" tk) false) Q E ⟨h,g,d,t,os⟩:=by
 have hT:(⟨h,g,d,t,os⟩:Shared).TypeIs (.ref a) "list" := ⟨_,hx,rfl⟩
 have f2:=F.slot_list_getattribute.lookup
 have f3:=F.slot_list_getattribute.bind (.ref a)
 repeat (any_goals (first | assumption | wp_step))
 refine ut hh hx fun h' tk' e old he=>?_
 obtain ⟨oe,he1,he2⟩:=id he
 have hT':(⟨h',g,d,tk',os⟩:Shared).TypeIs (.ref e) "AttributeError" := ⟨oe,he1,he2⟩
 dsimp only
 unfold getattributeRaised
 refine wpAny_bind (wpAny_isInstance hT' F.sub_AttributeError ?_)
 rw [if_pos rfl]
 refine wpAny_bind (wpAny_of_eq (show hookBehind (.type "list") none=pure none from F.lk_list_getattr) ?_)
 show wpAny (model prog w) A (attributeErrorLeaves (.ref a) (.str "keys" tk) (.ref e) false false) Q E ⟨h',g,d,tk',os⟩
 unfold attributeErrorLeaves
 dsimp only
 rw [if_pos (show (!false)=true from rfl)]
 first | exact wpAny_throw (hq h' tk' e old he) | exact wpAny_bind (wpAny_throw (hq h' tk' e old he))
theorem vy {Q:Option Value->Shared->Prop} (hh:A.handled=none) (hx:h.get? a=some { cls:=.type "list",data:=.seq items n })
  (hq:∀ h' tk,(∀ b u,h.get? b=some u->h'.get? b=some u)->Q none ⟨h',g,d,tk,os⟩):wpAny (model prog w) A (getAttr? (.ref a) "keys") Q E ⟨h,g,d,t,os⟩:=by
 unfold getAttr? getAttrBy?
 refine wpAny_bind (wpAny_mkText (wpAny_bind (wpAny_attempt (wF hh hx fun h' tk' e old he=>?_))))
 obtain ⟨oe,he1,he2⟩:=id he
 have hT':(⟨h',g,d,tk',os⟩:Shared).TypeIs (.ref e) "AttributeError" := ⟨oe,he1,he2⟩
 dsimp only
 refine wpAny_bind (wpAny_isInstance hT' F.sub_AttributeError ?_)
 rw [if_pos rfl]
 exact wpAny_pure (hq h' tk' old)
end
namespace F
theorem entry_dict_update_loop:entryFor table "dict.update.loop" = some Builtin.«dict.update.loop»:=entryFor_of_tree (by kernel_rfl)
theorem plain_dict_update_loop:plainId "dict.update.loop" = true:=by decide +kernel
end F
end PySem
namespace Jb
open PySem PySem.Spec PyProof.Rows L2
section
variable {X:Cx} {pins:List (Addr×Obj)} {σ:L2.St} {A:Around}
def putAll (kvs:List (Key×V)) (prs:List (Key×V)):List (Key×V):=prs.foldl (fun acc kv=>putK acc kv.1 kv.2) kvs
theorem DW {D it l:Addr} {xs:List V} {prs:List (Key×V)} {R:Result->Shared->Prop} (hh:A.handled=none) (hlen:prs.length=xs.length):∀ (m i:Nat) (kvs:List (Key×V)) (H:Hp) (s:Shared),xs.length - i=m->i<=xs.length->
  Inv X pins σ H s->H D=some (.dK kvs)->SqL X.K H l xs->m6 X pins H it->s.heap.IsListIter it l i->(∀ (j:Nat) (k:Key) (v:V),prs[j]? = some (k,v)->∃ p:Addr,xs[j]? = some (V.ref p)/\H p=some (.tup [kV k,v]))->kvs.length + m<=100000->
  (∀ s',Inv X pins σ (upd H D (.dK (putAll kvs (prs.drop i)))) s'->R (.ok (.ret .none)) s')->codeAny (model X.prog X.w) A (.builtin "dict.update.loop" ⟨[.ref D,.ref it,rawInt i,.none],[]⟩) R s:=by
 intro m
 induction m with
 | zero=>
  intro i kvs H s hm hi I hD hq hf hit hp hz k
  have e:i=xs.length:=by omega
  subst e
  obtain ⟨its,rv,p,_⟩:=I.list hq
  have hl:=rv.length
  refine codeAny_builtin F.entry_dict_update_loop ?_
  rw [Around.under_plainId F.plain_dict_update_loop _]
  unfold Builtin.«dict.update.loop»
  dsimp only
  refine wpAny_bind (wpAny_pyNext_list_end (show A.in1.handled=none from hh) hit p.isList (by simp; omega) fun h' eb=>?_)
  dsimp only
  have I1:Inv X pins σ H { s with heap:=h' }:=o4 (fp:=[it]) (t':=s.toks) I (fun b hb=>by rw [List.mem_singleton.mp hb]; exact hf) fun b o hb q=>eb b o (fun z=>hb (by simp [z])) q
  have e1:prs.drop xs.length=[]:=by rw [← hlen,List.drop_length]
  have k1:=k _ (by
   rw [e1]
   show Inv X pins σ (upd H D (.dK kvs)) { s with heap:=h' }
   have:upd H D (.dK kvs)=H:=by
    funext b
    unfold upd
    split
    .rename_i z
     rw [z,hD]
    .rfl
   rw [this]
   exact I1)
  show wpAny (model X.prog X.w) A.in1 (Builtin.Dict.addKeywords D [] >>= fun _=>ret .none) _ _ _
  exact wpAny_bind (wpAny_pure (wpAny_pure k1))
 | succ m ih=>
  intro i kvs H s hm hi I hD hq hf hit hp hz k
  have hlt:i < xs.length:=by omega
  obtain ⟨its,rv,p,_⟩:=I.list hq
  have hl:=rv.length
  have hlp:i < prs.length:=by omega
  obtain ⟨t,ht,hT⟩:=hp i prs[i].1 prs[i].2 (by rw [List.getElem?_eq_getElem hlp])
  obtain ⟨u,hu,ru⟩:=rv.get ht
  cases ru
  refine codeAny_builtin F.entry_dict_update_loop ?_
  rw [Around.under_plainId F.plain_dict_update_loop _]
  unfold Builtin.«dict.update.loop»
  dsimp only
  refine wpAny_bind (wpAny_pyNext_list_item hit p.isList (x:=.ref t) (by simpa using hu) fun h1 hit1 sb1=>?_)
  dsimp only
  have I1:Inv X pins σ H { s with heap:=h1 }:=o4 (fp:=[it]) (t':=s.toks) I (fun b hb=>by rw [List.mem_singleton.mp hb]; exact hf) fun b o hb q=>(sb1.2 b (fun z=>hb (by simp [z]))).trans q
  obtain ⟨_,jts,rj,oj,ej,cj,nj,dj⟩:=(show fu X.prog X.w H h1 t (.tup [kV prs[i].1,prs[i].2]) from I1.hok t _ hT)
  obtain ⟨ku,vu,rfl,rk,rw'⟩:=vals2 rj
  have hTT:(({ s with heap:=h1 }:Shared)).TypeIs (.ref t) "tuple" := ⟨oj,ej,cj⟩
  refine wpAny_bind (wpAny_holding (wpAny_bind (wpAny_tryCatch ?_)))
  unfold Builtin.Dict.pairItems
  refine wpAny_bind (wpAny_typeOf hTT ?_)
  rw [if_pos (by decide)]
  refine wpAny_bind (wpAny_seqItems ej dj (wpAny_pure ?_))
  show wpAny (model X.prog X.w) A.in1 (holding [ku,vu] (dictSet D ku vu)) _ _ _
  obtain ⟨z,hd,vs,rel,dd⟩:=K8 I1.hok hD
  have hz2:vs.length<=sizeLine:=by rw [← rel.length]; exact z
  have hsl:200000<=sizeLine:=by decide
  have hl2:(putK kvs prs[i].1 prs[i].2).length<=sizeLine:=by have:=mj kvs prs[i].1 prs[i].2; omega
  refine wpAny_holding (wpAny_dictSet_pairs (hsz:=hz2) (pO rk) dd fun h2 dd2 sb2=>?_)
  have I2:Inv X pins σ (upd H D (.dK (putK kvs prs[i].1 prs[i].2))) { s with heap:=h2,toks:=s.toks + 1 }:=by
   have he:∃ q,h2.get? D=some q:=let ⟨q,_,_,hq,_⟩:=dd2; ⟨q,hq⟩
   exact wK (s:=({ s with heap:=h1 }:Shared)) (t':=s.toks + 1) I1 (by rw [hD]; exact True.intro) sb2 he (FW hl2 hd (rel.put prs[i].1 rw') dd2)
  have nDt:∀ p ys,H p=some (.tup ys)->p≠D:=fun p ys e=>Bc e hD (by intro z; cases z)
  have nDi:it≠D:=fun z=>by have:=hf.1; rw [z,hD] at this; cases this
  show wpAny (model X.prog X.w) A.in1 (again (.builtin "dict.update.loop" ⟨[.ref D,.ref it,rawInt ((i:Int) + 1),.none],[]⟩)) _ _ _
  refine wpAny_pure ⟨plainId_quiet F.plain_dict_update_loop _,?_⟩
  have ei:((i:Int) + 1)=((i + 1:Nat):Int):=by omega
  rw [ei]
  have hlk:=mj kvs prs[i].1 prs[i].2
  refine ih (i + 1) (putK kvs prs[i].1 prs[i].2) _ _ (by omega) hlt I2 dg ?_ ?_ (hit1.extBut sb2.extBut nDi) ?_ (by omega) (fun s' I'=>k s' ?_)
  .rcases hq with (hq | ⟨o,hq⟩) | hq
   .exact .inl (.inl (by rw [bh (Bc hq hD (by intro z; cases z))]; exact hq))
   .exact .inl (.inr ⟨o,by rw [bh (Bc hq hD (by intro z; cases z))]; exact hq⟩)
   .exact .inr hq
  .exact ⟨by rw [bh nDi]; exact hf.1,hf.2⟩
  .intro j kk vv e
   obtain ⟨p,h1,h2⟩:=hp j kk vv e
   exact ⟨p,h1,by rw [bh (nDt p _ h2)]; exact h2⟩
  .rw [CP] at I'
   rw [List.drop_eq_getElem_cons hlp]
   exact I'
theorem tW (hc:X.calm=true):iD X (.type "dict") (fun xs H Q=>∃ l ys prs,xs=[.ref l]/\H l=some (.lst ys)/\List.length prs=List.length ys/\List.length prs<=50000/\
  (∀ (j:Nat) (k:Key) (v:V),prs[j]? = some (k,v)->∃ p:Addr,ys[j]? = some (V.ref p)/\H p=some (.tup [kV k,v]))/\∀ D,H D=none->Q (.ref D) (upd H D (.dK (putAll [] prs)))):=by
 intro pins s σ H xs us Q I r h
 obtain ⟨l,ys,prs,rfl,hl,hlen,hsz,hp,q⟩:=h
 obtain ⟨u,rfl,ru⟩:=vals1 r
 cases ru
 have hh:X.A.handled=none:=I.ok.hd hc
 refine callType_codes (Q₁:=fun obj s₁=>obj = .ref s.heap.objs.size/\s₁={ s with heap:=s.heap.push { cls:=.type "dict",data:=.dict #[] } }) F.kt_called_dict (F.kt_typeCall_dict_1 _) F.entry_dict_init (kt_code_dict_new _ ⟨rfl,rfl⟩) ?_
 rintro obj s₁ ⟨rfl,rfl⟩
 have hD0:H s.heap.objs.size=none:=I.fresh
 have I1:Inv X pins σ (upd H s.heap.objs.size (.dK [])) { s with heap:=s.heap.push { cls:=.type "dict",data:=.dict #[] } }:=I.laid (t':=s.toks) (fun _ _ z=>Heap.get?_push_of_some _ z) (Nat.le_refl _) (HB s.heap I.big)
 have hnew:(s.heap.push { cls:=.type "dict",data:=.dict #[] }).DictOf (cU X.prog X.w) s.heap.objs.size []:=Heap.DictOf.new s.heap
 have nl:l≠s.heap.objs.size:=bN hl hD0
 have hl1:(upd H s.heap.objs.size (.dK [])) l=some (.lst ys):=by rw [bh nl]; exact hl
 obtain ⟨_,its,n,rv,el⟩:=(show fu X.prog X.w _ _ l (.lst ys) from I1.hok l _ hl1)
 have hTl:({ s with heap:=s.heap.push { cls:=.type "dict",data:=.dict #[] } }:Shared).TypeIs (.ref l) "list" := ⟨_,el,rfl⟩
 refine ⟨hnew.typeIs,F.args_dict_init_2 _ _,?_⟩
 unfold Builtin.«dict.__init__»
 refine wpAny_bind ?_
 unfold Builtin.Dict.selfAndRest
 refine wpAny_bind (wpAny_notOrdered_dict hnew.typeIs ?_)
 show wpAny _ _ (pure (s.heap.objs.size,[Value.ref l])) _ _ _
 refine wpAny_pure ?_
 show wpAny _ _ (Builtin.Dict.updateFrom "dict.__init__" s.heap.objs.size (.ref l) [] .none) _ _ _
 unfold Builtin.Dict.updateFrom
 refine wpAny_bind (wpAny_typeOf hTl ?_)
 rw [if_pos (by decide)]
 refine wpAny_bind (vy (show X.A.in1.in1.handled=none from hh) el fun h2 tk2 old2=>?_)
 rw [if_pos (by rfl)]
 have I2:Inv X pins σ (upd H s.heap.objs.size (.dK [])) { s with heap:=h2,toks:=tk2 }:=I1.kept (t':=tk2) old2
 obtain ⟨its2,rv2,p2,_⟩:=I2.list (SqL.of hl1)
 refine wpAny_bind (wpAny_rule (wpAny_bind (wpAny_pyIter_list p2.isList ?_)))
 have I3:Inv X pins σ (upd H s.heap.objs.size (.dK [])) { s with heap:=h2.push { cls:=.type "list_iterator",data:=.fields #[.ref l,.int 0 0] },toks:=tk2 }:=I2.kept (t':=tk2) fun b o e=>Heap.get?_push_of_some _ e
 have fit:m6 X pins (upd H s.heap.objs.size (.dK [])) h2.objs.size:=I2.fpOk (Nat.le_refl _) (I2.hok.fresh (Nat.le_refl _))
 refine wpAny_pure ⟨plainId_quiet F.plain_dict_update_loop _,?_⟩
 refine DW (A:=X.A.in1) (l:=l) (xs:=ys) (prs:=prs) hh hlen ys.length 0 [] _ _ rfl (Nat.zero_le _) I3 dg (SqL.of hl1) fit ⟨_,Heap.get?_push_size _ rfl,rfl,rfl⟩ ?_ (by simp; omega) fun s' I'=>?_
 .intro j k v e
  obtain ⟨p,h1,h2⟩:=hp j k v e
  exact ⟨p,h1,by rw [bh (bN h2 hD0)]; exact h2⟩
 .rw [CP,List.drop_zero] at I'
  exact ⟨rfl,.ref _,_,I',rfl,q _ hD0⟩
end
theorem Gp {X:Cx} {pins:List (Addr×Obj)} {σ σ':L2.St} {H2 H':Hp} {s2 s':Shared} {fp:List Addr} {N':List Str} {scope:Scope} {D C:Addr} {o:Obj} {ob:HO} (I2:Inv X pins σ H2 s2) (f2:∀ b∈fp,m6 X pins H2 b)
  (hD:s2.heap.objs.size<=D) (hC:s2.heap.objs.size<=C) (hDC:D≠C) (I':Inv (gV X N' scope C s2 H2 fp) [(D,o)] σ' H' s') (new:∀ h',h'.get? D=some o->fu X.prog X.w (upd H' D ob) h' D ob)
  (h':Heap) (sb:Heap.SameBut C s'.heap h'):Inv X pins σ (upd H' D ob) { s' with heap:=h' }:=by
 obtain ⟨eD,nD,_,nfD,_⟩:=I'.pin (D,o) (List.mem_append_right _ List.mem_cons_self)
 refine I2.call' (ch:=fp) I'.os ?_ ?_ I'.bare (fun b hb=>⟨(f2 b hb).2.2.2.1,(f2 b hb).2.1,(f2 b hb).2.2.2.2.1,(f2 b hb).2.2.2.2.2⟩)
 .have ne:∀ b o,s2.heap.get? b=some o->b≠C/\b≠D:=fun b o e=>⟨Nat.ne_of_lt (Nat.lt_of_lt_of_le (Heap.lt_size e) hC),Nat.ne_of_lt (Nat.lt_of_lt_of_le (Heap.lt_size e) hD)⟩
  refine ⟨fun b o e n hb he=>sb.extBut b o (ne b o e).1 (I'.base.keep b o e n hb he),fun b o e n hb he=>?_,fun b o e n he=>?_,fun b o e he=>?_,fun b xs e=>?_,fun b o u e=>?_,fun b ps e=>?_⟩
  .obtain ⟨sl,e1⟩:=I'.base.slot b o e n hb he
   exact ⟨sl,sb.extBut b _ (ne b o e).1 e1⟩
  .rw [bh (ne b o e).2]
   exact I'.base.free b o e n he
  .obtain ⟨o',e1⟩:=I'.base.there b o e he
   exact ⟨o',sb.extBut b _ (ne b o e).1 e1⟩
  .have e1:=I'.base.tups b xs e
   rw [bh (bN e1 nD)]
   exact e1
  .have e1:=I'.base.frzs b o u e
   rw [bh (bN e1 nD)]
   exact e1
  .obtain ⟨more,e1⟩:=I'.base.tbls b ps e
   refine ⟨more,?_⟩
   rw [bh (bN e1 nD)]
   exact e1
 .intro b u e
  by_cases hb:b=D
  .subst hb
   rw [dg] at e
   cases e
   exact new h' (sb.extBut _ _ hDC eD)
  .rw [bh hb] at e
   have nC:∀ b u,H' b=some u->b≠C:=fun b u e z=>by
    have hf:H' C=none:=I'.free
    rw [z,hf] at e
    cases e
   refine (I'.hok b u e).stay (fun c v hc q=>sb.extBut c v ?_ q) (fun c q=>by rw [bh (bN q nD)]; exact q) fun c xs q=>by rw [bh (bN q nD)]; exact q
   rcases hc with z | z
   .rw [z]
    exact nC b u e
   .exact nC c _ z
section
variable {X:Cx} {elt kx vx target iter:Expr} {ifs:List Expr} {scope:Scope} {pos pos' pos2:Pos} {N':List Str} {cap:List (Option Nat)} {wi:TI} {g:TG} {tt:TT} {te tk tv:TE}
theorem Km {pins:List (Addr×Obj)} {σ σ':L2.St} {H2 H':Hp} {s2 s':Shared} {fp:List Addr} {D C:Addr} {o:Obj} {ob:HO} {i:Nat} {x:Str} {Dn:Ends} (I2:Inv X pins σ H2 s2) (f2:∀ b∈fp,m6 X pins H2 b)
  (hD:s2.heap.objs.size<=D) (hC:s2.heap.objs.size<=C) (hDC:D≠C) (I':Inv (gV X N' scope C s2 H2 fp) [(D,o)] σ' H' s') (new:∀ h',h'.get? D=some o->fu X.prog X.w (upd H' D ob) h' D ob)
  (hN:X.N.Nodup) (hi:X.N[i]? = some x) (hx:Loc X.env.scope x) (hf:X.fn x=true∨X.env.scope.names.lookup x=some .local) (q:Dn.nx (σ.set i (some (.ref D))) (upd H' D ob)) :
  wpAny (model X.prog X.w) X.A (assignAll (.ref D) ((assignEach [.Name x pos'] X.env).map (·.2))) (fun _ s''=>∃ m,s''.heap.Ns C m/\∀ h',Heap.SameBut C s''.heap h'->SP X pins Dn .next { s'' with heap:=h' }) X.xe s':=by
 have I3:Inv X pins σ (upd H' D ob) s':=Gp I2 f2 hD hC hDC I' new s'.heap ⟨rfl,fun _ _=>rfl⟩
 obtain ⟨m,hns,_⟩:=I'.loc
 obtain ⟨nD1,nD,_,nfD,_⟩:=I'.pin (D,o) (List.mem_append_right _ List.mem_cons_self)
 have hns:s'.heap.Ns C m:=hns
 have hC0:upd H' D ob C=none:=by
  rw [bh (Ne.symm hDC)]
  exact I'.free
 obtain ⟨f0,f1,f2',f3,f4,f5⟩:=I2.fpOk hC (I2.hok.fresh hC)
 have fC:m6 X pins (upd H' D ob) C:=⟨hC0,f1,f2',f3,f4,f5⟩
 obtain ⟨oC,es,ep,gC,dC,k1,k2⟩:=hns
 have I4:=I3.pinned (fp:=[C]) (fun b hb=>by rw [List.mem_singleton.mp hb]; exact fC) fun b hb=>⟨oC,by rw [List.mem_singleton.mp hb]; exact gC,fun v z=>by rw [dC] at z; cases z⟩
 have ea:assignAll (.ref D) ((assignEach [.Name x pos'] X.env).map (·.2))=assign (.Name x pos') X.env (.ref D):=by
  unfold assignAll
  simp [assignEach]
 rw [ea]
 refine wpAny_assign_Name (mR I4 hN hi hx (v:=.ref D) rfl (fun s'' I5=>⟨m,?_,fun h' sb=>?_⟩) hf)
 .exact ⟨oC,es,ep,(I5.pin (C,oC) (List.mem_append_right _ (List.mem_append_right _ (jK (List.mem_singleton.mpr rfl) gC)))).1,dC,k1,k2⟩
 .exact ⟨_,_,I5.unpinned.turned (t':=s''.toks) (fun b o hb e=>sb.extBut b o hb e) hC0 f1 f3 f4 f5,q⟩
theorem Iu {i:Nat} {x:Str} (hx:X.xe=NoX) (hc:X.calm=true) (hN:X.N.Nodup) (hi:X.N[i]? = some x) (hl:Loc X.env.scope x) (O:gU X.env.scope X.N N' scope cap) (hit:PI X target iter wi)
  (hg:∀ C s₂ H fp,PG (gV X N' scope C s₂ H fp) target g) (ht:∀ C s₂ H fp,PTs (gV X N' scope C s₂ H fp) ifs tt) (he:∀ C s₂ H fp,PE (gV X N' scope C s₂ H fp) elt te)
  (hw:swapsWith (.ListComp elt [⟨target,iter,ifs,0⟩] scope pos) (some (.Name x pos')) pos2.line X.env=pure true:=by rfl) (hs:∀ x,foldedSetIterable iter X.env x=pure x:=by intro _; rfl)
  (hf:X.fn x=true∨X.env.scope.names.lookup x=some .local:=by first | exact .inl rfl | exact .inr rfl | assumption):PS X (.Assign [.Name x pos'] (.ListComp elt [⟨target,iter,ifs,0⟩] scope pos) pos2) (Je (Cy cap wi g tt te) (wB i)):=by
 intro pins s σ H Dn I h
 rw [exec_Assign_arm]
 refine wpAny_bind (wpAny_standAt ?_)
 rw [show swapsWithSole [.Name x pos'] (.ListComp elt [⟨target,iter,ifs,0⟩] scope pos) pos2.line X.env=pure true from hw]
 refine wpAny_bind (wpAny_pure ?_)
 rw [if_pos rfl,arm_evalThenUse_ListComp]
 refine wpAny_bind (wpAny_bind (wpAny_comprehension_free (use:=some _) rfl hs (pN fun y hy hk=>I.ok.has y.1 (O.free y hy hk)) O.kind O.nm (thn (hit pins s σ H _ I h) fun v s1 h1=>thn h1 fun itv s2 h2=>?_)))
 obtain ⟨it,fp,tn,J,H2,e,I2,T,st2,f2,cw⟩:=h2
 subst e
 refine uh (RR:=fun acc C=>compPost (model X.prog X.w) X.A X.xe (some _) _ acc C) hc O I2 T st2 f2 (fun C=>hg C _ _ _) (fun C=>ht C _ _ _) (fun C=>he C _ _ _) cw ?_
 intro D C s' H' ys its n σ' hD hC hDC I' rv q
 obtain ⟨hz,q⟩:=q
 have nD:=(I'.pin (D,lobj its n) (List.mem_append_right _ List.mem_cons_self)).2.1
 refine thn (Km (ob:=.lst ys) (Dn:=Dn) (pos':=pos') I2 f2 hD hC hDC I' (fun h' e=>⟨hz,its,n,rv,e⟩) hN hi hl hf (q D nD)) fun _ s'' ⟨m,h1,h2⟩=>⟨m,h1,fun h' sb=>wpAny_pure (wpAny_pure (h2 h' sb))⟩
end
mutual
def pyD:Dt->PyData
 | .non=>.none
 | .bl b=>.bool b
 | .int i=>.int i
 | .str x=>.str x
 | .lst ds=>.list (pyL ds)
 | .tup ds=>.tuple (pyL ds)
def pyL:List Dt->List PyData
 | []=>[]
 | d :: r=>pyD d :: pyL r
end
mutual
theorem noDict:∀ d:Dt,PyData.hasDict (pyD d)=false
 | .non=>by simp [pyD,PyData.hasDict]
 | .bl _=>by simp [pyD,PyData.hasDict]
 | .int _=>by simp [pyD,PyData.hasDict]
 | .str _=>by simp [pyD,PyData.hasDict]
 | .lst ds=>by simp [pyD,PyData.hasDict,xu ds]
 | .tup ds=>by simp [pyD,PyData.hasDict,xu ds]
theorem xu:∀ ds:List Dt,PyData.hasDictAll (pyL ds)=false
 | []=>by simp [pyL,PyData.hasDictAll]
 | d :: r=>by simp [pyL,PyData.hasDictAll,noDict d,xu r]
end
mutual
theorem zA {X:Cx} {pins:List (Addr×Obj)} {σ:L2.St} {H:Hp} {s:Shared} (I:Inv X pins σ H s):∀ (d:Dt) (x:V) (u:Value),Brs X.K H d x->RelV x u->∃ as,Reads s.heap u (pyD d) as
 | .non,x,u,h,r=>by simp only [Brs] at h; subst h; cases (show u=Value.none from r); exact ⟨_,.none⟩
 | .bl b,x,u,h,r=>by simp only [Brs] at h; subst h; cases (show u=Value.bool b from r); exact ⟨_,.bool b⟩
 | .int i,x,u,h,r=>by simp only [Brs] at h; subst h; obtain ⟨t,rfl⟩:=(show ∃ t,u=Value.int i t from r); exact ⟨_,.int i t⟩
 | .str y,x,u,h,r=>by simp only [Brs] at h; subst h; obtain ⟨t,rfl⟩:=(show ∃ t,u=Value.str y t from r); exact ⟨_,.str y t⟩
 | .lst ds,x,u,h,r=>by
  simp only [Brs] at h
  obtain ⟨a,xs,rfl,hq,hb⟩:=h
  cases (show u=Value.ref a from r)
  obtain ⟨its,rv,p,_⟩:=I.list hq
  obtain ⟨as,ha⟩:=rC I ds xs its hb rv
  obtain ⟨o,h1,h2,n,h3⟩:=p.isList
  exact ⟨_,.list h1 h2 h3 ha⟩
 | .tup ds,x,u,h,r=>by
  simp only [Brs] at h
  obtain ⟨a,xs,rfl,hq,hb⟩:=h
  cases (show u=Value.ref a from r)
  obtain ⟨its,rv,p,_⟩:=I.tuple hq
  obtain ⟨as,ha⟩:=rC I ds xs its hb rv
  obtain ⟨o,h1,h2,n,h3⟩:=p
  exact ⟨_,.tuple h1 h2 h3 ha⟩
theorem rC {X:Cx} {pins:List (Addr×Obj)} {σ:L2.St} {H:Hp} {s:Shared} (I:Inv X pins σ H s):∀ (ds:List Dt) (xs:List V) (us:List Value),j8 X.K H ds xs->Vals xs us->∃ as,ReadsAll s.heap us (pyL ds) as
 | [],xs,us,h,r=>by simp only [j8] at h; subst h; cases r; exact ⟨_,.nil⟩
 | d :: ds,xs,us,h,r=>by
  simp only [j8] at h
  obtain ⟨x,ys,rfl,h1,h2⟩:=h
  cases r with
  | cons p q=>
   obtain ⟨as,ha⟩:=zA I d x _ h1 p
   obtain ⟨bs,hb⟩:=rC I ds ys _ h2 q
   exact ⟨_,.cons ha hb⟩
end
end Jb
namespace PySem
open PySem.Builtin PySem.Builtin.SmallTypes
def xJ (id:String):Builtin:=fun args=>do
 let x ← slotArgs "__next__" 0 args
 match x with
 | (self,snd)=>do
  let seq ← field self 0
  let jp:Unit->Sem PySem.Fin:=fun _=>do
   let y ← field self 1
   match y with
   | Value.int i tok=>do
    let z ← seqItems? seq
    match z with
    | some xs=>
     match xs[i.toNat]? with
     | some v=>do
      setField self 1 (rawInt (i + 1))
      ret v
     | none=>do
      rule (toString id++toString ".end")
      setField self 0 Value.none
      stopIteration
    | _=>unsupported (toString "internal:" ++ toString id)
   | _=>unsupported (toString "internal:" ++ toString id)
  if (seq == Value.none)=true then do
   rule (toString id++toString ".ended")
   let r ← stopIteration
   jp r
  else jp ()
theorem rW:Builtin.«tuple_iterator.__next__» = xJ "tuple_iterator.__next__" := rfl
section
variable {prog:Program} {w:World} {A:Around} {E:Value->Shared->Prop} {it t:Addr} {i:Nat} {items:Array Value} {h:Heap} {g:Array GenState} {d:Drawn} {tk:Nat} {os:OsState}
theorem qy {x:Value} {Q:Value->Shared->Prop} (st:h.IsTupleIter it t i) (p:h.IsTuple t items) (hx:items[i]? = some x)
  (hq:∀ h',h'.IsTupleIter it t (i + 1)->Heap.SameBut it h h'->Q x ⟨h',g,d,tk,os⟩):wpAny (model prog w) A (Builtin.SmallTypes.nextOf (.ref it)) Q E ⟨h,g,d,tk,os⟩:=by
 have hT:(⟨h,g,d,tk,os⟩:Shared).TypeIs (.ref it) "tuple_iterator" := st.typeIs
 unfold Builtin.SmallTypes.nextOf
 refine wpAny_bind (wpAny_callSpecial?_slot hT F.slot_tuple_iterator_next ?_)
 obtain ⟨o,ho,hc,hd⟩:=st
 obtain ⟨ot,h1,h2,n,h3⟩:=p
 repeat (any_goals (first | assumption | wp_step))
 refine codeAny_call_builtin F.slot_tuple_iterator_next.plain F.entry_tuple_iterator_next (F.slot_tuple_iterator_next.check _ _ _ _ _ _ _ _ hT (F.args_tuple_iterator_next_1 _) ?_)
 rw [rW]
 unfold xJ
 repeat (any_goals (first | assumption | wp_step))
 rw [hd]
 refine wpAny_pure (wpAny_pure ?_)
 show wpAny _ _ (if (Value.ref t == Value.none)=true then _ else _) _ _ _
 rw [show (Value.ref t == Value.none)=false from rfl,if_neg Bool.false_ne_true]
 repeat (any_goals (first | assumption | wp_step))
 rw [hd]
 refine wpAny_pure (wpAny_pure ?_)
 show wpAny _ _ (seqItems? (Value.ref t) >>= _) _ _ _
 refine wpAny_bind (wpAny_seqItems h1 h3 ?_)
 dsimp only
 have hi:(i:Int).toNat=i:=Int.toNat_natCast i
 rw [hi,hx]
 dsimp only
 refine wpAny_bind (wpAny_setField ho hd (by show 1 < 2; decide) ?_)
 refine wpAny_pure ?_
 dsimp only
 refine wpAny_pure (hq _ ?_ ⟨Heap.size_update ..,fun b hb=>Heap.get?_update_other h _ (Ne.symm hb)⟩)
 refine ⟨_,Heap.get?_update_self _ ho (Obj.isFreed_of_fields (Obj.data_mapFields hd _)),(Obj.cls_mapFields ..).trans hc,?_⟩
 rw [Obj.data_mapFields hd]
 have e1:(((i + 1:Nat)):Int)=(i:Int) + 1:=by omega
 rw [e1]
 rfl
theorem GF {α:Type} {Q:α->Shared->Prop} (hh:A.handled=none)
  (hq:∀ h' e,(∀ b o,h.get? b=some o->h'.get? b=some o)->(∃ o,h'.get? e=some o/\o.cls = .type "StopIteration")->E (.ref e) ⟨h',g,d,tk,os⟩):wpAny (model prog w) A (stopIteration:Sem α) Q E ⟨h,g,d,tk,os⟩:=by
 unfold stopIteration
 repeat (any_goals (first | assumption | wp_step))
 unfold raiseNew
 refine wpAny_bind (wpAny_handled ?_)
 rw [hh]
 dsimp only
 exact wpAny_throw (hq _ _ (fun b o e=>Heap.get?_push_of_some _ (Heap.get?_push_of_some _ e)) ⟨_,Heap.get?_push_size _ rfl,rfl⟩)
theorem mU {Q:Value->Shared->Prop} (hh:A.handled=none) (st:h.IsTupleIter it t i) (p:h.IsTuple t items) (hx:items[i]? = none)
  (hq:∀ h' e,Heap.ExtBut it h h'->(∃ o,h'.get? e=some o/\o.cls = .type "StopIteration")->E (.ref e) ⟨h',g,d,tk,os⟩):wpAny (model prog w) A (Builtin.SmallTypes.nextOf (.ref it)) Q E ⟨h,g,d,tk,os⟩:=by
 have hT:(⟨h,g,d,tk,os⟩:Shared).TypeIs (.ref it) "tuple_iterator" := st.typeIs
 unfold Builtin.SmallTypes.nextOf
 refine wpAny_bind (wpAny_callSpecial?_slot hT F.slot_tuple_iterator_next ?_)
 obtain ⟨o,ho,hc,hd⟩:=st
 obtain ⟨ot,h1,h2,n,h3⟩:=p
 repeat (any_goals (first | assumption | wp_step))
 refine codeAny_call_builtin F.slot_tuple_iterator_next.plain F.entry_tuple_iterator_next (F.slot_tuple_iterator_next.check _ _ _ _ _ _ _ _ hT (F.args_tuple_iterator_next_1 _) ?_)
 rw [rW]
 unfold xJ
 repeat (any_goals (first | assumption | wp_step))
 rw [hd]
 refine wpAny_pure (wpAny_pure ?_)
 show wpAny _ _ (if (Value.ref t == Value.none)=true then _ else _) _ _ _
 rw [show (Value.ref t == Value.none)=false from rfl,if_neg Bool.false_ne_true]
 repeat (any_goals (first | assumption | wp_step))
 rw [hd]
 refine wpAny_pure (wpAny_pure ?_)
 show wpAny _ _ (seqItems? (Value.ref t) >>= _) _ _ _
 refine wpAny_bind (wpAny_seqItems h1 h3 ?_)
 dsimp only
 have hi:(i:Int).toNat=i:=Int.toNat_natCast i
 rw [hi,hx]
 dsimp only
 refine wpAny_bind (wpAny_rule ?_)
 refine wpAny_bind (wpAny_setField ho hd (by show 0 < 2; decide) ?_)
 refine GF (show A.in1.handled=none from hh) fun h' e old he=>?_
 exact hq h' e (fun b ob hb hg=>old b ob ((Heap.get?_update_other h _ (Ne.symm hb)).trans hg)) he
theorem Draws.tuple (hh:A.handled=none) (it t:Addr) (hne:t≠it) (items:Array Value):Draws prog w A it [it,t] items.size (fun i v=>items[i]? = some v) fun i h=>h.IsTupleIter it t i/\h.IsTuple t items where
 live:=fun i h st=>let ⟨o,ho,_⟩:=st.1; ⟨o,ho⟩
 frame:=fun i h h' st k=>⟨st.1.at fun o e=>k it (by simp) o e,let ⟨o,h1,h2⟩:=st.2; ⟨o,k t (by simp) o h1,h2⟩⟩
 item:=fun i s Q E hi st k=>by
  obtain ⟨h,g,d,tk,os⟩:=s
  refine qy st.1 st.2 (x:=items[i]) (by simp [hi]) fun h' st' sb=>k _ h' tk (by simp [hi]) ⟨st',?_⟩ sb
  obtain ⟨o,h1,h2⟩:=st.2
  exact ⟨o,(sb.2 t hne).trans h1,h2⟩
 done:=fun s Q E st k=>by
  obtain ⟨h,g,d,tk,os⟩:=s
  exact mU hh st.1 st.2 (by simp) fun h' e eb he=>k h' e eb he
theorem Draws.tupleEnd (hh:A.handled=none) (it t:Addr) (i:Nat) (items:Array Value) (hx:items[i]? = none):Draws prog w A it [it,t] i (fun _ _=>False) fun j h=>j=i/\h.IsTupleIter it t i/\h.IsTuple t items where
 live:=fun j h st=>let ⟨o,ho,_⟩:=st.2.1; ⟨o,ho⟩
 frame:=fun j h h' st k=>⟨st.1,st.2.1.at fun o e=>k it (by simp) o e,let ⟨o,h1,h2⟩:=st.2.2; ⟨o,k t (by simp) o h1,h2⟩⟩
 item:=fun j s Q E hj st k=>absurd st.1 (Nat.ne_of_lt hj)
 done:=fun s Q E st k=>by
  obtain ⟨h,g,d,tk,os⟩:=s
  exact mU hh st.2.1 st.2.2 hx fun h' e eb he=>k h' e eb he
theorem uy {Q:PySem.Fin->Shared->Prop} (hp:h.IsTuple t items)
  (hq:Q (.done (.ret (.ref (h.objs.size + 1)))) ⟨(h.push { cls:=.type "tuple_iterator",data:=.fields #[.ref t,.int 0 0] }).push { cls:=.type "enumerate",data:=.fields #[.none,.bool false,.ref h.objs.size,rawInt 0,.none,.none] },g,d,tk,os⟩) :
  wpAny (model prog w) A (Builtin.«enumerate.__new__» ⟨[.type "enumerate",.ref t],[]⟩) Q E ⟨h,g,d,tk,os⟩:=by
 have f1:=sub_enumerate
 repeat (any_goals (first | assumption | wp_step))
 refine wpAny_stack fun st _ _ _=>?_
 refine wpAny_pure ?_
 have key:wpAny (model prog w) A (do let it ← pyIter (.ref t); let r ← Builtin.SmallTypes.newRecord (Value.type "enumerate") (Builtin.SmallTypes.ownedTupleFields++[it,rawInt 0,Value.none,Value.none]); ret r) Q E ⟨h,g,d,tk,os⟩:=by
  refine wpAny_bind (wpAny_pyIter_tuple hp ?_)
  repeat (any_goals (first | assumption | wp_step))
  rw [Heap.size_push]
  exact hq
 dsimp only
 split
 .split
  .refine wpAny_bind (wpAny_of_eq (a:=(Value.ref t,none)) (by rfl) ?_)
   exact key
  .refine wpAny_bind (wpAny_of_eq (a:=(Value.ref t,none)) (by rfl) ?_)
   exact key
 .rw [if_neg (by decide)]
  refine wpAny_bind (wpAny_of_eq (a:=(Value.ref t,none)) (by rfl) ?_)
  exact key
theorem oY {Q:Value->Shared->Prop} (hp:h.IsTuple t items)
  (hq:∀ h',IsEnum h' (h.objs.size + 1) h.objs.size 0 .none->h'.IsTupleIter h.objs.size t 0->h'.objs.size=h.objs.size + 2->(∀ b o,h.get? b=some o->h'.get? b=some o)->Q (.ref (h.objs.size + 1)) ⟨h',g,d,tk,os⟩) :
  wpAny (model prog w) A (call (.type "enumerate") [.ref t]) Q E ⟨h,g,d,tk,os⟩:=by
 have e1:((h.push { cls:=.type "tuple_iterator",data:=.fields #[.ref t,.int 0 0] }).push { cls:=.type "enumerate",data:=.fields #[.none,.bool false,.ref h.objs.size,rawInt 0,.none,.none] }).get? (h.objs.size + 1)=some { cls:=.type "enumerate",data:=.fields #[.none,.bool false,.ref h.objs.size,rawInt 0,.none,.none] }:=by
  rw [← Heap.size_push h { cls:=.type "tuple_iterator",data:=.fields #[.ref t,.int 0 0] }]
  exact Heap.get?_push_size _ rfl
 refine callType_newIn F.called_enumerate (by decide) (F.typeCall_enumerate_1 _) (F.newCall_enumerate_1 _) (fun obj=>F.args_object_init_2 _ _) F.entry_enumerate_new (S:=fun A' R s'=>s'=⟨h,g,d,tk,os⟩/\R (.ok (.ret (.ref (h.objs.size + 1)))) ⟨(h.push { cls:=.type "tuple_iterator",data:=.fields #[.ref t,.int 0 0] }).push { cls:=.type "enumerate",data:=.fields #[.none,.bool false,.ref h.objs.size,rawInt 0,.none,.none] },g,d,tk,os⟩) ?_ ⟨rfl,⟨⟨_,e1,rfl⟩,hq _ e1 ⟨_,Heap.get?_push_of_some _ (Heap.get?_push_size _ rfl),rfl,rfl⟩ (by rw [Heap.size_push,Heap.size_push]) fun b o e=>Heap.get?_push_of_some _ (Heap.get?_push_of_some _ e)⟩⟩
 rintro A' R s' ⟨rfl,hR⟩
 exact uy hp hR
end
end PySem
namespace Jb
open PySem PySem.Spec PyProof.Rows L2
def Oz (K:PySem.W.Frag) (a:Addr):It:=
 ⟨fun i H=>∃ xs x,SqT K H a xs/\xs[i]? = some x,fun i H x H'=>∃ p v,H p=none/\x = .ref p/\(∀ xs,SqT K H a xs->xs[i]? = some v)/\H'=upd H p (.tup [.int i,v]),fun i H=>∃ xs,SqT K H a xs/\xs.length<=i⟩
theorem zJ {P:Program} {w:World} {K:PySem.W.Frag} {elts:List Expr} {x1} {pos:Pos} (a e it:Addr) (hne:e≠it) (hea:e≠a) (hia:it≠a) :
  Turn P w K (.Tuple elts x1 pos) (Oz K a) [e,it] e (fun i h=>(∃ old,IsEnum h e it (i:Int) old)/\h.IsTupleIter it a i) where
 mem:=by simp
 obj:=fun i h st b hb=>by
  obtain ⟨⟨old,he⟩,o,ho,c,d⟩:=st
  rcases List.mem_cons.mp hb with z | z
  .subst z
   exact ⟨_,he,fun v z=>by cases z⟩
  .have z:b=it:=by simpa using z
   subst z
   exact ⟨o,ho,fun v z=>by rw [d] at z; cases z⟩
 keep:=fun i h h' st k=>by
  obtain ⟨⟨old,he⟩,hit⟩:=st
  exact ⟨⟨old,k e (by simp) _ he⟩,hit.at fun o q=>k it (by simp) o q⟩
 item:=by
  intro X hP hw hK hc i pins s σ H E I hf st hg
  subst hP hw hK
  obtain ⟨xs,x,hq,hx⟩:=hg
  obtain ⟨its,rv,p,hz⟩:=I.tuple hq
  obtain ⟨u,hu,ru⟩:=rv.get hx
  obtain ⟨⟨old,he⟩,hit⟩:=st
  have hil:i < its.toArray.size:=by simp; exact (List.getElem?_eq_some_iff.mp hu).1
  have p':s.heap.IsTuple a its.toArray:=p
  refine wpAny_pyNext_enum_itemD (Draws.tuple (show X.A.in1.handled=none from I.ok.hd hc) it a (Ne.symm hia) its.toArray) he ⟨hit,p'⟩ hil hne (fun z=>by rcases List.mem_cons.mp z with q | q; exact hne q; exact hea (List.mem_singleton.mp q)) fun y h1 tk hy ho1 hit1 ht1 hsz1 k1=>?_
  have ey:y=u:=by
   have:its[i]? = some y:=by simpa using hy
   rw [hu] at this
   exact (Option.some.inj this).symm
  subst ey
  refine ⟨.ref s.heap.objs.size,rfl,wpAny_letOwnedTupleGo_enum ho1 fun h2 he2 sb2=>?_⟩
  have hel:e < s.heap.objs.size:=Heap.lt_size he
  have hpe:s.heap.objs.size≠e:=Nat.ne_of_gt hel
  have ht2:h2.get? s.heap.objs.size=some { cls:=.type "tuple",data:=.seq #[.int i tk,y] }:=sb2.extBut _ _ hpe ht1
  have I2:Inv X pins σ (upd H s.heap.objs.size (.tup [.int i,x])) { s with heap:=h2,toks:=tk + 1 }:=by
   refine yP (fp:=[e,it]) (t':=tk + 1) I hf (fun b o hb q=>?_) (Nat.le_refl _) ?_
   .have n1:b≠e:=fun z=>hb (by simp [z])
    have n2:b≠it:=fun z=>hb (by simp [z])
    exact sb2.extBut b o n1 (k1 b o n1 n2 q)
   .exact ⟨by show 2<=sizeLine; decide,[.int i tk,y],.cons ⟨_,rfl⟩ (.cons ru .nil),_,ht2,rfl,_,rfl⟩
  refine ⟨.ref s.heap.objs.size,upd H s.heap.objs.size (.tup [.int i,x]),I2,rfl,⟨_,x,I.hok.fresh (Nat.le_refl _),rfl,fun ys hy=>by rw [I.tuple_inj hy hq]; exact hx,rfl⟩,?_,fun b hb=>?_⟩
  .refine ⟨⟨y,?_⟩,hit1.1.extBut sb2.extBut (Ne.symm hne)⟩
   have e1:(((i + 1:Nat)):Int)=(i:Int) + 1:=by omega
   rw [e1]
   exact he2
  .rw [bh]
   .exact (hf b hb).1
   .intro z
    rw [z] at hb
    rcases List.mem_cons.mp hb with q | q
    .exact hpe q
    .have q:s.heap.objs.size=it:=by simpa using q
     obtain ⟨o,ho,_⟩:=hit
     exact absurd (Heap.lt_size ho) (by rw [q]; exact Nat.lt_irrefl _)
 done:=by
  intro X hP hw hK hc i pins s σ H E I hf st hg
  subst hP hw hK
  obtain ⟨xs,hq,hx⟩:=hg
  obtain ⟨its,rv,p,hz⟩:=I.tuple hq
  obtain ⟨⟨old,he⟩,hit⟩:=st
  have hl:=rv.length
  have p':s.heap.IsTuple a its.toArray:=p
  refine wpAny_pyNext_enum_endD (Draws.tupleEnd (show X.A.in1.handled=none from I.ok.hd hc) it a i its.toArray (by simp; omega)) he ⟨rfl,hit,p'⟩ fun h1 eb=>⟨rfl,?_⟩
  exact o4 (fp:=[e,it]) (t':=s.toks) I hf fun b o hb q=>eb b o (fun z=>hb (by simp [z])) q
 self:=fun A i s Q E st h=>by
  obtain ⟨⟨old,he⟩,_⟩:=st
  exact wpAny_pyIter_enum he h
section
variable {X:Cx} {elts:List Expr} {x1:Nat} {tpos:Pos} {tg e:Expr} {te:TE}
def Ft (K:PySem.W.Frag) (ta:TA):TI:=fun σ H R=>ta σ H fun vs H1=>∃ a,vs=[.ref a]/\(((∃ xs,SqL K H1 a xs)/\R (Ite K a) H1)∨((∃ xs,SqT K H1 a xs)/\R (Oz K a) H1))
theorem G3 {a:Expr} {ta:TA} {p pos:Pos} {x1} (hg:Gl X "enumerate") (hm:X.mg "enumerate" = none) (ha:PA X [a] ta) (hs:starEach [a] X.env=[(false,eval a X.env)]:=by rfl):PI X (.Tuple elts x1 tpos) (.Call (.Name "enumerate" p) [a] [] pos) (Ft X.K ta):=by
 intro pins s σ H R I h
 refine Call_ (pX I hg hm boot_enumerate (PyProof.Rows.callWith_type1 (thn (ha pos pins s σ H _ I h) fun us s1 ⟨vs,H1,I1,r1,q1⟩=>?_) hs rfl))
 obtain ⟨l,e,q⟩:=q1
 subst e
 obtain ⟨u,rfl,ru⟩:=vals1 r1
 cases ru
 have fin:∀ b∈[s1.heap.objs.size + 1,s1.heap.objs.size],m6 X pins H1 b:=fun b hb=>by
  have hb2:s1.heap.objs.size<=b:=by
   rcases List.mem_cons.mp hb with z | z
   .rw [z]; exact Nat.le_succ _
   .have z:b=s1.heap.objs.size:=by simpa using z
    rw [z]; exact Nat.le_refl _
  exact I1.fpOk hb2 (I1.hok.fresh hb2)
 rcases q with ⟨⟨xs,hq⟩,q⟩ | ⟨⟨xs,hq⟩,q⟩
 .obtain ⟨its,rv,pl,hz⟩:=I1.list hq
  refine call_enumerate_list pl.isList fun h1 he hit hsz k1=>?_
  have I2:Inv X pins σ H1 { s1 with heap:=h1 }:=I1.kept (t':=s1.toks) k1
  refine wpAny_pyIter_enum he ?_
  exact ⟨s1.heap.objs.size + 1,[s1.heap.objs.size + 1,s1.heap.objs.size],_,_,H1,rfl,I2,Dg l _ _ (Nat.succ_ne_self _),⟨⟨_,he⟩,hit⟩,fin,q⟩
 .obtain ⟨its,rv,pl,hz⟩:=I1.tuple hq
  have pl':s1.heap.IsTuple l its.toArray:=pl
  have hlt:l < s1.heap.objs.size:=let ⟨_,h1,_⟩:=pl'; Heap.lt_size h1
  obtain ⟨hp,g,d,tk,os⟩:=s1
  refine oY pl' fun h1 he hit hsz k1=>?_
  have I2:Inv X pins σ H1 { heap:=h1,gens:=g,drawn:=d,toks:=tk,os:=os }:=I1.kept (t':=tk) k1
  refine wpAny_pyIter_enum he ?_
  exact ⟨hp.objs.size + 1,[hp.objs.size + 1,hp.objs.size],_,_,H1,rfl,I2,zJ l _ _ (Nat.succ_ne_self _) (Nat.ne_of_gt (Nat.lt_succ_of_lt hlt)) (Nat.ne_of_gt hlt),⟨⟨_,he⟩,hit⟩,fin,q⟩
def N_ (K:PySem.W.Frag) (te:TE):TI:=fun σ H R=>te σ H fun x H1=>∃ a,x = .ref a/\(((∃ xs,SqL K H1 a xs)/\R (Itl K a) H1)∨((∃ xs,SqT K H1 a xs)/\R (Itt K a) H1))
theorem GD (hl:PE X e te):PI X tg e (N_ X.K te):=by
 intro pins s σ H R I h
 refine thn (hl pins s σ H _ I h) fun v s1 ⟨x,H1,I1,r1,q1⟩=>?_
 obtain ⟨a,ex,q⟩:=q1
 subst ex
 cases r1
 have fin:∀ b∈[s1.heap.objs.size],m6 X pins H1 b:=fun b hb=>by
  rw [List.mem_singleton.mp hb]
  exact I1.fpOk (Nat.le_refl _) (I1.hok.fresh (Nat.le_refl _))
 rcases q with ⟨⟨xs,hq⟩,q⟩ | ⟨⟨xs,hq⟩,q⟩
 .obtain ⟨its,rv,p,hz⟩:=I1.list hq
  refine wpAny_pyIter_list p.isList ?_
  exact ⟨s1.heap.objs.size,[s1.heap.objs.size],_,_,H1,rfl,I1.kept (t':=s1.toks) fun b o e=>Heap.get?_push_of_some _ e,Dp a _,⟨_,Heap.get?_push_size _ rfl,rfl,rfl⟩,fin,q⟩
 .obtain ⟨its,rv,p,hz⟩:=I1.tuple hq
  refine wpAny_pyIter_tuple (show s1.heap.IsTuple a its.toArray from p) ?_
  exact ⟨s1.heap.objs.size,[s1.heap.objs.size],_,_,H1,rfl,I1.kept (t':=s1.toks) fun b o e=>Heap.get?_push_of_some _ e,Af a _,⟨_,Heap.get?_push_size _ rfl,rfl,rfl⟩,fin,q⟩
end
section
variable {X:Cx}
def KC (K:PySem.W.Frag) (A:Around):List V->Hp->VK->Prop:=fun xs H Q=>∃ a d,xs=[.ref a]/\Brs K H d (.ref a)/\A.guards=some []/\A.units + ((pyD d).depth + 3) < cLine/\(pyD d).showable=true/\(pyD d).shown.length<=sizeLine/\Q (.str (pyD d).shown) H
theorem Di:iD X (.type "str") (KC X.K X.A):=by
 intro pins s σ H xs us Q I r h
 obtain ⟨a,d,rfl,hb,hg,hu,hsh,hl,q⟩:=h
 obtain ⟨u,rfl,ru⟩:=vals1 r
 cases ru
 obtain ⟨as,ha⟩:=zA I d (.ref a) (.ref a) hb rfl
 exact str_of_reads ha hsh (fun z=>by rw [noDict d] at z; cases z) hg hu (fun _ _ e=>e) (fun h' u tk old=>⟨.str _,H,I.kept (t':=tk) old,⟨_,rfl⟩,q⟩) hl
end
def inK (S:List Key) (k:Key):Bool:=S.any fun x=>decide (x=k)
def mO (S:List Key) (k:Key):List Key:=if inK S k then S else S++[k]
def rB (ks:List Key):List Key:=ks.foldl mO []
theorem xK {S:List Key} {k:Key}:inK S k=true↔k∈S:=by
 unfold inK
 rw [List.any_eq_true]
 constructor
 .rintro ⟨x,h1,h2⟩
  rw [← of_decide_eq_true h2]; exact h1
 .exact fun h=>⟨k,h,by simp⟩
theorem Bh {S:List Key} {k x:Key}:inK (mO S k) x=(inK S x || decide (x=k)):=by
 rw [Bool.eq_iff_iff,Bool.or_eq_true,xK,xK,decide_eq_true_iff]
 unfold mO
 split
 .rename_i h
  rw [xK] at h
  exact ⟨.inl,fun z=>z.elim id fun z=>by rw [z]; exact h⟩
 .simp
theorem oF {S:List Key} {k:Key}:(mO S k).length=if inK S k then S.length else S.length + 1:=by
 unfold mO
 split <;> simp
theorem yr {P:Program} {w:World} {k:Key} {u:Value} (r:RelV (kV k) u):u.scannable=true:=by
 cases k with
 | inl i=>obtain ⟨t,rfl⟩:=r; rfl
 | inr x=>obtain ⟨t,rfl⟩:=r; rfl
section
variable {prog:Program} {w:World}
theorem Gn {S it l:Addr} {its:List Value} {ks:List Key} {A:Around} {R:Result->Shared->Prop} (hh:A.handled=none) (hl:ks.length=its.length) (hk:∀ (j:Nat) (k:Key) (v:Value),ks[j]? = some k->its[j]? = some v->RelV (kV k) v) (hb:its.length + 1 < scanBound) (nS:S≠it) (nl:l≠it) (nlS:l≠S):∀ (m i:Nat) (acc:List Key) (s:Shared),its.length - i=m->i<=its.length->s.heap.IsList l its.toArray->s.heap.IsListIter it l i->s.heap.SetOf (cU prog w) S (inK acc) acc.length->acc.length<=i->
  (∀ h' tk,(∀ b o,b≠S->b≠it->s.heap.get? b=some o->h'.get? b=some o)->h'.SetOf (cU prog w) S (inK ((ks.drop i).foldl mO acc)) ((ks.drop i).foldl mO acc).length->R (.ok (.ret .none)) { s with heap:=h',toks:=tk })->
  codeAny (model prog w) A (.builtin "set.update.loop" ⟨[.ref S,.ref it],[]⟩) R s:=by
 intro m
 induction m with
 | zero=>
  intro i acc s hm hi pl hit hS ha k
  have e:i=its.length:=by omega
  subst e
  refine codeAny_builtin F.entry_set_update_loop ?_
  rw [Around.under_plainId F.plain_set_update_loop _]
  unfold Builtin.«set.update.loop»
  dsimp only
  refine wpAny_bind (wpAny_pyNext_list_end (show A.in1.handled=none from hh) hit pl (by simp) fun h' eb=>?_)
  dsimp only
  refine wpAny_pure (k h' _ (fun b o _ b2 e=>eb b o b2 e) ?_)
  rw [← hl,List.drop_length]
  obtain ⟨o,es,ep,t,ho,rest⟩:=hS
  exact ⟨o,es,ep,t,eb S _ nS ho,rest⟩
 | succ m ih=>
  intro i acc s hm hi pl hit hS ha k
  have hlt:i < its.length:=by omega
  have hlk:i < ks.length:=by omega
  refine codeAny_builtin F.entry_set_update_loop ?_
  rw [Around.under_plainId F.plain_set_update_loop _]
  unfold Builtin.«set.update.loop»
  dsimp only
  refine wpAny_bind (wpAny_pyNext_list_item hit pl (x:=its[i]) (by simp [hlt]) fun h1 hit1 sb1=>?_)
  dsimp only
  have hS1:h1.SetOf (cU prog w) S (inK acc) acc.length:=by
   obtain ⟨o,es,ep,t,ho,rest⟩:=hS
   exact ⟨o,es,ep,t,(sb1.2 S nS).trans ho,rest⟩
  have rk:=hk i ks[i] its[i] (List.getElem?_eq_getElem hlk) (List.getElem?_eq_getElem hlt)
  refine wpAny_bind (wpAny_holding ?_)
  unfold setAdd
  refine wpAny_holding ?_
  refine wpAny_bind ((cU prog w).pyHash (k:=ks[i]) (pO rk) ?_)
  refine wpAny_setAddHashed_of (knd:=cU prog w) (pO rk) (yr (P:=prog) (w:=w) rk) hS1 (by omega) fun h2 sb2 hS2=>?_
  refine wpAny_pure ⟨plainId_quiet F.plain_set_update_loop _,?_⟩
  have hS3:h2.SetOf (cU prog w) S (inK (mO acc ks[i])) (mO acc ks[i]).length:=by
   have e1:(fun k'=>inK acc k' || decide (k'=ks[i]))=inK (mO acc ks[i]):=funext fun k'=>Bh.symm
   rw [← e1,oF]
   exact hS2
  refine ih (i + 1) (mO acc ks[i]) _ (by omega) hlt ?_ ?_ hS3 ?_ fun h' tk kp hS'=>k h' tk (fun b o b1 b2 e=>kp b o b1 b2 ((sb2.2 b b1).trans ((sb1.2 b b2).trans e))) ?_
  .obtain ⟨o,h1',h2'⟩:=pl
   exact ⟨o,(sb2.2 l nlS).trans ((sb1.2 l nl).trans h1'),h2'⟩
  .exact hit1.extBut sb2.extBut (Ne.symm nS)
  .rw [oF]
   split <;> omega
  .rw [List.drop_eq_getElem_cons hlk]
   exact hS'
abbrev jT (led:Bool):Obj:={ cls:=.type "set",dict:=none,data:=.set #[] 0 (.fresh 0 0 led) }
def qZ (prog:Program) (w:World) (s:Shared) (ks:List Key) (s2:Shared):Prop:=∃ h' tk,s2={ s with heap:=h',toks:=tk }/\h'.SetOf (cU prog w) s.heap.objs.size (inK (rB ks)) (rB ks).length/\∀ b o,s.heap.get? b=some o->h'.get? b=some o
theorem El {l:Addr} {its:List Value} {ks:List Key} {A:Around} {s:Shared} {led:Bool} {E:Value->Shared->Prop} (hh:A.handled=none) (hl:ks.length=its.length) (hk:∀ (j:Nat) (k:Key) (v:Value),ks[j]? = some k->its[j]? = some v->RelV (kV k) v) (hb:its.length + 1 < scanBound) (pl:s.heap.IsList l its.toArray) {R:PySem.Fin->Shared->Prop}
  (hR:∀ s2,qZ prog w s ks s2->R (.done (.ret .none)) s2):wpAny (model prog w) A (Builtin.«set.__init__» ⟨[.ref s.heap.objs.size,.ref l],[]⟩) R E { s with heap:=s.heap.push (jT led) }:=by
 obtain ⟨ol,hol,hcl,nl,hdl⟩:=pl
 obtain ⟨ocls,odict,odata,oslots⟩:=ol
 simp only at hcl hdl
 subst hcl hdl
 have hS:(s.heap.push (jT led)).get? s.heap.objs.size=some (jT led):=Heap.get?_push_size _ rfl
 have hT:Shared.TypeIs { s with heap:=s.heap.push (jT led) } (.ref s.heap.objs.size) "set" := ⟨_,hS,rfl⟩
 have hol':(s.heap.push (jT led)).get? l=some { cls:=.type "list",dict:=odict,data:=.seq its.toArray nl,slots:=oslots }:=Heap.get?_push_of_some _ hol
 have hsls:=F.sub_list_set
 have hslf:=F.sub_list_frozenset
 have hne:(Value.type "list" == Value.type "dict")=false:=by decide
 have hl1:(s.heap.push (jT led)).IsList l its.toArray:=⟨_,hol',rfl,nl,rfl⟩
 unfold Builtin.«set.__init__» noKeywords Builtin.Frozenset.updateFrom
 generalize hPI:pyIter=PI
 wp_walk
 subst hPI
 refine wpAny_pyIter_list hl1 ?_
 refine wpAny_bind (wpAny_runValue ?_)
 have hlS:l < s.heap.objs.size:=Heap.lt_size hol
 refine Gn (prog:=prog) (w:=w) (its:=its) (ks:=ks) (A:=A) (S:=s.heap.objs.size) (l:=l) hh hl hk hb ?_ ?_ (Nat.ne_of_lt hlS) (its.length - 0) 0 [] _ rfl (Nat.zero_le _) ?_ ?_ ?_ (Nat.le_refl _) fun h' tk kp hS'=>?_
 .show s.heap.objs.size≠(s.heap.push (jT led)).objs.size
  rw [Heap.size_push]; exact Nat.ne_of_lt (Nat.lt_succ_self _)
 .show l≠(s.heap.push (jT led)).objs.size
  rw [Heap.size_push]; exact Nat.ne_of_lt (Nat.lt_succ_of_lt hlS)
 .exact hl1.push _
 .exact ⟨_,Heap.get?_push_size _ rfl,rfl,rfl⟩
 .have hget:((s.heap.push (jT led)).push { cls:=.type "list_iterator",data:=.fields #[.ref l,.int 0 0] }).get? s.heap.objs.size=some (jT led):=Heap.get?_push_of_some _ hS
  letI:BEq Key:=instBEqOfDecidableEq
  haveI:LawfulBEq Key:=inferInstance
  have e0:(fun _:Key=>false)=inK []:=funext fun _=>rfl
  rw [← e0]
  exact (PyProof.Rows.setObjOf_fresh (knd:=cU prog w) led).setOf hget (by unfold scanBound; omega)
 .refine wpAny_pure ?_
  show wpAny _ _ (ret Value.none) _ _ _
  refine wpAny_pure (hR _ ⟨h',tk,rfl,by rw [List.drop_zero] at hS'; exact hS',fun b o e=>?_⟩)
  have hb0:b < s.heap.objs.size:=Heap.lt_size e
  refine kp b o (Nat.ne_of_lt hb0) ?_ (Heap.get?_push_of_some _ (Heap.get?_push_of_some _ e))
  show b≠(s.heap.push (jT led)).objs.size
  rw [Heap.size_push]; exact Nat.ne_of_lt (Nat.lt_succ_of_lt hb0)
theorem CQ {l:Addr} {its:List Value} {ks:List Key} {A:Around} {s:Shared} {E:Value->Shared->Prop} {Q:Value->Shared->Prop} (hh:A.handled=none) (hlk:ks.length=its.length) (hk:∀ (j:Nat) (k:Key) (v:Value),ks[j]? = some k->its[j]? = some v->RelV (kV k) v) (hb:its.length + 1 < scanBound) (pl:s.heap.IsList l its.toArray)
  (h:∀ s2,qZ prog w s ks s2->Q (.ref s.heap.objs.size) s2):wpAny (model prog w) A (call (.type "set") [.ref l]) Q E s:=by
 obtain ⟨c,tl,hmro⟩:=F.called_set.mro
 have hmade:=F.called_set.made
 have hsub:=F.called_set.sub
 refine wpAny_call (codeAny_of_tree ?_)
 show wpAny _ _ (callAny (.type "set") _) _ _ _
 refine wpAny_pure ⟨Code.quiet_builtin _ (by decide +kernel),codeAny_builtin F.entry_type_call ?_⟩
 rw [Around.under_plain (weight_type_call_type "set" [.ref l] []) rfl]
 have h1:=F.called_set.notType
 have h2:=F.called_set.canCreate
 have hct:=F.typeCall_set_1 (.ref l)
 repeat (any_goals (first | assumption | wp_step))
 refine codeAny_mono (code_set_new_1 (.ref l) (E:=E) (Q₁:=fun obj s₁=>∃ led:Bool,obj = .ref s.heap.objs.size/\s₁={ s with heap:=s.heap.push (jT led) }) fun led=>⟨led,rfl,rfl⟩) fun r s₁ hr=>?_
 cases r with
 | error e=>exact hr
 | ok fl=>
  cases fl with
  | ret obj=>
   obtain ⟨led,rfl,rfl⟩:=hr
   have hS:(s.heap.push (jT led)).get? s.heap.objs.size=some (jT led):=Heap.get?_push_size _ rfl
   have hT:Shared.TypeIs { s with heap:=s.heap.push (jT led) } (.ref s.heap.objs.size) "set" := ⟨_,hS,rfl⟩
   have hli:=F.called_set.init.lookup
   have hbi:=F.called_set.init.bind (.ref s.heap.objs.size)
   repeat (any_goals (first | assumption | wp_step))
   refine codeAny_mono (codeAny_call_builtin (R:=wants (fun r s₂=>r = .none/\qZ prog w s ks s₂) E) F.called_set.init.plain F.entry_set_init (check_set_init_1 hT ?_)) fun r₂ s₂ hr₂=>?_
   .exact El (led:=led) (by simp [hh]) hlk hk hb pl fun s2 hs=>⟨rfl,hs⟩
   .cases r₂ with
    | error e=>exact hr₂
    | ok fl₂=>
     cases fl₂ with
     | ret r=>
      obtain ⟨rfl,hs⟩:=hr₂
      repeat (any_goals (first | assumption | wp_step))
      exact h _ hs
     | _=>exact hr₂.elim
  | _=>exact hr.elim
end
section
variable {prog:Program} {w:World}
theorem CT {S it l:Addr} {its:List Value} {ks:List Key} {A:Around} {R:Result->Shared->Prop} (hh:A.handled=none) (hl:ks.length=its.length) (hk:∀ (j:Nat) (k:Key) (v:Value),ks[j]? = some k->its[j]? = some v->RelV (kV k) v) (hb:its.length + 1 < scanBound) (nS:S≠it) (nl:l≠it) (nlS:l≠S):∀ (m i:Nat) (acc:List Key) (s:Shared),its.length - i=m->i<=its.length->s.heap.IsTuple l its.toArray->s.heap.IsTupleIter it l i->s.heap.SetOf (cU prog w) S (inK acc) acc.length->acc.length<=i->
  (∀ h' tk,(∀ b o,b≠S->b≠it->s.heap.get? b=some o->h'.get? b=some o)->h'.SetOf (cU prog w) S (inK ((ks.drop i).foldl mO acc)) ((ks.drop i).foldl mO acc).length->R (.ok (.ret .none)) { s with heap:=h',toks:=tk })->
  codeAny (model prog w) A (.builtin "set.update.loop" ⟨[.ref S,.ref it],[]⟩) R s:=by
 intro m
 induction m with
 | zero=>
  intro i acc s hm hi pl hit hS ha k
  have e:i=its.length:=by omega
  subst e
  refine codeAny_builtin F.entry_set_update_loop ?_
  rw [Around.under_plainId F.plain_set_update_loop _]
  unfold Builtin.«set.update.loop»
  dsimp only
  refine wpAny_bind (wpAny_pyNext_tuple_end (show A.in1.handled=none from hh) hit pl (by simp) fun h' eb=>?_)
  dsimp only
  refine wpAny_pure (k h' _ (fun b o _ b2 e=>eb b o b2 e) ?_)
  rw [← hl,List.drop_length]
  obtain ⟨o,es,ep,t,ho,rest⟩:=hS
  exact ⟨o,es,ep,t,eb S _ nS ho,rest⟩
 | succ m ih=>
  intro i acc s hm hi pl hit hS ha k
  have hlt:i < its.length:=by omega
  have hlk:i < ks.length:=by omega
  refine codeAny_builtin F.entry_set_update_loop ?_
  rw [Around.under_plainId F.plain_set_update_loop _]
  unfold Builtin.«set.update.loop»
  dsimp only
  refine wpAny_bind (wpAny_pyNext_tuple_item hit pl (x:=its[i]) (by simp [hlt]) fun h1 hit1 sb1=>?_)
  dsimp only
  have hS1:h1.SetOf (cU prog w) S (inK acc) acc.length:=by
   obtain ⟨o,es,ep,t,ho,rest⟩:=hS
   exact ⟨o,es,ep,t,(sb1.2 S nS).trans ho,rest⟩
  have rk:=hk i ks[i] its[i] (List.getElem?_eq_getElem hlk) (List.getElem?_eq_getElem hlt)
  refine wpAny_bind (wpAny_holding ?_)
  unfold setAdd
  refine wpAny_holding ?_
  refine wpAny_bind ((cU prog w).pyHash (k:=ks[i]) (pO rk) ?_)
  refine wpAny_setAddHashed_of (knd:=cU prog w) (pO rk) (yr (P:=prog) (w:=w) rk) hS1 (by omega) fun h2 sb2 hS2=>?_
  refine wpAny_pure ⟨plainId_quiet F.plain_set_update_loop _,?_⟩
  have hS3:h2.SetOf (cU prog w) S (inK (mO acc ks[i])) (mO acc ks[i]).length:=by
   have e1:(fun k'=>inK acc k' || decide (k'=ks[i]))=inK (mO acc ks[i]):=funext fun k'=>Bh.symm
   rw [← e1,oF]
   exact hS2
  refine ih (i + 1) (mO acc ks[i]) _ (by omega) hlt ?_ ?_ hS3 ?_ fun h' tk kp hS'=>k h' tk (fun b o b1 b2 e=>kp b o b1 b2 ((sb2.2 b b1).trans ((sb1.2 b b2).trans e))) ?_
  .obtain ⟨o,h1',h2'⟩:=pl
   exact ⟨o,(sb2.2 l nlS).trans ((sb1.2 l nl).trans h1'),h2'⟩
  .exact hit1.extBut sb2.extBut (Ne.symm nS)
  .rw [oF]
   split <;> omega
  .rw [List.drop_eq_getElem_cons hlk]
   exact hS'
theorem Dq {l:Addr} {its:List Value} {ks:List Key} {A:Around} {s:Shared} {led:Bool} {E:Value->Shared->Prop} (hh:A.handled=none) (hl:ks.length=its.length) (hk:∀ (j:Nat) (k:Key) (v:Value),ks[j]? = some k->its[j]? = some v->RelV (kV k) v) (hb:its.length + 1 < scanBound) (pl:s.heap.IsTuple l its.toArray) {R:PySem.Fin->Shared->Prop}
  (hR:∀ s2,qZ prog w s ks s2->R (.done (.ret .none)) s2):wpAny (model prog w) A (Builtin.«set.__init__» ⟨[.ref s.heap.objs.size,.ref l],[]⟩) R E { s with heap:=s.heap.push (jT led) }:=by
 obtain ⟨ol,hol,hcl,nl,hdl⟩:=pl
 obtain ⟨ocls,odict,odata,oslots⟩:=ol
 simp only at hcl hdl
 subst hcl hdl
 have hS:(s.heap.push (jT led)).get? s.heap.objs.size=some (jT led):=Heap.get?_push_size _ rfl
 have hT:Shared.TypeIs { s with heap:=s.heap.push (jT led) } (.ref s.heap.objs.size) "set" := ⟨_,hS,rfl⟩
 have hol':(s.heap.push (jT led)).get? l=some { cls:=.type "tuple",dict:=odict,data:=.seq its.toArray nl,slots:=oslots }:=Heap.get?_push_of_some _ hol
 have hsls:=F.sub_tuple_set
 have hslf:=F.sub_tuple_frozenset
 have hne:(Value.type "tuple" == Value.type "dict")=false:=by decide
 have hl1:(s.heap.push (jT led)).IsTuple l its.toArray:=⟨_,hol',rfl,nl,rfl⟩
 unfold Builtin.«set.__init__» noKeywords Builtin.Frozenset.updateFrom
 generalize hPI:pyIter=PI
 wp_walk
 subst hPI
 refine wpAny_pyIter_tuple hl1 ?_
 refine wpAny_bind (wpAny_runValue ?_)
 have hlS:l < s.heap.objs.size:=Heap.lt_size hol
 refine CT (prog:=prog) (w:=w) (its:=its) (ks:=ks) (A:=A) (S:=s.heap.objs.size) (l:=l) hh hl hk hb ?_ ?_ (Nat.ne_of_lt hlS) (its.length - 0) 0 [] _ rfl (Nat.zero_le _) ?_ ?_ ?_ (Nat.le_refl _) fun h' tk kp hS'=>?_
 .show s.heap.objs.size≠(s.heap.push (jT led)).objs.size
  rw [Heap.size_push]; exact Nat.ne_of_lt (Nat.lt_succ_self _)
 .show l≠(s.heap.push (jT led)).objs.size
  rw [Heap.size_push]; exact Nat.ne_of_lt (Nat.lt_succ_of_lt hlS)
 .exact hl1.push _
 .exact ⟨_,Heap.get?_push_size _ rfl,rfl,rfl⟩
 .have hget:((s.heap.push (jT led)).push { cls:=.type "tuple_iterator",data:=.fields #[.ref l,.int 0 0] }).get? s.heap.objs.size=some (jT led):=Heap.get?_push_of_some _ hS
  letI:BEq Key:=instBEqOfDecidableEq
  haveI:LawfulBEq Key:=inferInstance
  have e0:(fun _:Key=>false)=inK []:=funext fun _=>rfl
  rw [← e0]
  exact (PyProof.Rows.setObjOf_fresh (knd:=cU prog w) led).setOf hget (by unfold scanBound; omega)
 .refine wpAny_pure ?_
  show wpAny _ _ (ret Value.none) _ _ _
  refine wpAny_pure (hR _ ⟨h',tk,rfl,by rw [List.drop_zero] at hS'; exact hS',fun b o e=>?_⟩)
  have hb0:b < s.heap.objs.size:=Heap.lt_size e
  refine kp b o (Nat.ne_of_lt hb0) ?_ (Heap.get?_push_of_some _ (Heap.get?_push_of_some _ e))
  show b≠(s.heap.push (jT led)).objs.size
  rw [Heap.size_push]; exact Nat.ne_of_lt (Nat.lt_succ_of_lt hb0)
theorem zL {l:Addr} {its:List Value} {ks:List Key} {A:Around} {s:Shared} {E:Value->Shared->Prop} {Q:Value->Shared->Prop} (hh:A.handled=none) (hlk:ks.length=its.length) (hk:∀ (j:Nat) (k:Key) (v:Value),ks[j]? = some k->its[j]? = some v->RelV (kV k) v) (hb:its.length + 1 < scanBound) (pl:s.heap.IsTuple l its.toArray)
  (h:∀ s2,qZ prog w s ks s2->Q (.ref s.heap.objs.size) s2):wpAny (model prog w) A (call (.type "set") [.ref l]) Q E s:=by
 obtain ⟨c,tl,hmro⟩:=F.called_set.mro
 have hmade:=F.called_set.made
 have hsub:=F.called_set.sub
 refine wpAny_call (codeAny_of_tree ?_)
 show wpAny _ _ (callAny (.type "set") _) _ _ _
 refine wpAny_pure ⟨Code.quiet_builtin _ (by decide +kernel),codeAny_builtin F.entry_type_call ?_⟩
 rw [Around.under_plain (weight_type_call_type "set" [.ref l] []) rfl]
 have h1:=F.called_set.notType
 have h2:=F.called_set.canCreate
 have hct:=F.typeCall_set_1 (.ref l)
 repeat (any_goals (first | assumption | wp_step))
 refine codeAny_mono (code_set_new_1 (.ref l) (E:=E) (Q₁:=fun obj s₁=>∃ led:Bool,obj = .ref s.heap.objs.size/\s₁={ s with heap:=s.heap.push (jT led) }) fun led=>⟨led,rfl,rfl⟩) fun r s₁ hr=>?_
 cases r with
 | error e=>exact hr
 | ok fl=>
  cases fl with
  | ret obj=>
   obtain ⟨led,rfl,rfl⟩:=hr
   have hS:(s.heap.push (jT led)).get? s.heap.objs.size=some (jT led):=Heap.get?_push_size _ rfl
   have hT:Shared.TypeIs { s with heap:=s.heap.push (jT led) } (.ref s.heap.objs.size) "set" := ⟨_,hS,rfl⟩
   have hli:=F.called_set.init.lookup
   have hbi:=F.called_set.init.bind (.ref s.heap.objs.size)
   repeat (any_goals (first | assumption | wp_step))
   refine codeAny_mono (codeAny_call_builtin (R:=wants (fun r s₂=>r = .none/\qZ prog w s ks s₂) E) F.called_set.init.plain F.entry_set_init (check_set_init_1 hT ?_)) fun r₂ s₂ hr₂=>?_
   .exact Dq (led:=led) (by simp [hh]) hlk hk hb pl fun s2 hs=>⟨rfl,hs⟩
   .cases r₂ with
    | error e=>exact hr₂
    | ok fl₂=>
     cases fl₂ with
     | ret r=>
      obtain ⟨rfl,hs⟩:=hr₂
      repeat (any_goals (first | assumption | wp_step))
      exact h _ hs
     | _=>exact hr₂.elim
  | _=>exact hr.elim
end
section
variable {X:Cx} {e:Expr} {t:TA} {p1 p2 q1 q2:Pos}
def Ja (K:PySem.W.Frag) (t:TA):TE:=fun σ H Q=>t σ H fun vs H1=>∃ a ks,vs=[.ref a]/\(SqL K H1 a (List.map kV ks)∨SqT K H1 a (List.map kV ks))/\List.length ks < 4000/\Q (.int (rB ks).length) H1
theorem yt (ks:List Key):(rB ks).length<=ks.length:=by
 have:∀ (ks acc:List Key),(ks.foldl mO acc).length<=acc.length + ks.length:=by
  intro ks
  induction ks with
  | nil=>intro acc; simp
  | cons k r ih=>
   intro acc
   have h1:=ih (mO acc k)
   have h2:(mO acc k).length<=acc.length + 1:=by rw [oF]; split <;> omega
   simp only [List.foldl_cons,List.length_cons]
   omega
 have:=this ks []
 rw [List.length_nil,Nat.zero_add] at this
 exact this
theorem Ek (hg:Gl X "len") (hm:X.mg "len" = none) (hms:X.mg "set" = none) (ha:PA X [e] t) (hg2:Gl X "set" := by rfl) (hs:starEach [e] X.env=[(false,eval e X.env)]:=by rfl) (hc:X.calm=true:=by rfl) :
  PE X (.Call (.Name "len" p1) [.Call (.Name "set" p2) [e] [] q2] [] q1) (Ja X.K t):=by
 intro pins s σ H Q I h
 refine wpAny_Call_Name_kw (pX I hg hm boot_len ?_)
 refine Calls.callWith_builtin rfl (Calls.evalArgs_plain ?_)
 show wpAny _ _ (spliced ((false,eval (.Call (.Name "set" p2) [e] [] q2) X.env) :: backTo q1 (starEach [] X.env))) _ _ s
 refine Calls.spliced_cons ?_
 refine wpAny_Call_Name_kw (pX I hg2 hms boot_set ?_)
 refine PyProof.Rows.callWith_type1 (thn (ha q2 pins s σ H _ I h) fun us s1 ⟨vs,H1,I1,r1,q1'⟩=>?_) hs rfl
 obtain ⟨a,ks,ev,hq,hz,q⟩:=q1'
 subst ev
 obtain ⟨u,rfl,ru⟩:=vals1 r1
 cases ru
 have hh:X.A.handled=none:=I1.ok.hd hc
 rcases hq with hq | hq
 .obtain ⟨its,rv,pl,hz2⟩:=I1.list hq
  have hlen:=rv.length
  rw [List.length_map] at hlen
  refine CQ (its:=its) (ks:=ks) hh hlen (fun j k v e1 e2=>?_) (by show its.length + 1 < 4096; omega) pl.isList fun s2 hs2=>?_
  .have:(List.map kV ks)[j]? = some (kV k):=by rw [List.getElem?_map,e1]; rfl
   obtain ⟨w',h1,h2⟩:=rv.get this
   rw [e2] at h1
   cases h1
   exact h2
  .refine Calls.spliced_nil ?_
   obtain ⟨h',tk,rfl,hS,old⟩:=hs2
   have I2:Inv X pins σ H1 { s1 with heap:=h',toks:=tk }:=I1.kept (t':=tk) old
   obtain ⟨o,es,ep,tb,ho,hex,hd,hel,hmem,hb,hf,hn⟩:=hS
   have hdl:=yt ks
   refine call_len_set ho hex hd hf (by rw [hn]; omega) ?_
   rw [hn]
   exact ⟨.int (rB ks).length,H1,I2.tok _,⟨_,rfl⟩,q⟩
 .obtain ⟨its,rv,pl,hz2⟩:=I1.tuple hq
  have hlen:=rv.length
  rw [List.length_map] at hlen
  refine zL (its:=its) (ks:=ks) hh hlen (fun j k v e1 e2=>?_) (by show its.length + 1 < 4096; omega) pl fun s2 hs2=>?_
  .have:(List.map kV ks)[j]? = some (kV k):=by rw [List.getElem?_map,e1]; rfl
   obtain ⟨w',h1,h2⟩:=rv.get this
   rw [e2] at h1
   cases h1
   exact h2
  .refine Calls.spliced_nil ?_
   obtain ⟨h',tk,rfl,hS,old⟩:=hs2
   have I2:Inv X pins σ H1 { s1 with heap:=h',toks:=tk }:=I1.kept (t':=tk) old
   obtain ⟨o,es,ep,tb,ho,hex,hd,hel,hmem,hb,hf,hn⟩:=hS
   have hdl:=yt ks
   refine call_len_set ho hex hd hf (by rw [hn]; omega) ?_
   rw [hn]
   exact ⟨.int (rB ks).length,H1,I2.tok _,⟨_,rfl⟩,q⟩
end
section
variable {X:Cx}
theorem range_all {bs:List Bool}:((List.range bs.length).all fun i=>bs.getD i true)=bs.all id:=by
 induction bs with
 | nil=>rfl
 | cons b r ih=>
  rw [List.length_cons,List.range_succ_eq_map,List.all_cons,List.all_map,List.all_cons,← ih]
  rfl
theorem P0 {bs:List Bool} {its:List Value} (rv:Vals (bs.map V.bl) its) {i:Nat} {v:Value} (h:its.toArray[i]? = some v):v = .bool (bs.getD i true):=by
 have h:its[i]? = some v:=by simpa using h
 have hl:=rv.length
 rw [List.length_map] at hl
 have hi:i < bs.length:=by rw [hl]; exact (List.getElem?_eq_some_iff.mp h).1
 obtain ⟨u,h1,h2⟩:=rv.get (show (bs.map V.bl)[i]? = some (V.bl bs[i]) by rw [List.getElem?_map,List.getElem?_eq_getElem hi]; rfl)
 rw [h] at h1
 cases h1
 cases h2
 simp [List.getD,hi]
theorem vU {pins:List (Addr×Obj)} {σ:L2.St} {H:Hp} {s:Shared} {a:Addr} {xs:List V} (I:Inv X pins σ H s) {its:List Value} (pl:s.heap.IsList a its.toArray) :
  a≠s.heap.objs.size:=by
 obtain ⟨o,h,_⟩:=pl
 exact Nat.ne_of_lt (Heap.lt_size h)
theorem Dw (hc:X.calm=true):iD X (.builtin "all") (fun xs H Q=>∃ a bs,xs=[.ref a]/\SqL X.K H a (List.map V.bl bs)/\Q (.bl (List.all bs id)) H):=by
 intro pins s σ H xs us Q I r h
 obtain ⟨a,bs,rfl,hq,q⟩:=h
 obtain ⟨u,rfl,ru⟩:=vals1 r
 cases ru
 obtain ⟨its,rv,pl,hz⟩:=I.list hq
 have hh:X.A.handled=none:=I.ok.hd hc
 have ne:a≠s.heap.objs.size:=vU (xs:=[]) I pl.isList
 have hl:=rv.length
 rw [List.length_map] at hl
 refine call_all_walk (wpAny_pyIter_list pl.isList ⟨s.heap.objs.size,[s.heap.objs.size,a],[s.heap.objs.size],its.toArray.size,_,_,fun i=>bs.getD i true,rfl,Walks.list (show X.A.in1.handled=none from hh) s.heap.objs.size a ne its.toArray,⟨⟨_,Heap.get?_push_size _ rfl,rfl,rfl⟩,pl.isList.push _⟩,fun i v s2 Q2 E2 hP hQ=>?_,fun h' tk kp=>?_⟩)
 .rw [P0 rv hP]
  exact wpAny_truthy_bool hQ
 .rw [List.size_toArray,← hl,range_all]
  exact ⟨.bl _,H,I.kept (t':=tk) fun b o e=>kp b o (by simp; exact Nat.ne_of_lt (Heap.lt_size e)) (Heap.get?_push_of_some _ e),rfl,q⟩
theorem int_at {ns:List Int} {its:List Value} (rv:Vals (ns.map V.int) its) {i:Nat} {v:Value} (h:its.toArray[i]? = some v):∃ t,v = .int (ns.getD i 0) t:=by
 have h:its[i]? = some v:=by simpa using h
 have hl:=rv.length
 rw [List.length_map] at hl
 have hi:i < ns.length:=by rw [hl]; exact (List.getElem?_eq_some_iff.mp h).1
 obtain ⟨u,h1,h2⟩:=rv.get (show (ns.map V.int)[i]? = some (V.int ns[i]) by rw [List.getElem?_map,List.getElem?_eq_getElem hi]; rfl)
 rw [h] at h1
 cases h1
 obtain ⟨t,rfl⟩:=h2
 exact ⟨t,by simp [List.getD,hi]⟩
theorem DN (hc:X.calm=true):iD X (.builtin "sum") (fun xs H Q=>∃ a ns,xs=[.ref a]/\SqL X.K H a (List.map V.int ns)/\Q (.int (List.sum ns)) H):=by
 intro pins s σ H xs us Q I r h
 obtain ⟨a,ns,rfl,hq,q⟩:=h
 obtain ⟨u,rfl,ru⟩:=vals1 r
 cases ru
 obtain ⟨its,rv,pl,hz⟩:=I.list hq
 have hh:X.A.handled=none:=I.ok.hd hc
 have ne:a≠s.heap.objs.size:=vU (xs:=[]) I pl.isList
 have hl:=rv.length
 rw [List.length_map] at hl
 have W:=(Walks.list (prog:=X.prog) (w:=X.w) (show X.A.in1.handled=none from hh) s.heap.objs.size a ne its.toArray).toS
 refine call_sum_walkAnyS (wpAny_pyIter_list pl.isList ⟨s.heap.objs.size,[s.heap.objs.size,a],[s.heap.objs.size],_,its.toArray.size,_,_,fun i=>ns.getD i 0,rfl,W,⟨⟨_,Heap.get?_push_size _ rfl,rfl,rfl⟩,pl.isList.push _⟩,fun b hb=>?_,fun i v hP=>int_at rv hP,fun s' t' mv=>?_⟩)
 .have h1:a < s.heap.objs.size:=let ⟨_,h,_⟩:=pl.isList; Heap.lt_size h
  show b < (s.heap.push _).objs.size
  rw [Heap.size_push]
  simp at hb
  rcases hb with z | z
  .rw [z]; exact Nat.lt_succ_self _
  .rw [z]; exact Nat.lt_succ_of_lt h1
 .rw [List.size_toArray,← hl,preSum_getD,List.take_length]
  obtain ⟨h',g',d',tk',os'⟩:=s'
  have eg:g'=s.gens:=mv.gens
  have ed:d'=s.drawn:=mv.drawn
  have eo:os'=s.os:=mv.os
  subst eg ed eo
  exact ⟨.int _,H,I.kept (t':=tk') fun b o e=>mv.heap b o (by simp; exact Nat.ne_of_lt (Heap.lt_size e)) (Heap.get?_push_of_some _ e),⟨_,rfl⟩,q⟩
end
section
variable {X:Cx} {e es:Expr} {te ts:TE} {p2 pos:Pos}
def Gj (K:PySem.W.Frag):R2:=fun x y H Q=>PQ K x y H Q∨∃ a xs,x = .ref a/\SqL K H a xs/\y = .int (-1)/\∀ p,H p=none->Q (.ref p) (upd H p (.lst xs.reverse))
theorem FJ (he:PE X e te) (hs:PE X es ts):PE X (.Subscript e (.Slice none none (some es) p2) pos) (tOp (Gj X.K) te ts):=by
 intro pins s σ H Q I h
 refine Subscript_ (thn (he pins s σ H _ I h) fun v s1 ⟨x,H1,I1,r1,q1⟩=>?_)
 refine wpAny_Slice ?_
 rw [evalPart_none]
 refine wpAny_pure (wpAny_pure (wpAny_evalPart_some (thn (hs pins s1 σ H1 _ I1 q1) fun vs s2 ⟨y,H2,I2,r2,q2⟩=>?_)))
 rcases q2 with q2 | ⟨a,xs,rfl,hx,rfl,q⟩
 .have I4:Inv X pins σ H2 { s2 with heap:=s2.heap.push { cls:=.type "slice",data:=.fields #[.none,.none,vs] } }:=I2.kept (t':=s2.toks) fun b ob q=>Heap.get?_push_of_some _ q
  have hsl:Heap.IsSliceOf (s2.heap.push { cls:=.type "slice",data:=.fields #[.none,.none,vs] }) s2.heap.objs.size .none .none vs:=Heap.IsSliceOf.new ..
  obtain ⟨a,xs,rfl,hx,q⟩:=q2
  cases r1
  obtain ⟨its,r,ht,hz⟩:=I4.tuple hx
  have hlen:=r.length
  show wpAny (model X.prog X.w) X.A (subscriptTail e (.Slice none none (some es) p2) (.ref a) (.ref s2.heap.objs.size)) (EP X pins σ Q) X.xe { s2 with heap:=s2.heap.push { cls:=.type "slice",data:=.fields #[.none,.none,vs] } }
  refine tail_any (ops:=[.ref a,.ref s2.heap.objs.size]) ht.typeIs PyProof.Rows.slot_tuple_getitem.lookup ?_ (by with_unfolding_all rfl)
  rcases q with ⟨rfl,q⟩ | ⟨rfl,q⟩
  .obtain ⟨t,rfl⟩:=r2
   have e1:Builtin.Slice.sliceAdjust none none ((some (1:Int)).getD 1) (its.length:Int)=(0,(its.length:Int)):=rfl
   have e2:Builtin.Slice.slicePlaces 0 (its.length:Int) ((some (1:Int)).getD 1)=its.length:=by
    show Builtin.Slice.slicePlaces ((0:Nat):Int) (its.length:Int) 1=its.length
    rw [HT.places_gen]
    omega
   refine kI (items:=its) (st:=some 1) ht hsl .none .none (.int 1 t) (by decide) e1 e2 (fun _=>⟨.ref a,H2,I4,rfl,q⟩) (fun hc=>absurd ⟨rfl,rfl,rfl⟩ hc) ?_
   exact Nat.le_trans (uY _ _ _ _) (by omega)
  .obtain ⟨t,rfl⟩:=r2
   have e1:Builtin.Slice.sliceAdjust none none ((some (-1:Int)).getD 1) (its.length:Int)=((its.length:Int) - 1,-1):=rfl
   have e2:Builtin.Slice.slicePlaces ((its.length:Int) - 1) (-1) ((some (-1:Int)).getD 1)=its.length:=by
    show (if (-1:Int) > 0 then _ else (if (its.length:Int) - 1 > -1 then ((its.length:Int) - 1 - (-1) - 1) / (- (-1)) + 1 else 0)).toNat=its.length
    rw [if_neg (by decide),show (- (-1:Int))=1 by decide,Int.ediv_one]
    split <;> omega
   refine kI (items:=its) (st:=some (-1)) ht hsl .none .none (.int (-1) t) (by decide) e1 e2 (fun hc=>absurd hc.2.1 (by decide)) (fun _=>?_) ?_
   .show EP X pins σ Q (.ref _) { s2 with heap:=Heap.push _ { cls:=.type "tuple",data:=.seq (ou its ((its.length:Int) - 1) (-1) its.length).toArray } }
    rw [Ey]
    refine ⟨.ref _,_,I4.laid (t':=s2.toks) (o:=.tup xs.reverse) (fun b ob q=>Heap.get?_push_of_some _ q) (Nat.le_refl _) ?_,rfl,q _ (I4.hok.fresh (Nat.le_refl _))⟩
    exact ⟨by rw [List.length_reverse]; exact hz,_,r.reverse,IsTup.new _ _⟩
   .exact Nat.le_trans (uY _ _ _ _) (by omega)
 .have I4:Inv X pins σ H2 { s2 with heap:=s2.heap.push { cls:=.type "slice",data:=.fields #[.none,.none,vs] } }:=I2.kept (t':=s2.toks) fun b ob q=>Heap.get?_push_of_some _ q
  have hsl:Heap.IsSliceOf (s2.heap.push { cls:=.type "slice",data:=.fields #[.none,.none,vs] }) s2.heap.objs.size .none .none vs:=Heap.IsSliceOf.new ..
  cases r1
  obtain ⟨t,rfl⟩:=r2
  obtain ⟨its,r,ht,hz⟩:=I4.list hx
  have hlen:=r.length
  show wpAny (model X.prog X.w) X.A (subscriptTail e (.Slice none none (some es) p2) (.ref a) (.ref s2.heap.objs.size)) (EP X pins σ Q) X.xe { s2 with heap:=s2.heap.push { cls:=.type "slice",data:=.fields #[.none,.none,.int (-1) t] } }
  refine tail_any (ops:=[.ref a,.ref s2.heap.objs.size]) ht.isList.typeIs slot_list_getitem.lookup ?_ (by with_unfolding_all rfl)
  refine wpAny_getItem_list_slice ht.isList hsl .none .none (.int (-1) t) (by decide) ?_ (by rw [List.size_toArray]; omega)
  rw [PySem.W.krv_pick]
  refine ⟨.ref _,_,I4.laid (t':=s2.toks) (o:=.lst xs.reverse) (fun b ob q=>Heap.get?_push_of_some _ q) (Nat.le_refl _) ?_,rfl,q _ (I4.hok.fresh (Nat.le_refl _))⟩
  exact ⟨by rw [List.length_reverse]; exact hz,_,0,r.reverse,Heap.get?_push_size _ rfl⟩
end
inductive Mk where
 | own | frz | brw | bro | scr
 deriving DecidableEq,Repr
inductive D where
 | non | bl (b:Bool) | int (i:Int) | str (x:Str) | ty (n:String)
 | tup (ds:List D)
 | lst (m:Mk) (ds:List D)
 | dct (m:Mk) (ks:List Key) (ds:List D)
 | ins (m:Mk) (c:Str) (fs:List Str) (ds:List D)
structure Gc where
 K:PySem.W.Frag
 mg:Str->Option Value
structure Wn where
 n:Addr->Prop
 s:Addr->Prop
 o:Addr->Prop
def Wn.free (W:Wn) (a:Addr):Prop:=¬ W.n a/\¬ W.s a/\¬ W.o a
def KO (K:PySem.W.Frag) (a:Addr) (o:HO):Prop:=∃ xs,o = .lst xs/\∃ (ob:Obj) (its:Array Value) (n:Nat),K.lookup a=some ob/\ob.cls = .type "list" /\ ob.dict=none/\ob.data = .seq its n/\its.size<=sizeLine/\Vals xs its.toList
def gR (Kx:Addr->HO->Prop) (H:Hp) (W:Wn) (a:Addr) (o:HO):Mk->List Addr->List Addr->Prop
 | .own,L,M=>H a=some o/\L=a :: M
 | .frz,L,M=>H a=some o/\W.free a/\M=[]/\L=[]
 | .brw,L,M=>H a=some o/\W.s a/\M=[]/\L=[]
 | .bro,L,M=>H a=some o/\M=[]/\L=[]
 | .scr,L,M=>((Rd H a o/\W.free a)∨Kx a o)/\M=[]/\L=[]
theorem gR.sub {Kx:Addr->HO->Prop} {H:Hp} {W:Wn} {a:Addr} {o:HO} {m:Mk} {L M:List Addr} (h:gR Kx H W a o m L M):List.Sublist M L:=by
 cases m with
 | own=>rw [h.2]; exact List.sublist_cons_self a M
 | frz=>rw [h.2.2.1]; exact List.nil_sublist L
 | brw=>rw [h.2.2.1]; exact List.nil_sublist L
 | bro=>rw [h.2.1]; exact List.nil_sublist L
 | scr=>rw [h.2.1]; exact List.nil_sublist L
theorem gR.rx {Kx:Addr->HO->Prop} {H:Hp} {W:Wn} {a:Addr} {o:HO} {m:Mk} {L M:List Addr} (h:gR Kx H W a o m L M):Rd H a o∨Kx a o:=by
 cases m with
 | own=>exact .inl (.inl h.1)
 | frz=>exact .inl (.inl h.1)
 | brw=>exact .inl (.inl h.1)
 | bro=>exact .inl (.inl h.1)
 | scr=>exact h.1.imp (fun z=>z.1) id
theorem gR.sq {K:PySem.W.Frag} {H:Hp} {W:Wn} {a:Addr} {xs:List V} {m:Mk} {L M:List Addr} (h:gR (KO K) H W a (.lst xs) m L M):SqL K H a xs:=by
 rcases h.rx with z | ⟨ys,e,z⟩
 .exact .inl z
 .cases e
  exact .inr z
theorem gR.rdD {K:PySem.W.Frag} {H:Hp} {W:Wn} {a:Addr} {kvs:List (Key×V)} {m:Mk} {L M:List Addr} (h:gR (KO K) H W a (.dK kvs) m L M):Rd H a (.dK kvs):=by
 rcases h.rx with z | ⟨ys,e,z⟩
 .exact z
 .cases e
theorem gR.at {Kx:Addr->HO->Prop} {H:Hp} {W:Wn} {a:Addr} {o:HO} {m:Mk} {L M:List Addr} (h:gR Kx H W a o m L M) (hm:m≠.scr):H a=some o:=by
 cases m with
 | own=>exact h.1
 | frz=>exact h.1
 | brw=>exact h.1
 | bro=>exact h.1
 | scr=>exact absurd rfl hm
mutual
def Rep (G:Gc) (H:Hp) (W:Wn):D->V->List Addr->Prop
 | .non,v,L=>v = .non/\L=[]
 | .bl b,v,L=>v = .bl b/\L=[]
 | .int i,v,L=>v = .int i/\L=[]
 | .str x,v,L=>v = .str x/\L=[]
 | .ty n,v,L=>v = .ty n/\L=[]
 | .tup ds,v,L=>∃ a xs,v = .ref a/\H a=some (.tup xs)/\aN G H W ds xs L
 | .lst m ds,v,L=>∃ a xs M,v = .ref a/\aN G H W ds xs M/\gR (KO G.K) H W a (.lst xs) m L M
 | .dct m ks ds,v,L=>∃ a kvs M,v = .ref a/\(List.map (·.1) kvs=ks/\ks.Nodup)/\aN G H W ds (List.map (·.2) kvs) M/\gR (KO G.K) H W a (.dK kvs) m L M
 | .ins m c fs ds,v,L=>∃ a C dx kvs M,v = .ref a/\G.mg c=some (.ref C)/\List.map (·.1) kvs=fs/\aN G H W ds (List.map (·.2) kvs) M/\gR (KO G.K) H W a (.ins C dx kvs) m L M
def aN (G:Gc) (H:Hp) (W:Wn):List D->List V->List Addr->Prop
 | [],xs,L=>xs=[]/\L=[]
 | d :: r,xs,L=>∃ x ys M M',xs=x :: ys/\L=M++M'/\Rep G H W d x M/\aN G H W r ys M'
end
section
variable {G:Gc} {H:Hp} {W:Wn}
theorem aN.nil:aN G H W [] [] []:=by simp [aN]
theorem aN.cons {d:D} {r:List D} {x:V} {ys:List V} {M M':List Addr} (h:Rep G H W d x M) (t:aN G H W r ys M'):aN G H W (d :: r) (x :: ys) (M++M'):=by
 rw [aN]; exact ⟨x,ys,M,M',rfl,rfl,h,t⟩
theorem aN.one {d:D} {x:V} {M:List Addr} (h:Rep G H W d x M):aN G H W [d] [x] M:=by
 have:=aN.cons h aN.nil
 rwa [List.append_nil] at this
theorem aN.inv {d:D} {r:List D} {xs:List V} {L:List Addr} (h:aN G H W (d :: r) xs L):∃ x ys M M',xs=x :: ys/\L=M++M'/\Rep G H W d x M/\aN G H W r ys M':=by
 rw [aN] at h; exact h
theorem aN.inv0 {xs:List V} {L:List Addr} (h:aN G H W [] xs L):xs=[]/\L=[]:=by
 rw [aN] at h; exact h
theorem aN.length:∀ {ds:List D} {xs:List V} {L:List Addr},aN G H W ds xs L->ds.length=xs.length
 | [],xs,L,h=>by rw [h.inv0.1]; rfl
 | d :: r,xs,L,h=>by
  obtain ⟨x,ys,M,M',rfl,_,_,h⟩:=h.inv
  simp [aN.length h]
theorem aN.append:∀ {ds es:List D} {xs ys:List V} {L M:List Addr},aN G H W ds xs L->aN G H W es ys M->aN G H W (ds++es) (xs++ys) (L++M)
 | [],es,xs,ys,L,M,h,h'=>by obtain ⟨rfl,rfl⟩:=h.inv0; exact h'
 | d :: r,es,xs,ys,L,M,h,h'=>by
  obtain ⟨x,zs,A,B,rfl,rfl,h1,h2⟩:=h.inv
  rw [List.append_assoc]
  exact .cons h1 (aN.append h2 h')
theorem aN.split:∀ {ds es:List D} {xs:List V} {L:List Addr},aN G H W (ds++es) xs L->∃ ys zs A B,xs=ys++zs/\L=A++B/\aN G H W ds ys A/\aN G H W es zs B
 | [],es,xs,L,h=>⟨[],xs,[],L,rfl,rfl,.nil,h⟩
 | d :: r,es,xs,L,h=>by
  obtain ⟨x,zs,A,B,rfl,rfl,h1,h2⟩:=aN.inv (r:=r++es) h
  obtain ⟨ys,ws,A',B',rfl,rfl,h3,h4⟩:=aN.split h2
  exact ⟨x :: ys,ws,A++A',B',rfl,by rw [List.append_assoc],.cons h1 h3,h4⟩
theorem aN.at {ds:List D} {xs:List V} {L:List Addr} {j:Nat} {d:D} (h:aN G H W ds xs L) (e:ds[j]? = some d) :
  ∃ A B x ys zs LA M LB,ds=A++d :: B/\A.length=j/\xs=ys++x :: zs/\ys.length=j/\L=LA++(M++LB)/\aN G H W A ys LA/\Rep G H W d x M/\aN G H W B zs LB:=by
 have hj:j < ds.length:=(List.getElem?_eq_some_iff.mp e).1
 have hd:ds=ds.take j++d :: ds.drop (j + 1):=by
  have:ds[j]=d:=(List.getElem?_eq_some_iff.mp e).2
  rw [← this,List.getElem_cons_drop,List.take_append_drop]
 rw [hd] at h
 obtain ⟨ys,zs,A,B,rfl,rfl,h1,h2⟩:=aN.split h
 obtain ⟨x,ws,M,M',rfl,rfl,h3,h4⟩:=h2.inv
 have hl:(ds.take j).length=j:=by rw [List.length_take]; omega
 exact ⟨_,_,x,ys,ws,A,M,M',hd,hl,rfl,by rw [← h1.length]; exact hl,rfl,h1,h3,h4⟩
theorem aN.get {ds:List D} {xs:List V} {L:List Addr} {j:Nat} {d:D} (h:aN G H W ds xs L) (e:ds[j]? = some d):∃ x M,xs[j]? = some x/\Rep G H W d x M/\List.Sublist M L:=by
 obtain ⟨A,B,x,ys,zs,LA,M,LB,_,_,rfl,hl,rfl,_,h,_⟩:=h.at e
 exact ⟨x,M,by rw [List.getElem?_append_right (by omega),hl,Nat.sub_self]; rfl,h,(List.sublist_append_left M LB).trans (List.sublist_append_right LA _)⟩
end
def muO:HO->Bool
 | .lst _=>true
 | .dK _=>true
 | .ins _ _ _=>true
 | _=>false
def Mu (H:Hp) (a:Addr):Prop:=∃ o,H a=some o/\muO o=true
mutual
def aH:D->Bool
 | .tup ds=>aD ds
 | .lst m ds=>m != .brw && aD ds
 | .dct m _ ds=>m != .brw && aD ds
 | .ins m _ _ ds=>m != .brw && aD ds
 | _=>true
def aD:List D->Bool
 | []=>true
 | d :: r=>aH d && aD r
end
mutual
def aF:D->Bool
 | .tup ds=>aG ds
 | .lst m ds=>m != .bro && aG ds
 | .dct m _ ds=>m != .bro && aG ds
 | .ins m _ _ ds=>m != .bro && aG ds
 | _=>true
def aG:List D->Bool
 | []=>true
 | d :: r=>aF d && aG r
end
def clean (d:D):Bool:=aH d && aF d
structure Evo (H H':Hp) (W W':Wn):Prop where
 k:∀ b u,H b=some u->W.free b->H' b=some u/\W'.free b
 t:∀ b xs,H b=some (.tup xs)->H' b=some (.tup xs)
def Fw (H H':Hp) (W W':Wn):Prop:=∀ b u,H b=some u->W.s b->H' b=some u/\W'.s b
theorem Evo.rd {H H':Hp} {W W':Wn} (e:Evo H H' W W') {a:Addr} {o:HO} (h:Rd H a o) (f:W.free a):Rd H' a o/\W'.free a:=by
 rcases h with h | ⟨u,h⟩
 .exact ⟨.inl (e.k a _ h f).1,(e.k a _ h f).2⟩
 .exact ⟨.inr ⟨u,(e.k a _ h f).1⟩,(e.k a _ h f).2⟩
section
variable {G:Gc} {H H':Hp} {W W':Wn}
theorem gR.mono {Kx:Addr->HO->Prop} {a:Addr} {o:HO} {m:Mk} {L M:List Addr} (e:Evo H H' W W') (h:gR Kx H W a o m L M) (hb:m≠.brw∨Fw H H' W W') (ho:m≠.bro∨Same H H') (hL:∀ c∈L,∀ u,H c=some u->H' c=some u):gR Kx H' W' a o m L M:=by
 cases m with
 | own=>exact ⟨hL a (by rw [h.2]; simp) o h.1,h.2⟩
 | frz=>exact ⟨(e.k a o h.1 h.2.1).1,(e.k a o h.1 h.2.1).2,h.2.2⟩
 | brw=>
  have q:=(hb.resolve_left fun z=>z rfl) a o h.1 h.2.1
  exact ⟨q.1,q.2,h.2.2⟩
 | bro=>exact ⟨(ho.resolve_left fun z=>z rfl) a o h.1,h.2⟩
 | scr=>exact ⟨h.1.imp (fun z=>e.rd z.1 z.2) id,h.2⟩
theorem Same.rd {H H':Hp} {a:Addr} {o:HO} (s:Same H H') (h:Rd H a o):Rd H' a o:=h.imp (s _ _) fun ⟨u,z⟩=>⟨u,s _ _ z⟩
mutual
theorem Rep.mono (e:Evo H H' W W'):∀ {d:D} {v:V} {L:List Addr},Rep G H W d v L->(aH d=true∨Fw H H' W W')->(aF d=true∨Same H H')->(∀ c∈L,∀ u,H c=some u->H' c=some u)->Rep G H' W' d v L
 | .non,v,L,h,_,_,_=>by rw [Rep] at h ⊢; exact h
 | .bl _,v,L,h,_,_,_=>by rw [Rep] at h ⊢; exact h
 | .int _,v,L,h,_,_,_=>by rw [Rep] at h ⊢; exact h
 | .str _,v,L,h,_,_,_=>by rw [Rep] at h ⊢; exact h
 | .ty _,v,L,h,_,_,_=>by rw [Rep] at h ⊢; exact h
 | .tup ds,v,L,h,b,o,hl=>by
  rw [Rep] at h ⊢
  obtain ⟨a,xs,rfl,ht,hr⟩:=h
  exact ⟨a,xs,rfl,e.t a xs ht,aN.mono e hr (by simpa [aH] using b) (by simpa [aF] using o) hl⟩
 | .lst m ds,v,L,h,b,o,hl=>by
  rw [Rep] at h ⊢
  obtain ⟨a,xs,M,rfl,hr,hs⟩:=h
  exact ⟨a,xs,M,rfl,aN.mono e hr (b.imp (fun z=>by simp [aH] at z; exact z.2) id) (o.imp (fun z=>by simp [aF] at z; exact z.2) id) fun c hc=>hl c (hs.sub.subset hc),hs.mono e (b.imp (fun z=>by simp [aH] at z; exact z.1) id) (o.imp (fun z=>by simp [aF] at z; exact z.1) id) hl⟩
 | .dct m ks ds,v,L,h,b,o,hl=>by
  rw [Rep] at h ⊢
  obtain ⟨a,xs,M,rfl,hk,hr,hs⟩:=h
  exact ⟨a,xs,M,rfl,hk,aN.mono e hr (b.imp (fun z=>by simp [aH] at z; exact z.2) id) (o.imp (fun z=>by simp [aF] at z; exact z.2) id) fun c hc=>hl c (hs.sub.subset hc),hs.mono e (b.imp (fun z=>by simp [aH] at z; exact z.1) id) (o.imp (fun z=>by simp [aF] at z; exact z.1) id) hl⟩
 | .ins m c fs ds,v,L,h,b,o,hl=>by
  rw [Rep] at h ⊢
  obtain ⟨a,C,dx,xs,M,rfl,hC,hk,hr,hs⟩:=h
  exact ⟨a,C,dx,xs,M,rfl,hC,hk,aN.mono e hr (b.imp (fun z=>by simp [aH] at z; exact z.2) id) (o.imp (fun z=>by simp [aF] at z; exact z.2) id) fun c hc=>hl c (hs.sub.subset hc),hs.mono e (b.imp (fun z=>by simp [aH] at z; exact z.1) id) (o.imp (fun z=>by simp [aF] at z; exact z.1) id) hl⟩
theorem aN.mono (e:Evo H H' W W'):∀ {ds:List D} {vs:List V} {L:List Addr},aN G H W ds vs L->(aD ds=true∨Fw H H' W W')->(aG ds=true∨Same H H')->(∀ c∈L,∀ u,H c=some u->H' c=some u)->aN G H' W' ds vs L
 | [],vs,L,h,_,_,_=>by rw [aN] at h ⊢; exact h
 | d :: r,vs,L,h,b,o,hl=>by
  obtain ⟨x,ys,M,M',rfl,rfl,h1,h2⟩:=h.inv
  exact .cons (Rep.mono e h1 (b.imp (fun z=>by simp [aD] at z; exact z.1) id) (o.imp (fun z=>by simp [aG] at z; exact z.1) id) fun b hb=>hl b (List.mem_append_left _ hb))
   (aN.mono e h2 (b.imp (fun z=>by simp [aD] at z; exact z.2) id) (o.imp (fun z=>by simp [aG] at z; exact z.2) id) fun b hb=>hl b (List.mem_append_right _ hb))
end
structure Up (H H':Hp) (W W':Wn):Prop where
 s:Same H H'
 f:∀ b u,H b=some u->W.free b->W'.free b
 n:∀ b u,H b=some u->W.s b->W'.s b
theorem Up.evo (u:Up H H' W W'):Evo H H' W W':=⟨fun b o h f=>⟨u.s b o h,u.f b o h f⟩,fun b xs h=>u.s b _ h⟩
theorem Up.evoN (u:Up H H' W W'):Fw H H' W W':=fun b o h f=>⟨u.s b o h,u.n b o h f⟩
theorem Up.refl:Up H H W W:=⟨Same.refl H,fun _ _ _ f=>f,fun _ _ _ f=>f⟩
theorem Up.trans {H2:Hp} {W2:Wn} (a:Up H H' W W') (b:Up H' H2 W' W2):Up H H2 W W2:=⟨a.s.trans b.s,fun c u h f=>b.f c u (a.s c u h) (a.f c u h f),fun c u h f=>b.n c u (a.s c u h) (a.n c u h f)⟩
theorem Rep.up {d:D} {v:V} {L:List Addr} (h:Rep G H W d v L) (u:Up H H' W W'):Rep G H' W' d v L:=h.mono u.evo (.inr u.evoN) (.inr u.s) fun c _ o e=>u.s c o e
theorem aN.up {d:List D} {v:List V} {L:List Addr} (h:aN G H W d v L) (u:Up H H' W W'):aN G H' W' d v L:=h.mono u.evo (.inr u.evoN) (.inr u.s) fun c _ o e=>u.s c o e
def Wn.add (W:Wn) (L:List Addr):Wn:=⟨fun a=>a∈L∨W.n a,W.s,W.o⟩
theorem Up.add {L:List Addr} (s:Same H H') (hL:∀ a∈L,H a=none):Up H H' W (W.add L):=⟨s,fun b u h f=>⟨fun z=>z.elim (fun z=>by rw [hL b z] at h; cases h) f.1,f.2⟩,fun b u h f=>f⟩
theorem Up.same (s:Same H H'):Up H H' W W:=⟨s,fun _ _ _ f=>f,fun _ _ _ f=>f⟩
end
def mkV (ob:Bool):Mk->Mk
 | .own=>if ob then .bro else .brw
 | m=>m
def mkF:Mk->Mk
 | .scr=>.scr
 | _=>.frz
mutual
def view (ob:Bool):D->D
 | .tup ds=>.tup (bI ob ds)
 | .lst m ds=>.lst (mkV ob m) (bI ob ds)
 | .dct m ks ds=>.dct (mkV ob m) ks (bI ob ds)
 | .ins m c fs ds=>.ins (mkV ob m) c fs (bI ob ds)
 | d=>d
def bI (ob:Bool):List D->List D
 | []=>[]
 | d :: r=>view ob d :: bI ob r
end
mutual
def fz:D->D
 | .tup ds=>.tup (fzL ds)
 | .lst m ds=>.lst (mkF m) (fzL ds)
 | .dct m ks ds=>.dct (mkF m) ks (fzL ds)
 | .ins m c fs ds=>.ins (mkF m) c fs (fzL ds)
 | d=>d
def fzL:List D->List D
 | []=>[]
 | d :: r=>fz d :: fzL r
end
theorem iQ (ob:Bool):∀ ds:List D,bI ob ds=ds.map (view ob)
 | []=>rfl
 | d :: r=>by rw [bI,iQ ob r]; rfl
theorem j6:∀ ds:List D,fzL ds=ds.map fz
 | []=>rfl
 | d :: r=>by rw [fzL,j6 r]; rfl
section
variable {G:Gc} {H:Hp} {W W':Wn}
theorem gR.view {Kx:Addr->HO->Prop} {ob:Bool} {a:Addr} {o:HO} {m:Mk} {L M:List Addr} (hn:ob=false->∀ c∈L,W.s c) (h:gR Kx H W a o m L M):gR Kx H W a o (mkV ob m) [] []:=by
 cases m with
 | own=>
  cases ob with
  | false=>exact ⟨h.1,hn rfl a (by rw [h.2]; simp),rfl,rfl⟩
  | true=>exact ⟨h.1,rfl,rfl⟩
 | frz=>exact ⟨h.1,h.2.1,rfl,rfl⟩
 | brw=>exact ⟨h.1,h.2.1,rfl,rfl⟩
 | bro=>exact ⟨h.1,rfl,rfl⟩
 | scr=>exact ⟨h.1,rfl,rfl⟩
mutual
theorem Rep.view {ob:Bool}:∀ {d:D} {v:V} {L:List Addr},Rep G H W d v L->(ob=false->∀ c∈L,W.s c)->Rep G H W (view ob d) v []
 | .non,v,L,h,_=>by rw [Rep] at h; simp [Jb.view,Rep,h]
 | .bl _,v,L,h,_=>by rw [Rep] at h; simp [Jb.view,Rep,h]
 | .int _,v,L,h,_=>by rw [Rep] at h; simp [Jb.view,Rep,h]
 | .str _,v,L,h,_=>by rw [Rep] at h; simp [Jb.view,Rep,h]
 | .ty _,v,L,h,_=>by rw [Rep] at h; simp [Jb.view,Rep,h]
 | .tup ds,v,L,h,hn=>by
  rw [Rep] at h; rw [Jb.view,Rep]
  obtain ⟨a,xs,rfl,ht,hr⟩:=h
  exact ⟨a,xs,rfl,ht,aN.view hr hn⟩
 | .lst m ds,v,L,h,hn=>by
  rw [Rep] at h; rw [Jb.view,Rep]
  obtain ⟨a,xs,M,rfl,hr,hs⟩:=h
  exact ⟨a,xs,[],rfl,aN.view hr fun z c hc=>hn z c (hs.sub.subset hc),hs.view hn⟩
 | .dct m ks ds,v,L,h,hn=>by
  rw [Rep] at h; rw [Jb.view,Rep]
  obtain ⟨a,xs,M,rfl,hk,hr,hs⟩:=h
  exact ⟨a,xs,[],rfl,hk,aN.view hr fun z c hc=>hn z c (hs.sub.subset hc),hs.view hn⟩
 | .ins m c fs ds,v,L,h,hn=>by
  rw [Rep] at h; rw [Jb.view,Rep]
  obtain ⟨a,C,dx,xs,M,rfl,hC,hk,hr,hs⟩:=h
  exact ⟨a,C,dx,xs,[],rfl,hC,hk,aN.view hr fun z c hc=>hn z c (hs.sub.subset hc),hs.view hn⟩
theorem aN.view {ob:Bool}:∀ {ds:List D} {vs:List V} {L:List Addr},aN G H W ds vs L->(ob=false->∀ c∈L,W.s c)->aN G H W (bI ob ds) vs []
 | [],vs,L,h,_=>by obtain ⟨rfl,_⟩:=h.inv0; rw [bI]; exact .nil
 | d :: r,vs,L,h,hn=>by
  obtain ⟨x,ys,M,M',rfl,rfl,h1,h2⟩:=h.inv
  rw [bI]
  exact .cons (M:=[]) (M':=[]) (Rep.view h1 fun z c hc=>hn z c (List.mem_append_left _ hc)) (aN.view h2 fun z c hc=>hn z c (List.mem_append_right _ hc))
end
structure Les (H:Hp) (W W':Wn) (L:List Addr):Prop where
 f:∀ a,W.free a->W'.free a
 l:∀ a∈L,W'.free a
theorem Les.sub {L M:List Addr} (h:Les H W W' L) (s:∀ a∈M,a∈L):Les H W W' M:=⟨h.f,fun a ha=>h.l a (s a ha)⟩
def o8 (W:Wn):Prop:=∀ a,W.free a
theorem gR.fz {Kx:Addr->HO->Prop} {a:Addr} {o:HO} {m:Mk} {L M:List Addr} (hs:Les H W W' L) (hn:(m≠.brw/\m≠.bro)∨o8 W') (h:gR Kx H W a o m L M):gR Kx H W' a o (mkF m) [] []:=by
 cases m with
 | own=>exact ⟨h.1,hs.l a (by rw [h.2]; simp),rfl,rfl⟩
 | frz=>exact ⟨h.1,hs.f a h.2.1,rfl,rfl⟩
 | brw=>exact ⟨h.1,hn.elim (fun z=>absurd rfl z.1) fun z=>z a,rfl,rfl⟩
 | bro=>exact ⟨h.1,hn.elim (fun z=>absurd rfl z.2) fun z=>z a,rfl,rfl⟩
 | scr=>exact ⟨h.1.imp (fun z=>⟨z.1,hs.f a z.2⟩) id,rfl,rfl⟩
mutual
theorem Rep.fz:∀ {d:D} {v:V} {L:List Addr},Rep G H W d v L->Les H W W' L->(clean d=true∨o8 W')->Rep G H W' (fz d) v []
 | .non,v,L,h,_,_=>by rw [Rep] at h; simp [Jb.fz,Rep,h]
 | .bl _,v,L,h,_,_=>by rw [Rep] at h; simp [Jb.fz,Rep,h]
 | .int _,v,L,h,_,_=>by rw [Rep] at h; simp [Jb.fz,Rep,h]
 | .str _,v,L,h,_,_=>by rw [Rep] at h; simp [Jb.fz,Rep,h]
 | .ty _,v,L,h,_,_=>by rw [Rep] at h; simp [Jb.fz,Rep,h]
 | .tup ds,v,L,h,hs,c=>by
  rw [Rep] at h; rw [Jb.fz,Rep]
  obtain ⟨a,xs,rfl,ht,hr⟩:=h
  exact ⟨a,xs,rfl,ht,aN.fz hr hs (c.imp (fun z=>by simpa [clean,aH,aF] using z) id)⟩
 | .lst m ds,v,L,h,he,c=>by
  rw [Rep] at h; rw [Jb.fz,Rep]
  obtain ⟨a,xs,M,rfl,hr,hs⟩:=h
  exact ⟨a,xs,[],rfl,aN.fz hr (he.sub fun c hc=>hs.sub.subset hc) (c.imp (fun z=>by simp [clean,aH,aF] at z; exact ⟨z.1.2,z.2.2⟩) id),hs.fz he (c.imp (fun z=>by simp [clean,aH,aF] at z; exact ⟨z.1.1,z.2.1⟩) id)⟩
 | .dct m ks ds,v,L,h,he,c=>by
  rw [Rep] at h; rw [Jb.fz,Rep]
  obtain ⟨a,xs,M,rfl,hk,hr,hs⟩:=h
  exact ⟨a,xs,[],rfl,hk,aN.fz hr (he.sub fun c hc=>hs.sub.subset hc) (c.imp (fun z=>by simp [clean,aH,aF] at z; exact ⟨z.1.2,z.2.2⟩) id),hs.fz he (c.imp (fun z=>by simp [clean,aH,aF] at z; exact ⟨z.1.1,z.2.1⟩) id)⟩
 | .ins m c' fs ds,v,L,h,he,c=>by
  rw [Rep] at h; rw [Jb.fz,Rep]
  obtain ⟨a,C,dx,xs,M,rfl,hC,hk,hr,hs⟩:=h
  exact ⟨a,C,dx,xs,[],rfl,hC,hk,aN.fz hr (he.sub fun c hc=>hs.sub.subset hc) (c.imp (fun z=>by simp [clean,aH,aF] at z; exact ⟨z.1.2,z.2.2⟩) id),hs.fz he (c.imp (fun z=>by simp [clean,aH,aF] at z; exact ⟨z.1.1,z.2.1⟩) id)⟩
theorem aN.fz:∀ {ds:List D} {vs:List V} {L:List Addr},aN G H W ds vs L->Les H W W' L->((aD ds=true/\aG ds=true)∨o8 W')->aN G H W' (fzL ds) vs []
 | [],vs,L,h,_,_=>by obtain ⟨rfl,_⟩:=h.inv0; rw [fzL]; exact .nil
 | d :: r,vs,L,h,he,c=>by
  obtain ⟨x,ys,M,M',rfl,rfl,h1,h2⟩:=h.inv
  rw [fzL]
  exact .cons (M:=[]) (M':=[]) (Rep.fz h1 (he.sub fun c hc=>List.mem_append_left _ hc) (c.imp (fun z=>by simp [clean,aD,aG] at z ⊢; exact ⟨z.1.1,z.2.1⟩) id))
   (aN.fz h2 (he.sub fun c hc=>List.mem_append_right _ hc) (c.imp (fun z=>by simp [clean,aD,aG] at z ⊢; exact ⟨z.1.2,z.2.2⟩) id))
end
mutual
theorem zj:∀ d:D,aH (Jb.fz d)=true
 | .non=>rfl | .bl _=>rfl | .int _=>rfl | .str _=>rfl | .ty _=>rfl
 | .tup ds=>by simp [Jb.fz,aH,jP ds]
 | .lst m ds=>by cases m <;> simp [Jb.fz,aH,jP ds,mkF]
 | .dct m _ ds=>by cases m <;> simp [Jb.fz,aH,jP ds,mkF]
 | .ins m _ _ ds=>by cases m <;> simp [Jb.fz,aH,jP ds,mkF]
theorem jP:∀ ds:List D,aD (fzL ds)=true
 | []=>rfl
 | d :: r=>by simp [fzL,aD,zj d,jP r]
end
mutual
theorem yD:∀ d:D,aF (Jb.fz d)=true
 | .non=>rfl | .bl _=>rfl | .int _=>rfl | .str _=>rfl | .ty _=>rfl
 | .tup ds=>by simp [Jb.fz,aF,jN ds]
 | .lst m ds=>by cases m <;> simp [Jb.fz,aF,jN ds,mkF]
 | .dct m _ ds=>by cases m <;> simp [Jb.fz,aF,jN ds,mkF]
 | .ins m _ _ ds=>by cases m <;> simp [Jb.fz,aF,jN ds,mkF]
theorem jN:∀ ds:List D,aG (fzL ds)=true
 | []=>rfl
 | d :: r=>by simp [fzL,aG,yD d,jN r]
end
theorem HH (d:D):clean (Jb.fz d)=true:=by simp [clean,zj,yD]
mutual
theorem Rep.dom:∀ {d:D} {v:V} {L:List Addr},Rep G H W d v L->∀ a∈L,Mu H a
 | .non,v,L,h=>by rw [Rep] at h; rw [h.2]; simp
 | .bl _,v,L,h=>by rw [Rep] at h; rw [h.2]; simp
 | .int _,v,L,h=>by rw [Rep] at h; rw [h.2]; simp
 | .str _,v,L,h=>by rw [Rep] at h; rw [h.2]; simp
 | .ty _,v,L,h=>by rw [Rep] at h; rw [h.2]; simp
 | .tup ds,v,L,h=>by
  rw [Rep] at h
  obtain ⟨a,xs,rfl,ht,hr⟩:=h
  exact aN.dom hr
 | .lst m ds,v,L,h=>by
  rw [Rep] at h
  obtain ⟨a,xs,M,rfl,hr,hs⟩:=h
  intro b hb
  cases m with
  | own=>
   rw [hs.2] at hb
   rcases List.mem_cons.mp hb with z | z
   .rw [z]; exact ⟨_,hs.1,rfl⟩
   .exact aN.dom hr b z
  | frz=>rw [hs.2.2.2] at hb; cases hb
  | brw=>rw [hs.2.2.2] at hb; cases hb
  | bro=>rw [hs.2.2] at hb; cases hb
  | scr=>rw [hs.2.2] at hb; cases hb
 | .dct m ks ds,v,L,h=>by
  rw [Rep] at h
  obtain ⟨a,xs,M,rfl,hk,hr,hs⟩:=h
  intro b hb
  cases m with
  | own=>
   rw [hs.2] at hb
   rcases List.mem_cons.mp hb with z | z
   .rw [z]; exact ⟨_,hs.1,rfl⟩
   .exact aN.dom hr b z
  | frz=>rw [hs.2.2.2] at hb; cases hb
  | brw=>rw [hs.2.2.2] at hb; cases hb
  | bro=>rw [hs.2.2] at hb; cases hb
  | scr=>rw [hs.2.2] at hb; cases hb
 | .ins m c fs ds,v,L,h=>by
  rw [Rep] at h
  obtain ⟨a,C,dx,xs,M,rfl,hC,hk,hr,hs⟩:=h
  intro b hb
  cases m with
  | own=>
   rw [hs.2] at hb
   rcases List.mem_cons.mp hb with z | z
   .rw [z]; exact ⟨_,hs.1,rfl⟩
   .exact aN.dom hr b z
  | frz=>rw [hs.2.2.2] at hb; cases hb
  | brw=>rw [hs.2.2.2] at hb; cases hb
  | bro=>rw [hs.2.2] at hb; cases hb
  | scr=>rw [hs.2.2] at hb; cases hb
theorem aN.dom:∀ {ds:List D} {vs:List V} {L:List Addr},aN G H W ds vs L->∀ a∈L,Mu H a
 | [],vs,L,h=>by rw [h.inv0.2]; simp
 | d :: r,vs,L,h=>by
  obtain ⟨x,ys,M,M',rfl,rfl,h1,h2⟩:=h.inv
  intro a ha
  rcases List.mem_append.mp ha with z | z
  .exact Rep.dom h1 a z
  .exact aN.dom h2 a z
end
end
abbrev En:=List (Option D)
abbrev Ad:=Nat->List Addr
def Rel (G:Gc) (H:Hp) (W:Wn) (ob:Nat->Bool) (ρ:En) (σ:L2.St):Prop:=∀ (i:Nat) (d:D),ρ[i]? = some (some d)->∃ v L,σ[i]? = some (some v)/\Rep G H W d v L/\(ob i=false->∀ c∈L,W.s c)
def WOk (H:Hp) (W:Wn):Prop:=∀ a,W.n a∨W.s a∨W.o a->Mu H a
theorem Rel.up {G:Gc} {H H':Hp} {W W':Wn} {ob:Nat->Bool} {ρ:En} {σ:L2.St} (r:Rel G H W ob ρ σ) (u:Up H H' W W'):Rel G H' W' ob ρ σ:=fun i d e=>let ⟨v,L,h1,h2,h3⟩:=r i d e; ⟨v,L,h1,h2.up u,fun z c hc=>let ⟨o,ho,_⟩:=h2.dom c hc; u.n c o ho (h3 z c hc)⟩
theorem WOk.add {H H':Hp} {W:Wn} {L:List Addr} (h:WOk H W) (s:Same H H') (hL:∀ a∈L,Mu H' a):WOk H' (W.add L):=fun a ha=>by
 rcases ha with (z | z) | z
 .exact hL a z
 .obtain ⟨o,h1,h2⟩:=h a (.inl z); exact ⟨o,s a o h1,h2⟩
 .obtain ⟨o,h1,h2⟩:=h a (.inr z); exact ⟨o,s a o h1,h2⟩
def wn (ob:Nat->Bool) (S:Ad) (Fr:Addr->Prop):Wn:=⟨Fr,fun a=>∃ i,ob i=false/\a∈S i,fun a=>∃ i,ob i=true/\a∈S i⟩
def inS (S:Ad) (a:Addr):Prop:=∃ i,a∈S i
def inO (ob:Nat->Bool) (S:Ad) (a:Addr):Prop:=∃ i,ob i=true/\a∈S i
def plus (M:List Addr) (Fr:Addr->Prop):Addr->Prop:=fun a=>a∈M∨Fr a
structure Sta (G:Gc) (H:Hp) (ob:Nat->Bool) (ρ:En) (σ:L2.St) (S:Ad) (Fr:Addr->Prop):Prop where
 len:ρ.length=σ.length
 sl:∀ (i:Nat) (d:D),ρ[i]? = some (some d)->∃ v,σ[i]? = some (some v)/\Rep G H (wn ob S Fr) d v (S i)/\clean d=true
 em:∀ i,(∀ d,ρ[i]?≠some (some d))->S i=[]
 nd:∀ i,(S i).Nodup
 dj:∀ i j a,a∈S i->a∈S j->i=j
 fdj:∀ i a,Fr a->a∉S i
 fdm:∀ a,Fr a->Mu H a
section
variable {G:Gc} {H H':Hp} {ob:Nat->Bool} {ρ:En} {σ:L2.St} {S S':Ad} {Fr Fr':Addr->Prop}
theorem Sta.mu (s:Sta G H ob ρ σ S Fr) {i:Nat} {a:Addr} (h:a∈S i):Mu H a:=by
 by_cases e:∃ d,ρ[i]? = some (some d)
 .obtain ⟨d,e⟩:=e
  obtain ⟨v,_,r,_⟩:=s.sl i d e
  exact r.dom a h
 .rw [s.em i fun d z=>e ⟨d,z⟩] at h
  cases h
theorem Sta.wok (s:Sta G H ob ρ σ S Fr):WOk H (wn ob S Fr):=fun a ha=>by
 rcases ha with z | ⟨i,_,z⟩ | ⟨i,_,z⟩
 .exact s.fdm a z
 .exact s.mu z
 .exact s.mu z
theorem Sta.rel (s:Sta G H ob ρ σ S Fr):Rel G H (wn ob S Fr) ob ρ σ:=fun i d e=>by
 obtain ⟨v,h1,h2,_⟩:=s.sl i d e
 exact ⟨v,S i,h1,h2,fun z c hc=>⟨i,z,hc⟩⟩
theorem Sta.grow (s:Sta G H ob ρ σ S Fr) (sm:Same H H') (h1:∀ a,Fr' a->Fr a∨(H a=none/\Mu H' a)):Sta G H' ob ρ σ S Fr' where
 len:=s.len
 sl:=fun i d e=>by
  obtain ⟨v,q1,q2,q3⟩:=s.sl i d e
  have hc:aH d=true/\aF d=true:=by simpa [clean] using q3
  have ev:Evo H H' (wn ob S Fr) (wn ob S Fr'):=⟨fun b u h f=>⟨sm b u h,⟨fun z=>(h1 b z).elim f.1 (fun z=>by rw [z.1] at h; cases h),f.2⟩⟩,fun b xs h=>sm b _ h⟩
  exact ⟨v,q1,q2.mono ev (.inl hc.1) (.inl hc.2) fun c _ u e=>sm c u e,q3⟩
 em:=s.em
 nd:=s.nd
 dj:=s.dj
 fdj:=fun i a h z=>by
  rcases h1 a h with q | q
  .exact s.fdj i a q z
  .obtain ⟨o,ho,_⟩:=s.mu z
   rw [q.1] at ho; cases ho
 fdm:=fun a h=>by
  rcases h1 a h with q | q
  .obtain ⟨o,ho,hm⟩:=s.fdm a q
   exact ⟨o,sm a o ho,hm⟩
  .exact q.2
theorem Sta.lessF (s:Sta G H ob ρ σ S Fr) (h1:∀ a,Fr' a->Fr a):Sta G H ob ρ σ S Fr':=s.grow (Same.refl H) fun a h=>.inl (h1 a h)
end
def RfE (G:Gc) (ob:Nat->Bool) (t:TE) (f:En->Option D):Prop:=∀ (ρ:En) (d:D),f ρ=some d->∀ (σ:L2.St) (H:Hp) (W:Wn),Rel G H W ob ρ σ->WOk H W->∀ Q:VK,
 (∀ v H' L,Same H H'->Rep G H' (W.add L) d v L->(∀ a∈L,H a=none)->L.Nodup->Q v H')->t σ H Q
def RfT (G:Gc) (ob:Nat->Bool) (t:TT) (f:En->Option Bool):Prop:=∀ (ρ:En) (b:Bool),f ρ=some b->∀ (σ:L2.St) (H:Hp) (W:Wn),Rel G H W ob ρ σ->WOk H W->∀ Q:Bool->Hp->Prop,
 (∀ H',Same H H'->Q b H')->t σ H Q
def RfA (G:Gc) (ob:Nat->Bool) (t:TA) (f:En->Option (List D)):Prop:=∀ (ρ:En) (ds:List D),f ρ=some ds->∀ (σ:L2.St) (H:Hp) (W:Wn),Rel G H W ob ρ σ->WOk H W->∀ Q:List V->Hp->Prop,
 (∀ vs H' L,Same H H'->aN G H' (W.add L) ds vs L->(∀ a∈L,H a=none)->L.Nodup->Q vs H')->t σ H Q
structure Eff (ob:Nat->Bool) (H H':Hp) (S S':Ad) (M:List Addr):Prop where
 kp:∀ b u,H b=some u->¬ inO ob S b->H' b=some u
 sn:∀ i,ob i=false->S' i=S i
 gr:∀ i a,ob i=true->a∈S' i->inO ob S a∨H a=none
 fm:∀ a∈M,inO ob S a∨H a=none
def mF (G:Gc) (ob:Nat->Bool) (t:TE) (f:En->Option (D×En)):Prop:=∀ (ρ:En) (d:D) (ρ':En),f ρ=some (d,ρ')->∀ (σ:L2.St) (H:Hp) (S:Ad) (Fr:Addr->Prop),Sta G H ob ρ σ S Fr->∀ Q:VK,
 (∀ v H' M S',Sta G H' ob ρ' σ S' (plus M Fr)->Rep G H' (wn ob S' (plus M Fr)) d v M->M.Nodup->Eff ob H H' S S' M->Q v H')->t σ H Q
def uZ (G:Gc) (ob:Nat->Bool) (t:TT) (f:En->Option (Bool×En)):Prop:=∀ (ρ:En) (b:Bool) (ρ':En),f ρ=some (b,ρ')->∀ (σ:L2.St) (H:Hp) (S:Ad) (Fr:Addr->Prop),Sta G H ob ρ σ S Fr->∀ Q:Bool->Hp->Prop,
 (∀ H' S',Sta G H' ob ρ' σ S' Fr->Eff ob H H' S S' []->Q b H')->t σ H Q
def yF (G:Gc) (ob:Nat->Bool) (t:TA) (f:En->Option (List D×En)):Prop:=∀ (ρ:En) (ds:List D) (ρ':En),f ρ=some (ds,ρ')->∀ (σ:L2.St) (H:Hp) (S:Ad) (Fr:Addr->Prop),Sta G H ob ρ σ S Fr->∀ Q:List V->Hp->Prop,
 (∀ vs H' M S',Sta G H' ob ρ' σ S' (plus M Fr)->aN G H' (wn ob S' (plus M Fr)) ds vs M->M.Nodup->Eff ob H H' S S' M->Q vs H')->t σ H Q
inductive Fl where
 | nx (ρ:En) | ret (d:D) (ρ:En) | brk (ρ:En) | cnt (ρ:En)
def Ar (P:Nat->Bool) (σ σ':L2.St):Prop:=∀ i,P i=true->σ'[i]? = σ[i]?
theorem Ar.refl {P:Nat->Bool} {σ:L2.St}:Ar P σ σ:=fun _ _=>rfl
theorem Ar.trans {P:Nat->Bool} {σ σ1 σ2:L2.St} (a:Ar P σ σ1) (b:Ar P σ1 σ2):Ar P σ σ2:=fun i h=>(b i h).trans (a i h)
structure Mv (P:Nat->Bool) (H H':Hp) (σ σ':L2.St) (S S':Ad) (M:List Addr):Prop where
 kp:∀ b u,H b=some u->¬ inS S b->b∉M->H' b=some u
 gr:∀ i a,a∈S' i->inS S a∨a∈M∨H a=none
 pr:Ar P σ σ'
theorem Mv.trans {P:Nat->Bool} {H H1 H2:Hp} {σ σ1 σ2:L2.St} {S S1 S2:Ad} {M:List Addr} (a:Mv P H H1 σ σ1 S S1 M) (b:Mv P H1 H2 σ1 σ2 S1 S2 []):Mv P H H2 σ σ2 S S2 M where
 kp:=fun c u h n m=>b.kp c u (a.kp c u h n m) (fun ⟨i,z⟩=>(a.gr i c z).elim n fun z=>z.elim m fun e=>by rw [h] at e; cases e) (by simp)
 gr:=fun i c z=>by
  rcases b.gr i c z with ⟨j,q⟩ | q | q
  .exact a.gr j c q
  .cases q
  .by_cases h:inS S c
   .exact .inl h
   .by_cases hm:c∈M
    .exact .inr (.inl hm)
    .refine .inr (.inr ?_)
     cases e:H c with
     | none=>rfl
     | some u=>rw [a.kp c u e h hm] at q; cases q
 pr:=a.pr.trans b.pr
theorem Eff.mv {P:Nat->Bool} {ob:Nat->Bool} {H H':Hp} {σ:L2.St} {S S':Ad} {M:List Addr} (e:Eff ob H H' S S' M):Mv P H H' σ σ S S' [] where
 kp:=fun b u h n _=>e.kp b u h fun ⟨i,_,z⟩=>n ⟨i,z⟩
 gr:=fun i a z=>by
  cases h:ob i with
  | false=>rw [e.sn i h] at z; exact .inl ⟨i,z⟩
  | true=>exact (e.gr i a h z).imp (fun ⟨j,_,q⟩=>⟨j,q⟩) .inr
 pr:=.refl
def Aft (G:Gc) (ob P:Nat->Bool) (H:Hp) (σ:L2.St) (S:Ad) (Fr:Addr->Prop) (E:Ends):Fl->Prop
 | .nx ρ'=>∀ σ' H' S',Sta G H' ob ρ' σ' S' Fr->Mv P H H' σ σ' S S' []->E.nx σ' H'
 | .brk ρ'=>∀ σ' H' S',Sta G H' ob ρ' σ' S' Fr->Mv P H H' σ σ' S S' []->E.bk σ' H'
 | .cnt ρ'=>∀ σ' H' S',Sta G H' ob ρ' σ' S' Fr->Mv P H H' σ σ' S S' []->E.ct σ' H'
 | .ret d ρ'=>∀ v σ' H' M S',Sta G H' ob ρ' σ' S' (plus M Fr)->Rep G H' (wn ob S' (plus M Fr)) d v M->clean d=true->M.Nodup->(∀ a∈M,inS S a∨H a=none)->Mv P H H' σ σ' S S' []->E.rt v H'
def RfS (G:Gc) (ob P:Nat->Bool) (t:TS) (f:En->Option Fl):Prop:=∀ (ρ:En) (r:Fl),f ρ=some r->∀ (σ:L2.St) (H:Hp) (S:Ad) (Fr:Addr->Prop),Sta G H ob ρ σ S Fr->∀ E:Ends,Aft G ob P H σ S Fr E r->t E σ H
def RfG (G:Gc) (ob P:Nat->Bool) (g:TG) (f:D->En->Option En):Prop:=∀ (d:D) (ρ ρ':En),f d ρ=some ρ'->∀ (v:V) (σ:L2.St) (H:Hp) (S:Ad) (M:List Addr) (Fr:Addr->Prop),Sta G H ob ρ σ S (plus M Fr)->Rep G H (wn ob S (plus M Fr)) d v M->M.Nodup->(∀ a∈M,¬ Fr a)->
 ∀ Q:L2.St->Hp->Prop,(∀ σ' H' S',Sta G H' ob ρ' σ' S' Fr->Mv P H H' σ σ' S S' M->Q σ' H')->g v σ H Q
def Qt (G:Gc) (ob P:Nat->Bool) (g:TGs) (f:List D->En->Option En):Prop:=∀ (ds:List D) (ρ ρ':En),f ds ρ=some ρ'->∀ (vs:List V) (σ:L2.St) (H:Hp) (S:Ad) (M:List Addr) (Fr:Addr->Prop),Sta G H ob ρ σ S (plus M Fr)->aN G H (wn ob S (plus M Fr)) ds vs M->M.Nodup->(∀ a∈M,¬ Fr a)->
 ∀ Q:L2.St->Hp->Prop,(∀ σ' H' S',Sta G H' ob ρ' σ' S' Fr->Mv P H H' σ σ' S S' M->Q σ' H')->g vs σ H Q
structure PV {ι:Type} (X:ι->Cx) (G:Gc) (ob:Nat->Bool) (e:Expr) (f:En->Option D):Prop where
 mk :: (ex:∃ t,(∀ c,PE (X c) e t)/\RfE G ob t f)
structure PVT {ι:Type} (X:ι->Cx) (G:Gc) (ob:Nat->Bool) (e:Expr) (f:En->Option Bool):Prop where
 mk :: (ex:∃ t,(∀ c,PT (X c) e t)/\RfT G ob t f)
structure PVW {ι:Type} (X:ι->Cx) (G:Gc) (ob:Nat->Bool) (e:Expr) (f:En->Option Bool):Prop where
 mk :: (ex:∃ t,(∀ c,PW (X c) e t)/\RfT G ob t f)
structure PVA {ι:Type} (X:ι->Cx) (G:Gc) (ob:Nat->Bool) (es:List Expr) (f:En->Option (List D)):Prop where
 mk :: (ex:∃ t,(∀ c,PA (X c) es t)/\RfA G ob t f)
structure PVe {ι:Type} (X:ι->Cx) (G:Gc) (ob:Nat->Bool) (e:Expr) (f:En->Option (D×En)):Prop where
 mk :: (ex:∃ t,(∀ c,PE (X c) e t)/\mF G ob t f)
structure wM {ι:Type} (X:ι->Cx) (G:Gc) (ob:Nat->Bool) (e:Expr) (f:En->Option (Bool×En)):Prop where
 mk :: (ex:∃ t,(∀ c,PT (X c) e t)/\uZ G ob t f)
structure JG {ι:Type} (X:ι->Cx) (G:Gc) (ob:Nat->Bool) (e:Expr) (f:En->Option (Bool×En)):Prop where
 mk :: (ex:∃ t,(∀ c,PW (X c) e t)/\uZ G ob t f)
structure tE {ι:Type} (X:ι->Cx) (G:Gc) (ob:Nat->Bool) (es:List Expr) (f:En->Option (List D×En)):Prop where
 mk :: (ex:∃ t,(∀ c,PA (X c) es t)/\yF G ob t f)
structure PVS {ι:Type} (X:ι->Cx) (G:Gc) (ob P:Nat->Bool) (st:Stmt) (f:En->Option Fl):Prop where
 mk :: (ex:∃ t,(∀ c,PS (X c) st t)/\RfS G ob P t f)
structure tL {ι:Type} (X:ι->Cx) (G:Gc) (ob P:Nat->Bool) (st:List Stmt) (f:En->Option Fl):Prop where
 mk :: (ex:∃ t,(∀ c,PSs (X c) st t)/\RfS G ob P t f)
structure PVG {ι:Type} (X:ι->Cx) (G:Gc) (ob P:Nat->Bool) (tg:Expr) (f:D->En->Option En):Prop where
 mk :: (ex:∃ t,(∀ c,PG (X c) tg t)/\RfG G ob P t f)
theorem jc {L M:List Addr} (h1:L.Nodup) (h2:M.Nodup) (h3:∀ a∈L,a∉M):(L++M).Nodup:=List.nodup_append.mpr ⟨h1,h2,fun a ha b hb e=>h3 a ha (e ▸ hb)⟩
def Wn.drop (W:Wn) (L:List Addr):Wn:=⟨fun a=>W.n a/\a∉L,W.s,W.o⟩
def Wn.tmp (W:Wn) (a:Addr):Prop:=W.n a/\¬ W.s a/\¬ W.o a
theorem WOk.tmp {H:Hp} {W:Wn} {L:List Addr} (w:WOk H W) (fr:∀ a∈L,H a=none):∀ a∈L,(W.add L).tmp a:=fun a ha=>by
 refine ⟨.inl ha,fun z=>?_,fun z=>?_⟩
 .obtain ⟨o,ho,_⟩:=w a (.inr (.inl z)); rw [fr a ha] at ho; cases ho
 .obtain ⟨o,ho,_⟩:=w a (.inr (.inr z)); rw [fr a ha] at ho; cases ho
def Done (G:Gc) (H:Hp) (W:Wn) (L0:List Addr) (d:D) (Q:VK):Prop:=∀ v H' L,Same H H'->Rep G H' ((W.drop L0).add L) d v L->(∀ a∈L,a∈L0∨H a=none)->L.Nodup->Q v H'
def OpV (G:Gc) (r:R2) (g:D->D->Option D):Prop:=∀ (dx dy d:D),g dx dy=some d->∀ (x y:V) (H:Hp) (W:Wn) (Lx Ly:List Addr),Rep G H W dx x Lx->Rep G H W dy y Ly->(Lx++Ly).Nodup->(∀ a∈Lx++Ly,W.tmp a)->WOk H W->∀ Q:VK,Done G H W (Lx++Ly) d Q->r x y H Q
def UnV (G:Gc) (r:V->Hp->VK->Prop) (g:D->Option D):Prop:=∀ (dx d:D),g dx=some d->∀ (x:V) (H:Hp) (W:Wn) (Lx:List Addr),Rep G H W dx x Lx->Lx.Nodup->(∀ a∈Lx,W.tmp a)->WOk H W->∀ Q:VK,Done G H W Lx d Q->r x H Q
def CaV (G:Gc) (r:List V->Hp->VK->Prop) (g:List D->Option D):Prop:=∀ (ds:List D) (d:D),g ds=some d->∀ (xs:List V) (H:Hp) (W:Wn) (L0:List Addr),aN G H W ds xs L0->L0.Nodup->(∀ a∈L0,W.tmp a)->WOk H W->∀ Q:VK,Done G H W L0 d Q->r xs H Q
def MtV (G:Gc) (r:V->List V->Hp->VK->Prop) (g:D->List D->Option D):Prop:=∀ (dx:D) (ds:List D) (d:D),g dx ds=some d->∀ (x:V) (xs:List V) (H:Hp) (W:Wn) (Lx L0:List Addr),Rep G H W dx x Lx->aN G H W ds xs L0->(Lx++L0).Nodup->(∀ a∈Lx++L0,W.tmp a)->WOk H W->∀ Q:VK,Done G H W (Lx++L0) d Q->r x xs H Q
theorem WOk.new {H:Hp} {W:Wn} {L:List Addr} (w:WOk H W) (fr:∀ a∈L,H a=none) {a:Addr} (h:W.n a):a∉L:=fun z=>by
 obtain ⟨o,ho,_⟩:=w a (.inl h)
 rw [fr a z] at ho; cases ho
theorem Done.scal {G:Gc} {H:Hp} {W:Wn} {L0:List Addr} {d:D} {Q:VK} {v:V} (h:Done G H W L0 d Q) (r:∀ W,Rep G H W d v []):Q v H:=h v H [] (Same.refl H) (r _) (by simp) List.nodup_nil
section
variable {G:Gc} {ob:Nat->Bool} {ta tb:TE}
theorem _root_.L2.Same.none' {H H':Hp} (s:Same H H') {a:Addr} (h:H' a=none):H a=none:=Same.free s h
theorem RfE.two {fa fb:En->Option D} (ha:RfE G ob ta fa) (hb:RfE G ob tb fb) {ρ:En} {dx dy:D} (e1:fa ρ=some dx) (e2:fb ρ=some dy) {σ:L2.St} {H:Hp} {W:Wn} (r:Rel G H W ob ρ σ) (w:WOk H W) {R:V->V->Hp->Prop}
  (h:∀ x y H' L M,Same H H'->Rep G H' (W.add (L++M)) dx x L->Rep G H' (W.add (L++M)) dy y M->(∀ a∈L++M,H a=none)->(L++M).Nodup->WOk H' (W.add (L++M))->R x y H'):ta σ H fun x H1=>tb σ H1 fun y H2=>R x y H2:=by
 refine ha ρ dx e1 σ H W r w _ fun x H1 L s1 rx fx nx=>?_
 have u1:Up H H1 W (W.add L):=.add s1 fx
 have w1:WOk H1 (W.add L):=w.add s1 rx.dom
 refine hb ρ dy e2 σ H1 (W.add L) (r.up u1) w1 _ fun y H2 M s2 ry fy ny=>?_
 have hLM:∀ a∈L,a∉M:=fun a h1 h2=>by
  obtain ⟨o,ho,_⟩:=rx.dom a h1
  rw [fy a h2] at ho; cases ho
 have eW:∀ a,((W.add L).add M).n a↔(W.add (L++M)).n a:=fun a=>by
  show (a∈M∨a∈L∨W.n a)↔(a∈L++M∨W.n a)
  rw [List.mem_append]
  constructor
  .rintro (z | z | z)
   .exact .inl (.inr z)
   .exact .inl (.inl z)
   .exact .inr z
  .rintro ((z | z) | z)
   .exact .inr (.inl z)
   .exact .inl z
   .exact .inr (.inr z)
 have eW':(W.add L).add M=W.add (L++M):=by
  show Wn.mk _ _ _=Wn.mk _ _ _
  congr 1
  funext a
  exact propext (eW a)
 have u2:Up H1 H2 (W.add L) (W.add (L++M)):=by rw [← eW']; exact .add s2 fy
 rw [eW'] at ry
 refine h x y H2 L M (s1.trans s2) (rx.up u2) ry (fun a ha=>?_) (jc nx ny hLM) ?_
 .rcases List.mem_append.mp ha with z | z
  .exact fx a z
  .exact s1.none' (fy a z)
 .rw [← eW']
  exact w1.add s2 ry.dom
end
def aq (b:Bool) (i:Nat):En->Option D:=fun ρ=>match ρ[i]? with
 | some (some d)=>some (view b d)
 | _=>none
def eC (d:D):En->Option D:=fun _=>some d
section
variable {ι:Type} {X:ι->Cx} {G:Gc} {ob:Nat->Bool}
theorem vN (W:Wn):W.add []=W:=by
 cases W
 simp [Wn.add]
theorem N6 {i:Nat}:RfE G ob (Ke i) (aq (ob i) i):=fun ρ d e σ H W r w Q q=>by
 unfold aq at e
 split at e
 .rename_i d0 e0
  cases e
  obtain ⟨v,L,h1,h2,h3⟩:=r i d0 e0
  refine ⟨v,h1,q v H [] (Same.refl H) ?_ (by simp) List.nodup_nil⟩
  rw [vN]
  exact h2.view h3
 .cases e
theorem aj (b:Bool) (i:Nat) {x:Str} {pos:Pos} (hb:ob i=b:=by rfl) (hN:∀ c,(X c).N[i]? = some x:=by intro _; rfl) (hv:∀ c,Vis (X c).env.scope x:=by intro _; first | exact Or.inl rfl | exact Or.inr (Or.inl rfl) | exact Or.inr (Or.inr rfl)) (hd:(x == ("__debug__" : Str))=false:=by decide) (hcd:(x == ("__classdict__" : Str))=false:=by decide):PV X G ob (.Name x pos) (aq b i):=⟨_,fun c=>pv i (hN c) (hv c) hd hcd,by rw [← hb]; exact N6⟩
theorem F_ {d:D} {v:V} (h:∀ H W,Rep G H W d v []):RfE G ob (tC v) (eC d):=fun ρ d' e σ H W r w Q q=>by
 cases e
 exact q v H [] (Same.refl H) (h _ _) (by simp) List.nodup_nil
theorem au {i j pos}:PV X G ob (.Constant (.int i) j pos) (eC (.int i)):=⟨_,fun c=>Ni,F_ fun _ _=>by simp [Rep]⟩
theorem j0 {b j pos}:PV X G ob (.Constant (.bool b) j pos) (eC (.bl b)):=⟨_,fun c=>Ou,F_ fun _ _=>by simp [Rep]⟩
theorem oH {j pos}:PV X G ob (.Constant .none j pos) (eC .non):=⟨_,fun c=>Lh,F_ fun _ _=>by simp [Rep]⟩
theorem kE {x j pos}:PV X G ob (.Constant (.str x) j pos) (eC (.str x)):=⟨_,fun c=>Ls,F_ fun _ _=>by simp [Rep]⟩
theorem qu {x:Str} {n:String} {pos:Pos} (hg:∀ c,Gl (X c) x) (hm:∀ c,(X c).mg x=none) (hv:bootBuiltins x=some (.type n)) (hn:x≠"__name__" := by decide) (hd:(x == ("__debug__" : Str))=false:=by decide):PV X G ob (.Name x pos) (eC (.ty n)):=⟨_,fun c=>Qd (hg c) (hm c) hv hn hd,F_ fun _ _=>by simp [Rep]⟩
structure OpB {ι:Type} (X:ι->Cx) (G:Gc) (f:Value->Value->Sem Value) (g:D->D->Option D):Prop where
 ex:∃ r,(∀ c,OpR (X c) f r)/\OpV G r g
structure UnB {ι:Type} (X:ι->Cx) (G:Gc) (f:Value->Sem Value) (g:D->Option D):Prop where
 ex:∃ r,(∀ c,UnR (X c) f r)/\UnV G r g
structure IxB {ι:Type} (X:ι->Cx) (G:Gc) (g:D->D->Option D):Prop where
 ex:∃ r,(∀ c,IxR (X c) r)/\OpV G r g
structure CaB {ι:Type} (X:ι->Cx) (G:Gc) (f:Value) (g:List D->Option D):Prop where
 ex:∃ r,(∀ c,iD (X c) f r)/\CaV G r g
structure MtB {ι:Type} (X:ι->Cx) (G:Gc) (T id:String) (g:D->List D->Option D):Prop where
 ex:∃ r,(∀ c,MtR (X c) id r)/\MtV G r g/\∀ dx ds d,g dx ds=some d->∀ (x:V) (H:Hp) (W:Wn) (Lx:List Addr),Rep G H W dx x Lx->tyV G.K T x H
def e2 (g:D->D->Option D) (fa fb:En->Option D):En->Option D:=fun ρ=>(fa ρ).bind fun x=>(fb ρ).bind fun y=>g x y
def e1 (g:D->Option D) (fa:En->Option D):En->Option D:=fun ρ=>(fa ρ).bind g
theorem x_ {r:R2} {g:D->D->Option D} {ta tb:TE} {fa fb:En->Option D} (ho:OpV G r g) (ha:RfE G ob ta fa) (hb:RfE G ob tb fb):RfE G ob (tOp r ta tb) (e2 g fa fb):=fun ρ d e σ H W rl w Q q=>by
 unfold e2 at e
 cases h1:fa ρ with
 | none=>rw [h1] at e; cases e
 | some dx=>
  rw [h1] at e
  cases h2:fb ρ with
  | none=>simp [h2] at e
  | some dy=>
   have e:g dx dy=some d:=by simpa [h2] using e
   refine RfE.two ha hb h1 h2 rl w fun x y H' L M s rx ry fr nd w'=>?_
   refine ho dx dy d e x y H' _ L M rx ry nd (w.tmp fr) w' Q fun v H2 L2 s2 r2 f2 n2=>?_
   refine q v H2 L2 (s.trans s2) ?_ (fun a ha=>(f2 a ha).elim (fr a) fun z=>s.none' z) n2
   exact r2.up ⟨Same.refl _,fun b u hb f=>⟨fun z=>z.elim (fun z=>f.1 (.inl z)) fun z=>f.1 (.inr ⟨.inr z,WOk.new w fr z⟩),f.2⟩,fun _ _ _ f=>f⟩
theorem Pj {r:V->Hp->VK->Prop} {g:D->Option D} {ta:TE} {fa:En->Option D} (ho:UnV G r g) (ha:RfE G ob ta fa):RfE G ob (tUn r ta) (e1 g fa):=fun ρ d e σ H W rl w Q q=>by
 unfold e1 at e
 cases h1:fa ρ with
 | none=>rw [h1] at e; cases e
 | some dx=>
  rw [h1] at e
  have e:g dx=some d:=by simpa using e
  refine ha ρ dx h1 σ H W rl w _ fun x H' L s rx fr nd=>?_
  refine ho dx d e x H' _ L rx nd (w.tmp fr) (w.add s rx.dom) Q fun v H2 L2 s2 r2 f2 n2=>?_
  refine q v H2 L2 (s.trans s2) ?_ (fun a ha=>(f2 a ha).elim (fr a) fun z=>s.none' z) n2
  exact r2.up ⟨Same.refl _,fun b u hb f=>⟨fun z=>z.elim (fun z=>f.1 (.inl z)) fun z=>f.1 (.inr ⟨.inr z,WOk.new w fr z⟩),f.2⟩,fun _ _ _ f=>f⟩
def aB:En->Option (List D):=fun _=>some []
def ak (fa:En->Option D) (fr:En->Option (List D)):En->Option (List D):=fun ρ=>(fa ρ).bind fun x=>(fr ρ).bind fun xs=>some (x :: xs)
theorem Nz:RfA G ob PL aB:=fun ρ ds e σ H W rl w Q q=>by
 cases e
 exact q [] H [] (Same.refl H) .nil (by simp) List.nodup_nil
theorem JS {ta:TE} {t:TA} {fa:En->Option D} {fr:En->Option (List D)} (ha:RfE G ob ta fa) (hr:RfA G ob t fr):RfA G ob (EY ta t) (ak fa fr):=fun ρ ds e σ H W rl w Q q=>by
 unfold ak at e
 cases h1:fa ρ with
 | none=>rw [h1] at e; cases e
 | some dx=>
  rw [h1] at e
  cases h2:fr ρ with
  | none=>simp [h2] at e
  | some es=>
   have e:dx :: es=ds:=by simpa [h2] using e
   subst e
   refine ha ρ dx h1 σ H W rl w _ fun x H1 L s1 rx fx nx=>?_
   have u1:Up H H1 W (W.add L):=.add s1 fx
   have w1:WOk H1 (W.add L):=w.add s1 rx.dom
   refine hr ρ es h2 σ H1 (W.add L) (rl.up u1) w1 _ fun ys H2 M s2 ry fy ny=>?_
   have hLM:∀ a∈L,a∉M:=fun a h1 h2=>by
    obtain ⟨o,ho,_⟩:=rx.dom a h1
    rw [fy a h2] at ho; cases ho
   have u2:Up H1 H2 (W.add L) (W.add (L++M)):=⟨s2,fun b u hb f=>⟨fun z=>z.elim (fun z=>(List.mem_append.mp z).elim (fun z=>f.1 (.inl z)) fun z=>by rw [fy b z] at hb; cases hb) fun z=>f.1 (.inr z),f.2⟩,fun _ _ _ f=>f⟩
   refine q (x :: ys) H2 (L++M) (s1.trans s2) (.cons (rx.up u2) (ry.up ⟨Same.refl _,fun b u hb f=>⟨fun z=>?_,f.2⟩,fun _ _ _ f=>f⟩)) (fun a ha=>?_) (jc nx ny hLM)
   .rcases z with z | z
    .exact (List.mem_append.mp z).elim (fun z=>f.1 (.inr (.inl z))) fun z=>f.1 (.inl z)
    .exact f.1 (.inr (.inr z))
   .rcases List.mem_append.mp ha with z | z
    .exact fx a z
    .exact s1.none' (fy a z)
theorem wC {r:List V->Hp->VK->Prop} {g:List D->Option D} {t:TA} {f:En->Option (List D)} (ho:CaV G r g) (h:RfA G ob t f):RfE G ob (fun σ H Q=>t σ H fun vs H1=>r vs H1 Q) (fun ρ=>(f ρ).bind g):=fun ρ d e σ H W rl w Q q=>by
 cases h1:f ρ with
 | none=>simp [h1] at e
 | some ds=>
  have e:g ds=some d:=by simpa [h1] using e
  refine h ρ ds h1 σ H W rl w _ fun xs H' L s rx fr nd=>?_
  refine ho ds d e xs H' _ L rx nd (w.tmp fr) (w.add s rx.dom) Q fun v H2 L2 s2 r2 f2 n2=>?_
  refine q v H2 L2 (s.trans s2) ?_ (fun a ha=>(f2 a ha).elim (fr a) fun z=>s.none' z) n2
  exact r2.up ⟨Same.refl _,fun b u hb f=>⟨fun z=>z.elim (fun z=>f.1 (.inl z)) fun z=>f.1 (.inr ⟨.inr z,WOk.new w fr z⟩),f.2⟩,fun _ _ _ f=>f⟩
def eAp (g:List D->Option D) (f:En->Option (List D)):En->Option D:=fun ρ=>(f ρ).bind g
theorem Qh {r:V->List V->Hp->VK->Prop} {g:D->List D->Option D} {T:String} {to:TE} {t:TA} {fo:En->Option D} {f:En->Option (List D)} (ho:MtV G r g) (hty:∀ dx ds d,g dx ds=some d->∀ (x:V) (H:Hp) (W:Wn) (Lx:List Addr),Rep G H W dx x Lx->tyV G.K T x H)
  (h0:RfE G ob to fo) (h:RfA G ob t f):RfE G ob (tBM G.K T r to t) (fun ρ=>(fo ρ).bind fun x=>(f ρ).bind fun ds=>g x ds):=fun ρ d e σ H W rl w Q q=>by
 cases h1:fo ρ with
 | none=>simp [h1] at e
 | some dx=>
  cases h2:f ρ with
  | none=>simp [h1,h2] at e
  | some ds=>
   have e:g dx ds=some d:=by simpa [h1,h2] using e
   refine h0 ρ dx h1 σ H W rl w _ fun x H1 L s1 rx fx nx=>⟨hty dx ds d e x H1 _ L rx,?_⟩
   have u1:Up H H1 W (W.add L):=.add s1 fx
   have w1:WOk H1 (W.add L):=w.add s1 rx.dom
   refine h ρ ds h2 σ H1 (W.add L) (rl.up u1) w1 _ fun ys H2 M s2 ry fy ny=>?_
   have hLM:∀ a∈L,a∉M:=fun a h1 h2=>by
    obtain ⟨o,ho,_⟩:=rx.dom a h1
    rw [fy a h2] at ho; cases ho
   have u2:Up H1 H2 (W.add L) (W.add (L++M)):=⟨s2,fun b u hb f=>⟨fun z=>z.elim (fun z=>(List.mem_append.mp z).elim (fun z=>f.1 (.inl z)) fun z=>by rw [fy b z] at hb; cases hb) fun z=>f.1 (.inr z),f.2⟩,fun _ _ _ f=>f⟩
   have u3:Up H2 H2 ((W.add L).add M) (W.add (L++M)):=⟨Same.refl _,fun b u hb f=>⟨fun z=>by
    rcases z with z | z
    .exact (List.mem_append.mp z).elim (fun z=>f.1 (.inr (.inl z))) fun z=>f.1 (.inl z)
    .exact f.1 (.inr (.inr z)),f.2⟩,fun _ _ _ f=>f⟩
   have w2:WOk H2 (W.add (L++M)):=w.add (s1.trans s2) fun a ha=>(List.mem_append.mp ha).elim (fun z=>let ⟨o,h,m⟩:=rx.dom a z; ⟨o,s2 a o h,m⟩) (ry.dom a)
   refine ho dx ds d e x ys H2 (W.add (L++M)) L M (rx.up u2) (ry.up u3) (jc nx ny hLM) (w.tmp fun a ha=>(List.mem_append.mp ha).elim (fx a) fun z=>s1.none' (fy a z)) w2 Q fun v H3 L3 s3 r3 f3 n3=>?_
   refine q v H3 L3 ((s1.trans s2).trans s3) ?_ (fun a ha=>(f3 a ha).elim (fun z=>?_) fun z=>(s1.trans s2).none' z) n3
   .exact r3.up ⟨Same.refl _,fun b u hb f=>⟨fun z=>z.elim (fun z=>f.1 (.inl z)) fun z=>f.1 (.inr ⟨.inr z,WOk.new w (fun a ha=>(List.mem_append.mp ha).elim (fx a) fun z=>s1.none' (fy a z)) z⟩),f.2⟩,fun _ _ _ f=>f⟩
   .rcases List.mem_append.mp z with z | z
    .exact fx a z
    .exact s1.none' (fy a z)
variable {a b:Expr} {fa fb:En->Option D} {pos:Pos}
theorem bJ {op:Operator} {g:D->D->Option D} (o:OpB X G (binaryOp op) g) (ha:PV X G ob a fa) (hb:PV X G ob b fb):PV X G ob (.BinOp a op b pos) (e2 g fa fb):=let ⟨r,o1,o2⟩:=o.ex; let ⟨t,a1,a2⟩:=ha.ex; let ⟨u,b1,b2⟩:=hb.ex; ⟨_,fun c=>Kw (o1 c) (a1 c) (b1 c),x_ o2 a2 b2⟩
theorem oU {op:CmpOp} {g:D->D->Option D} (o:OpB X G (compareOp op) g) (ha:PV X G ob a fa) (hb:PV X G ob b fb) (hm:behindInMarks op b=false:=by with_unfolding_all rfl):PV X G ob (.Compare a [op] [b] pos) (e2 g fa fb):=let ⟨r,o1,o2⟩:=o.ex; let ⟨t,a1,a2⟩:=ha.ex; let ⟨u,b1,b2⟩:=hb.ex; ⟨_,fun c=>A_ (o1 c) (a1 c) (b1 c) hm,x_ o2 a2 b2⟩
theorem lY {op:UnaryOp} {g:D->Option D} (o:UnB X G (unaryOp op) g) (ha:PV X G ob a fa):PV X G ob (.UnaryOp op a pos) (e1 g fa):=let ⟨r,o1,o2⟩:=o.ex; let ⟨t,a1,a2⟩:=ha.ex; ⟨_,fun c=>Qo (o1 c) (a1 c),Pj o2 a2⟩
theorem fJ {g:D->D->Option D} (o:IxB X G g) (ha:PV X G ob a fa) (hb:PV X G ob b fb) (hs:xf b:=by exact fun _ _=>rfl):PV X G ob (.Subscript a b pos) (e2 g fa fb):=let ⟨r,o1,o2⟩:=o.ex; let ⟨t,a1,a2⟩:=ha.ex; let ⟨u,b1,b2⟩:=hb.ex; ⟨_,fun c=>K7 (o1 c) (a1 c) (b1 c) hs,x_ o2 a2 b2⟩
theorem ao  : PVA X G ob [] aB:=⟨_,fun c=>LK,Nz⟩
theorem aa {e:Expr} {es:List Expr} {f:En->Option D} {fr:En->Option (List D)} (ha:PV X G ob e f) (hr:PVA X G ob es fr) (hs:∀ c,starEach (e :: es) (X c).env=(false,eval e (X c).env) :: starEach es (X c).env:=by intro _; rfl):PVA X G ob (e :: es) (ak f fr):=let ⟨t,a1,a2⟩:=ha.ex; let ⟨u,b1,b2⟩:=hr.ex; ⟨_,fun c=>wH (a1 c) (b1 c) (hs c),JS a2 b2⟩
section
variable {e:Expr} {es:List Expr} {f:En->Option (List D)} {p:Pos} {x:Str}
theorem aY {id:String} {g:List D->Option D} (o:CaB X G (.builtin id) g) (hg:∀ c,Gl (X c) x) (hm:∀ c,(X c).mg x=none) (hv:bootBuiltins x=some (.builtin id)) (ha:PVA X G ob (e :: es) f) (hn:x≠"__name__" := by decide) (hdb:(x == ("__debug__" : Str))=false:=by decide) (he:∀ c,starEach (e :: es) (X c).env=(false,eval e (X c).env) :: starEach es (X c).env:=by intro _; rfl) (hpl:∀ c,(backTo pos (starEach es (X c).env)).any (·.1)=false:=by intro _; rfl):PV X G ob (.Call (.Name x p) (e :: es) [] pos) (eAp g f):=let ⟨r,o1,o2⟩:=o.ex; let ⟨t,a1,a2⟩:=ha.ex; ⟨_,fun c=>yH (o1 c) (hg c) (hm c) hv (a1 c) hn hdb (he c) (hpl c),wC o2 a2⟩
theorem gB {T:String} {g:List D->Option D} (o:CaB X G (.type T) g) (hg:∀ c,Gl (X c) x) (hm:∀ c,(X c).mg x=none) (hv:bootBuiltins x=some (.type T)) (ha:PVA X G ob (e :: es) f) (hn:x≠"__name__" := by decide) (hdb:(x == ("__debug__" : Str))=false:=by decide) (he:∀ c,starEach (e :: es) (X c).env=(false,eval e (X c).env) :: starEach es (X c).env:=by intro _; rfl) (hpl:∀ c,(backTo pos (starEach es (X c).env)).any (·.1)=false:=by intro _; rfl):PV X G ob (.Call (.Name x p) (e :: es) [] pos) (eAp g f):=let ⟨r,o1,o2⟩:=o.ex; let ⟨t,a1,a2⟩:=ha.ex; ⟨_,fun c=>wA (o1 c) (hg c) (hm c) hv (a1 c) hn hdb (he c) (hpl c),wC o2 a2⟩
end
def bL (ds:List D):Option D:=if ds.length<=1000 then some (.tup ds) else none
def bM (ds:List D):Option D:=if ds.length<=1000 then some (.lst .own ds) else none
theorem zE {n:Nat} (h:n<=1000):n<=sizeLine:=Nat.le_trans h (by decide)
theorem Bd:CaV G (fun xs H Q=>xs.length<=sizeLine/\∀ p,H p=none->Q (.ref p) (upd H p (.tup xs))) bL:=fun ds d e xs H W L0 r nd hn w Q q=>by
 unfold bL at e
 split at e
 .rename_i hl
  cases e
  refine ⟨zE (by rw [← r.length]; exact hl),fun p hp=>?_⟩
  have sm:Same H (upd H p (.tup xs)):=Same.new hp
  refine q (.ref p) _ L0 sm ?_ (fun a ha=>.inl ha) nd
  rw [Rep]
  exact ⟨p,xs,rfl,dg,r.up ⟨sm,fun b u hb f=>⟨fun z=>z.elim (fun z=>f.1 (hn b z).1) fun z=>f.1 z.1,f.2⟩,fun _ _ _ f=>f⟩⟩
 .cases e
theorem Bm:CaV G (fun xs H Q=>xs.length<=sizeLine/\∀ p,H p=none->Q (.ref p) (upd H p (.lst xs))) bM:=fun ds d e xs H W L0 r nd hn w Q q=>by
 unfold bM at e
 split at e
 .rename_i hl
  cases e
  refine ⟨zE (by rw [← r.length]; exact hl),fun p hp=>?_⟩
  have sm:Same H (upd H p (.lst xs)):=Same.new hp
  refine q (.ref p) _ (p :: L0) sm ?_ (fun a ha=>(List.mem_cons.mp ha).elim (fun z=>.inr (by rw [z]; exact hp)) .inl) (List.nodup_cons.mpr ⟨fun z=>?_,nd⟩)
  .rw [Rep]
   exact ⟨p,xs,L0,rfl,r.up ⟨sm,fun b u hb f=>⟨fun z=>z.elim (fun z=>(List.mem_cons.mp z).elim (fun z=>by rw [z,hp] at hb; cases hb) fun z=>f.1 (hn b z).1) fun z=>f.1 z.1,f.2⟩,fun _ _ _ f=>f⟩,dg,rfl⟩
  .obtain ⟨o,ho,_⟩:=r.dom p z
   rw [hp] at ho; cases ho
 .cases e
theorem dY {es:List Expr} {k:Nat} {f:En->Option (List D)} (h:PVA X G ob es f):PV X G ob (.Tuple es k pos) (eAp bL f):=let ⟨t,a1,a2⟩:=h.ex; ⟨_,fun c=>H9 (a1 c),wC Bd a2⟩
theorem dU {es:List Expr} {f:En->Option (List D)} (h:PVA X G ob es f):PV X G ob (.List es pos) (eAp bM f):=let ⟨t,a1,a2⟩:=h.ex; ⟨_,fun c=>Fe (a1 c),wC Bm a2⟩
end
section
variable {G:Gc} {ob:Nat->Bool} {H H1 H2:Hp} {S S1 S2:Ad} {L M:List Addr} {ρ ρ1:En} {σ:L2.St} {Fr:Addr->Prop}
theorem Eff.refl:Eff ob H H S S []:=⟨fun _ _ h _=>h,fun _ _=>rfl,fun i a h z=>.inl ⟨i,h,z⟩,by simp⟩
theorem Eff.back (e:Eff ob H H1 S S1 L) {a:Addr} (h:H1 a=none):inO ob S a∨H a=none:=by
 by_cases z:inO ob S a
 .exact .inl z
 .refine .inr ?_
  cases q:H a with
  | none=>rfl
  | some u=>rw [e.kp a u q z] at h; cases h
theorem Eff.inO (e:Eff ob H H1 S S1 L) {a:Addr} (h:inO ob S1 a):inO ob S a∨H a=none:=let ⟨i,h1,h2⟩:=h; e.gr i a h1 h2
theorem Eff.notO (e:Eff ob H H1 S S1 L) {a:Addr} {u:HO} (h:H a=some u) (n:¬ Jb.inO ob S a):¬ Jb.inO ob S1 a:=fun z=>(e.inO z).elim n fun z=>by rw [h] at z; cases z
theorem Eff.trans (a:Eff ob H H1 S S1 L) (b:Eff ob H1 H2 S1 S2 M):Eff ob H H2 S S2 (L++M) where
 kp:=fun c u h n=>b.kp c u (a.kp c u h n) (a.notO h n)
 sn:=fun i h=>(b.sn i h).trans (a.sn i h)
 gr:=fun i c h z=>(b.gr i c h z).elim a.inO a.back
 fm:=fun c hc=>(List.mem_append.mp hc).elim (a.fm c) fun z=>(b.fm c z).elim a.inO a.back
theorem Eff.same (a:Eff ob H H1 S S1 L) (s:Same H1 H2) (h:∀ c∈M,c∈L∨H1 c=none):Eff ob H H2 S S1 M where
 kp:=fun c u hc n=>s c u (a.kp c u hc n)
 sn:=a.sn
 gr:=a.gr
 fm:=fun c hc=>(h c hc).elim (a.fm c) a.back
theorem Sta.notO (s:Sta G H ob ρ σ S Fr) {a:Addr} (h:Fr a):¬ inO ob S a:=fun ⟨i,_,z⟩=>s.fdj i a h z
theorem Sta.tmp (s:Sta G H ob ρ σ S Fr) {a:Addr} (h:Fr a):(wn ob S Fr).tmp a:=⟨h,fun ⟨i,_,z⟩=>s.fdj i a h z,fun ⟨i,_,z⟩=>s.fdj i a h z⟩
theorem Eff.evo (s:Sta G H ob ρ σ S Fr) (e:Eff ob H H1 S S1 M):Evo H H1 (wn ob S Fr) (wn ob S1 (plus M Fr)) where
 k:=fun b u h f=>⟨e.kp b u h f.2.2,fun z=>z.elim (fun z=>(e.fm b z).elim f.2.2 fun q=>by rw [h] at q; cases q) f.1,fun ⟨i,h1,h2⟩=>f.2.1 ⟨i,h1,by rw [← e.sn i h1]; exact h2⟩,e.notO h f.2.2⟩
 t:=fun b xs h=>by
  have no:∀ u,H b=some u->muO u=false->H1 b=some u:=fun u hu m=>e.kp b u hu fun ⟨i,_,z⟩=>by
   obtain ⟨o,ho,hm⟩:=s.mu z
   rw [hu] at ho; cases ho; rw [m] at hm; cases hm
  exact no _ h rfl
theorem Eff.evoN (s:Sta G H ob ρ σ S Fr) (e:Eff ob H H1 S S1 M):Fw H H1 (wn ob S Fr) (wn ob S1 (plus M Fr)):=fun b u h ⟨i,h1,h2⟩=>
 ⟨e.kp b u h (fun ⟨j,q1,q2⟩=>by rw [s.dj i j b h2 q2,q1] at h1; cases h1),⟨i,h1,by rw [e.sn i h1]; exact h2⟩⟩
theorem Eff.keepsF (s:Sta G H ob ρ σ S Fr) (e:Eff ob H H1 S S1 M) {a:Addr} (h:Fr a):∀ u,H a=some u->H1 a=some u:=fun u hu=>e.kp a u hu (s.notO h)
theorem o9 {L M:List Addr}:plus M (plus L Fr)=plus (L++M) Fr:=by
 funext a
 simp only [plus,List.mem_append,eq_iff_iff]
 constructor
 .rintro (z | z | z)
  .exact .inl (.inr z)
  .exact .inl (.inl z)
  .exact .inr z
 .rintro ((z | z) | z)
  .exact .inr (.inl z)
  .exact .inl z
  .exact .inr (.inr z)
theorem Ez {L3:List Addr} {d:D} {v:V} (s:Sta G H1 ob ρ1 σ S1 (plus L Fr)) (e:Eff ob H H1 S S1 L) (sm:Same H1 H2) (r:Rep G H2 (((wn ob S1 (plus L Fr)).drop L).add L3) d v L3) (f:∀ a∈L3,a∈L∨H1 a=none) (s0:Sta G H ob ρ σ S Fr) :
  Sta G H2 ob ρ1 σ S1 (plus L3 Fr)/\Rep G H2 (wn ob S1 (plus L3 Fr)) d v L3/\Eff ob H H2 S S1 L3:=by
 refine ⟨s.grow sm fun a h=>?_,r.up ⟨Same.refl _,fun b u hb q=>⟨fun z=>?_,q.2⟩,fun _ _ _ q=>q⟩,e.same sm f⟩
 .rcases h with h | h
  .exact (f a h).imp .inl fun z=>⟨z,r.dom a h⟩
  .exact .inl (.inr h)
 .rcases z with z | z
  .exact q.1 (.inl z)
  .refine q.1 (.inr ⟨.inr z,fun h=>?_⟩)
   rcases e.fm b h with y | y
   .exact s0.notO z y
   .obtain ⟨o,ho,_⟩:=s0.fdm b z
    rw [y] at ho; cases ho
end
section
variable {ι:Type} {X:ι->Cx} {G:Gc} {ob:Nat->Bool} {ta tb:TE}
def eUp (f:En->Option D):En->Option (D×En):=fun ρ=>(f ρ).map fun d=>(d,ρ)
theorem yj {f:En->Option D} (h:RfE G ob ta f):mF G ob ta (eUp f):=fun ρ d ρ' e σ H S Fr s Q q=>by
 unfold eUp at e
 cases h1:f ρ with
 | none=>rw [h1] at e; cases e
 | some d0=>
  rw [h1] at e
  cases e
  refine h ρ d h1 σ H _ s.rel s.wok Q fun v H' L sm r fr nd=>?_
  exact q v H' L S (s.grow sm fun a z=>z.elim (fun z=>.inr ⟨fr a z,r.dom a z⟩) .inl) r nd ⟨fun b u hb _=>sm b u hb,fun _ _=>rfl,fun i a h z=>.inl ⟨i,h,z⟩,fun a ha=>.inr (fr a ha)⟩
def fD (f:En->Option Bool):En->Option (Bool×En):=fun ρ=>(f ρ).map fun d=>(d,ρ)
theorem Gq {t:TT} {f:En->Option Bool} (h:RfT G ob t f):uZ G ob t (fD f):=fun ρ d ρ' e σ H S Fr s Q q=>by
 unfold fD at e
 cases h1:f ρ with
 | none=>rw [h1] at e; cases e
 | some d0=>
  rw [h1] at e
  cases e
  refine h ρ d h1 σ H _ s.rel s.wok Q fun H' sm=>?_
  exact q H' S (s.grow sm fun a z=>.inl z) ⟨fun b u hb _=>sm b u hb,fun _ _=>rfl,fun i a h z=>.inl ⟨i,h,z⟩,by simp⟩
def bc (f:En->Option (List D)):En->Option (List D×En):=fun ρ=>(f ρ).map fun d=>(d,ρ)
theorem Fj {t:TA} {f:En->Option (List D)} (h:RfA G ob t f):yF G ob t (bc f):=fun ρ d ρ' e σ H S Fr s Q q=>by
 unfold bc at e
 cases h1:f ρ with
 | none=>rw [h1] at e; cases e
 | some d0=>
  rw [h1] at e
  cases e
  refine h ρ d h1 σ H _ s.rel s.wok Q fun v H' L sm r fr nd=>?_
  exact q v H' L S (s.grow sm fun a z=>z.elim (fun z=>.inr ⟨fr a z,r.dom a z⟩) .inl) r nd ⟨fun b u hb _=>sm b u hb,fun _ _=>rfl,fun i a h z=>.inl ⟨i,h,z⟩,fun a ha=>.inr (fr a ha)⟩
theorem cO {e:Expr} {f:En->Option D} (h:PV X G ob e f):PVe X G ob e (eUp f):=let ⟨t,a1,a2⟩:=h.ex; ⟨t,a1,yj a2⟩
theorem t6 {e:Expr} {f:En->Option Bool} (h:PVT X G ob e f):wM X G ob e (fD f):=let ⟨t,a1,a2⟩:=h.ex; ⟨t,a1,Gq a2⟩
theorem aR {e:List Expr} {f:En->Option (List D)} (h:PVA X G ob e f):tE X G ob e (bc f):=let ⟨t,a1,a2⟩:=h.ex; ⟨t,a1,Fj a2⟩
theorem mF.two {fa fb:En->Option (D×En)} (ha:mF G ob ta fa) (hb:mF G ob tb fb) {ρ ρ1 ρ2:En} {dx dy:D} (e1:fa ρ=some (dx,ρ1)) (e2:fb ρ1=some (dy,ρ2)) (hx:aF dx=true) {σ:L2.St} {H:Hp} {S:Ad} {Fr:Addr->Prop} (s:Sta G H ob ρ σ S Fr) {R:V->V->Hp->Prop}
  (h:∀ x y H' L M S',Sta G H' ob ρ2 σ S' (plus (L++M) Fr)->Rep G H' (wn ob S' (plus (L++M) Fr)) dx x L->Rep G H' (wn ob S' (plus (L++M) Fr)) dy y M->(L++M).Nodup->Eff ob H H' S S' (L++M)->R x y H'):ta σ H fun x H1=>tb σ H1 fun y H2=>R x y H2:=by
 refine ha ρ dx ρ1 e1 σ H S Fr s _ fun x H1 L S1 s1 rx nx f1=>?_
 refine hb ρ1 dy ρ2 e2 σ H1 S1 (plus L Fr) s1 _ fun y H2 M S2 s2 ry ny f2=>?_
 have rx2:=rx.mono (f2.evo s1) (.inr (f2.evoN s1)) (.inl hx) fun c hc u hu=>f2.keepsF s1 (.inl hc) u hu
 rw [o9] at s2 ry rx2
 refine h x y H2 L M S2 s2 rx2 ry (jc nx ny fun a h1 h2=>?_) (f1.trans f2)
 rcases f2.fm a h2 with z | z
 .exact s1.notO (.inl h1) z
 .obtain ⟨o,ho,_⟩:=rx.dom a h1
  rw [z] at ho; cases ho
def ee2 (g:D->D->Option D) (fa fb:En->Option (D×En)):En->Option (D×En):=fun ρ=>(fa ρ).bind fun p=>(fb p.2).bind fun q=>if aF p.1 then (g p.1 q.1).map fun d=>(d,q.2) else none
theorem wN {r:R2} {g:D->D->Option D} {fa fb:En->Option (D×En)} (ho:OpV G r g) (ha:mF G ob ta fa) (hb:mF G ob tb fb):mF G ob (tOp r ta tb) (ee2 g fa fb):=fun ρ d ρ' e σ H S Fr s Q q=>by
 unfold ee2 at e
 cases h1:fa ρ with
 | none=>simp [h1] at e
 | some p=>
  obtain ⟨dx,ρ1⟩:=p
  cases h2:fb ρ1 with
  | none=>simp [h1,h2] at e
  | some p=>
   obtain ⟨dy,ρ2⟩:=p
   cases hx:aF dx with
   | false=>simp [h1,h2,hx] at e
   | true=>
    cases h3:g dx dy with
    | none=>simp [h1,h2,hx,h3] at e
    | some d'=>
     obtain ⟨rfl,rfl⟩:d'=d/\ρ2=ρ':=by simpa [h1,h2,hx,h3] using e
     refine mF.two ha hb h1 h2 hx s fun x y H' L M S' s' rx ry nd ef=>?_
     refine ho dx dy _ h3 x y H' _ L M rx ry nd (fun a ha=>s'.tmp (.inl ha)) s'.wok Q fun v H3 L3 s3 r3 f3 n3=>?_
     obtain ⟨q1,q2,q3⟩:=Ez s' ef s3 r3 f3 s
     exact q v H3 L3 S' q1 q2 n3 q3
def ee1 (g:D->Option D) (fa:En->Option (D×En)):En->Option (D×En):=fun ρ=>(fa ρ).bind fun p=>(g p.1).map fun d=>(d,p.2)
def aP (fa:En->Option (D×En)) (fr:En->Option (List D×En)):En->Option (List D×En):=fun ρ=>(fa ρ).bind fun p=>(fr p.2).bind fun q=>if aF p.1 then some (p.1 :: q.1,q.2) else none
theorem Eo {t:TA} {fa:En->Option (D×En)} {fr:En->Option (List D×En)} (ha:mF G ob ta fa) (hr:yF G ob t fr):yF G ob (EY ta t) (aP fa fr):=fun ρ ds ρ' e σ H S Fr s Q q=>by
 unfold aP at e
 cases h1:fa ρ with
 | none=>simp [h1] at e
 | some p=>
  obtain ⟨dx,ρ1⟩:=p
  cases h2:fr ρ1 with
  | none=>simp [h1,h2] at e
  | some p=>
   obtain ⟨es,ρ2⟩:=p
   cases hx:aF dx with
   | false=>simp [h1,h2,hx] at e
   | true=>
    obtain ⟨rfl,rfl⟩:dx :: es=ds/\ρ2=ρ':=by simpa [h1,h2,hx] using e
    refine ha ρ dx ρ1 h1 σ H S Fr s _ fun x H1 L S1 s1 rx nx f1=>?_
    refine hr ρ1 es _ h2 σ H1 S1 (plus L Fr) s1 _ fun ys H2 M S2 s2 ry ny f2=>?_
    have rx2:=rx.mono (f2.evo s1) (.inr (f2.evoN s1)) (.inl hx) fun c hc u hu=>f2.keepsF s1 (.inl hc) u hu
    rw [o9] at s2 ry rx2
    refine q (x :: ys) H2 (L++M) S2 s2 (.cons rx2 ry) (jc nx ny fun a h1 h2=>?_) (f1.trans f2)
    rcases f2.fm a h2 with z | z
    .exact s1.notO (.inl h1) z
    .obtain ⟨o,ho,_⟩:=rx.dom a h1
     rw [z] at ho; cases ho
def dJ (g:List D->Option D) (f:En->Option (List D×En)):En->Option (D×En):=fun ρ=>(f ρ).bind fun p=>(g p.1).map fun d=>(d,p.2)
theorem uW {r:List V->Hp->VK->Prop} {g:List D->Option D} {t:TA} {f:En->Option (List D×En)} (ho:CaV G r g) (h:yF G ob t f):mF G ob (fun σ H Q=>t σ H fun vs H1=>r vs H1 Q) (dJ g f):=fun ρ d ρ' e σ H S Fr s Q q=>by
 unfold dJ at e
 cases h1:f ρ with
 | none=>simp [h1] at e
 | some p=>
  obtain ⟨ds,ρ1⟩:=p
  cases h3:g ds with
  | none=>simp [h1,h3] at e
  | some d'=>
   obtain ⟨rfl,rfl⟩:d'=d/\ρ1=ρ':=by simpa [h1,h3] using e
   refine h ρ ds _ h1 σ H S Fr s _ fun xs H' L S' s' rx nd ef=>?_
   refine ho ds _ h3 xs H' _ L rx nd (fun a ha=>s'.tmp (.inl ha)) s'.wok Q fun v H3 L3 s3 r3 f3 n3=>?_
   obtain ⟨q1,q2,q3⟩:=Ez s' ef s3 r3 f3 s
   exact q v H3 L3 S' q1 q2 n3 q3
variable {a b:Expr} {fa fb:En->Option (D×En)} {pos:Pos}
theorem lw {op:Operator} {g:D->D->Option D} (o:OpB X G (binaryOp op) g) (ha:PVe X G ob a fa) (hb:PVe X G ob b fb):PVe X G ob (.BinOp a op b pos) (ee2 g fa fb):=let ⟨r,o1,o2⟩:=o.ex; let ⟨t,a1,a2⟩:=ha.ex; let ⟨u,b1,b2⟩:=hb.ex; ⟨_,fun c=>Kw (o1 c) (a1 c) (b1 c),wN o2 a2 b2⟩
theorem pve_cmp {op:CmpOp} {g:D->D->Option D} (o:OpB X G (compareOp op) g) (ha:PVe X G ob a fa) (hb:PVe X G ob b fb) (hm:behindInMarks op b=false:=by with_unfolding_all rfl):PVe X G ob (.Compare a [op] [b] pos) (ee2 g fa fb):=let ⟨r,o1,o2⟩:=o.ex; let ⟨t,a1,a2⟩:=ha.ex; let ⟨u,b1,b2⟩:=hb.ex; ⟨_,fun c=>A_ (o1 c) (a1 c) (b1 c) hm,wN o2 a2 b2⟩
theorem ji {g:D->D->Option D} (o:IxB X G g) (ha:PVe X G ob a fa) (hb:PVe X G ob b fb) (hs:xf b:=by exact fun _ _=>rfl):PVe X G ob (.Subscript a b pos) (ee2 g fa fb):=let ⟨r,o1,o2⟩:=o.ex; let ⟨t,a1,a2⟩:=ha.ex; let ⟨u,b1,b2⟩:=hb.ex; ⟨_,fun c=>K7 (o1 c) (a1 c) (b1 c) hs,wN o2 a2 b2⟩
theorem bT {e:Expr} {es:List Expr} {f:En->Option (D×En)} {fr:En->Option (List D×En)} (ha:PVe X G ob e f) (hr:tE X G ob es fr) (hs:∀ c,starEach (e :: es) (X c).env=(false,eval e (X c).env) :: starEach es (X c).env:=by intro _; rfl):tE X G ob (e :: es) (aP f fr):=let ⟨t,a1,a2⟩:=ha.ex; let ⟨u,b1,b2⟩:=hr.ex; ⟨_,fun c=>wH (a1 c) (b1 c) (hs c),Eo a2 b2⟩
section
variable {e:Expr} {es:List Expr} {f:En->Option (List D×En)} {p:Pos} {x:Str}
theorem CW {id:String} {g:List D->Option D} (o:CaB X G (.builtin id) g) (hg:∀ c,Gl (X c) x) (hm:∀ c,(X c).mg x=none) (hv:bootBuiltins x=some (.builtin id)) (ha:tE X G ob (e :: es) f) (hn:x≠"__name__" := by decide) (hdb:(x == ("__debug__" : Str))=false:=by decide) (he:∀ c,starEach (e :: es) (X c).env=(false,eval e (X c).env) :: starEach es (X c).env:=by intro _; rfl) (hpl:∀ c,(backTo pos (starEach es (X c).env)).any (·.1)=false:=by intro _; rfl):PVe X G ob (.Call (.Name x p) (e :: es) [] pos) (dJ g f):=let ⟨r,o1,o2⟩:=o.ex; let ⟨t,a1,a2⟩:=ha.ex; ⟨_,fun c=>yH (o1 c) (hg c) (hm c) hv (a1 c) hn hdb (he c) (hpl c),uW o2 a2⟩
theorem vd {T:String} {g:List D->Option D} (o:CaB X G (.type T) g) (hg:∀ c,Gl (X c) x) (hm:∀ c,(X c).mg x=none) (hv:bootBuiltins x=some (.type T)) (ha:tE X G ob (e :: es) f) (hn:x≠"__name__" := by decide) (hdb:(x == ("__debug__" : Str))=false:=by decide) (he:∀ c,starEach (e :: es) (X c).env=(false,eval e (X c).env) :: starEach es (X c).env:=by intro _; rfl) (hpl:∀ c,(backTo pos (starEach es (X c).env)).any (·.1)=false:=by intro _; rfl):PVe X G ob (.Call (.Name x p) (e :: es) [] pos) (dJ g f):=let ⟨r,o1,o2⟩:=o.ex; let ⟨t,a1,a2⟩:=ha.ex; ⟨_,fun c=>wA (o1 c) (hg c) (hm c) hv (a1 c) hn hdb (he c) (hpl c),uW o2 a2⟩
end
theorem t7 {es:List Expr} {k:Nat} {f:En->Option (List D×En)} (h:tE X G ob es f):PVe X G ob (.Tuple es k pos) (dJ bL f):=let ⟨t,a1,a2⟩:=h.ex; ⟨_,fun c=>H9 (a1 c),uW Bd a2⟩
theorem Ay {es:List Expr} {f:En->Option (List D×En)} (h:tE X G ob es f):PVe X G ob (.List es pos) (dJ bM f):=let ⟨t,a1,a2⟩:=h.ex; ⟨_,fun c=>Fe (a1 c),uW Bm a2⟩
end
def truth:D->Option Bool
 | .non=>some false
 | .bl b=>some b
 | .int i=>some (i != 0)
 | .str y=>if y.length<=sizeLine then some ((y.length:Int) != 0) else none
 | .lst _ ds=>some (!ds.isEmpty)
 | .tup ds=>some (!ds.isEmpty)
 | .dct m _ ds=>if m = .scr then none else some (!ds.isEmpty)
 | _=>none
theorem rK {G:Gc} {H:Hp} {W:Wn} {ds:List D} {xs:List V} {L:List Addr} (r:aN G H W ds xs L):ds.isEmpty=xs.isEmpty:=by
 have:=r.length
 cases ds <;> cases xs <;> simp_all
theorem yx {G:Gc} {H:Hp} {W:Wn} {d:D} {v:V} {L:List Addr} {k:Bool} (r:Rep G H W d v L) (h:truth d=some k):Gs G.K v H k:=by
 cases d with
 | non=>rw [Rep] at r; obtain ⟨rfl,_⟩:=r; cases h; rfl
 | bl b=>rw [Rep] at r; obtain ⟨rfl,_⟩:=r; cases h; rfl
 | int i=>rw [Rep] at r; obtain ⟨rfl,_⟩:=r; cases h; rfl
 | str y=>
  rw [Rep] at r; obtain ⟨rfl,_⟩:=r
  simp only [truth] at h
  split at h
  .cases h; exact ⟨‹_›,rfl⟩
  .cases h
 | ty n=>cases h
 | tup ds=>
  rw [Rep] at r
  obtain ⟨a,xs,rfl,ht,hr⟩:=r
  cases h
  exact .inr (.inl ⟨xs,SqT.of ht,by rw [rK hr]⟩)
 | lst m ds=>
  rw [Rep] at r
  obtain ⟨a,xs,M,rfl,hr,hs⟩:=r
  cases h
  exact .inl ⟨xs,hs.sq,by rw [rK hr]⟩
 | dct m ks ds=>
  rw [Rep] at r
  obtain ⟨a,kvs,M,rfl,hk,hr,hs⟩:=r
  simp only [truth] at h
  split at h
  .cases h
  .cases h
   refine .inr (.inr ⟨kvs,hs.at ‹_›,?_⟩)
   rw [rK hr]
   cases kvs <;> rfl
 | ins m c fs ds=>cases h
section
variable {ι:Type} {X:ι->Cx} {G:Gc} {ob:Nat->Bool} {a b:Expr} {pos:Pos}
def eY (f:En->Option D):En->Option Bool:=fun ρ=>(f ρ).bind truth
def cM (f:En->Option (D×En)):En->Option (Bool×En):=fun ρ=>(f ρ).bind fun p=>(truth p.1).map fun b=>(b,p.2)
theorem M3 {ta:TE} {f:En->Option D} (h:RfE G ob ta f):RfT G ob (fun σ H Q=>ta σ H fun x H'=>∃ k,Gs G.K x H' k/\Q k H') (eY f):=fun ρ k e σ H W rl w Q q=>by
 unfold eY at e
 cases h1:f ρ with
 | none=>simp [h1] at e
 | some d=>
  have e:truth d=some k:=by simpa [h1] using e
  exact h ρ d h1 σ H W rl w _ fun x H' L s r fr nd=>⟨k,yx r e,q H' s⟩
theorem Jj {ta:TE} {f:En->Option (D×En)} (h:mF G ob ta f):uZ G ob (fun σ H Q=>ta σ H fun x H'=>∃ k,Gs G.K x H' k/\Q k H') (cM f):=fun ρ k ρ' e σ H S Fr s Q q=>by
 unfold cM at e
 cases h1:f ρ with
 | none=>simp [h1] at e
 | some p=>
  obtain ⟨d,ρ1⟩:=p
  cases h2:truth d with
  | none=>simp [h1,h2] at e
  | some k'=>
   obtain ⟨rfl,rfl⟩:k'=k/\ρ1=ρ':=by simpa [h1,h2] using e
   exact h ρ d _ h1 σ H S Fr s _ fun x H' M S' s' r nd ef=>⟨_,yx r h2,q H' S' (s'.lessF fun a z=>.inr z) (ef.same (Same.refl _) (by simp))⟩
theorem mq {f:En->Option D} (h:PV X G ob a f) (he:∀ c,∀ whole,isTrue a (X c).env whole=(do let v ← whole; standAt a.pos; holding [v] (truthy v)):=by intro _; intro _; rfl) (hK:∀ c,(X c).K=G.K:=by intro _; rfl):PVT X G ob a (eY f):=let ⟨t,a1,a2⟩:=h.ex; ⟨_,fun c=>(by have h:=yl (a1 c) (he c); rw [hK c] at h; exact h),M3 a2⟩
theorem yL {f:En->Option (D×En)} (h:PVe X G ob a f) (he:∀ c,∀ whole,isTrue a (X c).env whole=(do let v ← whole; standAt a.pos; holding [v] (truthy v)):=by intro _; intro _; rfl) (hK:∀ c,(X c).K=G.K:=by intro _; rfl):wM X G ob a (cM f):=let ⟨t,a1,a2⟩:=h.ex; ⟨_,fun c=>(by have h:=yl (a1 c) (he c); rw [hK c] at h; exact h),Jj a2⟩
def isB:D->Option Bool
 | .bl b=>some b
 | _=>none
def eB (f:En->Option D):En->Option Bool:=fun ρ=>(f ρ).bind isB
def eeB (f:En->Option (D×En)):En->Option (Bool×En):=fun ρ=>(f ρ).bind fun p=>(isB p.1).map fun b=>(b,p.2)
theorem qi {d:D} {k:Bool} (h:isB d=some k):d = .bl k:=by
 cases d <;> simp [isB] at h
 rw [h]
theorem Qn {ta:TE} {f:En->Option D} (h:RfE G ob ta f):RfT G ob (BR ta) (eB f):=fun ρ k e σ H W rl w Q q=>by
 unfold eB at e
 cases h1:f ρ with
 | none=>simp [h1] at e
 | some d=>
  have e:isB d=some k:=by simpa [h1] using e
  have:=qi e
  subst this
  refine h ρ _ h1 σ H W rl w _ fun x H' L s r fr nd=>⟨k,?_,q H' s⟩
  rw [Rep] at r
  exact r.1
theorem O_ {ta:TE} {f:En->Option (D×En)} (h:mF G ob ta f):uZ G ob (BR ta) (eeB f):=fun ρ k ρ' e σ H S Fr s Q q=>by
 unfold eeB at e
 cases h1:f ρ with
 | none=>simp [h1] at e
 | some p=>
  obtain ⟨d,ρ1⟩:=p
  cases h2:isB d with
  | none=>simp [h1,h2] at e
  | some k'=>
   obtain ⟨rfl,rfl⟩:k'=k/\ρ1=ρ':=by simpa [h1,h2] using e
   have:=qi h2
   subst this
   refine h ρ _ _ h1 σ H S Fr s _ fun x H' M S' s' r nd ef=>⟨k',?_,q H' S' (s'.lessF fun a z=>.inr z) (ef.same (Same.refl _) (by simp))⟩
   rw [Rep] at r
   exact r.1
theorem bR {fa fb:En->Option D} {op:CmpOp} {g:D->D->Option D} (o:OpB X G (compareOp op) g) (ha:PV X G ob a fa) (hb:PV X G ob b fb) (hm:behindInMarks op b=false:=by with_unfolding_all rfl):PVT X G ob (.Compare a [op] [b] pos) (eB (e2 g fa fb)):=let ⟨r,o1,o2⟩:=o.ex; let ⟨t,a1,a2⟩:=ha.ex; let ⟨u,b1,b2⟩:=hb.ex; ⟨_,fun c=>Bs (o1 c) (a1 c) (b1 c) hm,Qn (x_ o2 a2 b2)⟩
theorem qG {fa fb:En->Option (D×En)} {op:CmpOp} {g:D->D->Option D} (o:OpB X G (compareOp op) g) (ha:PVe X G ob a fa) (hb:PVe X G ob b fb) (hm:behindInMarks op b=false:=by with_unfolding_all rfl):wM X G ob (.Compare a [op] [b] pos) (eeB (ee2 g fa fb)):=let ⟨r,o1,o2⟩:=o.ex; let ⟨t,a1,a2⟩:=ha.ex; let ⟨u,b1,b2⟩:=hb.ex; ⟨_,fun c=>Bs (o1 c) (a1 c) (b1 c) hm,O_ (wN o2 a2 b2)⟩
def fK (f g:En->Option Bool):En->Option Bool:=fun ρ=>(f ρ).bind fun c=>if c then g ρ else some false
def eOr (f g:En->Option Bool):En->Option Bool:=fun ρ=>(f ρ).bind fun c=>if c then some true else g ρ
def eX (f:En->Option Bool):En->Option Bool:=fun ρ=>(f ρ).map fun c=>!c
def cB (f g:En->Option (Bool×En)):En->Option (Bool×En):=fun ρ=>(f ρ).bind fun p=>if p.1 then g p.2 else some (false,p.2)
def gG (f g:En->Option (Bool×En)):En->Option (Bool×En):=fun ρ=>(f ρ).bind fun p=>if p.1 then some (true,p.2) else g p.2
def cI (f:En->Option (Bool×En)):En->Option (Bool×En):=fun ρ=>(f ρ).map fun p=>(!p.1,p.2)
theorem Mi {t u:TT} {f g:En->Option Bool} (h:RfT G ob t f) (h':RfT G ob u g):RfT G ob (Ma t u) (fK f g):=fun ρ k e σ H W rl w Q q=>by
 unfold fK at e
 cases h1:f ρ with
 | none=>simp [h1] at e
 | some c=>
  refine h ρ c h1 σ H W rl w _ fun H1 s1=>?_
  cases c with
  | false=>
   have:false=k:=by simpa [h1] using e
   subst this
   exact xx (q H1 s1)
  | true=>
   have e:g ρ=some k:=by simpa [h1] using e
   exact sX (h' ρ k e σ H1 W (rl.up (Up.same s1)) (fun a ha=>let ⟨o,z,m⟩:=w a ha; ⟨o,s1 a o z,m⟩) Q fun H2 s2=>q H2 (s1.trans s2))
theorem PP {t u:TT} {f g:En->Option Bool} (h:RfT G ob t f) (h':RfT G ob u g):RfT G ob (tOr t u) (eOr f g):=fun ρ k e σ H W rl w Q q=>by
 unfold eOr at e
 cases h1:f ρ with
 | none=>simp [h1] at e
 | some c=>
  refine h ρ c h1 σ H W rl w _ fun H1 s1=>?_
  cases c with
  | true=>
   have:true=k:=by simpa [h1] using e
   subst this
   exact sX (q H1 s1)
  | false=>
   have e:g ρ=some k:=by simpa [h1] using e
   exact xx (h' ρ k e σ H1 W (rl.up (Up.same s1)) (fun a ha=>let ⟨o,z,m⟩:=w a ha; ⟨o,s1 a o z,m⟩) Q fun H2 s2=>q H2 (s1.trans s2))
theorem Oa {t:TT} {f:En->Option Bool} (h:RfT G ob t f):RfT G ob (MF t) (eX f):=fun ρ k e σ H W rl w Q q=>by
 unfold eX at e
 cases h1:f ρ with
 | none=>simp [h1] at e
 | some c=>
  have:(!c)=k:=by simpa [h1] using e
  subst this
  exact h ρ c h1 σ H W rl w _ fun H1 s1=>q H1 s1
theorem Ju {t u:TT} {f g:En->Option (Bool×En)} (h:uZ G ob t f) (h':uZ G ob u g):uZ G ob (Ma t u) (cB f g):=fun ρ k ρ' e σ H S Fr s Q q=>by
 unfold cB at e
 cases h1:f ρ with
 | none=>simp [h1] at e
 | some p=>
  obtain ⟨c,ρ1⟩:=p
  refine h ρ c ρ1 h1 σ H S Fr s _ fun H1 S1 s1 f1=>?_
  cases c with
  | false=>
   obtain ⟨rfl,rfl⟩:false=k/\ρ1=ρ':=by simpa [h1] using e
   exact xx (q H1 S1 s1 f1)
  | true=>
   have e:g ρ1=some (k,ρ'):=by simpa [h1] using e
   exact sX (h' ρ1 k ρ' e σ H1 S1 Fr s1 Q fun H2 S2 s2 f2=>q H2 S2 s2 (f1.trans f2))
theorem Kc {t:TT} {f:En->Option (Bool×En)} (h:uZ G ob t f):uZ G ob (MF t) (cI f):=fun ρ k ρ' e σ H S Fr s Q q=>by
 unfold cI at e
 cases h1:f ρ with
 | none=>simp [h1] at e
 | some p=>
  obtain ⟨c,ρ1⟩:=p
  obtain ⟨rfl,rfl⟩:(!c)=k/\ρ1=ρ':=by simpa [h1] using e
  exact h ρ c ρ1 h1 σ H S Fr s _ fun H1 S1 s1 f1=>q H1 S1 s1 f1
variable {rest:List Expr} {fa fb:En->Option Bool} {ga gb:En->Option (Bool×En)}
theorem t_ (ha:PVT X G ob a fa) (hb:PVW X G ob (.BoolOp .And (b :: rest) pos) fb):PVW X G ob (.BoolOp .And (a :: b :: rest) pos) (fK fa fb):=let ⟨t,a1,a2⟩:=ha.ex; let ⟨u,b1,b2⟩:=hb.ex; ⟨_,fun c=>Gv (a1 c) (b1 c),Mi a2 b2⟩
theorem mZ (ha:PVT X G ob a fa) (hb:PVW X G ob (.BoolOp .Or (b :: rest) pos) fb):PVW X G ob (.BoolOp .Or (a :: b :: rest) pos) (eOr fa fb):=let ⟨t,a1,a2⟩:=ha.ex; let ⟨u,b1,b2⟩:=hb.ex; ⟨_,fun c=>PN (a1 c) (b1 c),PP a2 b2⟩
theorem u0 (ha:PVT X G ob a fa):PVW X G ob (.BoolOp .And [a] pos) fa:=let ⟨t,a1,a2⟩:=ha.ex; ⟨_,fun c=>CN (a1 c),a2⟩
theorem o_ (ha:PVT X G ob a fa):PVW X G ob (.BoolOp .Or [a] pos) fa:=let ⟨t,a1,a2⟩:=ha.ex; ⟨_,fun c=>Np (a1 c),a2⟩
theorem qL (h:PVW X G ob a fa):PVT X G ob a fa:=let ⟨t,a1,a2⟩:=h.ex; ⟨_,fun c=>PW.pt (a1 c),a2⟩
theorem lE (ha:PVT X G ob a fa):PVT X G ob (.UnaryOp .Not a pos) (eX fa):=let ⟨t,a1,a2⟩:=ha.ex; ⟨_,fun c=>GR (a1 c),Oa a2⟩
theorem qH (ha:wM X G ob a ga) (hb:JG X G ob (.BoolOp .And (b :: rest) pos) gb):JG X G ob (.BoolOp .And (a :: b :: rest) pos) (cB ga gb):=let ⟨t,a1,a2⟩:=ha.ex; let ⟨u,b1,b2⟩:=hb.ex; ⟨_,fun c=>Gv (a1 c) (b1 c),Ju a2 b2⟩
theorem o6 (ha:wM X G ob a ga):JG X G ob (.BoolOp .And [a] pos) ga:=let ⟨t,a1,a2⟩:=ha.ex; ⟨_,fun c=>CN (a1 c),a2⟩
theorem xn (h:JG X G ob a ga):wM X G ob a ga:=let ⟨t,a1,a2⟩:=h.ex; ⟨_,fun c=>PW.pt (a1 c),a2⟩
theorem yR (ha:wM X G ob a ga):wM X G ob (.UnaryOp .Not a pos) (cI ga):=let ⟨t,a1,a2⟩:=ha.ex; ⟨_,fun c=>GR (a1 c),Kc a2⟩
def eE (f g:En->Option D):En->Option D:=fun ρ=>(f ρ).bind fun x=>(isB x).bind fun c=>if c then g ρ else some (.bl false)
def vOr (f g:En->Option D):En->Option D:=fun ρ=>(f ρ).bind fun x=>(isB x).bind fun c=>if c then some (.bl true) else g ρ
def wL (x:D):Option D:=(isB x).map fun c=>.bl !c
def gH (c:En->Option Bool) (f g:En->Option D):En->Option D:=fun ρ=>(c ρ).bind fun b=>if b then f ρ else g ρ
def di (c:En->Option (Bool×En)) (f g:En->Option (D×En)):En->Option (D×En):=fun ρ=>(c ρ).bind fun p=>if p.1 then f p.2 else g p.2
theorem WOk.up {H H':Hp} {W:Wn} (w:WOk H W) (s:Same H H'):WOk H' W:=fun a ha=>let ⟨o,z,m⟩:=w a ha; ⟨o,s a o z,m⟩
theorem E_ {G:Gc} {H:Hp} {W:Wn} {b:Bool}:Rep G H W (.bl b) (.bl b) []:=by rw [Rep]; exact ⟨rfl,rfl⟩
theorem J0 {ta tb:TE} {f g:En->Option D} (h:RfE G ob ta f) (h':RfE G ob tb g):RfE G ob (KY ta tb) (eE f g):=fun ρ d e σ H W rl w Q q=>by
 unfold eE at e
 cases h1:f ρ with
 | none=>simp [h1] at e
 | some x=>
  cases h2:isB x with
  | none=>simp [h1,h2] at e
  | some c=>
   have:=qi h2
   subst this
   refine h ρ _ h1 σ H W rl w _ fun v H1 L s1 r fr nd=>?_
   rw [Rep] at r
   refine ⟨c,r.1,?_⟩
   cases c with
   | false=>
    have:D.bl false=d:=by simpa [h1,isB] using e
    subst this
    exact xx (q _ H1 [] s1 E_ (by simp) List.nodup_nil)
   | true=>
    have e:g ρ=some d:=by simpa [h1,isB] using e
    exact sX (h' ρ d e σ H1 W (rl.up (Up.same s1)) (w.up s1) Q fun v H2 L s2 r fr nd=>q v H2 L (s1.trans s2) r (fun a ha=>s1.none' (fr a ha)) nd)
theorem Ip {ta:TE} {f:En->Option D} (h:RfE G ob ta f):RfE G ob (K6 ta) (e1 wL f):=fun ρ d e σ H W rl w Q q=>by
 unfold e1 at e
 cases h1:f ρ with
 | none=>simp [h1] at e
 | some x=>
  cases h2:isB x with
  | none=>simp [h1,h2,wL] at e
  | some c=>
   have:=qi h2
   subst this
   have:D.bl (!c)=d:=by simpa [h1,wL,isB] using e
   subst this
   refine h ρ _ h1 σ H W rl w _ fun v H1 L s1 r fr nd=>?_
   rw [Rep] at r
   exact ⟨c,r.1,q _ H1 [] s1 E_ (by simp) List.nodup_nil⟩
section
variable {c:Expr} {fa fb:En->Option D} {fc:En->Option Bool}
theorem mC (ha:PV X G ob a fa) (hb:PV X G ob (.BoolOp .And (b :: rest) pos) fb):PV X G ob (.BoolOp .And (a :: b :: rest) pos) (eE fa fb):=let ⟨t,a1,a2⟩:=ha.ex; let ⟨u,b1,b2⟩:=hb.ex; ⟨_,fun c=>Oh (a1 c) (b1 c),J0 a2 b2⟩
theorem pR {op} (ha:PV X G ob a fa):PV X G ob (.BoolOp op [a] pos) fa:=let ⟨t,a1,a2⟩:=ha.ex; ⟨_,fun c=>Mj (a1 c),a2⟩
theorem G6 (ha:PV X G ob a fa):PV X G ob (.UnaryOp .Not a pos) (e1 wL fa):=let ⟨t,a1,a2⟩:=ha.ex; ⟨_,fun c=>Nb (a1 c),Ip a2⟩
end
end
section
variable {G:Gc} {ob P:Nat->Bool} {H H1 H2:Hp} {S S1 S2:Ad} {L M:List Addr} {ρ ρ1:En} {σ:L2.St} {Fr:Addr->Prop}
def jW (S:Ad) (i:Nat) (M:List Addr):Ad:=fun j=>if j=i then M else S j
theorem h_ {i:Nat}:jW S i M i=M:=if_pos rfl
theorem iu {i j:Nat} (h:j≠i):jW S i M j=S j:=if_neg h
theorem gW {i j:Nat} {a:Addr} (h:a∈jW S i M j):(j=i/\a∈M)∨(j≠i/\a∈S j):=by
 by_cases e:j=i
 .rw [e,h_] at h; exact .inl ⟨e,h⟩
 .rw [iu e] at h; exact .inr ⟨e,h⟩
theorem Mv.refl:Mv P H H σ σ S S M:=⟨fun _ _ h _ _=>h,fun i a z=>.inl ⟨i,z⟩,.refl⟩
theorem Sta.store {i:Nat} {d:D} {v:V} (s:Sta G H ob ρ σ S (plus M Fr)) (r:Rep G H (wn ob S (plus M Fr)) d v M) (hc:clean d=true) (nd:M.Nodup) (hF:∀ a∈M,¬ Fr a) :
  ∃ S',Sta G H ob (ρ.set i (some d)) (σ.set i (some v)) S' Fr/\∀ j a,a∈S' j->inS S a∨a∈M:=by
 by_cases hi:i < ρ.length
 .refine ⟨jW S i M,⟨by simp [s.len],fun j e he=>?_,fun j hj=>?_,fun j=>?_,fun j k a h1 h2=>?_,fun j a h1 h2=>?_,fun a h=>s.fdm a (.inr h)⟩,fun j a h=>?_⟩
  .have ev:Evo H H (wn ob S (plus M Fr)) (wn ob (jW S i M) Fr):=⟨fun b u h f=>⟨h,⟨fun z=>f.1 (.inr z),fun ⟨k,h1,h2⟩=>?_,fun ⟨k,h1,h2⟩=>?_⟩⟩,fun _ _ h=>h⟩
   .by_cases e:j=i
    .subst e
     have:d=e:=by simpa [hi] using he
     have:d=e:=this
     subst this
     have hl:j < σ.length:=by rw [← s.len]; exact hi
     refine ⟨v,by simp [hl],?_,hc⟩
     rw [h_]
     have hcc:aH d=true/\aF d=true:=by simpa [clean] using hc
     exact r.mono ev (.inl hcc.1) (.inl hcc.2) fun _ _ _ h=>h
    .rw [List.getElem?_set_ne (Ne.symm e)] at he
     obtain ⟨v',h1,h2,h3⟩:=s.sl j _ he
     refine ⟨v',by rw [List.getElem?_set_ne (Ne.symm e)]; exact h1,?_,h3⟩
     rw [iu e]
     have hcc:=(by simpa [clean] using h3:aH _=true/\aF _=true)
     exact h2.mono ev (.inl hcc.1) (.inl hcc.2) fun _ _ _ h=>h
   .rcases gW h2 with ⟨_,z⟩ | ⟨_,z⟩
    .exact f.1 (.inl z)
    .exact f.2.1 ⟨k,h1,z⟩
   .rcases gW h2 with ⟨_,z⟩ | ⟨_,z⟩
    .exact f.1 (.inl z)
    .exact f.2.2 ⟨k,h1,z⟩
  .by_cases e:j=i
   .subst e
    exact absurd (by simp [hi]) (hj d)
   .rw [iu e]
    exact s.em j fun d'=>by have:=hj d'; rwa [List.getElem?_set_ne (Ne.symm e)] at this
  .by_cases e:j=i
   .rw [e,h_]; exact nd
   .rw [iu e]; exact s.nd j
  .rcases gW h1 with ⟨e1,z1⟩ | ⟨e1,z1⟩ <;> rcases gW h2 with ⟨e2,z2⟩ | ⟨e2,z2⟩
   .rw [e1,e2]
   .exact absurd z2 (s.fdj k a (.inl z1))
   .exact absurd z1 (s.fdj j a (.inl z2))
   .exact s.dj j k a z1 z2
  .rcases gW h2 with ⟨_,z⟩ | ⟨_,z⟩
   .exact hF a z h1
   .exact s.fdj j a (.inr h1) z
  .rcases gW h with ⟨_,z⟩ | ⟨_,z⟩
   .exact .inr z
   .exact .inl ⟨j,z⟩
 .have h1:ρ.set i (some d)=ρ:=List.set_eq_of_length_le (by omega)
  have h2:σ.set i (some v)=σ:=List.set_eq_of_length_le (by rw [← s.len]; omega)
  rw [h1,h2]
  exact ⟨S,s.lessF fun a z=>.inr z,fun j a h=>.inl ⟨j,h⟩⟩
end
section
variable {ι:Type} {X:ι->Cx} {G:Gc} {ob P:Nat->Bool}
def cg:En->Option Fl:=fun ρ=>some (.nx ρ)
def bG (f g:En->Option Fl):En->Option Fl:=fun ρ=>match f ρ with
 | some (.nx ρ')=>g ρ'
 | r=>r
theorem Aft.from {G:Gc} {H H1:Hp} {σ σ1:L2.St} {S S1:Ad} {Fr:Addr->Prop} {E:Ends} (m:Mv P H H1 σ σ1 S S1 []):∀ {r:Fl},Aft G ob P H σ S Fr E r->Aft G ob P H1 σ1 S1 Fr E r
 | .nx ρ',h=>fun σ' H' S' s m'=>h σ' H' S' s (m.trans m')
 | .brk ρ',h=>fun σ' H' S' s m'=>h σ' H' S' s (m.trans m')
 | .cnt ρ',h=>fun σ' H' S' s m'=>h σ' H' S' s (m.trans m')
 | .ret d ρ',h=>fun v σ' H' M S' s r c n f m'=>h v σ' H' M S' s r c n (fun a ha=>by
   rcases f a ha with ⟨i,z⟩ | z
   .exact (m.gr i a z).elim .inl fun z=>z.elim (fun z=>by cases z) .inr
   .by_cases q:inS S a
    .exact .inl q
    .refine .inr ?_
     cases e:H a with
     | none=>rfl
     | some u=>rw [m.kp a u e q (by simp)] at z; cases z) (m.trans m')
theorem Jz:RfS G ob P K1 cg:=fun ρ r e σ H S Fr s E h=>by
 cases e
 exact h σ H S s .refl
theorem J_ {t u:TS} {f g:En->Option Fl} (h1:RfS G ob P t f) (h2:RfS G ob P u g):RfS G ob P (Ph t u) (bG f g):=fun ρ r e σ H S Fr s E h=>by
 unfold bG at e
 cases h3:f ρ with
 | none=>rw [h3] at e; cases e
 | some fl=>
  rw [h3] at e
  refine h1 ρ fl h3 σ H S Fr s _ ?_
  cases fl with
  | nx ρ'=>exact fun σ' H' S' s' m=>h2 ρ' r e σ' H' S' Fr s' E (h.from m)
  | brk ρ'=>cases e; exact h
  | cnt ρ'=>cases e; exact h
  | ret d ρ'=>cases e; exact h
theorem bZ  : tL X G ob P [] cg:=⟨_,fun c=>J1,Jz⟩
theorem aC {st:Stmt} {rest:List Stmt} {f g:En->Option Fl} (h1:PVS X G ob P st f) (h2:tL X G ob P rest g):tL X G ob P (st :: rest) (bG f g):=let ⟨t,a1,a2⟩:=h1.ex; let ⟨u,b1,b2⟩:=h2.ex; ⟨_,fun c=>Hw (a1 c) (b1 c),J_ a2 b2⟩
theorem aO {st:Stmt} {f:En->Option Fl} (h1:PVS X G ob P st f):tL X G ob P [st] f:=let ⟨t,a1,a2⟩:=h1.ex; ⟨_,fun c=>JK (a1 c),a2⟩
def gP:En->Option Fl:=fun ρ=>some (.brk ρ)
def gQ:En->Option Fl:=fun ρ=>some (.cnt ρ)
def tgN (i:Nat):D->En->Option En:=fun d ρ=>if clean d then some (ρ.set i (some d)) else none
theorem mV {i:Nat} (hP:P i=false):RfG G ob P (wB i) (tgN i):=fun d ρ ρ' e v σ H S M Fr s r nd hF Q q=>by
 unfold tgN at e
 split at e
 .rename_i hc
  cases e
  obtain ⟨S',s',h⟩:=s.store r hc nd hF (i:=i)
  refine q _ H S' s' ⟨fun b u h _ _=>h,fun j a z=>(h j a z).imp id .inl,fun j hj=>?_⟩
  have:j≠i:=fun z=>by rw [z,hP] at hj; cases hj
  rw [List.getElem?_set_ne (Ne.symm this)]
 .cases e
def aU:List D->En->Option En:=fun ds ρ=>match ds with
 | []=>some ρ
 | _=>none
def aJ (f:D->En->Option En) (g:List D->En->Option En):List D->En->Option En:=fun ds ρ=>match ds with
 | d :: r=>(f d ρ).bind fun ρ1=>g r ρ1
 | []=>none
def tgT (n:Nat) (g:List D->En->Option En):D->En->Option En:=fun d ρ=>match d with
 | .tup ds=>if ds.length=n/\aG ds=true/\aD ds=true then g ds ρ else none
 | _=>none
theorem GP:Qt G ob P Jd aU:=fun ds ρ ρ' e vs σ H S M Fr s r nd hF Q q=>by
 cases ds with
 | nil=>
  cases e
  obtain ⟨rfl,rfl⟩:=r.inv0
  exact ⟨rfl,q σ H S (s.lessF fun a z=>.inr z) .refl⟩
 | cons d r=>cases e
def HJ (G:Gc) (ob P:Nat->Bool) (g:TGs) (f:List D->En->Option En):Prop:=∀ (ds:List D) (ρ ρ':En),aD ds=true->aG ds=true->f ds ρ=some ρ'->∀ (vs:List V) (σ:L2.St) (H:Hp) (S:Ad) (M:List Addr) (Fr:Addr->Prop),Sta G H ob ρ σ S (plus M Fr)->aN G H (wn ob S (plus M Fr)) ds vs M->M.Nodup->(∀ a∈M,¬ Fr a)->
 ∀ Q:L2.St->Hp->Prop,(∀ σ' H' S',Sta G H' ob ρ' σ' S' Fr->Mv P H H' σ σ' S S' M->Q σ' H')->g vs σ H Q
theorem yK:HJ G ob P Jd aU:=fun ds ρ ρ' _ _ e=>GP ds ρ ρ' e
theorem rE {t:TG} {u:TGs} {f:D->En->Option En} {g:List D->En->Option En} (h1:RfG G ob P t f) (h2:HJ G ob P u g):HJ G ob P (Hr t u) (aJ f g):=fun ds ρ ρ' c1 c2 e vs σ H S M Fr s r nd hF Q q=>by
 cases ds with
 | nil=>cases e
 | cons d ds=>
  obtain ⟨x,ys,M1,M2,rfl,rfl,hx,hr⟩:=r.inv
  simp only [aD,aG,Bool.and_eq_true] at c1 c2
  simp only [aJ] at e
  cases h3:f d ρ with
  | none=>rw [h3] at e; cases e
  | some ρ1=>
   have e:g ds ρ1=some ρ':=by simpa [h3] using e
   have nd2:=List.nodup_append.mp nd
   have hpl:plus (M1++M2) Fr=plus M1 (plus M2 Fr):=by
    funext a
    simp only [plus,List.mem_append,or_assoc]
   rw [hpl] at s hx hr
   refine ⟨x,ys,rfl,h1 d ρ ρ1 h3 x σ H S M1 (plus M2 Fr) s hx nd2.1 (fun a ha z=>?_) _ fun σ1 H1 S1 s1 m1=>?_⟩
   .rcases z with z | z
    .exact nd2.2.2 a ha a z rfl
    .exact hF a (List.mem_append_left _ ha) z
   .have ev:Evo H H1 (wn ob S (plus M1 (plus M2 Fr))) (wn ob S1 (plus M2 Fr)):=⟨fun b u hb f=>?_,fun b xs h=>?_⟩
    .have hr1:aN G H1 (wn ob S1 (plus M2 Fr)) ds ys M2:=hr.mono ev (.inl c1.2) (.inl c2.2) fun c hc u hu=>m1.kp c u hu (fun ⟨i,z⟩=>s.fdj i c (.inr (.inl hc)) z) fun z=>nd2.2.2 c z c hc rfl
     refine h2 ds ρ1 ρ' c1.2 c2.2 e ys σ1 H1 S1 M2 Fr s1 hr1 nd2.2.1 (fun a ha=>hF a (List.mem_append_right _ ha)) Q fun σ2 H2 S2 s2 m2=>q σ2 H2 S2 s2 ⟨fun b u hb n1 n2=>?_,fun i a z=>?_,m1.pr.trans m2.pr⟩
     .have n3:b∉M1:=fun z=>n2 (List.mem_append_left _ z)
      exact m2.kp b u (m1.kp b u hb n1 n3) (fun ⟨i,z⟩=>(m1.gr i b z).elim n1 fun z=>z.elim n3 fun z=>by rw [hb] at z; cases z) fun z=>n2 (List.mem_append_right _ z)
     .rcases m2.gr i a z with ⟨j,z⟩ | z | z
      .exact (m1.gr j a z).imp id fun z=>z.imp (List.mem_append_left _) id
      .exact .inr (.inl (List.mem_append_right _ z))
      .by_cases q1:inS S a
       .exact .inl q1
       .by_cases q2:a∈M1
        .exact .inr (.inl (List.mem_append_left _ q2))
        .refine .inr (.inr ?_)
         cases e:H a with
         | none=>rfl
         | some u=>rw [m1.kp a u e q1 q2] at z; cases z
    .have n1:¬ inS S b:=fun ⟨i,z⟩=>by
      cases ho:ob i with
      | false=>exact f.2.1 ⟨i,ho,z⟩
      | true=>exact f.2.2 ⟨i,ho,z⟩
     have n2:b∉M1:=fun z=>f.1 (.inl z)
     refine ⟨m1.kp b u hb n1 n2,fun z=>f.1 (.inr z),fun ⟨i,_,z⟩=>?_,fun ⟨i,_,z⟩=>?_⟩
     .exact (m1.gr i b z).elim n1 fun z=>z.elim n2 fun z=>by rw [hb] at z; cases z
     .exact (m1.gr i b z).elim n1 fun z=>z.elim n2 fun z=>by rw [hb] at z; cases z
    .have no:∀ u,H b=some u->muO u=false->H1 b=some u:=fun u hu m=>m1.kp b u hu (fun ⟨i,z⟩=>by
       obtain ⟨o,ho,hm⟩:=s.mu z
       rw [hu] at ho; cases ho; rw [m] at hm; cases hm) fun z=>by
       obtain ⟨o,ho,hm⟩:=hx.dom b z
       rw [hu] at ho; cases ho; rw [m] at hm; cases hm
     exact no _ h rfl
theorem J8 {n:Nat} {t:TGs} {g:List D->En->Option En} (h:HJ G ob P t g):RfG G ob P (Mh G.K n t) (tgT n g):=fun d ρ ρ' e v σ H S M Fr s r nd hF Q q=>by
 cases d with
 | tup ds=>
  simp only [tgT] at e
  split at e
  .rename_i hl
   rw [Rep] at r
   obtain ⟨a,xs,rfl,ht,hr⟩:=r
   exact ⟨a,xs,rfl,SqT.of ht,by rw [← hr.length]; exact hl.1,h ds ρ ρ' hl.2.2 hl.2.1 e xs σ H S M Fr s hr nd hF Q q⟩
  .cases e
 | _=>cases e
structure Kd {ι:Type} (X:ι->Cx) (G:Gc) (ob P:Nat->Bool) (tg:List Expr) (f:List D->En->Option En):Prop where
 mk :: (ex:∃ t,(∀ c,PGs (X c) tg t)/\HJ G ob P t f)
theorem aW (i:Nat) {x:Str} {pos:Pos} (hN:∀ c,(X c).N.Nodup) (hP:P i=false:=by rfl) (hi:∀ c,(X c).N[i]? = some x:=by intro _; rfl) (hx:∀ c,Loc (X c).env.scope x:=by intro _; first | exact Or.inl rfl | exact Or.inr rfl) (hf:∀ c,(X c).fn x=true∨(X c).env.scope.names.lookup x=some .local:=by intro _; first | exact .inl rfl | exact .inr rfl):PVG X G ob P (.Name x pos) (tgN i):=⟨_,fun c=>wX (hN c) (hi c) (hx c) (hf c),mV hP⟩
theorem il  : Kd X G ob P [] aU:=⟨_,fun c=>Cj,yK⟩
theorem bu {e:Expr} {es:List Expr} {f:D->En->Option En} {g:List D->En->Option En} (h1:PVG X G ob P e f) (h2:Kd X G ob P es g) (hs:∀ c,(assignEach (e :: es) (X c).env).map (·.2)=assign e (X c).env :: (assignEach es (X c).env).map (·.2):=by intro _; rfl):Kd X G ob P (e :: es) (aJ f g):=let ⟨t,a1,a2⟩:=h1.ex; let ⟨u,b1,b2⟩:=h2.ex; ⟨_,fun c=>zf (a1 c) (b1 c) (hs c),rE a2 b2⟩
theorem jk {es:List Expr} {k n:Nat} {pos:Pos} {g:List D->En->Option En} (hc:∀ c,(X c).calm=true) (h:Kd X G ob P es g) (hn:∀ c,(assignEach es (X c).env).length=n:=by intro _; rfl) (hst:∀ c,(assignEach es (X c).env).findIdx? (·.1)=none:=by intro _; rfl) (hK:∀ c,(X c).K=G.K:=by intro _; rfl):PVG X G ob P (.Tuple es k pos) (tgT n g):=let ⟨t,a1,a2⟩:=h.ex; ⟨_,fun c=>(by rw [← hK c]; exact Eu (hc c) (a1 c) (hn c) (hst c)),J8 a2⟩
def bW (f:En->Option D) (g:D->En->Option En):En->Option Fl:=fun ρ=>(f ρ).bind fun d=>(g d ρ).map .nx
def aX (f:En->Option (D×En)) (g:D->En->Option En):En->Option Fl:=fun ρ=>(f ρ).bind fun p=>(g p.1 p.2).map .nx
theorem lr {Fr:Addr->Prop}:plus [] Fr=Fr:=by funext a; simp [plus]
theorem oV {te:TE} {t:TG} {f:En->Option (D×En)} {g:D->En->Option En} (h:mF G ob te f) (hg:RfG G ob P t g):RfS G ob P (Je te t) (aX f g):=fun ρ r e σ H S Fr s E q=>by
 unfold aX at e
 cases h1:f ρ with
 | none=>simp [h1] at e
 | some p=>
  obtain ⟨d,ρ1⟩:=p
  cases h2:g d ρ1 with
  | none=>simp [h1,h2] at e
  | some ρ2=>
   have:Fl.nx ρ2=r:=by simpa [h1,h2] using e
   subst this
   refine h ρ d ρ1 h1 σ H S Fr s _ fun v H1 M S1 s1 r1 nd f1=>?_
   have hF:∀ a∈M,¬ Fr a:=fun a ha z=>by
    rcases f1.fm a ha with q | q
    .exact s.notO z q
    .obtain ⟨o,ho,_⟩:=s.fdm a z
     rw [q] at ho; cases ho
   refine hg d ρ1 ρ2 h2 v σ H1 S1 M Fr s1 r1 nd hF _ fun σ' H' S' s' m=>q σ' H' S' s' ⟨fun b u hb n1 n2=>?_,fun i a z=>?_,m.pr⟩
   .have hno:¬ inO ob S b:=fun ⟨i,_,z⟩=>n1 ⟨i,z⟩
    refine m.kp b u (f1.kp b u hb hno) (fun ⟨i,z⟩=>?_) fun z=>(f1.fm b z).elim hno fun z=>by rw [hb] at z; cases z
    cases ho:ob i with
    | false=>rw [f1.sn i ho] at z; exact n1 ⟨i,z⟩
    | true=>exact (f1.gr i b ho z).elim hno fun z=>by rw [hb] at z; cases z
   .rcases m.gr i a z with ⟨j,z⟩ | z | z
    .cases ho:ob j with
     | false=>rw [f1.sn j ho] at z; exact .inl ⟨j,z⟩
     | true=>exact (f1.gr j a ho z).imp (fun ⟨k,_,z⟩=>⟨k,z⟩) .inr
    .exact (f1.fm a z).imp (fun ⟨k,_,z⟩=>⟨k,z⟩) .inr
    .exact (f1.back z).imp (fun ⟨k,_,z⟩=>⟨k,z⟩) .inr
theorem Al {f:En->Option D} {g:D->En->Option En}:aX (eUp f) g=bW f g:=by
 funext ρ
 unfold aX bW eUp
 cases f ρ <;> rfl
section
variable {tg e:Expr} {pos:Pos} {g:D->En->Option En}
theorem nG {f:En->Option D} (he:PV X G ob e f) (hg:PVG X G ob P tg g) (hs:∀ c,swapsWithSole [tg] e pos.line (X c).env=pure false:=by intro _; rfl) (hw:∀ c,swappedStores [tg] e (X c).env=pure none:=by intro _; rfl) (h1:∀ c,(assignEach [tg] (X c).env).map (·.2)=[assign tg (X c).env]:=by intro _; rfl):PVS X G ob P (.Assign [tg] e pos) (bW f g):=let ⟨t,a1,a2⟩:=he.ex; let ⟨u,b1,b2⟩:=hg.ex; ⟨_,fun c=>Fd (a1 c) (b1 c) (hs c) (hw c) (h1 c),by rw [← Al]; exact oV (yj a2) b2⟩
theorem oM {f:En->Option (D×En)} (he:PVe X G ob e f) (hg:PVG X G ob P tg g) (hs:∀ c,swapsWithSole [tg] e pos.line (X c).env=pure false:=by intro _; rfl) (hw:∀ c,swappedStores [tg] e (X c).env=pure none:=by intro _; rfl) (h1:∀ c,(assignEach [tg] (X c).env).map (·.2)=[assign tg (X c).env]:=by intro _; rfl):PVS X G ob P (.Assign [tg] e pos) (aX f g):=let ⟨t,a1,a2⟩:=he.ex; let ⟨u,b1,b2⟩:=hg.ex; ⟨_,fun c=>Fd (a1 c) (b1 c) (hs c) (hw c) (h1 c),oV a2 b2⟩
theorem eO (i:Nat) {x:Str} {pos':Pos} {f:En->Option D} (hN:∀ c,(X c).N.Nodup) (he:PV X G ob e f) (hP:P i=false:=by rfl) (hi:∀ c,(X c).N[i]? = some x:=by intro _; rfl) (hx:∀ c,Loc (X c).env.scope x:=by intro _; first | exact Or.inl rfl | exact Or.inr rfl) (hs:∀ c,swapsWith e (some (.Name x pos')) pos.line (X c).env=pure false:=by intro _; rfl) (hf:∀ c,(X c).fn x=true∨(X c).env.scope.names.lookup x=some .local:=by intro _; first | exact .inl rfl | exact .inr rfl):PVS X G ob P (.Assign [.Name x pos'] e pos) (bW f (tgN i)):=let ⟨t,a1,a2⟩:=he.ex; ⟨_,fun c=>FP (hN c) (hi c) (hx c) (a1 c) (hs c) (hf c),by rw [← Al]; exact oV (yj a2) (mV hP)⟩
theorem d8 (i:Nat) {x:Str} {pos':Pos} {f:En->Option (D×En)} (hN:∀ c,(X c).N.Nodup) (he:PVe X G ob e f) (hP:P i=false:=by rfl) (hi:∀ c,(X c).N[i]? = some x:=by intro _; rfl) (hx:∀ c,Loc (X c).env.scope x:=by intro _; first | exact Or.inl rfl | exact Or.inr rfl) (hs:∀ c,swapsWith e (some (.Name x pos')) pos.line (X c).env=pure false:=by intro _; rfl) (hf:∀ c,(X c).fn x=true∨(X c).env.scope.names.lookup x=some .local:=by intro _; first | exact .inl rfl | exact .inr rfl):PVS X G ob P (.Assign [.Name x pos'] e pos) (aX f (tgN i)):=let ⟨t,a1,a2⟩:=he.ex; ⟨_,fun c=>FP (hN c) (hi c) (hx c) (a1 c) (hs c) (hf c),oV a2 (mV hP)⟩
end
def bw (f:En->Option (List D×En)) (g:List D->En->Option En):En->Option Fl:=fun ρ=>(f ρ).bind fun p=>if aD p.1/\aG p.1 then (g p.1 p.2).map .nx else none
def cJ (f:En->Option (List D)) (g:List D->En->Option En):En->Option Fl:=fun ρ=>(f ρ).bind fun p=>if aD p/\aG p then (g p ρ).map .nx else none
theorem Kh {f:En->Option (List D)} {g:List D->En->Option En}:bw (bc f) g=cJ f g:=by
 funext ρ
 unfold bw cJ bc
 cases f ρ <;> rfl
theorem xV {ta:TA} {i j:Nat} (hi:P i=false) (hj:P j=false) {f:En->Option (List D×En)} (h:yF G ob ta f):RfS G ob P (Pz i j ta) (bw f (aJ (tgN i) (aJ (tgN j) aU))):=fun ρ r e σ H S Fr s E q=>by
 unfold bw at e
 cases h1:f ρ with
 | none=>simp [h1] at e
 | some p=>
  obtain ⟨ds,ρ1⟩:=p
  by_cases hc:aD ds/\aG ds
  .cases h2:(aJ (tgN i) (aJ (tgN j) aU)) ds ρ1 with
   | none=>simp [h1,h2,hc] at e
   | some ρ2=>
    have:Fl.nx ρ2=r:=by simpa [h1,h2,hc] using e
    subst this
    refine h ρ ds ρ1 h1 σ H S Fr s _ fun vs H1 M S1 s1 r1 nd f1=>?_
    have hF:∀ a∈M,¬ Fr a:=fun a ha z=>by
     rcases f1.fm a ha with q | q
     .exact s.notO z q
     .obtain ⟨o,ho,_⟩:=s.fdm a z
      rw [q] at ho; cases ho
    have key:=rE (mV (G:=G) (ob:=ob) hi) (rE (mV hj) yK) ds ρ1 ρ2 hc.1 hc.2 h2 vs σ H1 S1 M Fr s1 r1 nd hF (fun σ' H'=>E.nx σ' H') fun σ' H' S' s' m=>q σ' H' S' s' ⟨fun b u hb n1 n2=>?_,fun i a z=>?_,m.pr⟩
    .obtain ⟨v,rr,e1,v2,r2,e2,e3,k⟩:=key
     subst e3
     exact ⟨v,v2,by rw [e1,e2],k⟩
    .have hno:¬ inO ob S b:=fun ⟨i,_,z⟩=>n1 ⟨i,z⟩
     refine m.kp b u (f1.kp b u hb hno) (fun ⟨i,z⟩=>?_) fun z=>(f1.fm b z).elim hno fun z=>by rw [hb] at z; cases z
     cases ho:ob i with
     | false=>rw [f1.sn i ho] at z; exact n1 ⟨i,z⟩
     | true=>exact (f1.gr i b ho z).elim hno fun z=>by rw [hb] at z; cases z
    .rcases m.gr i a z with ⟨j,z⟩ | z | z
     .cases ho:ob j with
      | false=>rw [f1.sn j ho] at z; exact .inl ⟨j,z⟩
      | true=>exact (f1.gr j a ho z).imp (fun ⟨k,_,z⟩=>⟨k,z⟩) .inr
     .exact (f1.fm a z).imp (fun ⟨k,_,z⟩=>⟨k,z⟩) .inr
     .exact (f1.back z).imp (fun ⟨k,_,z⟩=>⟨k,z⟩) .inr
  .simp [h1,hc] at e
section
variable {x y:Str} {a b:Expr} {px py pt pos:Pos} {kt k2 pt2}
theorem yu (i j:Nat) {f:En->Option (List D×En)} (hc:∀ c,(X c).calm=true) (hN:∀ c,(X c).N.Nodup) (ha:tE X G ob [a,b] f) (hPi:P i=false:=by rfl) (hPj:P j=false:=by rfl) (hi:∀ c,(X c).N[i]? = some x:=by intro _; rfl) (hj:∀ c,(X c).N[j]? = some y:=by intro _; rfl) (hij:i≠j:=by decide) (hx:∀ c,(X c).env.scope.names.lookup x=some .local:=by intro _; rfl) (hy:∀ c,(X c).env.scope.names.lookup y=some .local:=by intro _; rfl) (hw:∀ c,swappedStores [.Tuple [.Name x px,.Name y py] kt pt] (.Tuple [a,b] k2 pt2) (X c).env=pure (some [x,y]):=by intro _; rfl) (hs:∀ c,swapsWithSole [.Tuple [.Name x px,.Name y py] kt pt] (.Tuple [a,b] k2 pt2) pos.line (X c).env=pure false:=by intro _; rfl) :
  PVS X G ob P (.Assign [.Tuple [.Name x px,.Name y py] kt pt] (.Tuple [a,b] k2 pt2) pos) (bw f (aJ (tgN i) (aJ (tgN j) aU))):=let ⟨t,a1,a2⟩:=ha.ex; ⟨_,fun c=>Fb (hc c) (hN c) (hi c) (hj c) hij (hx c) (hy c) (a1 c) (hw c) (hs c),xV hPi hPj a2⟩
theorem Cr (i j:Nat) {f:En->Option (List D)} (hc:∀ c,(X c).calm=true) (hN:∀ c,(X c).N.Nodup) (ha:PVA X G ob [a,b] f) (hPi:P i=false:=by rfl) (hPj:P j=false:=by rfl) (hi:∀ c,(X c).N[i]? = some x:=by intro _; rfl) (hj:∀ c,(X c).N[j]? = some y:=by intro _; rfl) (hij:i≠j:=by decide) (hx:∀ c,(X c).env.scope.names.lookup x=some .local:=by intro _; rfl) (hy:∀ c,(X c).env.scope.names.lookup y=some .local:=by intro _; rfl) (hw:∀ c,swappedStores [.Tuple [.Name x px,.Name y py] kt pt] (.Tuple [a,b] k2 pt2) (X c).env=pure (some [x,y]):=by intro _; rfl) (hs:∀ c,swapsWithSole [.Tuple [.Name x px,.Name y py] kt pt] (.Tuple [a,b] k2 pt2) pos.line (X c).env=pure false:=by intro _; rfl) :
  PVS X G ob P (.Assign [.Tuple [.Name x px,.Name y py] kt pt] (.Tuple [a,b] k2 pt2) pos) (cJ f (aJ (tgN i) (aJ (tgN j) aU))):=let ⟨t,a1,a2⟩:=ha.ex; ⟨_,fun c=>Fb (hc c) (hN c) (hi c) (hj c) hij (hx c) (hy c) (a1 c) (hw c) (hs c),by rw [← Kh]; exact xV hPi hPj (Fj a2)⟩
end
def sIf (c:En->Option Bool) (f g:En->Option Fl):En->Option Fl:=fun ρ=>(c ρ).bind fun b=>if b then f ρ else g ρ
def eZ (c:En->Option (Bool×En)) (f g:En->Option Fl):En->Option Fl:=fun ρ=>(c ρ).bind fun p=>if p.1 then f p.2 else g p.2
theorem Pb {c:En->Option Bool} {f g:En->Option Fl}:eZ (fD c) f g=sIf c f g:=by
 funext ρ
 unfold eZ sIf fD
 cases c ρ <;> rfl
theorem Bx {tc:TT} {t u:TS} {c:En->Option (Bool×En)} {f g:En->Option Fl} (hc:uZ G ob tc c) (h1:RfS G ob P t f) (h2:RfS G ob P u g):RfS G ob P (Pk tc t u) (eZ c f g):=fun ρ r e σ H S Fr s E q=>by
 unfold eZ at e
 cases h3:c ρ with
 | none=>simp [h3] at e
 | some p=>
  obtain ⟨b,ρ1⟩:=p
  refine hc ρ b ρ1 h3 σ H S Fr s _ fun H1 S1 s1 f1=>?_
  have m:Mv P H H1 σ σ S S1 []:=f1.mv
  cases b with
  | true=>exact sX (h1 ρ1 r (by simpa [h3] using e) σ H1 S1 Fr s1 E (q.from m))
  | false=>exact xx (h2 ρ1 r (by simpa [h3] using e) σ H1 S1 Fr s1 E (q.from m))
theorem fG {c:Expr} {a b:List Stmt} {pos:Pos} {fc:En->Option Bool} {f g:En->Option Fl} (hc:PVT X G ob c fc) (ha:tL X G ob P a f) (hb:tL X G ob P b g):PVS X G ob P (.If c a b pos) (sIf fc f g):=let ⟨v,c1,c2⟩:=hc.ex; let ⟨t,a1,a2⟩:=ha.ex; let ⟨u,b1,b2⟩:=hb.ex; ⟨_,fun c=>KJ (c1 c) (a1 c) (b1 c),by rw [← Pb]; exact Bx (Gq c2) a2 b2⟩
theorem pA {c:Expr} {a b:List Stmt} {pos:Pos} {fc:En->Option (Bool×En)} {f g:En->Option Fl} (hc:wM X G ob c fc) (ha:tL X G ob P a f) (hb:tL X G ob P b g):PVS X G ob P (.If c a b pos) (eZ fc f g):=let ⟨v,c1,c2⟩:=hc.ex; let ⟨t,a1,a2⟩:=ha.ex; let ⟨u,b1,b2⟩:=hb.ex; ⟨_,fun c=>KJ (c1 c) (a1 c) (b1 c),Bx c2 a2 b2⟩
def sEx (f:En->Option (D×En)):En->Option Fl:=fun ρ=>(f ρ).map fun p=>.nx p.2
def cu (f:En->Option (D×En)):En->Option Fl:=fun ρ=>(f ρ).bind fun p=>if clean p.1 then some (.ret p.1 p.2) else none
def bO (f:En->Option D):En->Option Fl:=fun ρ=>(f ρ).bind fun d=>if clean d then some (.ret d ρ) else none
theorem MK {f:En->Option D}:cu (eUp f)=bO f:=by
 funext ρ
 unfold cu bO eUp
 cases f ρ <;> rfl
theorem zr {te:TE} {f:En->Option (D×En)} (h:mF G ob te f):RfS G ob P (Ld te) (cu f):=fun ρ r e σ H S Fr s E q=>by
 unfold cu at e
 cases h1:f ρ with
 | none=>simp [h1] at e
 | some p=>
  obtain ⟨d,ρ1⟩:=p
  cases hc:clean d with
  | false=>simp [h1,hc] at e
  | true=>
   have:Fl.ret d ρ1=r:=by simpa [h1,hc] using e
   subst this
   exact h ρ d ρ1 h1 σ H S Fr s _ fun v H1 M S1 s1 r1 nd f1=>q v σ H1 M S1 s1 r1 hc nd (fun a ha=>(f1.fm a ha).imp (fun ⟨i,_,z⟩=>⟨i,z⟩) id) f1.mv
theorem bD {e:Expr} {pos:Pos} {f:En->Option D} (he:PV X G ob e f):PVS X G ob P (.Return (some e) pos) (bO f):=let ⟨t,a1,a2⟩:=he.ex; ⟨_,fun c=>z_ (a1 c),by rw [← MK]; exact zr (yj a2)⟩
theorem uR {e:Expr} {pos:Pos} {f:En->Option (D×En)} (he:PVe X G ob e f):PVS X G ob P (.Return (some e) pos) (cu f):=let ⟨t,a1,a2⟩:=he.ex; ⟨_,fun c=>z_ (a1 c),zr a2⟩
def dm:En->Option Fl:=fun ρ=>some (.ret .non ρ)
theorem Sta.move {G:Gc} {H:Hp} {ρ:En} {σ:L2.St} {S:Ad} {Fr:Addr->Prop} {i:Nat} {d:D} (s:Sta G H ob ρ σ S Fr) (e:ρ[i]? = some (some d)) :
  ∃ v,σ[i]? = some (some v)/\clean d=true/\Sta G H ob (ρ.set i none) σ (jW S i []) (plus (S i) Fr)/\Rep G H (wn ob (jW S i []) (plus (S i) Fr)) d v (S i):=by
 obtain ⟨v,h1,h2,h3⟩:=s.sl i d e
 have ev:Evo H H (wn ob S Fr) (wn ob (jW S i []) (plus (S i) Fr)):=⟨fun b u h f=>⟨h,⟨fun z=>z.elim (fun z=>?_) f.1,fun ⟨k,q1,q2⟩=>?_,fun ⟨k,q1,q2⟩=>?_⟩⟩,fun _ _ h=>h⟩
 .have hcc:=(by simpa [clean] using h3:aH d=true/\aF d=true)
  refine ⟨v,h1,h3,⟨by simp [s.len],fun j d' he=>?_,fun j hj=>?_,fun j=>?_,fun j k a q1 q2=>?_,fun j a q1 q2=>?_,fun a h=>?_⟩,h2.mono ev (.inl hcc.1) (.inl hcc.2) fun _ _ _ h=>h⟩
  .by_cases e':j=i
   .subst e'
    rw [List.getElem?_set] at he
    split at he
    .split at he
     .simp at he
     .cases he
    .exact absurd rfl ‹_›
   .rw [List.getElem?_set_ne (Ne.symm e')] at he
    obtain ⟨v',q1,q2,q3⟩:=s.sl j _ he
    refine ⟨v',q1,?_,q3⟩
    rw [iu e']
    have hcc:=(by simpa [clean] using q3:aH d'=true/\aF d'=true)
    exact q2.mono ev (.inl hcc.1) (.inl hcc.2) fun _ _ _ h=>h
  .by_cases e':j=i
   .rw [e',h_]
   .rw [iu e']
    exact s.em j fun d'=>by have:=hj d'; rwa [List.getElem?_set_ne (Ne.symm e')] at this
  .by_cases e':j=i
   .rw [e',h_]; exact List.nodup_nil
   .rw [iu e']; exact s.nd j
  .rcases gW q1 with ⟨_,z⟩ | ⟨_,z⟩
   .cases z
   .rcases gW q2 with ⟨_,z'⟩ | ⟨_,z'⟩
    .cases z'
    .exact s.dj j k a z z'
  .rcases gW q2 with ⟨_,z⟩ | ⟨n,z⟩
   .cases z
   .rcases q1 with q1 | q1
    .exact n (s.dj j i a z q1)
    .exact s.fdj j a q1 z
  .rcases h with h | h
   .exact s.mu h
   .exact s.fdm a h
 .cases ho:ob i with
  | false=>exact f.2.1 ⟨i,ho,z⟩
  | true=>exact f.2.2 ⟨i,ho,z⟩
 .rcases gW q2 with ⟨_,z⟩ | ⟨_,z⟩
  .cases z
  .exact f.2.1 ⟨k,q1,z⟩
 .rcases gW q2 with ⟨_,z⟩ | ⟨_,z⟩
  .cases z
  .exact f.2.2 ⟨k,q1,z⟩
def b_ (i:Nat):En->Option Fl:=fun ρ=>match ρ[i]? with
 | some (some d)=>some (.ret d (ρ.set i none))
 | _=>none
theorem Fz {i:Nat}:RfS G ob P (Ld (Ke i)) (b_ i):=fun ρ r e σ H S Fr s E q=>by
 unfold b_ at e
 split at e
 .rename_i d h1
  cases e
  obtain ⟨v,h2,h3,h4,h5⟩:=s.move h1
  exact ⟨v,h2,q v σ H (S i) (jW S i []) h4 h5 h3 (s.nd i) (fun a ha=>.inl ⟨i,ha⟩) ⟨fun _ _ h _ _=>h,fun j a z=>(gW z).elim (fun z=>by cases z.2) fun z=>.inl ⟨j,z.2⟩,.refl⟩⟩
 .cases e
theorem mK (i:Nat) {x:Str} {pos pos':Pos} (hN:∀ c,(X c).N[i]? = some x:=by intro _; rfl) (hv:∀ c,Vis (X c).env.scope x:=by intro _; first | exact Or.inl rfl | exact Or.inr (Or.inl rfl) | exact Or.inr (Or.inr rfl)) (hd:(x == ("__debug__" : Str))=false:=by decide) (hcd:(x == ("__classdict__" : Str))=false:=by decide):PVS X G ob P (.Return (some (.Name x pos)) pos') (b_ i):=⟨_,fun c=>z_ (pv i (hN c) (hv c) hd hcd),Fz⟩
end
def mkO:Mk->Mk
 | .own=>.frz
 | m=>m
mutual
def fzo:D->D
 | .tup ds=>.tup (dq ds)
 | .lst m ds=>.lst (mkO m) (dq ds)
 | .dct m ks ds=>.dct (mkO m) ks (dq ds)
 | .ins m c fs ds=>.ins (mkO m) c fs (dq ds)
 | d=>d
def dq:List D->List D
 | []=>[]
 | d :: r=>fzo d :: dq r
end
theorem jF:∀ ds:List D,dq ds=ds.map fzo
 | []=>rfl
 | d :: r=>by rw [dq,jF r]; rfl
section
variable {G:Gc} {H:Hp} {W W':Wn}
theorem gR.fzo {Kx:Addr->HO->Prop} {a:Addr} {o:HO} {m:Mk} {L M:List Addr} (hs:Les H W W' L) (hn:∀ a,W.s a->W'.s a) (h:gR Kx H W a o m L M):gR Kx H W' a o (mkO m) [] []:=by
 cases m with
 | own=>exact ⟨h.1,hs.l a (by rw [h.2]; simp),rfl,rfl⟩
 | frz=>exact ⟨h.1,hs.f a h.2.1,rfl,rfl⟩
 | brw=>exact ⟨h.1,hn a h.2.1,rfl,rfl⟩
 | bro=>exact ⟨h.1,rfl,rfl⟩
 | scr=>exact ⟨h.1.imp (fun z=>⟨z.1,hs.f a z.2⟩) id,rfl,rfl⟩
mutual
theorem Rep.fzo (hn:∀ a,W.s a->W'.s a):∀ {d:D} {v:V} {L:List Addr},Rep G H W d v L->Les H W W' L->Rep G H W' (fzo d) v []
 | .non,v,L,h,_=>by rw [Rep] at h; simp [Jb.fzo,Rep,h]
 | .bl _,v,L,h,_=>by rw [Rep] at h; simp [Jb.fzo,Rep,h]
 | .int _,v,L,h,_=>by rw [Rep] at h; simp [Jb.fzo,Rep,h]
 | .str _,v,L,h,_=>by rw [Rep] at h; simp [Jb.fzo,Rep,h]
 | .ty _,v,L,h,_=>by rw [Rep] at h; simp [Jb.fzo,Rep,h]
 | .tup ds,v,L,h,hs=>by
  rw [Rep] at h; rw [Jb.fzo,Rep]
  obtain ⟨a,xs,rfl,ht,hr⟩:=h
  exact ⟨a,xs,rfl,ht,aN.fzo hn hr hs⟩
 | .lst m ds,v,L,h,he=>by
  rw [Rep] at h; rw [Jb.fzo,Rep]
  obtain ⟨a,xs,M,rfl,hr,hs⟩:=h
  exact ⟨a,xs,[],rfl,aN.fzo hn hr (he.sub fun c hc=>hs.sub.subset hc),hs.fzo he hn⟩
 | .dct m ks ds,v,L,h,he=>by
  rw [Rep] at h; rw [Jb.fzo,Rep]
  obtain ⟨a,xs,M,rfl,hk,hr,hs⟩:=h
  exact ⟨a,xs,[],rfl,hk,aN.fzo hn hr (he.sub fun c hc=>hs.sub.subset hc),hs.fzo he hn⟩
 | .ins m c' fs ds,v,L,h,he=>by
  rw [Rep] at h; rw [Jb.fzo,Rep]
  obtain ⟨a,C,dx,xs,M,rfl,hC,hk,hr,hs⟩:=h
  exact ⟨a,C,dx,xs,[],rfl,hC,hk,aN.fzo hn hr (he.sub fun c hc=>hs.sub.subset hc),hs.fzo he hn⟩
theorem aN.fzo (hn:∀ a,W.s a->W'.s a):∀ {ds:List D} {vs:List V} {L:List Addr},aN G H W ds vs L->Les H W W' L->aN G H W' (dq ds) vs []
 | [],vs,L,h,_=>by obtain ⟨rfl,_⟩:=h.inv0; rw [dq]; exact .nil
 | d :: r,vs,L,h,he=>by
  obtain ⟨x,ys,M,M',rfl,rfl,h1,h2⟩:=h.inv
  rw [dq]
  exact .cons (M:=[]) (M':=[]) (Rep.fzo hn h1 (he.sub fun c hc=>List.mem_append_left _ hc)) (aN.fzo hn h2 (he.sub fun c hc=>List.mem_append_right _ hc))
end
mutual
theorem D_:∀ {d:D},aH d=true->aH (Jb.fzo d)=true
 | .non,_=>rfl | .bl _,_=>rfl | .int _,_=>rfl | .str _,_=>rfl | .ty _,_=>rfl
 | .tup ds,h=>by simp [aH] at h; simp [Jb.fzo,aH,iU h]
 | .lst m ds,h=>by simp [aH] at h; cases m <;> simp [Jb.fzo,aH,iU h.2,mkO] <;> simp at h
 | .dct m _ ds,h=>by simp [aH] at h; cases m <;> simp [Jb.fzo,aH,iU h.2,mkO] <;> simp at h
 | .ins m _ _ ds,h=>by simp [aH] at h; cases m <;> simp [Jb.fzo,aH,iU h.2,mkO] <;> simp at h
theorem iU:∀ {ds:List D},aD ds=true->aD (dq ds)=true
 | [],_=>rfl
 | d :: r,h=>by simp [aD] at h; simp [dq,aD,D_ h.1,iU h.2]
end
mutual
theorem Du:∀ {d:D},aF d=true->aF (Jb.fzo d)=true
 | .non,_=>rfl | .bl _,_=>rfl | .int _,_=>rfl | .str _,_=>rfl | .ty _,_=>rfl
 | .tup ds,h=>by simp [aF] at h; simp [Jb.fzo,aF,jb h]
 | .lst m ds,h=>by simp [aF] at h; cases m <;> simp [Jb.fzo,aF,jb h.2,mkO] <;> simp at h
 | .dct m _ ds,h=>by simp [aF] at h; cases m <;> simp [Jb.fzo,aF,jb h.2,mkO] <;> simp at h
 | .ins m _ _ ds,h=>by simp [aF] at h; cases m <;> simp [Jb.fzo,aF,jb h.2,mkO] <;> simp at h
theorem jb:∀ {ds:List D},aG ds=true->aG (dq ds)=true
 | [],_=>rfl
 | d :: r,h=>by simp [aG] at h; simp [dq,aG,Du h.1,jb h.2]
end
end
structure Wk (G:Gc) (J:It) (Lt:Hp->Wn->Prop) (items:List D):Prop where
 go:∀ (i:Nat) (d:D),items[i]? = some d->∀ H W,Lt H W->J.go i H
 yld:∀ (i:Nat) (d:D),items[i]? = some d->∀ H W,Lt H W->∀ x H',J.yld i H x H'->Same H H'/\Rep G H' W d x []
 stop:∀ H W,Lt H W->J.stop items.length H
def LtB (b:Bool) (H:Hp) (W:Wn):Hp->Wn->Prop:=fun H2 W2=>if b=true then Evo H H2 W W2 else Up H H2 W W2
theorem LtB.up {b:Bool} {H H2:Hp} {W W2:Wn} (u:Up H H2 W W2):LtB b H W H2 W2:=by
 cases b with
 | true=>exact sX u.evo
 | false=>exact xx u
def RfI (G:Gc) (ob:Nat->Bool) (wi:TI) (f:En->Option (Bool×List D)):Prop:=∀ (ρ:En) (b:Bool) (items:List D),f ρ=some (b,items)->∀ (σ:L2.St) (H:Hp) (W:Wn),Rel G H W ob ρ σ->WOk H W->∀ R:It->Hp->Prop,
 (∀ J H',Same H H'->Wk G J (LtB b H' W) items->R J H')->wi σ H R
structure PVI {ι:Type} (X:ι->Cx) (G:Gc) (ob:Nat->Bool) (tg it:Expr) (f:En->Option (Bool×List D)):Prop where
 mk :: (ex:∃ t,(∀ c,PI (X c) tg it t)/\RfI G ob t f)
section
variable {ι:Type} {X:ι->Cx} {G:Gc} {ob P:Nat->Bool}
def j9 (lo:Int) (n:Nat):List D:=(List.range n).map fun (k:Nat)=>D.int (lo + (k:Int))
def dO (f:En->Option (List D)):En->Option (Bool×List D):=fun ρ=>(f ρ).bind fun ds=>match ds with
 | [.int j]=>if -(2 ^ 62)<=j/\j < 2 ^ 62 then some (true,j9 0 j.toNat) else none
 | _=>none
def gJ (f:En->Option (List D)):En->Option (Bool×List D):=fun ρ=>(f ρ).bind fun ds=>match ds with
 | [.int i,.int j]=>if -(2 ^ 62)<=i/\i < 2 ^ 62/\-(2 ^ 62)<=j/\j < 2 ^ 62 then some (true,j9 i (j - i).toNat) else none
 | _=>none
theorem Fv {Lt:Hp->Wn->Prop} {lo:Int} {n:Nat}:Wk G (Itr lo n) Lt (j9 lo n) where
 go:=fun i d e H W _=>by
  have:=(List.getElem?_eq_some_iff.mp e).1
  show i < n
  simpa [j9] using this
 yld:=fun i d e H W _ x H' h=>by
  obtain ⟨rfl,rfl⟩:=h
  have:d = .int (lo + (i:Int)):=by
   unfold j9 at e
   rw [List.getElem?_map] at e
   have hi:i < n:=by
    have:=(List.getElem?_eq_some_iff.mp (show (j9 lo n)[i]? = some d by unfold j9; rw [List.getElem?_map]; exact e)).1
    simpa [j9] using this
   rw [List.getElem?_range hi] at e
   simpa using e.symm
  subst this
  exact ⟨Same.refl _,by rw [Rep]; exact ⟨rfl,rfl⟩⟩
 stop:=fun H W _=>by
  show n<=(j9 lo n).length
  simp [j9]
theorem Og {t:TA} {f:En->Option (List D)} (h:RfA G ob t f):RfI G ob (HY t) (dO f):=fun ρ b items e σ H W rl w R q=>by
 unfold dO at e
 cases h1:f ρ with
 | none=>simp [h1] at e
 | some ds=>
  rw [h1] at e
  simp only [Option.bind_some] at e
  split at e
  .rename_i j
   split at e
   .rename_i hj
    cases e
    refine h ρ _ h1 σ H W rl w _ fun vs H' L s r fr nd=>?_
    obtain ⟨x,ys,M,M',rfl,_,hx,hy⟩:=r.inv
    obtain ⟨rfl,_⟩:=hy.inv0
    rw [Rep] at hx
    obtain ⟨rfl,_⟩:=hx
    exact ⟨j,rfl,hj.1,hj.2,q _ H' s Fv⟩
   .cases e
  .cases e
def bC:D->Option (Bool×List D)
 | .lst m ds=>some (clean (.lst m ds),dq ds)
 | .tup ds=>some (clean (.tup ds),dq ds)
 | _=>none
def itS (f:En->Option D):En->Option (Bool×List D):=fun ρ=>(f ρ).bind bC
theorem vK {Kx:Addr->HO->Prop} {H H2:Hp} {W W1 W2:Wn} {b:Bool} {a:Addr} {o:HO} {m:Mk} {L M:List Addr} (h:gR Kx H W1 a o m L M) (he:Les H W1 W L) (hn:W1.s a->W.s a) (hb:b=true->m≠.brw/\m≠.bro) (l:LtB b H W H2 W2):Rd H2 a o∨Kx a o:=by
 cases b with
 | false=>
  have u:Up H H2 W W2:=(if_neg Bool.false_ne_true).mp l
  exact h.rx.imp (Same.rd u.s) id
 | true=>
  have e:Evo H H2 W W2:=(if_pos rfl).mp l
  cases m with
  | own=>exact .inl (.inl (e.k a o h.1 (he.l a (by rw [h.2]; simp))).1)
  | frz=>exact .inl (.inl (e.k a o h.1 (he.f a h.2.1)).1)
  | brw=>exact absurd rfl (hb rfl).1
  | bro=>exact absurd rfl (hb rfl).2
  | scr=>exact h.1.imp (fun z=>(e.rd z.1 (he.f a z.2)).1) id
theorem Kv {K:PySem.W.Frag} {H:Hp} {a:Addr} {xs:List V} (h:Rd H a (.lst xs)∨KO K a (.lst xs)):SqL K H a xs:=by
 rcases h with z | ⟨ys,e,z⟩
 .exact .inl z
 .cases e
  exact .inr z
theorem LtB.rep {G:Gc} {H H2:Hp} {W W2:Wn} {b:Bool} {d:D} {v:V} (l:LtB b H W H2 W2) (hb:b=true->aH d=true/\aF d=true) (r:Rep G H W d v []):Rep G H2 W2 d v []:=by
 cases b with
 | false=>exact r.up ((if_neg Bool.false_ne_true).mp l)
 | true=>exact r.mono ((if_pos rfl).mp l) (.inl (hb rfl).1) (.inl (hb rfl).2) (by simp)
theorem LtB.tup {H H2:Hp} {W W2:Wn} {b:Bool} {K:PySem.W.Frag} {a:Addr} {xs:List V} (l:LtB b H W H2 W2) (h:H a=some (.tup xs)):SqT K H2 a xs:=by
 cases b with
 | false=>exact SqT.of (((if_neg Bool.false_ne_true).mp l).s a _ h)
 | true=>exact SqT.of (((if_pos rfl).mp l).t a xs h)
theorem ni {ds:List D} {i:Nat} {d:D} (h:aD ds=true) (e:ds[i]? = some d):aH d=true:=by
 induction ds generalizing i with
 | nil=>simp at e
 | cons a r ih=>
  simp only [aD,Bool.and_eq_true] at h
  cases i with
  | zero=>
   have:a=d:=by simpa using e
   rw [← this]; exact h.1
  | succ i=>exact ih h.2 (by simpa using e)
theorem m9 {ds:List D} {i:Nat} {d:D} (h:aG ds=true) (e:ds[i]? = some d):aF d=true:=by
 induction ds generalizing i with
 | nil=>simp at e
 | cons a r ih=>
  simp only [aG,Bool.and_eq_true] at h
  cases i with
  | zero=>
   have:a=d:=by simpa using e
   rw [← this]; exact h.1
  | succ i=>exact ih h.2 (by simpa using e)
structure Parts (G:Gc) (H:Hp) (W:Wn) (b:Bool) (es:List D) (xs:List V):Prop where
 r:aN G H W es xs []
 c:b=true->aD es=true/\aG es=true
theorem Parts.at {G:Gc} {H H2:Hp} {W W2:Wn} {b:Bool} {es:List D} {xs:List V} (p:Parts G H W b es xs) (l:LtB b H W H2 W2) {i:Nat} {d:D} {x:V} (e:es[i]? = some d) (hx:xs[i]? = some x):Rep G H2 W2 d x []:=by
 obtain ⟨y,M,h1,h2,h3⟩:=p.r.get e
 rw [hx] at h1
 cases h1
 have:M=[]:=by simpa using h3
 subst this
 exact l.rep (fun z=>⟨ni (p.c z).1 e,m9 (p.c z).2 e⟩) h2
theorem Cw {G:Gc} {H H':Hp} {W:Wn} {d:D} {v:V} {L:List Addr} {b:Bool} {es:List D} (w:WOk H W) (s:Same H H') (r:Rep G H' (W.add L) d v L) (fr:∀ a∈L,H a=none) (e:bC d=some (b,es)) :
  ∃ a xs,v = .ref a/\Parts G H' W b es xs/\((∀ H2 W2,LtB b H' W H2 W2->SqL G.K H2 a xs)∨(∀ H2 W2,LtB b H' W H2 W2->SqT G.K H2 a xs)):=by
 have free:∀ a∈L,W.free a:=fun a ha=>⟨fun z=>?_,fun z=>?_,fun z=>?_⟩
 .have les:Les H' (W.add L) W L:=⟨fun a f=>⟨fun z=>f.1 (.inr z),f.2⟩,free⟩
  cases d with
  | lst m ds=>
   simp only [bC,Option.some.injEq,Prod.mk.injEq] at e
   obtain ⟨rfl,rfl⟩:=e
   rw [Rep] at r
   obtain ⟨a,xs,M,rfl,hr,hs⟩:=r
   refine ⟨a,xs,rfl,⟨aN.fzo (W:=W.add L) (W':=W) (fun _ z=>z) hr (les.sub fun c hc=>hs.sub.subset hc),fun z=>?_⟩,.inl fun H2 W2 l=>Kv (vK hs les (fun z=>z) (fun z=>?_) l)⟩
   .simp [clean,aH,aF] at z
    exact ⟨iU z.1.2,jb z.2.2⟩
   .simp [clean,aH,aF] at z
    exact ⟨z.1.1,z.2.1⟩
  | tup ds=>
   simp only [bC,Option.some.injEq,Prod.mk.injEq] at e
   obtain ⟨rfl,rfl⟩:=e
   rw [Rep] at r
   obtain ⟨a,xs,rfl,ht,hr⟩:=r
   refine ⟨a,xs,rfl,⟨aN.fzo (W:=W.add L) (W':=W) (fun _ z=>z) hr les,fun z=>?_⟩,.inr fun H2 W2 l=>l.tup ht⟩
   simp [clean,aH,aF] at z
   exact ⟨iU z.1,jb z.2⟩
  | _=>simp [bC] at e
 .obtain ⟨o,ho,_⟩:=w a (.inl z); rw [fr a ha] at ho; cases ho
 .obtain ⟨o,ho,_⟩:=w a (.inr (.inl z)); rw [fr a ha] at ho; cases ho
 .obtain ⟨o,ho,_⟩:=w a (.inr (.inr z)); rw [fr a ha] at ho; cases ho
theorem aN.getV {G:Gc} {H:Hp} {W:Wn} {ds:List D} {xs:List V} {L:List Addr} {i:Nat} {d:D} (h:aN G H W ds xs L) (e:ds[i]? = some d):∃ x,xs[i]? = some x:=let ⟨x,_,h,_⟩:=h.get e; ⟨x,h⟩
theorem Ih {te:TE} {f:En->Option D} (h:RfE G ob te f):RfI G ob (N_ G.K te) (itS f):=fun ρ b items e σ H W rl w R q=>by
 unfold itS at e
 cases h1:f ρ with
 | none=>simp [h1] at e
 | some d=>
  have e:bC d=some (b,items):=by simpa [h1] using e
  refine h ρ d h1 σ H W rl w _ fun v H' L s r fr nd=>?_
  obtain ⟨a,xs,rfl,p,hs⟩:=Cw w s r fr e
  refine ⟨a,rfl,?_⟩
  rcases hs with hs | hs
  .refine .inl ⟨⟨xs,hs H' W (LtB.up Up.refl)⟩,q _ H' s ⟨fun i d e H2 W2 l=>?_,fun i d e H2 W2 l x H3 y=>?_,fun H2 W2 l=>?_⟩⟩
   .obtain ⟨x,hx⟩:=p.r.getV e
    exact ⟨xs,x,hs H2 W2 l,hx⟩
   .obtain ⟨rfl,y⟩:=y
    exact ⟨Same.refl _,p.at l e (y xs (hs _ W2 l))⟩
   .exact ⟨xs,hs H2 W2 l,by rw [p.r.length]; exact Nat.le_refl _⟩
  .refine .inr ⟨⟨xs,hs H' W (LtB.up Up.refl)⟩,q _ H' s ⟨fun i d e H2 W2 l=>?_,fun i d e H2 W2 l x H3 y=>?_,fun H2 W2 l=>?_⟩⟩
   .obtain ⟨x,hx⟩:=p.r.getV e
    exact ⟨xs,x,hs H2 W2 l,hx⟩
   .obtain ⟨rfl,y⟩:=y
    exact ⟨Same.refl _,p.at l e (y xs (hs _ W2 l))⟩
   .exact ⟨xs,hs H2 W2 l,by rw [p.r.length]; exact Nat.le_refl _⟩
def nT:Nat->List D->List D
 | _,[]=>[]
 | i,d :: r=>.tup [.int (i:Int),d] :: nT (i + 1) r
theorem ph:∀ (ds:List D) (k i:Nat),(nT k ds)[i]? = (ds[i]?).map fun d=>.tup [.int ((k + i:Nat):Int),d]
 | [],k,i=>by simp [nT]
 | d :: r,k,i=>by
  cases i with
  | zero=>simp [nT]
  | succ i=>
   simp only [nT,List.getElem?_cons_succ]
   rw [ph r (k + 1) i,show k + 1 + i=k + (i + 1) by omega]
theorem o7:∀ (ds:List D) (k:Nat),(nT k ds).length=ds.length
 | [],k=>rfl
 | d :: r,k=>by simp [nT,o7 r (k + 1)]
def itE (f:En->Option (List D)):En->Option (Bool×List D):=fun ρ=>(f ρ).bind fun ds=>match ds with
 | [d]=>(bC d).map fun p=>(p.1,nT 0 p.2)
 | _=>none
theorem Hu {t:TA} {f:En->Option (List D)} (h:RfA G ob t f):RfI G ob (Ft G.K t) (itE f):=fun ρ b items e σ H W rl w R q=>by
 unfold itE at e
 cases h1:f ρ with
 | none=>simp [h1] at e
 | some ds=>
  rw [h1] at e
  simp only [Option.bind_some] at e
  split at e
  .rename_i d
   cases h2:bC d with
   | none=>simp [h2] at e
   | some p=>
    obtain ⟨b',es⟩:=p
    obtain ⟨rfl,rfl⟩:b'=b/\nT 0 es=items:=by simpa [h2] using e
    refine h ρ _ h1 σ H W rl w _ fun vs H' L s r fr nd=>?_
    obtain ⟨v,ys,M,M',rfl,rfl,hv,hy⟩:=r.inv
    obtain ⟨rfl,rfl⟩:=hy.inv0
    rw [List.append_nil] at hv fr
    obtain ⟨a,xs,rfl,p,hs⟩:=Cw w s hv fr h2
    have pair:∀ (i:Nat) (d':D) (pa:Addr) (x:V) (H2:Hp) (W2:Wn),(nT 0 es)[i]? = some d'->LtB b' H' W H2 W2->H2 pa=none->xs[i]? = some x->Same H2 (upd H2 pa (.tup [.int i,x]))/\Rep G (upd H2 pa (.tup [.int i,x])) W2 d' (.ref pa) []:=fun i d' pa x H2 W2 e l hp hx=>by
     rw [ph] at e
     cases h3:es[i]? with
     | none=>rw [h3] at e; cases e
     | some d0=>
      rw [h3] at e
      have e:D.tup [.int (i:Int),d0]=d':=by simpa using e
      subst e
      have sm:Same H2 (upd H2 pa (.tup [.int i,x])):=Same.new hp
      refine ⟨sm,?_⟩
      rw [Rep]
      refine ⟨pa,_,rfl,dg,.cons (M:=[]) (M':=[]) (by rw [Rep]; exact ⟨rfl,rfl⟩) (.one ((p.at l h3 hx).up (Up.same sm)))⟩
    refine ⟨a,rfl,?_⟩
    have hget:∀ (i:Nat) (d':D),(nT 0 es)[i]? = some d'->∃ x,xs[i]? = some x:=fun i d' e=>by
     rw [ph] at e
     cases h3:es[i]? with
     | none=>rw [h3] at e; cases e
     | some d0=>exact p.r.getV h3
    rcases hs with hs | hs
    .refine .inl ⟨⟨xs,hs H' W (LtB.up Up.refl)⟩,q _ H' s ⟨fun i d e H2 W2 l=>?_,fun i d e H2 W2 l x H3 y=>?_,fun H2 W2 l=>?_⟩⟩
     .obtain ⟨x,hx⟩:=hget i d e
      exact ⟨xs,x,hs H2 W2 l,hx⟩
     .obtain ⟨pa,v,hp,rfl,hv,rfl⟩:=y
      exact pair i d pa v H2 W2 e l hp (hv xs (hs _ W2 l))
     .exact ⟨xs,hs H2 W2 l,by rw [o7,p.r.length]; exact Nat.le_refl _⟩
    .refine .inr ⟨⟨xs,hs H' W (LtB.up Up.refl)⟩,q _ H' s ⟨fun i d e H2 W2 l=>?_,fun i d e H2 W2 l x H3 y=>?_,fun H2 W2 l=>?_⟩⟩
     .obtain ⟨x,hx⟩:=hget i d e
      exact ⟨xs,x,hs H2 W2 l,hx⟩
     .obtain ⟨pa,v,hp,rfl,hv,rfl⟩:=y
      exact pair i d pa v H2 W2 e l hp (hv xs (hs _ W2 l))
     .exact ⟨xs,hs H2 W2 l,by rw [o7,p.r.length]; exact Nat.le_refl _⟩
  .cases e
section
variable {tg a b:Expr} {p pos tpos:Pos} {elts:List Expr} {x1:Nat}
theorem pU {f:En->Option (List D)} (hg:∀ c,Gl (X c) "range") (hm:∀ c,(X c).mg "range" = none) (ha:PVA X G ob [a] f) (hs:∀ c,starEach [a] (X c).env=[(false,eval a (X c).env)]:=by intro _; rfl):PVI X G ob tg (.Call (.Name "range" p) [a] [] pos) (dO f):=let ⟨t,a1,a2⟩:=ha.ex; ⟨_,fun c=>wy (hg c) (hm c) (a1 c) (hs c),Og a2⟩
theorem g_ {f:En->Option D} (ha:PV X G ob a f) (hK:∀ c,(X c).K=G.K:=by intro _; rfl):PVI X G ob tg a (itS f):=let ⟨t,a1,a2⟩:=ha.ex; ⟨_,fun c=>(by rw [← hK c]; exact GD (a1 c)),Ih a2⟩
theorem HS {f:En->Option (List D)} (hg:∀ c,Gl (X c) "enumerate") (hm:∀ c,(X c).mg "enumerate" = none) (ha:PVA X G ob [a] f) (hs:∀ c,starEach [a] (X c).env=[(false,eval a (X c).env)]:=by intro _; rfl) (hK:∀ c,(X c).K=G.K:=by intro _; rfl):PVI X G ob (.Tuple elts x1 tpos) (.Call (.Name "enumerate" p) [a] [] pos) (itE f):=let ⟨t,a1,a2⟩:=ha.ex; ⟨_,fun c=>(by rw [← hK c]; exact G3 (hg c) (hm c) (a1 c) (hs c)),Hu a2⟩
end
def forL (tg:D->En->Option En) (body:En->Option Fl):List D->En->Option Fl
 | [],ρ=>some (.nx ρ)
 | d :: r,ρ=>(tg d ρ).bind fun ρ1=>match body ρ1 with
  | some (.nx ρ2)=>forL tg body r ρ2
  | some (.cnt ρ2)=>forL tg body r ρ2
  | some (.brk ρ2)=>some (.nx ρ2)
  | o=>o
def dF (it:En->Option (Bool×List D)) (tg:D->En->Option En) (body:En->Option Fl):En->Option Fl:=fun ρ=>(it ρ).bind fun p=>if p.1=true then forL tg body p.2 ρ else none
theorem zN {G:Gc} {H H2:Hp} {ρ:En} {σ σ2:L2.St} {S S2:Ad} {Fr:Addr->Prop} (s:Sta G H ob ρ σ S Fr) (m:Mv P H H2 σ σ2 S S2 []):Evo H H2 (wn ob S Fr) (wn ob S2 Fr) where
 k:=fun b u hb f=>by
  have n1:¬ inS S b:=fun ⟨i,z⟩=>by
   cases ho:ob i with
   | false=>exact f.2.1 ⟨i,ho,z⟩
   | true=>exact f.2.2 ⟨i,ho,z⟩
  have n2:¬ inS S2 b:=fun ⟨i,z⟩=>(m.gr i b z).elim n1 fun z=>z.elim (fun z=>by cases z) fun z=>by rw [hb] at z; cases z
  exact ⟨m.kp b u hb n1 (by simp),f.1,fun ⟨i,_,z⟩=>n2 ⟨i,z⟩,fun ⟨i,_,z⟩=>n2 ⟨i,z⟩⟩
 t:=fun b xs h=>by
  have no:∀ u,H b=some u->muO u=false->H2 b=some u:=fun u hu mu=>m.kp b u hu (fun ⟨i,z⟩=>by
   obtain ⟨o,ho,hm⟩:=s.mu z
   rw [hu] at ho; cases ho; rw [mu] at hm; cases hm) (by simp)
  exact no _ h rfl
theorem Iv {wi:TI} {g:TG} {tb:TS} {it:En->Option (Bool×List D)} {tg:D->En->Option En} {body:En->Option Fl} (hi:RfI G ob wi it) (hg:RfG G ob P g tg) (hb:RfS G ob P tb body):RfS G ob P (K9 wi g tb) (dF it tg body):=fun ρ r e σ H S Fr s E q=>by
 unfold dF at e
 cases h1:it ρ with
 | none=>simp [h1] at e
 | some p=>
  obtain ⟨b,items⟩:=p
  cases b with
  | false=>simp [h1] at e
  | true=>
   have e:forL tg body items ρ=some r:=by simpa [h1] using e
   refine hi ρ true items h1 σ H _ s.rel s.wok _ fun J H1 sm wk=>?_
   have s1:Sta G H1 ob ρ σ S Fr:=s.grow sm fun a z=>.inl z
   have m1:Mv P H H1 σ σ S S []:=⟨fun b u h _ _=>sm b u h,fun i a z=>.inl ⟨i,z⟩,.refl⟩
   have q1:=q.from m1
   have ltof:∀ {ρ2:En} {σ2:L2.St} {H2:Hp} {S2:Ad},Mv P H1 H2 σ σ2 S S2 []->LtB true H1 (wn ob S Fr) H2 (wn ob S2 Fr):=fun m=>sX (zN s1 m)
   refine ⟨fun i m σ2 H2=>i + m=items.length/\∃ ρ2 S2,Sta G H2 ob ρ2 σ2 S2 Fr/\Mv P H1 H2 σ σ2 S S2 []/\forL tg body (items.drop i) ρ2=some r,⟨items.length,by omega,ρ,S,s1,.refl,e⟩,?_⟩
   rintro i m σ2 H2 ⟨him,ρ2,S2,s2,m2,e2⟩
   by_cases hil:i < items.length
   .refine .inr ⟨wk.go i items[i] (by simp [hil]) H2 _ (ltof (ρ2:=ρ2) m2),fun σ' H'=>(i + 1) + (m - 1)=items.length/\∃ ρ2 S2,Sta G H' ob ρ2 σ' S2 Fr/\Mv P H1 H' σ σ' S S2 []/\forL tg body (items.drop (i + 1)) ρ2=some r,fun σ' H' h=>⟨m - 1,by omega,h⟩,fun x H3 hy=>?_⟩
    obtain ⟨s3,rx⟩:=wk.yld i items[i] (by simp [hil]) H2 _ (ltof (ρ2:=ρ2) m2) x H3 hy
    rw [← List.getElem_cons_drop hil,forL] at e2
    cases h3:tg items[i] ρ2 with
    | none=>simp [h3] at e2
    | some ρ3=>
     rw [h3] at e2
     simp only [Option.bind_some] at e2
     have st3:Sta G H3 ob ρ2 σ2 S2 Fr:=s2.grow s3 fun a z=>.inl z
     refine hg items[i] ρ2 ρ3 h3 x σ2 H3 S2 [] Fr (by rw [lr]; exact st3) (by rw [lr]; exact rx) List.nodup_nil (by simp) _ fun σ4 H4 S4 s4 m4=>?_
     have m24:Mv P H1 H4 σ σ4 S S4 []:=(m2.trans (S2:=S2) ⟨fun b u h _ _=>s3 b u h,fun i a z=>.inl ⟨i,z⟩,.refl⟩).trans m4
     cases h5:body ρ3 with
     | none=>rw [h5] at e2; cases e2
     | some fl=>
      rw [h5] at e2
      refine hb ρ3 fl h5 σ4 H4 S4 Fr s4 _ ?_
      cases fl with
      | nx ρ5=>exact fun σ' H' S' s' m'=>⟨by omega,ρ5,S',s',m24.trans m',e2⟩
      | cnt ρ5=>exact fun σ' H' S' s' m'=>⟨by omega,ρ5,S',s',m24.trans m',e2⟩
      | brk ρ5=>cases e2; exact fun σ' H' S' s' m'=>q1 σ' H' S' s' (m24.trans m')
      | ret d ρ5=>cases e2; exact q1.from m24
   .have hl:i=items.length:=by omega
    rw [hl,List.drop_length,forL] at e2
    cases e2
    subst hl
    exact .inl ⟨wk.stop H2 _ (ltof (ρ2:=ρ2) m2),q1 σ2 H2 S2 s2 m2⟩
theorem jG {tg iter:Expr} {body:List Stmt} {pos:Pos} {it:En->Option (Bool×List D)} {g:D->En->Option En} {f:En->Option Fl} (hp:∀ c,PassesOwn (model (X c).prog (X c).w) (X c).A (X c).env (X c).xe) (hc:∀ c,(X c).calm=true) (hi:PVI X G ob tg iter it) (hg:PVG X G ob P tg g) (hb:tL X G ob P body f) (hs:∀ c,∀ x,foldedSetIterable iter (X c).env x=pure x:=by intro _; intro _; rfl):PVS X G ob P (.For tg iter body [] pos) (dF it g f):=let ⟨v,c1,c2⟩:=hi.ex; let ⟨t,a1,a2⟩:=hg.ex; let ⟨u,b1,b2⟩:=hb.ex; ⟨_,fun c=>Gy (hp c) (hc c) (c1 c) (a1 c) (b1 c) (hs c),Iv c2 a2 b2⟩
def cL (i:Nat) (ρ:En):Option En:=match ρ[i]? with
 | some (some d)=>some (ρ.set i (some (fz d)))
 | _=>none
theorem Sta.freeze {G:Gc} {H:Hp} {ρ ρ':En} {σ:L2.St} {S:Ad} {Fr:Addr->Prop} {i:Nat} (s:Sta G H ob ρ σ S Fr) (e:cL i ρ=some ρ'):Sta G H ob ρ' σ (jW S i []) Fr:=by
 unfold cL at e
 split at e
 .rename_i d h1
  cases e
  obtain ⟨v,h2,h3,h4,h5⟩:=s.move h1
  have h6:Sta G H ob (ρ.set i none) σ (jW S i []) Fr:=h4.lessF fun a z=>.inr z
  have hil:i < ρ.length:=(List.getElem?_eq_some_iff.mp h1).1
  have rf:Rep G H (wn ob (jW S i []) Fr) (fz d) v []:=by
   refine h5.fz ⟨fun a f=>⟨fun z=>f.1 (.inr z),f.2⟩,fun a ha=>⟨fun z=>s.fdj i a z ha,fun ⟨j,q1,q2⟩=>?_,fun ⟨j,q1,q2⟩=>?_⟩⟩ (.inl h3)
   .rcases gW q2 with ⟨_,z⟩ | ⟨n,z⟩
    .cases z
    .exact n (s.dj j i a z ha)
   .rcases gW q2 with ⟨_,z⟩ | ⟨n,z⟩
    .cases z
    .exact n (s.dj j i a z ha)
  refine ⟨by simp [s.len],fun j d' he=>?_,fun j hj=>?_,h6.nd,h6.dj,h6.fdj,h6.fdm⟩
  .by_cases e':j=i
   .subst e'
    have:fz d=d':=by simpa [hil] using he
    subst this
    exact ⟨v,h2,by rw [h_]; exact rf,HH d⟩
   .rw [List.getElem?_set_ne (Ne.symm e')] at he
    exact h6.sl j d' (by rw [List.getElem?_set_ne (Ne.symm e')]; exact he)
  .by_cases e':j=i
   .rw [e',h_]
   .exact h6.em j fun d'=>by have:=hj d'; rw [List.getElem?_set_ne (Ne.symm e')] at this ⊢; exact this
 .cases e
def sFz (i:Nat) (f:En->Option Fl):En->Option Fl:=fun ρ=>(cL i ρ).bind f
theorem Nh {t:TS} {f:En->Option Fl} {i:Nat} (h:RfS G ob P t f):RfS G ob P t (sFz i f):=fun ρ r e σ H S Fr s E q=>by
 unfold sFz at e
 cases h1:cL i ρ with
 | none=>simp [h1] at e
 | some ρ1=>
  have e:f ρ1=some r:=by simpa [h1] using e
  have m:Mv P H H σ σ S (jW S i []) []:=⟨fun _ _ h _ _=>h,fun j a z=>(gW z).elim (fun z=>by cases z.2) fun z=>.inl ⟨j,z.2⟩,.refl⟩
  exact h ρ1 r e σ H (jW S i []) Fr (s.freeze h1) E (q.from m)
theorem oZ (i:Nat) {st:Stmt} {f:En->Option Fl} (h:PVS X G ob P st f):PVS X G ob P st (sFz i f):=let ⟨t,a1,a2⟩:=h.ex; ⟨t,a1,Nh a2⟩
end
mutual
def iY:D->Bool
 | .tup ds=>jz ds
 | .lst m ds=>m == .own && jz ds
 | .dct m _ ds=>m == .own && jz ds
 | .ins m _ _ ds=>m == .own && jz ds
 | _=>true
def jz:List D->Bool
 | []=>true
 | d :: r=>iY d && jz r
end
section
variable {G:Gc} {H:Hp} {W W':Wn}
mutual
theorem Rep.own:∀ {d:D} {v:V} {L:List Addr},Rep G H W d v L->iY d=true->Rep G H W' d v L
 | .non,v,L,h,_=>by rw [Rep] at h ⊢; exact h
 | .bl _,v,L,h,_=>by rw [Rep] at h ⊢; exact h
 | .int _,v,L,h,_=>by rw [Rep] at h ⊢; exact h
 | .str _,v,L,h,_=>by rw [Rep] at h ⊢; exact h
 | .ty _,v,L,h,_=>by rw [Rep] at h ⊢; exact h
 | .tup ds,v,L,h,o=>by
  rw [Rep] at h ⊢
  obtain ⟨a,xs,rfl,ht,hr⟩:=h
  exact ⟨a,xs,rfl,ht,aN.own hr (by simpa [iY] using o)⟩
 | .lst m ds,v,L,h,o=>by
  rw [Rep] at h ⊢
  obtain ⟨a,xs,M,rfl,hr,hs⟩:=h
  simp [iY] at o
  obtain ⟨rfl,o⟩:=o
  exact ⟨a,xs,M,rfl,aN.own hr o,hs⟩
 | .dct m ks ds,v,L,h,o=>by
  rw [Rep] at h ⊢
  obtain ⟨a,xs,M,rfl,hk,hr,hs⟩:=h
  simp [iY] at o
  obtain ⟨rfl,o⟩:=o
  exact ⟨a,xs,M,rfl,hk,aN.own hr o,hs⟩
 | .ins m c fs ds,v,L,h,o=>by
  rw [Rep] at h ⊢
  obtain ⟨a,C,dx,xs,M,rfl,hC,hk,hr,hs⟩:=h
  simp [iY] at o
  obtain ⟨rfl,o⟩:=o
  exact ⟨a,C,dx,xs,M,rfl,hC,hk,aN.own hr o,hs⟩
theorem aN.own:∀ {ds:List D} {vs:List V} {L:List Addr},aN G H W ds vs L->jz ds=true->aN G H W' ds vs L
 | [],vs,L,h,_=>by rw [aN] at h ⊢; exact h
 | d :: r,vs,L,h,o=>by
  obtain ⟨x,ys,M,M',rfl,rfl,h1,h2⟩:=h.inv
  simp [jz] at o
  exact .cons (Rep.own h1 o.1) (aN.own h2 o.2)
end
end
def W1 (Fr:Addr->Prop):Wn:=⟨Fr,fun _=>False,fun _=>False⟩
def spP (G:Gc) (F:List D->Option D):Sp:=fun vs H Q _=>∃ (ds:List D) (Fr:Addr->Prop),aN G H (W1 Fr) ds vs []/\aD ds=true/\aG ds=true/\(∀ a,Fr a->Mu H a)/\∃ d,F ds=some d/\
 ∀ v H' L,Same H H'->Rep G H' (W1 (plus L Fr)) d v L->(∀ a∈L,H a=none)->L.Nodup->clean d=true->Q v H'
def en0 (n:Nat) (ds:List D):En:=ds.map some++List.replicate (n - ds.length) none
def fnP (np n:Nat) (body:En->Option Fl):List D->Option D:=fun ds=>if ds.length=np then (body (en0 n ds)).bind fun r=>match r with
 | .ret d _=>some d
 | .nx _=>some .non
 | _=>none else none
theorem Cg {n:Nat} {ds:List D} {i:Nat} {d:D} (h:(en0 n ds)[i]? = some (some d)):ds[i]? = some d:=by
 unfold en0 at h
 by_cases hi:i < ds.length
 .rw [List.getElem?_append_left (by simpa using hi)] at h
  simpa using h
 .rw [List.getElem?_append_right (by simpa using Nat.le_of_not_lt hi)] at h
  rw [List.getElem?_replicate] at h
  split at h
  .simp at h
  .cases h
theorem QF {G:Gc} {H:Hp} {ob:Nat->Bool} {ds:List D} {vs:List V} {N:List Str} {Fr:Addr->Prop} (r:aN G H (W1 Fr) ds vs []) (c1:aD ds=true) (c2:aG ds=true) (fm:∀ a,Fr a->Mu H a):Sta G H ob (en0 N.length ds) (L2.start N vs) (fun _=>[]) Fr where
 len:=by simp [en0,L2.start,r.length]
 sl:=fun i d e=>by
  have e:=Cg e
  obtain ⟨x,M,h1,h2,h3⟩:=r.get e
  have:M=[]:=by simpa using h3
  subst this
  refine ⟨x,?_,h2.up ⟨Same.refl _,fun b u hb f=>⟨f.1,fun ⟨j,_,z⟩=>(by cases z),fun ⟨j,_,z⟩=>(by cases z)⟩,fun b u hb f=>f.elim⟩,by simp [clean,ni c1 e,m9 c2 e]⟩
  unfold L2.start
  have hi:i < vs.length:=(List.getElem?_eq_some_iff.mp h1).1
  rw [List.getElem?_append_left (by simpa using hi)]
  simp [h1]
 em:=fun _ _=>rfl
 nd:=fun _=>List.nodup_nil
 dj:=fun i j a h=>by cases h
 fdj:=fun i a _ h=>by cases h
 fdm:=fm
section
variable {P:Program} {w:World} {K:PySem.W.Frag} {mg:Str->Option Value} {base:Heap}
theorem L_ {a:Addr}:¬ inS (fun _=>[]) a:=fun ⟨_,z⟩=>by cases z
theorem okP {x qual:Str} {st:Stmt} {f:Addr} {fd:FuncData} {N ps:List Str} {k:Nat} {ob Pr:Nat->Bool} {body:En->Option Fl} (F:Fun K x qual st f fd) (S:cF N ps (aK st))
  (hb:∀ (cdv:Value) (A:Around) (outer:List Env) (s:Shared) (H:Hp) (E:XK),lD k (A.deeper (envOfC qual (aK st) s.heap.objs.size f cdv))->tL (fun _:Unit=>(zb CX0 P w K mg base N qual (aK st) f cdv A outer s H E).nox) ⟨K,mg⟩ ob Pr (bV st) body) :
  iI P w K mg base CX0 (k + 1) f fd ps (spP ⟨K,mg⟩ (fnP ps.length N.length body)):=by
 refine F.ok S (fun vs H Q E h=>?_) (fun cdv A outer s H vs Q E hr h=>?_)
 .obtain ⟨ds,Fr,r,_,_,_,d,e,_⟩:=h
  unfold fnP at e
  split at e
  .rename_i hl
   rw [← r.length]; exact hl
  .cases e
 .obtain ⟨ds,Fr,r,c1,c2,fm,d,e,q⟩:=h
  obtain ⟨t,a1,a2⟩:=(hb cdv A outer s H E hr).ex
  refine ⟨t,a1 (),?_⟩
  unfold fnP at e
  split at e
  .cases h1:body (en0 N.length ds) with
   | none=>simp [h1] at e
   | some fl=>
    rw [h1] at e
    simp only [Option.bind_some] at e
    refine a2 _ fl h1 (L2.start N vs) H (fun _=>[]) Fr (QF (ob:=ob) r c1 c2 fm) _ ?_
    have wle:∀ {S':Ad} {M:List Addr} {b:Addr},(wn ob S' (plus M Fr)).free b->(W1 (plus M Fr)).free b:=fun z=>⟨z.1,id,id⟩
    cases fl with
    | nx ρ'=>
     cases e
     exact fun σ' H' S' s' m=>q .non H' [] (fun b o h=>m.kp b o h L_ (by simp)) (by rw [Rep]; exact ⟨rfl,rfl⟩) (by simp) List.nodup_nil rfl
    | ret d' ρ'=>
     cases e
     exact fun v σ' H' M S' s' r' c n f m=>q v H' M (fun b o h=>m.kp b o h L_ (by simp)) (by
      have hcc:=(by simpa [clean] using c:aH d=true/\aF d=true)
      have ev:Evo H' H' (wn ob S' (plus M Fr)) (W1 (plus M Fr)):=⟨fun b u h z=>⟨h,wle z⟩,fun _ _ h=>h⟩
      exact r'.mono ev (.inl hcc.1) (.inl hcc.2) fun _ _ _ h=>h) (fun a ha=>(f a ha).resolve_left L_) n c
    | brk ρ'=>cases e
    | cnt ρ'=>cases e
  .cases e
end
def bj (F:List D->Option D) (ds:List D):Option D:=(F (fzL ds)).bind fun d=>if (aD ds && aG ds) || iY d then some d else none
theorem ym {G:Gc} {F:List D->Option D} {E:XK}:CaV G (fun vs H Q=>spP G F (vs++[]) H Q E) (bj F):=fun ds d e xs H W L0 r nd hn w Q q=>by
 unfold bj at e
 cases h1:F (fzL ds) with
 | none=>simp [h1] at e
 | some d'=>
  rw [h1] at e
  simp only [Option.bind_some] at e
  split at e
  .rename_i hc
   cases e
   rw [List.append_nil]
   by_cases hcl:aD ds=true/\aG ds=true
   .refine ⟨fzL ds,fun a=>(W.n a∨W.s a∨W.o a)/\a∉L0,r.fz ⟨fun a f=>⟨fun z=>z.1.elim f.1 fun z=>z.elim f.2.1 f.2.2,id,id⟩,fun a ha=>⟨fun z=>z.2 ha,id,id⟩⟩ (.inl hcl),jP ds,jN ds,fun a h=>w a h.1,d,h1,fun v H' L s r' fr n c=>?_⟩
    refine q v H' L s ?_ (fun a ha=>.inr (fr a ha)) n
    have hcc:=(by simpa [clean] using c:aH d=true/\aF d=true)
    have hL:∀ a∈L,a∉L0:=fun a ha z=>by
     obtain ⟨o,ho,_⟩:=r.dom a z
     rw [fr a ha] at ho; cases ho
    have ev:Evo H' H' (W1 (plus L fun a=>(W.n a∨W.s a∨W.o a)/\a∉L0)) ((W.drop L0).add L):=⟨fun b u h f=>⟨h,⟨fun z=>z.elim (fun z=>f.1 (.inl z)) fun z=>f.1 (.inr ⟨.inl z.1,z.2⟩),fun z=>f.1 (.inr ⟨.inr (.inl z),fun y=>?_⟩),fun z=>f.1 (.inr ⟨.inr (.inr z),fun y=>?_⟩)⟩⟩,fun _ _ h=>h⟩
    .exact r'.mono ev (.inl hcc.1) (.inl hcc.2) fun _ _ _ h=>h
    .exact (hn b y).2.1 z
    .exact (hn b y).2.2 z
   .have ho:iY d=true:=by
     simp only [Bool.or_eq_true,Bool.and_eq_true] at hc
     exact hc.resolve_left hcl
    refine ⟨fzL ds,fun _=>False,r.fz ⟨fun a f=>⟨id,id,id⟩,fun a ha=>⟨id,id,id⟩⟩ (.inr fun a=>⟨id,id,id⟩),jP ds,jN ds,fun a h=>h.elim,d,h1,fun v H' L s r' fr n c=>?_⟩
    exact q v H' L s (r'.own ho) (fun a ha=>.inr (fr a ha)) n
  .cases e
section
variable {ι:Type} {X:ι->Cx} {G:Gc} {ob:Nat->Bool} {e:Expr} {es:List Expr} {p pos:Pos}
theorem iB {k:Nat} {x:Str} {ps:List Str} {F:List D->Option D} {f:En->Option (List D)} (C:∀ c,Cal (X c).prog (X c).w (X c).K (X c).mg (X c).base k x ps (spP G F)) (hr:∀ c,lD k (X c).A) (ha:PVA X G ob (e :: es) f) (hg:∀ c,Gl (X c) x:=by intro _; rfl) (hdb:(x == ("__debug__" : Str))=false:=by decide) (he:∀ c,starEach (e :: es) (X c).env=(false,eval e (X c).env) :: starEach es (X c).env:=by intro _; rfl) (hpl:∀ c,(backTo pos (starEach es (X c).env)).any (·.1)=false:=by intro _; rfl) :
  PV X G ob (.Call (.Name x p) (e :: es) [] pos) (eAp (bj F) f):=let ⟨t,a1,a2⟩:=ha.ex; ⟨_,fun c=>Ac (C c) (hr c) (hg c) (a1 c) hdb (he c) (hpl c),wC ym a2⟩
theorem Io {k:Nat} {x:Str} {ps:List Str} {F:List D->Option D} {f:En->Option (List D×En)} (C:∀ c,Cal (X c).prog (X c).w (X c).K (X c).mg (X c).base k x ps (spP G F)) (hr:∀ c,lD k (X c).A) (ha:tE X G ob (e :: es) f) (hg:∀ c,Gl (X c) x:=by intro _; rfl) (hdb:(x == ("__debug__" : Str))=false:=by decide) (he:∀ c,starEach (e :: es) (X c).env=(false,eval e (X c).env) :: starEach es (X c).env:=by intro _; rfl) (hpl:∀ c,(backTo pos (starEach es (X c).env)).any (·.1)=false:=by intro _; rfl) :
  PVe X G ob (.Call (.Name x p) (e :: es) [] pos) (dJ (bj F) f):=let ⟨t,a1,a2⟩:=ha.ex; ⟨_,fun c=>Ac (C c) (hr c) (hg c) (a1 c) hdb (he c) (hpl c),uW ym a2⟩
end
section
variable {G:Gc} {H:Hp} {W W':Wn}
theorem gR.fz2 {Kx:Addr->HO->Prop} {a:Addr} {o:HO} {m:Mk} {L M:List Addr} (hs:Les H W W' L) (hb:m≠.brw∨∀ a,W.s a->W'.free a) (ho:m≠.bro∨o8 W') (h:gR Kx H W a o m L M):gR Kx H W' a o (mkF m) [] []:=by
 cases m with
 | own=>exact ⟨h.1,hs.l a (by rw [h.2]; simp),rfl,rfl⟩
 | frz=>exact ⟨h.1,hs.f a h.2.1,rfl,rfl⟩
 | brw=>exact ⟨h.1,hb.elim (fun z=>absurd rfl z) fun z=>z a h.2.1,rfl,rfl⟩
 | bro=>exact ⟨h.1,ho.elim (fun z=>absurd rfl z) fun z=>z a,rfl,rfl⟩
 | scr=>exact ⟨h.1.imp (fun z=>⟨z.1,hs.f a z.2⟩) id,rfl,rfl⟩
mutual
theorem Rep.fz2:∀ {d:D} {v:V} {L:List Addr},Rep G H W d v L->Les H W W' L->(aH d=true∨∀ a,W.s a->W'.free a)->(aF d=true∨o8 W')->Rep G H W' (fz d) v []
 | .non,v,L,h,_,_,_=>by rw [Rep] at h; simp [Jb.fz,Rep,h]
 | .bl _,v,L,h,_,_,_=>by rw [Rep] at h; simp [Jb.fz,Rep,h]
 | .int _,v,L,h,_,_,_=>by rw [Rep] at h; simp [Jb.fz,Rep,h]
 | .str _,v,L,h,_,_,_=>by rw [Rep] at h; simp [Jb.fz,Rep,h]
 | .ty _,v,L,h,_,_,_=>by rw [Rep] at h; simp [Jb.fz,Rep,h]
 | .tup ds,v,L,h,hs,c,o=>by
  rw [Rep] at h; rw [Jb.fz,Rep]
  obtain ⟨a,xs,rfl,ht,hr⟩:=h
  exact ⟨a,xs,rfl,ht,aN.fz2 hr hs (by simpa [aH] using c) (by simpa [aF] using o)⟩
 | .lst m ds,v,L,h,he,c,o=>by
  rw [Rep] at h; rw [Jb.fz,Rep]
  obtain ⟨a,xs,M,rfl,hr,hs⟩:=h
  exact ⟨a,xs,[],rfl,aN.fz2 hr (he.sub fun c hc=>hs.sub.subset hc) (c.imp (fun z=>by simp [aH] at z; exact z.2) id) (o.imp (fun z=>by simp [aF] at z; exact z.2) id),hs.fz2 he (c.imp (fun z=>by simp [aH] at z; exact z.1) id) (o.imp (fun z=>by simp [aF] at z; exact z.1) id)⟩
 | .dct m ks ds,v,L,h,he,c,o=>by
  rw [Rep] at h; rw [Jb.fz,Rep]
  obtain ⟨a,xs,M,rfl,hk,hr,hs⟩:=h
  exact ⟨a,xs,[],rfl,hk,aN.fz2 hr (he.sub fun c hc=>hs.sub.subset hc) (c.imp (fun z=>by simp [aH] at z; exact z.2) id) (o.imp (fun z=>by simp [aF] at z; exact z.2) id),hs.fz2 he (c.imp (fun z=>by simp [aH] at z; exact z.1) id) (o.imp (fun z=>by simp [aF] at z; exact z.1) id)⟩
 | .ins m c' fs ds,v,L,h,he,c,o=>by
  rw [Rep] at h; rw [Jb.fz,Rep]
  obtain ⟨a,C,dx,xs,M,rfl,hC,hk,hr,hs⟩:=h
  exact ⟨a,C,dx,xs,[],rfl,hC,hk,aN.fz2 hr (he.sub fun c hc=>hs.sub.subset hc) (c.imp (fun z=>by simp [aH] at z; exact z.2) id) (o.imp (fun z=>by simp [aF] at z; exact z.2) id),hs.fz2 he (c.imp (fun z=>by simp [aH] at z; exact z.1) id) (o.imp (fun z=>by simp [aF] at z; exact z.1) id)⟩
theorem aN.fz2:∀ {ds:List D} {vs:List V} {L:List Addr},aN G H W ds vs L->Les H W W' L->(aD ds=true∨∀ a,W.s a->W'.free a)->(aG ds=true∨o8 W')->aN G H W' (fzL ds) vs []
 | [],vs,L,h,_,_,_=>by obtain ⟨rfl,_⟩:=h.inv0; rw [fzL]; exact .nil
 | d :: r,vs,L,h,he,c,o=>by
  obtain ⟨x,ys,M,M',rfl,rfl,h1,h2⟩:=h.inv
  rw [fzL]
  exact .cons (M:=[]) (M':=[]) (Rep.fz2 h1 (he.sub fun c hc=>List.mem_append_left _ hc) (c.imp (fun z=>by simp [aD] at z; exact z.1) id) (o.imp (fun z=>by simp [aG] at z; exact z.1) id))
   (aN.fz2 h2 (he.sub fun c hc=>List.mem_append_right _ hc) (c.imp (fun z=>by simp [aD] at z; exact z.2) id) (o.imp (fun z=>by simp [aG] at z; exact z.2) id))
end
end
def spI (G:Gc) (ob pr:Nat->Bool) (F:List D->Option (D×List D)):Sp:=fun vs H Q _=>∃ (ds:List D) (S:Ad) (Fr:Addr->Prop),Sta G H ob (ds.map some) (vs.map some) S Fr/\(∀ i,pr i=false->S i=[])/\∃ d ds',F ds=some (d,ds')/\
 ∀ v H' M S',Sta G H' ob (ds'.map some) (vs.map some) S' (plus M Fr)->Rep G H' (wn ob S' (plus M Fr)) d v M->clean d=true->M.Nodup->(∀ a∈M,inS S a∨H a=none)->Mv (fun _=>false) H H' [] [] S S' []->Q v H'
def outs (pr:Nat->Bool) (ρ:En):Nat->List D->Option (List D)
 | _,[]=>some []
 | i,d :: r=>(if pr i=true then (match ρ[i]? with
  | some (some e)=>some e
  | _=>none) else some d).bind fun e=>(outs pr ρ (i + 1) r).map fun t=>e :: t
def fnI (pr:Nat->Bool) (np n:Nat) (body:En->Option Fl):List D->Option (D×List D):=fun ds=>if ds.length=np then (body (en0 n ds)).bind fun r=>match r with
 | .ret d ρ=>(outs pr ρ 0 ds).map fun o=>(d,o)
 | .nx ρ=>(outs pr ρ 0 ds).map fun o=>(.non,o)
 | _=>none else none
theorem Ci {pr:Nat->Bool} {ρ:En}:∀ {ds ds':List D} {k:Nat},outs pr ρ k ds=some ds'->ds'.length=ds.length/\∀ i d,ds'[i]? = some d->(pr (k + i)=true/\ρ[k + i]? = some (some d))∨(pr (k + i)=false/\ds[i]? = some d)
 | [],ds',k,e=>by
  cases e
  exact ⟨rfl,fun i d h=>by simp at h⟩
 | d0 :: r,ds',k,e=>by
  rw [outs] at e
  cases h2:outs pr ρ (k + 1) r with
  | none=>
   rw [h2] at e
   simp at e
  | some t=>
   rw [h2] at e
   obtain ⟨l1,l2⟩:=Ci h2
   have key:∃ e0,ds'=e0 :: t/\((pr k=true/\ρ[k]? = some (some e0))∨(pr k=false/\d0=e0)):=by
    split at e
    .rename_i hp
     split at e
     .rename_i e0 h0
      exact ⟨e0,by simpa using e.symm,.inl ⟨hp,h0⟩⟩
     .simp at e
    .rename_i hp
     exact ⟨d0,by simpa using e.symm,.inr ⟨by simpa using hp,rfl⟩⟩
   obtain ⟨e0,rfl,hk⟩:=key
   refine ⟨by simp [l1],fun i d h=>?_⟩
   cases i with
   | zero=>
    have:e0=d:=by simpa using h
    subst this
    exact hk.imp id fun z=>⟨z.1,by simp [z.2]⟩
   | succ i=>
    have:=l2 i d (by simpa using h)
    rw [show k + 1 + i=k + (i + 1) by omega] at this
    simpa using this
theorem m_ {α:Type} {xs:List α} {i:Nat} {x:α} (h:(xs.map some)[i]? = some (some x)):xs[i]? = some x:=by
 rw [List.getElem?_map] at h
 cases e:xs[i]? with
 | none=>rw [e] at h; cases h
 | some y=>rw [e] at h; simpa using h
theorem je {α:Type} {xs:List α} {i:Nat} {x:α} (h:xs[i]? = some x):(xs.map some)[i]? = some (some x):=by rw [List.getElem?_map,h]; rfl
theorem QB {G:Gc} {H:Hp} {ob:Nat->Bool} {ds:List D} {vs:List V} {N:List Str} {S:Ad} {Fr:Addr->Prop} (s:Sta G H ob (ds.map some) (vs.map some) S Fr):Sta G H ob (en0 N.length ds) (L2.start N vs) S Fr where
 len:=by have:=s.len; simp at this; simp [en0,L2.start,this]
 sl:=fun i d e=>by
  obtain ⟨v,h1,h2,h3⟩:=s.sl i d (je (Cg e))
  refine ⟨v,?_,h2,h3⟩
  unfold L2.start
  have hi:i < (vs.map some).length:=(List.getElem?_eq_some_iff.mp h1).1
  rw [List.getElem?_append_left hi]
  exact h1
 em:=fun i h=>s.em i fun d e=>h d (by
  unfold en0
  have hi:i < (ds.map some).length:=(List.getElem?_eq_some_iff.mp e).1
  rw [List.getElem?_append_left hi]
  exact e)
 nd:=s.nd
 dj:=s.dj
 fdj:=s.fdj
 fdm:=s.fdm
section
variable {P:Program} {w:World} {K:PySem.W.Frag} {mg:Str->Option Value} {base:Heap}
theorem yc {G:Gc} {H H':Hp} {ob pr:Nat->Bool} {ds ds':List D} {vs:List V} {N:List Str} {S S1:Ad} {Fr:Addr->Prop} {ρ:En} {σ:L2.St} {M:List Addr} (s:Sta G H ob (ds.map some) (vs.map some) S Fr) (hp:∀ i,pr i=false->S i=[]) (s1:Sta G H' ob ρ σ S1 (plus M Fr))
  (m:Mv pr H H' (L2.start N vs) σ S S1 []) (hM:∀ a∈M,inS S a∨H a=none) (e:outs pr ρ 0 ds=some ds') :
  Sta G H' ob (ds'.map some) (vs.map some) (fun i=>if pr i=true/\i < ds.length then S1 i else []) (plus M Fr):=by
 obtain ⟨hl,hg⟩:=Ci e
 have lv:ds.length=vs.length:=by have:=s.len; simpa using this
 have sub:∀ {i a},a∈(if pr i=true/\i < ds.length then S1 i else [])->a∈S1 i:=fun {i a} z=>by
  split at z
  .exact z
  .cases z
 refine ⟨by simp [hl,lv],fun i d h=>?_,fun i h=>?_,fun i=>?_,fun i j a h1 h2=>s1.dj i j a (sub h1) (sub h2),fun i a h z=>s1.fdj i a h (sub z),s1.fdm⟩
 .have h:=m_ h
  have hi:i < ds.length:=by rw [← hl]; exact (List.getElem?_eq_some_iff.mp h).1
  rcases hg i d h with ⟨h1,h2⟩ | ⟨h1,h2⟩
  .rw [Nat.zero_add] at h1 h2
   obtain ⟨v,q1,q2,q3⟩:=s1.sl i d h2
   have e1:=m.pr i h1
   rw [q1] at e1
   refine ⟨v,?_,?_,q3⟩
   .unfold L2.start at e1
    rw [List.getElem?_append_left (by simp; omega)] at e1
    exact e1.symm
   .rw [if_pos ⟨h1,hi⟩]
    have hcc:=(by simpa [clean] using q3:aH d=true/\aF d=true)
    have ev:Evo H' H' (wn ob S1 (plus M Fr)) (wn ob (fun i=>if pr i=true/\i < ds.length then S1 i else []) (plus M Fr)):=⟨fun b u hb f=>⟨hb,⟨f.1,fun ⟨j,z1,z2⟩=>f.2.1 ⟨j,z1,sub z2⟩,fun ⟨j,z1,z2⟩=>f.2.2 ⟨j,z1,sub z2⟩⟩⟩,fun _ _ h=>h⟩
    exact q2.mono ev (.inl hcc.1) (.inl hcc.2) fun _ _ _ h=>h
  .rw [Nat.zero_add] at h1
   obtain ⟨v,q1,q2,q3⟩:=s.sl i d (je h2)
   refine ⟨v,q1,?_,q3⟩
   rw [if_neg fun z=>by rw [h1] at z; cases z.1]
   rw [hp i h1] at q2
   have hcc:=(by simpa [clean] using q3:aH d=true/\aF d=true)
   have ev0:=zN s (σ2:=σ) (H2:=H') (S2:=S1) (P:=fun _=>false) ⟨m.kp,m.gr,fun i h=>by cases h⟩
   have ev:Evo H H' (wn ob S Fr) (wn ob (fun i=>if pr i=true/\i < ds.length then S1 i else []) (plus M Fr)):=⟨fun b u hb f=>?_,ev0.t⟩
   .exact q2.mono ev (.inl hcc.1) (.inl hcc.2) (by simp)
   .obtain ⟨k1,k2⟩:=ev0.k b u hb f
    refine ⟨k1,fun z=>z.elim (fun z=>?_) f.1,fun ⟨j,z1,z2⟩=>k2.2.1 ⟨j,z1,sub z2⟩,fun ⟨j,z1,z2⟩=>k2.2.2 ⟨j,z1,sub z2⟩⟩
    rcases hM b z with ⟨j,y⟩ | y
    .cases ho:ob j with
     | false=>exact f.2.1 ⟨j,ho,y⟩
     | true=>exact f.2.2 ⟨j,ho,y⟩
    .rw [hb] at y; cases y
 .split
  .rename_i z
   exfalso
   have hi:i < ds'.length:=by rw [hl]; exact z.2
   exact h ds'[i] (je (by simp [hi]))
  .rfl
 .show (if pr i=true/\i < ds.length then S1 i else []).Nodup
  split
  .exact s1.nd i
  .exact List.nodup_nil
theorem okI {x qual:Str} {st:Stmt} {f:Addr} {fd:FuncData} {N ps:List Str} {k:Nat} {ob pr:Nat->Bool} {body:En->Option Fl} (F:Fun K x qual st f fd) (S:cF N ps (aK st))
  (hb:∀ (cdv:Value) (A:Around) (outer:List Env) (s:Shared) (H:Hp) (E:XK),lD k (A.deeper (envOfC qual (aK st) s.heap.objs.size f cdv))->tL (fun _:Unit=>(zb CX0 P w K mg base N qual (aK st) f cdv A outer s H E).nox) ⟨K,mg⟩ ob pr (bV st) body) :
  iI P w K mg base CX0 (k + 1) f fd ps (spI ⟨K,mg⟩ ob pr (fnI pr ps.length N.length body)):=by
 refine F.ok S (fun vs H Q E h=>?_) (fun cdv A outer s H vs Q E hr h=>?_)
 .obtain ⟨ds,S,Fr,st,_,d,ds',e,_⟩:=h
  unfold fnI at e
  split at e
  .rename_i hl
   have:=st.len
   simp at this
   rw [← this]; exact hl
  .cases e
 .obtain ⟨ds,S0,Fr,st,hp,d,ds',e,q⟩:=h
  obtain ⟨t,a1,a2⟩:=(hb cdv A outer s H E hr).ex
  refine ⟨t,a1 (),?_⟩
  unfold fnI at e
  split at e
  .cases h1:body (en0 N.length ds) with
   | none=>simp [h1] at e
   | some fl=>
    rw [h1] at e
    simp only [Option.bind_some] at e
    refine a2 _ fl h1 (L2.start N vs) H S0 Fr (QB st) _ ?_
    have sub:∀ {S1:Ad} {i a},a∈(if pr i=true/\i < ds.length then S1 i else [])->a∈S1 i:=fun {S1 i a} z=>by
     split at z
     .exact z
     .cases z
    cases fl with
    | nx ρ'=>
     cases h2:outs pr ρ' 0 ds with
     | none=>simp [h2] at e
     | some o=>
      obtain ⟨rfl,rfl⟩:D.non=d/\o=ds':=by simpa [h2] using e
      refine fun σ' H' S1 s1 m=>q .non H' [] _ (yc st hp (M:=[]) (by rw [lr]; exact s1) m (by simp) h2) (by rw [Rep]; exact ⟨rfl,rfl⟩) rfl List.nodup_nil (by simp) ⟨m.kp,fun i a z=>m.gr i a (sub z),fun i h=>by cases h⟩
    | ret d' ρ'=>
     cases h2:outs pr ρ' 0 ds with
     | none=>simp [h2] at e
     | some o=>
      obtain ⟨rfl,rfl⟩:d'=d/\o=ds':=by simpa [h2] using e
      refine fun v σ' H' M S1 s1 r c n f m=>q v H' M _ (yc st hp s1 m f h2) ?_ c n f ⟨m.kp,fun i a z=>m.gr i a (sub z),fun i h=>by cases h⟩
      have hcc:=(by simpa [clean] using c:aH d'=true/\aF d'=true)
      have ev:Evo H' H' (wn ob S1 (plus M Fr)) (wn ob (fun i=>if pr i=true/\i < ds.length then S1 i else []) (plus M Fr)):=⟨fun b u hb f=>⟨hb,⟨f.1,fun ⟨j,z1,z2⟩=>f.2.1 ⟨j,z1,sub z2⟩,fun ⟨j,z1,z2⟩=>f.2.2 ⟨j,z1,sub z2⟩⟩⟩,fun _ _ h=>h⟩
      exact r.mono ev (.inl hcc.1) (.inl hcc.2) fun _ _ _ h=>h
    | brk ρ'=>cases e
    | cnt ρ'=>cases e
  .cases e
end
def RfM (G:Gc) (ob:Nat->Bool) (t:TA) (js:List Nat) (f:En->Option (List D×En)):Prop:=∀ (ρ:En) (ds:List D) (ρ':En),f ρ=some (ds,ρ')->∀ (σ:L2.St) (H:Hp) (S:Ad) (Fr:Addr->Prop),Sta G H ob ρ σ S Fr->
 ∀ us:List V,js.map (fun j=>σ[j]?)=us.map (fun u=>some (some u))->∀ Q:List V->Hp->Prop,
 (∀ vs H' M S',Sta G H' ob ρ' σ S' (plus M Fr)->aN G H' (wn ob S' (plus M Fr)) ds vs M->M.Nodup->Eff ob H H' S S' M->Q (us++vs) H')->t σ H Q
structure PVM {ι:Type} (X:ι->Cx) (G:Gc) (ob:Nat->Bool) (es:List Expr) (js:List Nat) (f:En->Option (List D×En)):Prop where
 mk :: (ex:∃ t,(∀ c,PA (X c) es t)/\RfM G ob t js f)
section
variable {ι:Type} {X:ι->Cx} {G:Gc} {ob:Nat->Bool}
theorem a_ {es:List Expr} {f:En->Option (List D×En)} (h:tE X G ob es f):PVM X G ob es [] f:=by
 obtain ⟨t,a1,a2⟩:=h.ex
 refine ⟨t,a1,fun ρ ds ρ' e σ H S Fr s us hu Q q=>?_⟩
 have:us=[]:=by simpa using hu
 subst this
 exact a2 ρ ds ρ' e σ H S Fr s Q q
theorem aZ (i:Nat) {x:Str} {pos:Pos} {es:List Expr} {js:List Nat} {f:En->Option (List D×En)} (h:PVM X G ob es js f) (hN:∀ c,(X c).N[i]? = some x:=by intro _; rfl) (hv:∀ c,Vis (X c).env.scope x:=by intro _; first | exact Or.inl rfl | exact Or.inr (Or.inl rfl) | exact Or.inr (Or.inr rfl)) (hd:(x == ("__debug__" : Str))=false:=by decide) (hcd:(x == ("__classdict__" : Str))=false:=by decide) (hs:∀ c,starEach (.Name x pos :: es) (X c).env=(false,eval (.Name x pos) (X c).env) :: starEach es (X c).env:=by intro _; rfl):PVM X G ob (.Name x pos :: es) (i :: js) f:=by
 obtain ⟨t,a1,a2⟩:=h.ex
 refine ⟨_,fun c=>wH (pv i (hN c) (hv c) hd hcd) (a1 c) (hs c),fun ρ ds ρ' e σ H S Fr s us hu Q q=>?_⟩
 cases us with
 | nil=>simp at hu
 | cons u us=>
  rw [List.map_cons,List.map_cons] at hu
  injection hu with h1 h2
  exact ⟨u,h1,a2 ρ ds ρ' e σ H S Fr s us h2 _ fun vs H' M S' s' r n ef=>q vs H' M S' s' r n ef⟩
def objs (js:List Nat) (ρ:En):Option (List D):=js.mapM fun j=>ρ[j]?.bind id
def bY:List Nat->List D->En->En
 | j :: js,d :: ds,ρ=>bY js ds (ρ.set j (some d))
 | _,_,ρ=>ρ
def eIo (F:List D->Option (D×List D)) (js:List Nat) (f:En->Option (List D×En)):En->Option (D×En):=fun ρ=>if (objs js ρ).isSome=true then (f ρ).bind fun p=>(objs js p.2).bind fun os=>if aG p.1=true then (F (os++fzL p.1)).bind fun q=>
 if aD p.1=true∨(iY q.1=true/\jz (q.2.take js.length)=true) then some (q.1,bY js q.2 p.2) else none else none else none
theorem wU {ρ:En}:∀ {js:List Nat} {os:List D},objs js ρ=some os->os.length=js.length/\∀ (k j:Nat),js[k]? = some j->∃ d,os[k]? = some d/\ρ[j]? = some (some d)
 | [],os,h=>by
  have:os=[]:=by simpa [objs] using h.symm
  subst this
  exact ⟨rfl,fun k j h=>by simp at h⟩
 | j :: js,os,h=>by
  unfold objs at h
  rw [List.mapM_cons] at h
  cases h1:ρ[j]?.bind id with
  | none=>simp [h1] at h
  | some d=>
   cases h2:js.mapM (fun j=>ρ[j]?.bind id) with
   | none=>simp [h1,h2] at h
   | some t=>
    have:os=d :: t:=by simpa [h1,h2] using h.symm
    subst this
    obtain ⟨l,g⟩:=wU (js:=js) (os:=t) h2
    refine ⟨by simp [l],fun k i e=>?_⟩
    cases k with
    | zero=>
     have:j=i:=by simpa using e
     subst this
     refine ⟨d,rfl,?_⟩
     cases h3:ρ[j]? with
     | none=>rw [h3] at h1; cases h1
     | some o=>rw [h3] at h1; simpa using h1
    | succ k=>simpa using g k i (by simpa using e)
theorem vX:∀ (js:List Nat) (ds:List D) (ρ:En),(bY js ds ρ).length=ρ.length
 | [],ds,ρ=>by cases ds <;> rfl
 | _ :: _,[],ρ=>rfl
 | j :: js,d :: ds,ρ=>by rw [bY,vX js ds]; simp
theorem oA:∀ {js:List Nat} {ds:List D} {ρ:En} {j:Nat},j∉js->(bY js ds ρ)[j]? = ρ[j]?
 | [],ds,ρ,j,_=>by cases ds <;> rfl
 | _ :: _,[],ρ,j,_=>rfl
 | i :: js,d :: ds,ρ,j,h=>by
  rw [bY,oA (fun z=>h (List.mem_cons_of_mem _ z)),List.getElem?_set_ne fun z=>h (by rw [z]; exact List.mem_cons_self)]
theorem uA:∀ {js:List Nat} {ds:List D} {ρ:En} {k j:Nat} {d:D},js.Nodup->js[k]? = some j->ds[k]? = some d->j < ρ.length->(bY js ds ρ)[j]? = some (some d)
 | [],ds,ρ,k,j,d,_,h,_,_=>by simp at h
 | _ :: _,[],ρ,k,j,d,_,_,h,_=>by simp at h
 | i :: js,d0 :: ds,ρ,k,j,d,n,h1,h2,hl=>by
  rw [bY]
  cases k with
  | zero=>
   have e1:i=j:=by simpa using h1
   have e2:d0=d:=by simpa using h2
   subst e1 e2
   rw [oA (List.nodup_cons.mp n).1]
   simp [hl]
  | succ k=>exact uA (List.nodup_cons.mp n).2 (by simpa using h1) (by simpa using h2) (by simpa using hl)
def pick (S:Ad) (js:List Nat):Ad:=fun i=>match js[i]? with
 | some j=>S j
 | none=>[]
theorem lu {S:Ad} {js:List Nat} {i:Nat} {a:Addr} (h:a∈pick S js i):∃ j,js[i]? = some j/\a∈S j:=by
 unfold pick at h
 split at h
 .rename_i j e; exact ⟨j,e,h⟩
 .cases h
def back (S:Ad) (js:List Nat) (Sc:Ad):Ad:=fun j=>match js.idxOf? j with
 | some i=>Sc i
 | none=>S j
theorem uo {js:List Nat} {j i:Nat} (h:js.idxOf? j=some i):js[i]? = some j:=by
 obtain ⟨h1,h2,h3⟩:=List.findIdx?_eq_some_iff_getElem.mp h
 have:js[i]=j:=by simpa using h2
 rw [List.getElem?_eq_getElem h1,this]
theorem zq {js:List Nat} {j:Nat} (h:js.idxOf? j=none):j∉js:=by
 intro z
 have:=List.findIdx?_eq_none_iff.mp h j z
 simp at this
theorem Oj {js:List Nat} (n:js.Nodup) {i j:Nat} (h:js[i]? = some j):js.idxOf? j=some i:=by
 cases e:js.idxOf? j with
 | none=>exact absurd (List.mem_of_getElem? h) (zq e)
 | some k=>
  have:=uo e
  have hk:k < js.length:=(List.getElem?_eq_some_iff.mp this).1
  rw [(List.getElem?_inj hk n).mp (this.trans h.symm)]
theorem JD {S Sc:Ad} {js:List Nat} (n:js.Nodup) {i j:Nat} (h:js[i]? = some j):back S js Sc j=Sc i:=by unfold back; rw [Oj n h]
theorem wI {S Sc:Ad} {js:List Nat} {j:Nat} (h:j∉js):back S js Sc j=S j:=by
 unfold back
 split
 .rename_i i e; exact absurd (List.mem_of_getElem? (uo e)) h
 .rfl
theorem mQ {S Sc:Ad} {js:List Nat} {j:Nat} {a:Addr} (h:a∈back S js Sc j):(∃ i,js[i]? = some j/\a∈Sc i)∨(j∉js/\a∈S j):=by
 unfold back at h
 split at h
 .rename_i i e; exact .inl ⟨i,uo e,h⟩
 .rename_i e; exact .inr ⟨zq e,h⟩
theorem w5 {ds:List D} {k i:Nat} {d:D} (h:jz (ds.take k)=true) (e:ds[i]? = some d) (hi:i < k):iY d=true:=by
 induction ds generalizing k i with
 | nil=>simp at e
 | cons a r ih=>
  cases k with
  | zero=>omega
  | succ k=>
   rw [List.take_succ_cons,jz,Bool.and_eq_true] at h
   cases i with
   | zero=>
    have:a=d:=by simpa using e
    rw [← this]; exact h.1
   | succ i=>exact ih h.2 (by simpa using e) (by omega)
theorem Bl {σ:L2.St}:∀ {js:List Nat},(∀ j∈js,∃ u,σ[j]? = some (some u))->∃ us:List V,js.map (fun j=>σ[j]?)=us.map (fun u=>some (some u))
 | [],_=>⟨[],rfl⟩
 | j :: js,h=>by
  obtain ⟨us,hu⟩:=Bl (js:=js) fun i hi=>h i (List.mem_cons_of_mem _ hi)
  obtain ⟨u,hu0⟩:=h j List.mem_cons_self
  exact ⟨u :: us,by rw [List.map_cons,List.map_cons,hu,hu0]⟩
theorem Mr {oc pr:Nat->Bool} {F:List D->Option (D×List D)} {t:TA} {js:List Nat} {f:En->Option (List D×En)} (hj:js.Nodup) (ho:∀ j∈js,ob j=true) (hp:∀ i,i < js.length->pr i=true) (h:RfM G ob t js f) {E:XK} :
  mF G ob (fun σ H Q=>t σ H fun vs H1=>spI G oc pr F (vs++[]) H1 Q E) (eIo F js f):=fun ρ d ρ' e σ H S Fr s Q q=>by
 unfold eIo at e
 split at e
 .rename_i hsome
  cases h0:objs js ρ with
  | none=>rw [h0] at hsome; cases hsome
  | some os0=>
   cases h1:f ρ with
   | none=>simp [h1] at e
   | some p=>
    obtain ⟨ds,ρ1⟩:=p
    rw [h1] at e
    simp only [Option.bind_some] at e
    cases h2:objs js ρ1 with
    | none=>simp [h2] at e
    | some os=>
     rw [h2] at e
     simp only [Option.bind_some] at e
     split at e
     .rename_i hbro
      cases h3:F (os++fzL ds) with
      | none=>simp [h3] at e
      | some z=>
       obtain ⟨d1,ds1⟩:=z
       rw [h3] at e
       simp only [Option.bind_some] at e
       split at e
       .rename_i hcl
        obtain ⟨rfl,rfl⟩:d1=d/\bY js ds1 ρ1=ρ':=by simpa using e
        obtain ⟨l0,g0⟩:=wU h0
        obtain ⟨l1,g1⟩:=wU h2
        have hus:∃ us:List V,js.map (fun j=>σ[j]?)=us.map (fun u=>some (some u)):=by
         have:∀ j∈js,∃ u,σ[j]? = some (some u):=fun j hj=>by
          obtain ⟨k,hk⟩:=List.mem_iff_getElem?.mp hj
          obtain ⟨d0,_,q2⟩:=g0 k j hk
          obtain ⟨v,q3,_⟩:=s.sl j d0 q2
          exact ⟨v,q3⟩
         exact Bl this
        obtain ⟨us,hus⟩:=hus
        have hul:us.length=js.length:=by have:=congrArg List.length hus; simpa using this.symm
        have hua:∀ (k j:Nat) (u:V),js[k]? = some j->us[k]? = some u->σ[j]? = some (some u):=fun k j u h1 h2=>by
         have:=congrArg (fun l=>l[k]?) hus
         simp only [List.getElem?_map,h1,h2,Option.map_some,Option.some.injEq] at this
         exact this
        refine h ρ ds ρ1 h1 σ H S Fr s us hus _ fun vs H1 M S1 s1 r1 nd1 ef1=>?_
        rw [List.append_nil]
        have hSc:∀ {i a},a∈pick S1 js i->inO ob S1 a:=fun {i a} z=>by
         obtain ⟨j,e,y⟩:=lu z
         exact ⟨j,ho j (List.mem_of_getElem? e),y⟩
        have hScin:∀ {a},inS (pick S1 js) a->inO ob S1 a:=fun ⟨i,z⟩=>hSc z
        have owned:∀ {i a},a∈S1 i->¬ (wn ob S1 (plus M Fr)).free a:=fun {i a} z f=>by
         cases hoi:ob i with
         | false=>exact f.2.1 ⟨i,hoi,z⟩
         | true=>exact f.2.2 ⟨i,hoi,z⟩
        let Frc:Addr->Prop:=fun a=>aD ds=true/\((Fr a∨inS S1 a)/\¬ inS (pick S1 js) a)
        have frees:∀ a,(wn ob S1 (plus M Fr)).free a->(wn oc (pick S1 js) Frc).free a:=fun a f=>by
         refine ⟨fun z=>?_,fun ⟨i,_,z⟩=>?_,fun ⟨i,_,z⟩=>?_⟩
         .rcases z.2.1 with y | ⟨i,y⟩
          .exact f.1 (.inr y)
          .exact owned y f
         .exact f.2.2 (hSc z)
         .exact f.2.2 (hSc z)
        have hFM:∀ a∈M,¬ Fr a:=fun a ha z=>by
         rcases ef1.fm a ha with y | y
         .exact s.notO z y
         .obtain ⟨o,ho,_⟩:=s.fdm a z
          rw [y] at ho; cases ho
        have mfree:∀ a∈M,(wn oc (pick S1 js) Frc).free a:=fun a ha=>by
         refine ⟨fun z=>?_,fun ⟨i,_,z⟩=>?_,fun ⟨i,_,z⟩=>?_⟩
         .rcases z.2.1 with y | ⟨i,y⟩
          .exact hFM a ha y
          .exact s1.fdj i a (.inl ha) y
         .obtain ⟨j,_,y⟩:=lu z; exact s1.fdj j a (.inl ha) y
         .obtain ⟨j,_,y⟩:=lu z; exact s1.fdj j a (.inl ha) y
        have rfz:aN G H1 (wn oc (pick S1 js) Frc) (fzL ds) vs []:=by
         refine r1.fz2 ⟨frees,mfree⟩ ?_ (.inl hbro)
         by_cases hbw:aD ds=true
         .exact .inl hbw
         .refine .inr fun a ha=>⟨fun z=>hbw z.1,fun ⟨i,_,z⟩=>?_,fun ⟨i,_,z⟩=>?_⟩
          .obtain ⟨i1,o1,y1⟩:=ha
           obtain ⟨i2,o2,y2⟩:=hSc z
           rw [s1.dj i1 i2 a y1 y2,o2] at o1; cases o1
          .obtain ⟨i1,o1,y1⟩:=ha
           obtain ⟨i2,o2,y2⟩:=hSc z
           rw [s1.dj i1 i2 a y1 y2,o2] at o1; cases o1
        have sc:Sta G H1 oc ((os++fzL ds).map some) ((us++vs).map some) (pick S1 js) Frc:=by
         refine ⟨by simp [l1,hul,rfz.length],fun i d0 hi=>?_,fun i hi=>?_,fun i=>?_,fun i k a h1 h2=>?_,fun i a h1 h2=>h1.2.2 ⟨i,h2⟩,fun a ha=>?_⟩
         .have hi:=m_ hi
          by_cases hlt:i < js.length
          .obtain ⟨dd,q1,q2⟩:=g1 i js[i] (by simp [hlt])
           rw [List.getElem?_append_left (by omega),q1] at hi
           cases hi
           obtain ⟨v,q3,q4,q5⟩:=s1.sl _ _ q2
           have hcc:=(by simpa [clean] using q5:aH d0=true/\aF d0=true)
           have huk:∃ u,us[i]? = some u:=⟨us[i],by simp [hul,hlt]⟩
           obtain ⟨u,hu⟩:=huk
           have:=hua i js[i] u (by simp [hlt]) hu
           rw [q3] at this
           cases this
           refine ⟨v,je (by rw [List.getElem?_append_left (by omega)]; exact hu),?_,q5⟩
           have:pick S1 js i=S1 js[i]:=by unfold pick; rw [List.getElem?_eq_getElem hlt]
           rw [this]
           have ev:Evo H1 H1 (wn ob S1 (plus M Fr)) (wn oc (pick S1 js) Frc):=⟨fun b u h f=>⟨h,frees b f⟩,fun _ _ h=>h⟩
           exact q4.mono ev (.inl hcc.1) (.inl hcc.2) fun _ _ _ h=>h
          .rw [List.getElem?_append_right (by omega)] at hi
           obtain ⟨x,M',q1,q2,q3⟩:=rfz.get hi
           have:M'=[]:=by simpa using q3
           subst this
           refine ⟨x,je (by rw [List.getElem?_append_right (by omega),hul,← l1]; exact q1),?_,by simp [clean,ni (jP ds) hi,m9 (jN ds) hi]⟩
           have:pick S1 js i=[]:=by unfold pick; rw [List.getElem?_eq_none (by omega)]
           rw [this]; exact q2
         .unfold pick
          split
          .rename_i j hj'
           exfalso
           obtain ⟨dd,q1,q2⟩:=g1 i j hj'
           exact hi dd (je (by rw [List.getElem?_append_left (by rw [l1]; exact (List.getElem?_eq_some_iff.mp hj').1)]; exact q1))
          .rfl
         .unfold pick
          split
          .exact s1.nd _
          .exact List.nodup_nil
         .obtain ⟨j1,e1,y1⟩:=lu h1
          obtain ⟨j2,e2,y2⟩:=lu h2
          have:=s1.dj j1 j2 a y1 y2
          rw [this,← e2] at e1
          exact (List.getElem?_inj (by
           cases hh:js[i]? with
           | none=>rw [hh,e2] at e1; cases e1
           | some _=>exact (List.getElem?_eq_some_iff.mp hh).1) hj).mp e1
         .rcases ha.2.1 with y | ⟨i,y⟩
          .exact s1.fdm a (.inr y)
          .exact s1.mu y
        refine ⟨os++fzL ds,pick S1 js,Frc,sc,fun i hi=>?_,d1,ds1,h3,fun v H2 Mc Sc s2 r2 c2 n2 fm2 m2=>?_⟩
        .unfold pick
         split
         .rename_i j hj'
          rw [hp i (List.getElem?_eq_some_iff.mp hj').1] at hi; cases hi
         .rfl
        .have l2:ds1.length=(os++fzL ds).length:=by
          have h1:=s2.len
          have h2:=sc.len
          simp only [List.length_map] at h1 h2
          rw [h1,← h2]
         have kept:∀ b u,H1 b=some u->¬ inS (pick S1 js) b->H2 b=some u:=fun b u hb n=>m2.kp b u hb n (by simp)
         have newc:∀ {i b},b∈Sc i->inS (pick S1 js) b∨H1 b=none:=fun {i b} z=>(m2.gr i b z).imp id fun y=>y.resolve_left (by simp)
         have nfr:∀ {b},Fr b->¬ inS (pick S1 js) b:=fun {b} z ⟨i,y⟩=>by obtain ⟨j,_,y⟩:=lu y; exact s1.fdj j b (.inr z) y
         have notin:∀ {j b},j∉js->b∈S1 j->¬ inS (pick S1 js) b:=fun {j b} hn z ⟨i,y⟩=>by
          obtain ⟨k,e,y⟩:=lu y
          rw [s1.dj j k b z y] at hn
          exact hn (List.mem_of_getElem? e)
         have mu1:∀ {i b},b∈S1 i->H1 b≠none:=fun {i b} z y=>by obtain ⟨o,ho,_⟩:=s1.mu z; rw [y] at ho; cases ho
         have ev:Evo H1 H2 (wn ob S1 (plus M Fr)) (wn ob (back S1 js Sc) (plus Mc Fr)):=by
          refine ⟨fun b u hb f=>?_,fun b xs h=>?_⟩
          .have n1:¬ inS (pick S1 js) b:=fun z=>f.2.2 (hScin z)
           have n2:∀ i,b∉back S1 js Sc i:=fun i z=>by
            rcases mQ z with ⟨k,_,y⟩ | ⟨_,y⟩
            .rcases newc y with y | y
             .exact n1 y
             .rw [hb] at y; cases y
            .exact owned y f
           refine ⟨kept b u hb n1,fun z=>?_,fun ⟨i,_,z⟩=>n2 i z,fun ⟨i,_,z⟩=>n2 i z⟩
           rcases z with z | z
           .rcases fm2 b z with y | y
            .exact n1 y
            .rw [hb] at y; cases y
           .exact f.1 (.inr z)
          .have no:∀ u,H1 b=some u->muO u=false->H2 b=some u:=fun u hu mu=>kept b u hu fun ⟨i,z⟩=>by
            obtain ⟨j,_,z⟩:=lu z
            obtain ⟨o,ho,hm⟩:=s1.mu z
            rw [hu] at ho; cases ho; rw [mu] at hm; cases hm
           exact no _ h rfl
         have conv:∀ (e:D) (x:V) (L:List Addr),(aD ds=true∨iY e=true)->clean e=true->Rep G H2 (wn oc Sc (plus Mc Frc)) e x L->Rep G H2 (wn ob (back S1 js Sc) (plus Mc Fr)) e x L:=fun e x L hc hcl r=>by
          rcases hc with hc | hc
          .have hcc:=(by simpa [clean] using hcl:aH e=true/\aF e=true)
           have ev':Evo H2 H2 (wn oc Sc (plus Mc Frc)) (wn ob (back S1 js Sc) (plus Mc Fr)):=⟨fun b u hb f=>?_,fun _ _ h=>h⟩
           .exact r.mono ev' (.inl hcc.1) (.inl hcc.2) fun _ _ _ h=>h
           .have nSc:∀ i,b∉Sc i:=fun i z=>by
             cases hoi:oc i with
             | false=>exact f.2.1 ⟨i,hoi,z⟩
             | true=>exact f.2.2 ⟨i,hoi,z⟩
            have nb:∀ j,b∉back S1 js Sc j:=fun j z=>by
             rcases mQ z with ⟨k,_,y⟩ | ⟨hn,y⟩
             .exact nSc k y
             .exact f.1 (.inr ⟨hc,.inr ⟨j,y⟩,notin hn y⟩)
            refine ⟨hb,fun z=>?_,fun ⟨i,_,z⟩=>nb i z,fun ⟨i,_,z⟩=>nb i z⟩
            rcases z with z | z
            .exact f.1 (.inl z)
            .exact f.1 (.inr ⟨hc,.inl z,nfr z⟩)
          .exact r.own hc
         have hsl:∀ (j:Nat) (d0:D),(bY js ds1 ρ1)[j]? = some (some d0)->∃ v,σ[j]? = some (some v)/\Rep G H2 (wn ob (back S1 js Sc) (plus Mc Fr)) d0 v (back S1 js Sc j)/\clean d0=true:=fun j d0 hj0=>by
          by_cases hin:j∈js
          .obtain ⟨k,hk⟩:=List.mem_iff_getElem?.mp hin
           have hkl:k < js.length:=(List.getElem?_eq_some_iff.mp hk).1
           obtain ⟨dd,q1,q2⟩:=g1 k j hk
           have hjl:j < ρ1.length:=(List.getElem?_eq_some_iff.mp q2).1
           have hk1:k < ds1.length:=by rw [l2,List.length_append]; omega
           rw [uA hj hk (d:=ds1[k]) (by simp [hk1]) hjl] at hj0
           cases hj0
           obtain ⟨v,q3,q4,q5⟩:=s2.sl k ds1[k] (je (by simp [hk1]))
           have q3:=m_ q3
           rw [List.getElem?_append_left (by omega)] at q3
           refine ⟨v,hua k j v hk q3,?_,q5⟩
           rw [JD hj hk]
           refine conv _ _ _ (hcl.imp id fun z=>w5 z.2 (by simp [hk1]) hkl) q5 q4
          .rw [oA hin] at hj0
           obtain ⟨v,q1,q2,q3⟩:=s1.sl j d0 hj0
           have hcc:=(by simpa [clean] using q3:aH d0=true/\aF d0=true)
           refine ⟨v,q1,?_,q3⟩
           rw [wI hin]
           exact q2.mono ev (.inl hcc.1) (.inl hcc.2) fun c hc u hu=>kept c u hu (notin hin hc)
         refine q v H2 Mc (back S1 js Sc) ⟨?_,hsl,?_,?_,?_,?_,?_⟩ (conv _ _ _ (hcl.imp id fun z=>z.1) c2 r2) n2 ?_
         .rw [vX]; exact s1.len
         .intro j hj0
          by_cases hin:j∈js
          .obtain ⟨k,hk⟩:=List.mem_iff_getElem?.mp hin
           obtain ⟨dd,q1,q2⟩:=g1 k j hk
           have hjl:j < ρ1.length:=(List.getElem?_eq_some_iff.mp q2).1
           have hkl:k < js.length:=(List.getElem?_eq_some_iff.mp hk).1
           have hk1:k < ds1.length:=by rw [l2,List.length_append]; omega
           exact absurd (uA hj hk (d:=ds1[k]) (by simp [hk1]) hjl) (hj0 _)
          .rw [wI hin]
           exact s1.em j fun d0=>by have:=hj0 d0; rwa [oA hin] at this
         .intro j
          unfold back
          split
          .exact s2.nd _
          .exact s1.nd j
         .intro i k a y1 y2
          rcases mQ y1 with ⟨i1,e1,z1⟩ | ⟨e1,z1⟩ <;> rcases mQ y2 with ⟨i2,e2,z2⟩ | ⟨e2,z2⟩
          .have:=s2.dj i1 i2 a z1 z2
           rw [this,e2] at e1
           exact (Option.some.inj e1).symm
          .rcases newc z1 with y | y
           .exact absurd y (notin e2 z2)
           .exact absurd y (mu1 z2)
          .rcases newc z2 with y | y
           .exact absurd y (notin e1 z1)
           .exact absurd y (mu1 z1)
          .exact s1.dj i k a z1 z2
         .intro j a ha z
          rcases mQ z with ⟨i,_,y⟩ | ⟨hn,y⟩
          .rcases ha with ha | ha
           .exact s2.fdj i a (.inl ha) y
           .rcases newc y with y | y
            .exact nfr ha y
            .obtain ⟨o,ho,_⟩:=s1.fdm a (.inr ha)
             rw [y] at ho; cases ho
          .rcases ha with ha | ha
           .rcases fm2 a ha with y' | y'
            .exact notin hn y y'
            .exact mu1 y y'
           .exact s1.fdj j a (.inr ha) y
         .intro a ha
          rcases ha with ha | ha
          .exact r2.dom a ha
          .obtain ⟨o,ho,hm⟩:=s1.fdm a (.inr ha)
           exact ⟨o,kept a o ho (nfr ha),hm⟩
         .have ef2:Eff ob H1 H2 S1 (back S1 js Sc) Mc:=by
           refine ⟨fun b u hb n=>kept b u hb fun z=>n (hScin z),fun i hi=>wI (fun z=>by rw [ho i z] at hi; cases hi),fun i a hi z=>?_,fun a ha=>(fm2 a ha).imp (fun y=>hScin y) id⟩
           rcases mQ z with ⟨k,_,y⟩ | ⟨_,y⟩
           .exact (newc y).imp (fun y=>hScin y) id
           .exact .inl ⟨i,hi,y⟩
          exact (ef1.trans ef2).same (Same.refl _) fun c hc=>.inl (List.mem_append_right _ hc)
       .cases e
     .cases e
 .cases e
theorem bU (js:List Nat) {e:Expr} {es:List Expr} {p pos:Pos} {k:Nat} {x:Str} {ps:List Str} {oc pr:Nat->Bool} {F:List D->Option (D×List D)} {f:En->Option (List D×En)} (C:∀ c,Cal (X c).prog (X c).w (X c).K (X c).mg (X c).base k x ps (spI G oc pr F)) (hr:∀ c,lD k (X c).A) (ha:PVM X G ob (e :: es) js f) (hj:js.Nodup:=by decide) (ho:∀ j∈js,ob j=true:=by decide) (hp:∀ i,i < js.length->pr i=true:=by decide) (hg:∀ c,Gl (X c) x:=by intro _; rfl) (hdb:(x == ("__debug__" : Str))=false:=by decide) (he:∀ c,starEach (e :: es) (X c).env=(false,eval e (X c).env) :: starEach es (X c).env:=by intro _; rfl) (hpl:∀ c,(backTo pos (starEach es (X c).env)).any (·.1)=false:=by intro _; rfl) :
  PVe X G ob (.Call (.Name x p) (e :: es) [] pos) (eIo F js f):=let ⟨t,a1,a2⟩:=ha.ex; ⟨_,fun c=>Ac (C c) (hr c) (hg c) (a1 c) hdb (he c) (hpl c),Mr hj ho hp a2⟩
end
def kids:D->List D
 | .tup ds=>ds
 | .lst _ ds=>ds
 | .dct _ _ ds=>ds
 | .ins _ _ _ ds=>ds
 | _=>[]
def IV:D->List D->D
 | .tup _,es=>.tup es
 | .lst m _,es=>.lst m es
 | .dct m ks _,es=>.dct m ks es
 | .ins m c fs _,es=>.ins m c fs es
 | d,_=>d
def eU:List Nat->D->Option D
 | [],d=>some d
 | j :: p,d=>((kids d)[j]?).bind (eU p)
def dW:List Nat->D->D->D
 | [],e,_=>e
 | j :: p,e,d=>match (kids d)[j]? with
  | some c=>IV d ((kids d).set j (dW p e c))
  | none=>d
theorem Evo.trans {H H1 H2:Hp} {W W1 W2:Wn} (a:Evo H H1 W W1) (b:Evo H1 H2 W1 W2):Evo H H2 W W2:=⟨fun c u h f=>let ⟨h1,f1⟩:=a.k c u h f; b.k c u h1 f1,fun c xs h=>b.t c xs (a.t c xs h)⟩
structure Foc (G:Gc) (H:Hp) (W:Wn) (d0:D) (v0:V) (L:List Addr) (p:List Nat) (d:D) (v:V) (M:List Addr):Prop where
 r:Rep G H W d v M
 b:∃ A B,L=A++(M++B)/\∀ H' W' d' M',Evo H H' W W'->(∀ c∈A++B,∀ u,H c=some u->H' c=some u)->Rep G H' W' d' v M'->Rep G H' W' (dW p d' d0) v0 (A++(M'++B))
theorem Foc.nil {G:Gc} {H:Hp} {W:Wn} {d:D} {v:V} {L:List Addr} (r:Rep G H W d v L):Foc G H W d v L [] d v L:=⟨r,[],[],by simp,fun H' W' d' M' _ _ h=>by simpa [dW] using h⟩
theorem Foc.mono {G:Gc} {H H1:Hp} {W W1:Wn} {d0 d:D} {v0 v:V} {L M:List Addr} {p:List Nat} (f:Foc G H W d0 v0 L p d v M) (hc:clean d=true∨Up H H1 W W1) (e:Evo H H1 W W1) (k:∀ c∈L,∀ u,H c=some u->H1 c=some u):Foc G H1 W1 d0 v0 L p d v M:=by
 obtain ⟨A,B,hL,hb⟩:=f.b
 refine ⟨?_,A,B,hL,fun H' W' d' M' e' k' r'=>hb H' W' d' M' (e.trans e') (fun c hc u hu=>k' c hc u (k c ?_ u hu)) r'⟩
 .rcases hc with hc | hc
  .have hcc:=(by simpa [clean] using hc:aH d=true/\aF d=true)
   exact f.r.mono e (.inl hcc.1) (.inl hcc.2) fun c hc u hu=>k c (by rw [hL]; simp [hc]) u hu
  .exact f.r.up hc
 .rw [hL]
  simp only [List.mem_append] at hc ⊢
  rcases hc with z | z <;> simp [z]
theorem vP {m:Mk} {ds:List D} (h:clean (.lst m ds)=true):aD ds=true/\aG ds=true:=by simp [clean,aH,aF] at h; exact ⟨h.1.2,h.2.2⟩
theorem aM {a b:List D}:aD (a++b)=(aD a && aD b):=by
 induction a with
 | nil=>rfl
 | cons d r ih=>rw [List.cons_append,aD,aD,ih,Bool.and_assoc]
theorem aL {a b:List D}:aG (a++b)=(aG a && aG b):=by
 induction a with
 | nil=>rfl
 | cons d r ih=>rw [List.cons_append,aG,aG,ih,Bool.and_assoc]
theorem aN.kid {G:Gc} {H:Hp} {W:Wn} {ds:List D} {xs:List V} {L:List Addr} {j:Nat} {c:D} (hr:aN G H W ds xs L) (hb:aD ds=true) (ho:aG ds=true) (e:ds[j]? = some c) :
  ∃ x A M B,xs[j]? = some x/\L=A++(M++B)/\Rep G H W c x M/\∀ H' W' d' M',Evo H H' W W'->(∀ b∈A++B,∀ u,H b=some u->H' b=some u)->Rep G H' W' d' x M'->aN G H' W' (ds.set j d') xs (A++(M'++B)):=by
 obtain ⟨P,Q,x,ys,zs,LA,M1,LB,rfl,hlp,rfl,hly,rfl,h1,h2,h3⟩:=hr.at e
 simp only [aM,aL,aD,aG,Bool.and_eq_true] at hb ho
 refine ⟨x,LA,M1,LB,by rw [List.getElem?_append_right (by omega),hly,Nat.sub_self]; rfl,rfl,h2,fun H' W' d' M' ev kp r'=>?_⟩
 rw [← hlp,List.set_append_right _ _ (Nat.le_refl _),Nat.sub_self]
 exact aN.append (h1.mono ev (.inl hb.1) (.inl ho.1) fun b hb u hu=>kp b (List.mem_append_left _ hb) u hu) (aN.cons r' (h3.mono ev (.inl hb.2.2) (.inl ho.2.2) fun b hb u hu=>kp b (List.mem_append_right _ hb) u hu))
section
variable {G:Gc} {H:Hp} {W:Wn} {c:D} {v:V} {L:List Addr} {j:Nat}
theorem Foc.dct {ks:List Key} {ds:List D} (r:Rep G H W (.dct .own ks ds) v L) (hc:clean (.dct .own ks ds)=true) (e:ds[j]? = some c):∃ a kvs x M,v = .ref a/\H a=some (.dK kvs)/\(kvs.map (·.1)=ks/\ks.Nodup)/\(kvs.map (·.2))[j]? = some x/\Foc G H W (.dct .own ks ds) v L [j] c x M:=by
 rw [Rep] at r
 obtain ⟨a,kvs,N,rfl,hk,hr,ha,rfl⟩:=r
 have hcc:aD ds=true/\aG ds=true:=by simp [clean,aH,aF] at hc; exact hc
 obtain ⟨x,A,M,B,hx,rfl,rx,hb⟩:=hr.kid hcc.1 hcc.2 e
 refine ⟨a,kvs,x,M,rfl,ha,hk,hx,rx,a :: A,B,by simp,fun H' W' d' M' ev kp r'=>?_⟩
 have hset:dW [j] d' (.dct .own ks ds) = .dct .own ks (ds.set j d'):=by simp only [dW,kids,e,IV]
 rw [hset,Rep]
 exact ⟨a,kvs,A++(M'++B),rfl,hk,hb H' W' d' M' ev (fun b hb u hu=>kp b (List.mem_cons_of_mem _ hb) u hu) r',kp a (by simp) _ ha,by simp⟩
theorem Foc.ins {cl:Str} {fs:List Str} {ds:List D} (r:Rep G H W (.ins .own cl fs ds) v L) (hc:clean (.ins .own cl fs ds)=true) (e:ds[j]? = some c):∃ a C dx kvs x M,v = .ref a/\G.mg cl=some (.ref C)/\H a=some (.ins C dx kvs)/\kvs.map (·.1)=fs/\(kvs.map (·.2))[j]? = some x/\Foc G H W (.ins .own cl fs ds) v L [j] c x M:=by
 rw [Rep] at r
 obtain ⟨a,C,dx,kvs,N,rfl,hC,hk,hr,ha,rfl⟩:=r
 have hcc:aD ds=true/\aG ds=true:=by simp [clean,aH,aF] at hc; exact hc
 obtain ⟨x,A,M,B,hx,rfl,rx,hb⟩:=hr.kid hcc.1 hcc.2 e
 refine ⟨a,C,dx,kvs,x,M,rfl,hC,ha,hk,hx,rx,a :: A,B,by simp,fun H' W' d' M' ev kp r'=>?_⟩
 have hset:dW [j] d' (.ins .own cl fs ds) = .ins .own cl fs (ds.set j d'):=by simp only [dW,kids,e,IV]
 rw [hset,Rep]
 exact ⟨a,C,dx,kvs,A++(M'++B),rfl,hC,hk,hb H' W' d' M' ev (fun b hb u hu=>kp b (List.mem_cons_of_mem _ hb) u hu) r',kp a (by simp) _ ha,by simp⟩
end
def RfP (G:Gc) (ob:Nat->Bool) (t:TE) (i:Nat) (pf:En->Option (List Nat)):Prop:=∀ (ρ:En) (p:List Nat),pf ρ=some p->∀ (σ:L2.St) (H:Hp) (S:Ad) (Fr:Addr->Prop),Sta G H ob ρ σ S Fr->∃ d0 d,ρ[i]? = some (some d0)/\eU p d0=some d/\∀ Q:VK,
 (∀ v v0 H' M,Same H H'->σ[i]? = some (some v0)->Foc G H' (wn ob S Fr) d0 v0 (S i) p d v M->Q v H')->t σ H Q
structure PVP {ι:Type} (X:ι->Cx) (G:Gc) (ob:Nat->Bool) (e:Expr) (i:Nat) (pf:En->Option (List Nat)):Prop where
 mk :: (ex:∃ t,(∀ c,PE (X c) e t)/\RfP G ob t i pf)
def d_ (i:Nat):En->Option (List Nat):=fun ρ=>match ρ[i]? with
 | some (some _)=>some []
 | _=>none
section
variable {ι:Type} {X:ι->Cx} {G:Gc} {ob P:Nat->Bool}
theorem jJ (i:Nat) {x:Str} {pos:Pos} (hN:∀ c,(X c).N[i]? = some x:=by intro _; rfl) (hv:∀ c,Vis (X c).env.scope x:=by intro _; first | exact Or.inl rfl | exact Or.inr (Or.inl rfl) | exact Or.inr (Or.inr rfl)) (hd:(x == ("__debug__" : Str))=false:=by decide)
  (hcd:(x == ("__classdict__" : Str))=false:=by decide):PVP X G ob (.Name x pos) i (d_ i):=by
 refine ⟨_,fun c=>pv i (hN c) (hv c) hd hcd,fun ρ p e σ H S Fr s=>?_⟩
 unfold d_ at e
 split at e
 .rename_i d h1
  cases e
  obtain ⟨v,h2,h3,h4⟩:=s.sl i d h1
  exact ⟨d,d,h1,rfl,fun Q q=>⟨v,h2,q v v H _ (Same.refl H) h2 (.nil h3)⟩⟩
 .cases e
theorem rP {d0:D}:∀ {p:List Nat} {d:D},clean d0=true->eU p d0=some d->clean d=true:=by
 intro p
 induction p generalizing d0 with
 | nil=>intro d h e; cases e; exact h
 | cons j p ih=>
  intro d h e
  simp only [eU] at e
  cases h1:(kids d0)[j]? with
  | none=>simp [h1] at e
  | some c=>
   have e:eU p c=some d:=by simpa [h1] using e
   refine ih ?_ e
   have hk:aD (kids d0)=true/\aG (kids d0)=true:=by
    cases d0 <;> simp [kids,clean,aH,aF,aD,aG] at h h1 ⊢ <;> (try exact h) <;> exact ⟨h.1.2,h.2.2⟩
   simp [clean,ni hk.1 h1,m9 hk.2 h1]
def mG:D->Option Key
 | .int i=>some (.inl i)
 | .str x=>some (.inr x)
 | _=>none
def lZ (ks:List Key) (k:Key):Option Nat:=ks.findIdx? fun x=>decide (x=k)
def ixP:D->D->Option Nat
 | .lst .own ds,.int i=>ixN ds.length i
 | .tup ds,.int i=>ixN ds.length i
 | .dct .own ks ds,k=>(mG k).bind fun k=>(lZ ks k).bind fun j=>if j < ds.length then some j else none
 | _,_=>none
def gK (i:Nat) (pf:En->Option (List Nat)) (fk:En->Option D):En->Option (List Nat):=fun ρ=>(pf ρ).bind fun p=>(fk ρ).bind fun k=>match ρ[i]? with
 | some (some d0)=>(eU p d0).bind fun d=>(ixP d k).bind fun j=>if j < (kids d).length then some (p++[j]) else none
 | _=>none
end
section
variable {ι:Type} {X:ι->Cx} {G:Gc} {ob P:Nat->Bool}
def N8:R2:=fun x y H Q=>∃ a v,x = .ref a/\qI H a y (some v)/\Q v H
theorem Jw {Y:Cx} (hu:Y.A.units + 1 < cLine):IxR Y N8:=by
 intro value slice pins s σ H x y v u Q I rx ry h hs
 obtain ⟨a,z,rfl,g,q⟩:=h
 cases rx
 exact tail_any (yU I g) PySem.F.slot_dict_getitem.lookup (DK hu I g ry fun w' s3 I3 rw'=>⟨z,H,I3,rw',q⟩) hs
theorem NK {Y:Cx} (hu:Y.A.units + 1 < cLine):IxR Y (fun x y H Q=>rIx Y.K x y H Q∨N8 x y H Q):=Oi.or (Jw hu)
theorem uM:∀ {kvs:List (Key×V)} {k:Key} {j:Nat},lZ (kvs.map (·.1)) k=some j->nq kvs k=(kvs.map (·.2))[j]?
 | [],k,j,h=>by simp [lZ] at h
 | (k0,v) :: r,k,j,h=>by
  simp only [List.map_cons,lZ,List.findIdx?_cons] at h
  by_cases e:k0=k
  .subst e
   simp at h
   subst h
   simp [nq]
  .rw [decide_eq_false e] at h
   simp only [Bool.false_eq_true,if_false] at h
   cases h1:(r.map (·.1)).findIdx? (fun x=>decide (x=k)) with
   | none=>rw [h1] at h; cases h
   | some i=>
    rw [h1] at h
    have:i + 1=j:=by simpa using h
    subst this
    have ih:=uM (kvs:=r) (k:=k) (j:=i) h1
    simp only [nq,List.find?_cons,decide_eq_false e,List.map_cons,List.getElem?_cons_succ]
    exact ih
theorem v6:∀ {kvs:List (Key×V)} {k:Key},lZ (kvs.map (·.1)) k=none->nq kvs k=none
 | [],k,h=>rfl
 | (k0,v) :: r,k,h=>by
  simp only [List.map_cons,lZ,List.findIdx?_cons] at h
  by_cases e:k0=k
  .subst e
   simp at h
  .rw [decide_eq_false e] at h
   simp only [Bool.false_eq_true,if_false] at h
   have h1:(r.map (·.1)).findIdx? (fun x=>decide (x=k))=none:=by
    cases h1:(r.map (·.1)).findIdx? (fun x=>decide (x=k)) with
    | none=>rfl
    | some i=>rw [h1] at h; cases h
   have ih:=v6 (kvs:=r) (k:=k) h1
   simp only [nq,List.find?_cons,decide_eq_false e]
   exact ih
theorem oK {G:Gc} {H:Hp} {W:Wn} {d:D} {v:V} {L:List Addr} {k:Key} (r:Rep G H W d v L) (h:mG d=some k):v=kV k:=by
 cases d <;> simp [mG] at h <;> subst h <;> rw [Rep] at r <;> exact r.1
def MuV (G:Gc) (r:V->List V->Hp->VK->Prop) (op:D->List D->Option (D×D)):Prop:=∀ (d:D) (es:List D) (d' res:D),op d es=some (d',res)->∀ (v:V) (xs:List V) (H:Hp) (W:Wn) (M N:List Addr),Rep G H W d v M->aN G H W es xs N->(M++N).Nodup->(∀ a∈M,¬ W.free a)->
 clean d=true->aD es=true->aG es=true->∀ Q:VK,(∀ x H' M' R,(∀ b u,H b=some u->b∉M->H' b=some u)->(∀ W',Evo H H' W W'->Rep G H' W' d' v M'/\Rep G H' W' res x R)->(M'++R).Nodup->(∀ a∈M'++R,a∈M∨a∈N∨H a=none)->clean d'=true->clean res=true->Q x H')->r v xs H Q
theorem Ai {d0 e:D}:∀ {p:List Nat},clean d0=true->clean e=true->clean (dW p e d0)=true:=by
 intro p
 induction p generalizing d0 with
 | nil=>intro _ h; exact h
 | cons j p ih=>
  intro h he
  simp only [dW]
  cases h1:(kids d0)[j]? with
  | none=>exact h
  | some c=>
   have hc:clean c=true:=rP (p:=[j]) h (by simp [eU,h1])
   have:=ih (d0:=c) hc he
   have hset:∀ {ds:List D} {j:Nat} {x:D},aD ds=true->aG ds=true->clean x=true->aD (ds.set j x)=true/\aG (ds.set j x)=true:=fun {ds}=>by
    induction ds with
    | nil=>intro j x a b _; simp [a,b]
    | cons y r ihr=>
     intro j x a b cx
     simp only [aD,aG,Bool.and_eq_true] at a b
     have cx':=(by simpa [clean] using cx:aH x=true/\aF x=true)
     cases j with
     | zero=>simp [aD,aG,cx',a,b]
     | succ j=>simp only [List.set_cons_succ,aD,aG,Bool.and_eq_true]; exact ⟨⟨a.1,(ihr a.2 b.2 cx).1⟩,⟨b.1,(ihr a.2 b.2 cx).2⟩⟩
   cases d0 <;> simp only [kids,List.getElem?_nil] at h1 <;> (try cases h1) <;> simp only [IV,kids] <;> simp [clean,aH,aF] at h ⊢
   .exact ⟨(hset h.1 h.2 this).1,(hset h.1 h.2 this).2⟩
   .exact ⟨⟨h.1.1,(hset h.1.2 h.2.2 this).1⟩,h.2.1,(hset h.1.2 h.2.2 this).2⟩
   .exact ⟨⟨h.1.1,(hset h.1.2 h.2.2 this).1⟩,h.2.1,(hset h.1.2 h.2.2 this).2⟩
   .exact ⟨⟨h.1.1,(hset h.1.2 h.2.2 this).1⟩,h.2.1,(hset h.1.2 h.2.2 this).2⟩
theorem Sta.mut {G:Gc} {H H':Hp} {ρ:En} {σ:L2.St} {S:Ad} {Fr:Addr->Prop} {i:Nat} {p:List Nat} {d0 d d' res:D} {v v0 x:V} {M N M' R:List Addr} (s:Sta G H ob ρ σ S (plus N Fr)) (e:ρ[i]? = some (some d0)) (hv0:σ[i]? = some (some v0)) (foc:Foc G H (wn ob S (plus N Fr)) d0 v0 (S i) p d v M)
  (hF:∀ a∈N,¬ Fr a) (kp:∀ b u,H b=some u->b∉M->H' b=some u) (hr:∀ W',Evo H H' (wn ob S (plus N Fr)) W'->Rep G H' W' d' v M'/\Rep G H' W' res x R) (nd:(M'++R).Nodup) (gr:∀ a∈M'++R,a∈M∨a∈N∨H a=none) (hc:clean d'=true) :
  ∃ S',Sta G H' ob (ρ.set i (some (dW p d' d0))) σ S' (plus R Fr)/\Rep G H' (wn ob S' (plus R Fr)) res x R/\(∀ j,j≠i->S' j=S j)/\(∀ a∈S' i,a∈S i∨a∈N∨H a=none)/\(∀ a∈R,a∈S i∨a∈N∨H a=none)/\(∀ b u,H b=some u->b∉S i->H' b=some u):=by
 obtain ⟨A,B,hL,hb⟩:=foc.b
 have hil:i < ρ.length:=(List.getElem?_eq_some_iff.mp e).1
 have hMS:∀ a∈M,a∈S i:=fun a ha=>by rw [hL]; simp [ha]
 have hAB:∀ a∈A++B,a∈S i/\a∉M:=fun a ha=>by
  have hn:=s.nd i
  rw [hL] at hn
  have h1:=List.nodup_append.mp hn
  have h2:=List.nodup_append.mp h1.2.1
  rcases List.mem_append.mp ha with z | z
  .exact ⟨by rw [hL]; simp [z],fun y=>h1.2.2 a z a (by simp [y]) rfl⟩
  .exact ⟨by rw [hL]; simp [z],fun y=>h2.2.2 a y a z rfl⟩
 have grS:∀ a∈M'++R,∀ j,j≠i->a∉S j:=fun a ha j hj z=>by
  rcases gr a ha with y | y | y
  .exact hj (s.dj j i a z (hMS a y))
  .exact s.fdj j a (.inl y) z
  .obtain ⟨o,ho,_⟩:=s.mu z; rw [y] at ho; cases ho
 have grF:∀ a∈M'++R,¬ Fr a:=fun a ha z=>by
  rcases gr a ha with y | y | y
  .exact s.fdj i a (.inr z) (hMS a y)
  .exact hF a y z
  .obtain ⟨o,ho,_⟩:=s.fdm a (.inr z); rw [y] at ho; cases ho
 have grAB:∀ a∈M'++R,a∉A++B:=fun a ha z=>by
  obtain ⟨z1,z2⟩:=hAB a z
  rcases gr a ha with y | y | y
  .exact z2 y
  .exact s.fdj i a (.inl y) z1
  .obtain ⟨o,ho,_⟩:=s.mu z1; rw [y] at ho; cases ho
 let S':=jW S i (A++(M'++B))
 have hS'i:∀ a∈S' i,a∈S i∨a∈N∨H a=none:=fun a ha=>by
  have ha:a∈jW S i (A++(M'++B)) i:=ha
  rw [h_] at ha
  simp only [List.mem_append] at ha
  rcases ha with z | z | z
  .exact .inl (hAB a (List.mem_append_left _ z)).1
  .exact (gr a (List.mem_append_left _ z)).imp (hMS a) id
  .exact .inl (hAB a (List.mem_append_right _ z)).1
 have hfree:∀ b u,H b=some u->(wn ob S (plus N Fr)).free b->H' b=some u/\(wn ob S' (plus R Fr)).free b:=fun b u hb f=>by
  have nS:∀ j,b∉S j:=fun j z=>by
   cases ho:ob j with
   | false=>exact f.2.1 ⟨j,ho,z⟩
   | true=>exact f.2.2 ⟨j,ho,z⟩
  have nS':∀ j,b∉S' j:=fun j z=>by
   by_cases hj:j=i
   .subst hj
    rcases hS'i b z with y | y | y
    .exact nS j y
    .exact f.1 (.inl y)
    .rw [hb] at y; cases y
   .have z:b∈jW S i (A++(M'++B)) j:=z
    rw [iu hj] at z; exact nS j z
  refine ⟨kp b u hb fun z=>nS i (hMS b z),fun z=>?_,fun ⟨j,_,z⟩=>nS' j z,fun ⟨j,_,z⟩=>nS' j z⟩
  rcases z with z | z
  .rcases gr b (List.mem_append_right _ z) with y | y | y
   .exact nS i (hMS b y)
   .exact f.1 (.inl y)
   .rw [hb] at y; cases y
  .exact f.1 (.inr z)
 have ev:Evo H H' (wn ob S (plus N Fr)) (wn ob S' (plus R Fr)):=⟨hfree,fun b xs h=>by
  have no:∀ u,H b=some u->muO u=false->H' b=some u:=fun u hu mu=>kp b u hu fun z=>by
   obtain ⟨o,ho,hm⟩:=s.mu (hMS b z)
   rw [hu] at ho; cases ho; rw [mu] at hm; cases hm
  exact no _ h rfl⟩
 obtain ⟨r1,r2⟩:=hr _ ev
 have ndM:=List.nodup_append.mp nd
 refine ⟨S',⟨by simp [s.len],fun j dj hj=>?_,fun j hj=>?_,fun j=>?_,fun j k a h1 h2=>?_,fun j a h1 h2=>?_,fun a ha=>?_⟩,r2,fun j hj=>iu hj,hS'i,fun a ha=>(gr a (List.mem_append_right _ ha)).imp (hMS a) id,fun b u hb n=>kp b u hb fun z=>n (hMS b z)⟩
 .by_cases hji:j=i
  .subst hji
   have:dW p d' d0=dj:=by simpa [hil] using hj
   subst this
   have hc0:clean d0=true:=let ⟨_,_,_,h⟩:=s.sl j d0 e; h
   refine ⟨v0,hv0,?_,Ai hc0 hc⟩
   show Rep G H' _ _ v0 (jW S j (A++(M'++B)) j)
   rw [h_]
   exact hb H' _ d' M' ev (fun c hc u hu=>kp c u hu (hAB c hc).2) r1
  .rw [List.getElem?_set_ne (Ne.symm hji)] at hj
   obtain ⟨w,q1,q2,q3⟩:=s.sl j dj hj
   have hcc:=(by simpa [clean] using q3:aH dj=true/\aF dj=true)
   refine ⟨w,q1,?_,q3⟩
   show Rep G H' _ dj w (jW S i (A++(M'++B)) j)
   rw [iu hji]
   exact q2.mono ev (.inl hcc.1) (.inl hcc.2) fun c hc u hu=>kp c u hu fun z=>hji (s.dj j i c hc (hMS c z))
 .by_cases hji:j=i
  .subst hji
   exact absurd (by simp [hil]) (hj (dW p d' d0))
  .show jW S i (A++(M'++B)) j=[]
   rw [iu hji]
   exact s.em j fun d1=>by have:=hj d1; rwa [List.getElem?_set_ne (Ne.symm hji)] at this
 .by_cases hji:j=i
  .subst hji
   show (jW S j (A++(M'++B)) j).Nodup
   rw [h_]
   have hn:=s.nd j
   rw [hL] at hn
   have h1:=List.nodup_append.mp hn
   have h2:=List.nodup_append.mp h1.2.1
   refine jc h1.1 (jc ndM.1 h2.2.1 fun a ha z=>grAB a (List.mem_append_left _ ha) (List.mem_append_right _ z)) fun a ha z=>?_
   rcases List.mem_append.mp z with z | z
   .exact grAB a (List.mem_append_left _ z) (List.mem_append_left _ ha)
   .exact h1.2.2 a ha a (by simp [z]) rfl
  .show (jW S i (A++(M'++B)) j).Nodup
   rw [iu hji]; exact s.nd j
 .have key:∀ {j:Nat} {a:Addr},j≠i->a∈S j->a∈S' i->False:=fun {j a} hj z1 z2=>by
   have z2:a∈jW S i (A++(M'++B)) i:=z2
   rw [h_] at z2
   simp only [List.mem_append] at z2
   rcases z2 with z | z | z
   .exact hj (s.dj j i a z1 (hAB a (List.mem_append_left _ z)).1)
   .exact grS a (List.mem_append_left _ z) j hj z1
   .exact hj (s.dj j i a z1 (hAB a (List.mem_append_right _ z)).1)
  by_cases hji:j=i <;> by_cases hki:k=i
  .rw [hji,hki]
  .subst hji
   have h2:a∈jW S j (A++(M'++B)) k:=h2
   rw [iu hki] at h2
   exact (key hki h2 h1).elim
  .subst hki
   have h1:a∈jW S k (A++(M'++B)) j:=h1
   rw [iu hji] at h1
   exact (key hji h1 h2).elim
  .have h1:a∈jW S i (A++(M'++B)) j:=h1
   have h2:a∈jW S i (A++(M'++B)) k:=h2
   rw [iu hji] at h1
   rw [iu hki] at h2
   exact s.dj j k a h1 h2
 .by_cases hji:j=i
  .subst hji
   have h2:a∈jW S j (A++(M'++B)) j:=h2
   rw [h_] at h2
   simp only [List.mem_append] at h2
   rcases h1 with h1 | h1
   .rcases h2 with z | z | z
    .exact grAB a (List.mem_append_right _ h1) (List.mem_append_left _ z)
    .exact ndM.2.2 a z a h1 rfl
    .exact grAB a (List.mem_append_right _ h1) (List.mem_append_right _ z)
   .rcases h2 with z | z | z
    .exact s.fdj j a (.inr h1) (hAB a (List.mem_append_left _ z)).1
    .exact grF a (List.mem_append_left _ z) h1
    .exact s.fdj j a (.inr h1) (hAB a (List.mem_append_right _ z)).1
  .have h2:a∈jW S i (A++(M'++B)) j:=h2
   rw [iu hji] at h2
   rcases h1 with h1 | h1
   .exact grS a (List.mem_append_right _ h1) j hji h2
   .exact s.fdj j a (.inr h1) h2
 .rcases ha with ha | ha
  .exact r2.dom a ha
  .obtain ⟨o,ho,hm⟩:=s.fdm a (.inr ha)
   exact ⟨o,kp a o ho fun z=>s.fdj i a (.inr ha) (hMS a z),hm⟩
end
section
variable {ι:Type} {X:ι->Cx} {G:Gc} {ob P:Nat->Bool}
theorem uI {G:Gc} {r:V->List V->Hp->VK->Prop} {op:D->List D->Option (D×D)} {H:Hp} {ρ:En} {σ:L2.St} {S:Ad} {Fr:Addr->Prop} {i:Nat} {p:List Nat} {d0 d d' res:D} {v v0:V} {M N:List Addr} {es:List D} {xs:List V} (hm:MuV G r op) (s:Sta G H ob ρ σ S (plus N Fr)) (e:ρ[i]? = some (some d0)) (hv0:σ[i]? = some (some v0)) (hp:eU p d0=some d)
  (foc:Foc G H (wn ob S (plus N Fr)) d0 v0 (S i) p d v M) (re:aN G H (wn ob S (plus N Fr)) es xs N) (nd:N.Nodup) (hF:∀ a∈N,¬ Fr a) (c1:aD es=true) (c2:aG es=true) (h:op d es=some (d',res)) {Q:VK}
  (q:∀ x H' R S',Sta G H' ob (ρ.set i (some (dW p d' d0))) σ S' (plus R Fr)->Rep G H' (wn ob S' (plus R Fr)) res x R->R.Nodup->clean res=true->(∀ j,j≠i->S' j=S j)->(∀ a∈S' i,a∈S i∨a∈N∨H a=none)->(∀ a∈R,a∈S i∨a∈N∨H a=none)->(∀ b u,H b=some u->b∉S i->H' b=some u)->Q x H'):r v xs H Q:=by
 have hMS:List.Sublist M (S i):=by
  obtain ⟨A,B,hL,_⟩:=foc.b
  rw [hL]
  exact (List.sublist_append_left M B).trans (List.sublist_append_right A _)
 have hc0:clean d0=true:=let ⟨_,_,_,h⟩:=s.sl i d0 e; h
 refine hm d es d' res h v xs H _ M N foc.r re (jc (hMS.nodup (s.nd i)) nd fun a h1 h2=>s.fdj i a (.inl h2) (hMS.subset h1)) (fun a ha f=>?_) (rP hc0 hp) c1 c2 Q fun x H' M' R kp hr nd' gr hc' hcr=>?_
 .cases ho:ob i with
  | false=>exact f.2.1 ⟨i,ho,hMS.subset ha⟩
  | true=>exact f.2.2 ⟨i,ho,hMS.subset ha⟩
 .obtain ⟨S',q1,q2,q3,q4,q5,q6⟩:=s.mut e hv0 foc hF kp hr nd' gr hc'
  exact q x H' R S' q1 q2 (List.nodup_append.mp nd').2.1 hcr q3 q4 q5 q6
def upS (op:D->List D->Option (D×D)) (i:Nat) (p:List Nat) (es:List D) (ρ:En):Option (D×En):=match ρ[i]? with
 | some (some d0)=>(eU p d0).bind fun d=>if aD es=true/\aG es=true then (op d es).map fun q=>(q.2,ρ.set i (some (dW p q.1 d0))) else none
 | _=>none
theorem Ah {op:D->List D->Option (D×D)} {i:Nat} {p:List Nat} {es:List D} {ρ ρ':En} {res:D} (h:upS op i p es ρ=some (res,ρ')):∃ d0 d d',ρ[i]? = some (some d0)/\eU p d0=some d/\aD es=true/\aG es=true/\op d es=some (d',res)/\ρ'=ρ.set i (some (dW p d' d0)):=by
 unfold upS at h
 split at h
 .rename_i d0 h1
  cases h2:eU p d0 with
  | none=>simp [h2] at h
  | some d=>
   by_cases hc:aD es=true/\aG es=true
   .cases h3:op d es with
    | none=>simp [h2,hc,h3] at h
    | some q=>
     obtain ⟨d',r'⟩:=q
     obtain ⟨rfl,rfl⟩:r'=res/\ρ.set i (some (dW p d' d0))=ρ':=by simpa [h2,hc,h3] using h
     exact ⟨d0,d,d',h1,h2,hc.1,hc.2,h3,rfl⟩
   .simp [h2,hc] at h
 .cases h
def fZ (op:D->List D->Option (D×D)) (i:Nat) (pf:En->Option (List Nat)) (f:En->Option (List D)):En->Option (D×En):=fun ρ=>(pf ρ).bind fun p=>(f ρ).bind fun es=>upS op i p es ρ
def eV (op:D->List D->Option (D×D)) (i:Nat) (pf:En->Option (List Nat)) (f:En->Option (List D)):En->Option Fl:=fun ρ=>(fZ op i pf f ρ).map fun q=>.nx q.2
def cR (op:D->List D->Option (D×D)) (i:Nat) (pf:En->Option (List Nat)) (f:En->Option (List D×En)):En->Option Fl:=fun ρ=>(pf ρ).bind fun p=>(f ρ).bind fun q=>(upS op i p q.1 q.2).map fun q=>.nx q.2
def Hm (G:Gc) (T:String) (op:D->List D->Option (D×D)):Prop:=∀ d es q,op d es=some q->∀ (v:V) (H:Hp) (W:Wn) (L:List Addr),Rep G H W d v L->tyV G.K T v H
theorem Mt {T:String} {r:V->List V->Hp->VK->Prop} {op:D->List D->Option (D×D)} {to:TE} {t:TA} {i:Nat} {pf:En->Option (List Nat)} {f:En->Option (List D)} (hm:MuV G r op) (ht:Hm G T op) (ho:RfP G ob to i pf) (ha:RfA G ob t f) {ρ ρ':En} {res:D} (e:fZ op i pf f ρ=some (res,ρ'))
  {σ:L2.St} {H:Hp} {S:Ad} {Fr:Addr->Prop} (s:Sta G H ob ρ σ S Fr) {Q:VK}
  (q:∀ x H' R S',Sta G H' ob ρ' σ S' (plus R Fr)->Rep G H' (wn ob S' (plus R Fr)) res x R->R.Nodup->clean res=true->(∀ j,j≠i->S' j=S j)->(∀ a∈S' i,a∈S i∨H a=none)->(∀ a∈R,a∈S i∨H a=none)->(∀ b u,H b=some u->b∉S i->H' b=some u)->Q x H'):tBM G.K T r to t σ H Q:=by
 unfold fZ at e
 cases h1:pf ρ with
 | none=>simp [h1] at e
 | some p=>
  cases h2:f ρ with
  | none=>simp [h1,h2] at e
  | some es=>
   have e:upS op i p es ρ=some (res,ρ'):=by simpa [h1,h2] using e
   obtain ⟨d0,d,d',g1,g2,c1,c2,g3,rfl⟩:=Ah e
   obtain ⟨d0',dd,k1,k2,k3⟩:=ho ρ p h1 σ H S Fr s
   rw [g1] at k1
   cases k1
   rw [g2] at k2
   cases k2
   refine k3 _ fun v v0 H1 M s1 hv0 foc=>⟨ht d es _ g3 v H1 _ M foc.r,?_⟩
   have st1:Sta G H1 ob ρ σ S Fr:=s.grow s1 fun a z=>.inl z
   refine ha ρ es h2 σ H1 _ st1.rel st1.wok _ fun xs H2 N s2 re fr nd=>?_
   have st2:Sta G H2 ob ρ σ S (plus N Fr):=st1.grow s2 fun a z=>z.elim (fun z=>.inr ⟨fr a z,re.dom a z⟩) .inl
   have up:Up H1 H2 (wn ob S Fr) (wn ob S (plus N Fr)):=Up.add s2 fr
   have foc2:=foc.mono (.inr up) up.evo fun c _ u hu=>s2 c u hu
   have hF:∀ a∈N,¬ Fr a:=fun a ha z=>by
    obtain ⟨o,ho,_⟩:=st1.fdm a z
    rw [fr a ha] at ho; cases ho
   have nf:∀ {a},a∈S i∨a∈N∨H2 a=none->a∈S i∨H a=none:=fun {a} z=>z.imp id fun z=>z.elim (fun z=>s1.none' (fr a z)) fun z=>(s1.trans s2).none' z
   exact uI hm st2 g1 hv0 g2 foc2 re nd hF c1 c2 g3 fun x H' R S' q1 q2 q3 q4 q5 q6 q7 q8=>q x H' R S' q1 q2 q3 q4 q5 (fun a ha=>nf (q6 a ha)) (fun a ha=>nf (q7 a ha)) fun b u hb n=>q8 b u ((s1.trans s2) b u hb) n
theorem Ib {T:String} {r:V->List V->Hp->VK->Prop} {op:D->List D->Option (D×D)} {to:TE} {t:TA} {i:Nat} {pf:En->Option (List Nat)} {f:En->Option (List D)} (hm:MuV G r op) (ht:Hm G T op) (ho:RfP G ob to i pf) (ha:RfA G ob t f):RfS G ob P (FQ (tBM G.K T r to t)) (eV op i pf f):=fun ρ r e σ H S Fr s E q=>by
 unfold eV at e
 cases h1:fZ op i pf f ρ with
 | none=>simp [h1] at e
 | some p=>
  obtain ⟨res,ρ'⟩:=p
  have:Fl.nx ρ'=r:=by simpa [h1] using e
  subst this
  refine Mt hm ht ho ha h1 s fun x H' R S' q1 q2 q3 q4 q5 q6 q7 q8=>q σ H' S' (q1.lessF fun a z=>.inr z) ⟨fun b u hb n _=>q8 b u hb fun z=>n ⟨i,z⟩,fun j a z=>?_,.refl⟩
  by_cases hj:j=i
  .subst hj; exact (q6 a z).imp (fun z=>⟨j,z⟩) .inr
  .rw [q5 j hj] at z; exact .inl ⟨j,z⟩
theorem Gu {T:String} {r:V->List V->Hp->VK->Prop} {op:D->List D->Option (D×D)} {to:TE} {t:TA} {i:Nat} {pf:En->Option (List Nat)} {f:En->Option (List D×En)} (hob:ob i=false) (hm:MuV G r op) (ht:Hm G T op) (ho:RfP G ob to i pf) (ha:yF G ob t f) (hsame:∀ ρ q,f ρ=some q->q.2[i]? = ρ[i]?):RfS G ob P (FQ (tBM G.K T r to t)) (cR op i pf f):=fun ρ r e σ H S Fr s E q=>by
 unfold cR at e
 cases h1:pf ρ with
 | none=>simp [h1] at e
 | some p=>
  cases h2:f ρ with
  | none=>simp [h1,h2] at e
  | some w=>
   obtain ⟨es,ρ1⟩:=w
   cases h3:upS op i p es ρ1 with
   | none=>simp [h1,h2,h3] at e
   | some w=>
    obtain ⟨res,ρ'⟩:=w
    have:Fl.nx ρ'=r:=by simpa [h1,h2,h3] using e
    subst this
    obtain ⟨d0,d,d',g1,g2,c1,c2,g3,rfl⟩:=Ah h3
    have hs:=hsame ρ _ h2
    simp only at hs
    obtain ⟨d0',dd,k1,k2,k3⟩:=ho ρ p h1 σ H S Fr s
    rw [← hs,g1] at k1
    cases k1
    rw [g2] at k2
    cases k2
    have hc0:clean d0=true:=let ⟨_,_,_,h⟩:=s.sl i d0 (by rw [← hs]; exact g1); h
    refine k3 _ fun v v0 H1 M s1 hv0 foc=>⟨ht d es _ g3 v H1 _ M foc.r,?_⟩
    have st1:Sta G H1 ob ρ σ S Fr:=s.grow s1 fun a z=>.inl z
    refine ha ρ es ρ1 h2 σ H1 S Fr st1 _ fun xs H2 N S2 st2 re nd ef=>?_
    have foc2:=foc.mono (.inl (rP hc0 g2)) (ef.evo st1) fun c hc u hu=>ef.kp c u hu fun ⟨j,hj,z⟩=>by rw [← st1.dj i j c hc z,hob] at hj; cases hj
    have hSi:S2 i=S i:=ef.sn i hob
    rw [← hSi] at foc2
    have hF:∀ a∈N,¬ Fr a:=fun a ha z=>by
     rcases ef.fm a ha with y | y
     .exact st1.notO z y
     .obtain ⟨o,ho,_⟩:=st1.fdm a z
      rw [y] at ho; cases ho
    have old:∀ {a},inO ob S a∨H1 a=none->inS S a∨H a=none:=fun {a} z=>z.imp (fun ⟨k,_,z⟩=>⟨k,z⟩) fun z=>s1.none' z
    refine uI hm st2 g1 hv0 g2 foc2 re nd hF c1 c2 g3 fun x H' R S' q1 q2 q3 q4 q5 q6 q7 q8=>q σ H' S' (q1.lessF fun a z=>.inr z) ⟨fun b u hb n _=>?_,fun j a z=>?_,.refl⟩
    .exact q8 b u (ef.kp b u (s1 b u hb) fun ⟨k,_,z⟩=>n ⟨k,z⟩) fun z=>n ⟨i,by rw [← hSi]; exact z⟩
    .by_cases hj:j=i
     .subst hj
      rcases q6 a z with y | y | y
      .rw [hSi] at y; exact .inl ⟨j,y⟩
      .exact (old (ef.fm a y)).imp id .inr
      .exact (old (ef.back y)).imp id .inr
     .rw [q5 j hj] at z
      cases hoj:ob j with
      | false=>rw [ef.sn j hoj] at z; exact .inl ⟨j,z⟩
      | true=>exact (old (ef.gr j a hoj z)).imp id .inr
structure MuB {ι:Type} (X:ι->Cx) (G:Gc) (T id:String) (op:D->List D->Option (D×D)):Prop where
 ex:∃ r,(∀ c,MtR (X c) id r)/\MuV G r op/\Hm G T op
section
variable {T name id:String} {op:D->List D->Option (D×D)} {o e:Expr} {es:List Expr} {apos cpos pos:Pos} {i:Nat} {pf:En->Option (List Nat)}
theorem lG {nm:Str} (m:MuB X G T id op) (pa:PlainAttrs T) (slot:Slot T nm id) (hty:typeOf (.builtin id)=pure (.type "method_descriptor")) {f:En->Option (List D)} (ho:PVP X G ob o i pf) (ha:PVA X G ob (e :: es) f) (hsw:∀ c,swapsWith (.Call (.Attribute o nm apos) (e :: es) [] cpos) none pos.line (X c).env=pure false:=by intro _; rfl) (hbase:∀ c,attributeBase o nm (X c).env (eval o (X c).env)=eval o (X c).env:=by intro _; rfl) (hfew:∀ c,((backTo cpos (starEach (e :: es) (X c).env)).all (fun x=>!x.1) && (backToKw cpos (keywordEach [] (X c).env)).all (fun x=>x.1.isSome)
   && decide ((e :: es).length + ([]:List Keyword).length + (if ([]:List Keyword).isEmpty then 0 else 1) < 30))=true:=by intro _; rfl) (hline:(apos.endLine == cpos.line)=true:=by rfl) (hs:∀ c,starEach (e :: es) (X c).env=(false,eval e (X c).env) :: starEach es (X c).env:=by intro _; rfl) (hplain:∀ c,(backTo cpos (starEach es (X c).env)).any (·.1)=false:=by intro _; rfl) (hK:∀ c,(X c).K=G.K:=by intro _; rfl) :
  PVS X G ob P (.Expr (.Call (.Attribute o nm apos) (e :: es) [] cpos) pos) (eV op i pf f):=let ⟨r,m1,m2,m3⟩:=m.ex; let ⟨t,a1,a2⟩:=ho.ex; let ⟨u,b1,b2⟩:=ha.ex; ⟨_,fun c=>(by rw [← hK c]; exact BJ (Ga pa slot hty (m1 c) (a1 c) (b1 c) (hbase c) (hfew c) hline (hs c) (hplain c)) (hsw c)),Ib m2 m3 a2 b2⟩
theorem Ge {nm:Str} (m:MuB X G T id op) (pa:PlainAttrs T) (slot:Slot T nm id) (hty:typeOf (.builtin id)=pure (.type "method_descriptor")) {f:En->Option (List D×En)} (ho:PVP X G ob o i pf) (ha:tE X G ob (e :: es) f) (hsame:∀ ρ q,f ρ=some q->q.2[i]? = ρ[i]?) (hob:ob i=false:=by rfl) (hsw:∀ c,swapsWith (.Call (.Attribute o nm apos) (e :: es) [] cpos) none pos.line (X c).env=pure false:=by intro _; rfl) (hbase:∀ c,attributeBase o nm (X c).env (eval o (X c).env)=eval o (X c).env:=by intro _; rfl) (hfew:∀ c,((backTo cpos (starEach (e :: es) (X c).env)).all (fun x=>!x.1) && (backToKw cpos (keywordEach [] (X c).env)).all (fun x=>x.1.isSome)
   && decide ((e :: es).length + ([]:List Keyword).length + (if ([]:List Keyword).isEmpty then 0 else 1) < 30))=true:=by intro _; rfl) (hline:(apos.endLine == cpos.line)=true:=by rfl) (hs:∀ c,starEach (e :: es) (X c).env=(false,eval e (X c).env) :: starEach es (X c).env:=by intro _; rfl) (hplain:∀ c,(backTo cpos (starEach es (X c).env)).any (·.1)=false:=by intro _; rfl) (hK:∀ c,(X c).K=G.K:=by intro _; rfl) :
  PVS X G ob P (.Expr (.Call (.Attribute o nm apos) (e :: es) [] cpos) pos) (cR op i pf f):=let ⟨r,m1,m2,m3⟩:=m.ex; let ⟨t,a1,a2⟩:=ho.ex; let ⟨u,b1,b2⟩:=ha.ex; ⟨_,fun c=>(by rw [← hK c]; exact BJ (Ga pa slot hty (m1 c) (a1 c) (b1 c) (hbase c) (hfew c) hline (hs c) (hplain c)) (hsw c)),Gu hob m2 m3 a2 b2 hsame⟩
end
structure MuT {ι:Type} (X:ι->Cx) (G:Gc) (op:D->List D->Option (D×D)):Prop where
 ex:∃ t:Ej,(∀ c,J3 (X c) t)/\MuV G (fun o xs H Q=>∃ i v,xs=[i,v]/\t o i v H fun H'=>Q .non H') op
def cN (op:D->List D->Option (D×D)) (i:Nat) (pf:En->Option (List Nat)) (fk:En->Option D):D->En->Option En:=fun d ρ=>(pf ρ).bind fun p=>(fk ρ).bind fun k=>(upS op i p [k,d] ρ).map fun q=>q.2
theorem JV {t:Ej} {op:D->List D->Option (D×D)} {to ti:TE} {i:Nat} {pf:En->Option (List Nat)} {fk:En->Option D} (hm:MuV G (fun o xs H Q=>∃ i v,xs=[i,v]/\t o i v H fun H'=>Q .non H') op) (ho:RfP G ob to i pf) (hi:RfE G ob ti fk):RfG G ob P (lA to ti t) (cN op i pf fk):=fun d ρ ρ' e v σ H S M Fr s r nd hF Q q=>by
 unfold cN at e
 cases h1:pf ρ with
 | none=>simp [h1] at e
 | some p=>
  cases h2:fk ρ with
  | none=>simp [h1,h2] at e
  | some k=>
   cases h3:upS op i p [k,d] ρ with
   | none=>simp [h1,h2,h3] at e
   | some w=>
    obtain ⟨res,ρ1⟩:=w
    obtain rfl:ρ1=ρ':=by simpa [h1,h2,h3] using e
    obtain ⟨d0,dd,d',g1,g2,c1,c2,g3,rfl⟩:=Ah h3
    obtain ⟨d0',dd',k1,k2,k3⟩:=ho ρ p h1 σ H S (plus M Fr) s
    rw [g1] at k1
    cases k1
    rw [g2] at k2
    cases k2
    refine k3 _ fun o v0 H1 M1 s1 hv0 foc=>?_
    have st1:Sta G H1 ob ρ σ S (plus M Fr):=s.grow s1 fun a z=>.inl z
    refine hi ρ k h2 σ H1 _ st1.rel st1.wok _ fun y H2 N s2 ry fr nN=>?_
    have st2:Sta G H2 ob ρ σ S (plus (N++M) Fr):=st1.grow s2 fun a z=>z.elim (fun z=>(List.mem_append.mp z).elim (fun z=>.inr ⟨fr a z,ry.dom a z⟩) fun z=>.inl (.inl z)) fun z=>.inl (.inr z)
    have up:Up H1 H2 (wn ob S (plus M Fr)) (wn ob S (plus (N++M) Fr)):=⟨s2,fun b u hb f=>⟨fun z=>z.elim (fun z=>(List.mem_append.mp z).elim (fun z=>by rw [fr b z] at hb; cases hb) fun z=>f.1 (.inl z)) fun z=>f.1 (.inr z),f.2⟩,fun _ _ _ f=>f⟩
    have up0:Up H H2 (wn ob S (plus M Fr)) (wn ob S (plus (N++M) Fr)):=(Up.same s1).trans up
    have foc2:=foc.mono (.inr up) up.evo fun c _ u hu=>s2 c u hu
    have eqW:(wn ob S (plus M Fr)).add N=wn ob S (plus (N++M) Fr):=by
     show Wn.mk _ _ _=Wn.mk _ _ _
     congr 1
     funext a
     simp only [plus,List.mem_append,eq_iff_iff,or_assoc]
     constructor
     .rintro (z | z)
      .exact .inl z
      .exact .inr z
     .rintro (z | z)
      .exact .inl z
      .exact .inr z
    rw [eqW] at ry
    have hNM:∀ a∈N,a∉M:=fun a h1 h2=>by
     obtain ⟨o,ho,_⟩:=r.dom a h2
     rw [s1.none' (fr a h1)] at ho; cases ho
    have re:aN G H2 (wn ob S (plus (N++M) Fr)) [k,d] [y,v] (N++M):=.cons ry (.one (r.up up0))
    have hF2:∀ a∈N++M,¬ Fr a:=fun a ha z=>by
     rcases List.mem_append.mp ha with y | y
     .obtain ⟨o,ho,_⟩:=st1.fdm a (.inr z)
      rw [fr a y] at ho; cases ho
     .exact hF a y z
    have key:=uI hm st2 g1 hv0 g2 foc2 re (jc nN nd hNM) hF2 c1 c2 g3 (Q:=fun _ H'=>Q σ H') fun x H' R S' q1 q2 q3 q4 q5 q6 q7 q8=>q σ H' S' (q1.lessF fun a z=>.inr z) ⟨fun b u hb n m=>?_,fun j a z=>?_,.refl⟩
    .obtain ⟨i1,v1,e1,k⟩:=key
     cases e1
     exact k
    .exact q8 b u ((s1.trans s2) b u hb) fun z=>n ⟨i,z⟩
    .by_cases hj:j=i
     .subst hj
      rcases q6 a z with y | y | y
      .exact .inl ⟨j,y⟩
      .exact (List.mem_append.mp y).elim (fun y=>.inr (.inr (s1.none' (fr a y)))) fun y=>.inr (.inl y)
      .exact .inr (.inr ((s1.trans s2).none' y))
     .rw [q5 j hj] at z; exact .inl ⟨j,z⟩
theorem BK {op:D->List D->Option (D×D)} {o k:Expr} {pos:Pos} {i:Nat} {pf:En->Option (List Nat)} {fk:En->Option D} (m:MuT X G op) (ho:PVP X G ob o i pf) (hk:PV X G ob k fk) (ha:∀ c,∀ v,assign (.Subscript o k pos) (X c).env v=(do
   let ov ← holding [v] (eval o (X c).env)
   let iv ← holding [v,ov] (eval k (X c).env)
   standAt pos
   holding [v,ov,iv] (setItem ov iv v)
   release [v,ov,iv] []):=by intro _; intro _; rfl):PVG X G ob P (.Subscript o k pos) (cN op i pf fk):=let ⟨t,m1,m2⟩:=m.ex; let ⟨_,a1,a2⟩:=ho.ex; let ⟨_,b1,b2⟩:=hk.ex; ⟨_,fun c=>Lp (a1 c) (b1 c) (m1 c) (ha c),JV m2 a2 b2⟩
theorem uc {G:Gc} {H:Hp} {W:Wn}:Rep G H W .non .non []:=by rw [Rep]; exact ⟨rfl,rfl⟩
theorem vW {ds:List D} (h1:aD ds=true) (h2:aG ds=true):clean (.lst .own ds)=true:=by simp [clean,aH,aF,h1,h2]
theorem JZ {G:Gc} {H:Hp} {W W':Wn} {a:Addr} {xs:List V} {ds:List D} {M:List Addr} {ys:List V} (hr:aN G H W ds xs M) (hc1:aD ds=true) (hc2:aG ds=true) (hn:a∉M) (ev:Evo H (upd H a (.lst ys)) W W'):aN G (upd H a (.lst ys)) W' ds xs M:=
 hr.mono ev (.inl hc1) (.inl hc2) fun c hc u hu=>by rw [bh (show c≠a from fun z=>hn (z ▸ hc))]; exact hu
def cA:D->List D->Option (D×D)
 | .lst .own ds,[e]=>if ds.length < 1000000 then some (.lst .own (ds++[e]),.non) else none
 | _,_=>none
theorem Fi {n:Nat} (h:n < 1000000):n < sizeLine:=Nat.lt_of_lt_of_le h (by decide)
theorem Aw {G:Gc}:MuV G BZ cA:=fun d es d' res h v xs H W M N r re nd hM hc c1 c2 Q q=>by
 unfold cA at h
 split at h
 .rename_i ds e
  split at h
  .rename_i hl
   cases h
   rw [Rep] at r
   obtain ⟨a,ys,M0,rfl,hr,ha,rfl⟩:=r
   obtain ⟨x,zs,N1,N2,rfl,rfl,hx,hz⟩:=re.inv
   obtain ⟨rfl,rfl⟩:=hz.inv0
   rw [List.append_nil] at nd re
   obtain ⟨k1,k2⟩:=vP hc
   have nd':=List.nodup_append.mp nd
   have hn:=List.nodup_cons.mp nd'.1
   have haN:a∉N1:=fun z=>nd'.2.2 a (by simp) a z rfl
   simp only [aD,aG,Bool.and_eq_true] at c1 c2
   refine ⟨a,ys,x,rfl,rfl,ha,Fi (by rw [← hr.length]; exact hl),q .non _ (a :: (M0++N1)) [] (fun b u hb n=>by rw [bh (show b≠a from fun z=>n (by rw [z]; simp))]; exact hb) (fun W' ev=>⟨?_,uc⟩) ?_ (fun b hb=>?_) (vW (by rw [aM]; simp [k1,aD,c1]) (by rw [aL]; simp [k2,aG,c2])) rfl⟩
   .rw [Rep]
    refine ⟨a,ys++[x],M0++N1,rfl,(JZ hr k1 k2 hn.1 ev).append (.one (hx.mono ev (.inl c1.1) (.inl c2.1) fun c hc u hu=>?_)),dg,rfl⟩
    rw [bh (show c≠a from fun z=>haN (z ▸ hc))]; exact hu
   .rw [List.append_nil]
    exact nd
   .rw [List.append_nil] at hb
    rcases List.mem_cons.mp hb with z | z
    .exact .inl (by simp [z])
    .rcases List.mem_append.mp z with z | z
     .exact .inl (by simp [z])
     .exact .inr (.inl (by simp [z]))
  .cases h
 .cases h
theorem Mm {T:String} {op:D->List D->Option (D×D)} (hT:T = "list") (h:∀ d es q,op d es=some q->∃ m ds,d = .lst m ds):Hm G T op:=fun d es q e v H W L r=>by
 obtain ⟨m,ds,rfl⟩:=h d es q e
 rw [Rep] at r
 obtain ⟨a,xs,M,rfl,hr,hs⟩:=r
 exact .inl ⟨hT,xs,hs.sq⟩
theorem iC:MuB X G "list" "list.append" cA:=⟨_,fun c=>Ea,Aw,Mm rfl fun d es q e=>by
 unfold cA at e
 split at e
 .exact ⟨_,_,rfl⟩
 .cases e⟩
def lq (ks:List Key) (ds:List D) (k:Key) (v:D):List Key×List D:=match lZ ks k with
 | some j=>(ks,ds.set j v)
 | none=>(ks++[k],ds++[v])
def sr:D->List D->Option (D×D)
 | .lst .own ds,[.int k,v]=>(ixN ds.length k).map fun j=>(.lst .own (ds.set j v),.non)
 | .dct .own ks ds,[k,v]=>(mG k).bind fun k=>if ks.length < 1000000 then some (.dct .own (lq ks ds k v).1 (lq ks ds k v).2,.non) else none
 | _,_=>none
def KZ:Ej:=fun o i v H Q=>Ky o i v H Q∨∃ a H',o = .ref a/\zX H a i v H'/\Q H'
theorem JR {Y:Cx} (hu:Y.A.units + 1 < cLine):J3 Y KZ:=by
 intro pins s σ H o i v ov iv u Q I ro ri rv h
 rcases h with h | ⟨a,H',rfl,g,q⟩
 .exact set_list pins s σ H o i v ov iv u Q I ro ri rv h
 .cases ro
  exact Ds hu I g ri rv fun s4 I4=>⟨H',I4,q⟩
theorem aN.set {G:Gc} {H:Hp} {W:Wn} {ds:List D} {xs:List V} {L:List Addr} {j:Nat} {c d':D} {y:V} {M':List Addr} (hr:aN G H W ds xs L) (e:ds[j]? = some c) (r':Rep G H W d' y M'):∃ A M B,L=A++(M++B)/\aN G H W (ds.set j d') (xs.set j y) (A++(M'++B)):=by
 obtain ⟨P,Q,x,ys,zs,LA,M1,LB,rfl,hlp,rfl,hly,rfl,h1,h2,h3⟩:=hr.at e
 refine ⟨LA,M1,LB,rfl,?_⟩
 rw [← hlp,List.set_append_right _ _ (Nat.le_refl _),Nat.sub_self]
 rw [show P.length=ys.length by omega,List.set_append_right _ _ (Nat.le_refl _),Nat.sub_self]
 exact aN.append h1 (aN.cons r' h3)
theorem mY {ds:List D} {j:Nat} {x:D} (h:aD ds=true) (hx:aH x=true):aD (ds.set j x)=true:=by
 induction ds generalizing j with
 | nil=>simpa using h
 | cons y r ih=>
  simp only [aD,Bool.and_eq_true] at h
  cases j with
  | zero=>simp [aD,hx,h]
  | succ j=>simp only [List.set_cons_succ,aD,Bool.and_eq_true]; exact ⟨h.1,ih h.2⟩
theorem m7 {ds:List D} {j:Nat} {x:D} (h:aG ds=true) (hx:aF x=true):aG (ds.set j x)=true:=by
 induction ds generalizing j with
 | nil=>simpa using h
 | cons y r ih=>
  simp only [aG,Bool.and_eq_true] at h
  cases j with
  | zero=>simp [aG,hx,h]
  | succ j=>simp only [List.set_cons_succ,aG,Bool.and_eq_true]; exact ⟨h.1,ih h.2⟩
theorem N7 {n:Nat} {k:Int} {j:Nat} (h:ixN n k=some j):j < n:=by
 unfold ixN at h
 split at h
 .split at h
  .cases h; omega
  .cases h
 .split at h
  .cases h; omega
  .cases h
theorem tY {ks:List Key} {k:Key} {j:Nat} (h:lZ ks k=some j):j < ks.length:=(List.findIdx?_eq_some_iff_getElem.mp h).1
theorem yE:∀ {kvs:List (Key×V)} {k:Key} {j:Nat} {v:V},lZ (kvs.map (·.1)) k=some j->(kvs.map (·.1)).Nodup->(putK kvs k v).map (·.1)=kvs.map (·.1)/\(putK kvs k v).map (·.2)=(kvs.map (·.2)).set j v:=by
 intro kvs k j v h n
 have hj:=List.findIdx?_eq_some_iff_getElem.mp h
 obtain ⟨hl,hk,_⟩:=hj
 have hl':j < kvs.length:=by simpa using hl
 have hkj:kvs[j].1=k:=by simpa using hk
 have hany:(kvs.any fun kv=>decide (kv.1=k))=true:=List.any_eq_true.mpr ⟨kvs[j],List.getElem_mem _,by simpa using hkj⟩
 unfold putK
 rw [if_pos hany]
 constructor
 .rw [List.map_map]
  apply List.map_congr_left
  intro p _
  simp only [Function.comp]
  split <;> rfl
 .apply List.ext_getElem?
  intro i
  rw [List.map_map,List.getElem?_map]
  by_cases hij:j=i
  .subst hij
   rw [List.getElem?_set_self (by simpa using hl')]
   simp [hl',hkj]
  .rw [List.getElem?_set_ne hij,List.getElem?_map]
   cases e:kvs[i]? with
   | none=>rfl
   | some p=>
    have hil:i < kvs.length:=(List.getElem?_eq_some_iff.mp e).1
    have hpi:kvs[i]=p:=(List.getElem?_eq_some_iff.mp e).2
    have hne:p.1≠k:=fun z=>by
     have e1:(kvs.map (·.1))[i]? = (kvs.map (·.1))[j]?:=by
      rw [List.getElem?_map,List.getElem?_map,e,List.getElem?_eq_getElem hl']
      simp [z,hkj]
     exact hij ((List.getElem?_inj (by simpa using hil) n).mp e1).symm
    simp [hne]
theorem vh {kvs:List (Key×V)} {k:Key} {v:V} (h:lZ (kvs.map (·.1)) k=none):putK kvs k v=kvs++[(k,v)]:=by
 unfold putK
 rw [if_neg]
 intro z
 obtain ⟨p,hp,e⟩:=List.any_eq_true.mp z
 have:=List.findIdx?_eq_none_iff.mp h p.1 (List.mem_map.mpr ⟨p,hp,rfl⟩)
 simp at this e
 exact this e
theorem uE {ks:List Key} {k:Key} (h:lZ ks k=none):k∉ks:=fun z=>by
 have:=List.findIdx?_eq_none_iff.mp h k z
 simp at this
theorem Iw {G:Gc}:MuV G (fun o xs H Q=>∃ i v,xs=[i,v]/\KZ o i v H fun H'=>Q .non H') sr:=fun d es d' res h v xs H W M N r re nd hM hc c1 c2 Q q=>by
 unfold sr at h
 split at h
 .rename_i ds k e
  cases hj:ixN ds.length k with
  | none=>simp [hj] at h
  | some j=>
   obtain ⟨rfl,rfl⟩:D.lst .own (ds.set j e)=d'/\D.non=res:=by simpa [hj] using h
   rw [Rep] at r
   obtain ⟨a,ys,M0,rfl,hr,ha,rfl⟩:=r
   obtain ⟨x1,zs,N1,N2,rfl,rfl,hx1,hz⟩:=re.inv
   obtain ⟨x,zs,N3,N4,rfl,rfl,hx,hz⟩:=hz.inv
   obtain ⟨rfl,rfl⟩:=hz.inv0
   rw [Rep] at hx1
   obtain ⟨rfl,rfl⟩:=hx1
   rw [List.append_nil,List.nil_append] at nd re
   obtain ⟨k1,k2⟩:=vP hc
   have nd':=List.nodup_append.mp nd
   have hn:=List.nodup_cons.mp nd'.1
   have haN:a∉N3:=fun z=>nd'.2.2 a (by simp) a z rfl
   simp only [aD,aG,Bool.and_eq_true] at c1 c2
   have hjl:=N7 hj
   obtain ⟨A,M1,B,hM0,hset⟩:=hr.set (List.getElem?_eq_getElem hjl) hx
   have hsub:List.Sublist (A++B) M0:=by rw [hM0]; exact (List.Sublist.refl A).append (List.sublist_append_right M1 B)
   refine ⟨_,_,rfl,.inl ⟨a,ys,k,j,rfl,rfl,ha,by rw [← hr.length]; exact hj,q .non _ (a :: (A++(N3++B))) [] (fun b u hb n=>by rw [bh (show b≠a from fun z=>n (by rw [z]; simp))]; exact hb) (fun W' ev=>⟨?_,uc⟩) ?_ (fun b hb=>?_) (vW (mY k1 c1.2.1) (m7 k2 c2.2.1)) rfl⟩⟩
   .rw [Rep]
    refine ⟨a,_,A++(N3++B),rfl,?_,dg,rfl⟩
    refine hset.mono ev (.inl (mY k1 c1.2.1)) (.inl (m7 k2 c2.2.1)) fun c hc u hu=>?_
    rw [bh (show c≠a from fun z=>?_)]
    .exact hu
    .subst z
     simp only [List.mem_append] at hc
     rcases hc with y | y | y
     .exact hn.1 (hsub.subset (by simp [y]))
     .exact haN y
     .exact hn.1 (hsub.subset (by simp [y]))
   .rw [List.append_nil]
    have n2:=hsub.nodup hn.2
    have n3:=List.nodup_append.mp n2
    have dis:∀ z∈N3,z∉A++B:=fun z h1 h2=>nd'.2.2 z (List.mem_cons_of_mem _ (hsub.subset h2)) z h1 rfl
    refine List.nodup_cons.mpr ⟨fun y=>?_,jc n3.1 (jc nd'.2.1 n3.2.1 fun z h1 h2=>dis z h1 (by simp [h2])) fun z h1 h2=>?_⟩
    .simp only [List.mem_append] at y
     rcases y with y | y | y
     .exact hn.1 (hsub.subset (by simp [y]))
     .exact haN y
     .exact hn.1 (hsub.subset (by simp [y]))
    .rcases List.mem_append.mp h2 with y | y
     .exact dis z y (by simp [h1])
     .exact n3.2.2 z h1 z y rfl
   .rw [List.append_nil] at hb
    rcases List.mem_cons.mp hb with z | z
    .exact .inl (by simp [z])
    .simp only [List.mem_append] at z
     rcases z with z | z | z
     .exact .inl (List.mem_cons_of_mem _ (hsub.subset (by simp [z])))
     .exact .inr (.inl (by simp [z]))
     .exact .inl (List.mem_cons_of_mem _ (hsub.subset (by simp [z])))
 .rename_i ks ds k0 e
  cases hk:mG k0 with
  | none=>simp [hk] at h
  | some k=>
   rw [hk] at h
   simp only [Option.bind_some] at h
   split at h
   .rename_i hl
    cases h
    rw [Rep] at r
    obtain ⟨a,kvs,M0,rfl,⟨rfl,hnk⟩,hr,ha,rfl⟩:=r
    obtain ⟨x1,zs,N1,N2,rfl,rfl,hx1,hz⟩:=re.inv
    obtain ⟨x,zs,N3,N4,rfl,rfl,hx,hz⟩:=hz.inv
    obtain ⟨rfl,rfl⟩:=hz.inv0
    have hx1k:=oK hx1 hk
    subst hx1k
    have hN1:N1=[]:=by
     cases k0 <;> simp [mG] at hk <;> rw [Rep] at hx1 <;> exact hx1.2
    subst hN1
    rw [List.append_nil,List.nil_append] at nd re
    have k1:aD ds=true/\aG ds=true:=by simp [clean,aH,aF] at hc; exact hc
    have nd':=List.nodup_append.mp nd
    have hn:=List.nodup_cons.mp nd'.1
    have haN:a∉N3:=fun z=>nd'.2.2 a (by simp) a z rfl
    simp only [aD,aG,Bool.and_eq_true] at c1 c2
    have hlk:kvs.length < sizeLine:=Fi (by simpa using hl)
    refine ⟨_,_,rfl,.inr ⟨a,_,rfl,zX.k (k:=k) ha hlk,?_⟩⟩
    cases hj:lZ (kvs.map (·.1)) k with
    | some j=>
     have hjl:j < ds.length:=by rw [hr.length]; simpa using tY hj
     obtain ⟨A,M1,B,hM0,hset⟩:=hr.set (List.getElem?_eq_getElem hjl) hx
     obtain ⟨p1,p2⟩:=yE (v:=x) hj hnk
     have hsub:List.Sublist (A++B) M0:=by rw [hM0]; exact (List.Sublist.refl A).append (List.sublist_append_right M1 B)
     refine q .non _ (a :: (A++(N3++B))) [] (fun b u hb n=>by rw [bh (show b≠a from fun z=>n (by rw [z]; simp))]; exact hb) (fun W' ev=>⟨?_,uc⟩) ?_ (fun b hb=>?_) ?_ rfl
     .simp only [lq,hj]
      rw [Rep]
      refine ⟨a,_,A++(N3++B),rfl,⟨p1,hnk⟩,?_,dg,rfl⟩
      rw [p2]
      refine hset.mono ev (.inl (mY k1.1 c1.2.1)) (.inl (m7 k1.2 c2.2.1)) fun c hc u hu=>?_
      rw [bh (show c≠a from fun z=>?_)]
      .exact hu
      .subst z
       simp only [List.mem_append] at hc
       rcases hc with y | y | y
       .exact hn.1 (hsub.subset (by simp [y]))
       .exact haN y
       .exact hn.1 (hsub.subset (by simp [y]))
     .rw [List.append_nil]
      have n2:=hsub.nodup hn.2
      have n3:=List.nodup_append.mp n2
      have dis:∀ z∈N3,z∉A++B:=fun z h1 h2=>nd'.2.2 z (List.mem_cons_of_mem _ (hsub.subset h2)) z h1 rfl
      refine List.nodup_cons.mpr ⟨fun y=>?_,jc n3.1 (jc nd'.2.1 n3.2.1 fun z h1 h2=>dis z h1 (by simp [h2])) fun z h1 h2=>?_⟩
      .simp only [List.mem_append] at y
       rcases y with y | y | y
       .exact hn.1 (hsub.subset (by simp [y]))
       .exact haN y
       .exact hn.1 (hsub.subset (by simp [y]))
      .rcases List.mem_append.mp h2 with y | y
       .exact dis z y (by simp [h1])
       .exact n3.2.2 z h1 z y rfl
     .rw [List.append_nil] at hb
      rcases List.mem_cons.mp hb with z | z
      .exact .inl (by simp [z])
      .simp only [List.mem_append] at z
       rcases z with z | z | z
       .exact .inl (List.mem_cons_of_mem _ (hsub.subset (by simp [z])))
       .exact .inr (.inl (by simp [z]))
       .exact .inl (List.mem_cons_of_mem _ (hsub.subset (by simp [z])))
     .simp [lq,hj,clean,aH,aF,mY k1.1 c1.2.1,m7 k1.2 c2.2.1]
    | none=>
     rw [vh hj]
     refine q .non _ (a :: (M0++N3)) [] (fun b u hb n=>by rw [bh (show b≠a from fun z=>n (by rw [z]; simp))]; exact hb) (fun W' ev=>⟨?_,uc⟩) ?_ (fun b hb=>?_) ?_ rfl
     .simp only [lq,hj]
      rw [Rep]
      refine ⟨a,_,M0++N3,rfl,⟨by simp,?_⟩,?_,dg,rfl⟩
      .exact List.nodup_append.mpr ⟨hnk,by simp,fun y hy z hz=>by
        have:z=k:=by simpa using hz
        subst this
        exact fun e=>uE hj (e ▸ hy)⟩
      .rw [List.map_append]
       refine (hr.mono ev (.inl k1.1) (.inl k1.2) fun c hc u hu=>?_).append (.one (hx.mono ev (.inl c1.2.1) (.inl c2.2.1) fun c hc u hu=>?_))
       .rw [bh (show c≠a from fun z=>hn.1 (z ▸ hc))]; exact hu
       .rw [bh (show c≠a from fun z=>haN (z ▸ hc))]; exact hu
     .rw [List.append_nil]; exact nd
     .rw [List.append_nil] at hb
      rcases List.mem_cons.mp hb with z | z
      .exact .inl (by simp [z])
      .rcases List.mem_append.mp z with z | z
       .exact .inl (by simp [z])
       .exact .inr (.inl (by simp [z]))
     .simp [lq,hj,clean,aH,aF,aM,aL,aD,aG,k1,c1,c2]
   .cases h
 .cases h
theorem Bq (hu:∀ c,(X c).A.units + 1 < cLine):MuT X G sr:=⟨_,fun c=>JR (hu c),Iw⟩
end
abbrev InX {ι:Type} (X:ι->Cx) (N':List Str) (scope:Scope):ι×(Addr×Shared×Hp×List Addr)->Cx:=fun p=>gV (X p.1) N' scope p.2.1 p.2.2.1 p.2.2.2.1 p.2.2.2.2
def dZ (cap:List (Option Nat)) (ρ:En):En:=cap.map fun o=>o.bind fun j=>(ρ[j]?).bind id
def obC (cap:List (Option Nat)) (ob:Nat->Bool):Nat->Bool:=fun i=>match cap[i]? with
 | some (some j)=>ob j
 | _=>false
theorem qd {α:Type} {cap:List (Option Nat)} {l:List (Option α)} {i:Nat} {x:α} (h:(cap.map fun o=>o.bind fun j=>(l[j]?).bind id)[i]? = some (some x)):∃ j,cap[i]? = some (some j)/\l[j]? = some (some x):=by
 rw [List.getElem?_map] at h
 cases e:cap[i]? with
 | none=>rw [e] at h; cases h
 | some o=>
  rw [e] at h
  cases o with
  | none=>simp at h
  | some j=>
   refine ⟨j,rfl,?_⟩
   have h:(l[j]?).bind id=some x:=by simpa using h
   cases e2:l[j]? with
   | none=>rw [e2] at h; cases h
   | some o=>rw [e2] at h; simpa using h
theorem xM {α:Type} {cap:List (Option Nat)} {l:List (Option α)} {i j:Nat} {x:α} (h:cap[i]? = some (some j)) (h2:l[j]? = some (some x)):(cap.map fun o=>o.bind fun j=>(l[j]?).bind id)[i]? = some (some x):=by
 rw [List.getElem?_map,h]
 simp [h2]
section
variable {G:Gc} {ob:Nat->Bool}
theorem Rel.cap {H:Hp} {W:Wn} {ρ:En} {σ:L2.St} {cap:List (Option Nat)} (r:Rel G H W ob ρ σ):Rel G H W (obC cap ob) (dZ cap ρ) (j_ cap σ):=fun i d e=>by
 obtain ⟨j,h1,h2⟩:=qd e
 obtain ⟨v,L,q1,q2,q3⟩:=r j d h2
 refine ⟨v,L,xM h1 q1,q2,fun z=>q3 ?_⟩
 unfold obC at z
 rw [h1] at z
 exact z
def GJ (G:Gc) (ob own:Nat->Bool) (g:TG) (f:D->En->Option En):Prop:=∀ (d:D) (ρ ρ':En),f d ρ=some ρ'->∀ (x:V) (σ:L2.St) (H:Hp) (W:Wn),Rep G H W d x []->Rel G H W ob ρ σ->σ.length=ρ.length->∀ Q:L2.St->Hp->Prop,
 (∀ σ',Rel G H W ob ρ' σ'->σ'.length=ρ'.length->(∀ j,own j=false->σ'[j]? = σ[j]?)->Q σ' H)->g x σ H Q
def y_ (G:Gc) (ob own:Nat->Bool) (g:TGs) (f:List D->En->Option En):Prop:=∀ (ds:List D) (ρ ρ':En),f ds ρ=some ρ'->∀ (xs:List V) (σ:L2.St) (H:Hp) (W:Wn),aN G H W ds xs []->Rel G H W ob ρ σ->σ.length=ρ.length->∀ Q:L2.St->Hp->Prop,
 (∀ σ',Rel G H W ob ρ' σ'->σ'.length=ρ'.length->(∀ j,own j=false->σ'[j]? = σ[j]?)->Q σ' H)->g xs σ H Q
structure Hv {ι:Type} (X:ι->Cx) (G:Gc) (ob own:Nat->Bool) (tg:Expr) (f:D->En->Option En):Prop where
 mk :: (ex:∃ t,(∀ c,PG (X c) tg t)/\GJ G ob own t f)
structure Bw {ι:Type} (X:ι->Cx) (G:Gc) (ob own:Nat->Bool) (tg:List Expr) (f:List D->En->Option En):Prop where
 mk :: (ex:∃ t,(∀ c,PGs (X c) tg t)/\y_ G ob own t f)
def tpN (i:Nat):D->En->Option En:=fun d ρ=>some (ρ.set i (some d))
def tpT (n:Nat) (g:List D->En->Option En):D->En->Option En:=fun d ρ=>match d with
 | .tup ds=>if ds.length=n then g ds ρ else none
 | _=>none
theorem Eb {own:Nat->Bool} {i:Nat} (ho:own i=true):GJ G ob own (wB i) (tpN i):=fun d ρ ρ' e x σ H W r rl hl Q q=>by
 cases e
 refine q _ (fun j d' hj=>?_) (by simp [hl]) fun j hj=>?_
 .by_cases e:i=j
  .subst e
   rw [List.getElem?_set] at hj
   split at hj
   .split at hj
    .rename_i h2
     have:d=d':=by simpa using hj
     subst this
     exact ⟨x,[],by simp [hl,h2],r,fun _ c hc=>by cases hc⟩
    .cases hj
   .exact absurd rfl ‹_›
  .rw [List.getElem?_set_ne e] at hj
   obtain ⟨v,L,h1,h2,h3⟩:=rl j d' hj
   exact ⟨v,L,by rw [List.getElem?_set_ne e]; exact h1,h2,h3⟩
 .have:i≠j:=fun z=>by rw [← z,ho] at hj; cases hj
  rw [List.getElem?_set_ne this]
theorem Ec {own:Nat->Bool}:y_ G ob own Jd aU:=fun ds ρ ρ' e xs σ H W r rl hl Q q=>by
 cases ds with
 | nil=>
  cases e
  obtain ⟨rfl,_⟩:=r.inv0
  exact ⟨rfl,q σ rl hl fun _ _=>rfl⟩
 | cons d r=>cases e
theorem zY {own:Nat->Bool} {t:TG} {u:TGs} {f:D->En->Option En} {g:List D->En->Option En} (h1:GJ G ob own t f) (h2:y_ G ob own u g):y_ G ob own (Hr t u) (aJ f g):=fun ds ρ ρ' e xs σ H W r rl hl Q q=>by
 cases ds with
 | nil=>cases e
 | cons d ds=>
  obtain ⟨x,ys,M1,M2,rfl,hL,hx,hr⟩:=r.inv
  obtain ⟨rfl,rfl⟩:M1=[]/\M2=[]:=by simpa using hL.symm
  simp only [aJ] at e
  cases h3:f d ρ with
  | none=>rw [h3] at e; cases e
  | some ρ1=>
   have e:g ds ρ1=some ρ':=by simpa [h3] using e
   exact ⟨x,ys,rfl,h1 d ρ ρ1 h3 x σ H W hx rl hl _ fun σ1 rl1 hl1 k1=>h2 ds ρ1 ρ' e ys σ1 H W hr rl1 hl1 Q fun σ2 rl2 hl2 k2=>q σ2 rl2 hl2 fun j hj=>(k2 j hj).trans (k1 j hj)⟩
theorem G9 {own:Nat->Bool} {n:Nat} {t:TGs} {g:List D->En->Option En} (h:y_ G ob own t g):GJ G ob own (Mh G.K n t) (tpT n g):=fun d ρ ρ' e x σ H W r rl hl Q q=>by
 cases d with
 | tup ds=>
  simp only [tpT] at e
  split at e
  .rename_i hn
   rw [Rep] at r
   obtain ⟨a,xs,rfl,ht,hr⟩:=r
   exact ⟨a,xs,rfl,SqT.of ht,by rw [← hr.length]; exact hn,h ds ρ ρ' e xs σ H W hr rl hl Q q⟩
  .cases e
 | _=>cases e
end
section
variable {ι:Type} {X:ι->Cx} {G:Gc} {ob own:Nat->Bool}
theorem dH (i:Nat) {x:Str} {pos:Pos} (hN:∀ c,(X c).N.Nodup) (ho:own i=true:=by rfl) (hi:∀ c,(X c).N[i]? = some x:=by intro _; rfl) (hx:∀ c,Loc (X c).env.scope x:=by intro _; first | exact Or.inl rfl | exact Or.inr rfl) (hf:∀ c,(X c).fn x=true∨(X c).env.scope.names.lookup x=some .local:=by intro _; first | exact .inl rfl | exact .inr rfl):Hv X G ob own (.Name x pos) (tpN i):=⟨_,fun c=>wX (hN c) (hi c) (hx c) (hf c),Eb ho⟩
theorem lM:Bw X G ob own [] aU:=⟨_,fun c=>Cj,Ec⟩
theorem gm {e:Expr} {es:List Expr} {f:D->En->Option En} {g:List D->En->Option En} (h1:Hv X G ob own e f) (h2:Bw X G ob own es g) (hs:∀ c,(assignEach (e :: es) (X c).env).map (·.2)=assign e (X c).env :: (assignEach es (X c).env).map (·.2):=by intro _; rfl):Bw X G ob own (e :: es) (aJ f g):=
 let ⟨t,a1,a2⟩:=h1.ex; let ⟨u,b1,b2⟩:=h2.ex; ⟨_,fun c=>zf (a1 c) (b1 c) (hs c),zY a2 b2⟩
theorem mH {es:List Expr} {k n:Nat} {pos:Pos} {g:List D->En->Option En} (hc:∀ c,(X c).calm=true) (h:Bw X G ob own es g) (hn:∀ c,(assignEach es (X c).env).length=n:=by intro _; rfl) (hst:∀ c,(assignEach es (X c).env).findIdx? (·.1)=none:=by intro _; rfl) (hK:∀ c,(X c).K=G.K:=by intro _; rfl):Hv X G ob own (.Tuple es k pos) (tpT n g):=
 let ⟨t,a1,a2⟩:=h.ex; ⟨_,fun c=>(by rw [← hK c]; exact Eu (hc c) (a1 c) (hn c) (hst c)),G9 a2⟩
structure Gr {ι:Type} (X:ι->Cx) (G:Gc) (ob:Nat->Bool) (ifs:List Expr) (f:En->Option Bool):Prop where
 mk :: (ex:∃ t,(∀ c,PTs (X c) ifs t)/\RfT G ob t f)
def eTT:En->Option Bool:=fun _=>some true
theorem iJ:Gr X G ob [] eTT:=⟨_,fun c=>Ia,fun ρ b e σ H W rl w Q q=>by cases e; exact q H (Same.refl H)⟩
theorem GK {c:Expr} {f:En->Option Bool} (h:PVT X G ob c f):Gr X G ob [c] f:=let ⟨t,a1,a2⟩:=h.ex; ⟨t,fun c=>Ir (a1 c),a2⟩
def kh (tg:D->En->Option En) (c:En->Option Bool) (e:En->Option D) (ρ0:En):List D->Option (List D)
 | []=>some []
 | d :: r=>(tg d ρ0).bind fun ρ1=>(c ρ1).bind fun b=>if b=true then (e ρ1).bind fun x=>(kh tg c e ρ0 r).map fun t=>x :: t else kh tg c e ρ0 r
def bH (cap:List (Option Nat)) (it:En->Option (Bool×List D)) (tg:D->En->Option En) (c:En->Option Bool) (e:En->Option D):En->Option D:=fun ρ=>(it ρ).bind fun p=>if p.2.length<=1000000 then (kh tg c e (dZ cap ρ) p.2).map fun ys=>.lst .own ys else none
theorem six {n:Nat} (h:n<=1000000):n < sizeLine:=Nat.lt_of_le_of_lt h (by decide)
theorem Hy {cap:List (Option Nat)} {σ σ':L2.St} (hc:∀ i:Nat,own i=true->cap[i]?≠none->cap[i]? = some none) (h:∀ j,own j=false->σ'[j]? = (j_ cap σ)[j]?):Kp (j_ cap σ) σ':=fun i v e=>by
 cases ho:own i with
 | false=>rw [h i ho]; exact e
 | true=>
  obtain ⟨j,h1,_⟩:=qd e
  rw [hc i ho (by rw [h1]; simp)] at h1
  cases h1
theorem Cz {cap:List (Option Nat)} {wi:TI} {g:TG} {tt:TT} {te:TE} {it:En->Option (Bool×List D)} {tg:D->En->Option En} {c:En->Option Bool} {e:En->Option D} (hcap:∀ i:Nat,own i=true->cap[i]?≠none->cap[i]? = some none) (hi:RfI G ob wi it) (hg:GJ G (obC cap ob) own g tg) (ht:RfT G (obC cap ob) tt c) (he:RfE G (obC cap ob) te e):RfE G ob (Cy cap wi g tt te) (bH cap it tg c e):=fun ρ d ee σ H W rl w Q q=>by
 unfold bH at ee
 cases h1:it ρ with
 | none=>simp [h1] at ee
 | some p=>
  obtain ⟨b,items⟩:=p
  rw [h1] at ee
  simp only [Option.bind_some] at ee
  split at ee
  .rename_i hlen
   cases h2:kh tg c e (dZ cap ρ) items with
   | none=>simp [h2] at ee
   | some tot=>
    obtain rfl:D.lst .own tot=d:=by simpa [h2] using ee
    refine hi ρ b items h1 σ H W rl w _ fun J H1 s1 wk=>?_
    refine ⟨fun i m ys H2=>i + m=items.length/\ys.length<=i/\∃ acc L rest,Same H1 H2/\aN G H2 (W.add L) acc ys L/\(∀ a∈L,H1 a=none)/\L.Nodup/\WOk H2 (W.add L)/\kh tg c e (dZ cap ρ) (items.drop i)=some rest/\acc++rest=tot,⟨items.length,by omega,by simp,[],[],tot,Same.refl _,.nil,by simp,List.nodup_nil,?_,h2,rfl⟩,?_⟩
    .rw [vN]; exact w.up s1
    rintro i m ys H2 ⟨him,hyi,acc,L,rest,s2,ra,fa,na,wa,hrest,htot⟩
    have up2:Up H1 H2 W (W.add L):=Up.add s2 fa
    .by_cases hil:i < items.length
     .have hdr:=(List.getElem_cons_drop hil).symm
      rw [hdr,kh] at hrest
      refine .inr ⟨wk.go i items[i] (by simp [hil]) H2 _ (LtB.up up2),by have:=six hlen; omega,fun ys' H'=>(i + 1) + (m - 1)=items.length/\ys'.length<=i + 1/\∃ acc L rest,Same H1 H'/\aN G H' (W.add L) acc ys' L/\(∀ a∈L,H1 a=none)/\L.Nodup/\WOk H' (W.add L)/\kh tg c e (dZ cap ρ) (items.drop (i + 1))=some rest/\acc++rest=tot,fun ys' H' h=>⟨m - 1,by omega,h⟩,fun x H3 hy=>?_⟩
      obtain ⟨s3,rx⟩:=wk.yld i items[i] (by simp [hil]) H2 _ (LtB.up up2) x H3 hy
      cases h3:tg items[i] (dZ cap ρ) with
      | none=>simp [h3] at hrest
      | some ρ1=>
       rw [h3] at hrest
       simp only [Option.bind_some] at hrest
       have rl3:Rel G H3 (W.add L) (obC cap ob) (dZ cap ρ) (j_ cap σ):=(rl.cap).up ((Up.same s1).trans (up2.trans (Up.same s3)))
       have ra3:=ra.up (Up.same s3 (W:=W.add L))
       have wa3:WOk H3 (W.add L):=wa.up s3
       refine hg items[i] _ ρ1 h3 x _ H3 (W.add L) rx rl3 (by simp [dZ,j_]) _ fun σ2 rl4 hl4 k4=>⟨Hy hcap k4,?_⟩
       cases h4:c ρ1 with
       | none=>simp [h4] at hrest
       | some bb=>
        rw [h4] at hrest
        simp only [Option.bind_some] at hrest
        refine ht ρ1 bb h4 σ2 H3 (W.add L) rl4 wa3 _ fun H4 s4=>?_
        have rl5:=rl4.up (Up.same s4)
        have wa4:=wa3.up s4
        cases bb with
        | false=>
         simp only [Bool.false_eq_true,if_false] at hrest
         exact xx ⟨by omega,by omega,acc,L,rest,((s2.trans s3).trans s4),ra3.up (Up.same s4),fa,na,wa4,hrest,htot⟩
        | true=>
         simp only [if_true] at hrest
         cases h5:e ρ1 with
         | none=>simp [h5] at hrest
         | some y=>
          cases h6:kh tg c e (dZ cap ρ) (items.drop (i + 1)) with
          | none=>simp [h5,h6] at hrest
          | some rest'=>
           obtain rfl:y :: rest'=rest:=by simpa [h5,h6] using hrest
           refine sX (he ρ1 y h5 σ2 H4 (W.add L) rl5 wa4 _ fun v H5 M s5 ry fy ny=>?_)
           have fM:∀ a∈M,H1 a=none:=fun a ha=>(((s2.trans s3).trans s4)).none' (fy a ha)
           have hLM:∀ a∈L,a∉M:=fun a h1 h2=>by
            obtain ⟨o,ho,_⟩:=(ra3.up (Up.same s4 (W:=W.add L))).dom a h1
            rw [fy a h2] at ho; cases ho
           have u5:Up H4 H5 (W.add L) (W.add (L++M)):=⟨s5,fun b u hb f=>⟨fun z=>z.elim (fun z=>(List.mem_append.mp z).elim (fun z=>f.1 (.inl z)) fun z=>by rw [fy b z] at hb; cases hb) fun z=>f.1 (.inr z),f.2⟩,fun _ _ _ f=>f⟩
           have u6:Up H5 H5 ((W.add L).add M) (W.add (L++M)):=⟨Same.refl _,fun b u hb f=>⟨fun z=>by
            rcases z with z | z
            .exact (List.mem_append.mp z).elim (fun z=>f.1 (.inr (.inl z))) fun z=>f.1 (.inl z)
            .exact f.1 (.inr (.inr z)),f.2⟩,fun _ _ _ f=>f⟩
           refine ⟨by omega,by simp; omega,acc++[y],L++M,rest',((s2.trans s3).trans s4).trans s5,((ra3.up (Up.same s4)).up u5).append (.one (ry.up u6)),fun a ha=>(List.mem_append.mp ha).elim (fa a) (fM a),jc na ny hLM,?_,rfl,by rw [← htot]; simp⟩
           exact w.add (((s1.trans s2).trans s3).trans s4 |>.trans s5) fun a ha=>(List.mem_append.mp ha).elim (fun z=>let ⟨o,h,m⟩:=(ra3.up (Up.same s4 (W:=W.add L))).dom a z; ⟨o,s5 a o h,m⟩) (ry.dom a)
     .have hl:i=items.length:=by omega
      subst hl
      rw [List.drop_length,kh] at hrest
      cases hrest
      refine .inl ⟨wk.stop H2 _ (LtB.up up2),Nat.le_of_lt (six (by omega)),fun p hp=>?_⟩
      have sm:Same H2 (upd H2 p (.lst ys)):=Same.new hp
      rw [List.append_nil] at htot
      subst htot
      refine q (.ref p) _ (p :: L) ((s1.trans s2).trans sm) ?_ (fun a ha=>(List.mem_cons.mp ha).elim (fun z=>by rw [z]; exact (s1.trans s2).none' hp) fun z=>s1.none' (fa a z)) (List.nodup_cons.mpr ⟨fun z=>?_,na⟩)
      .rw [Rep]
       exact ⟨p,ys,L,rfl,ra.up ⟨sm,fun b u hb f=>⟨fun z=>z.elim (fun z=>(List.mem_cons.mp z).elim (fun z=>by rw [z,hp] at hb; cases hb) fun z=>f.1 (.inl z)) fun z=>f.1 (.inr z),f.2⟩,fun _ _ _ f=>f⟩,dg,rfl⟩
      .obtain ⟨o,ho,_⟩:=ra.dom p z
       rw [hp] at ho; cases ho
  .cases ee
end
def pY (cap:List (Option Nat)):Prop:=∀ (i k j:Nat),cap[i]? = some (some j)->cap[k]? = some (some j)->i=k
def nu (cap:List (Option Nat)) (S:Ad):Ad:=fun i=>match cap[i]? with
 | some (some j)=>S j
 | _=>[]
def rQ (cap:List (Option Nat)) (S:Ad) (Fr:Addr->Prop):Addr->Prop:=fun a=>Fr a∨∃ j:Nat,(∀ i:Nat,cap[i]?≠some (some j))/\a∈S j
theorem lg {cap:List (Option Nat)} {S:Ad} {i:Nat} {a:Addr} (h:a∈nu cap S i):∃ j,cap[i]? = some (some j)/\a∈S j:=by
 unfold nu at h
 split at h
 .rename_i j e; exact ⟨j,e,h⟩
 .cases h
theorem xm {cap:List (Option Nat)} {S:Ad} {i j:Nat} (h:cap[i]? = some (some j)):nu cap S i=S j:=by unfold nu; rw [h]
theorem zG {cap:List (Option Nat)} {ob:Nat->Bool} {i j:Nat} (h:cap[i]? = some (some j)):obC cap ob i=ob j:=by unfold obC; rw [h]
section
variable {G:Gc} {ob own:Nat->Bool} {cap:List (Option Nat)}
theorem xO {S:Ad} {Fr:Addr->Prop} {a:Addr}:(wn ob S Fr).free a↔(wn (obC cap ob) (nu cap S) (rQ cap S Fr)).free a:=by
 constructor
 .intro f
  have nS:∀ j,a∉S j:=fun j z=>by
   cases ho:ob j with
   | false=>exact f.2.1 ⟨j,ho,z⟩
   | true=>exact f.2.2 ⟨j,ho,z⟩
  refine ⟨fun z=>z.elim f.1 fun ⟨j,_,z⟩=>nS j z,fun ⟨i,_,z⟩=>?_,fun ⟨i,_,z⟩=>?_⟩
  .obtain ⟨j,_,z⟩:=lg z; exact nS j z
  .obtain ⟨j,_,z⟩:=lg z; exact nS j z
 .intro f
  have nS:∀ j,a∉S j:=fun j z=>by
   by_cases hc:∃ i:Nat,cap[i]? = some (some j)
   .obtain ⟨i,hi⟩:=hc
    have z':a∈nu cap S i:=by rw [xm hi]; exact z
    cases ho:obC cap ob i with
    | false=>exact f.2.1 ⟨i,ho,z'⟩
    | true=>exact f.2.2 ⟨i,ho,z'⟩
   .exact f.1 (.inr ⟨j,fun i hi=>hc ⟨i,hi⟩,z⟩)
  exact ⟨fun z=>f.1 (.inl z),fun ⟨j,_,z⟩=>nS j z,fun ⟨j,_,z⟩=>nS j z⟩
theorem Nu {H:Hp} {S:Ad} {Fr:Addr->Prop} {d:D} {v:V} {L:List Addr} (hc:clean d=true):Rep G H (wn ob S Fr) d v L↔Rep G H (wn (obC cap ob) (nu cap S) (rQ cap S Fr)) d v L:=by
 have hcc:=(by simpa [clean] using hc:aH d=true/\aF d=true)
 constructor
 .intro r
  have ev:Evo H H (wn ob S Fr) (wn (obC cap ob) (nu cap S) (rQ cap S Fr)):=⟨fun b u hb f=>⟨hb,xO.mp f⟩,fun _ _ h=>h⟩
  exact r.mono ev (.inl hcc.1) (.inl hcc.2) fun _ _ _ h=>h
 .intro r
  have ev:Evo H H (wn (obC cap ob) (nu cap S) (rQ cap S Fr)) (wn ob S Fr):=⟨fun b u hb f=>⟨hb,xO.mpr f⟩,fun _ _ h=>h⟩
  exact r.mono ev (.inl hcc.1) (.inl hcc.2) fun _ _ _ h=>h
theorem Sta.inn {H:Hp} {ρ:En} {σ:L2.St} {S:Ad} {Fr:Addr->Prop} (hj:pY cap) (s:Sta G H ob ρ σ S Fr):Sta G H (obC cap ob) (dZ cap ρ) (j_ cap σ) (nu cap S) (rQ cap S Fr) where
 len:=by simp [dZ,j_]
 sl:=fun i d e=>by
  obtain ⟨j,h1,h2⟩:=qd e
  obtain ⟨v,q1,q2,q3⟩:=s.sl j d h2
  exact ⟨v,xM h1 q1,by rw [xm h1]; exact (Nu q3).mp q2,q3⟩
 em:=fun i h=>by
  unfold nu
  split
  .rename_i j e
   exact s.em j fun d hd=>h d (xM e hd)
  .rfl
 nd:=fun i=>by
  unfold nu
  split
  .exact s.nd _
  .exact List.nodup_nil
 dj:=fun i k a h1 h2=>by
  obtain ⟨j1,e1,z1⟩:=lg h1
  obtain ⟨j2,e2,z2⟩:=lg h2
  have:=s.dj j1 j2 a z1 z2
  subst this
  exact hj i k j1 e1 e2
 fdj:=fun i a h z=>by
  obtain ⟨j,e,z⟩:=lg z
  rcases h with h | ⟨k,hk,h⟩
  .exact s.fdj j a h z
  .have:=s.dj j k a z h
   subst this
   exact hk i e
 fdm:=fun a h=>by
  rcases h with h | ⟨k,_,h⟩
  .exact s.fdm a h
  .exact s.mu h
def bK:List (Option Nat)->En->En->En
 | some j :: cs,d :: ds,ρ=>bK cs ds (ρ.set j d)
 | none :: cs,_ :: ds,ρ=>bK cs ds ρ
 | _,_,ρ=>ρ
theorem pq:∀ (cap:List (Option Nat)) (ds ρ:En),(bK cap ds ρ).length=ρ.length
 | [],ds,ρ=>by cases ds <;> rfl
 | some j :: cs,[],ρ=>rfl
 | none :: cs,[],ρ=>rfl
 | some j :: cs,d :: ds,ρ=>by rw [bK,pq cs ds]; simp
 | none :: cs,d :: ds,ρ=>by rw [bK,pq cs ds]
theorem oN:∀ {cap:List (Option Nat)} {ds ρ:En} {j:Nat},(∀ i:Nat,cap[i]?≠some (some j))->(bK cap ds ρ)[j]? = ρ[j]?
 | [],ds,ρ,j,_=>by cases ds <;> rfl
 | some k :: cs,[],ρ,j,_=>rfl
 | none :: cs,[],ρ,j,_=>rfl
 | some k :: cs,d :: ds,ρ,j,h=>by
  rw [bK,oN fun i e=>h (i + 1) (by simpa using e),List.getElem?_set_ne fun z=>h 0 (by simp [z])]
 | none :: cs,d :: ds,ρ,j,h=>by rw [bK,oN fun i e=>h (i + 1) (by simpa using e)]
theorem qg:∀ {cap:List (Option Nat)} {ds ρ:En} {i j:Nat} {x:Option D},pY cap->cap[i]? = some (some j)->ds[i]? = some x->j < ρ.length->(bK cap ds ρ)[j]? = some x
 | [],ds,ρ,i,j,x,_,h,_,_=>by simp at h
 | some k :: cs,[],ρ,i,j,x,_,_,h,_=>by simp at h
 | none :: cs,[],ρ,i,j,x,_,_,h,_=>by simp at h
 | some k :: cs,d :: ds,ρ,i,j,x,hj,h1,h2,hl=>by
  rw [bK]
  cases i with
  | zero=>
   have e1:k=j:=by simpa using h1
   have e2:d=x:=by simpa using h2
   subst e1 e2
   rw [oN fun i e=>?_]
   .simp [hl]
   .have:=hj 0 (i + 1) k (by simp) (by simpa using e)
    omega
  | succ i=>exact qg (fun a b c h1 h2=>by have:=hj (a + 1) (b + 1) c (by simpa using h1) (by simpa using h2); omega) (by simpa using h1) (by simpa using h2) (by simpa using hl)
 | none :: cs,d :: ds,ρ,i,j,x,hj,h1,h2,hl=>by
  rw [bK]
  cases i with
  | zero=>simp at h1
  | succ i=>exact qg (fun a b c h1 h2=>by have:=hj (a + 1) (b + 1) c (by simpa using h1) (by simpa using h2); omega) (by simpa using h1) (by simpa using h2) hl
def tR (cap:List (Option Nat)) (Si S:Ad):Ad:=fun j=>match cap.findIdx? (fun o=>o == some j) with
 | some i=>Si i
 | none=>S j
theorem jZ {Si S:Ad} {i j:Nat} (hj:pY cap) (h:cap[i]? = some (some j)):tR cap Si S j=Si i:=by
 unfold tR
 split
 .rename_i k e
  obtain ⟨h1,h2,_⟩:=List.findIdx?_eq_some_iff_getElem.mp e
  have:cap[k]=some j:=by simpa using h2
  rw [hj i k j h (by rw [List.getElem?_eq_getElem h1,this])]
 .rename_i e
  have:=List.findIdx?_eq_none_iff.mp e (some j) (List.mem_of_getElem? h)
  simp at this
theorem jU {Si S:Ad} {j:Nat} (h:∀ i:Nat,cap[i]?≠some (some j)):tR cap Si S j=S j:=by
 unfold tR
 split
 .rename_i k e
  obtain ⟨h1,h2,_⟩:=List.findIdx?_eq_some_iff_getElem.mp e
  have:cap[k]=some j:=by simpa using h2
  exact absurd (by rw [List.getElem?_eq_getElem h1,this]) (h k)
 .rfl
theorem ju (cap:List (Option Nat)) (j:Nat):(∃ i:Nat,cap[i]? = some (some j))∨(∀ i:Nat,cap[i]?≠some (some j)):=by
 by_cases h:∃ i:Nat,cap[i]? = some (some j)
 .exact .inl h
 .exact .inr fun i z=>h ⟨i,z⟩
theorem Sta.out {H H':Hp} {ρ ρi:En} {σ σi:L2.St} {S Si:Ad} {Fr:Addr->Prop} {M:List Addr} (hj:pY cap) (s:Sta G H ob ρ σ S Fr) (ho:∀ i:Nat,cap[i]? = some none->True) (hk:∀ i j:Nat,cap[i]? = some (some j)->σi[i]? = (j_ cap σ)[i]?)
  (si:Sta G H' (obC cap ob) ρi σi Si (plus M (rQ cap S Fr))) (ef:Eff (obC cap ob) H H' (nu cap S) Si M):Sta G H' ob (bK cap ρi ρ) σ (tR cap Si S) (plus M Fr)/\Eff ob H H' S (tR cap Si S) M/\
   (∀ d v L,clean d=true->Rep G H' (wn (obC cap ob) Si (plus M (rQ cap S Fr))) d v L->Rep G H' (wn ob (tR cap Si S) (plus M Fr)) d v L):=by
 have inO1:∀ {a},inO (obC cap ob) (nu cap S) a->inO ob S a:=fun {a} ⟨i,h1,h2⟩=>by
  obtain ⟨j,e,z⟩:=lg h2
  exact ⟨j,by rw [← zG (ob:=ob) e]; exact h1,z⟩
 have eff:Eff ob H H' S (tR cap Si S) M:=by
  refine ⟨fun b u hb n=>ef.kp b u hb fun z=>n (inO1 z),fun j hob=>?_,fun j a hob z=>?_,fun a ha=>(ef.fm a ha).imp inO1 id⟩
  .rcases ju cap j with ⟨i,hi⟩ | hn
   .rw [jZ hj hi,ef.sn i (by rw [zG hi]; exact hob),xm hi]
   .exact jU hn
  .rcases ju cap j with ⟨i,hi⟩ | hn
   .rw [jZ hj hi] at z
    exact (ef.gr i a (by rw [zG hi]; exact hob) z).imp inO1 id
   .rw [jU hn] at z; exact .inl ⟨j,hob,z⟩
 have hfree:∀ a,(wn (obC cap ob) Si (plus M (rQ cap S Fr))).free a->(wn ob (tR cap Si S) (plus M Fr)).free a:=fun a f=>by
  have nS:∀ j,a∉tR cap Si S j:=fun j z=>by
   rcases ju cap j with ⟨i,hi⟩ | hn
   .rw [jZ hj hi] at z
    cases hoi:obC cap ob i with
    | false=>exact f.2.1 ⟨i,hoi,z⟩
    | true=>exact f.2.2 ⟨i,hoi,z⟩
   .rw [jU hn] at z
    exact f.1 (.inr (.inr ⟨j,hn,z⟩))
  exact ⟨fun z=>z.elim (fun z=>f.1 (.inl z)) fun z=>f.1 (.inr (.inl z)),fun ⟨j,_,z⟩=>nS j z,fun ⟨j,_,z⟩=>nS j z⟩
 have conv:∀ d v L,clean d=true->Rep G H' (wn (obC cap ob) Si (plus M (rQ cap S Fr))) d v L->Rep G H' (wn ob (tR cap Si S) (plus M Fr)) d v L:=fun d v L hc r=>by
  have hcc:=(by simpa [clean] using hc:aH d=true/\aF d=true)
  have ev:Evo H' H' (wn (obC cap ob) Si (plus M (rQ cap S Fr))) (wn ob (tR cap Si S) (plus M Fr)):=⟨fun b u hb f=>⟨hb,hfree b f⟩,fun _ _ h=>h⟩
  exact r.mono ev (.inl hcc.1) (.inl hcc.2) fun _ _ _ h=>h
 have notin:∀ {j a},(∀ i:Nat,cap[i]?≠some (some j))->a∈S j->∀ i,a∉Si i:=fun {j a} hn z i y=>si.fdj i a (.inr (.inr ⟨j,hn,z⟩)) y
 refine ⟨⟨by rw [pq]; exact s.len,fun j d hd=>?_,fun j hd=>?_,fun j=>?_,fun j k a h1 h2=>?_,fun j a h z=>?_,fun a h=>?_⟩,eff,conv⟩
 .rcases ju cap j with ⟨i,hi⟩ | hn
  .have hjl:j < ρ.length:=by
    have:=(List.getElem?_eq_some_iff.mp hd).1
    rwa [pq] at this
   cases hx:ρi[i]? with
   | none=>
    have h1:ρi.length<=i:=List.getElem?_eq_none_iff.mp hx
    have h2:σi.length<=i:=by rw [← si.len]; exact h1
    have h3:=hk i j hi
    rw [List.getElem?_eq_none_iff.mpr h2] at h3
    have h4:(j_ cap σ).length<=i:=List.getElem?_eq_none_iff.mp h3.symm
    have h5:i < cap.length:=(List.getElem?_eq_some_iff.mp hi).1
    simp [j_] at h4
    omega
   | some x=>
    rw [qg hj hi hx hjl] at hd
    cases hd
    obtain ⟨v,q1,q2,q3⟩:=si.sl i d hx
    rw [hk i j hi] at q1
    obtain ⟨j',e1,e2⟩:=qd q1
    rw [hi] at e1
    cases e1
    exact ⟨v,e2,by rw [jZ hj hi]; exact conv _ _ _ q3 q2,q3⟩
  .rw [oN hn] at hd
   obtain ⟨v,q1,q2,q3⟩:=s.sl j d hd
   refine ⟨v,q1,?_,q3⟩
   rw [jU hn]
   have hcc:=(by simpa [clean] using q3:aH d=true/\aF d=true)
   refine q2.mono (eff.evo s) (.inl hcc.1) (.inl hcc.2) fun c hc u hu=>?_
   exact ef.kp c u hu fun ⟨i,_,z⟩=>by
    obtain ⟨k,e,z⟩:=lg z
    have:=s.dj j k c hc z
    subst this
    exact hn i e
 .rcases ju cap j with ⟨i,hi⟩ | hn
  .rw [jZ hj hi]
   refine si.em i fun d hdi=>?_
   by_cases hjl:j < ρ.length
   .exact hd d (qg hj hi hdi hjl)
   .
    obtain ⟨v,q1,_⟩:=si.sl i d hdi
    rw [hk i j hi] at q1
    obtain ⟨j',e1,e2⟩:=qd q1
    rw [hi] at e1
    cases e1
    have:=(List.getElem?_eq_some_iff.mp e2).1
    rw [← s.len] at this
    exact hjl this
  .rw [jU hn]
   exact s.em j fun d=>by have:=hd d; rwa [oN hn] at this
 .rcases ju cap j with ⟨i,hi⟩ | hn
  .rw [jZ hj hi]; exact si.nd i
  .rw [jU hn]; exact s.nd j
 .rcases ju cap j with ⟨i,hi⟩ | hn <;> rcases ju cap k with ⟨i',hi'⟩ | hn'
  .rw [jZ hj hi] at h1
   rw [jZ hj hi'] at h2
   have:=si.dj i i' a h1 h2
   subst this
   rw [hi] at hi'
   cases hi'
   rfl
  .rw [jZ hj hi] at h1
   rw [jU hn'] at h2
   exact absurd h1 (notin hn' h2 i)
  .rw [jU hn] at h1
   rw [jZ hj hi'] at h2
   exact absurd h2 (notin hn h1 i')
  .rw [jU hn] at h1
   rw [jU hn'] at h2
   exact s.dj j k a h1 h2
 .rcases ju cap j with ⟨i,hi⟩ | hn
  .rw [jZ hj hi] at z
   exact si.fdj i a (h.imp id .inl) z
  .rw [jU hn] at z
   rcases h with h | h
   .rcases ef.fm a h with y | y
    .obtain ⟨k,_,y⟩:=inO1 y
     have:=s.dj j k a z y
     subst this
     obtain ⟨i,hi,y'⟩:∃ i,obC cap ob i=true/\a∈nu cap S i:=by assumption
     obtain ⟨k',e,y'⟩:=lg y'
     have:=s.dj j k' a z y'
     subst this
     exact hn i e
    .obtain ⟨o,ho,_⟩:=s.mu z
     rw [y] at ho; cases ho
   .exact s.fdj j a h z
 .rcases h with h | h
  .exact si.fdm a (.inl h)
  .exact si.fdm a (.inr (.inl h))
end
section
variable {ι:Type} {X:ι->Cx} {G:Gc} {ob own:Nat->Bool}
def Nv (G:Gc) (ob own:Nat->Bool) (g:TG) (f:D->En->Option En):Prop:=∀ (d:D) (ρ ρ':En),f d ρ=some ρ'->∀ (x:V) (σ:L2.St) (H:Hp) (S:Ad) (Fr:Addr->Prop),Sta G H ob ρ σ S Fr->(∀ i,own i=true->S i=[])->Rep G H (wn ob S Fr) d x []->∀ Q:L2.St->Hp->Prop,
 (∀ σ',Sta G H ob ρ' σ' S Fr->(∀ j,own j=false->σ'[j]? = σ[j]?)->Q σ' H)->g x σ H Q
theorem De {i:Nat} (ho:own i=true):Nv G ob own (wB i) (tgN i):=fun d ρ ρ' e x σ H S Fr s hS r Q q=>by
 unfold tgN at e
 split at e
 .rename_i hc
  cases e
  refine q _ ⟨by simp [s.len],fun j d' hj=>?_,fun j hj=>?_,s.nd,s.dj,s.fdj,s.fdm⟩ fun j hj=>?_
  .by_cases ej:i=j
   .subst ej
    rw [List.getElem?_set] at hj
    split at hj
    .split at hj
     .rename_i h2
      have:d=d':=by simpa using hj
      subst this
      exact ⟨x,by simp [← s.len,h2],by rw [hS i ho]; exact r,hc⟩
     .cases hj
    .exact absurd rfl ‹_›
   .rw [List.getElem?_set_ne ej] at hj
    obtain ⟨v,h1,h2,h3⟩:=s.sl j d' hj
    exact ⟨v,by rw [List.getElem?_set_ne ej]; exact h1,h2,h3⟩
  .by_cases ej:i=j
   .subst ej; exact hS i ho
   .exact s.em j fun d'=>by have:=hj d'; rwa [List.getElem?_set_ne ej] at this
  .have:i≠j:=fun z=>by rw [← z,ho] at hj; cases hj
   rw [List.getElem?_set_ne this]
 .cases e
structure Qm {ι:Type} (X:ι->Cx) (G:Gc) (ob own:Nat->Bool) (tg:Expr) (f:D->En->Option En):Prop where
 mk :: (ex:∃ t,(∀ c,PG (X c) tg t)/\Nv G ob own t f)
theorem DQ (i:Nat) {x:Str} {pos:Pos} (hN:∀ c,(X c).N.Nodup) (ho:own i=true:=by rfl) (hi:∀ c,(X c).N[i]? = some x:=by intro _; rfl) (hx:∀ c,Loc (X c).env.scope x:=by intro _; first | exact Or.inl rfl | exact Or.inr rfl) (hf:∀ c,(X c).fn x=true∨(X c).env.scope.names.lookup x=some .local:=by intro _; first | exact .inl rfl | exact .inr rfl):Qm X G ob own (.Name x pos) (tgN i):=⟨_,fun c=>wX (hN c) (hi c) (hx c) (hf c),De ho⟩
def l_ (cap:List (Option Nat)) (tg:D->En->Option En) (c:En->Option Bool) (e:En->Option (D×En)):List D->En->Option (List D×En)
 | [],ρ=>some ([],ρ)
 | d :: r,ρ=>(tg d (dZ cap ρ)).bind fun ρ1=>(c ρ1).bind fun b=>if b=true then (e ρ1).bind fun p=>if clean p.1=true then (l_ cap tg c e r (bK cap p.2 ρ)).map fun t=>(p.1 :: t.1,t.2) else none else l_ cap tg c e r ρ
def bF (cap:List (Option Nat)) (it:En->Option (Bool×List D)) (tg:D->En->Option En) (c:En->Option Bool) (e:En->Option (D×En)):En->Option (D×En):=fun ρ=>(it ρ).bind fun p=>if p.1=true/\p.2.length<=1000000 then (l_ cap tg c e p.2 ρ).map fun t=>(.lst .own t.1,t.2) else none
theorem Hb {cap:List (Option Nat)} {wi:TI} {g:TG} {tt:TT} {te:TE} {it:En->Option (Bool×List D)} {tg:D->En->Option En} {c:En->Option Bool} {e:En->Option (D×En)} (hj:pY cap) (hcap:∀ i:Nat,own i=true->cap[i]?≠none->cap[i]? = some none) (hi:RfI G ob wi it) (hg:Nv G (obC cap ob) own g tg) (ht:RfT G (obC cap ob) tt c) (he:mF G (obC cap ob) te e) :
  mF G ob (Cy cap wi g tt te) (bF cap it tg c e):=fun ρ d ρ' ee σ H S Fr s Q q=>by
 unfold bF at ee
 cases h1:it ρ with
 | none=>simp [h1] at ee
 | some p=>
  obtain ⟨b,items⟩:=p
  rw [h1] at ee
  simp only [Option.bind_some] at ee
  split at ee
  .rename_i hlen
   obtain ⟨hb,hlen⟩:=hlen
   change b=true at hb
   change items.length<=1000000 at hlen
   subst hb
   cases h2:l_ cap tg c e items ρ with
   | none=>simp [h2] at ee
   | some w=>
    obtain ⟨tot,ρf⟩:=w
    obtain ⟨rfl,rfl⟩:D.lst .own tot=d/\ρf=ρ':=by simpa [h2] using ee
    refine hi ρ true items h1 σ H _ s.rel s.wok _ fun J H1 sm wk=>?_
    have s1:Sta G H1 ob ρ σ S Fr:=s.grow sm fun a z=>.inl z
    have e1:Eff ob H H1 S S []:=⟨fun b u h _=>sm b u h,fun _ _=>rfl,fun i a h z=>.inl ⟨i,h,z⟩,by simp⟩
    refine ⟨fun i m ys H2=>i + m=items.length/\ys.length<=i/\∃ ρ2 S2 acc L rest,Sta G H2 ob ρ2 σ S2 (plus L Fr)/\aN G H2 (wn ob S2 (plus L Fr)) acc ys L/\L.Nodup/\aD acc=true/\aG acc=true/\Eff ob H1 H2 S S2 L/\l_ cap tg c e (items.drop i) ρ2=some (rest,ρf)/\acc++rest=tot,
     ⟨items.length,by omega,by simp,ρ,S,[],[],tot,by rw [lr]; exact s1,.nil,List.nodup_nil,rfl,rfl,.refl,h2,rfl⟩,?_⟩
    rintro i m ys H2 ⟨him,hyi,ρ2,S2,acc,L,rest,s2,ra,na,ca1,ca2,ef,hrest,htot⟩
    have lt:LtB true H1 (wn ob S Fr) H2 (wn (obC cap ob) (nu cap S2) (rQ cap S2 (plus L Fr))):=sX ⟨fun b u hb f=>let ⟨h1,h2⟩:=(ef.evo s1).k b u hb f; ⟨h1,xO.mp h2⟩,(ef.evo s1).t⟩
    by_cases hil:i < items.length
    .have hdr:=(List.getElem_cons_drop hil).symm
     rw [hdr,l_] at hrest
     refine .inr ⟨wk.go i items[i] (by simp [hil]) H2 _ lt,by have:=six hlen; omega,fun ys' H'=>(i + 1) + (m - 1)=items.length/\ys'.length<=i + 1/\∃ ρ2 S2 acc L rest,Sta G H' ob ρ2 σ S2 (plus L Fr)/\aN G H' (wn ob S2 (plus L Fr)) acc ys' L/\L.Nodup/\aD acc=true/\aG acc=true/\Eff ob H1 H' S S2 L/\l_ cap tg c e (items.drop (i + 1)) ρ2=some (rest,ρf)/\acc++rest=tot,fun ys' H' h=>⟨m - 1,by omega,h⟩,fun x H3 hy=>?_⟩
     obtain ⟨s3,rx⟩:=wk.yld i items[i] (by simp [hil]) H2 _ lt x H3 hy
     have st3:Sta G H3 ob ρ2 σ S2 (plus L Fr):=s2.grow s3 fun a z=>.inl z
     have ef3:Eff ob H1 H3 S S2 L:=ef.same s3 fun c hc=>.inl hc
     have ra3:aN G H3 (wn ob S2 (plus L Fr)) acc ys L:=ra.up (Up.same s3)
     have si:=st3.inn (cap:=cap) hj
     cases h3:tg items[i] (dZ cap ρ2) with
     | none=>simp [h3] at hrest
     | some ρ3=>
      rw [h3] at hrest
      simp only [Option.bind_some] at hrest
      have hSo:∀ k,own k=true->nu cap S2 k=[]:=fun k hk=>by
       unfold nu
       split
       .rename_i j e
        rw [hcap k hk (by rw [e]; simp)] at e
        cases e
       .rfl
      refine hg items[i] _ ρ3 h3 x _ H3 _ (rQ cap S2 (plus L Fr)) si hSo rx _ fun σ4 s4 kpo=>⟨Hy hcap kpo,?_⟩
      cases h4:c ρ3 with
      | none=>simp [h4] at hrest
      | some bb=>
       rw [h4] at hrest
       simp only [Option.bind_some] at hrest
       refine ht ρ3 bb h4 σ4 H3 _ s4.rel s4.wok _ fun H4 s4'=>?_
       have st4:Sta G H4 ob ρ2 σ S2 (plus L Fr):=st3.grow s4' fun a z=>.inl z
       have si4:Sta G H4 (obC cap ob) ρ3 σ4 (nu cap S2) (rQ cap S2 (plus L Fr)):=s4.grow s4' fun a z=>.inl z
       have ef4:Eff ob H1 H4 S S2 L:=ef3.same s4' fun c hc=>.inl hc
       have ra4:aN G H4 (wn ob S2 (plus L Fr)) acc ys L:=ra3.up (Up.same s4')
       cases bb with
       | false=>
        simp only [Bool.false_eq_true,if_false] at hrest
        exact xx ⟨by omega,by omega,ρ2,S2,acc,L,rest,st4,ra4,na,ca1,ca2,ef4,hrest,htot⟩
       | true=>
        simp only [if_true] at hrest
        cases h5:e ρ3 with
        | none=>simp [h5] at hrest
        | some w=>
         obtain ⟨y,ρ5⟩:=w
         rw [h5] at hrest
         simp only [Option.bind_some] at hrest
         split at hrest
         .rename_i hcy
          cases h6:l_ cap tg c e (items.drop (i + 1)) (bK cap ρ5 ρ2) with
          | none=>simp [h6] at hrest
          | some w=>
           obtain ⟨rest',ρf'⟩:=w
           obtain ⟨rfl,rfl⟩:y :: rest'=rest/\ρf'=ρf:=by simpa [h6] using hrest
           refine sX (he ρ3 y ρ5 h5 σ4 H4 _ _ si4 _ fun v H5 M S5 s5 ry ny ef5=>?_)
           have hk5:∀ i j:Nat,cap[i]? = some (some j)->σ4[i]? = (j_ cap σ)[i]?:=fun i j hi=>kpo i (by
            cases ho:own i with
            | false=>rfl
            | true=>rw [hcap i ho (by rw [hi]; simp)] at hi; cases hi)
           obtain ⟨o1,o2,o3⟩:=st4.out hj (fun _ _=>trivial) hk5 s5 ef5
           have hcc:=(by simpa [clean] using hcy:aH y=true/\aF y=true)
           have ra5:=ra4.mono (o2.evo st4) (.inl ca1) (.inl ca2) fun c hc u hu=>o2.keepsF st4 (.inl hc) u hu
           rw [o9] at o1 ra5
           have ry5:=o3 y v M hcy ry
           rw [o9] at ry5
           have hLM:∀ a∈L,a∉M:=fun a z1 z2=>by
            rcases o2.fm a z2 with y | y
            .exact st4.notO (.inl z1) y
            .obtain ⟨o,ho,_⟩:=ra4.dom a z1
             rw [y] at ho; cases ho
           exact ⟨by omega,by simp; omega,bK cap ρ5 ρ2,_,acc++[y],L++M,rest',o1,ra5.append (.one ry5),jc na ny hLM,by rw [aM]; simp [ca1,aD,hcc],by rw [aL]; simp [ca2,aG,hcc],ef4.trans o2,h6,by rw [← htot]; simp⟩
         .cases hrest
    .have hl:i=items.length:=by omega
     subst hl
     rw [List.drop_length,l_] at hrest
     obtain ⟨rfl,rfl⟩:[]=rest/\ρ2=ρf:=by simpa using hrest
     refine .inl ⟨wk.stop H2 _ lt,Nat.le_of_lt (six (by omega)),fun p hp=>?_⟩
     have sm2:Same H2 (upd H2 p (.lst ys)):=Same.new hp
     rw [List.append_nil] at htot
     subst htot
     have np:p∉L:=fun z=>by obtain ⟨o,ho,_⟩:=ra.dom p z; rw [hp] at ho; cases ho
     have hr:Rep G (upd H2 p (.lst ys)) (wn ob S2 (plus (p :: L) Fr)) (.lst .own acc) (.ref p) (p :: L):=by
      rw [Rep]
      exact ⟨p,ys,L,rfl,ra.up ⟨sm2,fun b u hb f=>⟨fun z=>z.elim (fun z=>(List.mem_cons.mp z).elim (fun z=>by rw [z,hp] at hb; cases hb) fun z=>f.1 (.inl z)) fun z=>f.1 (.inr z),f.2⟩,fun _ _ _ f=>f⟩,dg,rfl⟩
     refine q (.ref p) _ (p :: L) S2 (s2.grow sm2 fun a z=>?_) hr (List.nodup_cons.mpr ⟨np,na⟩) ?_
     .rcases z with z | z
      .rcases List.mem_cons.mp z with z | z
       .exact .inr ⟨by rw [z]; exact hp,hr.dom a (by simp [z])⟩
       .exact .inl (.inl z)
      .exact .inl (.inr z)
     .exact (e1.trans ef).same sm2 fun c hc=>(List.mem_cons.mp hc).elim (fun z=>.inr (by rw [z]; exact hp)) fun z=>.inl (by simpa using z)
  .cases ee
section
variable {elt target iter:Expr} {ifs:List Expr} {scope:Scope} {pos pos' pos2:Pos} {N':List Str} {it:En->Option (Bool×List D)} {tg:D->En->Option En} {fc:En->Option Bool}
theorem jV (cap:List (Option Nat)) (own:Nat->Bool) {fe:En->Option D} (hx:∀ c,(X c).xe=NoX) (hc:∀ c,(X c).calm=true) (O:∀ c,gU (X c).env.scope (X c).N N' scope cap) (hcap:∀ i:Nat,own i=true->cap[i]?≠none->cap[i]? = some none) (hi:PVI X G ob target iter it) (hg:Hv (InX X N' scope) G (obC cap ob) own target tg) (ht:Gr (InX X N' scope) G (obC cap ob) ifs fc) (he:PV (InX X N' scope) G (obC cap ob) elt fe)
  (hs:∀ c,∀ x,foldedSetIterable iter (X c).env x=pure x:=by intro _ _; rfl):PV X G ob (.ListComp elt [⟨target,iter,ifs,0⟩] scope pos) (bH cap it tg fc fe):=
 let ⟨_,i1,i2⟩:=hi.ex; let ⟨_,g1,g2⟩:=hg.ex; let ⟨_,t1,t2⟩:=ht.ex; let ⟨_,e1,e2⟩:=he.ex
 ⟨_,fun c=>CK (hx c) (hc c) (O c) (i1 c) (fun C s H fp=>g1 (c,C,s,H,fp)) (fun C s H fp=>t1 (c,C,s,H,fp)) (fun C s H fp=>e1 (c,C,s,H,fp)) (hs c),Cz hcap i2 g2 t2 e2⟩
theorem Hs (cap:List (Option Nat)) (own:Nat->Bool) {fe:En->Option (D×En)} (hx:∀ c,(X c).xe=NoX) (hc:∀ c,(X c).calm=true) (O:∀ c,gU (X c).env.scope (X c).N N' scope cap) (hj:pY cap) (hcap:∀ i:Nat,own i=true->cap[i]?≠none->cap[i]? = some none) (hi:PVI X G ob target iter it) (hg:Qm (InX X N' scope) G (obC cap ob) own target tg) (ht:Gr (InX X N' scope) G (obC cap ob) ifs fc) (he:PVe (InX X N' scope) G (obC cap ob) elt fe)
  (hs:∀ c,∀ x,foldedSetIterable iter (X c).env x=pure x:=by intro _ _; rfl):PVe X G ob (.ListComp elt [⟨target,iter,ifs,0⟩] scope pos) (bF cap it tg fc fe):=
 let ⟨_,i1,i2⟩:=hi.ex; let ⟨_,g1,g2⟩:=hg.ex; let ⟨_,t1,t2⟩:=ht.ex; let ⟨_,e1,e2⟩:=he.ex
 ⟨_,fun c=>CK (hx c) (hc c) (O c) (i1 c) (fun C s H fp=>g1 (c,C,s,H,fp)) (fun C s H fp=>t1 (c,C,s,H,fp)) (fun C s H fp=>e1 (c,C,s,H,fp)) (hs c),Hb hj hcap i2 g2 t2 e2⟩
variable {P:Nat->Bool} {x:Str}
theorem yS (i:Nat) (cap:List (Option Nat)) (own:Nat->Bool) {fe:En->Option D} (hN:∀ c,(X c).N.Nodup) (hx:∀ c,(X c).xe=NoX) (hc:∀ c,(X c).calm=true) (O:∀ c,gU (X c).env.scope (X c).N N' scope cap) (hcap:∀ i:Nat,own i=true->cap[i]?≠none->cap[i]? = some none) (hi:PVI X G ob target iter it) (hg:Hv (InX X N' scope) G (obC cap ob) own target tg) (ht:Gr (InX X N' scope) G (obC cap ob) ifs fc) (he:PV (InX X N' scope) G (obC cap ob) elt fe)
  (hP:P i=false:=by rfl) (hNi:∀ c,(X c).N[i]? = some x:=by intro _; rfl) (hl:∀ c,Loc (X c).env.scope x:=by intro _; first | exact Or.inl rfl | exact Or.inr rfl) (hw:∀ c,swapsWith (.ListComp elt [⟨target,iter,ifs,0⟩] scope pos) (some (.Name x pos')) pos2.line (X c).env=pure true:=by intro _; rfl) (hs:∀ c,∀ x,foldedSetIterable iter (X c).env x=pure x:=by intro _ _; rfl)
  (hf:∀ c,(X c).fn x=true∨(X c).env.scope.names.lookup x=some .local:=by intro _; first | exact .inl rfl | exact .inr rfl):PVS X G ob P (.Assign [.Name x pos'] (.ListComp elt [⟨target,iter,ifs,0⟩] scope pos) pos2) (bW (bH cap it tg fc fe) (tgN i)):=
 let ⟨_,i1,i2⟩:=hi.ex; let ⟨_,g1,g2⟩:=hg.ex; let ⟨_,t1,t2⟩:=ht.ex; let ⟨_,e1,e2⟩:=he.ex
 ⟨_,fun c=>Iu (hx c) (hc c) (hN c) (hNi c) (hl c) (O c) (i1 c) (fun C s H fp=>g1 (c,C,s,H,fp)) (fun C s H fp=>t1 (c,C,s,H,fp)) (fun C s H fp=>e1 (c,C,s,H,fp)) (hw c) (hs c) (hf c),by rw [← Al]; exact oV (yj (Cz hcap i2 g2 t2 e2)) (mV hP)⟩
end
end
section
variable {ι:Type} {X:ι->Cx} {G:Gc}
theorem OpR.or {Y:Cx} {f:Value->Value->Sem Value} {r r':R2} (h:OpR Y f r) (h':OpR Y f r'):OpR Y f (fun x y H Q=>r x y H Q∨r' x y H Q):=fun pins s σ H x y v u Q I rx ry q=>q.elim (h pins s σ H x y v u Q I rx ry) (h' pins s σ H x y v u Q I rx ry)
theorem iD.or {Y:Cx} {f:Value} {r r':List V->Hp->VK->Prop} (h:iD Y f r) (h':iD Y f r'):iD Y f (fun xs H Q=>r xs H Q∨r' xs H Q):=fun pins s σ H xs us Q I rv q=>q.elim (h pins s σ H xs us Q I rv) (h' pins s σ H xs us Q I rv)
theorem gn {H:Hp} {W:Wn} {i:Int}:Rep G H W (.int i) (.int i) []:=by rw [Rep]; exact ⟨rfl,rfl⟩
theorem Cv {H:Hp} {W:Wn} {i:Str}:Rep G H W (.str i) (.str i) []:=by rw [Rep]; exact ⟨rfl,rfl⟩
theorem jn {H:Hp} {W:Wn} {i:Bool}:Rep G H W (.bl i) (.bl i) []:=by rw [Rep]; exact ⟨rfl,rfl⟩
theorem bB {H:Hp} {W:Wn} {i:Int} {v:V} {L:List Addr} (r:Rep G H W (.int i) v L):v = .int i/\L=[]:=by rw [Rep] at r; exact r
theorem fB {H:Hp} {W:Wn} {i:Str} {v:V} {L:List Addr} (r:Rep G H W (.str i) v L):v = .str i/\L=[]:=by rw [Rep] at r; exact r
theorem lN {H:Hp} {W:Wn} {i:Bool} {v:V} {L:List Addr} (r:Rep G H W (.bl i) v L):v = .bl i/\L=[]:=by rw [Rep] at r; exact r
theorem B_ {C:Int->Int->Prop} {g:Int->Int->V} {gD:D->D->Option D} (h:∀ dx dy d,gD dx dy=some d->∃ i j,dx = .int i/\dy = .int j/\C i j/\∀ H W,Rep G H W d (g i j) []):OpV G (rI C g) gD:=fun dx dy d e x y H W Lx Ly rx ry nd hn w Q q=>by
 obtain ⟨i,j,rfl,rfl,hc,hr⟩:=h dx dy d e
 obtain ⟨rfl,rfl⟩:=bB rx
 obtain ⟨rfl,rfl⟩:=bB ry
 exact ⟨i,j,rfl,rfl,hc,q.scal (fun W=>hr H W)⟩
theorem xU {g:Int->Int->V} {gD:D->D->Option D} (h:∀ dx dy d,gD dx dy=some d->∃ i j,dx = .int i/\dy = .int j/\∀ H W,Rep G H W d (g i j) []):OpV G (rI0 g) gD:=fun dx dy d e x y H W Lx Ly rx ry nd hn w Q q=>by
 obtain ⟨i,j,rfl,rfl,hr⟩:=h dx dy d e
 obtain ⟨rfl,rfl⟩:=bB rx
 obtain ⟨rfl,rfl⟩:=bB ry
 exact ⟨i,j,rfl,rfl,q.scal (fun W=>hr H W)⟩
def lA:D->D->Option D
 | .int a,.int b=>some (.int (a - b))
 | _,_=>none
def jE:D->D->Option D
 | .int a,.int b=>if (-(2 ^ 64) < a/\a < 2 ^ 64)∨(-(2 ^ 64) < b/\b < 2 ^ 64) then some (.int (a * b)) else none
 | _,_=>none
def nP:D->D->Option D
 | .int a,.int b=>if 0 < b/\b < 18446744073709551616 then some (.int (a / b)) else none
 | _,_=>none
def lF:D->D->Option D
 | .int a,.int b=>if 0 < b then some (.int (a % b)) else none
 | _,_=>none
def tV:D->D->Option D
 | .int a,.int b=>if 0<=b/\b<=1000000/\a.natAbs < 2 ^ 64 then some (.int (a ^ b.toNat)) else none
 | _,_=>none
theorem oJ:OpB X G (binaryOp .Sub) lA:=⟨_,fun c=>M_,xU fun dx dy d e=>by
 unfold lA at e
 split at e
 .cases e; exact ⟨_,_,rfl,rfl,fun _ _=>gn⟩
 .cases e⟩
theorem j7:OpB X G (binaryOp .Mult) jE:=⟨_,fun c=>Lw,B_ fun dx dy d e=>by
 unfold jE at e
 split at e
 .split at e
  .cases e; exact ⟨_,_,rfl,rfl,‹_›,fun _ _=>gn⟩
  .cases e
 .cases e⟩
theorem tZ:OpB X G (binaryOp .FloorDiv) nP:=⟨_,fun c=>FN,B_ fun dx dy d e=>by
 unfold nP at e
 split at e
 .split at e
  .cases e; exact ⟨_,_,rfl,rfl,‹_›,fun _ _=>gn⟩
  .cases e
 .cases e⟩
theorem lR:OpB X G (binaryOp .Mod) lF:=⟨_,fun c=>La,B_ fun dx dy d e=>by
 unfold lF at e
 split at e
 .split at e
  .cases e; exact ⟨_,_,rfl,rfl,‹_›,fun _ _=>gn⟩
  .cases e
 .cases e⟩
theorem zO:OpB X G (binaryOp .Pow) tV:=⟨_,fun c=>MJ,B_ fun dx dy d e=>by
 unfold tV at e
 split at e
 .split at e
  .cases e; exact ⟨_,_,rfl,rfl,‹_›,fun _ _=>gn⟩
  .cases e
 .cases e⟩
def jt:D->Option D
 | .int a=>some (.int (-a))
 | _=>none
theorem jM:UnB X G (unaryOp .USub) jt:=⟨_,fun c=>Nr,fun dx d e x H W Lx rx nd hn w Q q=>by
 unfold jt at e
 split at e
 .cases e
  obtain ⟨rfl,rfl⟩:=bB rx
  exact ⟨_,rfl,q.scal fun W=>gn⟩
 .cases e⟩
def dh:D->D->Option D
 | .int a,.int b=>some (.int (a + b))
 | .str a,.str b=>if a.length + b.length<=sizeLine then some (.str (a++b)) else none
 | .lst m a,.lst n b=>if m≠.scr/\n≠.scr/\a.length + b.length<=1000000 then some (.lst .own (a++b)) else none
 | .tup a,.tup b=>if a.length + b.length<=1000000 then some (.tup (a++b)) else none
 | _,_=>none
theorem wg {H H':Hp} {W:Wn} {dx dy:List D} {xs ys:List V} {Lx Ly Mx My:List Addr} (hx:aN G H W dx xs Mx) (hy:aN G H W dy ys My) (sx:List.Sublist Mx Lx) (sy:List.Sublist My Ly) (hn:∀ a∈Lx++Ly,W.tmp a) (s:Same H H') (extra:List Addr) (he:∀ a∈extra,H a=none):aN G H' ((W.drop (Lx++Ly)).add (extra++(Mx++My))) (dx++dy) (xs++ys) (Mx++My):=by
 refine (hx.append hy).up ⟨s,fun b u hb f=>⟨fun z=>z.elim (fun z=>?_) fun z=>f.1 z.1,f.2⟩,fun _ _ _ f=>f⟩
 rcases List.mem_append.mp z with z | z
 .rw [he b z] at hb; cases hb
 .rcases List.mem_append.mp z with z | z
  .exact f.1 (hn b (List.mem_append_left _ (sx.subset z))).1
  .exact f.1 (hn b (List.mem_append_right _ (sy.subset z))).1
def Qa (K:PySem.W.Frag):R2:=fun x y H Q=>((rI0 (fun i j=>.int (i + j)) x y H Q∨(∃ i j,x = .str i/\y = .str j/\i.length + j.length<=sizeLine/\Q (.str (i++j)) H))∨Pq x y H Q)∨Hl K x y H Q
theorem JC:OpV G (Qa G.K) dh:=fun dx dy d e x y H W Lx Ly rx ry nd hn w Q q=>by
 unfold dh at e
 split at e
 .cases e
  obtain ⟨rfl,rfl⟩:=bB rx
  obtain ⟨rfl,rfl⟩:=bB ry
  exact .inl (.inl (.inl ⟨_,_,rfl,rfl,q.scal fun _=>gn⟩))
 .split at e
  .cases e
   obtain ⟨rfl,rfl⟩:=fB rx
   obtain ⟨rfl,rfl⟩:=fB ry
   exact .inl (.inl (.inr ⟨_,_,rfl,rfl,‹_›,q.scal fun _=>Cv⟩))
  .cases e
 .rename_i m a n b
  split at e
  .rename_i hc
   cases e
   rw [Rep] at rx ry
   obtain ⟨p,xs,Mx,rfl,hx,sx⟩:=rx
   obtain ⟨p',ys,My,rfl,hy,sy⟩:=ry
   refine .inl (.inr ⟨p,p',xs,ys,rfl,rfl,sx.at hc.1,sy.at hc.2.1,by rw [← hx.length,← hy.length]; exact Nat.le_of_lt (six hc.2.2),fun r hr=>?_⟩)
   have sm:Same H (upd H r (.lst (xs++ys))):=Same.new hr
   have nr:r∉Mx++My:=fun z=>by
    obtain ⟨o,ho,_⟩:=(hx.append hy).dom r z
    rw [hr] at ho; cases ho
   have ndM:(Mx++My).Nodup:=(sx.sub.append sy.sub).nodup nd
   refine q (.ref r) _ (r :: (Mx++My)) sm ?_ (fun c hc=>?_) (List.nodup_cons.mpr ⟨nr,ndM⟩)
   .rw [Rep]
    exact ⟨r,xs++ys,Mx++My,rfl,wg hx hy sx.sub sy.sub hn sm [r] (by simpa using hr),dg,rfl⟩
   .rcases List.mem_cons.mp hc with z | z
    .exact .inr (by rw [z]; exact hr)
    .exact .inl ((sx.sub.append sy.sub).subset z)
  .cases e
 .rename_i a b
  split at e
  .rename_i hc
   cases e
   rw [Rep] at rx ry
   obtain ⟨p,xs,rfl,hp,hx⟩:=rx
   obtain ⟨p',ys,rfl,hp',hy⟩:=ry
   have base:∀ H' p2,Same H H'->H' p2=some (.tup (xs++ys))->Q (.ref p2) H':=fun H' p2 sm hq=>by
    refine q (.ref p2) H' (Lx++Ly) sm ?_ (fun c hc=>.inl hc) nd
    rw [Rep]
    exact ⟨p2,xs++ys,rfl,hq,wg hx hy (List.Sublist.refl _) (List.Sublist.refl _) hn sm [] (by simp)⟩
   refine .inr ⟨p,p',xs,ys,rfl,rfl,SqT.of hp,SqT.of hp',by rw [← hx.length,← hy.length]; exact Nat.le_of_lt (six hc),fun z=>base H p' (Same.refl H) (by rw [z]; exact hp'),fun _ z=>base H p (Same.refl H) (by rw [z,List.append_nil]; exact hp),fun _ _ r hr=>base _ r (Same.new hr) dg⟩
  .cases e
 .cases e
theorem cT (hK:∀ c,(X c).K=G.K:=by intro _; rfl):OpB X G (binaryOp .Add) dh:=⟨_,fun c=>by rw [← hK c]; exact OpR.or (OpR.or (OpR.or MN zU) NB) G4,JC⟩
def gLt:D->D->Option D
 | .int a,.int b=>some (.bl (decide (a < b)))
 | .str a,.str b=>some (.bl (decide (a.cps.toList < b.cps.toList)))
 | _,_=>none
def gLe:D->D->Option D
 | .int a,.int b=>some (.bl (decide (a<=b)))
 | _,_=>none
def gGt:D->D->Option D
 | .int a,.int b=>some (.bl (decide (b < a)))
 | _,_=>none
def gGe:D->D->Option D
 | .int a,.int b=>some (.bl (decide (b<=a)))
 | _,_=>none
theorem ye:OpB X G (compareOp .Lt) gLt:=⟨_,fun c=>OpR.or O7 DX,fun dx dy d e x y H W Lx Ly rx ry nd hn w Q q=>by
 unfold gLt at e
 split at e
 .cases e
  obtain ⟨rfl,rfl⟩:=bB rx
  obtain ⟨rfl,rfl⟩:=bB ry
  exact .inl ⟨_,_,rfl,rfl,q.scal fun _=>jn⟩
 .cases e
  obtain ⟨rfl,rfl⟩:=fB rx
  obtain ⟨rfl,rfl⟩:=fB ry
  exact .inr ⟨_,_,rfl,rfl,q.scal fun _=>jn⟩
 .cases e⟩
theorem O6:OpB X G (compareOp .LtE) gLe:=⟨_,fun c=>O8,xU fun dx dy d e=>by
 unfold gLe at e
 split at e
 .cases e; exact ⟨_,_,rfl,rfl,fun _ _=>jn⟩
 .cases e⟩
theorem K3:OpB X G (compareOp .Gt) gGt:=⟨_,fun c=>PK,xU fun dx dy d e=>by
 unfold gGt at e
 split at e
 .cases e; exact ⟨_,_,rfl,rfl,fun _ _=>jn⟩
 .cases e⟩
theorem K4:OpB X G (compareOp .GtE) gGe:=⟨_,fun c=>Px,xU fun dx dy d e=>by
 unfold gGe at e
 split at e
 .cases e; exact ⟨_,_,rfl,rfl,fun _ _=>jn⟩
 .cases e⟩
def sE:D->Bool
 | .non=>true
 | _=>false
def gIs:D->D->Option D
 | x,.non=>some (.bl (sE x))
 | _,_=>none
def Ax:D->D->Option D
 | x,.non=>some (.bl (!sE x))
 | _,_=>none
theorem DR {H:Hp} {W:Wn} {d:D} {v:V} {L:List Addr} (r:Rep G H W d v L):decide (v = .non)=sE d:=by
 cases d <;> rw [Rep] at r
 case non=>obtain ⟨rfl,_⟩:=r; rfl
 case bl=>obtain ⟨rfl,_⟩:=r; rfl
 case int=>obtain ⟨rfl,_⟩:=r; rfl
 case str=>obtain ⟨rfl,_⟩:=r; rfl
 case ty=>obtain ⟨rfl,_⟩:=r; rfl
 case tup=>obtain ⟨a,xs,rfl,_⟩:=r; rfl
 case lst=>obtain ⟨a,xs,M,rfl,_⟩:=r; rfl
 case dct=>obtain ⟨a,xs,M,rfl,_⟩:=r; rfl
 case ins=>obtain ⟨a,C,dx,xs,M,rfl,_⟩:=r; rfl
theorem Ow:OpB X G (compareOp .Is) gIs:=⟨_,fun c=>Lg,fun dx dy d e x y H W Lx Ly rx ry nd hn w Q q=>by
 unfold gIs at e
 split at e
 .cases e
  rw [Rep] at ry
  exact ⟨ry.1,by rw [DR rx]; exact q.scal fun _=>jn⟩
 .cases e⟩
mutual
def dt:D->Dt
 | .non=>.non
 | .bl b=>.bl b
 | .int i=>.int i
 | .str x=>.str x
 | .tup ds=>.tup (dtL ds)
 | .lst _ ds=>.lst (dtL ds)
 | _=>.non
def dtL:List D->List Dt
 | []=>[]
 | d :: r=>dt d :: dtL r
end
mutual
def j5:D->Bool
 | .ty _=>false
 | .dct _ _ _=>false
 | .ins _ _ _ _=>false
 | .tup ds=>lC ds
 | .lst _ ds=>lC ds
 | _=>true
def lC:List D->Bool
 | []=>true
 | d :: r=>j5 d && lC r
end
mutual
theorem Rep.brs {H:Hp} {W:Wn}:∀ {d:D} {v:V} {L:List Addr},Rep G H W d v L->j5 d=true->Brs G.K H (dt d) v
 | .non,v,L,r,_=>by rw [Rep] at r; simp [dt,Brs,r]
 | .bl _,v,L,r,_=>by rw [Rep] at r; simp [dt,Brs,r]
 | .int _,v,L,r,_=>by rw [Rep] at r; simp [dt,Brs,r]
 | .str _,v,L,r,_=>by rw [Rep] at r; simp [dt,Brs,r]
 | .ty _,v,L,r,h=>by cases h
 | .dct _ _ _,v,L,r,h=>by cases h
 | .ins _ _ _ _,v,L,r,h=>by cases h
 | .tup ds,v,L,r,h=>by
  rw [Rep] at r
  obtain ⟨a,xs,rfl,ht,hr⟩:=r
  rw [dt,Brs]
  exact ⟨a,xs,rfl,SqT.of ht,aN.brs hr h⟩
 | .lst m ds,v,L,r,h=>by
  rw [Rep] at r
  obtain ⟨a,xs,M,rfl,hr,hs⟩:=r
  rw [dt,Brs]
  exact ⟨a,xs,rfl,hs.sq,aN.brs hr h⟩
theorem aN.brs {H:Hp} {W:Wn}:∀ {ds:List D} {vs:List V} {L:List Addr},aN G H W ds vs L->lC ds=true->j8 G.K H (dtL ds) vs
 | [],vs,L,r,_=>by obtain ⟨rfl,_⟩:=r.inv0; simp [dtL,j8]
 | d :: r,vs,L,hr,h=>by
  obtain ⟨x,ys,M,M',rfl,rfl,h1,h2⟩:=hr.inv
  rw [lC,Bool.and_eq_true] at h
  rw [dtL,j8]
  exact ⟨x,ys,rfl,Rep.brs h1 h.1,aN.brs h2 h.2⟩
end
def gEq:D->D->Option D:=fun x y=>if j5 x=true/\j5 y=true/\dp (dt x)<=60/\dp (dt y)<=60 then some (.bl (eqD (dt x) (dt y))) else none
def gNe:D->D->Option D:=fun x y=>if j5 x=true/\j5 y=true/\dp (dt x)<=60/\dp (dt y)<=60 then some (.bl (!eqD (dt x) (dt y))) else none
theorem cb_eq (A:Around) (hA:∀ c,(X c).A=A) (hu:A.units + 64 < cLine) (hK:∀ c,(X c).K=G.K:=by intro _; rfl):OpB X G (compareOp .Eq) gEq:=⟨P_ G.K A,fun c=>by rw [← hK c,← hA c]; exact NT,fun dx dy d e x y H W Lx Ly rx ry nd hn w Q q=>by
 unfold gEq at e
 split at e
 .rename_i hc
  cases e
  exact ⟨_,_,rx.brs hc.1,ry.brs hc.2.1,by omega,by omega,q.scal fun _=>jn⟩
 .cases e⟩
theorem my (A:Around) (hA:∀ c,(X c).A=A) (hu:A.units + 64 < cLine) (hK:∀ c,(X c).K=G.K:=by intro _; rfl):OpB X G (compareOp .NotEq) gNe:=⟨Qp G.K A,fun c=>by rw [← hK c,← hA c]; exact Le,fun dx dy d e x y H W Lx Ly rx ry nd hn w Q q=>by
 unfold gNe at e
 split at e
 .rename_i hc
  cases e
  exact ⟨_,_,rx.brs hc.1,ry.brs hc.2.1,by omega,by omega,q.scal fun _=>jn⟩
 .cases e⟩
def gIx:D->D->Option D
 | .lst _ ds,.int i=>atI ds i
 | .tup ds,.int i=>atI ds i
 | .str z,.int i=>if z.length<=sizeLine then (atI z.cps.toList i).map fun c=>.str ⟨#[c]⟩ else none
 | .dct _ ks ds,k=>(mG k).bind fun k=>(lZ ks k).bind fun j=>ds[j]?
 | _,_=>none
theorem Gk {ds:List D} {xs:List V} {i:Int} {d:D} {H:Hp} {W:Wn} {L:List Addr} (hr:aN G H W ds xs L) (e:atI ds i=some d):∃ j:Nat,ds[j]? = some d/\∀ x,xs[j]? = some x->atI xs i=some x:=by
 unfold atI at e ⊢
 rw [← hr.length]
 cases h:ixN ds.length i with
 | none=>simp [h] at e
 | some j=>
  refine ⟨j,by simpa [h] using e,fun x hx=>by simpa using hx⟩
theorem rG {H:Hp} {W:Wn} {d:D} {x:V} {M Lx Ly:List Addr} {Q:VK} (r:Rep G H W d x M) (s:List.Sublist M Lx) (nd:(Lx++Ly).Nodup) (hn:∀ a∈Lx++Ly,W.tmp a) (q:Done G H W (Lx++Ly) d Q):Q x H:=by
 refine q x H M (Same.refl H) (r.up ⟨Same.refl H,fun b u hb f=>⟨fun z=>z.elim (fun z=>f.1 (hn b (List.mem_append_left _ (s.subset z))).1) fun z=>f.1 z.1,f.2⟩,fun _ _ _ f=>f⟩) (fun a ha=>.inl (List.mem_append_left _ (s.subset ha))) (s.nodup (List.nodup_append.mp nd).1)
theorem M6:OpV G (fun x y H Q=>rIx G.K x y H Q∨N8 x y H Q) gIx:=fun dx dy d e x y H W Lx Ly rx ry nd hn w Q q=>by
 unfold gIx at e
 split at e
 .rename_i m ds i
  obtain ⟨rfl,rfl⟩:=bB ry
  rw [Rep] at rx
  obtain ⟨a,xs,M,rfl,hr,hs⟩:=rx
  obtain ⟨j,h1,h2⟩:=Gk hr e
  obtain ⟨z,Mz,h3,h4,h5⟩:=hr.get h1
  exact .inl (.inl ⟨a,xs,i,z,rfl,rfl,hs.sq,h2 z h3,rG h4 (h5.trans hs.sub) nd hn q⟩)
 .rename_i ds i
  obtain ⟨rfl,rfl⟩:=bB ry
  rw [Rep] at rx
  obtain ⟨a,xs,rfl,ht,hr⟩:=rx
  obtain ⟨j,h1,h2⟩:=Gk hr e
  obtain ⟨z,Mz,h3,h4,h5⟩:=hr.get h1
  exact .inl (.inr (.inl ⟨a,xs,i,z,rfl,rfl,SqT.of ht,h2 z h3,rG h4 h5 nd hn q⟩))
 .rename_i z i
  obtain ⟨rfl,rfl⟩:=bB ry
  obtain ⟨rfl,rfl⟩:=fB rx
  split at e
  .rename_i hl
   cases h1:atI z.cps.toList i with
   | none=>simp [h1] at e
   | some c=>
    obtain rfl:D.str ⟨#[c]⟩=d:=by simpa [h1] using e
    exact .inl (.inr (.inr ⟨z,i,c,rfl,rfl,hl,h1,q.scal fun _=>Cv⟩))
  .cases e
 .rename_i m ks ds
  cases hk:mG dy with
  | none=>simp [hk] at e
  | some k=>
   cases hj:lZ ks k with
   | none=>simp [hk,hj] at e
   | some j=>
    have e':ds[j]? = some d:=by simpa [hk,hj] using e
    rw [Rep] at rx
    obtain ⟨a,kvs,M,rfl,⟨rfl,hnd⟩,hr,hs⟩:=rx
    obtain ⟨z,Mz,h3,h4,h5⟩:=hr.get e'
    have hv:=uM hj
    rw [h3] at hv
    refine .inr ⟨a,z,rfl,.inl ⟨kvs,k,hs.rdD,oK ry hk,hv.symm⟩,rG h4 (h5.trans hs.sub) nd hn q⟩
 .cases e
theorem ixb (hu:∀ c,(X c).A.units + 1 < cLine) (hK:∀ c,(X c).K=G.K:=by intro _; rfl):IxB X G gIx:=⟨_,fun c=>by rw [← hK c]; exact NK (hu c),M6⟩
end
section
variable {ι:Type} {X:ι->Cx} {G:Gc}
def scV:D->Option V
 | .non=>some .non
 | .bl b=>some (.bl b)
 | .int i=>some (.int i)
 | .str x=>some (.str x)
 | _=>none
def oh:List D->Option (List V)
 | []=>some []
 | d :: r=>(scV d).bind fun v=>(oh r).map fun t=>v :: t
theorem xg {H:Hp} {W:Wn} {d:D} {v u:V} {L:List Addr} (r:Rep G H W d v L) (h:scV d=some u):v=u/\nO u=true:=by
 cases d <;> simp [scV] at h <;> subst h <;> rw [Rep] at r <;> exact ⟨r.1,rfl⟩
theorem uB {H:Hp} {W:Wn}:∀ {ds:List D} {vs us:List V} {L:List Addr},aN G H W ds vs L->oh ds=some us->vs=us/\us.all nO=true
 | [],vs,us,L,r,h=>by
  cases h
  exact ⟨r.inv0.1,rfl⟩
 | d :: t,vs,us,L,r,h=>by
  obtain ⟨x,ys,M,M',rfl,rfl,h1,h2⟩:=r.inv
  rw [oh] at h
  cases e1:scV d with
  | none=>simp [e1] at h
  | some v=>
   cases e2:oh t with
   | none=>simp [e1,e2] at h
   | some w=>
    obtain rfl:v :: w=us:=by simpa [e1,e2] using h
    obtain ⟨rfl,f1⟩:=xg h1 e1
    obtain ⟨rfl,f2⟩:=uB h2 e2
    exact ⟨rfl,by simp [f1,f2]⟩
def KN (x y:Str):Bool:=!(Builtin.Str.occurrences y x 0 y.length 1).isEmpty
def tu:D->D->Option Bool
 | x,.lst _ ds=>(scV x).bind fun v=>(oh ds).map fun vs=>inV v vs
 | x,.tup ds=>(scV x).bind fun v=>(oh ds).map fun vs=>inV v vs
 | .str x,.str y=>some (KN x y)
 | x,.dct _ ks _=>(mG x).map fun k=>(lZ ks k).isSome
 | _,_=>none
def gIn (x y:D):Option D:=(tu x y).map .bl
def jL (x y:D):Option D:=(tu x y).map fun b=>.bl !b
theorem Ab {Y:Cx} (hu:Y.A.units + 1 < cLine):OpR Y (compareOp .In) (fun x y H Q=>∃ a o,y = .ref a/\qI H a x o/\Q (.bl o.isSome) H):=fun pins s σ H x y v u Q I rx ry h=>by
 obtain ⟨a,o,rfl,g,q⟩:=h
 cases ry
 exact QK hu I g rx fun s3 I3=>⟨.bl o.isSome,H,I3,rfl,q⟩
theorem vH {Y:Cx} (hu:Y.A.units + 1 < cLine):OpR Y (compareOp .NotIn) (fun x y H Q=>∃ a o,y = .ref a/\qI H a x o/\Q (.bl (!o.isSome)) H):=fun pins s σ H x y v u Q I rx ry h=>by
 obtain ⟨a,o,rfl,g,q⟩:=h
 cases ry
 exact JN hu I g rx fun s3 I3=>⟨.bl (!o.isSome),H,I3,rfl,q⟩
theorem Gg {H:Hp} {W:Wn} {dx dy:D} {x y:V} {Lx Ly:List Addr} {b:Bool} (e:tu dx dy=some b) (rx:Rep G H W dx x Lx) (ry:Rep G H W dy y Ly) :
  (∃ p xs,y = .ref p/\(SqL G.K H p xs∨SqT G.K H p xs)/\nO x=true/\xs.all nO=true/\b=inV x xs)∨(∃ i j,x = .str i/\y = .str j/\b=KN i j)∨(∃ a o,y = .ref a/\qI H a x o/\b=o.isSome):=by
 unfold tu at e
 split at e
 .rename_i m ds
  cases e1:scV dx with
  | none=>simp [e1] at e
  | some v=>
   cases e2:oh ds with
   | none=>simp [e1,e2] at e
   | some vs=>
    obtain rfl:inV v vs=b:=by simpa [e1,e2] using e
    rw [Rep] at ry
    obtain ⟨a,xs,M,rfl,hr,hs⟩:=ry
    obtain ⟨rfl,f1⟩:=xg rx e1
    obtain ⟨rfl,f2⟩:=uB hr e2
    exact .inl ⟨a,_,rfl,.inl hs.sq,f1,f2,rfl⟩
 .rename_i ds
  cases e1:scV dx with
  | none=>simp [e1] at e
  | some v=>
   cases e2:oh ds with
   | none=>simp [e1,e2] at e
   | some vs=>
    obtain rfl:inV v vs=b:=by simpa [e1,e2] using e
    rw [Rep] at ry
    obtain ⟨a,xs,rfl,ht,hr⟩:=ry
    obtain ⟨rfl,f1⟩:=xg rx e1
    obtain ⟨rfl,f2⟩:=uB hr e2
    exact .inl ⟨a,_,rfl,.inr (SqT.of ht),f1,f2,rfl⟩
 .cases e
  obtain ⟨rfl,_⟩:=fB rx
  obtain ⟨rfl,_⟩:=fB ry
  exact .inr (.inl ⟨_,_,rfl,rfl,rfl⟩)
 .rename_i m ks ds
  cases e1:mG dx with
  | none=>simp [e1] at e
  | some k=>
   have e':(lZ ks k).isSome=b:=by simpa [e1] using e
   rw [Rep] at ry
   obtain ⟨a,kvs,M,rfl,⟨rfl,hnd⟩,hr,hs⟩:=ry
   refine .inr (.inr ⟨a,nq kvs k,rfl,.inl ⟨kvs,k,hs.rdD,oK rx e1,rfl⟩,?_⟩)
   rw [← e']
   cases hj:lZ (kvs.map (·.1)) k with
   | none=>rw [v6 hj]; rfl
   | some j=>
    rw [uM hj,List.getElem?_eq_getElem (by simpa using tY hj)]
    rfl
 .cases e
def QC (K:PySem.W.Frag):R2:=fun x y H Q=>(rIn K false x y H Q∨(∃ i j,x = .str i/\y = .str j/\Q (.bl (!(Builtin.Str.occurrences j i 0 j.length 1).isEmpty)) H))∨∃ a o,y = .ref a/\qI H a x o/\Q (.bl o.isSome) H
def H_ (K:PySem.W.Frag):R2:=fun x y H Q=>(rIn K true x y H Q∨(∃ i j,x = .str i/\y = .str j/\Q (.bl (!(!(Builtin.Str.occurrences j i 0 j.length 1).isEmpty))) H))∨∃ a o,y = .ref a/\qI H a x o/\Q (.bl (!o.isSome)) H
theorem Ql (hu:∀ c,(X c).A.units + 1 < cLine) (hK:∀ c,(X c).K=G.K:=by intro _; rfl):OpB X G (compareOp .In) gIn:=⟨QC G.K,fun c=>by rw [← hK c]; exact OpR.or (OpR.or DY Dy) (Ab (hu c)),fun dx dy d e x y H W Lx Ly rx ry nd hn w Q q=>by
 unfold gIn at e
 cases h1:tu dx dy with
 | none=>simp [h1] at e
 | some b=>
  obtain rfl:D.bl b=d:=by simpa [h1] using e
  have q0:Q (.bl b) H:=q.scal fun _=>jn
  rcases Gg h1 rx ry with ⟨p,xs,rfl,h2,h3,h4,rfl⟩ | ⟨i,j,rfl,rfl,rfl⟩ | ⟨a,o,rfl,h2,rfl⟩
  .exact .inl (.inl ⟨p,xs,rfl,h2,h3,h4,q0⟩)
  .exact .inl (.inr ⟨i,j,rfl,rfl,q0⟩)
  .exact .inr ⟨a,o,rfl,h2,q0⟩⟩
theorem qF (hu:∀ c,(X c).A.units + 1 < cLine) (hK:∀ c,(X c).K=G.K:=by intro _; rfl):OpB X G (compareOp .NotIn) jL:=⟨H_ G.K,fun c=>by rw [← hK c]; exact OpR.or (OpR.or wV xG) (vH (hu c)),fun dx dy d e x y H W Lx Ly rx ry nd hn w Q q=>by
 unfold jL at e
 cases h1:tu dx dy with
 | none=>simp [h1] at e
 | some b=>
  obtain rfl:D.bl (!b)=d:=by simpa [h1] using e
  have q0:Q (.bl (!b)) H:=q.scal fun _=>jn
  rcases Gg h1 rx ry with ⟨p,xs,rfl,h2,h3,h4,rfl⟩ | ⟨i,j,rfl,rfl,rfl⟩ | ⟨a,o,rfl,h2,rfl⟩
  .exact .inl (.inl ⟨p,xs,rfl,h2,h3,h4,q0⟩)
  .exact .inl (.inr ⟨i,j,rfl,rfl,q0⟩)
  .exact .inr ⟨a,o,rfl,h2,q0⟩⟩
theorem aN.inv1 {H:Hp} {W:Wn} {d:D} {xs:List V} {L:List Addr} (r:aN G H W [d] xs L):∃ x,xs=[x]/\Rep G H W d x L:=by
 obtain ⟨x,ys,M,M',rfl,rfl,h1,h2⟩:=r.inv
 obtain ⟨rfl,rfl⟩:=h2.inv0
 exact ⟨x,rfl,by rw [List.append_nil]; exact h1⟩
theorem aN.inv2 {H:Hp} {W:Wn} {d e:D} {xs:List V} {L:List Addr} (r:aN G H W [d,e] xs L):∃ x y M N,xs=[x,y]/\L=M++N/\Rep G H W d x M/\Rep G H W e y N:=by
 obtain ⟨x,ys,M,M',rfl,rfl,h1,h2⟩:=r.inv
 obtain ⟨y,rfl,h3⟩:=h2.inv1
 exact ⟨x,y,M,M',rfl,rfl,h1,h3⟩
def dI:List D->Option D
 | [.lst _ ds]=>some (.int ds.length)
 | [.tup ds]=>some (.int ds.length)
 | [.str z]=>if z.length<=sizeLine then some (.int z.length) else none
 | [.dct m _ ds]=>if m = .scr then none else some (.int ds.length)
 | _=>none
theorem eG (hK:∀ c,(X c).K=G.K:=by intro _; rfl):CaB X G (.builtin "len") dI:=⟨fun xs H Q=>((∃ p ys,xs=[.ref p]/\(SqL G.K H p ys∨SqT G.K H p ys)/\Q (.int ys.length) H)∨∃ z,xs=[.str z]/\z.length<=sizeLine/\Q (.int z.length) H)∨∃ a kvs,xs=[V.ref a]/\H a=some (.dK kvs)/\Q (.int kvs.length) H,fun c=>by rw [← hK c]; exact iD.or (iD.or xF xr) Do,fun ds d e xs H W L0 r nd hn w Q q=>by
 unfold dI at e
 split at e
 .cases e
  obtain ⟨x,rfl,rx⟩:=r.inv1
  rw [Rep] at rx
  obtain ⟨a,ys,M,rfl,hr,hs⟩:=rx
  exact .inl (.inl ⟨a,ys,rfl,.inl hs.sq,by rw [← hr.length]; exact q.scal fun _=>gn⟩)
 .cases e
  obtain ⟨x,rfl,rx⟩:=r.inv1
  rw [Rep] at rx
  obtain ⟨a,ys,rfl,ht,hr⟩:=rx
  exact .inl (.inl ⟨a,ys,rfl,.inr (SqT.of ht),by rw [← hr.length]; exact q.scal fun _=>gn⟩)
 .split at e
  .cases e
   obtain ⟨x,rfl,rx⟩:=r.inv1
   obtain ⟨rfl,rfl⟩:=fB rx
   exact .inl (.inr ⟨_,rfl,‹_›,q.scal fun _=>gn⟩)
  .cases e
 .split at e
  .cases e
  .cases e
   obtain ⟨x,rfl,rx⟩:=r.inv1
   rw [Rep] at rx
   obtain ⟨a,kvs,M,rfl,hk,hr,hs⟩:=rx
   exact .inr ⟨a,kvs,rfl,hs.at ‹_›,by have:=hr.length; simp at this; rw [← this]; exact q.scal fun _=>gn⟩
 .cases e⟩
def vC:List D->Option D
 | [.int i]=>some (.int (if i < 0 then -i else i))
 | _=>none
theorem Bf:CaB X G (.builtin "abs") vC:=⟨_,fun c=>Gw,fun ds d e xs H W L0 r nd hn w Q q=>by
 unfold vC at e
 split at e
 .cases e
  obtain ⟨x,rfl,rx⟩:=r.inv1
  obtain ⟨rfl,rfl⟩:=bB rx
  exact ⟨_,rfl,q.scal fun _=>gn⟩
 .cases e⟩
def yw:List D->Option D
 | [.int i]=>some (.int i)
 | [.bl k]=>some (.int (if k then 1 else 0))
 | _=>none
theorem Jf:CaB X G (.type "int") yw:=⟨_,fun c=>C_,fun ds d e xs H W L0 r nd hn w Q q=>by
 unfold yw at e
 split at e
 .cases e
  obtain ⟨x,rfl,rx⟩:=r.inv1
  obtain ⟨rfl,rfl⟩:=bB rx
  exact .inl ⟨_,rfl,q.scal fun _=>gn⟩
 .cases e
  obtain ⟨x,rfl,rx⟩:=r.inv1
  obtain ⟨rfl,rfl⟩:=lN rx
  exact .inr ⟨_,rfl,q.scal fun _=>gn⟩
 .cases e⟩
def pL:List D->Option D
 | [.int i,.int j]=>some (.int (if j < i then j else i))
 | _=>none
def Gz:List D->Option D
 | [.int i,.int j]=>some (.int (if j > i then j else i))
 | _=>none
theorem zx (hc:∀ c,(X c).calm=true):CaB X G (.builtin "min") pL:=⟨_,fun c=>Dh (hc c),fun ds d e xs H W L0 r nd hn w Q q=>by
 unfold pL at e
 split at e
 .cases e
  obtain ⟨x,y,M,N,rfl,rfl,rx,ry⟩:=r.inv2
  obtain ⟨rfl,rfl⟩:=bB rx
  obtain ⟨rfl,rfl⟩:=bB ry
  exact ⟨_,_,rfl,q.scal fun _=>gn⟩
 .cases e⟩
theorem rO {H:Hp} {W:Wn} {ds:List D} {xs:List V} {M L0:List Addr} {Q:VK} {p:Addr} (hr:aN G H W ds xs M) (s:List.Sublist M L0) (nd:L0.Nodup) (hn:∀ a∈L0,W.tmp a) (hp:H p=none) (q:Done G H W L0 (.lst .own ds) Q):Q (.ref p) (upd H p (.lst xs)):=by
 have sm:Same H (upd H p (.lst xs)):=Same.new hp
 have np:p∉M:=fun z=>by obtain ⟨o,ho,_⟩:=hr.dom p z; rw [hp] at ho; cases ho
 refine q (.ref p) _ (p :: M) sm ?_ (fun a ha=>(List.mem_cons.mp ha).elim (fun z=>.inr (by rw [z]; exact hp)) fun z=>.inl (s.subset z)) (List.nodup_cons.mpr ⟨np,s.nodup nd⟩)
 rw [Rep]
 exact ⟨p,xs,M,rfl,hr.up ⟨sm,fun b u hb f=>⟨fun z=>z.elim (fun z=>(List.mem_cons.mp z).elim (fun z=>by rw [z,hp] at hb; cases hb) fun z=>f.1 (hn b (s.subset z)).1) fun z=>f.1 z.1,f.2⟩,fun _ _ _ f=>f⟩,dg,rfl⟩
theorem vL {H:Hp} {W:Wn} {ds:List D} {xs:List V} {M L0:List Addr} {Q:VK} {p:Addr} (hr:aN G H W ds xs M) (s:List.Sublist M L0) (nd:L0.Nodup) (hn:∀ a∈L0,W.tmp a) (hp:H p=none) (q:Done G H W L0 (.tup ds) Q):Q (.ref p) (upd H p (.tup xs)):=by
 have sm:Same H (upd H p (.tup xs)):=Same.new hp
 refine q (.ref p) _ M sm ?_ (fun a ha=>.inl (s.subset ha)) (s.nodup nd)
 rw [Rep]
 exact ⟨p,xs,rfl,dg,hr.up ⟨sm,fun b u hb f=>⟨fun z=>z.elim (fun z=>f.1 (hn b (s.subset z)).1) fun z=>f.1 z.1,f.2⟩,fun _ _ _ f=>f⟩⟩
theorem pQ {H:Hp} {W:Wn} {d:D} {x:V} {M L0:List Addr} {Q:VK} (hr:Rep G H W d x M) (s:List.Sublist M L0) (nd:L0.Nodup) (hn:∀ a∈L0,W.tmp a) (q:Done G H W L0 d Q):Q x H:=by
 refine q x H M (Same.refl H) (hr.up ⟨Same.refl H,fun b u hb f=>⟨fun z=>z.elim (fun z=>f.1 (hn b (s.subset z)).1) fun z=>f.1 z.1,f.2⟩,fun _ _ _ f=>f⟩) (fun a ha=>.inl (s.subset ha)) (s.nodup nd)
def nM:List D->Option D
 | [.lst _ ds]=>some (.lst .own ds)
 | [.tup ds]=>some (.lst .own ds)
 | _=>none
def g8:List D->Option D
 | [.lst _ ds]=>some (.tup ds)
 | [.tup ds]=>some (.tup ds)
 | _=>none
theorem uq (hK:∀ c,(X c).K=G.K:=by intro _; rfl):CaB X G (.type "list") nM:=⟨fun xs H Q=>∃ p ys,xs=[.ref p]/\(SqL G.K H p ys∨SqT G.K H p ys)/\∀ l,H l=none->Q (.ref l) (upd H l (.lst ys)),fun c=>by rw [← hK c]; exact xQ,fun ds d e xs H W L0 r nd hn w Q q=>by
 unfold nM at e
 split at e
 .cases e
  obtain ⟨x,rfl,rx⟩:=r.inv1
  rw [Rep] at rx
  obtain ⟨a,ys,M,rfl,hr,hs⟩:=rx
  exact ⟨a,ys,rfl,.inl hs.sq,fun p hp=>rO hr hs.sub nd hn hp q⟩
 .cases e
  obtain ⟨x,rfl,rx⟩:=r.inv1
  rw [Rep] at rx
  obtain ⟨a,ys,rfl,ht,hr⟩:=rx
  exact ⟨a,ys,rfl,.inr (SqT.of ht),fun p hp=>rO hr (List.Sublist.refl _) nd hn hp q⟩
 .cases e⟩
theorem jO (hK:∀ c,(X c).K=G.K:=by intro _; rfl):CaB X G (.type "tuple") g8:=⟨fun xs H Q=>∃ p ys,xs=[.ref p]/\((SqL G.K H p ys/\∀ l,H l=none->Q (.ref l) (upd H l (.tup ys)))∨(SqT G.K H p ys/\Q (.ref p) H)),fun c=>by rw [← hK c]; exact vI,fun ds d e xs H W L0 r nd hn w Q q=>by
 unfold g8 at e
 split at e
 .cases e
  obtain ⟨x,rfl,rx⟩:=r.inv1
  rw [Rep] at rx
  obtain ⟨a,ys,M,rfl,hr,hs⟩:=rx
  exact ⟨a,ys,rfl,.inl ⟨hs.sq,fun p hp=>vL hr hs.sub nd hn hp q⟩⟩
 .cases e
  obtain ⟨x,rfl,rx⟩:=r.inv1
  have rx':=rx
  rw [Rep] at rx
  obtain ⟨a,ys,rfl,ht,hr⟩:=rx
  exact ⟨a,ys,rfl,.inr ⟨SqT.of ht,pQ rx' (List.Sublist.refl _) nd hn q⟩⟩
 .cases e⟩
def tyN:D->Option String
 | .non=>some "NoneType"
 | .bl _=>some "bool"
 | .int _=>some "int"
 | .str _=>some "str"
 | .tup _=>some "tuple"
 | .lst m _=>if m = .scr then none else some "list"
 | .dct m _ _=>if m = .scr then none else some "dict"
 | _=>none
def okT (n:String):Bool:=n == "int" || n == "bool" || n == "str" || n == "list" || n == "tuple"
def isT (t n:String):Bool:=t == n || (t == "bool" && n == "int")
theorem Az {K:PySem.W.Frag} {t n:String} {d:D} (h1:tyN d=some t) (h2:okT n=true):PySem.W.kitOne K (.type t) (.type n)=some (isT t n):=by
 have ht:t = "NoneType" ∨ t = "bool" ∨ t = "int" ∨ t = "str" ∨ t = "tuple" ∨ t = "list" ∨ t = "dict" := by
  cases d <;> simp [tyN] at h1 <;> (try split at h1) <;> simp_all
 have hn:n = "int" ∨ n = "bool" ∨ n = "str" ∨ n = "list" ∨ n = "tuple" := by simpa [okT,or_assoc] using h2
 rcases ht with rfl | rfl | rfl | rfl | rfl | rfl | rfl <;> rcases hn with rfl | rfl | rfl | rfl | rfl <;> with_unfolding_all rfl
theorem zB {H:Hp} {W:Wn} {d:D} {v:V} {L:List Addr} {t:String} (r:Rep G H W d v L) (h:tyN d=some t):nY G.K H v (.type t):=by
 cases d with
 | non=>rw [Rep] at r; obtain ⟨rfl,_⟩:=r; cases h; exact .non
 | bl b=>rw [Rep] at r; obtain ⟨rfl,_⟩:=r; cases h; exact .bl _
 | int b=>rw [Rep] at r; obtain ⟨rfl,_⟩:=r; cases h; exact .int _
 | str b=>rw [Rep] at r; obtain ⟨rfl,_⟩:=r; cases h; exact .str _
 | ty n=>cases h
 | tup ds=>rw [Rep] at r; obtain ⟨a,xs,rfl,ht,hr⟩:=r; cases h; exact .tup ht
 | lst m ds=>
  rw [Rep] at r
  obtain ⟨a,xs,M,rfl,hr,hs⟩:=r
  simp only [tyN] at h
  split at h
  .cases h
  .cases h; exact .lst (hs.at ‹_›)
 | dct m ks ds=>
  rw [Rep] at r
  obtain ⟨a,xs,M,rfl,hk,hr,hs⟩:=r
  simp only [tyN] at h
  split at h
  .cases h
  .cases h; exact .dK (hs.at ‹_›)
 | ins m c fs ds=>cases h
def za:List D->Option (List String)
 | []=>some []
 | .ty n :: r=>(za r).map fun t=>n :: t
 | _ :: _=>none
theorem wj {H:Hp} {W:Wn}:∀ {ds:List D} {vs:List V} {L:List Addr} {ns:List String},aN G H W ds vs L->za ds=some ns->vs=ns.map V.ty
 | [],vs,L,ns,r,h=>by cases h; rw [r.inv0.1]; rfl
 | d :: t,vs,L,ns,r,h=>by
  obtain ⟨x,ys,M,M',rfl,rfl,h1,h2⟩:=r.inv
  cases d <;> simp [za] at h
  obtain ⟨w,h3,rfl⟩:=h
  rw [Rep] at h1
  rw [h1.1,wj h2 h3]
  rfl
theorem uX {K:PySem.W.Frag} {t:String} {d:D} (h1:tyN d=some t):∀ {ns:List String},ns.all okT=true->PySem.W.kitAny K (.type t) (ns.map Value.type)=some (ns.any (isT t))
 | [],_=>rfl
 | n :: r,h=>by
  rw [List.all_cons,Bool.and_eq_true] at h
  rw [List.map_cons,PySem.W.kitAny,Az h1 h.1]
  cases e:isT t n with
  | true=>simp [e]
  | false=>simp only [e]; rw [uX h1 h.2]; simp [e]
def cX:List D->Option D
 | [x,.ty n]=>(tyN x).bind fun t=>if okT n=true then some (.bl (isT t n)) else none
 | [x,.tup ts]=>(tyN x).bind fun t=>(za ts).bind fun ns=>if ns.all okT=true then some (.bl (ns.any (isT t))) else none
 | _=>none
theorem iW (hK:∀ c,(X c).K=G.K:=by intro _; rfl):CaB X G (.builtin "isinstance") cX:=⟨fun xs H Q=>(∃ x n t b,xs=[x,.ty n]/\nY G.K H x t/\PySem.W.kitOne G.K t (.type n)=some b/\Q (.bl b) H)∨∃ x tp tys t b,xs=[x,.ref tp]/\H tp=some (.tup (List.map V.ty tys))/\nY G.K H x t/\PySem.W.kitAny G.K t (tys.map Value.type)=some b/\Q (.bl b) H,fun c=>by rw [← hK c]; exact iD.or zc wJ,fun ds d e xs H W L0 r nd hn w Q q=>by
 unfold cX at e
 split at e
 .rename_i x n
  cases e1:tyN x with
  | none=>simp [e1] at e
  | some t=>
   rw [e1] at e
   simp only [Option.bind_some] at e
   split at e
   .cases e
    obtain ⟨u,v,M,N,rfl,rfl,rx,ry⟩:=r.inv2
    rw [Rep] at ry
    obtain ⟨rfl,_⟩:=ry
    exact .inl ⟨u,n,_,_,rfl,zB rx e1,Az e1 ‹_›,q.scal fun _=>jn⟩
   .cases e
 .rename_i x ts
  cases e1:tyN x with
  | none=>simp [e1] at e
  | some t=>
   cases e2:za ts with
   | none=>simp [e1,e2] at e
   | some ns=>
    rw [e1,e2] at e
    simp only [Option.bind_some] at e
    split at e
    .cases e
     obtain ⟨u,v,M,N,rfl,rfl,rx,ry⟩:=r.inv2
     rw [Rep] at ry
     obtain ⟨a,ys,rfl,ht,hr⟩:=ry
     have:=wj hr e2
     subst this
     exact .inr ⟨u,a,ns,_,_,rfl,ht,zB rx e1,uX e1 ‹_›,q.scal fun _=>jn⟩
    .cases e
 .cases e⟩
end
section
variable {ι:Type} {X:ι->Cx} {G:Gc}
theorem fQ:∀ {ds:List D},(∀ d∈ds,aH d=true)->aD ds=true
 | [],_=>rfl
 | d :: r,h=>by rw [aD,h d (by simp),fQ fun e he=>h e (by simp [he])]; rfl
theorem e_:∀ {ds:List D},(∀ d∈ds,aF d=true)->aG ds=true
 | [],_=>rfl
 | d :: r,h=>by rw [aG,h d (by simp),e_ fun e he=>h e (by simp [he])]; rfl
theorem aN.revL {H:Hp} {W:Wn}:∀ {ds:List D} {xs:List V} {L:List Addr},aN G H W ds xs L->∃ M,aN G H W ds.reverse xs.reverse M/\List.Perm M L
 | [],xs,L,r=>by obtain ⟨rfl,rfl⟩:=r.inv0; exact ⟨[],.nil,.refl _⟩
 | d :: t,xs,L,r=>by
  obtain ⟨x,ys,M,M',rfl,rfl,h1,h2⟩:=r.inv
  obtain ⟨N,h3,pm⟩:=aN.revL h2
  refine ⟨N++M,?_,(pm.append_right M).trans List.perm_append_comm⟩
  rw [List.reverse_cons,List.reverse_cons]
  exact h3.append (.one h1)
theorem aN.takeDrop {H:Hp} {W:Wn} {ds:List D} {xs:List V} {L:List Addr} (h:aN G H W ds xs L) (k:Nat):∃ A B,aN G H W (ds.take k) (xs.take k) A/\aN G H W (ds.drop k) (xs.drop k) B/\L=A++B:=by
 rw [← List.take_append_drop k ds] at h
 obtain ⟨ys,zs,A,B,rfl,rfl,h1,h2⟩:=h.split
 have hl:=h1.length
 by_cases hk:k<=ds.length
 .have hk':ys.length=k:=by rw [← hl,List.length_take]; omega
  refine ⟨A,B,?_,?_,rfl⟩
  .rw [← hk',List.take_left,hk']; exact h1
  .rw [← hk',List.drop_left,hk']; exact h2
 .have e1:ds.take k=ds:=List.take_of_length_le (by omega)
  have e2:ds.drop k=[]:=List.drop_eq_nil_of_le (by omega)
  rw [e1] at h1 hl
  rw [e2] at h2
  obtain ⟨rfl,rfl⟩:=h2.inv0
  refine ⟨A,[],?_,?_,by simp⟩
  .rw [e1,List.append_nil,List.take_of_length_le (by omega)]; exact h1
  .rw [e2,List.append_nil,List.drop_eq_nil_of_le (by omega)]; exact .nil
end
section
variable {ι:Type} {X:ι->Cx} {G:Gc}
def iZ:List Key->List D->List (Key×D)->List Key×List D
 | ks,ds,[]=>(ks,ds)
 | ks,ds,p :: r=>iZ (lq ks ds p.1 p.2).1 (lq ks ds p.1 p.2).2 r
theorem J7 {H:Hp} {W:Wn} {kvs:List (Key×V)} {ds:List D} {M N:List Addr} {k:Key} {d:D} {x:V} (hr:aN G H W ds (List.map (·.2) kvs) M) (hn:(List.map (·.1) kvs).Nodup) (hx:Rep G H W d x N) (nd:(M++N).Nodup) :
  (List.map (·.1) (putK kvs k x)=(lq (List.map (·.1) kvs) ds k d).1/\(List.map (·.1) (putK kvs k x)).Nodup)/\(putK kvs k x).length<=kvs.length + 1/\∃ M',aN G H W (lq (List.map (·.1) kvs) ds k d).2 (List.map (·.2) (putK kvs k x)) M'/\M'.Nodup/\∀ a∈M',a∈M∨a∈N:=by
 have nd':=List.nodup_append.mp nd
 cases hj:lZ (kvs.map (·.1)) k with
 | some j=>
  have hjl:j < ds.length:=by rw [hr.length]; simpa using tY hj
  obtain ⟨A,M1,B,hM0,hset⟩:=hr.set (List.getElem?_eq_getElem hjl) hx
  obtain ⟨p1,p2⟩:=yE (v:=x) hj hn
  have hsub:List.Sublist (A++B) M:=by rw [hM0]; exact (List.Sublist.refl A).append (List.sublist_append_right M1 B)
  have n3:=List.nodup_append.mp (hsub.nodup nd'.1)
  have dis:∀ z∈N,z∉A++B:=fun z h1 h2=>nd'.2.2 z (hsub.subset h2) z h1 rfl
  simp only [lq,hj]
  refine ⟨⟨p1,by rw [p1]; exact hn⟩,?_,A++(N++B),by rw [p2]; exact hset,jc n3.1 (jc nd'.2.1 n3.2.1 fun z h1 h2=>dis z h1 (by simp [h2])) fun z h1 h2=>?_,fun a ha=>?_⟩
  .have:(putK kvs k x).length=kvs.length:=by have:=congrArg List.length p1; simpa using this
   omega
  .rcases List.mem_append.mp h2 with y | y
   .exact dis z y (by simp [h1])
   .exact n3.2.2 z h1 z y rfl
  .simp only [List.mem_append] at ha
   rcases ha with z | z | z
   .exact .inl (hsub.subset (by simp [z]))
   .exact .inr z
   .exact .inl (hsub.subset (by simp [z]))
 | none=>
  simp only [lq,hj]
  have e:putK kvs k x=kvs++[(k,x)]:=vh hj
  rw [e]
  refine ⟨⟨by simp,?_⟩,by simp,M++N,by rw [List.map_append]; exact hr.append (.one hx),nd,fun a ha=>List.mem_append.mp ha⟩
  rw [List.map_append]
  exact List.nodup_append.mpr ⟨hn,by simp,fun a h1 b h2 z=>by
   obtain rfl:b=k:=by simpa using h2
   exact uE hj (z ▸ h1)⟩
theorem vo {H:Hp} {W:Wn}:∀ {es:List (Key×D)} {prs kvs:List (Key×V)} {ds:List D} {M N:List Addr},List.map (·.1) es=List.map (·.1) prs->aN G H W (List.map (·.2) es) (List.map (·.2) prs) N->aN G H W ds (List.map (·.2) kvs) M->(List.map (·.1) kvs).Nodup->(M++N).Nodup->
  (List.map (·.1) (putAll kvs prs)=(iZ (List.map (·.1) kvs) ds es).1/\(List.map (·.1) (putAll kvs prs)).Nodup)/\∃ M',aN G H W (iZ (List.map (·.1) kvs) ds es).2 (List.map (·.2) (putAll kvs prs)) M'/\M'.Nodup/\∀ a∈M',a∈M∨a∈N
 | [],prs,kvs,ds,M,N,hk,h1,h2,hn,nd=>by
  have:prs=[]:=by cases prs with
   | nil=>rfl
   | cons p r=>cases hk
  subst this
  exact ⟨⟨rfl,hn⟩,M,h2,(List.nodup_append.mp nd).1,fun a ha=>.inl ha⟩
 | e :: es,prs,kvs,ds,M,N,hk,h1,h2,hn,nd=>by
  cases prs with
  | nil=>cases hk
  | cons p prs=>
   obtain ⟨x,ys,N1,N2,hxy,rfl,hx,hys⟩:=aN.inv h1
   simp only [List.map_cons,List.cons.injEq] at hk hxy
   obtain ⟨rfl,rfl⟩:=hxy
   have nd0:=List.nodup_append.mp nd
   have ndN:=List.nodup_append.mp nd0.2.1
   have nd1:(M++N1).Nodup:=jc nd0.1 ndN.1 fun a z1 z2=>nd0.2.2 a z1 a (by simp [z2]) rfl
   obtain ⟨⟨q1,q2⟩,q3,M1,q4,q5,q6⟩:=J7 (k:=p.1) h2 hn hx nd1
   have nd2:(M1++N2).Nodup:=jc q5 ndN.2.1 fun a z1 z2=>by
    rcases q6 a z1 with z | z
    .exact nd0.2.2 a z a (by simp [z2]) rfl
    .exact ndN.2.2 a z a z2 rfl
   rw [← hk.1] at q1 q2 q4
   have ih:=vo (es:=es) (prs:=prs) (kvs:=putK kvs e.1 p.2) hk.2 hys q4 q2 nd2
   rw [q1] at ih
   obtain ⟨⟨r1,r2⟩,M',r3,r4,r5⟩:=ih
   have epa:putAll kvs (p :: prs)=putAll (putK kvs e.1 p.2) prs:=by rw [hk.1]; rfl
   rw [epa]
   refine ⟨⟨r1,r2⟩,M',r3,r4,fun a ha=>?_⟩
   rcases r5 a ha with z | z
   .exact (q6 a z).imp id fun z=>by simp [z]
   .exact .inr (by simp [z])
theorem rZ (P:D->Prop):∀ {es:List (Key×D)} {ks:List Key} {ds:List D},(∀ d∈ds,P d)->(∀ p∈es,P p.2)->∀ d∈(iZ ks ds es).2,P d
 | [],ks,ds,h1,h2=>h1
 | p :: r,ks,ds,h1,h2=>by
  rw [iZ]
  refine rZ P (fun d hd=>?_) fun q hq=>h2 q (by simp [hq])
  unfold lq at hd
  split at hd
  .rcases List.mem_or_eq_of_mem_set hd with z | z
   .exact h1 d z
   .rw [z]; exact h2 p (by simp)
  .rcases List.mem_append.mp hd with z | z
   .exact h1 d z
   .obtain rfl:d=p.2:=by simpa using z
    exact h2 p (by simp)
def yW:List D->Option (List (Key×D))
 | []=>some []
 | .tup [k,v] :: r=>(mG k).bind fun k=>(yW r).map fun t=>(k,v) :: t
 | _ :: _=>none
theorem FZ {H:Hp} {W:Wn} {k:D} {x:V} {L:List Addr} {kk:Key} (h:mG k=some kk) (r:Rep G H W k x L):L=[]:=by
 cases k <;> simp [mG] at h <;> rw [Rep] at r <;> exact r.2
theorem zu {H:Hp} {W:Wn}:∀ {ds:List D} {es:List (Key×D)} {ys:List V} {N:List Addr},yW ds=some es->aN G H W ds ys N->∃ prs:List (Key×V),List.map (·.1) es=List.map (·.1) prs/\aN G H W (List.map (·.2) es) (List.map (·.2) prs) N/\prs.length=ys.length/\∀ (j:Nat) (k:Key) (v:V),prs[j]? = some (k,v)->∃ p:Addr,ys[j]? = some (V.ref p)/\H p=some (.tup [kV k,v])
 | [],es,ys,N,h,r=>by
  cases h
  obtain ⟨rfl,rfl⟩:=r.inv0
  exact ⟨[],rfl,.nil,rfl,fun j k v e=>by simp at e⟩
 | d :: r,es,ys,N,h,rr=>by
  unfold yW at h
  split at h
  .rename_i e; cases e
  .rename_i k v t e
   cases e
   cases h1:mG k with
   | none=>simp [h1] at h
   | some k'=>
    cases h2:yW r with
    | none=>simp [h1,h2] at h
    | some w=>
     obtain rfl:(k',v) :: w=es:=by simpa [h1,h2] using h
     obtain ⟨x,zs,N1,N2,rfl,rfl,hx,hz⟩:=rr.inv
     obtain ⟨prs,g1,g2,g3,g4⟩:=zu h2 hz
     rw [Rep] at hx
     obtain ⟨a,xs,rfl,ht,hxs⟩:=hx
     obtain ⟨y1,y2,A,B,rfl,rfl,ry1,ry2⟩:=hxs.inv2
     have hA:=FZ h1 ry1
     subst hA
     have:=oK ry1 h1
     subst this
     refine ⟨(k',y2) :: prs,by simp [g1],.cons ry2 g2,by simp [g3],fun j k v e=>?_⟩
     cases j with
     | zero=>
      simp at e
      obtain ⟨rfl,rfl⟩:=e
      exact ⟨a,rfl,ht⟩
     | succ j=>exact g4 j k v (by simpa using e)
  .cases h
theorem gR.at2 {Kx:Addr->HO->Prop} {H:Hp} {W:Wn} {a:Addr} {o:HO} {m:Mk} {L M:List Addr} (h:gR Kx H W a o m L M) (hm:(m == .scr)=false):H a=some o:=h.at (by intro z; rw [z] at hm; cases hm)
def vp:List D->Option D
 | [.lst m ds]=>if (m == .scr)=false/\ds.length<=50000 then (yW ds).map fun es=>.dct .own (iZ [] [] es).1 (iZ [] [] es).2 else none
 | _=>none
theorem Hf (hc:∀ c,(X c).calm=true):CaB X G (.type "dict") vp:=⟨_,fun c=>tW (hc c),fun ds d e xs H W L0 r nd hn w Q q=>by
 unfold vp at e
 split at e
 .rename_i m ds
  split at e
  .rename_i hm
   cases h1:yW ds with
   | none=>simp [h1] at e
   | some es=>
    obtain rfl:D.dct .own (iZ [] [] es).1 (iZ [] [] es).2=d:=by simpa [h1] using e
    obtain ⟨x,rfl,rx⟩:=r.inv1
    rw [Rep] at rx
    obtain ⟨a,ys,M,rfl,hr,hs⟩:=rx
    obtain ⟨prs,g1,g2,g3,g4⟩:=zu h1 hr
    have ndM:M.Nodup:=hs.sub.nodup nd
    obtain ⟨⟨p1,p2⟩,M',p3,p4,p5⟩:=vo (kvs:=[]) (M:=[]) g1 g2 .nil (by simp) (by simpa using ndM)
    refine ⟨a,ys,prs,rfl,hs.at2 hm.1,g3,by rw [g3,← hr.length]; exact hm.2,g4,fun p hp=>?_⟩
    have sm:Same H (upd H p (.dK (putAll [] prs))):=Same.new hp
    have np:p∉M':=fun z=>by obtain ⟨o,ho,_⟩:=p3.dom p z; rw [hp] at ho; cases ho
    have hML:∀ a∈M',a∈L0:=fun a ha=>(p5 a ha).elim (fun z=>by cases z) fun z=>hs.sub.subset z
    refine q (.ref p) _ (p :: M') sm ?_ (fun a ha=>(List.mem_cons.mp ha).elim (fun z=>.inr (by rw [z]; exact hp)) fun z=>.inl (hML a z)) (List.nodup_cons.mpr ⟨np,p4⟩)
    rw [Rep]
    exact ⟨p,putAll [] prs,M',rfl,⟨p1,p1 ▸ p2⟩,p3.up ⟨sm,fun b u hb f=>⟨fun z=>z.elim (fun z=>(List.mem_cons.mp z).elim (fun z=>by rw [z,hp] at hb; cases hb) fun z=>f.1 (hn b (hML b z)).1) fun z=>f.1 z.1,f.2⟩,fun _ _ _ f=>f⟩,dg,rfl⟩
  .cases e
 .cases e⟩
theorem Dv {ks:List Key} {ds:List D} (h1:aD ds=true) (h2:aG ds=true):clean (.dct .own ks ds)=true:=by simp [clean,aH,aF,h1,h2]
end
section
variable {ι:Type} {X:ι->Cx} {G:Gc} {ob:Nat->Bool}
def eMt (g:D->List D->Option D) (fo:En->Option D) (f:En->Option (List D)):En->Option D:=fun ρ=>(fo ρ).bind fun x=>(f ρ).bind fun ds=>g x ds
theorem Qq {T id:String} {nm:Str} {g:D->List D->Option D} {o e:Expr} {es:List Expr} {apos cpos:Pos} {fo:En->Option D} {f:En->Option (List D)} (m:MtB X G T id g) (pa:PlainAttrs T) (slot:Slot T nm id) (hty:typeOf (.builtin id)=pure (.type "method_descriptor")) (ho:PV X G ob o fo) (ha:PVA X G ob (e :: es) f) (hbase:∀ c,attributeBase o nm (X c).env (eval o (X c).env)=eval o (X c).env:=by intro _; rfl) (hfew:∀ c,((backTo cpos (starEach (e :: es) (X c).env)).all (fun x=>!x.1) && (backToKw cpos (keywordEach [] (X c).env)).all (fun x=>x.1.isSome)
   && decide ((e :: es).length + ([]:List Keyword).length + (if ([]:List Keyword).isEmpty then 0 else 1) < 30))=true:=by intro _; rfl) (hline:(apos.endLine == cpos.line)=true:=by rfl) (hs:∀ c,starEach (e :: es) (X c).env=(false,eval e (X c).env) :: starEach es (X c).env:=by intro _; rfl) (hplain:∀ c,(backTo cpos (starEach es (X c).env)).any (·.1)=false:=by intro _; rfl) (hK:∀ c,(X c).K=G.K:=by intro _; rfl) :
  PV X G ob (.Call (.Attribute o nm apos) (e :: es) [] cpos) (eMt g fo f):=let ⟨r,m1,m2,m3⟩:=m.ex; let ⟨t,a1,a2⟩:=ho.ex; let ⟨u,b1,b2⟩:=ha.ex; ⟨_,fun c=>(by rw [← hK c]; exact Ga pa slot hty (m1 c) (a1 c) (b1 c) (hbase c) (hfew c) hline (hs c) (hplain c)),Qh m2 m3 a2 b2⟩
def wR (a b:Str):Option (List Str):=
 if (decide (a.length < b.length) || decide (Builtin.Str.strKind a < Builtin.Str.strKind b))=false/\(b.length == 0)=false/\(Builtin.Str.occurrences a b 0 a.length (a.length + 1)).isEmpty=false/\a.length<=sizeLine/\(Builtin.Str.partsBetween a (Builtin.Str.occurrences a b 0 a.length (a.length + 1)) b.length).length<=sizeLine
 then some (Builtin.Str.partsBetween a (Builtin.Str.occurrences a b 0 a.length (a.length + 1)) b.length) else none
def um:D->List D->Option D
 | .str a,[.str b]=>(wR a b).map fun l=>.lst .own (l.map D.str)
 | _,_=>none
theorem yM {H:Hp} {W:Wn}:∀ l:List Str,aN G H W (l.map D.str) (l.map V.str) []
 | []=>.nil
 | x :: r=>aN.cons (M:=[]) (M':=[]) (by rw [Rep]; exact ⟨rfl,rfl⟩) (yM r)
theorem CZ:MtB X G "str" "str.split" um:=⟨_,fun c=>FT,fun dx ds d e x xs H W Lx L0 rx r nd hn w Q q=>(by
 unfold um at e
 split at e
 .rename_i a b
  cases h1:wR a b with
  | none=>simp [h1] at e
  | some l=>
   obtain rfl:D.lst .own (l.map D.str)=d:=by simpa [h1] using e
   obtain ⟨y,rfl,ry⟩:=r.inv1
   obtain ⟨rfl,rfl⟩:=fB rx
   obtain ⟨rfl,rfl⟩:=fB ry
   unfold wR at h1
   split at h1
   .rename_i hh
    cases h1
    refine ⟨a,b,_,rfl,rfl,hh.1,hh.2.1,hh.2.2.1,hh.2.2.2.1,rfl,hh.2.2.2.2,fun p hp=>?_⟩
    refine q (.ref p) _ [p] (Same.new hp) ?_ (fun a ha=>.inr (by rw [show a=p by simpa using ha]; exact hp)) (by simp)
    rw [Rep]
    exact ⟨p,_,[],rfl,yM _,dg,rfl⟩
   .cases h1
 .cases e),fun dx ds d e x H W Lx rx=>by
 unfold um at e
 split at e
 .obtain ⟨rfl,rfl⟩:=fB rx
  exact rfl
 .cases e⟩
def RfO (G:Gc) (ob:Nat->Bool) (t:TO) (f:En->Option (Option Int)):Prop:=∀ (ρ:En) (o:Option Int),f ρ=some o->∀ (σ:L2.St) (H:Hp) (W:Wn),Rel G H W ob ρ σ->WOk H W->∀ Q:Option Int->Hp->Prop,(∀ H',Same H H'->Q o H')->t σ H Q
structure PVO {ι:Type} (X:ι->Cx) (G:Gc) (ob:Nat->Bool) (e:Option Expr) (f:En->Option (Option Int)):Prop where
 mk :: (ex:∃ t,(∀ c,PO (X c) e t)/\RfO G ob t f)
def bx:En->Option (Option Int):=fun _=>some none
def bf (f:En->Option D):En->Option (Option Int):=fun ρ=>(f ρ).bind fun d=>match d with
 | .int i=>some (some i)
 | _=>none
theorem dX:PVO X G ob none bx:=⟨_,fun c=>Ij,fun ρ o e σ H W rl w Q q=>by cases e; exact q H (Same.refl H)⟩
theorem dw {e:Expr} {f:En->Option D} (h:PV X G ob e f):PVO X G ob (some e) (bf f):=let ⟨t,a1,a2⟩:=h.ex; ⟨_,fun c=>Jc (a1 c),fun ρ o e σ H W rl w Q q=>by
 unfold bf at e
 cases h1:f ρ with
 | none=>simp [h1] at e
 | some d=>
  rw [h1] at e
  simp only [Option.bind_some] at e
  split at e
  .cases e
   refine a2 ρ _ h1 σ H W rl w _ fun v H' L s r fr nd=>?_
   obtain ⟨rfl,rfl⟩:=bB r
   exact ⟨_,rfl,q H' s⟩
  .cases e⟩
def SlV (G:Gc) (r:V->Option Int->Option Int->Hp->VK->Prop) (g:D->Option Int->Option Int->Option D):Prop:=∀ (dx:D) (lo hi:Option Int) (d:D),g dx lo hi=some d->∀ (x:V) (H:Hp) (W:Wn) (Lx:List Addr),Rep G H W dx x Lx->Lx.Nodup->(∀ a∈Lx,W.tmp a)->WOk H W->∀ Q:VK,Done G H W Lx d Q->r x lo hi H Q
structure SlB {ι:Type} (X:ι->Cx) (G:Gc) (g:D->Option Int->Option Int->Option D):Prop where
 ex:∃ r,(∀ c,SlR (X c) r)/\SlV G r g
def fY (g:D->Option Int->Option Int->Option D) (f:En->Option D) (fl fh:En->Option (Option Int)):En->Option D:=fun ρ=>(f ρ).bind fun x=>(fl ρ).bind fun l=>(fh ρ).bind fun h=>g x l h
def cG (g:D->Option Int->Option Int->Option D) (f:En->Option (D×En)) (fl fh:En->Option (Option Int)):En->Option (D×En):=fun ρ=>(f ρ).bind fun p=>(fl p.2).bind fun l=>(fh p.2).bind fun h=>(g p.1 l h).map fun d=>(d,p.2)
theorem O9 {r:V->Option Int->Option Int->Hp->VK->Prop} {g:D->Option Int->Option Int->Option D} {te:TE} {tl th:TO} {f:En->Option D} {fl fh:En->Option (Option Int)} (ho:SlV G r g) (h:RfE G ob te f) (hl:RfO G ob tl fl) (hh:RfO G ob th fh):RfE G ob (tSl r te tl th) (fY g f fl fh):=fun ρ d e σ H W rl w Q q=>by
 unfold fY at e
 cases h1:f ρ with
 | none=>simp [h1] at e
 | some x=>
  cases h2:fl ρ with
  | none=>simp [h1,h2] at e
  | some l=>
   cases h3:fh ρ with
   | none=>simp [h1,h2,h3] at e
   | some u=>
    have e:g x l u=some d:=by simpa [h1,h2,h3] using e
    refine h ρ x h1 σ H W rl w _ fun v H1 L s1 r1 fr nd=>?_
    have u1:Up H H1 W (W.add L):=.add s1 fr
    have w1:WOk H1 (W.add L):=w.add s1 r1.dom
    refine hl ρ l h2 σ H1 _ (rl.up u1) w1 _ fun H2 s2=>?_
    have u2:Up H1 H2 (W.add L) (W.add L):=.same s2
    have w2:WOk H2 (W.add L):=fun a ha=>let ⟨o,ho,hm⟩:=w1 a ha; ⟨o,s2 a o ho,hm⟩
    refine hh ρ u h3 σ H2 _ ((rl.up u1).up u2) w2 _ fun H3 s3=>?_
    have u3:Up H2 H3 (W.add L) (W.add L):=.same s3
    have w3:WOk H3 (W.add L):=fun a ha=>let ⟨o,ho,hm⟩:=w2 a ha; ⟨o,s3 a o ho,hm⟩
    have ss:=(s1.trans s2).trans s3
    refine ho x l u d e v H3 _ L ((r1.up u2).up u3) nd (w.tmp fr) w3 Q fun v' H4 L4 s4 r4 f4 n4=>?_
    refine q v' H4 L4 (ss.trans s4) ?_ (fun a ha=>(f4 a ha).elim (fr a) fun z=>ss.none' z) n4
    exact r4.up ⟨Same.refl _,fun b u hb f=>⟨fun z=>z.elim (fun z=>f.1 (.inl z)) fun z=>f.1 (.inr ⟨.inr z,WOk.new w fr z⟩),f.2⟩,fun _ _ _ f=>f⟩
theorem MT {r:V->Option Int->Option Int->Hp->VK->Prop} {g:D->Option Int->Option Int->Option D} {te:TE} {tl th:TO} {f:En->Option (D×En)} {fl fh:En->Option (Option Int)} (ho:SlV G r g) (h:mF G ob te f) (hl:RfO G ob tl fl) (hh:RfO G ob th fh):mF G ob (tSl r te tl th) (cG g f fl fh):=fun ρ d ρ' e σ H S Fr s Q q=>by
 unfold cG at e
 cases h1:f ρ with
 | none=>simp [h1] at e
 | some p=>
  obtain ⟨x,ρ1⟩:=p
  cases h2:fl ρ1 with
  | none=>simp [h1,h2] at e
  | some l=>
   cases h3:fh ρ1 with
   | none=>simp [h1,h2,h3] at e
   | some u=>
    cases h4:g x l u with
    | none=>simp [h1,h2,h3,h4] at e
    | some d'=>
     obtain ⟨rfl,rfl⟩:d'=d/\ρ1=ρ':=by simpa [h1,h2,h3,h4] using e
     refine h ρ x _ h1 σ H S Fr s _ fun v H1 L S1 s1 rx nd ef=>?_
     refine hl _ l h2 σ H1 _ s1.rel s1.wok _ fun H2 k2=>?_
     have s2:=s1.grow k2 fun a z=>.inl z
     refine hh _ u h3 σ H2 _ s2.rel s2.wok _ fun H3 k3=>?_
     have s3:=s2.grow k3 fun a z=>.inl z
     have ef3:Eff ob H H3 S S1 L:=⟨fun b u hb n=>k3 b u (k2 b u (ef.kp b u hb n)),ef.sn,ef.gr,ef.fm⟩
     refine ho x l u _ h4 v H3 _ L ((rx.up (.same k2)).up (.same k3)) nd (fun a ha=>s3.tmp (.inl ha)) s3.wok Q fun v' H4 L4 s4 r4 f4 n4=>?_
     obtain ⟨q1,q2,q3⟩:=Ez s3 ef3 s4 r4 f4 s
     exact q v' H4 L4 S1 q1 q2 n4 q3
def cutD (ds:List D) (lo hi:Option Int):List D:=(ds.drop (HT.sIx ds.length 0 lo)).take (HT.sIx ds.length ds.length hi - HT.sIx ds.length 0 lo)
def gSl:D->Option Int->Option Int->Option D
 | .lst _ ds,lo,hi=>some (.lst .own (cutD ds lo hi))
 | .tup ds,lo,hi=>some (.tup (cutD ds lo hi))
 | _,_,_=>none
theorem aN.cut {H:Hp} {W:Wn} {ds:List D} {xs:List V} {L:List Addr} (h:aN G H W ds xs L) (lo hi:Option Int):∃ M,aN G H W (cutD ds lo hi) (uF xs lo hi) M/\List.Sublist M L:=by
 unfold cutD uF
 rw [h.length]
 obtain ⟨A,B,_,h2,rfl⟩:=h.takeDrop (HT.sIx xs.length 0 lo)
 obtain ⟨A',B',h3,_,rfl⟩:=h2.takeDrop (HT.sIx xs.length xs.length hi - HT.sIx xs.length 0 lo)
 exact ⟨A',h3,(List.sublist_append_left A' B').trans (List.sublist_append_right A _)⟩
theorem slb (hK:∀ c,(X c).K=G.K:=by intro _; rfl):SlB X G gSl:=⟨fun x lo hi H Q=>O1 G.K x lo hi H Q∨PX G.K x lo hi H Q,fun c=>by rw [← hK c]; exact SlR.or J6 NZ,fun dx lo hi d e x H W Lx rx nd hn w Q q=>by
 unfold gSl at e
 split at e
 .cases e
  rw [Rep] at rx
  obtain ⟨a,xs,M,rfl,hr,hs⟩:=rx
  obtain ⟨M',h1,h2⟩:=hr.cut lo hi
  exact .inl ⟨a,xs,rfl,hs.sq,fun p hp=>rO h1 (h2.trans hs.sub) nd hn hp q⟩
 .rename_i ds
  cases e
  have rx':=rx
  rw [Rep] at rx
  obtain ⟨a,xs,rfl,ht,hr⟩:=rx
  obtain ⟨M',h1,h2⟩:=hr.cut lo hi
  refine .inr ⟨a,xs,rfl,SqT.of ht,fun ee=>?_,fun p hp=>vL h1 h2 nd hn hp q⟩
  rw [ee] at h1
  refine pQ (d:=.tup (cutD ds lo hi)) (x:=.ref a) (M:=M') ?_ h2 nd hn q
  rw [Rep]
  exact ⟨a,xs,rfl,ht,h1⟩
 .cases e⟩
def eSl:=fY gSl
def fX:=cG gSl
theorem d9 {e:Expr} {lo hi:Option Expr} {pos p2:Pos} {f:En->Option D} {fl fh:En->Option (Option Int)} (o:SlB X G gSl) (h:PV X G ob e f) (hl:PVO X G ob lo fl) (hh:PVO X G ob hi fh):PV X G ob (.Subscript e (.Slice lo hi none p2) pos) (eSl f fl fh):=let ⟨r,o1,o2⟩:=o.ex; let ⟨t,a1,a2⟩:=h.ex; let ⟨u,b1,b2⟩:=hl.ex; let ⟨v,c1,c2⟩:=hh.ex; ⟨_,fun c=>zm (o1 c) (a1 c) (b1 c) (c1 c),O9 o2 a2 b2 c2⟩
theorem wz {e:Expr} {lo hi:Option Expr} {pos p2:Pos} {f:En->Option (D×En)} {fl fh:En->Option (Option Int)} (o:SlB X G gSl) (h:PVe X G ob e f) (hl:PVO X G ob lo fl) (hh:PVO X G ob hi fh):PVe X G ob (.Subscript e (.Slice lo hi none p2) pos) (fX f fl fh):=let ⟨r,o1,o2⟩:=o.ex; let ⟨t,a1,a2⟩:=h.ex; let ⟨u,b1,b2⟩:=hl.ex; let ⟨v,c1,c2⟩:=hh.ex; ⟨_,fun c=>zm (o1 c) (a1 c) (b1 c) (c1 c),MT o2 a2 b2 c2⟩
end
section
variable {ι:Type} {X:ι->Cx} {G:Gc} {ob P:Nat->Bool}
def lU:D->D->Option D
 | .lst _ ds,.int i=>if i = -1 then some (.lst .own ds.reverse) else none
 | .tup ds,.int i=>if i = -1 then some (.tup ds.reverse) else if i=1 then some (.tup ds) else none
 | _,_=>none
theorem GC:OpV G (Gj G.K) lU:=fun dx dy d e x y H W Lx Ly rx ry nd hn w Q q=>by
 unfold lU at e
 split at e
 .split at e
  .rename_i hi
   subst hi
   cases e
   obtain ⟨rfl,rfl⟩:=bB ry
   rw [Rep] at rx
   obtain ⟨a,xs,M,rfl,hr,hs⟩:=rx
   obtain ⟨M',h1,pm⟩:=hr.revL
   refine .inr ⟨a,xs,rfl,hs.sq,rfl,fun p hp=>?_⟩
   have sm:Same H (upd H p (.lst xs.reverse)):=Same.new hp
   have hM:∀ a∈M',a∈Lx++[]:=fun a ha=>by rw [List.append_nil]; exact hs.sub.subset (pm.mem_iff.mp ha)
   have np:p∉M':=fun z=>by obtain ⟨o,ho,_⟩:=h1.dom p z; rw [hp] at ho; cases ho
   have ndM:M'.Nodup:=pm.nodup_iff.mpr (hs.sub.nodup (List.nodup_append.mp nd).1)
   refine q (.ref p) _ (p :: M') sm ?_ (fun a ha=>(List.mem_cons.mp ha).elim (fun z=>.inr (by rw [z]; exact hp)) fun z=>.inl (hM a z)) (List.nodup_cons.mpr ⟨np,ndM⟩)
   rw [Rep]
   exact ⟨p,_,M',rfl,h1.up ⟨sm,fun b u hb f=>⟨fun z=>z.elim (fun z=>(List.mem_cons.mp z).elim (fun z=>by rw [z,hp] at hb; cases hb) fun z=>f.1 (hn b (hM b z)).1) fun z=>f.1 z.1,f.2⟩,fun _ _ _ f=>f⟩,dg,rfl⟩
  .cases e
 .obtain ⟨rfl,rfl⟩:=bB ry
  have rx':=rx
  rw [Rep] at rx
  obtain ⟨a,xs,rfl,ht,hr⟩:=rx
  split at e
  .rename_i hi
   subst hi
   cases e
   obtain ⟨M',h1,pm⟩:=hr.revL
   refine .inl ⟨a,xs,rfl,SqT.of ht,.inr ⟨rfl,fun p hp=>?_⟩⟩
   have sm:Same H (upd H p (.tup xs.reverse)):=Same.new hp
   have hM:∀ a∈M',a∈Lx++[]:=fun a ha=>by rw [List.append_nil]; exact pm.mem_iff.mp ha
   have ndM:M'.Nodup:=pm.nodup_iff.mpr (List.nodup_append.mp nd).1
   refine q (.ref p) _ M' sm ?_ (fun a ha=>.inl (hM a ha)) ndM
   rw [Rep]
   exact ⟨p,_,rfl,dg,h1.up ⟨sm,fun b u hb f=>⟨fun z=>z.elim (fun z=>f.1 (hn b (hM b z)).1) fun z=>f.1 z.1,f.2⟩,fun _ _ _ f=>f⟩⟩
  .split at e
   .rename_i hi
    subst hi
    cases e
    exact .inl ⟨a,xs,rfl,SqT.of ht,.inl ⟨rfl,pQ rx' (List.sublist_append_left _ _) nd hn q⟩⟩
   .cases e
 .cases e
theorem qw {e es:Expr} {p2 pos:Pos} {f g:En->Option D} (ha:PV X G ob e f) (hb:PV X G ob es g) (hK:∀ c,(X c).K=G.K:=by intro _; rfl):PV X G ob (.Subscript e (.Slice none none (some es) p2) pos) (e2 lU f g):=let ⟨t,a1,a2⟩:=ha.ex; let ⟨u,b1,b2⟩:=hb.ex; ⟨_,fun c=>(by rw [← hK c]; exact FJ (a1 c) (b1 c)),x_ GC a2 b2⟩
def jY:List D->Option (List Key)
 | []=>some []
 | d :: r=>(mG d).bind fun k=>(jY r).map fun t=>k :: t
theorem qU {H:Hp} {W:Wn}:∀ {ds:List D} {ks:List Key} {xs:List V} {L:List Addr},jY ds=some ks->aN G H W ds xs L->xs=ks.map kV
 | [],ks,xs,L,h,r=>by cases h; exact r.inv0.1
 | d :: t,ks,xs,L,h,r=>by
  obtain ⟨x,ys,M,M',rfl,rfl,h1,h2⟩:=r.inv
  cases e1:mG d with
  | none=>simp [jY,e1] at h
  | some k=>
   cases e2:jY t with
   | none=>simp [jY,e1,e2] at h
   | some w=>
    obtain rfl:k :: w=ks:=by simpa [jY,e1,e2] using h
    rw [qU e2 h2,oK h1 e1]
    rfl
def jH:List D->Option D
 | [.lst _ ds]=>if ds.length < 4000 then (jY ds).map fun ks=>.int (rB ks).length else none
 | [.tup ds]=>if ds.length < 4000 then (jY ds).map fun ks=>.int (rB ks).length else none
 | _=>none
theorem rD:∀ {ds:List D} {ks:List Key},jY ds=some ks->ks.length=ds.length
 | [],ks,h=>by cases h; rfl
 | d :: t,ks,h=>by
  cases e1:mG d with
  | none=>simp [jY,e1] at h
  | some k=>
   cases e2:jY t with
   | none=>simp [jY,e1,e2] at h
   | some w=>
    obtain rfl:k :: w=ks:=by simpa [jY,e1,e2] using h
    simp [rD e2]
theorem Aa:CaV G (fun vs H Q=>∃ a ks,vs=[.ref a]/\(SqL G.K H a (List.map kV ks)∨SqT G.K H a (List.map kV ks))/\List.length ks < 4000/\Q (.int (rB ks).length) H) jH:=fun ds d e xs H W L0 r nd hn w Q q=>by
 unfold jH at e
 split at e
 .split at e
  .rename_i m ds hl
   cases h1:jY ds with
   | none=>simp [h1] at e
   | some ks=>
    obtain rfl:D.int (rB ks).length=d:=by simpa [h1] using e
    obtain ⟨x,rfl,rx⟩:=r.inv1
    rw [Rep] at rx
    obtain ⟨a,ys,M,rfl,hr,hs⟩:=rx
    have:=qU h1 hr
    subst this
    exact ⟨a,ks,rfl,.inl hs.sq,by rw [rD h1]; exact hl,q.scal fun _=>gn⟩
  .cases e
 .split at e
  .rename_i ds hl
   cases h1:jY ds with
   | none=>simp [h1] at e
   | some ks=>
    obtain rfl:D.int (rB ks).length=d:=by simpa [h1] using e
    obtain ⟨x,rfl,rx⟩:=r.inv1
    rw [Rep] at rx
    obtain ⟨a,ys,rfl,ht,hr⟩:=rx
    have:=qU h1 hr
    subst this
    exact ⟨a,ks,rfl,.inr (SqT.of ht),by rw [rD h1]; exact hl,q.scal fun _=>gn⟩
  .cases e
 .cases e
theorem rm {e:Expr} {p1 p2 q1 q2:Pos} {f:En->Option (List D)} (hg:∀ c,Gl (X c) "len") (hm:∀ c,(X c).mg "len" = none) (hms:∀ c,(X c).mg "set" = none) (ha:PVA X G ob [e] f) (hg2:∀ c,Gl (X c) "set" := by intro _; rfl) (hs:∀ c,starEach [e] (X c).env=[(false,eval e (X c).env)]:=by intro _; rfl) (hc:∀ c,(X c).calm=true:=by intro _; rfl) (hK:∀ c,(X c).K=G.K:=by intro _; rfl) :
  PV X G ob (.Call (.Name "len" p1) [.Call (.Name "set" p2) [e] [] q2] [] q1) (eAp jH f):=let ⟨t,a1,a2⟩:=ha.ex; ⟨_,fun c=>(by rw [← hK c]; exact Ek (hg c) (hm c) (hms c) (a1 c) (hg2 c) (hs c) (hc c)),wC Aa a2⟩
def Ao:List D->Option (List Bool)
 | []=>some []
 | .bl b :: r=>(Ao r).map fun t=>b :: t
 | _ :: _=>none
theorem yZ {H:Hp} {W:Wn}:∀ {ds:List D} {bs:List Bool} {xs:List V} {L:List Addr},Ao ds=some bs->aN G H W ds xs L->xs=bs.map V.bl
 | [],ks,xs,L,h,r=>by cases h; exact r.inv0.1
 | d :: t,ks,xs,L,h,r=>by
  obtain ⟨x,ys,M,M',rfl,rfl,h1,h2⟩:=r.inv
  cases d <;> simp [Ao] at h
  obtain ⟨w,h3,rfl⟩:=h
  rw [Rep] at h1
  rw [yZ h3 h2,h1.1]
  rfl
def uG:List D->Option (List Int)
 | []=>some []
 | .int b :: r=>(uG r).map fun t=>b :: t
 | _ :: _=>none
theorem v7 {H:Hp} {W:Wn}:∀ {ds:List D} {bs:List Int} {xs:List V} {L:List Addr},uG ds=some bs->aN G H W ds xs L->xs=bs.map V.int
 | [],ks,xs,L,h,r=>by cases h; exact r.inv0.1
 | d :: t,ks,xs,L,h,r=>by
  obtain ⟨x,ys,M,M',rfl,rfl,h1,h2⟩:=r.inv
  cases d <;> simp [uG] at h
  obtain ⟨w,h3,rfl⟩:=h
  rw [Rep] at h1
  rw [v7 h3 h2,h1.1]
  rfl
def Dz:List D->Option D
 | [.lst _ ds]=>(Ao ds).map fun bs=>.bl (bs.all id)
 | _=>none
def Im:List D->Option D
 | [.lst _ ds]=>(uG ds).map fun ns=>.int ns.sum
 | _=>none
theorem Cd (hc:∀ c,(X c).calm=true) (hK:∀ c,(X c).K=G.K:=by intro _; rfl):CaB X G (.builtin "all") Dz:=⟨fun xs H Q=>∃ a bs,xs=[.ref a]/\SqL G.K H a (List.map V.bl bs)/\Q (.bl (List.all bs id)) H,fun c=>by rw [← hK c]; exact Dw (hc c),fun ds d e xs H W L0 r nd hn w Q q=>by
 unfold Dz at e
 split at e
 .rename_i m ds
  cases h1:Ao ds with
  | none=>simp [h1] at e
  | some ks=>
   obtain rfl:D.bl (ks.all id)=d:=by simpa [h1] using e
   obtain ⟨x,rfl,rx⟩:=r.inv1
   rw [Rep] at rx
   obtain ⟨a,ys,M,rfl,hr,hs⟩:=rx
   have:=yZ h1 hr
   subst this
   exact ⟨a,ks,rfl,hs.sq,q.scal fun _=>jn⟩
 .cases e⟩
theorem Jg (hc:∀ c,(X c).calm=true) (hK:∀ c,(X c).K=G.K:=by intro _; rfl):CaB X G (.builtin "sum") Im:=⟨fun xs H Q=>∃ a ns,xs=[.ref a]/\SqL G.K H a (List.map V.int ns)/\Q (.int (List.sum ns)) H,fun c=>by rw [← hK c]; exact DN (hc c),fun ds d e xs H W L0 r nd hn w Q q=>by
 unfold Im at e
 split at e
 .rename_i m ds
  cases h1:uG ds with
  | none=>simp [h1] at e
  | some ks=>
   obtain rfl:D.int ks.sum=d:=by simpa [h1] using e
   obtain ⟨x,rfl,rx⟩:=r.inv1
   rw [Rep] at rx
   obtain ⟨a,ys,M,rfl,hr,hs⟩:=rx
   have:=v7 h1 hr
   subst this
   exact ⟨a,ks,rfl,hs.sq,q.scal fun _=>gn⟩
 .cases e⟩
def xT:List D->Option D
 | [.non]=>some (.str "None")
 | [.bl b]=>some (.str (if b then "True" else "False"))
 | [.int i]=>if i.natAbs.log2 < 1920 then some (.str (toString i)) else none
 | [.str x]=>some (.str x)
 | [d]=>if j5 d=true/\(pyD (dt d)).depth<=50/\(pyD (dt d)).showable=true/\(pyD (dt d)).shown.length<=sizeLine then some (.str (pyD (dt d)).shown) else none
 | _=>none
theorem Eh {Y:Cx}:iD Y (.type "str") (fun xs H Q=>(xs=[.non]/\Q (.str "None") H)∨(∃ b:Bool,xs=[.bl b]/\Q (.str (if b then "True" else "False")) H)∨∃ x,xs=[.str x]/\Q (.str x) H):=by
 intro pins s σ H xs us Q I r h
 rcases h with ⟨rfl,q⟩ | ⟨b,rfl,q⟩ | ⟨x,rfl,q⟩
 .obtain ⟨u,rfl,ru⟩:=vals1 r
  cases ru
  exact P.str_of_none ⟨.str _,H,I.tok _,⟨_,rfl⟩,q⟩
 .obtain ⟨u,rfl,ru⟩:=vals1 r
  cases ru
  exact P.str_of_bool ⟨.str _,H,I.tok _,⟨_,rfl⟩,q⟩
 .obtain ⟨u,rfl,ru⟩:=vals1 r
  obtain ⟨t,rfl⟩:=ru
  exact P.str_of_str ⟨.str _,H,I,⟨_,rfl⟩,q⟩
def Qc (K:PySem.W.Frag) (A:Around):List V->Hp->VK->Prop:=fun xs H Q=>(((xs=[.non]/\Q (.str "None") H)∨(∃ b:Bool,xs=[.bl b]/\Q (.str (if b then "True" else "False")) H)∨∃ x,xs=[.str x]/\Q (.str x) H)∨∃ i,xs=[.int i]/\i.natAbs.log2 < 1920/\Q (.str (toString i)) H)∨KC K A xs H Q
theorem n_ {H:Hp} {W:Wn} {x:Str}:Rep G H W (.str x) (.str x) []:=by rw [Rep]; exact ⟨rfl,rfl⟩
theorem Cp (A:Around) (hA:∀ c,(X c).A=A) (hg:A.guards=some []) (hu:A.units + 64 < cLine) (hK:∀ c,(X c).K=G.K:=by intro _; rfl):CaB X G (.type "str") xT:=⟨Qc G.K A,fun c=>by rw [← hK c,← hA c]; exact iD.or (iD.or Eh xH) Di,fun ds d e xs H W L0 r nd hn w Q q=>by
 unfold xT at e
 split at e
 .cases e
  obtain ⟨x,rfl,rx⟩:=r.inv1
  rw [Rep] at rx
  obtain ⟨rfl,rfl⟩:=rx
  exact .inl (.inl (.inl ⟨rfl,q.scal fun _=>n_⟩))
 .cases e
  obtain ⟨x,rfl,rx⟩:=r.inv1
  obtain ⟨rfl,rfl⟩:=lN rx
  exact .inl (.inl (.inr (.inl ⟨_,rfl,q.scal fun _=>n_⟩)))
 .split at e
  .cases e
   obtain ⟨x,rfl,rx⟩:=r.inv1
   obtain ⟨rfl,rfl⟩:=bB rx
   exact .inl (.inr ⟨_,rfl,‹_›,q.scal fun _=>n_⟩)
  .cases e
 .cases e
  obtain ⟨x,rfl,rx⟩:=r.inv1
  obtain ⟨rfl,rfl⟩:=fB rx
  exact .inl (.inl (.inr (.inr ⟨_,rfl,q.scal fun _=>n_⟩)))
 .rename_i d0 n1 n2 n3 n4
  split at e
  .rename_i hd
   cases e
   obtain ⟨x,rfl,rx⟩:=r.inv1
   have hb:=rx.brs hd.1
   have hx:∃ a,x = .ref a:=by
    cases d0 with
    | non=>exact absurd rfl n1
    | bl b=>exact absurd rfl (n2 b)
    | int b=>exact absurd rfl (n3 b)
    | str b=>exact absurd rfl (n4 b)
    | tup ds=>rw [Rep] at rx; obtain ⟨a,_,rfl,_⟩:=rx; exact ⟨a,rfl⟩
    | lst m ds=>rw [Rep] at rx; obtain ⟨a,_,_,rfl,_⟩:=rx; exact ⟨a,rfl⟩
    | ty n=>simp [j5] at hd
    | dct m ks ds=>simp [j5] at hd
    | ins m c fs ds=>simp [j5] at hd
   obtain ⟨a,rfl⟩:=hx
   exact .inr ⟨a,dt d0,rfl,hb,hg,by omega,hd.2.2.1,hd.2.2.2,q.scal fun _=>n_⟩
  .cases e
 .cases e⟩
end
section
variable {ι:Type} {X:ι->Cx} {G:Gc} {ob P:Nat->Bool}
def gj:D->Bool
 | .non=>true
 | .bl _=>true
 | .int _=>true
 | .str _=>true
 | _=>false
theorem NP {H:Hp} {W:Wn} {d:D} {v:V} {L:List Addr} (h:gj d=true) (r:Rep G H W d v L):L=[]/\∀ H' W',Rep G H' W' d v []:=by
 cases d <;> simp [gj] at h <;> rw [Rep] at r <;> obtain ⟨rfl,rfl⟩:=r <;> exact ⟨rfl,fun _ _=>by rw [Rep]; exact ⟨rfl,rfl⟩⟩
def bz (g g':D->D->Option D) (fa fb fc:En->Option D):En->Option D:=fun ρ=>(fa ρ).bind fun x=>(fb ρ).bind fun y=>if gj y then (g x y).bind fun r=>match r with
 | .bl true=>(fc ρ).bind fun z=>g' y z
 | .bl false=>some (.bl false)
 | _=>none else none
theorem xW {r r':R2} {g g':D->D->Option D} {ta tb tc:TE} {fa fb fc:En->Option D} (ho:OpV G r g) (ho':OpV G r' g') (ha:RfE G ob ta fa) (hb:RfE G ob tb fb) (hc:RfE G ob tc fc):RfE G ob (zR r r' ta tb tc) (bz g g' fa fb fc):=fun ρ d e σ H W rl w Q q=>by
 unfold bz at e
 cases h1:fa ρ with
 | none=>simp [h1] at e
 | some dx=>
  cases h2:fb ρ with
  | none=>simp [h1,h2] at e
  | some dy=>
   rw [h1,h2] at e
   simp only [Option.bind_some] at e
   split at e
   .rename_i hsc
    cases h3:g dx dy with
    | none=>simp [h3] at e
    | some dr=>
     rw [h3] at e
     simp only [Option.bind_some] at e
     refine RfE.two ha hb h1 h2 rl w fun x y H' L M s rx ry fr nd w'=>?_
     obtain ⟨rfl,hy⟩:=NP hsc ry
     refine ho dx dy dr h3 x y H' _ L [] rx ry nd (w.tmp fr) w' _ fun v H2 L2 s2 r2 f2 n2=>?_
     split at e
     .obtain ⟨rfl,rfl⟩:=lN r2
      refine ⟨true,rfl,sX ?_⟩
      cases h4:fc ρ with
      | none=>simp [h4] at e
      | some dz=>
       have e:g' dy dz=some d:=by simpa [h4] using e
       have u2:Up H H2 W W:=.same (s.trans s2)
       have w2:WOk H2 W:=fun a ha=>let ⟨o,ho,hm⟩:=w a ha; ⟨o,(s.trans s2) a o ho,hm⟩
       refine hc ρ dz h4 σ H2 W (rl.up u2) w2 _ fun z H3 L3 s3 r3 f3 n3=>?_
       refine ho' dy dz d e y z H3 (W.add L3) [] L3 (hy _ _) r3 (by simpa using n3) (w2.tmp f3) (w2.add s3 r3.dom) Q fun v' H4 L4 s4 r4 f4 n4=>?_
       refine q v' H4 L4 (((s.trans s2).trans s3).trans s4) ?_ (fun a ha=>(f4 a ha).elim (fun z=>(s.trans s2).none' (f3 a z)) fun z=>((s.trans s2).trans s3).none' z) n4
       exact r4.up ⟨Same.refl _,fun b u hb f=>⟨fun z=>z.elim (fun z=>f.1 (.inl z)) fun z=>f.1 (.inr ⟨.inr z,WOk.new w2 f3 z⟩),f.2⟩,fun _ _ _ f=>f⟩
     .cases e
      obtain ⟨rfl,rfl⟩:=lN r2
      exact ⟨false,rfl,xx (q (.bl false) H2 [] (s.trans s2) jn (by simp) List.nodup_nil)⟩
     .cases e
   .cases e
variable {a b c:Expr} {pos:Pos}
theorem pv_chain {op op':CmpOp} {g g':D->D->Option D} {fa fb fc:En->Option D} (o:OpB X G (compareOp op) g) (o':OpB X G (compareOp op') g') (ha:PV X G ob a fa) (hb:PV X G ob b fb) (hc:PV X G ob c fc) (hm:lastMarks [op,op'] [b,c]=false:=by with_unfolding_all rfl):PV X G ob (.Compare a [op,op'] [b,c] pos) (bz g g' fa fb fc):=
 let ⟨r,o1,o2⟩:=o.ex; let ⟨r',p1,p2⟩:=o'.ex; let ⟨t,a1,a2⟩:=ha.ex; let ⟨u,b1,b2⟩:=hb.ex; let ⟨v,c1,c2⟩:=hc.ex; ⟨_,fun c=>HX (o1 c) (p1 c) (a1 c) (b1 c) (c1 c) hm,xW o2 p2 a2 b2 c2⟩
theorem CV {op op':CmpOp} {g g':D->D->Option D} {fa fb fc:En->Option D} (o:OpB X G (compareOp op) g) (o':OpB X G (compareOp op') g') (ha:PV X G ob a fa) (hb:PV X G ob b fb) (hc:PV X G ob c fc) (hm:lastMarks [op,op'] [b,c]=false:=by with_unfolding_all rfl):PVT X G ob (.Compare a [op,op'] [b,c] pos) (eB (bz g g' fa fb fc)):=
 let ⟨r,o1,o2⟩:=o.ex; let ⟨r',p1,p2⟩:=o'.ex; let ⟨t,a1,a2⟩:=ha.ex; let ⟨u,b1,b2⟩:=hb.ex; let ⟨v,c1,c2⟩:=hc.ex; ⟨_,fun c=>Ew (o1 c) (p1 c) (a1 c) (b1 c) (c1 c) hm,Qn (xW o2 p2 a2 b2 c2)⟩
def fW (g:Int->Int->Int) (i:Nat) (f:En->Option D):En->Option Fl:=fun ρ=>match ρ[i]? with
 | some (some (.int m))=>(f ρ).bind fun d=>match d with
  | .int n=>some (.nx (ρ.set i (some (.int (g m n)))))
  | _=>none
 | _=>none
theorem JF {g:Int->Int->Int} {i:Nat} {te:TE} {f:En->Option D} (hP:P i=false) (h:RfE G ob te f):RfS G ob P (O4 i te (ipI g)) (fW g i f):=fun ρ r e σ H S Fr s E q=>by
 unfold fW at e
 split at e
 .rename_i m h1
  cases h2:f ρ with
  | none=>simp [h2] at e
  | some d=>
   rw [h2] at e
   simp only [Option.bind_some] at e
   split at e
   .rename_i n
    cases e
    obtain ⟨v,g1,g2,g3⟩:=s.sl i _ h1
    obtain ⟨rfl,hS⟩:=bB g2
    refine ⟨.int m,g1,h ρ _ h2 σ H _ s.rel s.wok _ fun y H1 L sm ry fr nd=>?_⟩
    obtain ⟨rfl,rfl⟩:=bB ry
    refine ⟨m,n,rfl,rfl,?_⟩
    have s1:Sta G H1 ob ρ σ S (plus [] Fr):=by rw [lr]; exact s.grow sm fun a z=>.inl z
    obtain ⟨S',q1,q2⟩:=s1.store (i:=i) (d:=.int (g m n)) (v:=.int (g m n)) (by rw [Rep]; exact ⟨rfl,rfl⟩) rfl List.nodup_nil (by simp)
    refine q _ H1 S' q1 ⟨fun b u hb _ _=>sm b u hb,fun j a z=>(q2 j a z).elim .inl fun z=>(by cases z),fun j hj=>?_⟩
    rw [List.getElem?_set_ne]
    intro z
    rw [z,hj] at hP
    cases hP
   .cases e
 .cases e
theorem yd (i:Nat) {x:Str} {e:Expr} {pos pos':Pos} {f:En->Option D} (hN:∀ c,(X c).N.Nodup) (he:PV X G ob e f) (hP:P i=false:=by rfl) (hi:∀ c,(X c).N[i]? = some x:=by intro _; rfl) (hx:∀ c,Loc (X c).env.scope x:=by intro _; first | exact Or.inl rfl | exact Or.inr rfl) (hf:∀ c,(X c).fn x=true∨(X c).env.scope.names.lookup x=some .local:=by intro _; first | exact .inl rfl | exact .inr rfl):PVS X G ob P (.AugAssign (.Name x pos') .Add e pos) (fW (fun i j=>i + j) i f):=let ⟨t,a1,a2⟩:=he.ex; ⟨_,fun c=>M9 (hN c) (hi c) (hx c) (a1 c) Ln (hf c),JF hP a2⟩
def I_ (G:Gc) (ob:Nat->Bool) (wi:TI) (f:En->Option (List D×En)):Prop:=∀ (ρ:En) (items:List D) (ρ':En),f ρ=some (items,ρ')->∀ (σ:L2.St) (H:Hp) (S:Ad) (Fr:Addr->Prop),Sta G H ob ρ σ S Fr->∀ R:It->Hp->Prop,
 (∀ J H' S',Sta G H' ob ρ' σ S' Fr->Eff ob H H' S S' []->Wk G J (LtB true H' (wn ob S' Fr)) items->R J H')->wi σ H R
structure NQ {ι:Type} (X:ι->Cx) (G:Gc) (ob:Nat->Bool) (tg it:Expr) (f:En->Option (List D×En)):Prop where
 mk :: (ex:∃ t,(∀ c,PI (X c) tg it t)/\I_ G ob t f)
def cQ (f:En->Option (List D×En)):En->Option (List D×En):=fun ρ=>(f ρ).bind fun p=>match p.1 with
 | [.int j]=>if -(2 ^ 62)<=j/\j < 2 ^ 62 then some (j9 0 j.toNat,p.2) else none
 | _=>none
theorem Jp {t:TA} {f:En->Option (List D×En)} (h:yF G ob t f):I_ G ob (HY t) (cQ f):=fun ρ items ρ' e σ H S Fr s R q=>by
 unfold cQ at e
 cases h1:f ρ with
 | none=>simp [h1] at e
 | some p=>
  obtain ⟨ds,ρ1⟩:=p
  rw [h1] at e
  simp only [Option.bind_some] at e
  split at e
  .rename_i j
   split at e
   .rename_i hj
    obtain ⟨rfl,rfl⟩:j9 0 j.toNat=items/\ρ1=ρ':=by simpa using e
    refine h ρ _ _ h1 σ H S Fr s _ fun xs H' L S' s' rx nd ef=>?_
    obtain ⟨x,rfl,rx'⟩:=rx.inv1
    obtain ⟨rfl,rfl⟩:=bB rx'
    rw [lr] at s'
    exact ⟨j,rfl,by omega,by omega,q _ H' S' s' ef Fv⟩
   .cases e
  .cases e
def gf (f:En->Option (D×En)):En->Option (List D×En):=fun ρ=>(f ρ).bind fun p=>(bC p.1).bind fun r=>if r.1=true then some (r.2,p.2) else none
theorem HR {G:Gc} {H':Hp} {W:Wn} {d:D} {v:V} {L:List Addr} {es:List D} (r:Rep G H' (W.add L) d v L) (free:∀ a∈L,W.free a) (e:bC d=some (true,es)) :
  ∃ a xs,v = .ref a/\Parts G H' W true es xs/\((∀ H2 W2,LtB true H' W H2 W2->SqL G.K H2 a xs)∨(∀ H2 W2,LtB true H' W H2 W2->SqT G.K H2 a xs)):=by
 have les:Les H' (W.add L) W L:=⟨fun a f=>⟨fun z=>f.1 (.inr z),f.2⟩,free⟩
 cases d with
 | lst m ds=>
  simp only [bC,Option.some.injEq,Prod.mk.injEq] at e
  obtain ⟨ec,rfl⟩:=e
  rw [Rep] at r
  obtain ⟨a,xs,M,rfl,hr,hs⟩:=r
  have z:=ec
  simp [clean,aH,aF] at z
  exact ⟨a,xs,rfl,⟨aN.fzo (W:=W.add L) (W':=W) (fun _ z=>z) hr (les.sub fun c hc=>hs.sub.subset hc),fun _=>⟨iU z.1.2,jb z.2.2⟩⟩,.inl fun H2 W2 l=>Kv (vK hs les (fun z=>z) (fun _=>⟨z.1.1,z.2.1⟩) l)⟩
 | tup ds=>
  simp only [bC,Option.some.injEq,Prod.mk.injEq] at e
  obtain ⟨ec,rfl⟩:=e
  rw [Rep] at r
  obtain ⟨a,xs,rfl,ht,hr⟩:=r
  have z:=ec
  simp [clean,aH,aF] at z
  exact ⟨a,xs,rfl,⟨aN.fzo (W:=W.add L) (W':=W) (fun _ z=>z) hr les,fun _=>⟨iU z.1,jb z.2⟩⟩,.inr fun H2 W2 l=>l.tup ht⟩
 | _=>simp [bC] at e
theorem Ep {te:TE} {f:En->Option (D×En)} (h:mF G ob te f):I_ G ob (N_ G.K te) (gf f):=fun ρ items ρ' e σ H S Fr s R q=>by
 unfold gf at e
 cases h1:f ρ with
 | none=>simp [h1] at e
 | some p=>
  obtain ⟨d,ρ1⟩:=p
  cases h2:bC d with
  | none=>simp [h1,h2] at e
  | some r=>
   obtain ⟨b,es⟩:=r
   cases b with
   | false=>simp [h1,h2] at e
   | true=>
    obtain ⟨rfl,rfl⟩:es=items/\ρ1=ρ':=by simpa [h1,h2] using e
    refine h ρ d _ h1 σ H S Fr s _ fun v H' M S' s' r nd ef=>?_
    have sF:Sta G H' ob ρ1 σ S' Fr:=s'.lessF fun a z=>.inr z
    have free:∀ a∈M,(wn ob S' Fr).free a:=fun a ha=>⟨fun z=>?_,fun ⟨i,_,z⟩=>s'.fdj i a (.inl ha) z,fun ⟨i,_,z⟩=>s'.fdj i a (.inl ha) z⟩
    .obtain ⟨a,xs,rfl,p,hs⟩:=HR (W:=wn ob S' Fr) r free h2
     have ef0:Eff ob H H' S S' []:=⟨ef.kp,ef.sn,ef.gr,by simp⟩
     refine ⟨a,rfl,?_⟩
     have l0:LtB true H' (wn ob S' Fr) H' (wn ob S' Fr):=LtB.up Up.refl
     rcases hs with hs | hs
     .refine .inl ⟨⟨xs,hs H' _ l0⟩,q _ H' S' sF ef0 ⟨fun i d e H2 W2 l=>?_,fun i d e H2 W2 l x H3 y=>?_,fun H2 W2 l=>?_⟩⟩
      .obtain ⟨x,hx⟩:=p.r.getV e
       exact ⟨xs,x,hs H2 W2 l,hx⟩
      .obtain ⟨rfl,y⟩:=y
       exact ⟨Same.refl _,p.at l e (y xs (hs _ W2 l))⟩
      .exact ⟨xs,hs H2 W2 l,by rw [p.r.length]; exact Nat.le_refl _⟩
     .refine .inr ⟨⟨xs,hs H' _ l0⟩,q _ H' S' sF ef0 ⟨fun i d e H2 W2 l=>?_,fun i d e H2 W2 l x H3 y=>?_,fun H2 W2 l=>?_⟩⟩
      .obtain ⟨x,hx⟩:=p.r.getV e
       exact ⟨xs,x,hs H2 W2 l,hx⟩
      .obtain ⟨rfl,y⟩:=y
       exact ⟨Same.refl _,p.at l e (y xs (hs _ W2 l))⟩
      .exact ⟨xs,hs H2 W2 l,by rw [p.r.length]; exact Nat.le_refl _⟩
    .rcases ef.fm a ha with ⟨i,_,y⟩ | y
     .exact s.fdj i a z y
     .obtain ⟨o,ho,_⟩:=s.fdm a z
      rw [y] at ho; cases ho
def cH (it:En->Option (List D×En)) (tg:D->En->Option En) (body:En->Option Fl):En->Option Fl:=fun ρ=>(it ρ).bind fun p=>forL tg body p.1 p.2
theorem HW {wi:TI} {g:TG} {tb:TS} {it:En->Option (List D×En)} {tg:D->En->Option En} {body:En->Option Fl} (hi:I_ G ob wi it) (hg:RfG G ob P g tg) (hb:RfS G ob P tb body):RfS G ob P (K9 wi g tb) (cH it tg body):=fun ρ0 r e σ H0 S0 Fr s0 E q=>by
 unfold cH at e
 cases h1:it ρ0 with
 | none=>simp [h1] at e
 | some p=>
  obtain ⟨items,ρ⟩:=p
  have e:forL tg body items ρ=some r:=by simpa [h1] using e
  refine hi ρ0 items ρ h1 σ H0 S0 Fr s0 _ fun J H1 S s1 ef wk=>?_
  have m1:Mv P H0 H1 σ σ S0 S []:=ef.mv
  have q1:=q.from m1
  have ltof:∀ {ρ2:En} {σ2:L2.St} {H2:Hp} {S2:Ad},Mv P H1 H2 σ σ2 S S2 []->LtB true H1 (wn ob S Fr) H2 (wn ob S2 Fr):=fun m=>sX (zN s1 m)
  refine ⟨fun i m σ2 H2=>i + m=items.length/\∃ ρ2 S2,Sta G H2 ob ρ2 σ2 S2 Fr/\Mv P H1 H2 σ σ2 S S2 []/\forL tg body (items.drop i) ρ2=some r,⟨items.length,by omega,ρ,S,s1,.refl,e⟩,?_⟩
  rintro i m σ2 H2 ⟨him,ρ2,S2,s2,m2,e2⟩
  by_cases hil:i < items.length
  .refine .inr ⟨wk.go i items[i] (by simp [hil]) H2 _ (ltof (ρ2:=ρ2) m2),fun σ' H'=>(i + 1) + (m - 1)=items.length/\∃ ρ2 S2,Sta G H' ob ρ2 σ' S2 Fr/\Mv P H1 H' σ σ' S S2 []/\forL tg body (items.drop (i + 1)) ρ2=some r,fun σ' H' h=>⟨m - 1,by omega,h⟩,fun x H3 hy=>?_⟩
   obtain ⟨s3,rx⟩:=wk.yld i items[i] (by simp [hil]) H2 _ (ltof (ρ2:=ρ2) m2) x H3 hy
   rw [← List.getElem_cons_drop hil,forL] at e2
   cases h3:tg items[i] ρ2 with
   | none=>simp [h3] at e2
   | some ρ3=>
    rw [h3] at e2
    simp only [Option.bind_some] at e2
    have st3:Sta G H3 ob ρ2 σ2 S2 Fr:=s2.grow s3 fun a z=>.inl z
    refine hg items[i] ρ2 ρ3 h3 x σ2 H3 S2 [] Fr (by rw [lr]; exact st3) (by rw [lr]; exact rx) List.nodup_nil (by simp) _ fun σ4 H4 S4 s4 m4=>?_
    have m24:Mv P H1 H4 σ σ4 S S4 []:=(m2.trans (S2:=S2) ⟨fun b u h _ _=>s3 b u h,fun i a z=>.inl ⟨i,z⟩,.refl⟩).trans m4
    cases h5:body ρ3 with
    | none=>rw [h5] at e2; cases e2
    | some fl=>
     rw [h5] at e2
     refine hb ρ3 fl h5 σ4 H4 S4 Fr s4 _ ?_
     cases fl with
     | nx ρ5=>exact fun σ' H' S' s' m'=>⟨by omega,ρ5,S',s',m24.trans m',e2⟩
     | cnt ρ5=>exact fun σ' H' S' s' m'=>⟨by omega,ρ5,S',s',m24.trans m',e2⟩
     | brk ρ5=>cases e2; exact fun σ' H' S' s' m'=>q1 σ' H' S' s' (m24.trans m')
     | ret d ρ5=>cases e2; exact q1.from m24
  .have hl:i=items.length:=by omega
   rw [hl,List.drop_length,forL] at e2
   cases e2
   subst hl
   exact .inl ⟨wk.stop H2 _ (ltof (ρ2:=ρ2) m2),q1 σ2 H2 S2 s2 m2⟩
theorem yp {tg iter:Expr} {body:List Stmt} {pos:Pos} {it:En->Option (List D×En)} {g:D->En->Option En} {f:En->Option Fl} (hp:∀ c,PassesOwn (model (X c).prog (X c).w) (X c).A (X c).env (X c).xe) (hc:∀ c,(X c).calm=true) (hi:NQ X G ob tg iter it) (hg:PVG X G ob P tg g) (hb:tL X G ob P body f) (hs:∀ c,∀ x,foldedSetIterable iter (X c).env x=pure x:=by intro _; intro _; rfl):PVS X G ob P (.For tg iter body [] pos) (cH it g f):=let ⟨v,c1,c2⟩:=hi.ex; let ⟨t,a1,a2⟩:=hg.ex; let ⟨u,b1,b2⟩:=hb.ex; ⟨_,fun c=>Gy (hp c) (hc c) (c1 c) (a1 c) (b1 c) (hs c),HW c2 a2 b2⟩
theorem IK {tg a:Expr} {p pos:Pos} {f:En->Option (List D×En)} (hg:∀ c,Gl (X c) "range") (hm:∀ c,(X c).mg "range" = none) (ha:tE X G ob [a] f) (hs:∀ c,starEach [a] (X c).env=[(false,eval a (X c).env)]:=by intro _; rfl):NQ X G ob tg (.Call (.Name "range" p) [a] [] pos) (cQ f):=let ⟨t,a1,a2⟩:=ha.ex; ⟨_,fun c=>wy (hg c) (hm c) (a1 c) (hs c),Jp a2⟩
theorem Hh {tg a:Expr} {f:En->Option (D×En)} (ha:PVe X G ob a f) (hK:∀ c,(X c).K=G.K:=by intro _; rfl):NQ X G ob tg a (gf f):=let ⟨t,a1,a2⟩:=ha.ex; ⟨_,fun c=>(by rw [← hK c]; exact GD (a1 c)),Ep a2⟩
end
def Ox (own:Nat->Bool) (cap:List (Option Nat)):Bool:=(List.range cap.length).all fun i=>!own i || (match cap[i]? with
 | some none=>true
 | _=>false)
theorem jl {own:Nat->Bool} {cap:List (Option Nat)} (h:Ox own cap=true):∀ i:Nat,own i=true->cap[i]?≠none->cap[i]? = some none:=fun i ho hn=>by
 have hi:i < cap.length:=by
  by_cases z:i < cap.length
  .exact z
  .exact absurd (List.getElem?_eq_none (by omega)) hn
 have:=List.all_eq_true.mp h i (List.mem_range.mpr hi)
 rw [ho] at this
 simp only [Bool.not_true,Bool.false_or] at this
 split at this
 .assumption
 .cases this
def Jy (cap:List (Option Nat)):Bool:=(List.range cap.length).all fun i=>(List.range cap.length).all fun k=>match cap[i]?,cap[k]? with
 | some (some a),some (some b)=>!(a == b) || i == k
 | _,_=>true
theorem Ka {cap:List (Option Nat)} (h:Jy cap=true):pY cap:=fun i k j h1 h2=>by
 have hi:i < cap.length:=(List.getElem?_eq_some_iff.mp h1).1
 have hk:k < cap.length:=(List.getElem?_eq_some_iff.mp h2).1
 have:=List.all_eq_true.mp (List.all_eq_true.mp h i (List.mem_range.mpr hi)) k (List.mem_range.mpr hk)
 rw [h1,h2] at this
 simpa using this
def KpS {α:Type} (i:Nat) (f:En->Option (α×En)):Prop:=∀ ρ q,f ρ=some q->q.2[i]? = ρ[i]?
theorem Ms {i:Nat} {f:En->Option D}:KpS i (eUp f):=fun ρ q h=>by
 unfold eUp at h
 cases e:f ρ with
 | none=>simp [e] at h
 | some d=>
  obtain rfl:(d,ρ)=q:=by simpa [e] using h
  rfl
theorem Jk {i:Nat} {f:En->Option (List D)}:KpS i (bc f):=fun ρ q h=>by
 unfold bc at h
 cases e:f ρ with
 | none=>simp [e] at h
 | some d=>
  obtain rfl:(d,ρ)=q:=by simpa [e] using h
  rfl
theorem Es {i:Nat} {f:En->Option (D×En)} {g:En->Option (List D×En)} (h1:KpS i f) (h2:KpS i g):KpS i (aP f g):=fun ρ q h=>by
 unfold aP at h
 cases e1:f ρ with
 | none=>simp [e1] at h
 | some p=>
  cases e2:g p.2 with
  | none=>simp [e1,e2] at h
  | some r=>
   rw [e1] at h
   simp only [Option.bind_some,e2] at h
   split at h
   .cases h
    exact (h2 _ _ e2).trans (h1 _ _ e1)
   .cases h
theorem MP {i:Nat} {g:List D->Option D} {f:En->Option (List D×En)} (h1:KpS i f):KpS i (dJ g f):=fun ρ q h=>by
 unfold dJ at h
 cases e1:f ρ with
 | none=>simp [e1] at h
 | some p=>
  cases e2:g p.1 with
  | none=>simp [e1,e2] at h
  | some r=>
   obtain rfl:(r,p.2)=q:=by simpa [e1,e2] using h
   exact h1 ρ p e1
theorem Oq {i:Nat} {g:D->D->Option D} {f f':En->Option (D×En)} (h1:KpS i f) (h2:KpS i f'):KpS i (ee2 g f f'):=fun ρ q h=>by
 unfold ee2 at h
 cases e1:f ρ with
 | none=>simp [e1] at h
 | some p=>
  cases e2:f' p.2 with
  | none=>simp [e1,e2] at h
  | some r=>
   rw [e1] at h
   simp only [Option.bind_some,e2] at h
   split at h
   .cases e3:g p.1 r.1 with
    | none=>simp [e3] at h
    | some d=>
     obtain rfl:(d,r.2)=q:=by simpa [e3] using h
     exact (h2 _ _ e2).trans (h1 _ _ e1)
   .cases h
theorem O3 {i:Nat} {g:D->Option D} {f:En->Option (D×En)} (h1:KpS i f):KpS i (ee1 g f):=fun ρ q h=>by
 unfold ee1 at h
 cases e1:f ρ with
 | none=>simp [e1] at h
 | some p=>
  cases e2:g p.1 with
  | none=>simp [e1,e2] at h
  | some r=>
   obtain rfl:(r,p.2)=q:=by simpa [e1,e2] using h
   exact h1 ρ p e1
theorem Ol {i:Nat} {F:List D->Option (D×List D)} {js:List Nat} {f:En->Option (List D×En)} (hj:js.contains i=false) (h1:KpS i f):KpS i (eIo F js f):=fun ρ q h=>by
 unfold eIo at h
 split at h
 .cases e1:f ρ with
  | none=>simp [e1] at h
  | some p=>
   cases e2:objs js p.2 with
   | none=>simp [e1,e2] at h
   | some os=>
    rw [e1] at h
    simp only [Option.bind_some,e2] at h
    split at h
    .cases e3:F (os++fzL p.1) with
     | none=>simp [e3] at h
     | some r=>
      rw [e3] at h
      simp only [Option.bind_some] at h
      split at h
      .cases h
       exact (oA fun z=>by simp [z] at hj).trans (h1 _ _ e1)
      .cases h
    .cases h
 .cases h
theorem Ob {i:Nat} {g:D->Option Int->Option Int->Option D} {f:En->Option (D×En)} {fl fh:En->Option (Option Int)} (h1:KpS i f):KpS i (cG g f fl fh):=fun ρ q h=>by
 unfold cG at h
 cases e1:f ρ with
 | none=>simp [e1] at h
 | some p=>
  cases e2:fl p.2 with
  | none=>simp [e1,e2] at h
  | some a=>
   cases e3:fh p.2 with
   | none=>simp [e1,e2,e3] at h
   | some b=>
    cases e4:g p.1 a b with
    | none=>simp [e1,e2,e3,e4] at h
    | some d=>
     obtain rfl:(d,p.2)=q:=by simpa [e1,e2,e3,e4] using h
     exact h1 ρ p e1
def Wp {α:Type} (o:Option α) (Q:α->Prop):Prop:=∃ a,o=some a/\Q a
section
variable {α β:Type} {Q:α->Prop} {R:β->Prop}
theorem aA {a:α}:Wp (some a) Q↔Q a:=⟨fun ⟨b,e,q⟩=>by cases e; exact q,fun q=>⟨a,rfl,q⟩⟩
theorem bA:Wp (none:Option α) Q↔False:=⟨fun ⟨b,e,q⟩=>(by cases e),fun z=>z.elim⟩
theorem aV {o:Option α} {f:α->Option β}:Wp (o.bind f) R↔Wp o fun a=>Wp (f a) R:=by
 cases o with
 | none=>simp [bA]
 | some a=>simp [aA]
theorem cP {o:Option α} {f:α->β}:Wp (o.map f) R↔Wp o fun a=>R (f a):=by
 cases o with
 | none=>simp [bA]
 | some a=>simp [aA]
theorem w_ite {c:Prop} [Decidable c] {a b:Option α}:Wp (if c then a else b) Q↔(if c then Wp a Q else Wp b Q):=by
 split <;> exact Iff.rfl
theorem Wp.mono {o:Option α} {Q':α->Prop} (h:Wp o Q) (k:∀ a,Q a->Q' a):Wp o Q':=let ⟨a,e,q⟩:=h; ⟨a,e,k a q⟩
theorem Wp.eq {o:Option α} {a:α} (h:Wp o fun x=>x=a):o=some a:=let ⟨b,e,q⟩:=h; by rw [e,q]
theorem uP {o:Option α} {a:α} (h:o=some a) (q:Q a):Wp o Q:=⟨a,h,q⟩
end
section
variable {Q:Fl->Prop} {ρ:En}
theorem cY {f g:En->Option Fl}:Wp (bG f g ρ) Q↔Wp (f ρ) fun r=>match r with
 | .nx ρ'=>Wp (g ρ') Q
 | .ret d ρ'=>Q (.ret d ρ')
 | .brk ρ'=>Q (.brk ρ')
 | .cnt ρ'=>Q (.cnt ρ'):=by
 unfold bG
 cases f ρ with
 | none=>simp [bA]
 | some r=>cases r <;> simp [aA]
theorem Kq {tg:D->En->Option En} {body:En->Option Fl} (I:Nat->En->Prop):∀ {items:List D} {ρ:En} {k:Nat},I k ρ->
  (∀ (i:Nat) (d:D) (ρ:En),items[i]? = some d->I (k + i) ρ->Wp (tg d ρ) fun ρ1=>Wp (body ρ1) fun r=>match r with
   | .nx ρ2=>I (k + i + 1) ρ2
   | .cnt ρ2=>I (k + i + 1) ρ2
   | .brk ρ2=>Q (.nx ρ2)
   | .ret d ρ2=>Q (.ret d ρ2))->
  (∀ ρ,I (k + items.length) ρ->Q (.nx ρ))->Wp (forL tg body items ρ) Q
 | [],ρ,k,h0,_,h=>by rw [forL]; exact aA.mpr (h ρ h0)
 | d :: r,ρ,k,h0,hs,h=>by
  rw [forL]
  obtain ⟨ρ1,e1,w⟩:=hs 0 d ρ rfl h0
  obtain ⟨fl,e2,w⟩:=w
  rw [e1,Option.bind_some,e2]
  have ih:∀ {ρ2:En},I (k + 1) ρ2->Wp (forL tg body r ρ2) Q:=fun hI=>Kq I hI (fun i d ρ hi hI=>by
   have:=hs (i + 1) d ρ (by simpa using hi) (by rw [show k + (i + 1)=k + 1 + i by omega]; exact hI)
   rw [show k + (i + 1) + 1=k + 1 + i + 1 by omega] at this
   exact this) fun ρ hI=>h ρ (by rw [List.length_cons,show k + (r.length + 1)=k + 1 + r.length by omega]; exact hI)
  cases fl with
  | nx ρ2=>exact ih w
  | cnt ρ2=>exact ih w
  | brk ρ2=>exact aA.mpr w
  | ret d ρ2=>exact aA.mpr w
end
theorem jg {tg:D->En->Option En} {c:En->Option Bool} {e:En->Option D} {ρ0:En} {p:D->Bool} {f:D->D}:∀ {items:List D},(∀ d∈items,Wp (tg d ρ0) fun ρ1=>c ρ1=some (p d)/\(p d=true->e ρ1=some (f d)))->kh tg c e ρ0 items=some ((items.filter p).map f)
 | [],_=>rfl
 | d :: r,h=>by
  obtain ⟨ρ1,e1,h1,h2⟩:=h d (by simp)
  have ih:=jg (tg:=tg) (c:=c) (e:=e) (ρ0:=ρ0) (p:=p) (f:=f) (items:=r) fun x hx=>h x (by simp [hx])
  rw [kh]
  cases hp:p d with
  | false=>simp [e1,h1,hp,ih]
  | true=>simp [e1,h1,hp,h2 hp,ih]
theorem By {cap:List (Option Nat)} {tg:D->En->Option En} {c:En->Option Bool} {e:En->Option (D×En)} {Q:List D×En->Prop} (I:Nat->List D->En->Prop):∀ {items:List D} {ρ:En} {k:Nat} {acc:List D},I k acc ρ->
  (∀ (i:Nat) (d:D) (acc:List D) (ρ:En),items[i]? = some d->I (k + i) acc ρ->Wp (tg d (dZ cap ρ)) fun ρ1=>Wp (c ρ1) fun b=>if b=true then Wp (e ρ1) fun p=>clean p.1=true/\I (k + i + 1) (acc++[p.1]) (bK cap p.2 ρ) else I (k + i + 1) acc ρ)->
  (∀ ys ρ,I (k + items.length) ys ρ->Q (ys,ρ))->Wp (l_ cap tg c e items ρ) fun t=>Q (acc++t.1,t.2)
 | [],ρ,k,acc,h0,_,h=>by rw [l_]; exact aA.mpr (by rw [List.append_nil]; exact h acc ρ h0)
 | d :: r,ρ,k,acc,h0,hs,h=>by
  rw [l_]
  obtain ⟨ρ1,e1,b,e2,w⟩:=hs 0 d acc ρ rfl h0
  rw [e1,Option.bind_some,e2,Option.bind_some]
  have ih:∀ {ρ2:En} {acc:List D},I (k + 1) acc ρ2->Wp (l_ cap tg c e r ρ2) fun t=>Q (acc++t.1,t.2):=fun hI=>By I hI (fun i d acc ρ hi hI=>by
   have:=hs (i + 1) d acc ρ (by simpa using hi) (by rw [show k + (i + 1)=k + 1 + i by omega]; exact hI)
   rw [show k + (i + 1) + 1=k + 1 + i + 1 by omega] at this
   exact this) fun ys ρ hI=>h ys ρ (by rw [List.length_cons,show k + (r.length + 1)=k + 1 + r.length by omega]; exact hI)
  cases b with
  | false=>
   simp only [Bool.false_eq_true,if_false] at w ⊢
   exact ih w
  | true=>
   simp only [if_true] at w ⊢
   obtain ⟨p,e3,hc,hI⟩:=w
   rw [e3,Option.bind_some,if_pos hc]
   rw [cP]
   refine (ih hI).mono fun t ht=>?_
   simpa using ht
theorem cC (l:List Str):aD (l.map D.str)=true:=fQ fun d hd=>by obtain ⟨x,_,rfl⟩:=List.mem_map.mp hd; rfl
theorem cz (l:List Str):aG (l.map D.str)=true:=e_ fun d hd=>by obtain ⟨x,_,rfl⟩:=List.mem_map.mp hd; rfl
theorem bQ (b:Bool) (l:List Str):bI b (l.map D.str)=l.map D.str:=by rw [iQ,List.map_map]; rfl
theorem du (l:List Str):fzL (l.map D.str)=l.map D.str:=by rw [j6,List.map_map]; rfl
theorem fH (l:List Str):dq (l.map D.str)=l.map D.str:=by rw [jF,List.map_map]; rfl
theorem o5 {α:Type} {l:List α} {i:Int} (h0:0<=i) (h1:i < l.length):∃ x,atI l i=some x/\l[i.toNat]? = some x:=by
 unfold atI ixN
 rw [if_pos h0,if_pos h1]
 have:i.toNat < l.length:=by omega
 exact ⟨l[i.toNat],by simp [this],by simp [this]⟩
theorem iV {α β:Type} {f:α->β} {l:List α} {i:Int} (h0:0<=i) (h1:i < l.length):∃ x,x∈l/\l[i.toNat]? = some x/\atI (l.map f) i=some (f x):=by
 have:i.toNat < l.length:=by omega
 refine ⟨l[i.toNat],List.getElem_mem _,by simp [this],?_⟩
 unfold atI ixN
 rw [if_pos h0,if_pos (by simpa using h1)]
 simp [this]
theorem Ce {n:Nat} {f:D->D}:(j9 0 n).map f=(List.range n).map fun (k:Nat)=>f (.int (k:Int)):=by
 unfold j9
 rw [List.map_map]
 apply List.map_congr_left
 intro k _
 simp
theorem BP {n:Nat} {d:D} (h:d∈j9 0 n):∃ k:Nat,k < n/\d = .int (k:Int):=by
 unfold j9 at h
 obtain ⟨k,hk,rfl⟩:=List.mem_map.mp h
 exact ⟨k,List.mem_range.mp hk,by simp⟩
theorem nA {lo:Int} {n:Nat}:(j9 lo n).length=n:=by simp [j9]
theorem filter_tt {α:Type} (l:List α):l.filter (fun _=>true)=l:=by simp
theorem pB {n i:Nat} {d:D} (h:(j9 0 n)[i]? = some d):i < n/\d = .int (i:Int):=by
 have hi:i < n:=by have:=(List.getElem?_eq_some_iff.mp h).1; simpa [j9] using this
 refine ⟨hi,?_⟩
 unfold j9 at h
 rw [List.getElem?_map,List.getElem?_range hi] at h
 simpa using h.symm
theorem Jx {ks:List Key} {k:Key} (h:k∈ks):∃ j,lZ ks k=some j/\j < ks.length:=by
 cases e:lZ ks k with
 | none=>exact absurd h (uE e)
 | some j=>exact ⟨j,rfl,tY e⟩
theorem Hg {ks:List Key} {ds:List D} {k:Key} {d:D} (h:ks.length=ds.length):(lq ks ds k d).1.length=(lq ks ds k d).2.length/\∀ x,x∈(lq ks ds k d).1↔x∈ks∨x=k:=by
 unfold lq
 cases e:lZ ks k with
 | none=>exact ⟨by simp [h],fun x=>by simp⟩
 | some j=>
  refine ⟨by simpa using h,fun x=>⟨.inl,fun z=>z.elim id fun z=>?_⟩⟩
  obtain ⟨hl,hk,_⟩:=List.findIdx?_eq_some_iff_getElem.mp e
  have:ks[j]=k:=by simpa using hk
  rw [z,← this]
  exact List.getElem_mem _
theorem uz:∀ {es:List (Key×D)} {ks:List Key} {ds:List D},ks.length=ds.length->(iZ ks ds es).1.length=(iZ ks ds es).2.length/\∀ x,x∈(iZ ks ds es).1↔x∈ks∨∃ p∈es,p.1=x
 | [],ks,ds,h=>⟨h,fun x=>by simp [iZ]⟩
 | p :: r,ks,ds,h=>by
  obtain ⟨h1,h2⟩:=Hg (k:=p.1) (d:=p.2) h
  obtain ⟨h3,h4⟩:=uz (es:=r) h1
  rw [iZ]
  refine ⟨h3,fun x=>?_⟩
  rw [h4,h2]
  constructor
  .rintro ((z | z) | ⟨q,hq,z⟩)
   .exact .inl z
   .exact .inr ⟨p,by simp,z.symm⟩
   .exact .inr ⟨q,by simp [hq],z⟩
  .rintro (z | ⟨q,hq,z⟩)
   .exact .inl (.inl z)
   .rcases List.mem_cons.mp hq with y | y
    .subst y; exact .inl (.inr z.symm)
    .exact .inr ⟨q,y,z⟩
def Dn (ns:List Str) (d:D):Prop:=∃ ks ds,d = .dct .own ks ds/\(∀ e∈ds,∃ i:Int,e = .int i)/\∀ x∈ns,∃ (j:Nat) (i:Int),lZ ks (.inr x)=some j/\ds[j]? = some (.int i)
def pD (p:Str×Int):D:=.tup [.str p.1,.int p.2]
theorem BW:∀ ps:List (Str×Int),yW (ps.map pD)=some (ps.map fun p=>(Sum.inr p.1,.int p.2))
 | []=>rfl
 | p :: r=>by simp [yW,pD,mG,BW r]
theorem Jv {ps:List (Str×Int)} (hl:ps.length<=50000):Wp (vp [.lst .own (ps.map pD)]) fun d=>Dn (ps.map (·.1)) d/\clean d=true:=by
 simp only [vp]
 rw [if_pos ⟨rfl,by simpa using hl⟩,BW]
 refine aA.mpr ?_
 have hok:=uz (es:=ps.map fun p=>((Sum.inr p.1:Key),D.int p.2)) (ks:=[]) (ds:=[]) rfl
 have hall:=rZ (fun d=>∃ i:Int,d = .int i) (es:=ps.map fun p=>((Sum.inr p.1:Key),D.int p.2)) (ks:=[]) (ds:=[]) (by simp) (fun q hq=>by obtain ⟨p,_,rfl⟩:=List.mem_map.mp hq; exact ⟨p.2,rfl⟩)
 refine ⟨⟨_,_,rfl,hall,fun x hx=>?_⟩,Dv (fQ fun d hd=>by obtain ⟨i,rfl⟩:=hall d hd; rfl) (e_ fun d hd=>by obtain ⟨i,rfl⟩:=hall d hd; rfl)⟩
 obtain ⟨p,hp,rfl⟩:=List.mem_map.mp hx
 obtain ⟨j,h1,h2⟩:=Jx ((hok.2 (Sum.inr p.1)).mpr (.inr ⟨_,List.mem_map.mpr ⟨p,hp,rfl⟩,rfl⟩))
 have hjl:j < (iZ [] [] (ps.map fun p=>((Sum.inr p.1:Key),D.int p.2))).2.length:=by rw [← hok.1]; exact h2
 obtain ⟨i,hi⟩:=hall _ (List.getElem_mem hjl)
 exact ⟨j,i,h1,by rw [List.getElem?_eq_getElem hjl,hi]⟩
abbrev Jt:=Str×Str×Int
def jD (j:Jt):D:=.tup [.str j.1,.str j.2.1,.int j.2.2]
theorem iG (l:List Jt):aD (l.map jD)=true:=fQ fun d hd=>by obtain ⟨x,_,rfl⟩:=List.mem_map.mp hd; rfl
theorem iH (l:List Jt):aG (l.map jD)=true:=e_ fun d hd=>by obtain ⟨x,_,rfl⟩:=List.mem_map.mp hd; rfl
theorem jj (b:Bool) (l:List Jt):bI b (l.map jD)=l.map jD:=by rw [iQ,List.map_map]; rfl
theorem jm (l:List Jt):fzL (l.map jD)=l.map jD:=by rw [j6,List.map_map]; rfl
theorem jf (l:List Jt):dq (l.map jD)=l.map jD:=by rw [jF,List.map_map]; rfl
theorem Bj:∀ l:List Jt,lC (l.map jD)=true
 | []=>rfl
 | j :: r=>by simp [lC,jD,j5,Bj r]
theorem Fy:∀ l:List Jt,dpL (dtL (l.map jD))<=2
 | []=>by simp [dtL,dpL]
 | j :: r=>by
  have:=Fy r
  simp [dtL,jD,dt,dpL,dp]
  omega
theorem iz {m:Mk} {l:List Jt}:gNe (.lst m (l.map jD)) (.lst .own [])=some (.bl (!l.isEmpty)):=by
 unfold gNe
 have h1:=Bj l
 have h2:=Fy l
 rw [if_pos ⟨by simpa [j5] using h1,rfl,by simp only [dt,dp]; omega,by decide⟩]
 cases l with
 | nil=>rfl
 | cons j r=>rfl
theorem eq_int {i j:Int}:gEq (.int i) (.int j)=some (.bl (decide (i=j))):=by
 unfold gEq
 rw [if_pos ⟨rfl,rfl,by simp [dt,dp],by simp [dt,dp]⟩]
 simp [dt,eqD]
 exact Bool.eq_iff_iff.mpr (by simp)
theorem Fg {cap:List (Option Nat)} {tg:D->En->Option En} {c:En->Option Bool} {e:En->Option (D×En)} {Q:List D×En->Prop} (I:Nat->List D->En->Prop) {items:List D} {ρ:En} (h0:I 0 [] ρ)
  (hs:∀ (i:Nat) (d:D) (acc:List D) (ρ:En),items[i]? = some d->I i acc ρ->Wp (tg d (dZ cap ρ)) fun ρ1=>Wp (c ρ1) fun b=>if b=true then Wp (e ρ1) fun p=>clean p.1=true/\I (i + 1) (acc++[p.1]) (bK cap p.2 ρ) else I (i + 1) acc ρ)
  (h:∀ ys ρ,I items.length ys ρ->Q (ys,ρ)):Wp (l_ cap tg c e items ρ) Q:=by
 have:=By (cap:=cap) (tg:=tg) (c:=c) (e:=e) (Q:=Q) I (items:=items) (ρ:=ρ) (k:=0) (acc:=[]) h0 (fun i d acc ρ hi hI=>by
  rw [Nat.zero_add] at hI ⊢
  exact hs i d acc ρ hi hI) fun ys ρ hI=>h ys ρ (by rw [Nat.zero_add] at hI; exact hI)
 simpa using this
theorem j4 {Q:Fl->Prop} {tg:D->En->Option En} {body:En->Option Fl} (I:Nat->En->Prop) {items:List D} {ρ:En} (h0:I 0 ρ)
  (hs:∀ (i:Nat) (d:D) (ρ:En),items[i]? = some d->I i ρ->Wp (tg d ρ) fun ρ1=>Wp (body ρ1) fun r=>match r with
   | .nx ρ2=>I (i + 1) ρ2
   | .cnt ρ2=>I (i + 1) ρ2
   | .brk ρ2=>Q (.nx ρ2)
   | .ret d ρ2=>Q (.ret d ρ2))
  (h:∀ ρ,I items.length ρ->Q (.nx ρ)):Wp (forL tg body items ρ) Q:=
 Kq (k:=0) I h0 (fun i d ρ hi hI=>by
  rw [Nat.zero_add] at hI ⊢
  exact hs i d ρ hi hI) fun ρ hI=>h ρ (by rw [Nat.zero_add] at hI; exact hI)
theorem dG {f g:En->Option Fl} {ρ:En} {Q:Fl->Prop} (P:En->Prop) (h1:∀ Q':Fl->Prop,(∀ ρ',P ρ'->Q' (.nx ρ'))->Wp (f ρ) Q') (h2:∀ ρ',P ρ'->Wp (g ρ') Q):Wp (bG f g ρ) Q:=by
 rw [cY]
 exact h1 _ fun ρ' h=>h2 ρ' h
theorem lB (j:Jt):aH (jD j)=true:=rfl
theorem lz (j:Jt):aF (jD j)=true:=rfl
theorem lW (b:Bool) (j:Jt):view b (jD j)=jD j:=rfl
theorem lO (j:Jt):fz (jD j)=jD j:=rfl
theorem mD (j:Jt):fzo (jD j)=jD j:=rfl
theorem jr (j:Jt):gSl (jD j) none (some 2)=some (.tup [.str j.1,.str j.2.1]):=rfl
theorem iw (m:Mk) (l:List Jt):dI [.lst m (l.map jD)]=some (.int l.length):=by simp [dI]
theorem len_strs (m:Mk) (l:List Str):dI [.lst m (l.map D.str)]=some (.int l.length):=by simp [dI]
theorem fU (l:List Jt):dI [.tup (l.map jD)]=some (.int l.length):=by simp [dI]
theorem cV (l:List Str):dI [.tup (l.map D.str)]=some (.int l.length):=by simp [dI]
theorem kW {m:Mk} {l:List D} {i:Int}:gIx (.lst m l) (.int i)=atI l i:=rfl
theorem lX {l:List D} {i:Int}:gIx (.tup l) (.int i)=atI l i:=rfl
mutual
def tz:D->Nat
 | .int i=>i.natAbs + 2
 | .str x=>(reprText x).length
 | .tup ds=>4 + tzL ds
 | .lst _ ds=>4 + tzL ds
 | _=>5
def tzL:List D->Nat
 | []=>0
 | d :: r=>tz d + 2 + tzL r
end
mutual
def dz:D->Nat
 | .tup ds=>1 + dzL ds
 | .lst _ ds=>1 + dzL ds
 | _=>0
def dzL:List D->Nat
 | []=>0
 | d :: r=>max (dz d) (dzL r)
end
theorem BV:∀ (ts:List Str) (k:Nat) (a:Str),(textFrom k a ts).length<=a.length + (ts.map fun t=>t.length + 2).sum
 | [],k,a=>by rw [textFrom.eq_1]; simp
 | t :: ts,k,a=>by
  rw [textFrom.eq_2]
  have h1:=BV ts (k + 1) (a++Str.ofString (if k > 0 then ", " else "")++t)
  rw [Str.length_append,Str.length_append] at h1
  have h3:(Str.ofString (if k > 0 then ", " else "")).length<=2:=by split <;> decide
  rw [List.map_cons,List.sum_cons]
  omega
theorem xY:∀ ts:List Str,piled ts=(ts.map fun t=>t.length + 2).sum
 | []=>rfl
 | t :: r=>by rw [List.map_cons,List.sum_cons,← xY r]; simp [piled]
theorem J2 (ts:List Str):(Str.join ", " ts).length<=(ts.map fun t=>t.length + 2).sum:=by
 cases ts with
 | nil=>decide
 | cons t r=>
  have:=join_length_add (t :: r) (by simp)
  rw [xY] at this
  omega
theorem Gd {i:Int} (h:i.natAbs<=1000000):i.natAbs.log2 < 1920:=by
 by_cases h0:i.natAbs=0
 .rw [h0]; decide
 .exact (Nat.log2_lt h0).mpr (Nat.lt_of_lt_of_le (show i.natAbs < 2 ^ 20 by omega) (Nat.pow_le_pow_right (by decide) (by decide)))
mutual
theorem yh:∀ {d:D},j5 d=true->tz d<=1000000->(pyD (dt d)).shown.length<=tz d/\(pyD (dt d)).showable=true/\(pyD (dt d)).depth<=dz d
 | .non,_,_=>⟨by decide,rfl,by decide⟩
 | .bl b,_,_=>by cases b <;> exact ⟨by decide,rfl,by decide⟩
 | .int i,_,h=>by
  have h1:=len_str_of_int i
  rw [tz] at h
  refine ⟨by simp only [dt,pyD,PyData.shown,tz]; omega,?_,?_⟩
  .simp only [dt,pyD,PyData.showable]
   exact decide_eq_true (Gd (by omega))
  .simp [dt,pyD,PyData.depth,dz]
 | .str x,_,_=>⟨by simp [dt,pyD,PyData.shown,tz],by simp [dt,pyD,PyData.showable],by simp [dt,pyD,PyData.depth,dz]⟩
 | .tup ds,h,hz=>by
  rw [j5] at h
  rw [tz] at hz
  obtain ⟨h1,h2,h3⟩:=rH h (by omega)
  refine ⟨?_,by simpa [dt,pyD,PyData.showable] using h2,by simp only [dt,pyD,PyData.depth,dz]; omega⟩
  simp only [dt,pyD,PyData.shown,tz]
  unfold tupleText
  rw [Str.length_append,Str.length_append]
  have h4:(Str.ofString "(").length=1:=by decide
  have h5:(Str.ofString (if ((PyData.shownAll (pyL (dtL ds))).length == 1)=true then ",)" else ")")).length<=2:=by split <;> decide
  have h6:=J2 (PyData.shownAll (pyL (dtL ds)))
  omega
 | .lst m ds,h,hz=>by
  rw [j5] at h
  rw [tz] at hz
  obtain ⟨h1,h2,h3⟩:=rH h (by omega)
  refine ⟨?_,by simpa [dt,pyD,PyData.showable] using h2,by simp only [dt,pyD,PyData.depth,dz]; omega⟩
  simp only [dt,pyD,PyData.shown,tz]
  unfold listText
  rw [Str.length_append]
  have h4:(Str.ofString "[").length=1:=by decide
  have h5:(Str.ofString "]").length=1:=by decide
  have h6:=BV (PyData.shownAll (pyL (dtL ds))) 0 "["
  omega
 | .ty _,h,_=>by simp [j5] at h
 | .dct _ _ _,h,_=>by simp [j5] at h
 | .ins _ _ _ _,h,_=>by simp [j5] at h
theorem rH:∀ {ds:List D},lC ds=true->tzL ds<=1000000->((PyData.shownAll (pyL (dtL ds))).map fun t=>t.length + 2).sum<=tzL ds/\PyData.showableAll (pyL (dtL ds))=true/\PyData.depthAll (pyL (dtL ds))<=dzL ds
 | [],_,_=>by simp [dtL,pyL,PyData.shownAll,PyData.showableAll,PyData.depthAll,tzL,dzL]
 | d :: r,h,hz=>by
  rw [lC,Bool.and_eq_true] at h
  rw [tzL] at hz
  obtain ⟨h1,h2,h3⟩:=yh h.1 (by omega)
  obtain ⟨k1,k2,k3⟩:=rH h.2 (by omega)
  simp only [dtL,pyL,PyData.shownAll,PyData.showableAll,PyData.depthAll,tzL,dzL,List.map_cons,List.sum_cons,h2,k2]
  refine ⟨by omega,rfl,?_⟩
  omega
end
theorem Om {d:D} (h:j5 d=true) (hz:tz d<=1000000) (hd:dz d<=50):∃ x,xT [d]=some (.str x):=by
 obtain ⟨h1,h2,h3⟩:=yh h hz
 have hs:(1000000:Nat)<=sizeLine:=by decide
 cases d with
 | non=>exact ⟨_,rfl⟩
 | bl b=>exact ⟨_,rfl⟩
 | int i=>
  rw [tz] at hz
  exact ⟨_,by simp only [xT]; rw [if_pos (Gd (by omega))]⟩
 | str x=>exact ⟨_,rfl⟩
 | tup ds=>exact ⟨_,by simp only [xT]; rw [if_pos ⟨h,by omega,h2,by omega⟩]⟩
 | lst m ds=>exact ⟨_,by simp only [xT]; rw [if_pos ⟨h,by omega,h2,by omega⟩]⟩
 | ty n=>simp [j5] at h
 | dct m ks ds=>simp [j5] at h
 | ins m c fs ds=>simp [j5] at h
def gk:List D->Option D:=fnP 2 4 ((bG (bW (eC (.int 0)) (tgN 2))
  (bG (sIf (eB (e2 gLt (aq false 1) (eAp dI (ak (aq false 0) aB)))) (bW (e2 gIx (aq false 0) (aq false 1)) (tgN 2)) cg)
  (bG (bW (e2 jE (eAp vC (ak (aq false 2) aB)) (eAp yw (ak (e2 gGe (eAp vC (ak (aq false 2) aB)) (e2 tV (eC (.int 10)) (eC (.int 18)))) aB))) (tgN 3))
  (bO (eAp bM (ak (aq false 3) (ak (e2 lF (e2 jE (e2 dh (e2 dh (e2 lF (aq false 2) (eC (.int 2147483647))) (e2 jE (eC (.int 7919)) (aq false 1))) (eC (.int 11))) (eC (.int 48271))) (eC (.int 2147483629))) aB))))))))
def az:List D->Option (D×List D):=fnI (fun i=>i == 0) 2 4 ((bG (sIf (eB (e2 gGt (e2 gIx (aq true 0) (eC (.int 0))) (eC (.int 0)))) (bG (bW (e2 lF (e2 gIx (aq true 0) (eC (.int 0))) (aq false 1)) (tgN 2))
  (bG (bW (e2 nP (e2 gIx (aq true 0) (eC (.int 0))) (aq false 1)) (cN sr 0 (d_ 0) (eC (.int 0))))
  (b_ 2))) cg)
  (bG (bW (e2 lF (e2 dh (e2 jE (e2 gIx (aq true 0) (eC (.int 1))) (eC (.int 48271))) (eC (.int 39373))) (eC (.int 2147483647))) (cN sr 0 (d_ 0) (eC (.int 1))))
  (bG (bW (e2 lF (e2 jE (e2 gIx (aq true 0) (eC (.int 1))) (e2 dh (e2 lF (e2 gIx (aq true 0) (eC (.int 1))) (eC (.int 40009))) (eC (.int 7)))) (eC (.int 2147483587))) (tgN 3))
  (bO (e2 lF (e2 nP (aq false 3) (eC (.int 64))) (aq false 1)))))))
def ig:List D->Option (D×List D):=fnI (fun i=>i == 0) 1 1 ((cu (ee2 gIx (eUp (eAp bM (ak (eC (.int 0)) (ak (eC (.int 0)) (ak (eC (.int 0)) (ak (eC (.int 2)) (ak (eC (.int 3)) (ak (eC (.int 7)) (ak (eC (.int 1000)) (ak (eC (.int 1)) aB)))))))))) (eIo az [0] (bc (ak (eC (.int 8)) aB))))))
def fj:List D->Option (D×List D):=fnI (fun i=>i == 0) 3 12 ((bG (bW (eAp bM aB) (tgN 3))
  (bG (aX (ee2 gIx (eUp (eAp bM (ak (eC (.int 3)) (ak (eC (.int 3)) (ak (eC (.int 12)) (ak (eC (.int 12)) (ak (eC (.int 12)) (ak (e2 jE (eC (.int 4)) (e2 tV (eC (.int 10)) (eC (.int 11)))) aB)))))))) (eIo az [0] (bc (ak (eC (.int 6)) aB)))) (tgN 4))
  (bG (aX (dJ vp (aP (bF [none,some 4,some 0] (itS (aq false 1)) (tgN 0) eTT (dJ bL (aP (eUp (aq false 0)) (aP (ee2 lA (eIo az [2] (bc (ak (e2 jE (eC (.int 2)) (aq false 1)) aB))) (eUp (aq false 1))) (bc aB))))) (bc aB))) (tgN 5))
  (bG (aX (ee2 gIx (eUp (eAp bM (ak (eC (.int 0)) (ak (eC (.int 0)) (ak (eC (.int 3)) (ak (eC (.int 12)) aB)))))) (eIo az [0] (bc (ak (eC (.int 4)) aB)))) (tgN 6))
  (bG (cH (cQ (aP (eIo az [0] (bc (ak (e2 dh (e2 jE (eC (.int 2)) (eAp dI (ak (aq false 1) aB))) (eC (.int 1))) aB))) (bc aB))) (tgN 7) (bG (bw (aP (ee2 gIx (eUp (aq false 1)) (eIo az [0] (bc (ak (eAp dI (ak (aq false 1) aB)) aB)))) (aP (ee2 gIx (eUp (aq false 1)) (eIo az [0] (bc (ak (eAp dI (ak (aq false 1) aB)) aB)))) (bc aB))) (aJ (tgN 8) (aJ (tgN 9) aU)))
  (bG (aX (eIo az [0] (bc (ak (eC (.int 9)) aB))) (tgN 10))
  (bG (sIf (eB (e2 gEq (aq false 10) (eC (.int 0)))) (bW (aq false 8) (tgN 9)) cg)
  (bG (sIf (fK (eB (e2 gEq (aq false 10) (eC (.int 1)))) (eB (e2 gNe (aq false 3) (eAp bM aB)))) (aX (fX (ee2 gIx (eUp (aq false 3)) (eIo az [0] (bc (ak (eAp dI (ak (aq false 3) aB)) aB)))) bx (bf (eC (.int 2)))) (tgT 2 (aJ (tgN 8) (aJ (tgN 9) aU)))) cg)
  (bG (sIf (fK (eB (e2 gEq (aq false 10) (eC (.int 2)))) (eB (e2 gNe (aq false 3) (eAp bM aB)))) (aX (fX (ee2 gIx (eUp (aq false 3)) (eIo az [0] (bc (ak (eAp dI (ak (aq false 3) aB)) aB)))) bx (bf (eC (.int 2)))) (tgT 2 (aJ (tgN 9) (aJ (tgN 8) aU)))) cg)
  (bG (aX (ee2 dh (eUp (e2 lA (e2 gIx (aq false 5) (aq false 9)) (e2 gIx (aq false 5) (aq false 8)))) (ee2 jE (eUp (aq false 2)) (ee2 lA (eIo az [0] (bc (ak (eC (.int 5)) aB))) (eUp (eC (.int 2)))))) (tgN 11))
  (bG (eZ (cB (fD (eB (e2 gGt (aq false 6) (eC (.int 0))))) (eeB (ee2 gEq (eIo az [0] (bc (ak (aq false 6) aB))) (eUp (eC (.int 0)))))) (aX (ee2 dh (eUp (aq false 11)) (ee2 gIx (eUp (eAp bM (ak (eC (.int 1)) (ak (e1 jt (eC (.int 1))) (ak (eC (.int 2)) (ak (e2 tV (eC (.int 10)) (eC (.int 11))) aB)))))) (eIo az [0] (bc (ak (eC (.int 4)) aB))))) (tgN 11)) cg)
  (eV cA 3 (d_ 3) (ak (eAp bL (ak (aq false 8) (ak (aq false 9) (ak (aq false 11) aB)))) aB))))))))))
  (b_ 3)))))))
def gF:List D->Option (D×List D):=fnI (fun i=>i == 0) 1 4 ((bG (bW (eMt um (eC (.str "b aa zebra c quartzes ab m knows d mm likes z a ba abcdefgh y")) (ak (eC (.str " ")) aB)) (tgN 1))
  (bG (aX (eIo az [0] (bc (ak (eC (.int 16)) aB))) (tgN 2))
  (bG (aX (ee2 gIx (dJ bM (aP (eIo az [0] (bc (ak (eC (.int 3)) aB))) (aP (ee2 dh (eUp (eC (.int 10))) (eIo az [0] (bc (ak (eC (.int 5)) aB)))) (aP (ee2 dh (eUp (eC (.int 4))) (eIo az [0] (bc (ak (eC (.int 5)) aB)))) (bc aB))))) (dJ pL (aP (eUp (eC (.int 2))) (aP (eIo az [0] (bc (ak (eC (.int 8)) aB))) (bc aB))))) (tgN 3))
  (bO (bH [none,some 1,some 2] (dO (ak (aq false 3) aB)) (tpN 0) eTT (e2 gIx (aq false 1) (e2 lF (e2 dh (aq false 2) (e2 jE (eC (.int 5)) (aq false 0))) (eC (.int 16))))))))))
def gO:List D->Option (D×List D):=fnI (fun i=>i == 0) 3 14 ((bG (cJ (ak (eAp bM aB) (ak (eAp bM (ak (aq false 2) aB)) aB)) (aJ (tgN 3) (aJ (tgN 4) aU)))
  (bG (dF (dO (ak (eC (.int 8)) aB)) (tgN 5) (bG (bW (eAp bM aB) (tgN 6))
  (bG (dF (itE (ak (aq false 1) aB)) (tgT 2 (aJ (tgN 7) (aJ (tgN 8) aU))) (dF (itS (eAp bL (ak (eC (.int 1)) (ak (e1 jt (eC (.int 1))) aB)))) (tgN 9) (bG (bW (e2 lU (eSl (aq false 8) bx (bf (eC (.int 2)))) (aq false 9)) (tgT 2 (aJ (tgN 10) (aJ (tgN 11) aU))))
  (sIf (fK (eB (e2 gEq (aq false 10) (e2 gIx (aq false 4) (e1 jt (eC (.int 1)))))) (fK (eB (e2 jL (aq false 11) (eSl (aq false 4) (bf (eC (.int 1))) bx))) (eB (e2 jL (aq false 7) (bH [none] (itS (aq false 3)) (tpN 0) eTT (e2 gIx (aq false 0) (eC (.int 0)))))))) (eV cA 6 (d_ 6) (ak (eAp bL (ak (aq false 7) (ak (aq false 9) (ak (aq false 11) aB)))) aB)) cg))))
  (sIf (eB (e2 gNe (aq false 6) (eAp bM aB))) (bG (bW (bH [none,some 2] (itS (aq false 6)) (tpN 0) (eB (e2 gEq (e2 gIx (aq false 0) (eC (.int 2))) (aq false 1))) (aq false 0)) (tgN 12))
  (bG (aX (ee2 gIx (eUp (aq false 6)) (eIo az [0] (bc (ak (eAp dI (ak (aq false 6) aB)) aB)))) (tgN 13))
  (bG (eZ (cB (fD (eB (e2 gNe (aq false 12) (eAp bM aB)))) (eeB (ee2 gEq (eIo az [0] (bc (ak (eC (.int 2)) aB))) (eUp (eC (.int 0)))))) (aX (ee2 gIx (eUp (aq false 12)) (eIo az [0] (bc (ak (eAp dI (ak (aq false 12) aB)) aB)))) (tgN 13)) cg)
  (bG (eV cA 3 (d_ 3) (ak (eSl (aq false 13) bx (bf (eC (.int 2)))) aB))
  (bG (eV cA 4 (d_ 4) (ak (e2 gIx (aq false 13) (eC (.int 2))) aB))
  (sIf (eB (e2 gEq (e2 gIx (aq false 13) (eC (.int 2))) (aq false 2))) (bO (eAp g8 (ak (aq false 3) aB))) cg)))))) cg))))
  (bO (eAp g8 (ak (aq false 3) aB))))))
def fV:List D->Option (D×List D):=fnI (fun i=>i == 0) 1 2 ((bG (bW (eAp bM (ak (eC .non) (ak (eC (.bl true)) (ak (eC (.bl false)) (ak (eC (.int 0)) (ak (e1 jt (eC (.int 1))) (ak (eC (.int 7)) (ak (eC (.str "")) (ak (eC (.str "a")) (ak (eC (.str "nobody")) (ak (eAp bL aB) (ak (eAp bM aB) (ak (eAp bL (ak (eC (.int 0)) aB)) (ak (eAp bL (ak (eC (.int 0)) (ak (eC (.int 1)) aB))) (ak (eAp bL (ak (eC (.int 0)) (ak (eC (.int 2)) aB))) (ak (eAp bL (ak (eC (.bl true)) (ak (eC (.int 1)) aB))) (ak (eAp bL (ak (eC (.int 0)) (ak (eC (.bl true)) aB))) (ak (eAp bM (ak (eC (.int 0)) (ak (eC (.int 1)) aB))) aB)))))))))))))))))) (tgN 1))
  (bG (sFz 1 (bW (e2 dh (aq false 1) (eAp bM (ak (eAp bL (ak (eC (.int 0)) (ak (eC (.int 1)) (ak (eC (.int 1)) aB)))) (ak (eAp bL (ak (eC (.str "a")) (ak (eC (.int 0)) aB))) (ak (eAp bM (ak (eC (.str "a")) (ak (eC (.int 0)) aB))) (ak (eAp bL (ak (eAp bL (ak (eC (.str "a")) (ak (eC (.int 0)) aB))) aB)) (ak (eAp bM (ak (eAp bM aB) aB)) (ak (eAp bL (ak (eC (.str "a")) (ak (eC .non) aB))) (ak (eAp bL (ak (eC .non) (ak (eC (.int 1)) aB))) (ak (eAp bL (ak (eC (.str "0")) (ak (eC (.int 1)) aB))) aB)))))))))) (tgN 1)))
  (sFz 1 (cu (ee2 gIx (eUp (aq false 1)) (eIo az [0] (bc (ak (eAp dI (ak (aq false 1) aB)) aB)))))))))
def ik:List D->Option (D×List D):=fnI (fun i=>i == 0) 3 5 ((bG (aX (eIo az [0] (bc (ak (e2 dh (eAp dI (ak (aq false 1) aB)) (eC (.int 1))) aB))) (tgN 3))
  (bG (aX (eIo az [0] (bc (ak (eC (.int 5)) aB))) (tgN 4))
  (bG (sIf (eB (e2 gEq (aq false 4) (eC (.int 0)))) (bO (e2 dh (eSl (aq false 1) bx (bf (aq false 3))) (eSl (aq false 1) (bf (e2 dh (aq false 3) (eC (.int 1)))) bx))) cg)
  (bG (sIf (eB (e2 gEq (aq false 4) (eC (.int 1)))) (bO (e2 dh (e2 dh (eSl (aq false 1) bx (bf (aq false 3))) (eSl (aq false 1) (bf (aq false 3)) (bf (e2 dh (aq false 3) (eC (.int 1)))))) (eSl (aq false 1) (bf (aq false 3)) bx))) cg)
  (bG (sIf (eB (e2 gEq (aq false 4) (eC (.int 2)))) (bO (e2 dh (e2 dh (eSl (aq false 1) bx (bf (aq false 3))) (eAp bM (ak (aq false 2) aB))) (eSl (aq false 1) (bf (e2 dh (aq false 3) (eC (.int 1)))) bx))) cg)
  (bO (e2 dh (e2 dh (eSl (aq false 1) bx (bf (aq false 3))) (eAp bM (ak (aq false 2) aB))) (eSl (aq false 1) (bf (aq false 3)) bx)))))))))
def gh:List D->Option (D×List D):=fnI (fun i=>i == 0) 3 6 ((bG (bW (eAp bM (ak (aq false 2) (ak (eAp nM (ak (aq false 2) aB)) (ak (e2 dh (aq false 2) (aq false 2)) (ak (e2 lU (aq false 2) (e1 jt (eC (.int 1)))) (ak (eAp g8 (ak (bH [none,none] (itS (e2 lU (aq false 2) (e1 jt (eC (.int 1))))) (tpT 2 (aJ (tpN 0) (aJ (tpN 1) aU))) eTT (eAp bL (ak (aq false 0) (ak (e1 jt (aq false 1)) aB)))) aB)) (ak (eAp bL aB) aB))))))) (tgN 3))
  (bG (eV cA 3 (d_ 3) (ak (eAp g8 (ak (bH [none,none] (itS (aq false 2)) (tpT 2 (aJ (tpN 0) (aJ (tpN 1) aU))) eTT (eAp bL (ak (aq false 0) (ak (e1 jt (aq false 1)) aB)))) aB)) aB))
  (bG (dF (dO (ak (eC (.int 6)) aB)) (tgN 4) (bG (aX (eIo fV [0] (bc aB)) (tgN 5))
  (bG (eZ (eeB (ee2 gEq (eIo az [0] (bc (ak (eC (.int 2)) aB))) (eUp (eC (.int 0))))) (aX (dJ bL (aP (ee2 lA (eIo az [0] (bc (ak (e2 dh (eAp dI (ak (aq false 1) aB)) (eC (.int 2))) aB))) (eUp (eC (.int 1)))) (aP (ee2 gIx (eUp (eAp bM (ak (eC (.int 1)) (ak (e1 jt (eC (.int 1))) (ak (eC (.int 0)) (ak (eC (.int 2)) aB)))))) (eIo az [0] (bc (ak (eC (.int 4)) aB)))) (bc aB)))) (tgN 5)) cg)
  (cR cA 3 (d_ 3) (aP (dJ g8 (aP (eIo ik [0] (bc (ak (eAp nM (ak (aq false 2) aB)) (ak (aq false 5) aB)))) (bc aB))) (bc aB))))))
  (sFz 3 (cu (ee2 dh (eUp (aq false 3)) (dJ bM (aP (eIo fV [0] (bc aB)) (aP (dJ bL (aP (eIo fV [0] (bc aB)) (bc aB))) (bc (ak (bH [none] (itS (aq false 2)) (tpN 0) eTT (eAp nM (ak (aq false 0) aB))) (ak (eAp bL (ak (aq false 2) aB)) aB)))))))))))))
def iR:List D->Option D:=fnP 2 5 ((bG (bW (aq false 0) (tgT 3 (aJ (tgN 2) (aJ (tgN 3) (aJ (tgN 4) aU)))))
  (bG (sIf (eB (e2 gEq (aq false 1) (eC (.int 1)))) (bO (eAp bL (ak (aq false 2) (ak (aq false 3) aB)))) cg)
  (bO (eAp bL (ak (aq false 3) (ak (aq false 2) aB)))))))
def kj:List D->Option D:=fnP 3 8 ((bG (bW (aq false 1) (tgN 3))
  (bG (dF (itS (aq false 2)) (tgT 2 (aJ (tgN 4) (aJ (tgN 5) aU))) (bG (sIf (eOr (eB (e2 gLt (aq false 4) (eC (.int 0)))) (eB (e2 gGe (aq false 4) (eAp dI (ak (aq false 0) aB))))) (bO (eC .non)) cg)
  (bG (bW (eAp (bj iR) (ak (e2 gIx (aq false 0) (aq false 4)) (ak (aq false 5) aB))) (tgT 2 (aJ (tgN 6) (aJ (tgN 7) aU))))
  (bG (sIf (eB (e2 gNe (aq false 6) (aq false 3))) (bO (eC .non)) cg)
  (bW (aq false 7) (tgN 3))))))
  (b_ 3))))
def gZ:List D->Option D:=fnP 2 2 ((bG (sIf (eB (e2 gEq (aq false 0) (eC (.int 0)))) (b_ 1) cg)
  (bO (e2 lF (aq false 1) (aq false 0)))))
def ie:List D->Option D:=fnP 3 9 ((bG (bW (eC (.int 0)) (tgN 3))
  (bG (dF (itS (aq false 2)) (tgT 2 (aJ (tgN 4) (aJ (tgN 5) aU))) (bG (bW (e2 gIx (aq false 0) (aq false 4)) (tgT 3 (aJ (tgN 6) (aJ (tgN 7) (aJ (tgN 8) aU)))))
  (fW (fun i j=>i + j) 3 (e2 jE (aq false 5) (aq false 8)))))
  (bO (eAp (bj gZ) (ak (aq false 1) (ak (aq false 3) aB)))))))
def eF:List D->Option D:=fnP 1 1 ((bO (eE (eAp cX (ak (aq false 0) (ak (eC (.ty "tuple")) aB))) (e2 gEq (eAp dI (ak (aq false 0) aB)) (eC (.int 2))))))
def fP:List D->Option D:=fnP 1 1 ((bO (eE (eAp cX (ak (aq false 0) (ak (eC (.ty "int")) aB))) (e1 wL (eAp cX (ak (aq false 0) (ak (eC (.ty "bool")) aB)))))))
def iK:List D->Option D:=fnP 1 1 ((bO (eE (eAp (bj eF) (ak (aq false 0) aB)) (eE (eAp (bj fP) (ak (e2 gIx (aq false 0) (eC (.int 0))) aB)) (eE (eAp (bj fP) (ak (e2 gIx (aq false 0) (eC (.int 1))) aB)) (e2 gIn (e2 gIx (aq false 0) (eC (.int 1))) (eAp bL (ak (eC (.int 1)) (ak (e1 jt (eC (.int 1))) aB)))))))))
def gw:List D->Option D:=fnP 1 1 ((bO (eE (eAp cX (ak (aq false 0) (ak (eC (.ty "tuple")) aB))) (eAp Dz (ak (bH [none] (itS (aq false 0)) (tpN 0) eTT (eAp (bj iK) (ak (aq false 0) aB))) aB)))))
def cZ:List D->Option D:=fnP 1 1 ((bO (e2 gEq (eAp jH (ak (aq false 0) aB)) (eAp dI (ak (aq false 0) aB)))))
def gM:List D->Option D:=fnP 2 2 ((bO (bH [none,none,some 0] (itS (aq false 1)) (tpT 2 (aJ (tpN 0) (aJ (tpN 1) aU))) eTT (e2 gIx (eAp (bj iR) (ak (e2 gIx (aq false 2) (aq false 0)) (ak (aq false 1) aB))) (eC (.int 1))))))
def cW:List D->Option D:=fnP 5 5 ((bG (sIf (eOr (eB (e2 jL (aq false 3) (aq false 0))) (eOr (eX (eY (eAp (bj gw) (ak (aq false 4) aB)))) (eB (e2 gEq (eAp dI (ak (aq false 4) aB)) (eC (.int 0)))))) (bO (eC (.bl false))) cg)
  (bG (sIf (eB (e2 gNe (eAp (bj kj) (ak (aq false 1) (ak (aq false 3) (ak (aq false 4) aB)))) (aq false 3))) (bO (eC (.bl false))) cg)
  (bG (sIf (eOr (eX (eY (eAp (bj cZ) (ak (bH [none,none] (itS (aq false 4)) (tpT 2 (aJ (tpN 0) (aJ (tpN 1) aU))) eTT (aq false 0)) aB)))) (eX (eY (eAp (bj cZ) (ak (eAp (bj gM) (ak (aq false 1) (ak (aq false 4) aB))) aB))))) (bO (eC (.bl false))) cg)
  (bO (e2 gNe (eAp (bj ie) (ak (aq false 1) (ak (aq false 2) (ak (aq false 4) aB)))) (eC (.int 0))))))))
def dM:List D->Option D:=fnP 1 2 ((bG (sIf (eX (eY (eAp cX (ak (aq false 0) (ak (eC (.ty "tuple")) aB))))) (bO (eC (.bl false))) cg)
  (bG (dF (itS (aq false 0)) (tgN 1) (bG (sIf (eOr (eX (eY (eAp cX (ak (aq false 1) (ak (eC (.ty "tuple")) aB))))) (eB (e2 gNe (eAp dI (ak (aq false 1) aB)) (eC (.int 2))))) (bO (eC (.bl false))) cg)
  (sIf (eOr (eX (eY (eAp Dz (ak (bH [none] (itS (aq false 1)) (tpN 0) eTT (eE (eAp cX (ak (aq false 0) (ak (eC (.ty "int")) aB))) (e1 wL (eAp cX (ak (aq false 0) (ak (eC (.ty "bool")) aB)))))) aB)))) (eB (e2 jL (e2 gIx (aq false 1) (eC (.int 1))) (eAp bL (ak (eC (.int 1)) (ak (e1 jt (eC (.int 1))) aB)))))) (bO (eC (.bl false))) cg)))
  (bO (eC (.bl true))))))
def iM:List D->Option D:=fnP 3 8 ((bG (bW (eAp bM (ak (aq false 1) aB)) (tgN 3))
  (bG (dF (itS (aq false 2)) (tgT 2 (aJ (tgN 4) (aJ (tgN 5) aU))) (bG (sIf (eX (eB (bz gLe gLt (eC (.int 0)) (aq false 4) (eAp dI (ak (aq false 0) aB))))) (bO (eC .non)) cg)
  (bG (bW (e2 lU (eSl (e2 gIx (aq false 0) (aq false 4)) bx (bf (eC (.int 2)))) (aq false 5)) (tgT 2 (aJ (tgN 6) (aJ (tgN 7) aU))))
  (bG (sIf (eB (e2 gNe (aq false 6) (e2 gIx (aq false 3) (e1 jt (eC (.int 1)))))) (bO (eC .non)) cg)
  (eV cA 3 (d_ 3) (ak (aq false 7) aB))))))
  (b_ 3))))
def dB:List D->Option D:=fnP 2 2 ((bG (sIf (eB (e2 gEq (aq false 0) (eC (.int 0)))) (b_ 1) cg)
  (bO (e2 lA (aq false 1) (e2 jE (e2 nP (aq false 1) (aq false 0)) (aq false 0))))))
def d7:List D->Option D:=fnP 4 5 ((bG (bW (eAp (bj iM) (ak (aq false 0) (ak (aq false 2) (ak (aq false 3) aB)))) (tgN 4))
  (bG (sIf (eOr (eB (e2 gIs (aq false 4) (eC .non))) (eOr (eB (e2 gLt (eAp dI (ak (aq false 4) aB)) (eC (.int 2)))) (eOr (eB (e2 gNe (e2 gIx (aq false 4) (e1 jt (eC (.int 1)))) (aq false 2))) (eB (e2 gNe (eAp jH (ak (eSl (aq false 4) (bf (eC (.int 1))) bx) aB)) (e2 lA (eAp dI (ak (aq false 4) aB)) (eC (.int 1)))))))) (bO (eC (.bl false))) cg)
  (bG (sIf (eB (e2 gNe (eAp jH (ak (bH [none,none] (itS (aq false 3)) (tpT 2 (aJ (tpN 0) (aJ (tpN 1) aU))) eTT (aq false 0)) aB)) (eAp dI (ak (aq false 3) aB)))) (bO (eC (.bl false))) cg)
  (bO (e2 gNe (eAp (bj dB) (ak (aq false 1) (ak (eAp Im (ak (bH [none,none,some 0] (itS (aq false 3)) (tpT 2 (aJ (tpN 0) (aJ (tpN 1) aU))) eTT (e2 jE (aq false 1) (e2 gIx (e2 gIx (aq false 2) (aq false 0)) (eC (.int 2))))) aB)) aB))) (eC (.int 0))))))))
def dD:List D->Option D:=fnP 5 8 ((bG (bW (eAp xT (ak (aq false 4) aB)) (tgN 5))
  (bG (bW (eAp (bj cW) (ak (aq false 0) (ak (aq false 1) (ak (aq false 2) (ak (aq false 3) (ak (aq false 4) aB)))))) (tgN 6))
  (bG (bW (eE (eAp (bj dM) (ak (aq false 4) aB)) (eAp (bj d7) (ak (aq false 1) (ak (aq false 2) (ak (aq false 3) (ak (aq false 4) aB)))))) (tgN 7))
  (bO (eE (eAp cX (ak (aq false 6) (ak (eC (.ty "bool")) aB))) (eE (e2 gEq (aq false 6) (aq false 7)) (e2 gEq (eAp xT (ak (aq false 4) aB)) (aq false 5)))))))))
def dR:List D->Option (D×List D):=fnI (fun i=>i == 0) 2 15 ((bG (aX (dJ bL (aP (eUp (eC (.str "abcdefghijklmnopqrstuvwxyz"))) (aP (ee2 dh (eUp (eC (.int 20))) (eIo az [0] (bc (ak (eC (.int 21)) aB)))) (bc aB)))) (tgT 2 (aJ (tgN 2) (aJ (tgN 3) aU))))
  (bG (bW (bH [none,some 2] (dO (ak (aq false 3) aB)) (tpN 0) eTT (e2 dh (e2 dh (eC (.str "q")) (e2 gIx (aq false 1) (e2 lF (e2 jE (eC (.int 7)) (aq false 0)) (eC (.int 26))))) (e2 gIx (aq false 1) (e2 nP (aq false 0) (eC (.int 26)))))) (tgN 4))
  (bG (cJ (ak (eAp bM aB) (ak (eAp bM aB) aB)) (aJ (tgN 5) (aJ (tgN 6) aU)))
  (bG (dF (dO (ak (aq false 3) aB)) (tgN 7) (bG (bw (aP (ee2 gIx (eUp (eAp bM (ak (eC (.int 1)) (ak (e1 jt (eC (.int 1))) aB)))) (eIo az [0] (bc (ak (eC (.int 2)) aB)))) (aP (ee2 lA (eIo az [0] (bc (ak (eC (.int 9)) aB))) (eUp (eC (.int 4)))) (bc aB))) (aJ (tgN 8) (aJ (tgN 9) aU)))
  (bG (bW (e2 lU (eAp bL (ak (e2 gIx (aq false 4) (aq false 7)) (ak (e2 gIx (aq false 4) (e2 lF (e2 dh (aq false 7) (eC (.int 1))) (aq false 3))) aB))) (aq false 8)) (tgN 10))
  (bG (eV cA 5 (d_ 5) (ak (e2 dh (aq false 10) (eAp bL (ak (aq false 9) aB))) aB))
  (eV cA 6 (d_ 6) (ak (eAp bL (ak (aq false 7) (ak (aq false 8) aB))) aB))))))
  (bG (aX (eIo az [0] (bc (ak (aq false 3) aB))) (tgN 11))
  (bG (bW (e2 dh (e2 dh (eSl (aq false 6) bx (bf (aq false 11))) (eAp bM (ak (eAp bL (ak (e2 gIx (e2 gIx (aq false 6) (aq false 11)) (eC (.int 0))) (ak (e1 jt (e2 gIx (e2 gIx (aq false 6) (aq false 11)) (eC (.int 1)))) aB))) aB))) (eSl (aq false 6) (bf (e2 dh (aq false 11) (eC (.int 1)))) bx)) (tgN 12))
  (bG (bW (e2 dh (eSl (aq false 6) bx (bf (aq false 11))) (eSl (aq false 6) (bf (e2 dh (aq false 11) (eC (.int 1)))) bx)) (tgN 13))
  (bG (sFz 13 (sFz 12 (sFz 6 (dF (itS (eAp bL (ak (aq false 6) (ak (aq false 12) (ak (aq false 13) (ak (e2 dh (eSl (aq false 6) (bf (eC (.int 1))) bx) (eSl (aq false 6) bx (bf (eC (.int 1))))) aB)))))) (tgN 14) (sIf (eX (eY (eAp (bj dD) (ak (aq false 4) (ak (aq false 5) (ak (aq false 1) (ak (e2 gIx (aq false 4) (eC (.int 0))) (ak (eAp g8 (ak (aq false 14) aB)) aB)))))))) (bO (eC (.bl false))) cg)))))
  (bO (eC (.bl true))))))))))))
def nF:List D->Option D:=fnP 1 13 ((bG (dF (dO (ak (e2 dh (eC (.int 1)) (eAp pL (ak (eC (.int 8)) (ak (eAp dI (ak (aq false 0) aB)) aB)))) aB)) (tgN 1) (bG (bW (eAp (bj gk) (ak (aq false 0) (ak (aq false 1) aB))) (tgN 2))
  (bG (aX (ee2 dh (eIo gF [2] (bc aB)) (eUp (eAp bM (ak (eC (.str "last")) aB)))) (tgN 3))
  (bG (aX (eIo ig [2] (bc aB)) (tgN 4))
  (bG (eZ (cB (fD (eB (e2 gLt (aq false 1) (eC (.int 2))))) (cI (cM (eIo dR [2] (bc (ak (aq false 4) aB)))))) (bO (eC (.bl false))) cg)
  (bG (aX (eIo fj [2] (bc (ak (aq false 3) (ak (aq false 4) aB)))) (tgN 5))
  (bG (eZ (cB (fD (eB (e2 gNe (aq false 5) (eAp bM aB)))) (eeB (ee2 gEq (eIo az [2] (bc (ak (eC (.int 2)) aB))) (eUp (eC (.int 0)))))) (bG (aX (ee2 gIx (eUp (aq false 5)) (eIo az [2] (bc (ak (eAp dI (ak (aq false 5) aB)) aB)))) (tgT 3 (aJ (tgN 6) (aJ (tgN 7) (aJ (tgN 8) aU)))))
  (eV cA 5 (d_ 5) (ak (eAp bL (ak (aq false 7) (ak (aq false 6) (ak (e2 lA (eC (.int 1)) (aq false 8)) aB)))) aB))) cg)
  (bG (sFz 5 (sFz 3 (aX (ee2 gIx (eUp (eAp bM (ak (eAp bL (ak (aq false 3) (ak (aq false 5) aB))) (ak (eAp bL (ak (eAp g8 (ak (aq false 3) aB)) (ak (eAp g8 (ak (aq false 5) aB)) aB))) aB)))) (eIo az [2] (bc (ak (eC (.int 2)) aB)))) (tgT 2 (aJ (tgN 3) (aJ (tgN 5) aU))))))
  (dF (dO (ak (eC (.int 4)) aB)) (tgN 9) (bG (aX (ee2 gIx (eUp (aq false 3)) (eIo az [2] (bc (ak (eAp dI (ak (aq false 3) aB)) aB)))) (tgN 10))
  (bG (aX (eIo gO [2] (bc (ak (aq false 5) (ak (aq false 10) aB)))) (tgN 11))
  (bG (cH (gf (eIo gh [2] (bc (ak (aq false 5) (ak (aq false 11) aB))))) (tgN 12) (sIf (eX (eY (eAp (bj dD) (ak (aq false 3) (ak (aq false 5) (ak (aq false 4) (ak (aq false 10) (ak (aq false 12) aB)))))))) (bO (eC (.bl false))) cg))
  (eZ (cI (cM (dJ (bj dD) (aP (eUp (aq false 3)) (aP (eUp (aq false 5)) (aP (eUp (aq false 4)) (aP (ee2 gIx (eUp (aq false 3)) (eIo az [2] (bc (ak (eAp dI (ak (aq false 3) aB)) aB)))) (bc (ak (aq false 11) aB))))))))) (bO (eC (.bl false))) cg)))))))))))))
  (bO (eC (.bl true)))))
def top (i:Nat):Stmt:=PySem.Challenge.pw_joinback_k08_rings_shown.main.body.getD i (.Pass ⟨0,0,0,0⟩)
abbrev kJ:Stmt:=top 14
abbrev kO:Stmt:=top 15
abbrev km:Stmt:=top 18
abbrev gY:Stmt:=top 19
abbrev jo:Stmt:=top 17
abbrev iT:Stmt:=top 25
abbrev lJ:Stmt:=top 23
abbrev k_:Stmt:=top 24
abbrev gq:Stmt:=top 28
abbrev rJ:Stmt:=top 2
abbrev v4:Stmt:=top 3
abbrev lH:Stmt:=top 1
abbrev kZ:Stmt:=top 4
abbrev jQ:Stmt:=top 7
abbrev jR:Stmt:=top 6
abbrev lL:Stmt:=top 8
abbrev lQ:Stmt:=top 9
abbrev jw:Stmt:=top 10
abbrev jq:Stmt:=top 11
abbrev jd:Stmt:=top 12
abbrev i_:Stmt:=top 26
abbrev lK:Stmt:=top 21
abbrev jh:Stmt:=top 20
abbrev gA:Stmt:=top 22
abbrev kY:Stmt:=top 27
abbrev fO:Stmt:=top 29
abbrev qC:Stmt:=top 30
structure Blt (mg:Str->Option Value):Prop where
 abs:mg "abs" = none
 all:mg "all" = none
 bool_:mg "bool" = none
 dict:mg "dict" = none
 enumerate:mg "enumerate" = none
 int_:mg "int" = none
 isinstance:mg "isinstance" = none
 len:mg "len" = none
 list_:mg "list" = none
 min:mg "min" = none
 range:mg "range" = none
 set_:mg "set" = none
 str_:mg "str" = none
 sum:mg "sum" = none
 tuple:mg "tuple" = none
theorem aQ {k:Nat} {A:Around} (r:lD k A):A.units + 1 < cLine:=by have:=r.units; omega
section
variable {P:Program} {w:World} {K:PySem.W.Frag} {mg:Str->Option Value} {base:Heap}
theorem rY:cF ["_law_script", "_law_k", "_law_cell", "_law_digits"] ["_law_script", "_law_k"] (aK kJ):=⟨rfl,rfl,rfl,by decide +kernel,rfl,by decide +kernel,by decide +kernel⟩
theorem yX {f:Addr} {fd:FuncData} (F:Fun K "_law_tape" "_law_tape" kJ f fd) (B:Blt mg)  : iI P w K mg base CX0 1 f fd ["_law_script", "_law_k"] (spP ⟨K,mg⟩ gk):=by
 have nd:∀ _:Unit,_:=fun _=>rY.nd
 refine okP (k:=0) (ob:=(fun i=>false)) (Pr:=fun _=>false) F rY fun cdv A outer s H E hr=>?_
 exact (aC (eO 2 nd au)
   (aC (fG (bR ye (aj false 1) (aY eG (fun _=>rfl) (fun _=>B.len) boot_len (aa (aj false 0) ao))) (aO (eO 2 nd (fJ (ixb (fun _=>aQ hr)) (aj false 0) (aj false 1)))) bZ)
   (aC (eO 3 nd (bJ j7 (aY Bf (fun _=>rfl) (fun _=>B.abs) boot_abs (aa (aj false 2) ao)) (gB Jf (fun _=>rfl) (fun _=>B.int_) boot_int (aa (oU K4 (aY Bf (fun _=>rfl) (fun _=>B.abs) boot_abs (aa (aj false 2) ao)) (bJ zO au au)) ao))))
   (aO (bD (dU (aa (aj false 3) (aa (bJ lR (bJ j7 (bJ cT (bJ cT (bJ lR (aj false 2) au) (bJ j7 au (aj false 1))) au) au) au) ao))))))))
theorem sH:cF ["_law_tape_here", "_law_many", "_law_found", "_law_once"] ["_law_tape_here", "_law_many"] (aK kO):=⟨rfl,rfl,rfl,by decide +kernel,rfl,by decide +kernel,by decide +kernel⟩
theorem yQ {f:Addr} {fd:FuncData} (F:Fun K "_law_draw" "_law_draw" kO f fd) (B:Blt mg)  : iI P w K mg base CX0 1 f fd ["_law_tape_here", "_law_many"] (spI ⟨K,mg⟩ (fun i=>i == 0) (fun i=>i == 0) az):=by
 have nd:∀ _:Unit,_:=fun _=>sH.nd
 refine okI (k:=0) (ob:=(fun i=>i == 0)) (pr:=(fun i=>i == 0)) F sH fun cdv A outer s H E hr=>?_
 exact (aC (fG (bR K3 (fJ (ixb (fun _=>aQ hr)) (aj true 0) au) au) (aC (eO 2 nd (bJ lR (fJ (ixb (fun _=>aQ hr)) (aj true 0) au) (aj false 1)))
   (aC (nG (bJ tZ (fJ (ixb (fun _=>aQ hr)) (aj true 0) au) (aj false 1)) (BK (Bq (fun _=>aQ hr)) (jJ 0) au))
   (aO (mK 2)))) bZ)
   (aC (nG (bJ lR (bJ cT (bJ j7 (fJ (ixb (fun _=>aQ hr)) (aj true 0) au) au) au) au) (BK (Bq (fun _=>aQ hr)) (jJ 0) au))
   (aC (eO 3 nd (bJ lR (bJ j7 (fJ (ixb (fun _=>aQ hr)) (aj true 0) au) (bJ cT (bJ lR (fJ (ixb (fun _=>aQ hr)) (aj true 0) au) au) au)) au))
   (aO (bD (bJ lR (bJ tZ (aj false 3) au) (aj false 1)))))))
theorem sG:cF ["_law_tape_here"] ["_law_tape_here"] (aK km):=⟨rfl,rfl,rfl,by decide +kernel,rfl,by decide +kernel,by decide +kernel⟩
theorem xZ {f:Addr} {fd:FuncData} (F:Fun K "_law_turn" "_law_turn" km f fd) (B:Blt mg) (c_law_draw:Cal P w K mg base 1 "_law_draw" ["_law_tape_here", "_law_many"] (spI ⟨K,mg⟩ (fun i=>i == 0) (fun i=>i == 0) az)):iI P w K mg base CX0 2 f fd ["_law_tape_here"] (spI ⟨K,mg⟩ (fun i=>i == 0) (fun i=>i == 0) ig):=by
 have nd:∀ _:Unit,_:=fun _=>sG.nd
 refine okI (k:=1) (ob:=(fun i=>i == 0)) (pr:=(fun i=>i == 0)) F sG fun cdv A outer s H E hr=>?_
 exact (aO (uR (ji (ixb (fun _=>aQ hr)) (cO (dU (aa au (aa au (aa au (aa au (aa au (aa au (aa au (aa au ao)))))))))) (bU [0] (fun _=>c_law_draw) (fun _=>hr.mono (by decide)) (aZ 0 (a_ (aR (aa au ao))))))))
theorem nR:cF ["_law_tape_here", "_law_names_here", "_law_turn_here", "_law_found", "_law_wide", "_law_kept", "_law_slips", "_law_turn_by", "_law_one", "_law_other", "_law_way", "_law_step"] ["_law_tape_here", "_law_names_here", "_law_turn_here"] (aK gY):=⟨rfl,rfl,rfl,by decide +kernel,rfl,by decide +kernel,by decide +kernel⟩
def pW:Scope:={ kind:=PySem.ScopeKind.function,names:=[ (PySem.Str.ofString ".0",PySem.NameKind.local),(PySem.Str.ofString "_law_name",PySem.NameKind.local),(PySem.Str.ofString "_law_draw",PySem.NameKind.globalImplicit),(PySem.Str.ofString "_law_tape_here",PySem.NameKind.free),(PySem.Str.ofString "_law_wide",PySem.NameKind.free)],isGenerator:=false,isCoroutine:=false,more:=[]:PySem.Scope }
theorem qJ:(["_law_name", "_law_wide", "_law_tape_here"]:List Str).Nodup:=by decide +kernel
theorem qm:gU (aK gY) ["_law_tape_here", "_law_names_here", "_law_turn_here", "_law_found", "_law_wide", "_law_kept", "_law_slips", "_law_turn_by", "_law_one", "_law_other", "_law_way", "_law_step"] ["_law_name", "_law_wide", "_law_tape_here"] pW [none,some 4,some 0]:=⟨rfl,by decide +kernel,by decide +kernel,by decide +kernel,rfl,by decide +kernel⟩
theorem tQ {f:Addr} {fd:FuncData} (F:Fun K "_law_joinings" "_law_joinings" gY f fd) (B:Blt mg) (c_law_draw:Cal P w K mg base 1 "_law_draw" ["_law_tape_here", "_law_many"] (spI ⟨K,mg⟩ (fun i=>i == 0) (fun i=>i == 0) az)):iI P w K mg base CX0 2 f fd ["_law_tape_here", "_law_names_here", "_law_turn_here"] (spI ⟨K,mg⟩ (fun i=>i == 0) (fun i=>i == 0) fj):=by
 have nd:∀ _:Unit,_:=fun _=>nR.nd
 refine okI (k:=1) (ob:=(fun i=>i == 0)) (pr:=(fun i=>i == 0)) F nR fun cdv A outer s H E hr=>?_
 exact (aC (eO 3 nd (dU ao))
   (aC (d8 4 nd (ji (ixb (fun _=>aQ hr)) (cO (dU (aa au (aa au (aa au (aa au (aa au (aa (bJ j7 au (bJ zO au au)) ao)))))))) (bU [0] (fun _=>c_law_draw) (fun _=>hr.mono (by decide)) (aZ 0 (a_ (aR (aa au ao)))))))
   (aC (d8 5 nd (vd (Hf (fun _=>rfl)) (fun _=>rfl) (fun _=>B.dict) boot_dict (bT (Hs [none,some 4,some 0] (fun i=>i == 0) (fun _=>rfl) (fun _=>rfl) (fun _=>qm) (Ka rfl) (jl rfl) (g_ (aj false 1)) (DQ 0 (fun _=>qJ)) iJ (t7 (bT (cO (aj false 0)) (bT (lw oJ (bU [2] (fun _=>c_law_draw) (fun _=>hr.mono (by decide)) (aZ 2 (a_ (aR (aa (bJ j7 au (aj false 1)) ao))))) (cO (aj false 1))) (aR ao))))) (aR ao))))
   (aC (d8 6 nd (ji (ixb (fun _=>aQ hr)) (cO (dU (aa au (aa au (aa au (aa au ao)))))) (bU [0] (fun _=>c_law_draw) (fun _=>hr.mono (by decide)) (aZ 0 (a_ (aR (aa au ao)))))))
   (aC (yp (fun _=>PassesOwn.never) (fun _=>rfl) (IK (fun _=>rfl) (fun _=>B.range) (bT (bU [0] (fun _=>c_law_draw) (fun _=>hr.mono (by decide)) (aZ 0 (a_ (aR (aa (bJ cT (bJ j7 au (aY eG (fun _=>rfl) (fun _=>B.len) boot_len (aa (aj false 1) ao))) au) ao))))) (aR ao))) (aW 7 nd) (aC (yu 8 9 (fun _=>rfl) nd (bT (ji (ixb (fun _=>aQ hr)) (cO (aj false 1)) (bU [0] (fun _=>c_law_draw) (fun _=>hr.mono (by decide)) (aZ 0 (a_ (aR (aa (aY eG (fun _=>rfl) (fun _=>B.len) boot_len (aa (aj false 1) ao)) ao)))))) (bT (ji (ixb (fun _=>aQ hr)) (cO (aj false 1)) (bU [0] (fun _=>c_law_draw) (fun _=>hr.mono (by decide)) (aZ 0 (a_ (aR (aa (aY eG (fun _=>rfl) (fun _=>B.len) boot_len (aa (aj false 1) ao)) ao)))))) (aR ao))))
   (aC (d8 10 nd (bU [0] (fun _=>c_law_draw) (fun _=>hr.mono (by decide)) (aZ 0 (a_ (aR (aa au ao))))))
   (aC (fG (bR (cb_eq _ (fun _=>rfl) hr.units) (aj false 10) au) (aO (eO 9 nd (aj false 8))) bZ)
   (aC (fG (qL (t_ (bR (cb_eq _ (fun _=>rfl) hr.units) (aj false 10) au) (u0 (bR (my _ (fun _=>rfl) hr.units) (aj false 3) (dU ao))))) (aO (oM (wz slb (ji (ixb (fun _=>aQ hr)) (cO (aj false 3)) (bU [0] (fun _=>c_law_draw) (fun _=>hr.mono (by decide)) (aZ 0 (a_ (aR (aa (aY eG (fun _=>rfl) (fun _=>B.len) boot_len (aa (aj false 3) ao)) ao)))))) dX (dw au)) (jk (fun _=>rfl) (bu (aW 8 nd) (bu (aW 9 nd) il))))) bZ)
   (aC (fG (qL (t_ (bR (cb_eq _ (fun _=>rfl) hr.units) (aj false 10) au) (u0 (bR (my _ (fun _=>rfl) hr.units) (aj false 3) (dU ao))))) (aO (oM (wz slb (ji (ixb (fun _=>aQ hr)) (cO (aj false 3)) (bU [0] (fun _=>c_law_draw) (fun _=>hr.mono (by decide)) (aZ 0 (a_ (aR (aa (aY eG (fun _=>rfl) (fun _=>B.len) boot_len (aa (aj false 3) ao)) ao)))))) dX (dw au)) (jk (fun _=>rfl) (bu (aW 9 nd) (bu (aW 8 nd) il))))) bZ)
   (aC (d8 11 nd (lw cT (cO (bJ oJ (fJ (ixb (fun _=>aQ hr)) (aj false 5) (aj false 9)) (fJ (ixb (fun _=>aQ hr)) (aj false 5) (aj false 8)))) (lw j7 (cO (aj false 2)) (lw oJ (bU [0] (fun _=>c_law_draw) (fun _=>hr.mono (by decide)) (aZ 0 (a_ (aR (aa au ao))))) (cO au)))))
   (aC (pA (xn (qH (t6 (bR K3 (aj false 6) au)) (o6 (qG (cb_eq _ (fun _=>rfl) hr.units) (bU [0] (fun _=>c_law_draw) (fun _=>hr.mono (by decide)) (aZ 0 (a_ (aR (aa (aj false 6) ao))))) (cO au))))) (aO (d8 11 nd (lw cT (cO (aj false 11)) (ji (ixb (fun _=>aQ hr)) (cO (dU (aa au (aa (lY jM au) (aa au (aa (bJ zO au au) ao)))))) (bU [0] (fun _=>c_law_draw) (fun _=>hr.mono (by decide)) (aZ 0 (a_ (aR (aa au ao))))))))) bZ)
   (aO (lG iC PySem.F.plainAttrs_list PySem.F.slot_list_append PySem.F.type_list_append (jJ 3) (aa (dY (aa (aj false 8) (aa (aj false 9) (aa (aj false 11) ao)))) ao)))))))))))
   (aO (mK 3)))))))
theorem qx:cF ["_law_tape_here", "_law_some", "_law_first", "_law_many"] ["_law_tape_here"] (aK jo):=⟨rfl,rfl,rfl,by decide +kernel,rfl,by decide +kernel,by decide +kernel⟩
def tU:Scope:={ kind:=PySem.ScopeKind.function,names:=[ (PySem.Str.ofString ".0",PySem.NameKind.local),(PySem.Str.ofString "_law_k",PySem.NameKind.local),(PySem.Str.ofString "_law_first",PySem.NameKind.free),(PySem.Str.ofString "_law_some",PySem.NameKind.free)],isGenerator:=false,isCoroutine:=false,more:=[]:PySem.Scope }
theorem vg:(["_law_k", "_law_some", "_law_first"]:List Str).Nodup:=by decide +kernel
theorem uN:gU (aK jo) ["_law_tape_here", "_law_some", "_law_first", "_law_many"] ["_law_k", "_law_some", "_law_first"] tU [none,some 1,some 2]:=⟨rfl,by decide +kernel,by decide +kernel,by decide +kernel,rfl,by decide +kernel⟩
theorem xN {f:Addr} {fd:FuncData} (F:Fun K "_law_names" "_law_names" jo f fd) (B:Blt mg) (c_law_draw:Cal P w K mg base 1 "_law_draw" ["_law_tape_here", "_law_many"] (spI ⟨K,mg⟩ (fun i=>i == 0) (fun i=>i == 0) az)):iI P w K mg base CX0 2 f fd ["_law_tape_here"] (spI ⟨K,mg⟩ (fun i=>i == 0) (fun i=>i == 0) gF):=by
 have nd:∀ _:Unit,_:=fun _=>qx.nd
 refine okI (k:=1) (ob:=(fun i=>i == 0)) (pr:=(fun i=>i == 0)) F qx fun cdv A outer s H E hr=>?_
 exact (aC (eO 1 nd (Qq CZ PySem.F.plainAttrs_str PySem.F.slot_str_split PySem.F.type_str_split kE (aa kE ao)))
   (aC (d8 2 nd (bU [0] (fun _=>c_law_draw) (fun _=>hr.mono (by decide)) (aZ 0 (a_ (aR (aa au ao))))))
   (aC (d8 3 nd (ji (ixb (fun _=>aQ hr)) (Ay (bT (bU [0] (fun _=>c_law_draw) (fun _=>hr.mono (by decide)) (aZ 0 (a_ (aR (aa au ao))))) (bT (lw cT (cO au) (bU [0] (fun _=>c_law_draw) (fun _=>hr.mono (by decide)) (aZ 0 (a_ (aR (aa au ao)))))) (bT (lw cT (cO au) (bU [0] (fun _=>c_law_draw) (fun _=>hr.mono (by decide)) (aZ 0 (a_ (aR (aa au ao)))))) (aR ao))))) (CW (zx (fun _=>rfl)) (fun _=>rfl) (fun _=>B.min) boot_min (bT (cO au) (bT (bU [0] (fun _=>c_law_draw) (fun _=>hr.mono (by decide)) (aZ 0 (a_ (aR (aa au ao))))) (aR ao))))))
   (aO (bD (jV [none,some 1,some 2] (fun i=>i == 0) (fun _=>rfl) (fun _=>rfl) (fun _=>uN) (jl rfl) (pU (fun _=>rfl) (fun _=>B.range) (aa (aj false 3) ao)) (dH 0 (fun _=>vg)) iJ (fJ (ixb (fun _=>aQ hr)) (aj false 1) (bJ lR (bJ cT (aj false 2) (bJ j7 au (aj false 0))) au))))))))
theorem qR:cF ["_law_tape_here", "_law_joinings_here", "_law_name", "_law_way", "_law_met_here", "_law_turn_here", "_law_some", "_law_number", "_law_joining", "_law_side", "_law_begin", "_law_end", "_law_home", "_law_pick"] ["_law_tape_here", "_law_joinings_here", "_law_name"] (aK iT):=⟨rfl,rfl,rfl,by decide +kernel,rfl,by decide +kernel,by decide +kernel⟩
def tH:Scope:={ kind:=PySem.ScopeKind.function,names:=[(PySem.Str.ofString ".0",PySem.NameKind.local),(PySem.Str.ofString "_law_pair",PySem.NameKind.local)],isGenerator:=false,isCoroutine:=false,more:=[]:PySem.Scope }
theorem vf:(["_law_pair"]:List Str).Nodup:=by decide +kernel
theorem vm:gU (aK iT) ["_law_tape_here", "_law_joinings_here", "_law_name", "_law_way", "_law_met_here", "_law_turn_here", "_law_some", "_law_number", "_law_joining", "_law_side", "_law_begin", "_law_end", "_law_home", "_law_pick"] ["_law_pair"] tH [none]:=⟨rfl,by decide +kernel,by decide +kernel,by decide +kernel,rfl,by decide +kernel⟩
def sY:Scope:={ kind:=PySem.ScopeKind.function,names:=[ (PySem.Str.ofString ".0",PySem.NameKind.local),(PySem.Str.ofString "_law_one",PySem.NameKind.local),(PySem.Str.ofString "_law_name",PySem.NameKind.free)],isGenerator:=false,isCoroutine:=false,more:=[]:PySem.Scope }
theorem uO:(["_law_one", "_law_name"]:List Str).Nodup:=by decide +kernel
theorem uC:gU (aK iT) ["_law_tape_here", "_law_joinings_here", "_law_name", "_law_way", "_law_met_here", "_law_turn_here", "_law_some", "_law_number", "_law_joining", "_law_side", "_law_begin", "_law_end", "_law_home", "_law_pick"] ["_law_one", "_law_name"] sY [none,some 2]:=⟨rfl,by decide +kernel,by decide +kernel,by decide +kernel,rfl,by decide +kernel⟩
theorem xP {f:Addr} {fd:FuncData} (F:Fun K "_law_rings" "_law_rings" iT f fd) (B:Blt mg) (c_law_draw:Cal P w K mg base 1 "_law_draw" ["_law_tape_here", "_law_many"] (spI ⟨K,mg⟩ (fun i=>i == 0) (fun i=>i == 0) az)):iI P w K mg base CX0 2 f fd ["_law_tape_here", "_law_joinings_here", "_law_name"] (spI ⟨K,mg⟩ (fun i=>i == 0) (fun i=>i == 0) gO):=by
 have nd:∀ _:Unit,_:=fun _=>qR.nd
 refine okI (k:=1) (ob:=(fun i=>i == 0)) (pr:=(fun i=>i == 0)) F qR fun cdv A outer s H E hr=>?_
 exact (aC (Cr 3 4 (fun _=>rfl) nd (aa (dU ao) (aa (dU (aa (aj false 2) ao)) ao)))
   (aC (jG (fun _=>PassesOwn.never) (fun _=>rfl) (pU (fun _=>rfl) (fun _=>B.range) (aa au ao)) (aW 5 nd) (aC (eO 6 nd (dU ao))
   (aC (jG (fun _=>PassesOwn.never) (fun _=>rfl) (HS (fun _=>rfl) (fun _=>B.enumerate) (aa (aj false 1) ao)) (jk (fun _=>rfl) (bu (aW 7 nd) (bu (aW 8 nd) il))) (aO (jG (fun _=>PassesOwn.never) (fun _=>rfl) (g_ (dY (aa au (aa (lY jM au) ao)))) (aW 9 nd) (aC (nG (qw (d9 slb (aj false 8) dX (dw au)) (aj false 9)) (jk (fun _=>rfl) (bu (aW 10 nd) (bu (aW 11 nd) il))))
   (aO (fG (qL (t_ (bR (cb_eq _ (fun _=>rfl) hr.units) (aj false 10) (fJ (ixb (fun _=>aQ hr)) (aj false 4) (lY jM au))) (t_ (bR (qF (fun _=>aQ hr)) (aj false 11) (d9 slb (aj false 4) (dw au) dX)) (u0 (bR (qF (fun _=>aQ hr)) (aj false 7) (jV [none] (fun i=>i == 0) (fun _=>rfl) (fun _=>rfl) (fun _=>vm) (jl rfl) (g_ (aj false 3)) (dH 0 (fun _=>vf)) iJ (fJ (ixb (fun _=>aQ hr)) (aj false 0) au))))))) (aO (lG iC PySem.F.plainAttrs_list PySem.F.slot_list_append PySem.F.type_list_append (jJ 6) (aa (dY (aa (aj false 7) (aa (aj false 9) (aa (aj false 11) ao)))) ao))) bZ))))))
   (aO (fG (bR (my _ (fun _=>rfl) hr.units) (aj false 6) (dU ao)) (aC (yS 12 [none,some 2] (fun i=>i == 0) nd (fun _=>rfl) (fun _=>rfl) (fun _=>uC) (jl rfl) (g_ (aj false 6)) (dH 0 (fun _=>uO)) (GK (bR (cb_eq _ (fun _=>rfl) hr.units) (fJ (ixb (fun _=>aQ hr)) (aj false 0) au) (aj false 1))) (aj false 0))
   (aC (d8 13 nd (ji (ixb (fun _=>aQ hr)) (cO (aj false 6)) (bU [0] (fun _=>c_law_draw) (fun _=>hr.mono (by decide)) (aZ 0 (a_ (aR (aa (aY eG (fun _=>rfl) (fun _=>B.len) boot_len (aa (aj false 6) ao)) ao)))))))
   (aC (pA (xn (qH (t6 (bR (my _ (fun _=>rfl) hr.units) (aj false 12) (dU ao))) (o6 (qG (cb_eq _ (fun _=>rfl) hr.units) (bU [0] (fun _=>c_law_draw) (fun _=>hr.mono (by decide)) (aZ 0 (a_ (aR (aa au ao))))) (cO au))))) (aO (d8 13 nd (ji (ixb (fun _=>aQ hr)) (cO (aj false 12)) (bU [0] (fun _=>c_law_draw) (fun _=>hr.mono (by decide)) (aZ 0 (a_ (aR (aa (aY eG (fun _=>rfl) (fun _=>B.len) boot_len (aa (aj false 12) ao)) ao)))))))) bZ)
   (aC (lG iC PySem.F.plainAttrs_list PySem.F.slot_list_append PySem.F.type_list_append (jJ 3) (aa (d9 slb (aj false 13) dX (dw au)) ao))
   (aC (lG iC PySem.F.plainAttrs_list PySem.F.slot_list_append PySem.F.type_list_append (jJ 4) (aa (fJ (ixb (fun _=>aQ hr)) (aj false 13) au) ao))
   (aO (fG (bR (cb_eq _ (fun _=>rfl) hr.units) (fJ (ixb (fun _=>aQ hr)) (aj false 13) au) (aj false 2)) (aO (bD (gB jO (fun _=>rfl) (fun _=>B.tuple) boot_tuple (aa (aj false 3) ao)))) bZ))))))) bZ)))))
   (aO (bD (gB jO (fun _=>rfl) (fun _=>B.tuple) boot_tuple (aa (aj false 3) ao))))))
theorem uD:cF ["_law_tape_here", "_law_some"] ["_law_tape_here"] (aK lJ):=⟨rfl,rfl,rfl,by decide +kernel,rfl,by decide +kernel,by decide +kernel⟩
theorem Am {f:Addr} {fd:FuncData} (F:Fun K "_law_odd" "_law_odd" lJ f fd) (B:Blt mg) (c_law_draw:Cal P w K mg base 1 "_law_draw" ["_law_tape_here", "_law_many"] (spI ⟨K,mg⟩ (fun i=>i == 0) (fun i=>i == 0) az)):iI P w K mg base CX0 2 f fd ["_law_tape_here"] (spI ⟨K,mg⟩ (fun i=>i == 0) (fun i=>i == 0) fV):=by
 have nd:∀ _:Unit,_:=fun _=>uD.nd
 refine okI (k:=1) (ob:=(fun i=>i == 0)) (pr:=(fun i=>i == 0)) F uD fun cdv A outer s H E hr=>?_
 exact (aC (eO 1 nd (dU (aa oH (aa j0 (aa j0 (aa au (aa (lY jM au) (aa au (aa kE (aa kE (aa kE (aa (dY ao) (aa (dU ao) (aa (dY (aa au ao)) (aa (dY (aa au (aa au ao))) (aa (dY (aa au (aa au ao))) (aa (dY (aa j0 (aa au ao))) (aa (dY (aa au (aa j0 ao))) (aa (dU (aa au (aa au ao))) ao)))))))))))))))))))
   (aC (oZ 1 (eO 1 nd (bJ cT (aj false 1) (dU (aa (dY (aa au (aa au (aa au ao)))) (aa (dY (aa kE (aa au ao))) (aa (dU (aa kE (aa au ao))) (aa (dY (aa (dY (aa kE (aa au ao))) ao)) (aa (dU (aa (dU ao) ao)) (aa (dY (aa kE (aa oH ao))) (aa (dY (aa oH (aa au ao))) (aa (dY (aa kE (aa au ao))) ao))))))))))))
   (aO (oZ 1 (uR (ji (ixb (fun _=>aQ hr)) (cO (aj false 1)) (bU [0] (fun _=>c_law_draw) (fun _=>hr.mono (by decide)) (aZ 0 (a_ (aR (aa (aY eG (fun _=>rfl) (fun _=>B.len) boot_len (aa (aj false 1) ao)) ao)))))))))))
theorem sI:cF ["_law_tape_here", "_law_some", "_law_thing", "_law_at", "_law_way"] ["_law_tape_here", "_law_some", "_law_thing"] (aK k_):=⟨rfl,rfl,rfl,by decide +kernel,rfl,by decide +kernel,by decide +kernel⟩
theorem zz {f:Addr} {fd:FuncData} (F:Fun K "_law_bent" "_law_bent" k_ f fd) (B:Blt mg) (c_law_draw:Cal P w K mg base 1 "_law_draw" ["_law_tape_here", "_law_many"] (spI ⟨K,mg⟩ (fun i=>i == 0) (fun i=>i == 0) az)):iI P w K mg base CX0 2 f fd ["_law_tape_here", "_law_some", "_law_thing"] (spI ⟨K,mg⟩ (fun i=>i == 0) (fun i=>i == 0) ik):=by
 have nd:∀ _:Unit,_:=fun _=>sI.nd
 refine okI (k:=1) (ob:=(fun i=>i == 0)) (pr:=(fun i=>i == 0)) F sI fun cdv A outer s H E hr=>?_
 exact (aC (d8 3 nd (bU [0] (fun _=>c_law_draw) (fun _=>hr.mono (by decide)) (aZ 0 (a_ (aR (aa (bJ cT (aY eG (fun _=>rfl) (fun _=>B.len) boot_len (aa (aj false 1) ao)) au) ao))))))
   (aC (d8 4 nd (bU [0] (fun _=>c_law_draw) (fun _=>hr.mono (by decide)) (aZ 0 (a_ (aR (aa au ao))))))
   (aC (fG (bR (cb_eq _ (fun _=>rfl) hr.units) (aj false 4) au) (aO (bD (bJ cT (d9 slb (aj false 1) dX (dw (aj false 3))) (d9 slb (aj false 1) (dw (bJ cT (aj false 3) au)) dX)))) bZ)
   (aC (fG (bR (cb_eq _ (fun _=>rfl) hr.units) (aj false 4) au) (aO (bD (bJ cT (bJ cT (d9 slb (aj false 1) dX (dw (aj false 3))) (d9 slb (aj false 1) (dw (aj false 3)) (dw (bJ cT (aj false 3) au)))) (d9 slb (aj false 1) (dw (aj false 3)) dX)))) bZ)
   (aC (fG (bR (cb_eq _ (fun _=>rfl) hr.units) (aj false 4) au) (aO (bD (bJ cT (bJ cT (d9 slb (aj false 1) dX (dw (aj false 3))) (dU (aa (aj false 2) ao))) (d9 slb (aj false 1) (dw (bJ cT (aj false 3) au)) dX)))) bZ)
   (aO (bD (bJ cT (bJ cT (d9 slb (aj false 1) dX (dw (aj false 3))) (dU (aa (aj false 2) ao))) (d9 slb (aj false 1) (dw (aj false 3)) dX)))))))))
theorem pM:cF ["_law_tape_here", "_law_joinings_here", "_law_ring", "_law_some", "_law_again", "_law_thing"] ["_law_tape_here", "_law_joinings_here", "_law_ring"] (aK gq):=⟨rfl,rfl,rfl,by decide +kernel,rfl,by decide +kernel,by decide +kernel⟩
def rn:Scope:={ kind:=PySem.ScopeKind.function,names:=[ (PySem.Str.ofString ".0",PySem.NameKind.local),(PySem.Str.ofString "_law_n",PySem.NameKind.local),(PySem.Str.ofString "_law_side",PySem.NameKind.local)],isGenerator:=false,isCoroutine:=false,more:=[]:PySem.Scope }
theorem nQ:(["_law_n", "_law_side"]:List Str).Nodup:=by decide +kernel
theorem tG:gU (aK gq) ["_law_tape_here", "_law_joinings_here", "_law_ring", "_law_some", "_law_again", "_law_thing"] ["_law_n", "_law_side"] rn [none,none]:=⟨rfl,by decide +kernel,by decide +kernel,by decide +kernel,rfl,by decide +kernel⟩
def qY:Scope:={ kind:=PySem.ScopeKind.function,names:=[ (PySem.Str.ofString ".0",PySem.NameKind.local),(PySem.Str.ofString "_law_n",PySem.NameKind.local),(PySem.Str.ofString "_law_side",PySem.NameKind.local)],isGenerator:=false,isCoroutine:=false,more:=[]:PySem.Scope }
theorem nW:(["_law_n", "_law_side"]:List Str).Nodup:=by decide +kernel
theorem tB:gU (aK gq) ["_law_tape_here", "_law_joinings_here", "_law_ring", "_law_some", "_law_again", "_law_thing"] ["_law_n", "_law_side"] qY [none,none]:=⟨rfl,by decide +kernel,by decide +kernel,by decide +kernel,rfl,by decide +kernel⟩
def q_:Scope:={ kind:=PySem.ScopeKind.function,names:=[ (PySem.Str.ofString ".0",PySem.NameKind.local),(PySem.Str.ofString "_law_pair",PySem.NameKind.local),(PySem.Str.ofString "list",PySem.NameKind.globalImplicit)],isGenerator:=false,isCoroutine:=false,more:=[]:PySem.Scope }
theorem sW:(["_law_pair"]:List Str).Nodup:=by decide +kernel
theorem sV:gU (aK gq) ["_law_tape_here", "_law_joinings_here", "_law_ring", "_law_some", "_law_again", "_law_thing"] ["_law_pair"] q_ [none]:=⟨rfl,by decide +kernel,by decide +kernel,by decide +kernel,rfl,by decide +kernel⟩
theorem vD {f:Addr} {fd:FuncData} (F:Fun K "_law_papers" "_law_papers" gq f fd) (B:Blt mg) (c_law_odd:Cal P w K mg base 2 "_law_odd" ["_law_tape_here"] (spI ⟨K,mg⟩ (fun i=>i == 0) (fun i=>i == 0) fV)) (c_law_draw:Cal P w K mg base 1 "_law_draw" ["_law_tape_here", "_law_many"] (spI ⟨K,mg⟩ (fun i=>i == 0) (fun i=>i == 0) az)) (c_law_bent:Cal P w K mg base 2 "_law_bent" ["_law_tape_here", "_law_some", "_law_thing"] (spI ⟨K,mg⟩ (fun i=>i == 0) (fun i=>i == 0) ik)):iI P w K mg base CX0 3 f fd ["_law_tape_here", "_law_joinings_here", "_law_ring"] (spI ⟨K,mg⟩ (fun i=>i == 0) (fun i=>i == 0) gh):=by
 have nd:∀ _:Unit,_:=fun _=>pM.nd
 refine okI (k:=2) (ob:=(fun i=>i == 0)) (pr:=(fun i=>i == 0)) F pM fun cdv A outer s H E hr=>?_
 exact (aC (eO 3 nd (dU (aa (aj false 2) (aa (gB uq (fun _=>rfl) (fun _=>B.list_) boot_list (aa (aj false 2) ao)) (aa (bJ cT (aj false 2) (aj false 2)) (aa (qw (aj false 2) (lY jM au)) (aa (gB jO (fun _=>rfl) (fun _=>B.tuple) boot_tuple (aa (jV [none,none] (fun i=>i == 0 || i == 1) (fun _=>rfl) (fun _=>rfl) (fun _=>tG) (jl rfl) (g_ (qw (aj false 2) (lY jM au))) (mH (fun _=>rfl) (gm (dH 0 (fun _=>nQ)) (gm (dH 1 (fun _=>nQ)) lM))) iJ (dY (aa (aj false 0) (aa (lY jM (aj false 1)) ao)))) ao)) (aa (dY ao) ao))))))))
   (aC (lG iC PySem.F.plainAttrs_list PySem.F.slot_list_append PySem.F.type_list_append (jJ 3) (aa (gB jO (fun _=>rfl) (fun _=>B.tuple) boot_tuple (aa (jV [none,none] (fun i=>i == 0 || i == 1) (fun _=>rfl) (fun _=>rfl) (fun _=>tB) (jl rfl) (g_ (aj false 2)) (mH (fun _=>rfl) (gm (dH 0 (fun _=>nW)) (gm (dH 1 (fun _=>nW)) lM))) iJ (dY (aa (aj false 0) (aa (lY jM (aj false 1)) ao)))) ao)) ao))
   (aC (jG (fun _=>PassesOwn.never) (fun _=>rfl) (pU (fun _=>rfl) (fun _=>B.range) (aa au ao)) (aW 4 nd) (aC (d8 5 nd (bU [0] (fun _=>c_law_odd) (fun _=>hr.mono (by decide)) (aZ 0 (a_ (aR ao)))))
   (aC (pA (qG (cb_eq _ (fun _=>rfl) hr.units) (bU [0] (fun _=>c_law_draw) (fun _=>hr.mono (by decide)) (aZ 0 (a_ (aR (aa au ao))))) (cO au)) (aO (d8 5 nd (t7 (bT (lw oJ (bU [0] (fun _=>c_law_draw) (fun _=>hr.mono (by decide)) (aZ 0 (a_ (aR (aa (bJ cT (aY eG (fun _=>rfl) (fun _=>B.len) boot_len (aa (aj false 1) ao)) au) ao))))) (cO au)) (bT (ji (ixb (fun _=>aQ hr)) (cO (dU (aa au (aa (lY jM au) (aa au (aa au ao)))))) (bU [0] (fun _=>c_law_draw) (fun _=>hr.mono (by decide)) (aZ 0 (a_ (aR (aa au ao)))))) (aR ao)))))) bZ)
   (aO (Ge iC PySem.F.plainAttrs_list PySem.F.slot_list_append PySem.F.type_list_append (jJ 3) (bT (vd jO (fun _=>rfl) (fun _=>B.tuple) boot_tuple (bT (bU [0] (fun _=>c_law_bent) (fun _=>hr.mono (by decide)) (aZ 0 (a_ (aR (aa (gB uq (fun _=>rfl) (fun _=>B.list_) boot_list (aa (aj false 2) ao)) (aa (aj false 5) ao)))))) (aR ao))) (aR ao)) (show KpS 3 _ from by repeat first | exact Ms | exact Jk | apply Es | apply MP | apply Oq | apply O3 | (apply Ol rfl) | apply Ob))))))
   (aO (oZ 3 (uR (lw cT (cO (aj false 3)) (Ay (bT (bU [0] (fun _=>c_law_odd) (fun _=>hr.mono (by decide)) (aZ 0 (a_ (aR ao)))) (bT (t7 (bT (bU [0] (fun _=>c_law_odd) (fun _=>hr.mono (by decide)) (aZ 0 (a_ (aR ao)))) (aR ao))) (aR (aa (jV [none] (fun i=>i == 0) (fun _=>rfl) (fun _=>rfl) (fun _=>sV) (jl rfl) (g_ (aj false 2)) (dH 0 (fun _=>sW)) iJ (gB uq (fun _=>rfl) (fun _=>B.list_) boot_list (aa (aj false 0) ao))) (aa (dY (aa (aj false 2) ao)) ao)))))))))))))
theorem Ck:cF ["joining", "side", "one", "other", "step"] ["joining", "side"] (aK rJ):=⟨rfl,rfl,rfl,by decide +kernel,rfl,by decide +kernel,by decide +kernel⟩
theorem Jr {f:Addr} {fd:FuncData} (F:Fun K "ends" "ends" rJ f fd) (B:Blt mg)  : iI P w K mg base CX0 1 f fd ["joining", "side"] (spP ⟨K,mg⟩ iR):=by
 have nd:∀ _:Unit,_:=fun _=>Ck.nd
 refine okP (k:=0) (ob:=(fun i=>false)) (Pr:=fun _=>false) F Ck fun cdv A outer s H E hr=>?_
 exact (aC (nG (aj false 0) (jk (fun _=>rfl) (bu (aW 2 nd) (bu (aW 3 nd) (bu (aW 4 nd) il)))))
   (aC (fG (bR (cb_eq _ (fun _=>rfl) hr.units) (aj false 1) au) (aO (bD (dY (aa (aj false 2) (aa (aj false 3) ao))))) bZ)
   (aO (bD (dY (aa (aj false 3) (aa (aj false 2) ao)))))))
theorem Hk:cF ["joinings", "name", "way", "here", "number", "side", "begin", "end"] ["joinings", "name", "way"] (aK v4):=⟨rfl,rfl,rfl,by decide +kernel,rfl,by decide +kernel,by decide +kernel⟩
theorem Mq {f:Addr} {fd:FuncData} (F:Fun K "led" "led" v4 f fd) (B:Blt mg) (c_ends:Cal P w K mg base 1 "ends" ["joining", "side"] (spP ⟨K,mg⟩ iR)):iI P w K mg base CX0 2 f fd ["joinings", "name", "way"] (spP ⟨K,mg⟩ kj):=by
 have nd:∀ _:Unit,_:=fun _=>Hk.nd
 refine okP (k:=1) (ob:=(fun i=>false)) (Pr:=fun _=>false) F Hk fun cdv A outer s H E hr=>?_
 exact (aC (eO 3 nd (aj false 1))
   (aC (jG (fun _=>PassesOwn.never) (fun _=>rfl) (g_ (aj false 2)) (jk (fun _=>rfl) (bu (aW 4 nd) (bu (aW 5 nd) il))) (aC (fG (qL (mZ (bR ye (aj false 4) au) (o_ (bR K4 (aj false 4) (aY eG (fun _=>rfl) (fun _=>B.len) boot_len (aa (aj false 0) ao)))))) (aO (bD oH)) bZ)
   (aC (nG (iB (fun _=>c_ends) (fun _=>hr.mono (by decide)) (aa (fJ (ixb (fun _=>aQ hr)) (aj false 0) (aj false 4)) (aa (aj false 5) ao))) (jk (fun _=>rfl) (bu (aW 6 nd) (bu (aW 7 nd) il))))
   (aC (fG (bR (my _ (fun _=>rfl) hr.units) (aj false 6) (aj false 3)) (aO (bD oH)) bZ)
   (aO (eO 3 nd (aj false 7)))))))
   (aO (mK 3))))
theorem u9:cF ["turn", "n"] ["turn", "n"] (aK lH):=⟨rfl,rfl,rfl,by decide +kernel,rfl,by decide +kernel,by decide +kernel⟩
theorem zK {f:Addr} {fd:FuncData} (F:Fun K "counted" "counted" lH f fd) (B:Blt mg)  : iI P w K mg base CX0 1 f fd ["turn", "n"] (spP ⟨K,mg⟩ gZ):=by
 have nd:∀ _:Unit,_:=fun _=>u9.nd
 refine okP (k:=0) (ob:=(fun i=>false)) (Pr:=fun _=>false) F u9 fun cdv A outer s H E hr=>?_
 exact (aC (fG (bR (cb_eq _ (fun _=>rfl) hr.units) (aj false 0) au) (aO (mK 1)) bZ)
   (aO (bD (bJ lR (aj false 1) (aj false 0)))))
theorem su:cF ["joinings", "turn", "way", "total", "number", "side", "one", "other", "step"] ["joinings", "turn", "way"] (aK kZ):=⟨rfl,rfl,rfl,by decide +kernel,rfl,by decide +kernel,by decide +kernel⟩
theorem yN {f:Addr} {fd:FuncData} (F:Fun K "steps_of" "steps_of" kZ f fd) (B:Blt mg) (c_counted:Cal P w K mg base 1 "counted" ["turn", "n"] (spP ⟨K,mg⟩ gZ)):iI P w K mg base CX0 2 f fd ["joinings", "turn", "way"] (spP ⟨K,mg⟩ ie):=by
 have nd:∀ _:Unit,_:=fun _=>su.nd
 refine okP (k:=1) (ob:=(fun i=>false)) (Pr:=fun _=>false) F su fun cdv A outer s H E hr=>?_
 exact (aC (eO 3 nd au)
   (aC (jG (fun _=>PassesOwn.never) (fun _=>rfl) (g_ (aj false 2)) (jk (fun _=>rfl) (bu (aW 4 nd) (bu (aW 5 nd) il))) (aC (nG (fJ (ixb (fun _=>aQ hr)) (aj false 0) (aj false 4)) (jk (fun _=>rfl) (bu (aW 6 nd) (bu (aW 7 nd) (bu (aW 8 nd) il)))))
   (aO (yd 3 nd (bJ j7 (aj false 5) (aj false 8))))))
   (aO (bD (iB (fun _=>c_counted) (fun _=>hr.mono (by decide)) (aa (aj false 1) (aa (aj false 3) ao)))))))
theorem qp:cF ["thing"] ["thing"] (aK jQ):=⟨rfl,rfl,rfl,by decide +kernel,rfl,by decide +kernel,by decide +kernel⟩
theorem xj {f:Addr} {fd:FuncData} (F:Fun K "is_couple" "is_couple" jQ f fd) (B:Blt mg)  : iI P w K mg base CX0 1 f fd ["thing"] (spP ⟨K,mg⟩ eF):=by
 have nd:∀ _:Unit,_:=fun _=>qp.nd
 refine okP (k:=0) (ob:=(fun i=>false)) (Pr:=fun _=>false) F qp fun cdv A outer s H E hr=>?_
 exact (aO (bD (mC (aY iW (fun _=>rfl) (fun _=>B.isinstance) boot_isinstance (aa (aj false 0) (aa (qu (fun _=>rfl) (fun _=>B.tuple) boot_tuple) ao))) (pR (oU (cb_eq _ (fun _=>rfl) hr.units) (aY eG (fun _=>rfl) (fun _=>B.len) boot_len (aa (aj false 0) ao)) au)))))
theorem ql:cF ["thing"] ["thing"] (aK jR):=⟨rfl,rfl,rfl,by decide +kernel,rfl,by decide +kernel,by decide +kernel⟩
theorem wY {f:Addr} {fd:FuncData} (F:Fun K "is_number" "is_number" jR f fd) (B:Blt mg)  : iI P w K mg base CX0 1 f fd ["thing"] (spP ⟨K,mg⟩ fP):=by
 have nd:∀ _:Unit,_:=fun _=>ql.nd
 refine okP (k:=0) (ob:=(fun i=>false)) (Pr:=fun _=>false) F ql fun cdv A outer s H E hr=>?_
 exact (aO (bD (mC (aY iW (fun _=>rfl) (fun _=>B.isinstance) boot_isinstance (aa (aj false 0) (aa (qu (fun _=>rfl) (fun _=>B.int_) boot_int) ao))) (pR (G6 (aY iW (fun _=>rfl) (fun _=>B.isinstance) boot_isinstance (aa (aj false 0) (aa (qu (fun _=>rfl) (fun _=>B.bool_) boot_bool) ao))))))))
theorem uV:cF ["thing"] ["thing"] (aK lL):=⟨rfl,rfl,rfl,by decide +kernel,rfl,by decide +kernel,by decide +kernel⟩
theorem zM {f:Addr} {fd:FuncData} (F:Fun K "is_pair" "is_pair" lL f fd) (B:Blt mg) (c_is_couple:Cal P w K mg base 1 "is_couple" ["thing"] (spP ⟨K,mg⟩ eF)) (c_is_number:Cal P w K mg base 1 "is_number" ["thing"] (spP ⟨K,mg⟩ fP)):iI P w K mg base CX0 2 f fd ["thing"] (spP ⟨K,mg⟩ iK):=by
 have nd:∀ _:Unit,_:=fun _=>uV.nd
 refine okP (k:=1) (ob:=(fun i=>false)) (Pr:=fun _=>false) F uV fun cdv A outer s H E hr=>?_
 exact (aO (bD (mC (iB (fun _=>c_is_couple) (fun _=>hr.mono (by decide)) (aa (aj false 0) ao)) (mC (iB (fun _=>c_is_number) (fun _=>hr.mono (by decide)) (aa (fJ (ixb (fun _=>aQ hr)) (aj false 0) au) ao)) (mC (iB (fun _=>c_is_number) (fun _=>hr.mono (by decide)) (aa (fJ (ixb (fun _=>aQ hr)) (aj false 0) au) ao)) (pR (oU (Ql (fun _=>aQ hr)) (fJ (ixb (fun _=>aQ hr)) (aj false 0) au) (dY (aa au (aa (lY jM au) ao))))))))))
theorem v9:cF ["thing"] ["thing"] (aK lQ):=⟨rfl,rfl,rfl,by decide +kernel,rfl,by decide +kernel,by decide +kernel⟩
def wQ:Scope:={ kind:=PySem.ScopeKind.function,names:=[ (PySem.Str.ofString ".0",PySem.NameKind.local),(PySem.Str.ofString "pair",PySem.NameKind.local),(PySem.Str.ofString "is_pair",PySem.NameKind.globalImplicit)],isGenerator:=false,isCoroutine:=false,more:=[]:PySem.Scope }
theorem yf:(["pair"]:List Str).Nodup:=by decide +kernel
theorem zy:gU (aK lQ) ["thing"] ["pair"] wQ [none]:=⟨rfl,by decide +kernel,by decide +kernel,by decide +kernel,rfl,by decide +kernel⟩
theorem Dj {f:Addr} {fd:FuncData} (F:Fun K "is_way" "is_way" lQ f fd) (B:Blt mg) (c_is_pair:Cal P w K mg base 2 "is_pair" ["thing"] (spP ⟨K,mg⟩ iK)):iI P w K mg base CX0 3 f fd ["thing"] (spP ⟨K,mg⟩ gw):=by
 have nd:∀ _:Unit,_:=fun _=>v9.nd
 refine okP (k:=2) (ob:=(fun i=>false)) (Pr:=fun _=>false) F v9 fun cdv A outer s H E hr=>?_
 exact (aO (bD (mC (aY iW (fun _=>rfl) (fun _=>B.isinstance) boot_isinstance (aa (aj false 0) (aa (qu (fun _=>rfl) (fun _=>B.tuple) boot_tuple) ao))) (pR (aY (Cd (fun _=>rfl)) (fun _=>rfl) (fun _=>B.all) boot_all (aa (jV [none] (fun i=>i == 0) (fun _=>rfl) (fun _=>rfl) (fun _=>zy) (jl rfl) (g_ (aj false 0)) (dH 0 (fun _=>yf)) iJ (iB (fun _=>c_is_pair) (fun _=>hr.mono (by decide)) (aa (aj false 0) ao))) ao))))))
theorem pJ:cF ["things"] ["things"] (aK jw):=⟨rfl,rfl,rfl,by decide +kernel,rfl,by decide +kernel,by decide +kernel⟩
theorem vz {f:Addr} {fd:FuncData} (F:Fun K "are_unlike" "are_unlike" jw f fd) (B:Blt mg)  : iI P w K mg base CX0 1 f fd ["things"] (spP ⟨K,mg⟩ cZ):=by
 have nd:∀ _:Unit,_:=fun _=>pJ.nd
 refine okP (k:=0) (ob:=(fun i=>false)) (Pr:=fun _=>false) F pJ fun cdv A outer s H E hr=>?_
 exact (aO (bD (oU (cb_eq _ (fun _=>rfl) hr.units) (rm (fun _=>rfl) (fun _=>B.len) (fun _=>B.set_) (aa (aj false 0) ao)) (aY eG (fun _=>rfl) (fun _=>B.len) boot_len (aa (aj false 0) ao)))))
theorem qt:cF ["joinings", "way"] ["joinings", "way"] (aK jq):=⟨rfl,rfl,rfl,by decide +kernel,rfl,by decide +kernel,by decide +kernel⟩
def sZ:Scope:={ kind:=PySem.ScopeKind.function,names:=[ (PySem.Str.ofString ".0",PySem.NameKind.local),(PySem.Str.ofString "number",PySem.NameKind.local),(PySem.Str.ofString "side",PySem.NameKind.local),(PySem.Str.ofString "ends",PySem.NameKind.globalImplicit),(PySem.Str.ofString "joinings",PySem.NameKind.free)],isGenerator:=false,isCoroutine:=false,more:=[]:PySem.Scope }
theorem oE:(["number", "side", "joinings"]:List Str).Nodup:=by decide +kernel
theorem ur:gU (aK jq) ["joinings", "way"] ["number", "side", "joinings"] sZ [none,none,some 0]:=⟨rfl,by decide +kernel,by decide +kernel,by decide +kernel,rfl,by decide +kernel⟩
theorem xq {f:Addr} {fd:FuncData} (F:Fun K "names_met" "names_met" jq f fd) (B:Blt mg) (c_ends:Cal P w K mg base 1 "ends" ["joining", "side"] (spP ⟨K,mg⟩ iR)):iI P w K mg base CX0 2 f fd ["joinings", "way"] (spP ⟨K,mg⟩ gM):=by
 have nd:∀ _:Unit,_:=fun _=>qt.nd
 refine okP (k:=1) (ob:=(fun i=>false)) (Pr:=fun _=>false) F qt fun cdv A outer s H E hr=>?_
 exact (aO (bD (jV [none,none,some 0] (fun i=>i == 0 || i == 1) (fun _=>rfl) (fun _=>rfl) (fun _=>ur) (jl rfl) (g_ (aj false 1)) (mH (fun _=>rfl) (gm (dH 0 (fun _=>oE)) (gm (dH 1 (fun _=>oE)) lM))) iJ (fJ (ixb (fun _=>aQ hr)) (iB (fun _=>c_ends) (fun _=>hr.mono (by decide)) (aa (fJ (ixb (fun _=>aQ hr)) (aj false 2) (aj false 0)) (aa (aj false 1) ao))) au))))
theorem pH:cF ["names", "joinings", "turn", "name", "ring"] ["names", "joinings", "turn", "name", "ring"] (aK jd):=⟨rfl,rfl,rfl,by decide +kernel,rfl,by decide +kernel,by decide +kernel⟩
def rM:Scope:={ kind:=PySem.ScopeKind.function,names:=[ (PySem.Str.ofString ".0",PySem.NameKind.local),(PySem.Str.ofString "number",PySem.NameKind.local),(PySem.Str.ofString "side",PySem.NameKind.local)],isGenerator:=false,isCoroutine:=false,more:=[]:PySem.Scope }
theorem nU:(["number", "side"]:List Str).Nodup:=by decide +kernel
theorem tO:gU (aK jd) ["names", "joinings", "turn", "name", "ring"] ["number", "side"] rM [none,none]:=⟨rfl,by decide +kernel,by decide +kernel,by decide +kernel,rfl,by decide +kernel⟩
theorem vG {f:Addr} {fd:FuncData} (F:Fun K "shows_ring" "shows_ring" jd f fd) (B:Blt mg) (c_led:Cal P w K mg base 2 "led" ["joinings", "name", "way"] (spP ⟨K,mg⟩ kj)) (c_steps_of:Cal P w K mg base 2 "steps_of" ["joinings", "turn", "way"] (spP ⟨K,mg⟩ ie)) (c_is_way:Cal P w K mg base 3 "is_way" ["thing"] (spP ⟨K,mg⟩ gw)) (c_are_unlike:Cal P w K mg base 1 "are_unlike" ["things"] (spP ⟨K,mg⟩ cZ)) (c_names_met:Cal P w K mg base 2 "names_met" ["joinings", "way"] (spP ⟨K,mg⟩ gM)):iI P w K mg base CX0 4 f fd ["names", "joinings", "turn", "name", "ring"] (spP ⟨K,mg⟩ cW):=by
 have nd:∀ _:Unit,_:=fun _=>pH.nd
 refine okP (k:=3) (ob:=(fun i=>false)) (Pr:=fun _=>false) F pH fun cdv A outer s H E hr=>?_
 exact (aC (fG (qL (mZ (bR (qF (fun _=>aQ hr)) (aj false 3) (aj false 0)) (mZ (lE (mq (iB (fun _=>c_is_way) (fun _=>hr.mono (by decide)) (aa (aj false 4) ao)))) (o_ (bR (cb_eq _ (fun _=>rfl) hr.units) (aY eG (fun _=>rfl) (fun _=>B.len) boot_len (aa (aj false 4) ao)) au))))) (aO (bD j0)) bZ)
   (aC (fG (bR (my _ (fun _=>rfl) hr.units) (iB (fun _=>c_led) (fun _=>hr.mono (by decide)) (aa (aj false 1) (aa (aj false 3) (aa (aj false 4) ao)))) (aj false 3)) (aO (bD j0)) bZ)
   (aC (fG (qL (mZ (lE (mq (iB (fun _=>c_are_unlike) (fun _=>hr.mono (by decide)) (aa (jV [none,none] (fun i=>i == 0 || i == 1) (fun _=>rfl) (fun _=>rfl) (fun _=>tO) (jl rfl) (g_ (aj false 4)) (mH (fun _=>rfl) (gm (dH 0 (fun _=>nU)) (gm (dH 1 (fun _=>nU)) lM))) iJ (aj false 0)) ao)))) (o_ (lE (mq (iB (fun _=>c_are_unlike) (fun _=>hr.mono (by decide)) (aa (iB (fun _=>c_names_met) (fun _=>hr.mono (by decide)) (aa (aj false 1) (aa (aj false 4) ao))) ao))))))) (aO (bD j0)) bZ)
   (aO (bD (oU (my _ (fun _=>rfl) hr.units) (iB (fun _=>c_steps_of) (fun _=>hr.mono (by decide)) (aa (aj false 1) (aa (aj false 2) (aa (aj false 4) ao)))) au))))))
theorem pP:cF ["_law_thing", "_law_pair"] ["_law_thing"] (aK i_):=⟨rfl,rfl,rfl,by decide +kernel,rfl,by decide +kernel,by decide +kernel⟩
def qT:Scope:={ kind:=PySem.ScopeKind.function,names:=[ (PySem.Str.ofString ".0",PySem.NameKind.local),(PySem.Str.ofString "_law_one",PySem.NameKind.local),(PySem.Str.ofString "isinstance",PySem.NameKind.globalImplicit),(PySem.Str.ofString "int",PySem.NameKind.globalImplicit),(PySem.Str.ofString "bool",PySem.NameKind.globalImplicit)],isGenerator:=false,isCoroutine:=false,more:=[]:PySem.Scope }
theorem tM:(["_law_one"]:List Str).Nodup:=by decide +kernel
theorem tK:gU (aK i_) ["_law_thing", "_law_pair"] ["_law_one"] qT [none]:=⟨rfl,by decide +kernel,by decide +kernel,by decide +kernel,rfl,by decide +kernel⟩
theorem vB {f:Addr} {fd:FuncData} (F:Fun K "_law_is_way" "_law_is_way" i_ f fd) (B:Blt mg)  : iI P w K mg base CX0 1 f fd ["_law_thing"] (spP ⟨K,mg⟩ dM):=by
 have nd:∀ _:Unit,_:=fun _=>pP.nd
 refine okP (k:=0) (ob:=(fun i=>false)) (Pr:=fun _=>false) F pP fun cdv A outer s H E hr=>?_
 exact (aC (fG (lE (mq (aY iW (fun _=>rfl) (fun _=>B.isinstance) boot_isinstance (aa (aj false 0) (aa (qu (fun _=>rfl) (fun _=>B.tuple) boot_tuple) ao))))) (aO (bD j0)) bZ)
   (aC (jG (fun _=>PassesOwn.never) (fun _=>rfl) (g_ (aj false 0)) (aW 1 nd) (aC (fG (qL (mZ (lE (mq (aY iW (fun _=>rfl) (fun _=>B.isinstance) boot_isinstance (aa (aj false 1) (aa (qu (fun _=>rfl) (fun _=>B.tuple) boot_tuple) ao))))) (o_ (bR (my _ (fun _=>rfl) hr.units) (aY eG (fun _=>rfl) (fun _=>B.len) boot_len (aa (aj false 1) ao)) au)))) (aO (bD j0)) bZ)
   (aO (fG (qL (mZ (lE (mq (aY (Cd (fun _=>rfl)) (fun _=>rfl) (fun _=>B.all) boot_all (aa (jV [none] (fun i=>i == 0) (fun _=>rfl) (fun _=>rfl) (fun _=>tK) (jl rfl) (g_ (aj false 1)) (dH 0 (fun _=>tM)) iJ (mC (aY iW (fun _=>rfl) (fun _=>B.isinstance) boot_isinstance (aa (aj false 0) (aa (qu (fun _=>rfl) (fun _=>B.int_) boot_int) ao))) (pR (G6 (aY iW (fun _=>rfl) (fun _=>B.isinstance) boot_isinstance (aa (aj false 0) (aa (qu (fun _=>rfl) (fun _=>B.bool_) boot_bool) ao))))))) ao)))) (o_ (bR (qF (fun _=>aQ hr)) (fJ (ixb (fun _=>aQ hr)) (aj false 1) au) (dY (aa au (aa (lY jM au) ao))))))) (aO (bD j0)) bZ))))
   (aO (bD j0))))
theorem ug:cF ["_law_joinings_here", "_law_name", "_law_way", "_law_met_here", "_law_number", "_law_side", "_law_begin", "_law_end"] ["_law_joinings_here", "_law_name", "_law_way"] (aK lK):=⟨rfl,rfl,rfl,by decide +kernel,rfl,by decide +kernel,by decide +kernel⟩
theorem zW {f:Addr} {fd:FuncData} (F:Fun K "_law_met" "_law_met" lK f fd) (B:Blt mg)  : iI P w K mg base CX0 1 f fd ["_law_joinings_here", "_law_name", "_law_way"] (spP ⟨K,mg⟩ iM):=by
 have nd:∀ _:Unit,_:=fun _=>ug.nd
 refine okP (k:=0) (ob:=(fun i=>false)) (Pr:=fun _=>false) F ug fun cdv A outer s H E hr=>?_
 exact (aC (eO 3 nd (dU (aa (aj false 1) ao)))
   (aC (jG (fun _=>PassesOwn.never) (fun _=>rfl) (g_ (aj false 2)) (jk (fun _=>rfl) (bu (aW 4 nd) (bu (aW 5 nd) il))) (aC (fG (lE (CV O6 ye au (aj false 4) (aY eG (fun _=>rfl) (fun _=>B.len) boot_len (aa (aj false 0) ao)))) (aO (bD oH)) bZ)
   (aC (nG (qw (d9 slb (fJ (ixb (fun _=>aQ hr)) (aj false 0) (aj false 4)) dX (dw au)) (aj false 5)) (jk (fun _=>rfl) (bu (aW 6 nd) (bu (aW 7 nd) il))))
   (aC (fG (bR (my _ (fun _=>rfl) hr.units) (aj false 6) (fJ (ixb (fun _=>aQ hr)) (aj false 3) (lY jM au))) (aO (bD oH)) bZ)
   (aO (lG iC PySem.F.plainAttrs_list PySem.F.slot_list_append PySem.F.type_list_append (jJ 3) (aa (aj false 7) ao)))))))
   (aO (mK 3))))
theorem n6:cF ["_law_turn_here", "_law_n"] ["_law_turn_here", "_law_n"] (aK jh):=⟨rfl,rfl,rfl,by decide +kernel,rfl,by decide +kernel,by decide +kernel⟩
theorem uT {f:Addr} {fd:FuncData} (F:Fun K "_law_counted" "_law_counted" jh f fd) (B:Blt mg)  : iI P w K mg base CX0 1 f fd ["_law_turn_here", "_law_n"] (spP ⟨K,mg⟩ dB):=by
 have nd:∀ _:Unit,_:=fun _=>n6.nd
 refine okP (k:=0) (ob:=(fun i=>false)) (Pr:=fun _=>false) F n6 fun cdv A outer s H E hr=>?_
 exact (aC (fG (bR (cb_eq _ (fun _=>rfl) hr.units) (aj false 0) au) (aO (mK 1)) bZ)
   (aO (bD (bJ oJ (aj false 1) (bJ j7 (bJ tZ (aj false 1) (aj false 0)) (aj false 0))))))
theorem oR:cF ["_law_joinings_here", "_law_turn_here", "_law_name", "_law_ring", "_law_met_here"] ["_law_joinings_here", "_law_turn_here", "_law_name", "_law_ring"] (aK gA):=⟨rfl,rfl,rfl,by decide +kernel,rfl,by decide +kernel,by decide +kernel⟩
def qO:Scope:={ kind:=PySem.ScopeKind.function,names:=[ (PySem.Str.ofString ".0",PySem.NameKind.local),(PySem.Str.ofString "_law_number",PySem.NameKind.local),(PySem.Str.ofString "_law_side",PySem.NameKind.local)],isGenerator:=false,isCoroutine:=false,more:=[]:PySem.Scope }
theorem mJ:(["_law_number", "_law_side"]:List Str).Nodup:=by decide +kernel
theorem qX:gU (aK gA) ["_law_joinings_here", "_law_turn_here", "_law_name", "_law_ring", "_law_met_here"] ["_law_number", "_law_side"] qO [none,none]:=⟨rfl,by decide +kernel,by decide +kernel,by decide +kernel,rfl,by decide +kernel⟩
def qN:Scope:={ kind:=PySem.ScopeKind.function,names:=[ (PySem.Str.ofString ".0",PySem.NameKind.local),(PySem.Str.ofString "_law_number",PySem.NameKind.local),(PySem.Str.ofString "_law_side",PySem.NameKind.local),(PySem.Str.ofString "_law_joinings_here",PySem.NameKind.free)],isGenerator:=false,isCoroutine:=false,more:=[]:PySem.Scope }
theorem mW:(["_law_number", "_law_side", "_law_joinings_here"]:List Str).Nodup:=by decide +kernel
theorem qW:gU (aK gA) ["_law_joinings_here", "_law_turn_here", "_law_name", "_law_ring", "_law_met_here"] ["_law_number", "_law_side", "_law_joinings_here"] qN [none,none,some 0]:=⟨rfl,by decide +kernel,by decide +kernel,by decide +kernel,rfl,by decide +kernel⟩
theorem ud {f:Addr} {fd:FuncData} (F:Fun K "_law_is_ring" "_law_is_ring" gA f fd) (B:Blt mg) (c_law_met:Cal P w K mg base 1 "_law_met" ["_law_joinings_here", "_law_name", "_law_way"] (spP ⟨K,mg⟩ iM)) (c_law_counted:Cal P w K mg base 1 "_law_counted" ["_law_turn_here", "_law_n"] (spP ⟨K,mg⟩ dB)):iI P w K mg base CX0 2 f fd ["_law_joinings_here", "_law_turn_here", "_law_name", "_law_ring"] (spP ⟨K,mg⟩ d7):=by
 have nd:∀ _:Unit,_:=fun _=>oR.nd
 refine okP (k:=1) (ob:=(fun i=>false)) (Pr:=fun _=>false) F oR fun cdv A outer s H E hr=>?_
 exact (aC (eO 4 nd (iB (fun _=>c_law_met) (fun _=>hr.mono (by decide)) (aa (aj false 0) (aa (aj false 2) (aa (aj false 3) ao)))))
   (aC (fG (qL (mZ (bR Ow (aj false 4) oH) (mZ (bR ye (aY eG (fun _=>rfl) (fun _=>B.len) boot_len (aa (aj false 4) ao)) au) (mZ (bR (my _ (fun _=>rfl) hr.units) (fJ (ixb (fun _=>aQ hr)) (aj false 4) (lY jM au)) (aj false 2)) (o_ (bR (my _ (fun _=>rfl) hr.units) (rm (fun _=>rfl) (fun _=>B.len) (fun _=>B.set_) (aa (d9 slb (aj false 4) (dw au) dX) ao)) (bJ oJ (aY eG (fun _=>rfl) (fun _=>B.len) boot_len (aa (aj false 4) ao)) au))))))) (aO (bD j0)) bZ)
   (aC (fG (bR (my _ (fun _=>rfl) hr.units) (rm (fun _=>rfl) (fun _=>B.len) (fun _=>B.set_) (aa (jV [none,none] (fun i=>i == 0 || i == 1) (fun _=>rfl) (fun _=>rfl) (fun _=>qX) (jl rfl) (g_ (aj false 3)) (mH (fun _=>rfl) (gm (dH 0 (fun _=>mJ)) (gm (dH 1 (fun _=>mJ)) lM))) iJ (aj false 0)) ao)) (aY eG (fun _=>rfl) (fun _=>B.len) boot_len (aa (aj false 3) ao))) (aO (bD j0)) bZ)
   (aO (bD (oU (my _ (fun _=>rfl) hr.units) (iB (fun _=>c_law_counted) (fun _=>hr.mono (by decide)) (aa (aj false 1) (aa (aY (Jg (fun _=>rfl)) (fun _=>rfl) (fun _=>B.sum) boot_sum (aa (jV [none,none,some 0] (fun i=>i == 0 || i == 1) (fun _=>rfl) (fun _=>rfl) (fun _=>qW) (jl rfl) (g_ (aj false 3)) (mH (fun _=>rfl) (gm (dH 0 (fun _=>mW)) (gm (dH 1 (fun _=>mW)) lM))) iJ (bJ j7 (aj false 1) (fJ (ixb (fun _=>aQ hr)) (fJ (ixb (fun _=>aQ hr)) (aj false 2) (aj false 0)) au))) ao)) ao))) au))))))
theorem rT:cF ["_law_names_here", "_law_joinings_here", "_law_turn_here", "_law_name", "_law_ring", "_law_kept", "_law_found", "_law_due"] ["_law_names_here", "_law_joinings_here", "_law_turn_here", "_law_name", "_law_ring"] (aK kY):=⟨rfl,rfl,rfl,by decide +kernel,rfl,by decide +kernel,by decide +kernel⟩
theorem yg {f:Addr} {fd:FuncData} (F:Fun K "_law_says" "_law_says" kY f fd) (B:Blt mg) (c_shows_ring:Cal P w K mg base 4 "shows_ring" ["names", "joinings", "turn", "name", "ring"] (spP ⟨K,mg⟩ cW)) (c_law_is_way:Cal P w K mg base 1 "_law_is_way" ["_law_thing"] (spP ⟨K,mg⟩ dM)) (c_law_is_ring:Cal P w K mg base 2 "_law_is_ring" ["_law_joinings_here", "_law_turn_here", "_law_name", "_law_ring"] (spP ⟨K,mg⟩ d7)):iI P w K mg base CX0 5 f fd ["_law_names_here", "_law_joinings_here", "_law_turn_here", "_law_name", "_law_ring"] (spP ⟨K,mg⟩ dD):=by
 have nd:∀ _:Unit,_:=fun _=>rT.nd
 refine okP (k:=4) (ob:=(fun i=>false)) (Pr:=fun _=>false) F rT fun cdv A outer s H E hr=>?_
 exact (aC (eO 5 nd (gB (Cp _ (fun _=>rfl) hr.gd hr.units) (fun _=>rfl) (fun _=>B.str_) boot_str (aa (aj false 4) ao)))
   (aC (eO 6 nd (iB (fun _=>c_shows_ring) (fun _=>hr.mono (by decide)) (aa (aj false 0) (aa (aj false 1) (aa (aj false 2) (aa (aj false 3) (aa (aj false 4) ao)))))))
   (aC (eO 7 nd (mC (iB (fun _=>c_law_is_way) (fun _=>hr.mono (by decide)) (aa (aj false 4) ao)) (pR (iB (fun _=>c_law_is_ring) (fun _=>hr.mono (by decide)) (aa (aj false 1) (aa (aj false 2) (aa (aj false 3) (aa (aj false 4) ao))))))))
   (aO (bD (mC (aY iW (fun _=>rfl) (fun _=>B.isinstance) boot_isinstance (aa (aj false 6) (aa (qu (fun _=>rfl) (fun _=>B.bool_) boot_bool) ao))) (mC (oU (cb_eq _ (fun _=>rfl) hr.units) (aj false 6) (aj false 7)) (pR (oU (cb_eq _ (fun _=>rfl) hr.units) (gB (Cp _ (fun _=>rfl) hr.gd hr.units) (fun _=>rfl) (fun _=>B.str_) boot_str (aa (aj false 4) ao)) (aj false 5))))))))))
theorem mz:cF ["_law_tape_here", "_law_turn_here", "_law_letters", "_law_many", "_law_names_here", "_law_joinings_here", "_law_ring", "_law_k", "_law_side", "_law_step", "_law_pair", "_law_at", "_law_bent_here", "_law_less", "_law_paper"] ["_law_tape_here", "_law_turn_here"] (aK fO):=⟨rfl,rfl,rfl,by decide +kernel,rfl,by decide +kernel,by decide +kernel⟩
def oW:Scope:={ kind:=PySem.ScopeKind.function,names:=[ (PySem.Str.ofString ".0",PySem.NameKind.local),(PySem.Str.ofString "_law_k",PySem.NameKind.local),(PySem.Str.ofString "_law_letters",PySem.NameKind.free)],isGenerator:=false,isCoroutine:=false,more:=[]:PySem.Scope }
theorem pG:(["_law_k", "_law_letters"]:List Str).Nodup:=by decide +kernel
theorem pC:gU (aK fO) ["_law_tape_here", "_law_turn_here", "_law_letters", "_law_many", "_law_names_here", "_law_joinings_here", "_law_ring", "_law_k", "_law_side", "_law_step", "_law_pair", "_law_at", "_law_bent_here", "_law_less", "_law_paper"] ["_law_k", "_law_letters"] oW [none,some 2]:=⟨rfl,by decide +kernel,by decide +kernel,by decide +kernel,rfl,by decide +kernel⟩
theorem qQ {f:Addr} {fd:FuncData} (F:Fun K "_law_long_right" "_law_long_right" fO f fd) (B:Blt mg) (c_law_draw:Cal P w K mg base 1 "_law_draw" ["_law_tape_here", "_law_many"] (spI ⟨K,mg⟩ (fun i=>i == 0) (fun i=>i == 0) az)) (c_law_says:Cal P w K mg base 5 "_law_says" ["_law_names_here", "_law_joinings_here", "_law_turn_here", "_law_name", "_law_ring"] (spP ⟨K,mg⟩ dD)):iI P w K mg base CX0 6 f fd ["_law_tape_here", "_law_turn_here"] (spI ⟨K,mg⟩ (fun i=>i == 0) (fun i=>i == 0) dR):=by
 have nd:∀ _:Unit,_:=fun _=>mz.nd
 refine okI (k:=5) (ob:=(fun i=>i == 0)) (pr:=(fun i=>i == 0)) F mz fun cdv A outer s H E hr=>?_
 exact (aC (oM (t7 (bT (cO kE) (bT (lw cT (cO au) (bU [0] (fun _=>c_law_draw) (fun _=>hr.mono (by decide)) (aZ 0 (a_ (aR (aa au ao)))))) (aR ao)))) (jk (fun _=>rfl) (bu (aW 2 nd) (bu (aW 3 nd) il))))
   (aC (yS 4 [none,some 2] (fun i=>i == 0) nd (fun _=>rfl) (fun _=>rfl) (fun _=>pC) (jl rfl) (pU (fun _=>rfl) (fun _=>B.range) (aa (aj false 3) ao)) (dH 0 (fun _=>pG)) iJ (bJ cT (bJ cT kE (fJ (ixb (fun _=>aQ hr)) (aj false 1) (bJ lR (bJ j7 au (aj false 0)) au))) (fJ (ixb (fun _=>aQ hr)) (aj false 1) (bJ tZ (aj false 0) au))))
   (aC (Cr 5 6 (fun _=>rfl) nd (aa (dU ao) (aa (dU ao) ao)))
   (aC (jG (fun _=>PassesOwn.never) (fun _=>rfl) (pU (fun _=>rfl) (fun _=>B.range) (aa (aj false 3) ao)) (aW 7 nd) (aC (yu 8 9 (fun _=>rfl) nd (bT (ji (ixb (fun _=>aQ hr)) (cO (dU (aa au (aa (lY jM au) ao)))) (bU [0] (fun _=>c_law_draw) (fun _=>hr.mono (by decide)) (aZ 0 (a_ (aR (aa au ao)))))) (bT (lw oJ (bU [0] (fun _=>c_law_draw) (fun _=>hr.mono (by decide)) (aZ 0 (a_ (aR (aa au ao))))) (cO au)) (aR ao))))
   (aC (eO 10 nd (qw (dY (aa (fJ (ixb (fun _=>aQ hr)) (aj false 4) (aj false 7)) (aa (fJ (ixb (fun _=>aQ hr)) (aj false 4) (bJ lR (bJ cT (aj false 7) au) (aj false 3))) ao))) (aj false 8)))
   (aC (lG iC PySem.F.plainAttrs_list PySem.F.slot_list_append PySem.F.type_list_append (jJ 5) (aa (bJ cT (aj false 10) (dY (aa (aj false 9) ao))) ao))
   (aO (lG iC PySem.F.plainAttrs_list PySem.F.slot_list_append PySem.F.type_list_append (jJ 6) (aa (dY (aa (aj false 7) (aa (aj false 8) ao))) ao)))))))
   (aC (d8 11 nd (bU [0] (fun _=>c_law_draw) (fun _=>hr.mono (by decide)) (aZ 0 (a_ (aR (aa (aj false 3) ao))))))
   (aC (eO 12 nd (bJ cT (bJ cT (d9 slb (aj false 6) dX (dw (aj false 11))) (dU (aa (dY (aa (fJ (ixb (fun _=>aQ hr)) (fJ (ixb (fun _=>aQ hr)) (aj false 6) (aj false 11)) au) (aa (lY jM (fJ (ixb (fun _=>aQ hr)) (fJ (ixb (fun _=>aQ hr)) (aj false 6) (aj false 11)) au)) ao))) ao))) (d9 slb (aj false 6) (dw (bJ cT (aj false 11) au)) dX)))
   (aC (eO 13 nd (bJ cT (d9 slb (aj false 6) dX (dw (aj false 11))) (d9 slb (aj false 6) (dw (bJ cT (aj false 11) au)) dX)))
   (aC (oZ 13 (oZ 12 (oZ 6 (jG (fun _=>PassesOwn.never) (fun _=>rfl) (g_ (dY (aa (aj false 6) (aa (aj false 12) (aa (aj false 13) (aa (bJ cT (d9 slb (aj false 6) (dw au) dX) (d9 slb (aj false 6) dX (dw au))) ao)))))) (aW 14 nd) (aO (fG (lE (mq (iB (fun _=>c_law_says) (fun _=>hr.mono (by decide)) (aa (aj false 4) (aa (aj false 5) (aa (aj false 1) (aa (fJ (ixb (fun _=>aQ hr)) (aj false 4) au) (aa (gB jO (fun _=>rfl) (fun _=>B.tuple) boot_tuple (aa (aj false 14) ao)) ao)))))))) (aO (bD j0)) bZ))))))
   (aO (bD j0))))))))))
theorem G7:cF ["_law_script", "_law_k", "_law_tape_here", "_law_names_here", "_law_turn_here", "_law_joinings_here", "_law_one", "_law_other", "_law_step", "_law_again", "_law_name", "_law_ring", "_law_paper"] ["_law_script"] (aK qC):=⟨rfl,rfl,rfl,by decide +kernel,rfl,by decide +kernel,by decide +kernel⟩
theorem Lq {f:Addr} {fd:FuncData} (F:Fun K "law" "law" qC f fd) (B:Blt mg) (c_law_tape:Cal P w K mg base 1 "_law_tape" ["_law_script", "_law_k"] (spP ⟨K,mg⟩ gk)) (c_law_turn:Cal P w K mg base 2 "_law_turn" ["_law_tape_here"] (spI ⟨K,mg⟩ (fun i=>i == 0) (fun i=>i == 0) ig)) (c_law_joinings:Cal P w K mg base 2 "_law_joinings" ["_law_tape_here", "_law_names_here", "_law_turn_here"] (spI ⟨K,mg⟩ (fun i=>i == 0) (fun i=>i == 0) fj)) (c_law_names:Cal P w K mg base 2 "_law_names" ["_law_tape_here"] (spI ⟨K,mg⟩ (fun i=>i == 0) (fun i=>i == 0) gF)) (c_law_draw:Cal P w K mg base 1 "_law_draw" ["_law_tape_here", "_law_many"] (spI ⟨K,mg⟩ (fun i=>i == 0) (fun i=>i == 0) az)) (c_law_rings:Cal P w K mg base 2 "_law_rings" ["_law_tape_here", "_law_joinings_here", "_law_name"] (spI ⟨K,mg⟩ (fun i=>i == 0) (fun i=>i == 0) gO)) (c_law_papers:Cal P w K mg base 3 "_law_papers" ["_law_tape_here", "_law_joinings_here", "_law_ring"] (spI ⟨K,mg⟩ (fun i=>i == 0) (fun i=>i == 0) gh)) (c_law_long_right:Cal P w K mg base 6 "_law_long_right" ["_law_tape_here", "_law_turn_here"] (spI ⟨K,mg⟩ (fun i=>i == 0) (fun i=>i == 0) dR)) (c_law_says:Cal P w K mg base 5 "_law_says" ["_law_names_here", "_law_joinings_here", "_law_turn_here", "_law_name", "_law_ring"] (spP ⟨K,mg⟩ dD)):iI P w K mg base CX0 7 f fd ["_law_script"] (spP ⟨K,mg⟩ nF):=by
 have nd:∀ _:Unit,_:=fun _=>G7.nd
 refine okP (k:=6) (ob:=(fun i=>i == 2)) (Pr:=fun _=>false) F G7 fun cdv A outer s H E hr=>?_
 exact (aC (jG (fun _=>PassesOwn.never) (fun _=>rfl) (pU (fun _=>rfl) (fun _=>B.range) (aa (bJ cT au (aY (zx (fun _=>rfl)) (fun _=>rfl) (fun _=>B.min) boot_min (aa au (aa (aY eG (fun _=>rfl) (fun _=>B.len) boot_len (aa (aj false 0) ao)) ao)))) ao)) (aW 1 nd) (aC (eO 2 nd (iB (fun _=>c_law_tape) (fun _=>hr.mono (by decide)) (aa (aj false 0) (aa (aj false 1) ao))))
   (aC (d8 3 nd (lw cT (bU [2] (fun _=>c_law_names) (fun _=>hr.mono (by decide)) (aZ 2 (a_ (aR ao)))) (cO (dU (aa kE ao)))))
   (aC (d8 4 nd (bU [2] (fun _=>c_law_turn) (fun _=>hr.mono (by decide)) (aZ 2 (a_ (aR ao)))))
   (aC (pA (xn (qH (t6 (bR ye (aj false 1) au)) (o6 (yR (yL (bU [2] (fun _=>c_law_long_right) (fun _=>hr.mono (by decide)) (aZ 2 (a_ (aR (aa (aj false 4) ao)))))))))) (aO (bD j0)) bZ)
   (aC (d8 5 nd (bU [2] (fun _=>c_law_joinings) (fun _=>hr.mono (by decide)) (aZ 2 (a_ (aR (aa (aj false 3) (aa (aj false 4) ao)))))))
   (aC (pA (xn (qH (t6 (bR (my _ (fun _=>rfl) hr.units) (aj false 5) (dU ao))) (o6 (qG (cb_eq _ (fun _=>rfl) hr.units) (bU [2] (fun _=>c_law_draw) (fun _=>hr.mono (by decide)) (aZ 2 (a_ (aR (aa au ao))))) (cO au))))) (aC (oM (ji (ixb (fun _=>aQ hr)) (cO (aj false 5)) (bU [2] (fun _=>c_law_draw) (fun _=>hr.mono (by decide)) (aZ 2 (a_ (aR (aa (aY eG (fun _=>rfl) (fun _=>B.len) boot_len (aa (aj false 5) ao)) ao)))))) (jk (fun _=>rfl) (bu (aW 6 nd) (bu (aW 7 nd) (bu (aW 8 nd) il)))))
   (aO (lG iC PySem.F.plainAttrs_list PySem.F.slot_list_append PySem.F.type_list_append (jJ 5) (aa (dY (aa (aj false 7) (aa (aj false 6) (aa (bJ oJ au (aj false 8)) ao)))) ao)))) bZ)
   (aC (oZ 5 (oZ 3 (oM (ji (ixb (fun _=>aQ hr)) (cO (dU (aa (dY (aa (aj false 3) (aa (aj false 5) ao))) (aa (dY (aa (gB jO (fun _=>rfl) (fun _=>B.tuple) boot_tuple (aa (aj false 3) ao)) (aa (gB jO (fun _=>rfl) (fun _=>B.tuple) boot_tuple (aa (aj false 5) ao)) ao))) ao)))) (bU [2] (fun _=>c_law_draw) (fun _=>hr.mono (by decide)) (aZ 2 (a_ (aR (aa au ao)))))) (jk (fun _=>rfl) (bu (aW 3 nd) (bu (aW 5 nd) il))))))
   (aO (jG (fun _=>PassesOwn.never) (fun _=>rfl) (pU (fun _=>rfl) (fun _=>B.range) (aa au ao)) (aW 9 nd) (aC (d8 10 nd (ji (ixb (fun _=>aQ hr)) (cO (aj false 3)) (bU [2] (fun _=>c_law_draw) (fun _=>hr.mono (by decide)) (aZ 2 (a_ (aR (aa (aY eG (fun _=>rfl) (fun _=>B.len) boot_len (aa (aj false 3) ao)) ao)))))))
   (aC (d8 11 nd (bU [2] (fun _=>c_law_rings) (fun _=>hr.mono (by decide)) (aZ 2 (a_ (aR (aa (aj false 5) (aa (aj false 10) ao)))))))
   (aC (yp (fun _=>PassesOwn.never) (fun _=>rfl) (Hh (bU [2] (fun _=>c_law_papers) (fun _=>hr.mono (by decide)) (aZ 2 (a_ (aR (aa (aj false 5) (aa (aj false 11) ao))))))) (aW 12 nd) (aO (fG (lE (mq (iB (fun _=>c_law_says) (fun _=>hr.mono (by decide)) (aa (aj false 3) (aa (aj false 5) (aa (aj false 4) (aa (aj false 10) (aa (aj false 12) ao)))))))) (aO (bD j0)) bZ)))
   (aO (pA (yR (yL (Io (fun _=>c_law_says) (fun _=>hr.mono (by decide)) (bT (cO (aj false 3)) (bT (cO (aj false 5)) (bT (cO (aj false 4)) (bT (ji (ixb (fun _=>aQ hr)) (cO (aj false 3)) (bU [2] (fun _=>c_law_draw) (fun _=>hr.mono (by decide)) (aZ 2 (a_ (aR (aa (aY eG (fun _=>rfl) (fun _=>B.len) boot_len (aa (aj false 3) ao)) ao)))))) (aR (aa (aj false 11) ao))))))))) (aO (bD j0)) bZ)))))))))))))))
   (aO (bD j0)))
end
abbrev tp (a b:Int):D:=.lst .own [.int a,.int b]
def Dr (a b m:Int) (q:D×List D):Prop:=∃ r a' b':Int,q=(.int r,[tp a' b',.int m])/\0<=r/\r < m/\0<=a'
theorem Hj {a b m:Int} (ha:0<=a) (hm:0 < m) (hm2:m < 2 ^ 60):Wp (az [tp a b,.int m]) (Dr a b m):=by
 have h2:m < 18446744073709551616:=by omega
 have hx:∀ x:Int,-18446744073709551616 < x % 40009 + 7/\x % 40009 + 7 < 18446744073709551616:=fun x=>by omega
 by_cases h:0 < a
 .simp [az,aA,bA,aV,cP,w_ite,cY,bW,aX,cJ,bw,sIf,eZ,sEx,bO,cu,dm,b_,cg,gP,gQ,dF,cH,sFz,cL,eV,cR,fZ,upS,tgN,tgT,aJ,aU,cN,tpN,tpT,d_,gK,aq,eC,aB,ak,eAp,eUp,fD,bc,ee2,ee1,aP,dJ,e2,e1,eB,eeB,eY,cM,fK,eOr,eX,cB,gG,cI,eE,vOr,gH,di,eTT,isB,dO,gJ,itS,itE,cQ,gf,bC,bH,bF,eSl,fX,fY,cG,bx,bf,eMt,bz,fW,gj,eIo,objs,bY,bj,eU,dW,clean,aH,aF,aD,aG,aM,aL,view,bI,mkV,mkF,fz,fzL,fzo,dq,mkO,fnP,fnI,en0,outs,dZ,bK,obC,truth,dh,lA,jE,nP,lF,tV,jt,gLt,gLe,gGt,gGe,gIx,bM,bL,dI,vC,yw,pL,Gz,gIs,Ax,sE,atI,ixN,cA,sr,gSl,lU,g8,nM,h,hm,h2,hx]
  exact ⟨_,_,_,rfl,Int.emod_nonneg _ (by omega),Int.emod_lt_of_pos _ hm,Int.ediv_nonneg ha (by omega)⟩
 .simp [az,aA,bA,aV,cP,w_ite,cY,bW,aX,cJ,bw,sIf,eZ,sEx,bO,cu,dm,b_,cg,gP,gQ,dF,cH,sFz,cL,eV,cR,fZ,upS,tgN,tgT,aJ,aU,cN,tpN,tpT,d_,gK,aq,eC,aB,ak,eAp,eUp,fD,bc,ee2,ee1,aP,dJ,e2,e1,eB,eeB,eY,cM,fK,eOr,eX,cB,gG,cI,eE,vOr,gH,di,eTT,isB,dO,gJ,itS,itE,cQ,gf,bC,bH,bF,eSl,fX,fY,cG,bx,bf,eMt,bz,fW,gj,eIo,objs,bY,bj,eU,dW,clean,aH,aF,aD,aG,aM,aL,view,bI,mkV,mkF,fz,fzL,fzo,dq,mkO,fnP,fnI,en0,outs,dZ,bK,obC,truth,dh,lA,jE,nP,lF,tV,jt,gLt,gLe,gGt,gGe,gIx,bM,bL,dI,vC,yw,pL,Gz,gIs,Ax,sE,atI,ixN,cA,sr,gSl,lU,g8,nM,h,hm,h2,hx]
  exact ⟨_,_,_,rfl,Int.emod_nonneg _ (by omega),Int.emod_lt_of_pos _ hm,ha⟩
theorem rA {a b m:Int} (ha:0<=a) (hm:0 < m) (hm2:m < 2 ^ 60):∃ r a' b',az [tp a b,.int m]=some (.int r,[tp a' b',.int m])/\0<=r/\r < m/\0<=a':=by
 obtain ⟨q,e,r,a',b',rfl,h⟩:=Hj (b:=b) ha hm hm2
 exact ⟨r,a',b',e,h⟩
theorem eQ {a b m:Int} {Q:D×List D->Prop} (ha:0<=a) (hm:0 < m) (hm2:m < 2 ^ 60) (h:∀ r a' b',0<=r->r < m->0<=a'->Q (.int r,[tp a' b',.int m])):Wp (az [tp a b,.int m]) Q:=by
 refine (Hj (b:=b) ha hm hm2).mono ?_
 rintro _ ⟨r,a',b',rfl,h1,h2,h3⟩
 exact h r a' b' h1 h2 h3
def Tn (q:D×List D):Prop:=∃ t a' b':Int,q=(.int t,[tp a' b'])/\0<=t/\t<=1000/\0<=a'
theorem Mf {a b:Int} (ha:0<=a):Wp (ig [tp a b]) Tn:=by
 obtain ⟨r,a',b',e,h1,h2,h3⟩:=rA (b:=b) ha (show (0:Int) < 8 by decide) (by decide)
 have hr:r=0∨r=1∨r=2∨r=3∨r=4∨r=5∨r=6∨r=7:=by omega
 rcases hr with rfl | rfl | rfl | rfl | rfl | rfl | rfl | rfl <;> simp [ig,aA,bA,aV,cP,w_ite,cY,bW,aX,cJ,bw,sIf,eZ,sEx,bO,cu,dm,b_,cg,gP,gQ,dF,cH,sFz,cL,eV,cR,fZ,upS,tgN,tgT,aJ,aU,cN,tpN,tpT,d_,gK,aq,eC,aB,ak,eAp,eUp,fD,bc,ee2,ee1,aP,dJ,e2,e1,eB,eeB,eY,cM,fK,eOr,eX,cB,gG,cI,eE,vOr,gH,di,eTT,isB,dO,gJ,itS,itE,cQ,gf,bC,bH,bF,eSl,fX,fY,cG,bx,bf,eMt,bz,fW,gj,eIo,objs,bY,bj,eU,dW,clean,aH,aF,aD,aG,aM,aL,view,bI,mkV,mkF,fz,fzL,fzo,dq,mkO,fnP,fnI,en0,outs,dZ,bK,obC,truth,dh,lA,jE,nP,lF,tV,jt,gLt,gLe,gGt,gGe,gIx,bM,bL,dI,vC,yw,pL,Gz,gIs,Ax,sE,atI,ixN,cA,sr,gSl,lU,g8,nM,e] <;> exact ⟨_,_,_,rfl,by decide,by decide,h3⟩
def Nm (q:D×List D):Prop:=∃ (ns:List Str) (a' b':Int),q=(.lst .own (ns.map D.str),[tp a' b'])/\ns.length<=14/\0<=a'
def zg:List Str:=["b", "aa", "zebra", "c", "quartzes", "ab", "m", "knows", "d", "mm", "likes", "z", "a", "ba", "abcdefgh", "y"]
theorem Kf:wR "b aa zebra c quartzes ab m knows d mm likes z a ba abcdefgh y" " " = some zg:=by decide +kernel
theorem Ie {a b:Int} (ha:0<=a):Wp (gF [tp a b]) Nm:=by
 obtain ⟨r1,a1,b1,e1,h11,h12,h13⟩:=rA (b:=b) ha (show (0:Int) < 16 by decide) (by decide)
 obtain ⟨r2,a2,b2,e2,h21,h22,h23⟩:=rA (b:=b1) h13 (show (0:Int) < 3 by decide) (by decide)
 obtain ⟨r3,a3,b3,e3,h31,h32,h33⟩:=rA (b:=b2) h23 (show (0:Int) < 5 by decide) (by decide)
 obtain ⟨r4,a4,b4,e4,h41,h42,h43⟩:=rA (b:=b3) h33 (show (0:Int) < 5 by decide) (by decide)
 obtain ⟨r5,a5,b5,e5,h51,h52,h53⟩:=rA (b:=b4) h43 (show (0:Int) < 8 by decide) (by decide)
 simp [gF,aA,bA,aV,cP,w_ite,cY,bW,aX,cJ,bw,sIf,eZ,sEx,bO,cu,dm,b_,cg,gP,gQ,dF,cH,sFz,cL,eV,cR,fZ,upS,tgN,tgT,aJ,aU,cN,tpN,tpT,d_,gK,aq,eC,aB,ak,eAp,eUp,fD,bc,ee2,ee1,aP,dJ,e2,e1,eB,eeB,eY,cM,fK,eOr,eX,cB,gG,cI,eE,vOr,gH,di,eTT,isB,dO,gJ,itS,itE,cQ,gf,bC,bH,bF,eSl,fX,fY,cG,bx,bf,eMt,bz,fW,gj,eIo,objs,bY,bj,eU,dW,clean,aH,aF,aD,aG,aM,aL,view,bI,mkV,mkF,fz,fzL,fzo,dq,mkO,fnP,fnI,en0,outs,dZ,bK,obC,truth,um,Kf,bM,dh,pL,e1,e2,e3,e4,e5]
 clear e1 e2 e3 e4 e5
 obtain ⟨n,hn,n0,n1⟩:∃ n:Int,gIx (D.lst Mk.own [D.int r2,D.int (10 + r3),D.int (4 + r4)]) (D.int (if r5 < 2 then r5 else 2))=some (.int n)/\0<=n/\n<=14:=by
  have:r5=0∨r5=1∨2<=r5:=by omega
  rcases this with rfl | rfl | h
  .exact ⟨r2,rfl,h21,by omega⟩
  .exact ⟨10 + r3,rfl,by omega,by omega⟩
  .rw [if_neg (by omega)]
   exact ⟨4 + r4,rfl,by omega,by omega⟩
 simp only [hn,cC,cz,aA,view,aH,aF,true_and]
 rw [if_pos (by omega),aA]
 refine ⟨by rw [nA]; omega,?_⟩
 rw [jg (p:=fun _=>true) (f:=fun d=>match d with | .int k=>.str ((zg[((r1 + 5 * k) % 16).toNat]?).getD "") | _=>.non)]
 .rw [aA,filter_tt,Ce]
  have e:(List.range n.toNat).map (fun (k:Nat)=>D.str ((zg[((r1 + 5 * (k:Int)) % 16).toNat]?).getD ""))=((List.range n.toNat).map fun (k:Nat)=>(zg[((r1 + 5 * (k:Int)) % 16).toNat]?).getD "").map D.str:=by rw [List.map_map]; rfl
  show (aD ((List.range n.toNat).map (fun (k:Nat)=>D.str ((zg[((r1 + 5 * (k:Int)) % 16).toNat]?).getD "")))=true/\aG ((List.range n.toNat).map (fun (k:Nat)=>D.str ((zg[((r1 + 5 * (k:Int)) % 16).toNat]?).getD "")))=true)/\Nm (D.lst Mk.own ((List.range n.toNat).map (fun (k:Nat)=>D.str ((zg[((r1 + 5 * (k:Int)) % 16).toNat]?).getD ""))),[tp a5 b5])
  rw [e]
  exact ⟨⟨cC _,cz _⟩,_,_,_,rfl,by simp; omega,h53⟩
 .intro d hd
  obtain ⟨k,hk,rfl⟩:=BP hd
  have hm:(-18446744073709551616:Int) < 5:=by decide
  obtain ⟨x,hx,hx1,hx2⟩:=iV (f:=D.str) (l:=zg) (i:=(r1 + 5 * (k:Int)) % 16) (by omega) (by show _ < (16:Int); omega)
  simp [tpN,aA,eTT,e2,aq,view,bQ,eC,jE,dh,lF,gIx,hx1,hx2]
def Jo (ns:List Str) (t:Int) (q:D×List D):Prop:=∃ (js:List Jt) (a' b':Int),q=(.lst .own (js.map jD),[tp a' b',.lst .frz (ns.map D.str),.int t])/\(∀ j∈js,j.1∈ns/\j.2.1∈ns)/\js.length<=2 * ns.length/\0<=a'
def JoI (ns:List Str) (t w:Int) (k:Nat) (acc:List D) (ρ:En):Prop:=∃ (ps:List (Str×Int)) (a' b':Int),acc=ps.map pD/\ps.map (·.1)=ns.take k/\0<=a'/\ρ=[some (tp a' b'),some (D.lst Mk.frz (List.map D.str ns)),some (D.int t),some (D.lst Mk.own []),some (D.int w),none,none,none,none,none,none,none]
def JoF (ns:List Str) (t w sl:Int) (ks:List Key) (ds:List D) (k:Nat) (ρ:En):Prop:=∃ (js:List Jt) (a' b':Int) (x7 x8 x9 x10 x11:Option D),ρ=[some (tp a' b'),some (D.lst Mk.frz (List.map D.str ns)),some (D.int t),some (D.lst Mk.own (js.map jD)),some (D.int w),some (D.dct .own ks ds),some (D.int sl),x7,x8,x9,x10,x11]/\(∀ j∈js,j.1∈ns/\j.2.1∈ns)/\js.length<=k/\0<=a'
local macro_rules
 | `(tactic| simp_arith [$xs,*])=>`(tactic| simp [aA,bA,aV,cP,w_ite,cY,bW,aX,cJ,bw,sIf,eZ,sEx,bO,cu,dm,b_,cg,gP,gQ,dF,cH,sFz,cL,eV,cR,fZ,upS,tgN,tgT,aJ,aU,cN,tpN,tpT,d_,gK,aq,eC,aB,ak,eAp,eUp,fD,bc,ee2,ee1,aP,dJ,e2,e1,eB,eeB,eY,cM,fK,eOr,eX,cB,gG,cI,eE,vOr,gH,di,eTT,isB,dO,gJ,itS,itE,cQ,gf,bC,bH,bF,eSl,fX,fY,cG,bx,bf,eMt,bz,fW,gj,eIo,objs,bY,bj,eU,dW,clean,aH,aF,aD,aG,aM,aL,view,bI,mkV,mkF,fz,fzL,fzo,dq,mkO,fnP,fnI,en0,outs,dZ,bK,obC,truth,$xs,*])
theorem zQ {a b t:Int} {ns:List Str} (ha:0<=a) (hn:0 < ns.length) (hn2:ns.length<=1000) (ht:0<=t/\t<=1000):Wp (fj [tp a b,.lst .frz (ns.map D.str),.int t]) (Jo ns t):=by
 simp [fj,aA,bA,aV,cP,w_ite,cY,bW,aX,cJ,bw,sIf,eZ,sEx,bO,cu,dm,b_,cg,gP,gQ,dF,cH,sFz,cL,eV,cR,fZ,upS,tgN,tgT,aJ,aU,cN,tpN,tpT,d_,gK,aq,eC,aB,ak,eAp,eUp,fD,bc,ee2,ee1,aP,dJ,e2,e1,eB,eeB,eY,cM,fK,eOr,eX,cB,gG,cI,eE,vOr,gH,di,eTT,isB,dO,gJ,itS,itE,cQ,gf,bC,bH,bF,eSl,fX,fY,cG,bx,bf,eMt,bz,fW,gj,eIo,objs,bY,bj,eU,dW,clean,aH,aF,aD,aG,aM,aL,view,bI,mkV,mkF,fz,fzL,fzo,dq,mkO,fnP,fnI,en0,outs,dZ,bK,obC,truth,bM,jE,tV]
 refine eQ ha (by omega) (by omega) fun r1 a1 b1 p1 q1 s1=>?_
 obtain ⟨w,hw,w0,w1⟩:∃ w:Int,gIx (D.lst Mk.own [D.int 3,D.int 3,D.int 12,D.int 12,D.int 12,D.int 400000000000]) (D.int r1)=some (.int w)/\3<=w/\w<=400000000000:=by
  have:r1=0∨r1=1∨r1=2∨r1=3∨r1=4∨r1=5:=by omega
  rcases this with rfl | rfl | rfl | rfl | rfl | rfl <;> exact ⟨_,rfl,by decide,by decide⟩
 simp_arith [hw,bQ,fH,cC,cz]
 refine ⟨by omega,Fg (JoI ns t w) ⟨[],a1,b1,rfl,rfl,s1,rfl⟩ ?_ ?_⟩
 .rintro i d acc ρ hi ⟨ps,a2,b2,rfl,hps,s2,rfl⟩
  rw [List.getElem?_map] at hi
  cases hx:ns[i]? with
  | none=>simp [hx] at hi
  | some x=>
   obtain rfl:D.str x=d:=by simpa [hx] using hi
   simp_arith [jE,bL]
   refine eQ s2 (by omega) (by omega) fun r3 a3 b3 p3 q3 s3=>?_
   simp_arith [lA]
   exact ⟨ps++[(x,r3 - w)],_,_,by simp [pD],by rw [List.map_append,hps,List.take_add_one,hx]; rfl,s3,rfl⟩
 .rintro ys ρ ⟨ps,a2,b2,rfl,hps,s2,rfl⟩
  rw [List.length_map,List.take_length] at hps
  have hnb:aG (ps.map pD)=true:=e_ fun d hd=>by obtain ⟨x,_,rfl⟩:=List.mem_map.mp hd; rfl
  have hpl:ps.length=ns.length:=by rw [← hps]; simp
  refine ⟨hnb,Wp.mono (Jv (by omega)) ?_⟩
  rintro _ ⟨⟨ks,ds,rfl,hds,hkd⟩,hcl⟩
  rw [hps] at hkd
  have hcl':(aH (D.dct .own ks ds)=true/\aF (D.dct .own ks ds)=true):=by simpa [clean] using hcl
  refine ⟨hcl',?_⟩
  simp_arith [dI,bQ,dh]
  refine eQ s2 (by omega) (by omega) fun r4 a4 b4 p4 q4 s4=>?_
  obtain ⟨sl,hsl,sl0,sl1⟩:∃ w:Int,gIx (D.lst Mk.own [D.int 0,D.int 0,D.int 3,D.int 12]) (D.int r4)=some (.int w)/\0<=w/\w<=12:=by
   have:r4=0∨r4=1∨r4=2∨r4=3:=by omega
   rcases this with rfl | rfl | rfl | rfl <;> exact ⟨_,rfl,by decide,by decide⟩
  simp_arith [hsl,dI,bQ,dh]
  refine eQ s4 (by omega) (by omega) fun r5 a5 b5 p5 q5 s5=>?_
  simp_arith [aA]
  refine ⟨by omega,j4 (JoF ns t w sl ks ds) ⟨[],a5,b5,_,_,_,_,_,rfl,by simp,by simp,s5⟩ ?_ ?_⟩
  .rintro k d ρ hk ⟨js,a6,b6,x7,x8,x9,x10,x11,rfl,hjs,hjl,s6⟩
   obtain ⟨hkl,rfl⟩:=pB hk
   simp only [tgN,clean,aH,aF,Bool.and_self,if_true,aA,List.set_cons_succ,List.set_cons_zero]
   refine dG (fun ρ=>∃ (x y:Str) (a' b':Int),x∈ns/\y∈ns/\0<=a'/\ρ=[some (tp a' b'),some (D.lst Mk.frz (List.map D.str ns)),some (D.int t),some (D.lst Mk.own (js.map jD)),some (D.int w),some (D.dct .own ks ds),some (D.int sl),some (D.int k),some (D.str x),some (D.str y),x10,x11]) (fun Q hQ=>?_) ?_
   .simp_arith [cC,cz,bQ,du,fH,iG,iH,jj,jm,jf,lB,lz,lW,lO,mD,jr,iw,len_strs,fU,cV,kW,lX,eq_int,iz]
    refine eQ s6 (by omega) (by omega) fun r7 a7 b7 p7 q7 s7=>?_
    obtain ⟨x,hx,_,hx2⟩:=iV (f:=D.str) (l:=ns) p7 q7
    simp_arith [cC,cz,bQ,du,fH,iG,iH,jj,jm,jf,lB,lz,lW,lO,mD,jr,iw,len_strs,fU,cV,kW,lX,eq_int,iz,hx2]
    refine eQ s7 (by omega) (by omega) fun r8 a8 b8 p8 q8 s8=>?_
    obtain ⟨y,hy,_,hy2⟩:=iV (f:=D.str) (l:=ns) p8 q8
    simp_arith [cC,cz,bQ,du,fH,iG,iH,jj,jm,jf,lB,lz,lW,lO,mD,jr,iw,len_strs,fU,cV,kW,lX,eq_int,iz,hy2]
    exact hQ _ ⟨x,y,_,_,hx,hy,s8,rfl⟩
   rintro _ ⟨x,y,a7,b7,hx,hy,s7,rfl⟩
   refine dG (fun ρ=>∃ (v:Int) (a' b':Int),0<=a'/\ρ=[some (tp a' b'),some (D.lst Mk.frz (List.map D.str ns)),some (D.int t),some (D.lst Mk.own (js.map jD)),some (D.int w),some (D.dct .own ks ds),some (D.int sl),some (D.int k),some (D.str x),some (D.str y),some (D.int v),x11]) (fun Q hQ=>?_) ?_
   .simp_arith [aA]
    refine eQ s7 (by omega) (by omega) fun r8 a8 b8 p8 q8 s8=>?_
    simp_arith [aA]
    exact hQ _ ⟨_,_,_,s8,rfl⟩
   rintro _ ⟨v,a8,b8,s8,rfl⟩
   refine dG (fun ρ=>∃ (y:Str),y∈ns/\ρ=[some (tp a8 b8),some (D.lst Mk.frz (List.map D.str ns)),some (D.int t),some (D.lst Mk.own (js.map jD)),some (D.int w),some (D.dct .own ks ds),some (D.int sl),some (D.int k),some (D.str x),some (D.str y),some (D.int v),x11]) (fun Q hQ=>?_) ?_
   .simp_arith [eq_int]
    split
    .exact hQ _ ⟨x,hx,rfl⟩
    .exact hQ _ ⟨y,hy,rfl⟩
   clear hy y
   rintro _ ⟨y,hy,rfl⟩
   have two:∀ {Q:Fl->Prop} {a8 b8:Int} {x y:Str} (c:Int) (sw:Bool),x∈ns->y∈ns->0<=a8->(∀ x y a' b',x∈ns->y∈ns->0<=a'->Q (.nx [some (tp a' b'),some (D.lst Mk.frz (List.map D.str ns)),some (D.int t),some (D.lst Mk.own (js.map jD)),some (D.int w),some (D.dct .own ks ds),some (D.int sl),some (D.int k),some (D.str x),some (D.str y),some (D.int v),x11]))->
     Wp (sIf (fK (eB (e2 gEq (aq false 10) (eC (.int c)))) (eB (e2 gNe (aq false 3) (eAp bM aB)))) (aX (fX (ee2 gIx (eUp (aq false 3)) (eIo az [0] (bc (ak (eAp dI (ak (aq false 3) aB)) aB)))) bx (bf (eC (.int 2)))) (tgT 2 (if sw then aJ (tgN 9) (aJ (tgN 8) aU) else aJ (tgN 8) (aJ (tgN 9) aU)))) cg [some (tp a8 b8),some (D.lst Mk.frz (List.map D.str ns)),some (D.int t),some (D.lst Mk.own (js.map jD)),some (D.int w),some (D.dct .own ks ds),some (D.int sl),some (D.int k),some (D.str x),some (D.str y),some (D.int v),x11]) Q:=by
    intro Q a8 b8 x y c sw hx hy s8 hQ
    simp_arith [cC,cz,bQ,du,fH,iG,iH,jj,jm,jf,lB,lz,lW,lO,mD,jr,iw,len_strs,fU,cV,kW,lX,eq_int,iz,bM]
    split
    .by_cases hjn:js=[]
     .subst hjn
      simp
      exact hQ _ _ _ _ hx hy s8
     .have hjp:0 < js.length:=List.length_pos_iff.mpr hjn
      simp [hjn,aA,bA,aV,cP,w_ite,cY,bW,aX,cJ,bw,sIf,eZ,sEx,bO,cu,dm,b_,cg,gP,gQ,dF,cH,sFz,cL,eV,cR,fZ,upS,tgN,tgT,aJ,aU,cN,tpN,tpT,d_,gK,aq,eC,aB,ak,eAp,eUp,fD,bc,ee2,ee1,aP,dJ,e2,e1,eB,eeB,eY,cM,fK,eOr,eX,cB,gG,cI,eE,vOr,gH,di,eTT,isB,dO,gJ,itS,itE,cQ,gf,bC,bH,bF,eSl,fX,fY,cG,bx,bf,eMt,bz,fW,gj,eIo,objs,bY,bj,eU,dW,clean,aH,aF,aD,aG,aM,aL,view,bI,mkV,mkF,fz,fzL,fzo,dq,mkO,fnP,fnI,en0,outs,dZ,bK,obC,truth,cC,cz,bQ,du,fH,iG,iH,jj,jm,jf,lB,lz,lW,lO,mD,jr,iw,len_strs,fU,cV,kW,lX,eq_int,iz]
      refine eQ s8 (by omega) (by omega) fun r9 a9 b9 p9 q9 s9=>?_
      obtain ⟨j,hj,_,hj2⟩:=iV (f:=jD) (l:=js) p9 q9
      cases sw <;> simp_arith [cC,cz,bQ,du,fH,iG,iH,jj,jm,jf,lB,lz,lW,lO,mD,jr,iw,len_strs,fU,cV,kW,lX,eq_int,iz,hj2]
      .exact hQ _ _ _ _ (hjs j hj).1 (hjs j hj).2 s9
      .exact hQ _ _ _ _ (hjs j hj).2 (hjs j hj).1 s9
    .exact hQ _ _ _ _ hx hy s8
   refine dG (fun ρ=>∃ (x y:Str) (a' b':Int),x∈ns/\y∈ns/\0<=a'/\ρ=[some (tp a' b'),some (D.lst Mk.frz (List.map D.str ns)),some (D.int t),some (D.lst Mk.own (js.map jD)),some (D.int w),some (D.dct .own ks ds),some (D.int sl),some (D.int k),some (D.str x),some (D.str y),some (D.int v),x11]) (fun Q hQ=>two 1 false hx hy s8 fun x y a' b' h1 h2 h3=>hQ _ ⟨x,y,a',b',h1,h2,h3,rfl⟩) ?_
   clear hx hy x y
   rintro _ ⟨x,y,a9,b9,hx,hy,s9,rfl⟩
   refine dG (fun ρ=>∃ (x y:Str) (a' b':Int),x∈ns/\y∈ns/\0<=a'/\ρ=[some (tp a' b'),some (D.lst Mk.frz (List.map D.str ns)),some (D.int t),some (D.lst Mk.own (js.map jD)),some (D.int w),some (D.dct .own ks ds),some (D.int sl),some (D.int k),some (D.str x),some (D.str y),some (D.int v),x11]) (fun Q hQ=>two 2 true hx hy s9 fun x y a' b' h1 h2 h3=>hQ _ ⟨x,y,a',b',h1,h2,h3,rfl⟩) ?_
   clear hx hy x y
   rintro _ ⟨x,y,a10,b10,hx,hy,s10,rfl⟩
   obtain ⟨jx,ix,hkx,hdx⟩:=hkd x hx
   obtain ⟨jy,iy,hky,hdy⟩:=hkd y hy
   have hvd:bI false ds=ds:=by
    rw [iQ]
    conv=>rhs; rw [← List.map_id ds]
    exact List.map_congr_left fun d hd=>by obtain ⟨i,rfl⟩:=hds d hd; rfl
   refine dG (fun ρ=>∃ (st:Int) (a' b':Int),0<=a'/\ρ=[some (tp a' b'),some (D.lst Mk.frz (List.map D.str ns)),some (D.int t),some (D.lst Mk.own (js.map jD)),some (D.int w),some (D.dct .own ks ds),some (D.int sl),some (D.int k),some (D.str x),some (D.str y),some (D.int v),some (D.int st)]) (fun Q hQ=>?_) ?_
   .have ht1 : -18446744073709551616 < t/\t < 18446744073709551616:=by omega
    simp_arith [gIx,mG,hvd,hkx,hdx,hky,hdy,lA]
    refine eQ s10 (by omega) (by omega) fun r11 a11 b11 p11 q11 s11=>?_
    simp_arith [lA,jE,dh,ht1]
    exact hQ _ ⟨_,_,_,s11,rfl⟩
   rintro _ ⟨st,a11,b11,s11,rfl⟩
   refine dG (fun ρ=>∃ (st:Int) (a' b':Int),0<=a'/\ρ=[some (tp a' b'),some (D.lst Mk.frz (List.map D.str ns)),some (D.int t),some (D.lst Mk.own (js.map jD)),some (D.int w),some (D.dct .own ks ds),some (D.int sl),some (D.int k),some (D.str x),some (D.str y),some (D.int v),some (D.int st)]) (fun Q hQ=>?_) ?_
   .simp_arith [gGt]
    split
    .refine eQ s11 (by omega) (by omega) fun r12 a12 b12 p12 q12 s12=>?_
     simp_arith [eq_int]
     split
     .simp_arith [bM,jt,tV]
      refine eQ s12 (by omega) (by omega) fun r13 a13 b13 p13 q13 s13=>?_
      have:r13=0∨r13=1∨r13=2∨r13=3:=by omega
      rcases this with rfl | rfl | rfl | rfl <;> simp_arith [gIx,atI,ixN,dh] <;> exact hQ _ ⟨_,_,_,s13,rfl⟩
     .exact hQ _ ⟨_,_,_,s12,rfl⟩
    .exact hQ _ ⟨_,_,_,s11,rfl⟩
   rintro _ ⟨st',a12,b12,s12,rfl⟩
   simp_arith [cA,bL]
   refine ⟨by omega,⟨js++[(x,y,st')],_,_,_,_,_,_,_,by rw [List.map_append]; rfl,?_,by simp; omega,s12⟩⟩
   intro j hj
   rcases List.mem_append.mp hj with z | z
   .exact hjs j z
   .obtain rfl:j=(x,y,st'):=by simpa using z
    exact ⟨hx,hy⟩
  .rintro ρ ⟨js,a6,b6,x7,x8,x9,x10,x11,rfl,hjs,hjl,s6⟩
   simp_arith [aA]
   rw [nA] at hjl
   exact ⟨js,a6,b6,rfl,hjs,by omega,s6⟩
inductive Tyd:D->Prop
 | non:Tyd .non
 | bl (b:Bool):Tyd (.bl b)
 | int (i:Int):Tyd (.int i)
 | str (x:Str):Tyd (.str x)
 | tup {ds:List D}:(∀ e∈ds,Tyd e)->Tyd (.tup ds)
 | lst {ds:List D}:(∀ e∈ds,Tyd e)->Tyd (.lst .frz ds)
theorem jX {f:D->D} {ds:List D} (h:∀ e∈ds,f e=e):ds.map f=ds:=by
 conv=>rhs; rw [← List.map_id ds]
 exact List.map_congr_left h
theorem Tyd.all {d:D} (h:Tyd d):fz d=d/\fzo d=d/\(∀ b,view b d=d)/\aH d=true/\aF d=true/\j5 d=true:=by
 induction h with
 | non=>exact ⟨rfl,rfl,fun _=>rfl,rfl,rfl,rfl⟩
 | bl b=>exact ⟨rfl,rfl,fun _=>rfl,rfl,rfl,rfl⟩
 | int b=>exact ⟨rfl,rfl,fun _=>rfl,rfl,rfl,rfl⟩
 | str b=>exact ⟨rfl,rfl,fun _=>rfl,rfl,rfl,rfl⟩
 | @tup ds _ ih=>
  have hd:∀ l:List D,(∀ e∈l,j5 e=true)->lC l=true:=fun l=>by
   induction l with
   | nil=>intro _; rfl
   | cons x r ihl=>intro z; simp [lC,z x (by simp),ihl fun e he=>z e (by simp [he])]
  exact ⟨by rw [fz,j6,jX fun e he=>(ih e he).1],by rw [fzo,jF,jX fun e he=>(ih e he).2.1],fun b=>by rw [view,iQ,jX fun e he=>(ih e he).2.2.1 b],by rw [aH]; exact fQ fun e he=>(ih e he).2.2.2.1,by rw [aF]; exact e_ fun e he=>(ih e he).2.2.2.2.1,by rw [j5]; exact hd ds fun e he=>(ih e he).2.2.2.2.2⟩
 | @lst ds _ ih=>
  have hd:∀ l:List D,(∀ e∈l,j5 e=true)->lC l=true:=fun l=>by
   induction l with
   | nil=>intro _; rfl
   | cons x r ihl=>intro z; simp [lC,z x (by simp),ihl fun e he=>z e (by simp [he])]
  refine ⟨by rw [fz,j6,jX fun e he=>(ih e he).1]; rfl,by rw [fzo,jF,jX fun e he=>(ih e he).2.1]; rfl,fun b=>by rw [view,iQ,jX fun e he=>(ih e he).2.2.1 b]; cases b <;> rfl,?_,?_,by rw [j5]; exact hd ds fun e he=>(ih e he).2.2.2.2.2⟩
  .simp [aH,fQ fun e he=>(ih e he).2.2.2.1]
  .simp [aF,e_ fun e he=>(ih e he).2.2.2.2.1]
theorem Tyd.ofL {ds:List D} (h:∀ e∈ds,Tyd e):fzL ds=ds/\dq ds=ds/\(∀ b,bI b ds=ds)/\aD ds=true/\aG ds=true:=
 ⟨by rw [j6,jX fun e he=>(h e he).all.1],by rw [jF,jX fun e he=>(h e he).all.2.1],fun b=>by rw [iQ,jX fun e he=>(h e he).all.2.2.1 b],fQ fun e he=>(h e he).all.2.2.2.1,e_ fun e he=>(h e he).all.2.2.2.2.1⟩
def pF:D->Bool
 | .int _=>true
 | _=>false
def prB:D->Bool
 | .tup [.int _,.int s]=>s == 1 || s == -1
 | _=>false
theorem zp {d:D} (h:Tyd d):fP [d]=some (.bl (pF d)):=by
 apply Wp.eq
 cases h <;> simp [fP,aA,bA,aV,cP,w_ite,cY,bW,aX,cJ,bw,sIf,eZ,sEx,bO,cu,dm,b_,cg,gP,gQ,dF,cH,sFz,cL,eV,cR,fZ,upS,tgN,tgT,aJ,aU,cN,tpN,tpT,d_,gK,aq,eC,aB,ak,eAp,eUp,fD,bc,ee2,ee1,aP,dJ,e2,e1,eB,eeB,eY,cM,fK,eOr,eX,cB,gG,cI,eE,vOr,gH,di,eTT,isB,dO,gJ,itS,itE,cQ,gf,bC,bH,bF,eSl,fX,fY,cG,bx,bf,eMt,bz,fW,gj,eIo,objs,bY,bj,eU,dW,clean,aH,aF,aD,aG,aM,aL,view,bI,mkV,mkF,fz,fzL,fzo,dq,mkO,fnP,fnI,en0,outs,dZ,bK,obC,truth,cX,tyN,okT,isT,wL,pF]
def vJ:D->Bool
 | .tup ds=>decide (ds.length=2)
 | _=>false
theorem Fo {d:D} (h:Tyd d):eF [d]=some (.bl (vJ d)):=by
 apply Wp.eq
 cases h with
 | tup hd=>
  obtain ⟨h1,h2,h3,h4,h5⟩:=Tyd.ofL hd
  simp [eF,aA,bA,aV,cP,w_ite,cY,bW,aX,cJ,bw,sIf,eZ,sEx,bO,cu,dm,b_,cg,gP,gQ,dF,cH,sFz,cL,eV,cR,fZ,upS,tgN,tgT,aJ,aU,cN,tpN,tpT,d_,gK,aq,eC,aB,ak,eAp,eUp,fD,bc,ee2,ee1,aP,dJ,e2,e1,eB,eeB,eY,cM,fK,eOr,eX,cB,gG,cI,eE,vOr,gH,di,eTT,isB,dO,gJ,itS,itE,cQ,gf,bC,bH,bF,eSl,fX,fY,cG,bx,bf,eMt,bz,fW,gj,eIo,objs,bY,bj,eU,dW,clean,aH,aF,aD,aG,aM,aL,view,bI,mkV,mkF,fz,fzL,fzo,dq,mkO,fnP,fnI,en0,outs,dZ,bK,obC,truth,cX,tyN,okT,isT,dI,h3,eq_int,vJ]
  constructor <;> intro z <;> omega
 | lst hd=>
  obtain ⟨h1,h2,h3,h4,h5⟩:=Tyd.ofL hd
  simp [eF,aA,bA,aV,cP,w_ite,cY,bW,aX,cJ,bw,sIf,eZ,sEx,bO,cu,dm,b_,cg,gP,gQ,dF,cH,sFz,cL,eV,cR,fZ,upS,tgN,tgT,aJ,aU,cN,tpN,tpT,d_,gK,aq,eC,aB,ak,eAp,eUp,fD,bc,ee2,ee1,aP,dJ,e2,e1,eB,eeB,eY,cM,fK,eOr,eX,cB,gG,cI,eE,vOr,gH,di,eTT,isB,dO,gJ,itS,itE,cQ,gf,bC,bH,bF,eSl,fX,fY,cG,bx,bf,eMt,bz,fW,gj,eIo,objs,bY,bj,eU,dW,clean,aH,aF,aD,aG,aM,aL,view,bI,mkV,mkF,fz,fzL,fzo,dq,mkO,fnP,fnI,en0,outs,dZ,bK,obC,truth,cX,tyN,okT,isT,h3,vJ]
 | _=>simp [eF,aA,bA,aV,cP,w_ite,cY,bW,aX,cJ,bw,sIf,eZ,sEx,bO,cu,dm,b_,cg,gP,gQ,dF,cH,sFz,cL,eV,cR,fZ,upS,tgN,tgT,aJ,aU,cN,tpN,tpT,d_,gK,aq,eC,aB,ak,eAp,eUp,fD,bc,ee2,ee1,aP,dJ,e2,e1,eB,eeB,eY,cM,fK,eOr,eX,cB,gG,cI,eE,vOr,gH,di,eTT,isB,dO,gJ,itS,itE,cQ,gf,bC,bH,bF,eSl,fX,fY,cG,bx,bf,eMt,bz,fW,gj,eIo,objs,bY,bj,eU,dW,clean,aH,aF,aD,aG,aM,aL,view,bI,mkV,mkF,fz,fzL,fzo,dq,mkO,fnP,fnI,en0,outs,dZ,bK,obC,truth,cX,tyN,okT,isT,vJ]
def pm (s:Int):Bool:=s == 1 || s == -1
theorem Pu {s:Int}:gIn (.int s) (.tup [.int 1,.int (-1)])=some (.bl (pm s)):=by
 simp [gIn,tu,scV,oh,inV,eqV,pm]
 rw [Bool.beq_comm (a:=(1:Int)),Bool.beq_comm (a:=(-1:Int))]
theorem Gh {s:Int}:jL (.int s) (.tup [.int 1,.int (-1)])=some (.bl (!pm s)):=by
 simp [jL,tu,scV,oh,inV,eqV,pm]
 rw [Bool.beq_comm (a:=(1:Int)),Bool.beq_comm (a:=(-1:Int))]
theorem Jq {d:D} (h:vJ d=true):∃ x y,d = .tup [x,y]:=by
 unfold vJ at h
 split at h
 .rename_i ds
  match ds,h with
  | [x,y],_=>exact ⟨x,y,rfl⟩
  | [],h=>simp at h
  | [_],h=>simp at h
  | _ :: _ :: _ :: _,h=>simp at h
 .cases h
theorem Be {d:D} (h:vJ d=false):prB d=false:=by
 unfold prB
 split
 .simp [vJ] at h
 .rfl
theorem ue {x y:D}:prB (.tup [x,y])=(pF x && pF y && (match y with | .int s=>pm s | _=>false)):=by
 cases x <;> cases y <;> simp [prB,pF,pm]
theorem Oo {d:D} (h:Tyd d):iK [d]=some (.bl (prB d)):=by
 apply Wp.eq
 have hc:=Fo h
 obtain ⟨f1,f2,f3,f4,f5,f6⟩:=h.all
 simp [iK,aA,bA,aV,cP,w_ite,cY,bW,aX,cJ,bw,sIf,eZ,sEx,bO,cu,dm,b_,cg,gP,gQ,dF,cH,sFz,cL,eV,cR,fZ,upS,tgN,tgT,aJ,aU,cN,tpN,tpT,d_,gK,aq,eC,aB,ak,eAp,eUp,fD,bc,ee2,ee1,aP,dJ,e2,e1,eB,eeB,eY,cM,fK,eOr,eX,cB,gG,cI,eE,vOr,gH,di,eTT,isB,dO,gJ,itS,itE,cQ,gf,bC,bH,bF,eSl,fX,fY,cG,bx,bf,eMt,bz,fW,gj,eIo,objs,bY,bj,eU,dW,clean,aH,aF,aD,aG,aM,aL,view,bI,mkV,mkF,fz,fzL,fzo,dq,mkO,fnP,fnI,en0,outs,dZ,bK,obC,truth,f1,f3,hc,iY]
 cases hb:vJ d with
 | false=>simp [Be hb]
 | true=>
  obtain ⟨x,y,rfl⟩:=Jq hb
  cases h with
  | tup hd=>
   have hx:=hd x (by simp)
   have hy:=hd y (by simp)
   have h1:=zp hx
   have h2:=zp hy
   obtain ⟨g1,_,_,g4,g5,_⟩:=hx.all
   obtain ⟨k1,_,_,k4,k5,_⟩:=hy.all
   simp [lX,atI,ixN,aA,g1,g4,g5,k1,k4,k5,h1,h2,jt,bL,ue]
   cases hn:pF x with
   | false=>simp
   | true=>
    simp
    cases hy with
    | int s=>simp [pF,Pu,aA,aH,aF]
    | _=>simp [pF]
def nZ:D->Bool
 | .tup ds=>ds.all prB
 | _=>false
theorem CJ (f:D->Bool):∀ ds:List D,Ao (ds.map fun d=>.bl (f d))=some (ds.map f)
 | []=>rfl
 | d :: r=>by simp [Ao,CJ f r]
theorem all_map (f:D->Bool) (ds:List D):Dz [.lst .own (ds.map fun d=>.bl (f d))]=some (.bl (ds.all f)):=by
 simp [Dz,CJ,List.all_map]
theorem KR {d:D} (h:Tyd d) (hl:(kids d).length<=1000):gw [d]=some (.bl (nZ d)):=by
 apply Wp.eq
 cases h with
 | @tup ds hd=>
  obtain ⟨h1,h2,h3,h4,h5⟩:=Tyd.ofL hd
  have hl:ds.length<=1000:=hl
  simp [gw,aA,bA,aV,cP,w_ite,cY,bW,aX,cJ,bw,sIf,eZ,sEx,bO,cu,dm,b_,cg,gP,gQ,dF,cH,sFz,cL,eV,cR,fZ,upS,tgN,tgT,aJ,aU,cN,tpN,tpT,d_,gK,aq,eC,aB,ak,eAp,eUp,fD,bc,ee2,ee1,aP,dJ,e2,e1,eB,eeB,eY,cM,fK,eOr,eX,cB,gG,cI,eE,vOr,gH,di,eTT,isB,dO,gJ,itS,itE,cQ,gf,bC,bH,bF,eSl,fX,fY,cG,bx,bf,eMt,bz,fW,gj,eIo,objs,bY,bj,eU,dW,clean,aH,aF,aD,aG,aM,aL,view,bI,mkV,mkF,fz,fzL,fzo,dq,mkO,fnP,fnI,en0,outs,dZ,bK,obC,truth,cX,tyN,okT,isT,h2,h3]
  refine ⟨by omega,?_⟩
  rw [jg (p:=fun _=>true) (f:=fun d=>.bl (prB d))]
  .rw [aA,filter_tt,all_map]
   simp [aA,aH,aF,nZ]
  .intro d hdm
   obtain ⟨f1,f2,f3,f4,f5,f6⟩:=(hd d hdm).all
   simp_arith [f1,f3,f4,f5,Oo (hd d hdm)]
 | lst hd=>
  obtain ⟨h1,h2,h3,h4,h5⟩:=Tyd.ofL hd
  simp [gw,aA,bA,aV,cP,w_ite,cY,bW,aX,cJ,bw,sIf,eZ,sEx,bO,cu,dm,b_,cg,gP,gQ,dF,cH,sFz,cL,eV,cR,fZ,upS,tgN,tgT,aJ,aU,cN,tpN,tpT,d_,gK,aq,eC,aB,ak,eAp,eUp,fD,bc,ee2,ee1,aP,dJ,e2,e1,eB,eeB,eY,cM,fK,eOr,eX,cB,gG,cI,eE,vOr,gH,di,eTT,isB,dO,gJ,itS,itE,cQ,gf,bC,bH,bF,eSl,fX,fY,cG,bx,bf,eMt,bz,fW,gj,eIo,objs,bY,bj,eU,dW,clean,aH,aF,aD,aG,aM,aL,view,bI,mkV,mkF,fz,fzL,fzo,dq,mkO,fnP,fnI,en0,outs,dZ,bK,obC,truth,cX,tyN,okT,isT,h3,nZ]
 | _=>simp [gw,aA,bA,aV,cP,w_ite,cY,bW,aX,cJ,bw,sIf,eZ,sEx,bO,cu,dm,b_,cg,gP,gQ,dF,cH,sFz,cL,eV,cR,fZ,upS,tgN,tgT,aJ,aU,cN,tpN,tpT,d_,gK,aq,eC,aB,ak,eAp,eUp,fD,bc,ee2,ee1,aP,dJ,e2,e1,eB,eeB,eY,cM,fK,eOr,eX,cB,gG,cI,eE,vOr,gH,di,eTT,isB,dO,gJ,itS,itE,cQ,gf,bC,bH,bF,eSl,fX,fY,cG,bx,bf,eMt,bz,fW,gj,eIo,objs,bY,bj,eU,dW,clean,aH,aF,aD,aG,aM,aL,view,bI,mkV,mkF,fz,fzL,fzo,dq,mkO,fnP,fnI,en0,outs,dZ,bK,obC,truth,cX,tyN,okT,isT,nZ]
theorem ne_int {i j:Int}:gNe (.int i) (.int j)=some (.bl (!decide (i=j))):=by
 unfold gNe
 rw [if_pos ⟨rfl,rfl,by simp [dt,dp],by simp [dt,dp]⟩]
 simp [dt,eqD]
 exact Bool.eq_iff_iff.mpr (by simp)
theorem Ex {ds:List D} {k:Nat} {d:D} (h:(ds.take k).all prB=true) (e:ds[k]? = some d) (hp:prB d=true):(ds.take (k + 1)).all prB=true:=by
 rw [List.take_add_one,e,List.all_append,h]
 simp [hp]
theorem Dc {ds:List D} {k:Nat} {d:D} (e:ds[k]? = some d) (hp:prB d=false):ds.all prB=false:=by
 have hm:=List.mem_of_getElem? e
 rw [List.all_eq_false]
 exact ⟨d,hm,by simp [hp]⟩
def WyI (ds:List D) (k:Nat) (ρ:En):Prop:=∃ x,ρ=[some (.tup ds),x]/\(ds.take k).all prB=true
theorem M7 {d:D} (h:Tyd d) (hl:(kids d).length<=1000):dM [d]=some (.bl (nZ d)):=by
 apply Wp.eq
 cases h with
 | @tup ds hd=>
  obtain ⟨h1,h2,h3,h4,h5⟩:=Tyd.ofL hd
  have hl:ds.length<=1000:=hl
  simp [dM,aA,bA,aV,cP,w_ite,cY,bW,aX,cJ,bw,sIf,eZ,sEx,bO,cu,dm,b_,cg,gP,gQ,dF,cH,sFz,cL,eV,cR,fZ,upS,tgN,tgT,aJ,aU,cN,tpN,tpT,d_,gK,aq,eC,aB,ak,eAp,eUp,fD,bc,ee2,ee1,aP,dJ,e2,e1,eB,eeB,eY,cM,fK,eOr,eX,cB,gG,cI,eE,vOr,gH,di,eTT,isB,dO,gJ,itS,itE,cQ,gf,bC,bH,bF,eSl,fX,fY,cG,bx,bf,eMt,bz,fW,gj,eIo,objs,bY,bj,eU,dW,clean,aH,aF,aD,aG,aM,aL,view,bI,mkV,mkF,fz,fzL,fzo,dq,mkO,fnP,fnI,en0,outs,dZ,bK,obC,truth,cX,tyN,okT,isT,h2,h3,h4,h5]
  refine j4 (WyI ds) ⟨none,rfl,rfl⟩ ?_ ?_
  .rintro k d ρ hk ⟨x,rfl,ht⟩
   have hdm:=List.mem_of_getElem? hk
   have hty:=hd d hdm
   obtain ⟨f1,f2,f3,f4,f5,f6⟩:=hty.all
   have hbad:prB d=false->nZ (.tup ds)=false:=fun z=>by simp [nZ,Dc hk z]
   have hgood:prB d=true->∀ y,WyI ds (k + 1) [some (.tup ds),y]:=fun z y=>⟨y,rfl,Ex ht hk z⟩
   simp only [tgN,clean,f4,f5,Bool.and_self,if_true,aA,List.set_cons_succ,List.set_cons_zero]
   cases hty with
   | @tup es he=>
    obtain ⟨g1,g2,g3,g4,g5⟩:=Tyd.ofL he
    simp_arith [cX,tyN,okT,isT,dI,g2,g3]
    rw [ne_int,aA]
    simp only [aA]
    by_cases he2:es.length=2
    .obtain ⟨x,y,rfl⟩:∃ x y,es=[x,y]:=by
      match es,he2 with
      | [x,y],_=>exact ⟨x,y,rfl⟩
     have hx:=he x (by simp)
     have hy:=he y (by simp)
     have ex:∀ z,z∈[x,y]->Wp (tpN 0 z [none]) fun ρ1=>eTT ρ1=some true/\(true=true->eE (eAp cX (ak (aq false 0) (ak (eC (D.ty "int")) aB))) (e1 wL (eAp cX (ak (aq false 0) (ak (eC (D.ty "bool")) aB)))) ρ1=some (.bl (pF z))):=fun z hz=>by
      have:=he z hz
      cases this <;> simp_arith [cX,tyN,okT,isT,wL,pF]
     simp
     rw [jg (p:=fun _=>true) (f:=fun d=>.bl (pF d)) ex,aA,filter_tt,all_map,aA]
     simp only [aA,List.all_cons,List.all_nil,Bool.and_true]
     cases hnx:pF x with
     | false=>simp; exact hbad (by rw [ue,hnx]; rfl)
     | true=>
      cases hny:pF y with
      | false=>simp; exact hbad (by rw [ue,hnx,hny]; rfl)
      | true=>
       cases hy with
       | int s=>
        simp [lX,atI,ixN,aA,jt,bL,Gh]
        cases hp:pm s with
        | true=>simp; exact hgood (by rw [ue,hnx]; simp [pF,hp]) _
        | false=>simp; exact hbad (by rw [ue,hnx]; simp [pF,hp])
       | _=>simp [pF] at hny
    .have hne:decide ((es.length:Int)=2)=false:=decide_eq_false (by omega)
     rw [hne]
     simp
     exact hbad (Be (by simp [vJ,he2]))
   | lst he=>
    simp_arith [cX,tyN,okT,isT]
    exact hbad rfl
   | _=>
    simp_arith [cX,tyN,okT,isT]
    exact hbad rfl
  .rintro ρ ⟨x,rfl,ht⟩
   rw [List.take_length] at ht
   simp_arith [nZ,ht]
 | lst hd=>
  obtain ⟨h1,h2,h3,h4,h5⟩:=Tyd.ofL hd
  simp [dM,aA,bA,aV,cP,w_ite,cY,bW,aX,cJ,bw,sIf,eZ,sEx,bO,cu,dm,b_,cg,gP,gQ,dF,cH,sFz,cL,eV,cR,fZ,upS,tgN,tgT,aJ,aU,cN,tpN,tpT,d_,gK,aq,eC,aB,ak,eAp,eUp,fD,bc,ee2,ee1,aP,dJ,e2,e1,eB,eeB,eY,cM,fK,eOr,eX,cB,gG,cI,eE,vOr,gH,di,eTT,isB,dO,gJ,itS,itE,cQ,gf,bC,bH,bF,eSl,fX,fY,cG,bx,bf,eMt,bz,fW,gj,eIo,objs,bY,bj,eU,dW,clean,aH,aF,aD,aG,aM,aL,view,bI,mkV,mkF,fz,fzL,fzo,dq,mkO,fnP,fnI,en0,outs,dZ,bK,obC,truth,cX,tyN,okT,isT,h3,nZ]
 | _=>simp [dM,aA,bA,aV,cP,w_ite,cY,bW,aX,cJ,bw,sIf,eZ,sEx,bO,cu,dm,b_,cg,gP,gQ,dF,cH,sFz,cL,eV,cR,fZ,upS,tgN,tgT,aJ,aU,cN,tpN,tpT,d_,gK,aq,eC,aB,ak,eAp,eUp,fD,bc,ee2,ee1,aP,dJ,e2,e1,eB,eeB,eY,cM,fK,eOr,eX,cB,gG,cI,eE,vOr,gH,di,eTT,isB,dO,gJ,itS,itE,cQ,gf,bC,bH,bF,eSl,fX,fY,cG,bx,bf,eMt,bz,fW,gj,eIo,objs,bY,bj,eU,dW,clean,aH,aF,aD,aG,aM,aL,view,bI,mkV,mkF,fz,fzL,fzo,dq,mkO,fnP,fnI,en0,outs,dZ,bK,obC,truth,cX,tyN,okT,isT,nZ]
abbrev Pt:=Int×Int
def ptD (p:Pt):D:=.tup [.int p.1,.int p.2]
theorem jC (l:List Pt):aD (l.map ptD)=true:=fQ fun d hd=>by obtain ⟨x,_,rfl⟩:=List.mem_map.mp hd; rfl
theorem jB (l:List Pt):aG (l.map ptD)=true:=e_ fun d hd=>by obtain ⟨x,_,rfl⟩:=List.mem_map.mp hd; rfl
theorem jA (b:Bool) (l:List Pt):bI b (l.map ptD)=l.map ptD:=by rw [iQ,List.map_map]; rfl
theorem qM (l:List Pt):fzL (l.map ptD)=l.map ptD:=by rw [j6,List.map_map]; rfl
theorem nJ (l:List Pt):dq (l.map ptD)=l.map ptD:=by rw [jF,List.map_map]; rfl
theorem Fp:∀ {ds:List D},ds.all prB=true->∃ ps:List Pt,ds=ps.map ptD/\∀ p∈ps,pm p.2=true
 | [],_=>⟨[],rfl,by simp⟩
 | d :: r,h=>by
  rw [List.all_cons,Bool.and_eq_true] at h
  obtain ⟨ps,rfl,hp⟩:=Fp h.2
  have h1:=h.1
  unfold prB at h1
  split at h1
  .rename_i n s
   exact ⟨(n,s) :: ps,rfl,fun p hp'=>(List.mem_cons.mp hp').elim (fun z=>by rw [z]; exact h1) (hp p)⟩
  .cases h1
structure JJ (J:D) (js:List Jt):Prop where
 f:fz J=J
 v:∀ b,view b J=J
 b:aH J=true
 o:aF J=true
 l:dI [J]=some (.int js.length)
 x:∀ i,gIx J (.int i)=atI (js.map jD) i
 s:bC J=some (true,js.map jD)
 e:itE (fun _=>some [J]) []=some (true,nT 0 (js.map jD))
theorem JJ.lst (js:List Jt):JJ (.lst .frz (js.map jD)) js:=⟨by simp [fz,jm,mkF],fun b=>by cases b <;> simp [view,jj,mkV],by simp [aH,iG],by simp [aF,iH],by simp [dI],fun _=>rfl,by simp [bC,clean,aH,aF,iG,iH,jf],by simp [itE,bC,clean,aH,aF,iG,iH,jf]⟩
theorem JJ.tup (js:List Jt):JJ (.tup (js.map jD)) js:=⟨by simp [fz,jm],fun b=>by simp [view,jj],by simp [aH,iG],by simp [aF,iH],by simp [dI],fun _=>rfl,by simp [bC,clean,aH,aF,iG,iH,jf],by simp [itE,bC,clean,aH,aF,iG,iH,jf]⟩
def ends (j:Jt) (s:Int):Str×Str:=if s=1 then (j.1,j.2.1) else (j.2.1,j.1)
def stp (js:List Jt) (p:Pt):Option (Str×Str):=if 0<=p.1/\p.1 < js.length then (js[p.1.toNat]?).map fun j=>ends j p.2 else none
def lst (h:Str):List Str->Str
 | []=>h
 | x :: r=>lst x r
def mt (js:List Jt):Str->List Pt->Option (List Str)
 | _,[]=>some []
 | h,p :: r=>(stp js p).bind fun q=>if q.1=h then (mt js q.2 r).map fun t=>q.2 :: t else none
theorem Bu:∀ (l:List Str) (h x:Str),lst h (l++[x])=x
 | [],_,_=>rfl
 | _ :: r,_,x=>Bu r _ x
theorem wG {js:List Jt}:∀ (ps:List Pt) (h:Str) (p:Pt),mt js h (ps++[p])=(mt js h ps).bind fun l=>(stp js p).bind fun q=>if q.1=lst h l then some (l++[q.2]) else none
 | [],h,p=>by
  rw [List.nil_append,mt,mt,Option.bind_some]
  cases stp js p with
  | none=>rfl
  | some q=>
   simp only [Option.bind_some]
   by_cases hq:q.1=h
   .rw [if_pos hq,if_pos (show q.1=lst h [] from hq)]; rfl
   .rw [if_neg hq,if_neg (show ¬ q.1=lst h [] from hq)]
 | a :: r,h,p=>by
  rw [List.cons_append,mt,mt]
  cases e:stp js a with
  | none=>simp
  | some q=>
   simp only [Option.bind_some]
   by_cases hq:q.1=h
   .rw [if_pos hq,if_pos hq,wG r q.2 p]
    cases e2:mt js q.2 r with
    | none=>simp
    | some l=>
     cases e3:stp js p with
     | none=>simp
     | some u=>
      simp only [Option.bind_some,Option.map_some]
      by_cases hu:u.1=lst q.2 l
      .rw [if_pos hu,if_pos (show u.1=lst h (q.2 :: l) from hu)]; rfl
      .rw [if_neg hu,if_neg (show ¬ u.1=lst h (q.2 :: l) from hu)]; rfl
   .rw [if_neg hq,if_neg hq]
    rfl
theorem GQ {js:List Jt}:∀ (ps rs:List Pt) (h:Str),mt js h ps=none->mt js h (ps++rs)=none
 | [],rs,h,e=>by simp [mt] at e
 | a :: r,rs,h,e=>by
  rw [List.cons_append,mt]
  rw [mt] at e
  cases e1:stp js a with
  | none=>simp
  | some q=>
   simp only [e1,Option.bind_some] at e ⊢
   by_cases hq:q.1=h
   .rw [if_pos hq] at e ⊢
    cases e2:mt js q.2 r with
    | none=>rw [GQ r rs q.2 e2]; rfl
    | some l=>simp [e2] at e
   .rw [if_neg hq]
theorem An {js:List Jt}:∀ (ps:List Pt) (h:Str) (l:List Str),mt js h ps=some l->l.length=ps.length
 | [],h,l,e=>by cases e; rfl
 | a :: r,h,l,e=>by
  rw [mt] at e
  cases e1:stp js a with
  | none=>simp [e1] at e
  | some q=>
   simp only [e1,Option.bind_some] at e
   by_cases hq:q.1=h
   .rw [if_pos hq] at e
    cases e2:mt js q.2 r with
    | none=>simp [e2] at e
    | some t=>
     obtain rfl:q.2 :: t=l:=by simpa [e2] using e
     simp [An r q.2 t e2]
   .rw [if_neg hq] at e; cases e
theorem Hz {j:Jt} {s:Int}:iR [jD j,.int s]=some (.tup [.str (ends j s).1,.str (ends j s).2]):=by
 apply Wp.eq
 simp [iR,aA,bA,aV,cP,w_ite,cY,bW,aX,cJ,bw,sIf,eZ,sEx,bO,cu,dm,b_,cg,gP,gQ,dF,cH,sFz,cL,eV,cR,fZ,upS,tgN,tgT,aJ,aU,cN,tpN,tpT,d_,gK,aq,eC,aB,ak,eAp,eUp,fD,bc,ee2,ee1,aP,dJ,e2,e1,eB,eeB,eY,cM,fK,eOr,eX,cB,gG,cI,eE,vOr,gH,di,eTT,isB,dO,gJ,itS,itE,cQ,gf,bC,bH,bF,eSl,fX,fY,cG,bx,bf,eMt,bz,fW,gj,eIo,objs,bY,bj,eU,dW,clean,aH,aF,aD,aG,aM,aL,view,bI,mkV,mkF,fz,fzL,fzo,dq,mkO,fnP,fnI,en0,outs,dZ,bK,obC,truth,lW]
 simp [jD,aA,bA,aV,cP,w_ite,cY,bW,aX,cJ,bw,sIf,eZ,sEx,bO,cu,dm,b_,cg,gP,gQ,dF,cH,sFz,cL,eV,cR,fZ,upS,tgN,tgT,aJ,aU,cN,tpN,tpT,d_,gK,aq,eC,aB,ak,eAp,eUp,fD,bc,ee2,ee1,aP,dJ,e2,e1,eB,eeB,eY,cM,fK,eOr,eX,cB,gG,cI,eE,vOr,gH,di,eTT,isB,dO,gJ,itS,itE,cQ,gf,bC,bH,bF,eSl,fX,fY,cG,bx,bf,eMt,bz,fW,gj,eIo,objs,bY,bj,eU,dW,clean,aH,aF,aD,aG,aM,aL,view,bI,mkV,mkF,fz,fzL,fzo,dq,mkO,fnP,fnI,en0,outs,dZ,bK,obC,truth,bL,eq_int,ends]
 by_cases hs:s=1 <;> simp [hs]
def LdI (J:D) (js:List Jt) (h:Str) (ps:List Pt) (k:Nat) (ρ:En):Prop:=∃ (l:List Str) (x4 x5 x6 x7:Option D),mt js h (ps.take k)=some l/\ρ=[some J,some (.str h),some (.tup (ps.map ptD)),some (.str (lst h l)),x4,x5,x6,x7]
theorem ul {ps:List Pt} {k:Nat} {p:Pt} (e:ps[k]? = some p):ps.take (k + 1)=ps.take k++[p]:=by rw [List.take_add_one,e]; rfl
theorem Cu {js:List Jt} {h:Str} {ps:List Pt} {k:Nat} (e:mt js h (ps.take k)=none):mt js h ps=none:=by
 have:=GQ (ps.take k) (ps.drop k) h e
 rwa [List.take_append_drop] at this
def G8 (h:Str):Option (List Str)->D
 | none=>.non
 | some l=>.str (lst h l)
theorem ne_str {x y:Str}:gNe (.str x) (.str y)=some (.bl (!decide (x=y))):=by
 unfold gNe
 rw [if_pos ⟨rfl,rfl,by simp [dt,dp],by simp [dt,dp]⟩]
 simp [dt,eqD]
 exact Bool.eq_iff_iff.mpr (by simp)
theorem qK {js:List Jt} {p:Pt} (h:¬ (0<=p.1/\p.1 < js.length)):stp js p=none:=by unfold stp; rw [if_neg h]
theorem mL {js:List Jt} {p:Pt} (h:0<=p.1/\p.1 < js.length):∃ j,j∈js/\js[p.1.toNat]? = some j/\atI (js.map jD) p.1=some (jD j)/\stp js p=some (ends j p.2):=by
 obtain ⟨j,h1,h2,h3⟩:=iV (f:=jD) h.1 h.2
 exact ⟨j,h1,h2,h3,by unfold stp; rw [if_pos h,h2]; rfl⟩
theorem Qf {J:D} {js:List Jt} {h:Str} {ps:List Pt} (hJ:JJ J js):kj [J,.str h,.tup (ps.map ptD)]=some (G8 h (mt js h ps)):=by
 apply Wp.eq
 simp [kj,aA,bA,aV,cP,w_ite,cY,bW,aX,cJ,bw,sIf,eZ,sEx,bO,cu,dm,b_,cg,gP,gQ,dF,cH,sFz,cL,eV,cR,fZ,upS,tgN,tgT,aJ,aU,cN,tpN,tpT,d_,gK,aq,eC,aB,ak,eAp,eUp,fD,bc,ee2,ee1,aP,dJ,e2,e1,eB,eeB,eY,cM,fK,eOr,eX,cB,gG,cI,eE,vOr,gH,di,eTT,isB,dO,gJ,itS,itE,cQ,gf,bC,bH,bF,eSl,fX,fY,cG,bx,bf,eMt,bz,fW,gj,eIo,objs,bY,bj,eU,dW,clean,aH,aF,aD,aG,aM,aL,view,bI,mkV,mkF,fz,fzL,fzo,dq,mkO,fnP,fnI,en0,outs,dZ,bK,obC,truth,hJ.v,jA,nJ,jC,jB]
 refine j4 (LdI J js h ps) ⟨[],none,none,none,none,rfl,rfl⟩ ?_ ?_
 .rintro k d ρ hk ⟨l,x4,x5,x6,x7,hl,rfl⟩
  rw [List.getElem?_map] at hk
  cases hp:ps[k]? with
  | none=>simp [hp] at hk
  | some p=>
   obtain rfl:ptD p=d:=by simpa [hp] using hk
   have hsn:=wG (js:=js) (ps.take k) h p
   rw [← ul hp,hl] at hsn
   simp only [Option.bind_some] at hsn
   simp [ptD,aA,bA,aV,cP,w_ite,cY,bW,aX,cJ,bw,sIf,eZ,sEx,bO,cu,dm,b_,cg,gP,gQ,dF,cH,sFz,cL,eV,cR,fZ,upS,tgN,tgT,aJ,aU,cN,tpN,tpT,d_,gK,aq,eC,aB,ak,eAp,eUp,fD,bc,ee2,ee1,aP,dJ,e2,e1,eB,eeB,eY,cM,fK,eOr,eX,cB,gG,cI,eE,vOr,gH,di,eTT,isB,dO,gJ,itS,itE,cQ,gf,bC,bH,bF,eSl,fX,fY,cG,bx,bf,eMt,bz,fW,gj,eIo,objs,bY,bj,eU,dW,clean,aH,aF,aD,aG,aM,aL,view,bI,mkV,mkF,fz,fzL,fzo,dq,mkO,fnP,fnI,en0,outs,dZ,bK,obC,truth,hJ.v,hJ.l,gLt,gGe]
   have hnone:mt js h (ps.take (k + 1))=none->D.non=G8 h (mt js h ps):=fun z=>by rw [Cu z]; rfl
   split
   .exact hnone (by rw [hsn,qK (by omega)]; rfl)
   .split
    .exact hnone (by rw [hsn,qK (by omega)]; rfl)
    .obtain ⟨j,_,_,hj,hst⟩:=mL (js:=js) (p:=p) ⟨by omega,by omega⟩
     rw [hst,Option.bind_some] at hsn
     simp [hJ.x,hj,aA,lO,Hz,lB,lz,aD,aG,aH,aF,view,ne_str]
     by_cases hq:(ends j p.2).1=lst h l
     .rw [if_pos hq] at hsn
      simp [hq]
      exact ⟨l++[(ends j p.2).2],_,_,_,_,hsn,by rw [Bu]⟩
     .rw [if_neg hq] at hsn
      simp [hq]
      exact hnone hsn
 .rintro ρ ⟨l,x4,x5,x6,x7,hl,rfl⟩
  rw [List.length_map,List.take_length] at hl
  simp_arith [hl,G8]
def Ht (h:Str):Option (List Str)->D
 | none=>.non
 | some l=>.lst .own ((h :: l).map D.str)
def MtI (J:D) (js:List Jt) (h:Str) (ps:List Pt) (k:Nat) (ρ:En):Prop:=∃ (l:List Str) (x4 x5 x6 x7:Option D),mt js h (ps.take k)=some l/\l.length<=k/\ρ=[some J,some (.str h),some (.tup (ps.map ptD)),some (.lst .own ((h :: l).map D.str)),x4,x5,x6,x7]
theorem qj {h:Str} {l:List Str}:atI ((h :: l).map D.str) (-1)=some (.str (lst h l)):=by
 have:∀ (l:List Str) (h:Str),((h :: l).map D.str)[l.length]? = some (.str (lst h l)):=by
  intro l
  induction l with
  | nil=>intro h; rfl
  | cons x r ih=>intro h; exact ih x
 unfold atI ixN
 rw [if_neg (by decide),if_pos (by simp; omega)]
 simp only [Option.bind_some]
 rw [show ((-1:Int) + (((h :: l).map D.str).length:Nat)).toNat=l.length by simp; omega]
 exact this l h
theorem uw {j:Jt} {s:Int} (hs:pm s=true):lU (.tup [.str j.1,.str j.2.1]) (.int s)=some (.tup [.str (ends j s).1,.str (ends j s).2]):=by
 have:s=1∨s = -1:=by simpa [pm] using hs
 rcases this with rfl | rfl <;> simp [lU,ends]
theorem Lk {J:D} {js:List Jt} {h:Str} {ps:List Pt} (hJ:JJ J js) (hp:∀ p∈ps,pm p.2=true) (hn:ps.length<=1000):iM [J,.str h,.tup (ps.map ptD)]=some (Ht h (mt js h ps)):=by
 apply Wp.eq
 simp [iM,aA,bA,aV,cP,w_ite,cY,bW,aX,cJ,bw,sIf,eZ,sEx,bO,cu,dm,b_,cg,gP,gQ,dF,cH,sFz,cL,eV,cR,fZ,upS,tgN,tgT,aJ,aU,cN,tpN,tpT,d_,gK,aq,eC,aB,ak,eAp,eUp,fD,bc,ee2,ee1,aP,dJ,e2,e1,eB,eeB,eY,cM,fK,eOr,eX,cB,gG,cI,eE,vOr,gH,di,eTT,isB,dO,gJ,itS,itE,cQ,gf,bC,bH,bF,eSl,fX,fY,cG,bx,bf,eMt,bz,fW,gj,eIo,objs,bY,bj,eU,dW,clean,aH,aF,aD,aG,aM,aL,view,bI,mkV,mkF,fz,fzL,fzo,dq,mkO,fnP,fnI,en0,outs,dZ,bK,obC,truth,hJ.v,jA,nJ,jC,jB,bM]
 refine j4 (MtI J js h ps) ⟨[],none,none,none,none,rfl,Nat.le_refl _,rfl⟩ ?_ ?_
 .rintro k d ρ hk ⟨l,x4,x5,x6,x7,hl,hlk,rfl⟩
  rw [List.getElem?_map] at hk
  cases hpk:ps[k]? with
  | none=>simp [hpk] at hk
  | some p=>
   obtain rfl:ptD p=d:=by simpa [hpk] using hk
   have hkl:k < ps.length:=(List.getElem?_eq_some_iff.mp hpk).1
   have hpm:=hp p (List.mem_of_getElem? hpk)
   have hsn:=wG (js:=js) (ps.take k) h p
   rw [← ul hpk,hl] at hsn
   simp only [Option.bind_some] at hsn
   have hnone:mt js h (ps.take (k + 1))=none->D.non=Ht h (mt js h ps):=fun z=>by rw [Cu z]; rfl
   have hvl:view false (D.lst .own ((h :: l).map D.str))=D.lst .brw ((h :: l).map D.str):=by rw [view,bQ]; rfl
   simp [ptD,aA,bA,aV,cP,w_ite,cY,bW,aX,cJ,bw,sIf,eZ,sEx,bO,cu,dm,b_,cg,gP,gQ,dF,cH,sFz,cL,eV,cR,fZ,upS,tgN,tgT,aJ,aU,cN,tpN,tpT,d_,gK,aq,eC,aB,ak,eAp,eUp,fD,bc,ee2,ee1,aP,dJ,e2,e1,eB,eeB,eY,cM,fK,eOr,eX,cB,gG,cI,eE,vOr,gH,di,eTT,isB,dO,gJ,itS,itE,cQ,gf,bC,bH,bF,eSl,fX,fY,cG,bx,bf,eMt,bz,fW,gj,eIo,objs,bY,bj,eU,dW,clean,aH,aF,aD,aG,aM,aL,view,bI,mkV,mkF,fz,fzL,fzo,dq,mkO,fnP,fnI,en0,outs,dZ,bK,obC,truth,hJ.v,hJ.l,gLe,gLt,-List.map_cons]
   by_cases hr:0<=p.1/\p.1 < js.length
   .obtain ⟨j,_,_,hj,hst⟩:=mL hr
    rw [hst,Option.bind_some] at hsn
    have hd1:decide (0<=p.1)=true:=decide_eq_true hr.1
    have hd2:decide (p.1 < (js.length:Int))=true:=decide_eq_true hr.2
    simp [hd1,hd2,hJ.x,hj,aA,jr,uw hpm,aD,aG,aH,aF,view,bQ,jt,kW,-List.map_cons]
    rw [qj]
    simp only [aA,ne_str]
    by_cases hq:(ends j p.2).1=lst h l
    .rw [if_pos hq] at hsn
     have hlen:l.length + 1 < 1000000:=by omega
     simp [hq,eU,cA,aA,dW,aD,aG,aH,aF,hlen,-List.map_cons]
     exact ⟨l++[(ends j p.2).2],_,_,_,_,hsn,by simp; omega,by simp; exact ⟨rfl,rfl,rfl,rfl⟩⟩
    .rw [if_neg hq] at hsn
     simp [hq]
     exact hnone hsn
   .have hend:=hnone (by rw [hsn,qK hr]; rfl)
    by_cases h0:0<=p.1
    .have hd1:decide (0<=p.1)=true:=decide_eq_true h0
     have hd2:decide (p.1 < (js.length:Int))=false:=decide_eq_false fun z=>hr ⟨h0,z⟩
     simp only [hd1,hd2,aA,Bool.false_eq_true,if_false]
     exact hend
    .have hd1:decide (0<=p.1)=false:=decide_eq_false h0
     simp only [hd1,aA,Bool.false_eq_true,if_false]
     exact hend
 .rintro ρ ⟨l,x4,x5,x6,x7,hl,hlk,rfl⟩
  rw [List.length_map,List.take_length] at hl
  simp_arith [hl,Ht]
def tot (js:List Jt):List Pt->Int
 | []=>0
 | p :: r=>p.2 * ((js[p.1.toNat]?).map fun j=>j.2.2).getD 0 + tot js r
def inJ (js:List Jt) (ps:List Pt):Prop:=∀ p∈ps,0<=p.1/\p.1 < js.length
theorem Cm {js:List Jt}:∀ (ps:List Pt) (h:Str) (l:List Str),mt js h ps=some l->inJ js ps
 | [],h,l,e=>by intro p hp; cases hp
 | a :: r,h,l,e=>by
  rw [mt] at e
  by_cases hr:0<=a.1/\a.1 < js.length
  .obtain ⟨j,_,_,_,hst⟩:=mL hr
   rw [hst,Option.bind_some] at e
   by_cases hq:(ends j a.2).1=h
   .rw [if_pos hq] at e
    cases e2:mt js (ends j a.2).2 r with
    | none=>simp [e2] at e
    | some t=>exact fun p hp=>(List.mem_cons.mp hp).elim (fun z=>by rw [z]; exact hr) (Cm r _ t e2 p)
   .rw [if_neg hq] at e; cases e
  .rw [qK hr] at e; cases e
theorem Fx {js:List Jt}:∀ (ps:List Pt) (h:Str) (l:List Str),mt js h ps=some l->l=ps.map fun p=>((stp js p).map (·.2)).getD ("" : Str)
 | [],h,l,e=>by cases e; rfl
 | a :: r,h,l,e=>by
  rw [mt] at e
  cases e1:stp js a with
  | none=>simp [e1] at e
  | some q=>
   simp only [e1,Option.bind_some] at e
   by_cases hq:q.1=h
   .rw [if_pos hq] at e
    cases e2:mt js q.2 r with
    | none=>simp [e2] at e
    | some t=>
     obtain rfl:q.2 :: t=l:=by simpa [e2] using e
     rw [List.map_cons,e1,← Fx r q.2 t e2]
     rfl
   .rw [if_neg hq] at e; cases e
theorem Nk {J:D} {js:List Jt} {h:Str} {ps:List Pt} {l:List Str} (hJ:JJ J js) (hm:mt js h ps=some l) (hn:ps.length<=1000):gM [J,.tup (ps.map ptD)]=some (.lst .own (l.map D.str)):=by
 apply Wp.eq
 simp [gM,aA,bA,aV,cP,w_ite,cY,bW,aX,cJ,bw,sIf,eZ,sEx,bO,cu,dm,b_,cg,gP,gQ,dF,cH,sFz,cL,eV,cR,fZ,upS,tgN,tgT,aJ,aU,cN,tpN,tpT,d_,gK,aq,eC,aB,ak,eAp,eUp,fD,bc,ee2,ee1,aP,dJ,e2,e1,eB,eeB,eY,cM,fK,eOr,eX,cB,gG,cI,eE,vOr,gH,di,eTT,isB,dO,gJ,itS,itE,cQ,gf,bC,bH,bF,eSl,fX,fY,cG,bx,bf,eMt,bz,fW,gj,eIo,objs,bY,bj,eU,dW,clean,aH,aF,aD,aG,aM,aL,view,bI,mkV,mkF,fz,fzL,fzo,dq,mkO,fnP,fnI,en0,outs,dZ,bK,obC,truth,hJ.v,jA,nJ]
 refine ⟨by omega,?_⟩
 rw [jg (p:=fun _=>true) (f:=fun d=>match d with | .tup [.int a,.int b]=>.str (((stp js (a,b)).map (·.2)).getD ("" : Str)) | _=>.non)]
 .rw [aA,filter_tt,List.map_map]
  have e:(ps.map ((fun d=>match d with | .tup [.int a,.int b]=>D.str (((stp js (a,b)).map (·.2)).getD ("" : Str)) | _=>.non) ∘ ptD))=l.map D.str:=by
   rw [Fx ps h l hm,List.map_map]
   rfl
  rw [e]
  simp [cC,cz]
 .intro d hd
  obtain ⟨p,hp,rfl⟩:=List.mem_map.mp hd
  obtain ⟨j,_,_,hj,hst⟩:=mL (Cm ps h l hm p hp)
  have two1:∀ x y:D,gIx (.tup [x,y]) (.int 1)=some y:=fun _ _=>rfl
  simp [ptD,aA,bA,aV,cP,w_ite,cY,bW,aX,cJ,bw,sIf,eZ,sEx,bO,cu,dm,b_,cg,gP,gQ,dF,cH,sFz,cL,eV,cR,fZ,upS,tgN,tgT,aJ,aU,cN,tpN,tpT,d_,gK,aq,eC,aB,ak,eAp,eUp,fD,bc,ee2,ee1,aP,dJ,e2,e1,eB,eeB,eY,cM,fK,eOr,eX,cB,gG,cI,eE,vOr,gH,di,eTT,isB,dO,gJ,itS,itE,cQ,gf,bC,bH,bF,eSl,fX,fY,cG,bx,bf,eMt,bz,fW,gj,eIo,objs,bY,bj,eU,dW,clean,aH,aF,aD,aG,aM,aL,view,bI,mkV,mkF,fz,fzL,fzo,dq,mkO,fnP,fnI,en0,outs,dZ,bK,obC,truth,hJ.v,hJ.x,hj,lO,lB,lz,Hz,two1,hst]
def StI (J:D) (js:List Jt) (t:Int) (ps:List Pt) (k:Nat) (ρ:En):Prop:=∃ (c:Int) (x4 x5 x6 x7 x8:Option D),c + tot js (ps.drop k)=tot js ps/\ρ=[some J,some (.int t),some (.tup (ps.map ptD)),some (.int c),x4,x5,x6,x7,x8]
theorem Dl {t n:Int} (ht:0<=t):gZ [.int t,.int n]=some (.int (if t=0 then n else n % t)):=by
 apply Wp.eq
 by_cases h0:t=0
 .simp [gZ,aA,bA,aV,cP,w_ite,cY,bW,aX,cJ,bw,sIf,eZ,sEx,bO,cu,dm,b_,cg,gP,gQ,dF,cH,sFz,cL,eV,cR,fZ,upS,tgN,tgT,aJ,aU,cN,tpN,tpT,d_,gK,aq,eC,aB,ak,eAp,eUp,fD,bc,ee2,ee1,aP,dJ,e2,e1,eB,eeB,eY,cM,fK,eOr,eX,cB,gG,cI,eE,vOr,gH,di,eTT,isB,dO,gJ,itS,itE,cQ,gf,bC,bH,bF,eSl,fX,fY,cG,bx,bf,eMt,bz,fW,gj,eIo,objs,bY,bj,eU,dW,clean,aH,aF,aD,aG,aM,aL,view,bI,mkV,mkF,fz,fzL,fzo,dq,mkO,fnP,fnI,en0,outs,dZ,bK,obC,truth,eq_int,h0]
 .have:0 < t:=by omega
  simp [gZ,aA,bA,aV,cP,w_ite,cY,bW,aX,cJ,bw,sIf,eZ,sEx,bO,cu,dm,b_,cg,gP,gQ,dF,cH,sFz,cL,eV,cR,fZ,upS,tgN,tgT,aJ,aU,cN,tpN,tpT,d_,gK,aq,eC,aB,ak,eAp,eUp,fD,bc,ee2,ee1,aP,dJ,e2,e1,eB,eeB,eY,cM,fK,eOr,eX,cB,gG,cI,eE,vOr,gH,di,eTT,isB,dO,gJ,itS,itE,cQ,gf,bC,bH,bF,eSl,fX,fY,cG,bx,bf,eMt,bz,fW,gj,eIo,objs,bY,bj,eU,dW,clean,aH,aF,aD,aG,aM,aL,view,bI,mkV,mkF,fz,fzL,fzo,dq,mkO,fnP,fnI,en0,outs,dZ,bK,obC,truth,eq_int,h0,lF,this]
theorem Aq {t n:Int} (ht:0<=t/\t<=1000):dB [.int t,.int n]=some (.int (if t=0 then n else n % t)):=by
 apply Wp.eq
 by_cases h0:t=0
 .simp [dB,aA,bA,aV,cP,w_ite,cY,bW,aX,cJ,bw,sIf,eZ,sEx,bO,cu,dm,b_,cg,gP,gQ,dF,cH,sFz,cL,eV,cR,fZ,upS,tgN,tgT,aJ,aU,cN,tpN,tpT,d_,gK,aq,eC,aB,ak,eAp,eUp,fD,bc,ee2,ee1,aP,dJ,e2,e1,eB,eeB,eY,cM,fK,eOr,eX,cB,gG,cI,eE,vOr,gH,di,eTT,isB,dO,gJ,itS,itE,cQ,gf,bC,bH,bF,eSl,fX,fY,cG,bx,bf,eMt,bz,fW,gj,eIo,objs,bY,bj,eU,dW,clean,aH,aF,aD,aG,aM,aL,view,bI,mkV,mkF,fz,fzL,fzo,dq,mkO,fnP,fnI,en0,outs,dZ,bK,obC,truth,eq_int,h0]
 .have h1:0 < t:=by omega
  have h2:t < 18446744073709551616:=by omega
  have h3 : -18446744073709551616 < t:=by omega
  simp [dB,aA,bA,aV,cP,w_ite,cY,bW,aX,cJ,bw,sIf,eZ,sEx,bO,cu,dm,b_,cg,gP,gQ,dF,cH,sFz,cL,eV,cR,fZ,upS,tgN,tgT,aJ,aU,cN,tpN,tpT,d_,gK,aq,eC,aB,ak,eAp,eUp,fD,bc,ee2,ee1,aP,dJ,e2,e1,eB,eeB,eY,cM,fK,eOr,eX,cB,gG,cI,eE,vOr,gH,di,eTT,isB,dO,gJ,itS,itE,cQ,gf,bC,bH,bF,eSl,fX,fY,cG,bx,bf,eMt,bz,fW,gj,eIo,objs,bY,bj,eU,dW,clean,aH,aF,aD,aG,aM,aL,view,bI,mkV,mkF,fz,fzL,fzo,dq,mkO,fnP,fnI,en0,outs,dZ,bK,obC,truth,eq_int,h0,nP,jE,lA,h1,h2,h3]
  have:=Int.emod_add_mul_ediv n t
  rw [Int.mul_comm] at this
  omega
theorem JQ {J:D} {js:List Jt} {t:Int} {ps:List Pt} (hJ:JJ J js) (hin:inJ js ps) (hp:∀ p∈ps,pm p.2=true) (ht:0<=t):ie [J,.int t,.tup (ps.map ptD)]=some (.int (if t=0 then tot js ps else tot js ps % t)):=by
 apply Wp.eq
 simp [ie,aA,bA,aV,cP,w_ite,cY,bW,aX,cJ,bw,sIf,eZ,sEx,bO,cu,dm,b_,cg,gP,gQ,dF,cH,sFz,cL,eV,cR,fZ,upS,tgN,tgT,aJ,aU,cN,tpN,tpT,d_,gK,aq,eC,aB,ak,eAp,eUp,fD,bc,ee2,ee1,aP,dJ,e2,e1,eB,eeB,eY,cM,fK,eOr,eX,cB,gG,cI,eE,vOr,gH,di,eTT,isB,dO,gJ,itS,itE,cQ,gf,bC,bH,bF,eSl,fX,fY,cG,bx,bf,eMt,bz,fW,gj,eIo,objs,bY,bj,eU,dW,clean,aH,aF,aD,aG,aM,aL,view,bI,mkV,mkF,fz,fzL,fzo,dq,mkO,fnP,fnI,en0,outs,dZ,bK,obC,truth,hJ.v,jA,nJ,jC,jB]
 refine j4 (StI J js t ps) ⟨0,none,none,none,none,none,by simp,rfl⟩ ?_ ?_
 .rintro k d ρ hk ⟨c,x4,x5,x6,x7,x8,hc,rfl⟩
  rw [List.getElem?_map] at hk
  cases hpk:ps[k]? with
  | none=>simp [hpk] at hk
  | some p=>
   obtain rfl:ptD p=d:=by simpa [hpk] using hk
   have hkl:k < ps.length:=(List.getElem?_eq_some_iff.mp hpk).1
   have hpe:ps[k]=p:=(List.getElem?_eq_some_iff.mp hpk).2
   have hmem:=List.mem_of_getElem? hpk
   have hs:p.2=1∨p.2 = -1:=by simpa [pm] using hp p hmem
   obtain ⟨j,_,hj0,hj,_⟩:=mL (hin p hmem)
   have hb : -18446744073709551616 < p.2/\p.2 < 18446744073709551616:=by omega
   simp [ptD,aA,bA,aV,cP,w_ite,cY,bW,aX,cJ,bw,sIf,eZ,sEx,bO,cu,dm,b_,cg,gP,gQ,dF,cH,sFz,cL,eV,cR,fZ,upS,tgN,tgT,aJ,aU,cN,tpN,tpT,d_,gK,aq,eC,aB,ak,eAp,eUp,fD,bc,ee2,ee1,aP,dJ,e2,e1,eB,eeB,eY,cM,fK,eOr,eX,cB,gG,cI,eE,vOr,gH,di,eTT,isB,dO,gJ,itS,itE,cQ,gf,bC,bH,bF,eSl,fX,fY,cG,bx,bf,eMt,bz,fW,gj,eIo,objs,bY,bj,eU,dW,clean,aH,aF,aD,aG,aM,aL,view,bI,mkV,mkF,fz,fzL,fzo,dq,mkO,fnP,fnI,en0,outs,dZ,bK,obC,truth,hJ.v,hJ.x,hj]
   simp [jD,aA,bA,aV,cP,w_ite,cY,bW,aX,cJ,bw,sIf,eZ,sEx,bO,cu,dm,b_,cg,gP,gQ,dF,cH,sFz,cL,eV,cR,fZ,upS,tgN,tgT,aJ,aU,cN,tpN,tpT,d_,gK,aq,eC,aB,ak,eAp,eUp,fD,bc,ee2,ee1,aP,dJ,e2,e1,eB,eeB,eY,cM,fK,eOr,eX,cB,gG,cI,eE,vOr,gH,di,eTT,isB,dO,gJ,itS,itE,cQ,gf,bC,bH,bF,eSl,fX,fY,cG,bx,bf,eMt,bz,fW,gj,eIo,objs,bY,bj,eU,dW,clean,aH,aF,aD,aG,aM,aL,view,bI,mkV,mkF,fz,fzL,fzo,dq,mkO,fnP,fnI,en0,outs,dZ,bK,obC,truth,jE,hb]
   refine ⟨c + p.2 * j.2.2,_,_,_,_,_,?_,rfl⟩
   rw [List.drop_eq_getElem_cons hkl,hpe,tot,hj0] at hc
   simp at hc
   omega
 .rintro ρ ⟨c,x4,x5,x6,x7,x8,hc,rfl⟩
  rw [List.length_map,List.drop_length] at hc
  have:c=tot js ps:=by simpa [tot] using hc
  subst this
  simp_arith [Dl ht]
structure NN (N:D) (h:Str):Prop where
 f:fz N=N
 v:∀ b,view b N=N
 b:aH N=true
 o:aF N=true
 i:jL (.str h) N=some (.bl false)
theorem v_:∀ l:List Str,jY (l.map D.str)=some (l.map Sum.inr)
 | []=>rfl
 | x :: r=>by simp [jY,mG,v_ r]
theorem vV:∀ l:List Pt,jY (l.map fun p=>D.int p.1)=some (l.map fun p=>Sum.inl p.1)
 | []=>rfl
 | x :: r=>by simp [jY,mG,vV r]
def dS (l:List Str):Nat:=(rB (l.map Sum.inr)).length
def dN (ps:List Pt):Nat:=(rB (ps.map fun p=>Sum.inl p.1)).length
theorem Bb {m:Mk} {l:List Str} (h:l.length<=1000):jH [.lst m (l.map D.str)]=some (.int (dS l)):=by
 have:(l.map D.str).length < 4000:=by simp; omega
 simp [jH,v_,dS]
 omega
theorem Bt {m:Mk} {l:List Pt} (h:l.length<=1000):jH [.lst m (l.map fun p=>D.int p.1)]=some (.int (dN l)):=by
 simp [jH,vV,dN]
 omega
def nums (ps:List Pt):List D:=ps.map fun p=>D.int p.1
theorem G5 (ps:List Pt):kh (tpT 2 (aJ (tpN 0) (aJ (tpN 1) aU))) eTT (aq false 0) [none,none] (ps.map ptD)=some (nums ps):=by
 rw [jg (p:=fun _=>true) (f:=fun d=>match d with | .tup [a,b]=>a | _=>.non)]
 .rw [filter_tt,List.map_map]
  rfl
 .intro d hd
  obtain ⟨p,hp,rfl⟩:=List.mem_map.mp hd
  simp [ptD,aA,bA,aV,cP,w_ite,cY,bW,aX,cJ,bw,sIf,eZ,sEx,bO,cu,dm,b_,cg,gP,gQ,dF,cH,sFz,cL,eV,cR,fZ,upS,tgN,tgT,aJ,aU,cN,tpN,tpT,d_,gK,aq,eC,aB,ak,eAp,eUp,fD,bc,ee2,ee1,aP,dJ,e2,e1,eB,eeB,eY,cM,fK,eOr,eX,cB,gG,cI,eE,vOr,gH,di,eTT,isB,dO,gJ,itS,itE,cQ,gf,bC,bH,bF,eSl,fX,fY,cG,bx,bf,eMt,bz,fW,gj,eIo,objs,bY,bj,eU,dW,clean,aH,aF,aD,aG,aM,aL,view,bI,mkV,mkF,fz,fzL,fzo,dq,mkO,fnP,fnI,en0,outs,dZ,bK,obC,truth]
theorem Kl {l:List Str} (h:l.length<=1000):cZ [.lst .frz (l.map D.str)]=some (.bl (decide (dS l=l.length))):=by
 apply Wp.eq
 simp [cZ,aA,bA,aV,cP,w_ite,cY,bW,aX,cJ,bw,sIf,eZ,sEx,bO,cu,dm,b_,cg,gP,gQ,dF,cH,sFz,cL,eV,cR,fZ,upS,tgN,tgT,aJ,aU,cN,tpN,tpT,d_,gK,aq,eC,aB,ak,eAp,eUp,fD,bc,ee2,ee1,aP,dJ,e2,e1,eB,eeB,eY,cM,fK,eOr,eX,cB,gG,cI,eE,vOr,gH,di,eTT,isB,dO,gJ,itS,itE,cQ,gf,bC,bH,bF,eSl,fX,fY,cG,bx,bf,eMt,bz,fW,gj,eIo,objs,bY,bj,eU,dW,clean,aH,aF,aD,aG,aM,aL,view,bI,mkV,mkF,fz,fzL,fzo,dq,mkO,fnP,fnI,en0,outs,dZ,bK,obC,truth,bQ,Bb h,len_strs,eq_int]
 omega
theorem fzn (l:List Pt):fzL (nums l)=nums l:=by rw [j6,nums,List.map_map]; rfl
theorem vwn (b:Bool) (l:List Pt):bI b (nums l)=nums l:=by rw [iQ,nums,List.map_map]; rfl
theorem JL {l:List Pt} (h:l.length<=1000):cZ [.lst .frz (nums l)]=some (.bl (decide (dN l=l.length))):=by
 apply Wp.eq
 have h2:jH [.lst .frz (nums l)]=some (.int (dN l)):=Bt h
 have h3:dI [.lst .frz (nums l)]=some (.int l.length):=by simp [dI,nums]
 simp [cZ,aA,bA,aV,cP,w_ite,cY,bW,aX,cJ,bw,sIf,eZ,sEx,bO,cu,dm,b_,cg,gP,gQ,dF,cH,sFz,cL,eV,cR,fZ,upS,tgN,tgT,aJ,aU,cN,tpN,tpT,d_,gK,aq,eC,aB,ak,eAp,eUp,fD,bc,ee2,ee1,aP,dJ,e2,e1,eB,eeB,eY,cM,fK,eOr,eX,cB,gG,cI,eE,vOr,gH,di,eTT,isB,dO,gJ,itS,itE,cQ,gf,bC,bH,bF,eSl,fX,fY,cG,bx,bf,eMt,bz,fW,gj,eIo,objs,bY,bj,eU,dW,clean,aH,aF,aD,aG,aM,aL,view,bI,mkV,mkF,fz,fzL,fzo,dq,mkO,fnP,fnI,en0,outs,dZ,bK,obC,truth,vwn,h2,h3,eq_int]
 omega
def cnt (t n:Int):Int:=if t=0 then n else n % t
def oG (js:List Jt) (t:Int) (h:Str) (ps:List Pt):Bool:=match mt js h ps with
 | none=>false
 | some l=>decide (ps.length≠0) && decide (lst h l=h) && decide (dN ps=ps.length) && decide (dS l=l.length) && decide (cnt t (tot js ps)≠0)
theorem Dd {h:Str}:gNe .non (.str h)=some (.bl true):=by
 unfold gNe
 rw [if_pos ⟨rfl,rfl,by simp [dt,dp],by simp [dt,dp]⟩]
 simp [dt,eqD]
theorem Hd {N J:D} {js:List Jt} {t:Int} {h:Str} {d:D} (hN:NN N h) (hd:Tyd d) (hl:(kids d).length<=1000) (hw:nZ d=false):cW [N,J,.int t,.str h,d]=some (.bl false):=by
 apply Wp.eq
 obtain ⟨f1,f2,f3,f4,f5,f6⟩:=hd.all
 simp [cW,aA,bA,aV,cP,w_ite,cY,bW,aX,cJ,bw,sIf,eZ,sEx,bO,cu,dm,b_,cg,gP,gQ,dF,cH,sFz,cL,eV,cR,fZ,upS,tgN,tgT,aJ,aU,cN,tpN,tpT,d_,gK,aq,eC,aB,ak,eAp,eUp,fD,bc,ee2,ee1,aP,dJ,e2,e1,eB,eeB,eY,cM,fK,eOr,eX,cB,gG,cI,eE,vOr,gH,di,eTT,isB,dO,gJ,itS,itE,cQ,gf,bC,bH,bF,eSl,fX,fY,cG,bx,bf,eMt,bz,fW,gj,eIo,objs,bY,bj,eU,dW,clean,aH,aF,aD,aG,aM,aL,view,bI,mkV,mkF,fz,fzL,fzo,dq,mkO,fnP,fnI,en0,outs,dZ,bK,obC,truth,hN.v,hN.i,f1,f3,f4,f5,KR hd hl,hw]
theorem Ig {ps:List Pt} (hp:∀ p∈ps,pm p.2=true):nZ (.tup (ps.map ptD))=true:=by
 simp only [nZ,List.all_map,List.all_eq_true]
 intro p hpm
 exact hp p hpm
theorem Lb (ps:List Pt):Tyd (.tup (ps.map ptD)):=.tup fun e he=>by
 obtain ⟨p,_,rfl⟩:=List.mem_map.mp he
 exact .tup fun e he=>by
  rcases List.mem_cons.mp he with z | z
  .rw [z]; exact .int _
  .rcases List.mem_cons.mp z with z | z
   .rw [z]; exact .int _
   .cases z
theorem Hc {N J:D} {js:List Jt} {t:Int} {h:Str} {ps:List Pt} (hN:NN N h) (hJ:JJ J js) (ht:0<=t) (hl:ps.length<=1000) (hp:∀ p∈ps,pm p.2=true):cW [N,J,.int t,.str h,.tup (ps.map ptD)]=some (.bl (oG js t h ps)):=by
 apply Wp.eq
 have hw:=KR (Lb ps) (by simpa [kids] using hl)
 rw [Ig hp] at hw
 have hlt:dI [.tup (ps.map ptD)]=some (.int ps.length):=by simp [dI]
 simp [cW,aA,bA,aV,cP,w_ite,cY,bW,aX,cJ,bw,sIf,eZ,sEx,bO,cu,dm,b_,cg,gP,gQ,dF,cH,sFz,cL,eV,cR,fZ,upS,tgN,tgT,aJ,aU,cN,tpN,tpT,d_,gK,aq,eC,aB,ak,eAp,eUp,fD,bc,ee2,ee1,aP,dJ,e2,e1,eB,eeB,eY,cM,fK,eOr,eX,cB,gG,cI,eE,vOr,gH,di,eTT,isB,dO,gJ,itS,itE,cQ,gf,bC,bH,bF,eSl,fX,fY,cG,bx,bf,eMt,bz,fW,gj,eIo,objs,bY,bj,eU,dW,clean,aH,aF,aD,aG,aM,aL,view,bI,mkV,mkF,fz,fzL,fzo,dq,mkO,fnP,fnI,en0,outs,dZ,bK,obC,truth,hN.v,hN.i,jA,qM,jC,jB,hw,hlt,eq_int]
 by_cases h0:ps=[]
 .subst h0
  simp [oG,mt]
 .simp [h0,hJ.v,hJ.f,hJ.b,hJ.o,qM,Qf hJ,jC,jB,aA]
  cases hm:mt js h ps with
  | none=>simp [G8,aH,aF,iY,Dd,aA,oG,hm]
  | some l=>
   have hll:=An ps h l hm
   have hls:fz (D.lst .own (l.map D.str)) = .lst .frz (l.map D.str):=by rw [fz,du]; rfl
   have hln:fz (D.lst .own (nums ps)) = .lst .frz (nums ps):=by rw [fz,fzn]; rfl
   simp [G8,aH,aF,iY,ne_str,aA,oG,hm]
   by_cases he:lst h l=h
   .simp [he,nJ,G5,aA]
    refine ⟨by omega,?_⟩
    rw [fzn,JL hl,aA]
    simp only [iY,or_true,true_and,aA]
    by_cases h1:dN ps=ps.length
    .rw [if_pos (decide_eq_true h1),Nk hJ hm hl,aA,hls,Kl (by omega),aA]
     simp only [iY,or_true,true_and,aA]
     by_cases h2:dS l=l.length
     .rw [if_pos (decide_eq_true h2),JQ hJ (Cm ps h l hm) hp ht,aA,ne_int,aA]
      simp [aH,aF,h0,h1,h2,cnt]
      exact decide_eq_decide.mpr Iff.rfl
     .simp [h2]
    .simp [h1]
   .simp [he]
theorem Qe {J:D} {js:List Jt} (hJ:JJ J js):∀ ps:List Pt,inJ js ps->(∀ p∈ps,pm p.2=true)->kh (tpT 2 (aJ (tpN 0) (aJ (tpN 1) aU))) eTT (e2 jE (aq false 1) (e2 gIx (e2 gIx (aq false 2) (aq false 0)) (eC (D.int 2)))) [none,none,some J] (ps.map ptD)=some (ps.map fun p=>D.int (p.2 * ((js[p.1.toNat]?).map fun j=>j.2.2).getD 0)):=fun ps hin hp=>by
 rw [jg (p:=fun _=>true) (f:=fun d=>match d with | .tup [.int a,.int b]=>.int (b * ((js[a.toNat]?).map fun j=>j.2.2).getD 0) | _=>.non)]
 .rw [filter_tt,List.map_map]
  rfl
 .intro d hd
  obtain ⟨p,hpm,rfl⟩:=List.mem_map.mp hd
  obtain ⟨j,_,hj0,hj,_⟩:=mL (hin p hpm)
  have hs:p.2=1∨p.2 = -1:=by simpa [pm] using hp p hpm
  have hb : -18446744073709551616 < p.2/\p.2 < 18446744073709551616:=by omega
  have h2:gIx (jD j) (.int 2)=some (.int j.2.2):=rfl
  simp [ptD,aA,bA,aV,cP,w_ite,cY,bW,aX,cJ,bw,sIf,eZ,sEx,bO,cu,dm,b_,cg,gP,gQ,dF,cH,sFz,cL,eV,cR,fZ,upS,tgN,tgT,aJ,aU,cN,tpN,tpT,d_,gK,aq,eC,aB,ak,eAp,eUp,fD,bc,ee2,ee1,aP,dJ,e2,e1,eB,eeB,eY,cM,fK,eOr,eX,cB,gG,cI,eE,vOr,gH,di,eTT,isB,dO,gJ,itS,itE,cQ,gf,bC,bH,bF,eSl,fX,fY,cG,bx,bf,eMt,bz,fW,gj,eIo,objs,bY,bj,eU,dW,clean,aH,aF,aD,aG,aM,aL,view,bI,mkV,mkF,fz,fzL,fzo,dq,mkO,fnP,fnI,en0,outs,dZ,bK,obC,truth,hJ.v,hJ.x,hj,h2,jE,hb,hj0]
theorem yJ (js:List Jt):∀ ps:List Pt,uG (ps.map fun p=>D.int (p.2 * ((js[p.1.toNat]?).map fun j=>j.2.2).getD 0))=some (ps.map fun p=>p.2 * ((js[p.1.toNat]?).map fun j=>j.2.2).getD 0)
 | []=>rfl
 | p :: r=>by rw [List.map_cons,List.map_cons,uG,yJ js r]; rfl
theorem Ba (js:List Jt):∀ ps:List Pt,(ps.map fun p=>p.2 * ((js[p.1.toNat]?).map fun j=>j.2.2).getD 0).sum=tot js ps
 | []=>rfl
 | p :: r=>by rw [List.map_cons,List.sum_cons,Ba js r,tot]
theorem J4 {J:D} {js:List Jt} {t:Int} {h:Str} {ps:List Pt} (hJ:JJ J js) (ht:0<=t/\t<=1000) (hl:ps.length<=900) (hp:∀ p∈ps,pm p.2=true):d7 [J,.int t,.str h,.tup (ps.map ptD)]=some (.bl (oG js t h ps)):=by
 apply Wp.eq
 have hlt:dI [.tup (ps.map ptD)]=some (.int ps.length):=by simp [dI]
 simp [d7,aA,bA,aV,cP,w_ite,cY,bW,aX,cJ,bw,sIf,eZ,sEx,bO,cu,dm,b_,cg,gP,gQ,dF,cH,sFz,cL,eV,cR,fZ,upS,tgN,tgT,aJ,aU,cN,tpN,tpT,d_,gK,aq,eC,aB,ak,eAp,eUp,fD,bc,ee2,ee1,aP,dJ,e2,e1,eB,eeB,eY,cM,fK,eOr,eX,cB,gG,cI,eE,vOr,gH,di,eTT,isB,dO,gJ,itS,itE,cQ,gf,bC,bH,bF,eSl,fX,fY,cG,bx,bf,eMt,bz,fW,gj,eIo,objs,bY,bj,eU,dW,clean,aH,aF,aD,aG,aM,aL,view,bI,mkV,mkF,fz,fzL,fzo,dq,mkO,fnP,fnI,en0,outs,dZ,bK,obC,truth,hJ.v,hJ.f,hJ.b,hJ.o,jA,qM,jC,jB,Lk hJ hp (by omega:ps.length<=1000)]
 cases hm:mt js h ps with
 | none=>simp [Ht,aH,aF,view,gIs,sE,aA,oG,hm]
 | some l=>
  have hll:=An ps h l hm
  have hvl:view false (D.lst .own ((h :: l).map D.str)) = .lst .brw ((h :: l).map D.str):=by rw [view,bQ]; rfl
  have hle:∀ m,dI [.lst m ((h :: l).map D.str)]=some (.int (l.length + 1)):=fun m=>by simp [dI]
  have hla:∀ m,gIx (.lst m ((h :: l).map D.str)) (.int (-1))=some (.str (lst h l)):=fun m=>qj
  have hsl:∀ m,gSl (.lst m ((h :: l).map D.str)) (some 1) none=some (.lst .own (l.map D.str)):=fun m=>by
   simp [gSl,cutD,HT.sIx]
   exact List.take_of_length_le (by simp)
  simp only [Ht,aH,aF,cC,cz,hvl,gIs,sE,aA,hle,gLt,jt,hla,ne_str,hsl,Bb (show l.length<=1000 by omega),lA,ne_int]
  refine ⟨by decide,?_⟩
  rw [if_neg (by decide)]
  by_cases c1:ps.length=0
  .rw [if_pos (by simp; omega)]
   simp [oG,hm,c1]
  .rw [if_neg (by simp; omega)]
   by_cases c2:lst h l=h
   .rw [if_neg (by simp [c2])]
    by_cases c3:dS l=l.length
    .rw [if_neg (by simp; omega)]
     have hls:jH [.lst .own (nums ps)]=some (.int (dN ps)):=Bt (by omega)
     rw [nJ,G5]
     simp only [aA,hls,hlt,ne_int]
     refine ⟨by simp; omega,?_⟩
     by_cases c4:dN ps=ps.length
     .rw [if_neg (by simp; omega),Qe hJ ps (Cm ps h l hm) hp]
      simp only [aA,Im,yJ,Option.map_some,Ba]
      refine ⟨by simp; omega,?_⟩
      have hcn:∀ n,dB [.int t,.int n]=some (.int (cnt t n)):=fun n=>Aq ht
      simp [fz,fzL,hcn,aA,aH,aF,ne_int,oG,hm,c1,c2,c3,c4]
     .rw [if_pos (by simp; omega)]
      simp [oG,hm,c4]
    .rw [if_pos (by simp; omega)]
     simp [oG,hm,c3]
   .rw [if_pos (by simp [c2])]
    simp [oG,hm,c2]
theorem K5 {a b:Bool}:gEq (.bl a) (.bl b)=some (.bl (a == b)):=by
 unfold gEq
 rw [if_pos ⟨rfl,rfl,by simp [dt,dp],by simp [dt,dp]⟩]
 simp [dt,eqD]
theorem eq_str {a:Str}:gEq (.str a) (.str a)=some (.bl true):=by
 unfold gEq
 rw [if_pos ⟨rfl,rfl,by simp [dt,dp],by simp [dt,dp]⟩]
 simp [dt,eqD]
theorem Oc {N J:D} {js:List Jt} {t:Int} {h:Str} {d:D} {x:Str} (hN:NN N h) (hJ:JJ J js) (ht:0<=t/\t<=1000) (hd:Tyd d) (hl:(kids d).length<=900) (hs:xT [d]=some (.str x)):dD [N,J,.int t,.str h,d]=some (.bl true):=by
 apply Wp.eq
 obtain ⟨f1,f2,f3,f4,f5,f6⟩:=hd.all
 have hl':(kids d).length<=1000:=by omega
 have key:∃ b,cW [N,J,.int t,.str h,d]=some (.bl b)/\(nZ d=false->b=false)/\(nZ d=true->d7 [J,.int t,.str h,d]=some (.bl b)):=by
  cases hw:nZ d with
  | false=>exact ⟨false,Hd (js:=js) hN hd hl' hw,fun _=>rfl,fun z=>by cases z⟩
  | true=>
   cases hd with
   | @tup ds hd'=>
    obtain ⟨ps,rfl,hp⟩:=Fp (show ds.all prB=true from hw)
    have hpl:ps.length<=900:=by simpa [kids] using hl
    exact ⟨_,Hc hN hJ ht.1 (by omega) hp,fun z=>(by cases z),fun _=>J4 hJ ht hpl hp⟩
   | _=>simp [nZ] at hw
 obtain ⟨b,k1,k2,k3⟩:=key
 simp [dD,aA,bA,aV,cP,w_ite,cY,bW,aX,cJ,bw,sIf,eZ,sEx,bO,cu,dm,b_,cg,gP,gQ,dF,cH,sFz,cL,eV,cR,fZ,upS,tgN,tgT,aJ,aU,cN,tpN,tpT,d_,gK,aq,eC,aB,ak,eAp,eUp,fD,bc,ee2,ee1,aP,dJ,e2,e1,eB,eeB,eY,cM,fK,eOr,eX,cB,gG,cI,eE,vOr,gH,di,eTT,isB,dO,gJ,itS,itE,cQ,gf,bC,bH,bF,eSl,fX,fY,cG,bx,bf,eMt,bz,fW,gj,eIo,objs,bY,bj,eU,dW,clean,aH,aF,aD,aG,aM,aL,view,bI,mkV,mkF,fz,fzL,fzo,dq,mkO,fnP,fnI,en0,outs,dZ,bK,obC,truth,f1,f3,f4,f5,hs,hN.v,hN.f,hN.b,hN.o,hJ.v,hJ.f,hJ.b,hJ.o,k1,M7 hd hl']
 cases hw:nZ d with
 | false=>
  rw [k2 hw]
  simp [aA,aH,aF,cX,tyN,okT,isT,K5,eq_str,view]
 | true=>
  simp [k3 hw,aA,aH,aF,cX,tyN,okT,isT,K5,eq_str,view]
abbrev Tt:=Int×Int×Str
def tD (t:Tt):D:=.tup [.int t.1,.int t.2.1,.str t.2.2]
theorem Hn (l:List Tt):aD (l.map tD)=true:=fQ fun d hd=>by obtain ⟨x,_,rfl⟩:=List.mem_map.mp hd; rfl
theorem Gx (l:List Tt):aG (l.map tD)=true:=e_ fun d hd=>by obtain ⟨x,_,rfl⟩:=List.mem_map.mp hd; rfl
theorem yI (b:Bool) (l:List Tt):bI b (l.map tD)=l.map tD:=by rw [iQ,List.map_map]; rfl
theorem OD (l:List Tt):dq (l.map tD)=l.map tD:=by rw [jF,List.map_map]; rfl
theorem Iz {m:Mk} {ds:List D} (h1:lC ds=true) (h2:dpL (dtL ds)<=50):gNe (.lst m ds) (.lst .own [])=some (.bl (!ds.isEmpty)):=by
 unfold gNe
 rw [if_pos ⟨by simpa [j5] using h1,rfl,by simp only [dt,dp]; omega,by decide⟩]
 cases ds with
 | nil=>rfl
 | cons j r=>rfl
theorem Bo:∀ l:List Tt,lC (l.map tD)=true
 | []=>rfl
 | j :: r=>by simp [lC,tD,j5,Bo r]
theorem Ks:∀ l:List Tt,dpL (dtL (l.map tD))<=2
 | []=>by simp [dtL,dpL]
 | j :: r=>by
  have:=Ks r
  simp [dtL,tD,dt,dpL,dp]
  omega
theorem KD {m:Mk} {l:List Tt}:gNe (.lst m (l.map tD)) (.lst .own [])=some (.bl (!l.isEmpty)):=by
 rw [Iz (Bo l) (Nat.le_trans (Ks l) (by decide))]
 cases l <;> rfl
theorem Bk:∀ l:List Str,∃ vs,oh (l.map D.str)=some vs
 | []=>⟨[],rfl⟩
 | x :: r=>by obtain ⟨vs,h⟩:=Bk r; exact ⟨.str x :: vs,by simp [oh,scV,h]⟩
theorem Bg:∀ l:List Pt,∃ vs,oh (nums l)=some vs
 | []=>⟨[],rfl⟩
 | x :: r=>by obtain ⟨vs,h⟩:=Bg r; exact ⟨.int x.1 :: vs,by simp [nums,oh,scV] at h ⊢; simp [h]⟩
theorem Av {e:Str} {m:Mk} {l:List Str}:∃ b,jL (.str e) (.lst m (l.map D.str))=some (.bl b):=by
 obtain ⟨vs,h⟩:=Bk l
 exact ⟨!inV (.str e) vs,by simp [jL,tu,scV,h]⟩
theorem notin_nums {n:Int} {m:Mk} {l:List Pt}:∃ b,jL (.int n) (.lst m (nums l))=some (.bl b):=by
 obtain ⟨vs,h⟩:=Bg l
 exact ⟨!inV (.int n) vs,by simp [jL,tu,scV,h]⟩
theorem eqs {x y:Str}:gEq (.str x) (.str y)=some (.bl (decide (x=y))):=by
 unfold gEq
 rw [if_pos ⟨rfl,rfl,by simp [dt,dp],by simp [dt,dp]⟩]
 simp [dt,eqD]
 exact Bool.eq_iff_iff.mpr (by simp)
theorem Bv (ps:List Pt):kh (tpN 0) eTT (e2 gIx (aq false 0) (eC (.int 0))) [none] (ps.map ptD)=some (nums ps):=by
 rw [jg (p:=fun _=>true) (f:=fun d=>match d with | .tup [a,b]=>a | _=>.non)]
 .rw [filter_tt,List.map_map]
  rfl
 .intro d hd
  obtain ⟨p,hp,rfl⟩:=List.mem_map.mp hd
  simp [ptD,aA,bA,aV,cP,w_ite,cY,bW,aX,cJ,bw,sIf,eZ,sEx,bO,cu,dm,b_,cg,gP,gQ,dF,cH,sFz,cL,eV,cR,fZ,upS,tgN,tgT,aJ,aU,cN,tpN,tpT,d_,gK,aq,eC,aB,ak,eAp,eUp,fD,bc,ee2,ee1,aP,dJ,e2,e1,eB,eeB,eY,cM,fK,eOr,eX,cB,gG,cI,eE,vOr,gH,di,eTT,isB,dO,gJ,itS,itE,cQ,gf,bC,bH,bF,eSl,fX,fY,cG,bx,bf,eMt,bz,fW,gj,eIo,objs,bY,bj,eU,dW,clean,aH,aF,aD,aG,aM,aL,view,bI,mkV,mkF,fz,fzL,fzo,dq,mkO,fnP,fnI,en0,outs,dZ,bK,obC,truth,gIx,atI,ixN]
def gdT (js:List Jt) (t:Tt):Prop:=0<=t.1/\t.1 < js.length/\pm t.2.1=true
def gdP (js:List Jt) (p:Pt):Prop:=0<=p.1/\p.1 < js.length/\pm p.2=true
def RgI (J:D) (js:List Jt) (h:Str) (k:Nat) (ρ:En):Prop:=∃ (ps:List Pt) (m0:Str) (mr:List Str) (a' b':Int) (x5 x6 x7 x8 x9 x10 x11 x12 x13:Option D),ρ=[some (tp a' b'),some J,some (.str h),some (.lst .own (ps.map ptD)),some (.lst .own ((m0 :: mr).map D.str)),x5,x6,x7,x8,x9,x10,x11,x12,x13]/\(∀ p∈ps,gdP js p)/\ps.length<=k/\mr.length<=k/\0<=a'
def RsI (J:D) (js:List Jt) (h:Str) (ps:List Pt) (m0:Str) (mr:List Str) (a' b':Int) (x5 x12 x13:Option D) (k:Nat) (ρ:En):Prop:=∃ (ts:List Tt) (x7 x8 x9 x10 x11:Option D),ρ=[some (tp a' b'),some J,some (.str h),some (.lst .own (ps.map ptD)),some (.lst .own ((m0 :: mr).map D.str)),x5,some (.lst .own (ts.map tD)),x7,x8,x9,x10,x11,x12,x13]/\(∀ t∈ts,gdT js t)/\ts.length<=2 * k
def RtI (J:D) (js:List Jt) (h:Str) (ps:List Pt) (m0:Str) (mr:List Str) (a' b':Int) (x5 x12 x13:Option D) (n:Nat) (j:Jt) (k:Nat) (ρ:En):Prop:=∃ (ts:List Tt) (x9 x10 x11:Option D),ρ=[some (tp a' b'),some J,some (.str h),some (.lst .own (ps.map ptD)),some (.lst .own ((m0 :: mr).map D.str)),x5,some (.lst .own (ts.map tD)),some (.int n),some (jD j),x9,x10,x11,x12,x13]/\(∀ t∈ts,gdT js t)/\ts.length<=2 * n + k
def Rg (J:D) (js:List Jt) (h:Str) (q:D×List D):Prop:=∃ (ps:List Pt) (a' b':Int),q=(.tup (ps.map ptD),[tp a' b',J,.str h])/\(∀ p∈ps,gdP js p)/\ps.length<=8/\0<=a'
theorem JT {a b:Int} {J:D} {js:List Jt} {h:Str} (ha:0<=a) (hJ:JJ J js) (hjl:js.length<=100):Wp (gO [tp a b,J,.str h]) (Rg J js h):=by
 simp [gO,aA,bA,aV,cP,w_ite,cY,bW,aX,cJ,bw,sIf,eZ,sEx,bO,cu,dm,b_,cg,gP,gQ,dF,cH,sFz,cL,eV,cR,fZ,upS,tgN,tgT,aJ,aU,cN,tpN,tpT,d_,gK,aq,eC,aB,ak,eAp,eUp,fD,bc,ee2,ee1,aP,dJ,e2,e1,eB,eeB,eY,cM,fK,eOr,eX,cB,gG,cI,eE,vOr,gH,di,eTT,isB,dO,gJ,itS,itE,cQ,gf,bC,bH,bF,eSl,fX,fY,cG,bx,bf,eMt,bz,fW,gj,eIo,objs,bY,bj,eU,dW,clean,aH,aF,aD,aG,aM,aL,view,bI,mkV,mkF,fz,fzL,fzo,dq,mkO,fnP,fnI,en0,outs,dZ,bK,obC,truth,bM]
 refine j4 (RgI J js h) ⟨[],h,[],a,b,none,none,none,none,none,none,none,none,none,rfl,by simp,by simp,by simp,ha⟩ ?_ ?_
 .rintro k d ρ hk ⟨ps,m0,mr,a1,b1,x5,x6,x7,x8,x9,x10,x11,x12,x13,rfl,hps,hpl,hml,s1⟩
  obtain ⟨hk8,rfl⟩:=pB hk
  have hk8:k < 8:=by simpa using hk8
  simp only [tgN,clean,aH,aF,Bool.and_self,if_true,aA,List.set_cons_succ,List.set_cons_zero]
  refine dG (fun ρ=>ρ=[some (tp a1 b1),some J,some (.str h),some (.lst .own (ps.map ptD)),some (.lst .own ((m0 :: mr).map D.str)),some (.int k),some (.lst .own ([]:List D)),x7,x8,x9,x10,x11,x12,x13]) (fun Q hQ=>?_) ?_
  .simp_arith [bM,-List.map_cons]
   exact hQ _ rfl
  rintro _ rfl
  refine dG (RsI J js h ps m0 mr a1 b1 (some (.int k)) x12 x13 js.length) (fun Q hQ=>?_) ?_
  .simp only [dF,itE,ak,aB,aq,List.getElem?_cons_succ,List.getElem?_cons_zero,hJ.v,aV,aA,hJ.s,Option.map_some,w_ite,if_true]
   refine j4 (RsI J js h ps m0 mr a1 b1 (some (.int k)) x12 x13) ⟨[],x7,x8,x9,x10,x11,rfl,by simp,by simp⟩ ?_ ?_
   .rintro i d ρ hi ⟨ts,y7,y8,y9,y10,y11,rfl,hts,htl⟩
    rw [ph,List.getElem?_map] at hi
    cases hj:js[i]? with
    | none=>simp [hj] at hi
    | some j=>
     obtain rfl:D.tup [.int (i:Int),jD j]=d:=by simpa [hj] using hi
     have hil:i < js.length:=(List.getElem?_eq_some_iff.mp hj).1
     simp [tgT,aJ,aU,tgN,aD,aG,clean,lB,lz,aH,aF,aA,-List.map_cons]
     simp [dF,itS,eAp,ak,eC,aB,e1,jt,bL,bC,clean,aH,aF,aD,aG,dq,fzo,aA,aV,-List.map_cons]
     refine j4 (RtI J js h ps m0 mr a1 b1 (some (.int k)) x12 x13 i j) ⟨ts,y9,y10,y11,rfl,hts,by omega⟩ ?_ ?_
     .clear hts htl ts
      rintro e d ρ he ⟨ts,z9,z10,z11,rfl,hts,htl⟩
      obtain ⟨s,hs,rfl⟩:∃ s:Int,pm s=true/\d = .int s:=by
       match e,he with
       | 0,he=>exact ⟨1,by decide,by simpa using he.symm⟩
       | 1,he=>exact ⟨-1,by decide,by simpa using he.symm⟩
      have he2:e < 2:=by simpa using (List.getElem?_eq_some_iff.mp he).1
      simp only [tgN,clean,aH,aF,Bool.and_self,if_true,aA,List.set_cons_succ,List.set_cons_zero]
      refine dG (fun ρ=>ρ=[some (tp a1 b1),some J,some (.str h),some (.lst .own (ps.map ptD)),some (.lst .own ((m0 :: mr).map D.str)),some (.int k),some (.lst .own (ts.map tD)),some (.int i),some (jD j),some (.int s),some (.str (ends j s).1),some (.str (ends j s).2),x12,x13]) (fun Q hQ=>?_) ?_
      .simp_arith [lW,jr,uw hs,-List.map_cons]
       exact hQ _ rfl
      rintro _ rfl
      obtain ⟨c1,hc1⟩:=Av (e:=(ends j s).2) (m:=.own) (l:=mr)
      obtain ⟨c2,hc2⟩:=notin_nums (n:=(i:Int)) (m:=.own) (l:=ps)
      have hla:∀ m,gIx (.lst m ((m0 :: mr).map D.str)) (.int (-1))=some (.str (lst m0 mr)):=fun m=>qj
      have hsl:∀ m,gSl (.lst m ((m0 :: mr).map D.str)) (some 1) none=some (.lst .own (mr.map D.str)):=fun m=>by
       simp [gSl,cutD,HT.sIx]
       exact List.take_of_length_le (by simp)
      have hstay:RtI J js h ps m0 mr a1 b1 (some (.int k)) x12 x13 i j (e + 1) [some (tp a1 b1),some J,some (.str h),some (.lst .own (ps.map ptD)),some (.lst .own ((m0 :: mr).map D.str)),some (.int k),some (.lst .own (ts.map tD)),some (.int i),some (jD j),some (.int s),some (.str (ends j s).1),some (.str (ends j s).2),x12,x13]:=⟨ts,_,_,_,rfl,hts,by omega⟩
      have hgo:RtI J js h ps m0 mr a1 b1 (some (.int k)) x12 x13 i j (e + 1) [some (tp a1 b1),some J,some (.str h),some (.lst .own (ps.map ptD)),some (.lst .own ((m0 :: mr).map D.str)),some (.int k),some (.lst .own (ts.map tD++[D.tup [.int i,.int s,.str (ends j s).2]])),some (.int i),some (jD j),some (.int s),some (.str (ends j s).1),some (.str (ends j s).2),x12,x13]:=⟨ts++[((i:Int),s,(ends j s).2)],_,_,_,by rw [List.map_append]; rfl,fun t ht=>by
       rcases List.mem_append.mp ht with z | z
       .exact hts t z
       .obtain rfl:t=((i:Int),s,(ends j s).2):=by simpa using z
        exact ⟨by show (0:Int)<=i; omega,by show (i:Int) < js.length; omega,hs⟩,by simp; omega⟩
      have htl2:ts.length < 1000000:=by omega
      simp_arith [bQ,jA,nJ,jt,hla,hsl,eqs,hc1,Bv,hc2,cA,bL,htl2,-List.map_cons]
      split
      .split
       .refine ⟨by omega,uP (Bv ps) ?_⟩
        rw [hc2,aA]
        simp only [aA]
        split
        .exact hgo
        .exact hstay
       .exact hstay
      .exact hstay
     .rintro ρ ⟨ts,z9,z10,z11,rfl,hts,htl⟩
      exact ⟨ts,_,_,_,_,_,rfl,hts,by simp at htl; omega⟩
   .rintro ρ hρ
    rw [o7,List.length_map] at hρ
    exact hQ _ hρ
  rintro _ ⟨ts,y7,y8,y9,y10,y11,rfl,hts,htl⟩
  have hlt:∀ m,dI [.lst m (ts.map tD)]=some (.int ts.length):=fun m=>by simp [dI]
  have h2:∀ t:Tt,gIx (tD t) (.int 2)=some (.str t.2.2):=fun _=>rfl
  have hs2:∀ t:Tt,gSl (tD t) none (some 2)=some (ptD (t.1,t.2.1)):=fun _=>rfl
  have hvt:∀ (b:Bool) (t:Tt),view b (tD t)=tD t:=fun _ _=>rfl
  have hct:∀ t:Tt,aH (tD t)=true/\aF (tD t)=true:=fun _=>⟨rfl,rfl⟩
  rw [sIf,aV]
  simp only [eB,e2,aq,eAp,aB,bM,List.getElem?_cons_succ,List.getElem?_cons_zero,view,yI,Option.bind_some,List.length_nil,Nat.zero_le,if_true,KD,isB,aA]
  by_cases hte:ts=[]
  .subst hte
   simp only [List.isEmpty_nil,Bool.not_true,Bool.false_eq_true,if_false,cg,aA]
   exact ⟨ps,m0,mr,a1,b1,_,_,_,_,_,_,_,_,_,rfl,hps,by omega,by omega,s1⟩
  .have htp:0 < ts.length:=List.length_pos_iff.mpr hte
   have hemp:ts.isEmpty=false:=by simpa using hte
   rw [hemp]
   simp only [Bool.not_false,if_true]
   refine dG (fun ρ=>∃ hs:List Tt,(∀ t∈hs,t∈ts)/\hs.length<=ts.length/\ρ=[some (tp a1 b1),some J,some (.str h),some (.lst .own (ps.map ptD)),some (.lst .own ((m0 :: mr).map D.str)),some (.int k),some (.lst .own (ts.map tD)),y7,y8,y9,y10,y11,some (.lst .own (hs.map tD)),x13]) (fun Q hQ=>?_) ?_
   .simp [bW,bH,itS,aq,view,yI,bC,OD,aV,aA,w_ite,cP,tgN,-List.map_cons]
    rw [if_pos (by omega)]
    have hcc:kh (tpN 0) (eB (e2 gEq (e2 gIx (aq false 0) (eC (.int 2))) (aq false 1))) (aq false 0) [none,some (.str h)] (ts.map tD)=some (((ts.map tD).filter fun d=>match d with | .tup [_,_,.str x]=>decide (x=h) | _=>false).map id):=by
     rw [jg (p:=fun d=>match d with | .tup [_,_,.str x]=>decide (x=h) | _=>false) (f:=id)]
     intro d hd
     obtain ⟨t,ht,rfl⟩:=List.mem_map.mp hd
     simp [tpN,aA,eB,e2,aq,hvt,eC,h2,eqs,isB,view]
     rfl
    refine uP hcc ?_
    have hf:((ts.map tD).filter fun d=>match d with | .tup [_,_,.str x]=>decide (x=h) | _=>false).map id=(ts.filter fun t=>decide (t.2.2=h)).map tD:=by
     rw [List.map_id,List.filter_map]
     rfl
    rw [hf]
    simp [clean,aH,aF,Hn,Gx,aA,-List.map_cons]
    exact hQ _ ⟨_,fun t ht=>(List.mem_filter.mp ht).1,List.length_filter_le _ _,rfl⟩
   rintro _ ⟨hs,hhs,hhn,rfl⟩
   refine dG (fun ρ=>∃ (t:Tt) (a' b':Int),t∈ts/\0<=a'/\ρ=[some (tp a' b'),some J,some (.str h),some (.lst .own (ps.map ptD)),some (.lst .own ((m0 :: mr).map D.str)),some (.int k),some (.lst .own (ts.map tD)),y7,y8,y9,y10,y11,some (.lst .own (hs.map tD)),some (tD t)]) (fun Q hQ=>?_) ?_
   .simp_arith [yI,hlt,Hn,Gx,-List.map_cons]
    refine eQ s1 (by omega) (by omega) fun r2 a2 b2 p2 q2 s2=>?_
    obtain ⟨t,ht,_,ht2⟩:=iV (f:=tD) (l:=ts) p2 q2
    simp_arith [kW,ht2,(hct t).1,(hct t).2,-List.map_cons]
    exact hQ _ ⟨t,_,_,ht,s2,rfl⟩
   rintro _ ⟨t,a2,b2,ht,s2,rfl⟩
   refine dG (fun ρ=>∃ (t:Tt) (a' b':Int),t∈ts/\0<=a'/\ρ=[some (tp a' b'),some J,some (.str h),some (.lst .own (ps.map ptD)),some (.lst .own ((m0 :: mr).map D.str)),some (.int k),some (.lst .own (ts.map tD)),y7,y8,y9,y10,y11,some (.lst .own (hs.map tD)),some (tD t)]) (fun Q hQ=>?_) ?_
   .simp_arith [yI,bM,KD,-List.map_cons]
    by_cases hhe:hs=[]
    .subst hhe
     simp
     exact hQ _ ⟨t,_,_,ht,s2,rfl⟩
    .have hhp:0 < hs.length:=List.length_pos_iff.mpr hhe
     have hhl:hs.length<=200:=by omega
     have hlh:∀ m,dI [.lst m (hs.map tD)]=some (.int hs.length):=fun m=>by simp [dI]
     simp [hhe,-List.map_cons]
     refine eQ s2 (by omega) (by omega) fun r3 a3 b3 p3 q3 s3=>?_
     simp_arith [eq_int,-List.map_cons]
     split
     .simp_arith [yI,hlh,Hn,Gx,-List.map_cons]
      refine eQ s3 (by omega) (by omega) fun r4 a4 b4 p4 q4 s4=>?_
      obtain ⟨t',ht',_,ht2⟩:=iV (f:=tD) (l:=hs) p4 q4
      simp_arith [kW,ht2,(hct t').1,(hct t').2,-List.map_cons]
      exact hQ _ ⟨t',_,_,hhs t' ht',s4,rfl⟩
     .exact hQ _ ⟨t,_,_,ht,s3,rfl⟩
   rintro _ ⟨t,a3,b3,ht,s3,rfl⟩
   have hg:=hts t ht
   have hpl2:ps.length < 1000000:=by omega
   have hml2:mr.length + 1 < 1000000:=by omega
   refine dG (fun ρ=>ρ=[some (tp a3 b3),some J,some (.str h),some (.lst .own ((ps++[(t.1,t.2.1)]).map ptD)),some (.lst .own ((m0 :: mr).map D.str)),some (.int k),some (.lst .own (ts.map tD)),y7,y8,y9,y10,y11,some (.lst .own (hs.map tD)),some (tD t)]) (fun Q hQ=>?_) ?_
   .simp_arith [hvt,hs2,cA,hpl2,-List.map_cons,-List.map_append]
    refine ⟨⟨rfl,rfl⟩,?_⟩
    rw [← List.map_singleton,← List.map_append]
    exact hQ _ rfl
   rintro _ rfl
   refine dG (fun ρ=>ρ=[some (tp a3 b3),some J,some (.str h),some (.lst .own ((ps++[(t.1,t.2.1)]).map ptD)),some (.lst .own ((m0 :: (mr++[t.2.2])).map D.str)),some (.int k),some (.lst .own (ts.map tD)),y7,y8,y9,y10,y11,some (.lst .own (hs.map tD)),some (tD t)]) (fun Q hQ=>?_) ?_
   .simp_arith [hvt,h2,cA,hml2,-List.map_cons,-List.map_append]
    have e:(m0 :: (mr++[t.2.2])).map D.str=(m0 :: mr).map D.str++[.str t.2.2]:=by simp
    rw [← e]
    exact hQ _ rfl
   rintro _ rfl
   have hps2:∀ p∈ps++[(t.1,t.2.1)],gdP js p:=fun p hp=>by
    rcases List.mem_append.mp hp with z | z
    .exact hps p z
    .obtain rfl:p=(t.1,t.2.1):=by simpa using z
     exact hg
   simp_arith [hvt,h2,eqs,-List.map_cons,-List.map_append]
   split
   .simp_arith [g8,jA,jC,jB,-List.map_cons,-List.map_append]
    exact ⟨_,_,_,rfl,hps2,by simp; omega,s3⟩
   .exact ⟨_,m0,mr++[t.2.2],_,_,_,_,_,_,_,_,_,_,_,rfl,hps2,by simp; omega,by simp; omega,s3⟩
 .rintro ρ ⟨ps,m0,mr,a1,b1,x5,x6,x7,x8,x9,x10,x11,x12,x13,rfl,hps,hpl,hml,s1⟩
  simp_arith [g8,jA,jC,jB]
  exact ⟨ps,a1,b1,rfl,hps,hpl,s1⟩
mutual
def tyB:D->Bool
 | .non=>true
 | .bl _=>true
 | .int _=>true
 | .str _=>true
 | .tup ds=>Ho ds
 | .lst m ds=>m == .frz && Ho ds
 | _=>false
def Ho:List D->Bool
 | []=>true
 | d :: r=>tyB d && Ho r
end
mutual
theorem Em:∀ {d:D},tyB d=true->Tyd d
 | .non,_=>.non
 | .bl b,_=>.bl b
 | .int i,_=>.int i
 | .str x,_=>.str x
 | .tup ds,h=>.tup (Ag (by simpa [tyB] using h))
 | .lst m ds,h=>by
  simp [tyB] at h
  obtain ⟨rfl,h⟩:=h
  exact .lst (Ag h)
 | .ty _,h=>by simp [tyB] at h
 | .dct _ _ _,h=>by simp [tyB] at h
 | .ins _ _ _ _,h=>by simp [tyB] at h
theorem Ag:∀ {ds:List D},Ho ds=true->∀ e∈ds,Tyd e
 | [],_,e,he=>by cases he
 | d :: r,h,e,he=>by
  simp [Ho] at h
  rcases List.mem_cons.mp he with z | z
  .rw [z]; exact Em h.1
  .exact Ag h.2 e z
end
theorem uK:∀ {ds:List D} {m:Nat},(∀ e∈ds,tz e<=m)->tzL ds<=ds.length * (m + 2)
 | [],m,_=>by simp [tzL]
 | d :: r,m,h=>by
  have h1:=h d (by simp)
  have h2:=uK (ds:=r) fun e he=>h e (by simp [he])
  rw [tzL,List.length_cons,Nat.succ_mul]
  omega
theorem uH:∀ {ds:List D} {m:Nat},(∀ e∈ds,dz e<=m)->dzL ds<=m
 | [],m,_=>by simp [dzL]
 | d :: r,m,h=>by
  have h1:=h d (by simp)
  have h2:=uH (ds:=r) fun e he=>h e (by simp [he])
  rw [dzL]
  omega
def eOk (d:D):Prop:=Tyd d/\tz d<=300/\dz d<=3
def Pap (d:D):Prop:=Tyd d/\tz d<=100000/\dz d<=10/\(kids d).length<=900
theorem qP {ds:List D} (h:∀ e∈ds,eOk e) (hl:ds.length<=50):Pap (.tup ds):=by
 have h1:=uK (ds:=ds) (m:=300) fun e he=>(h e he).2.1
 have h2:=uH (ds:=ds) (m:=3) fun e he=>(h e he).2.2
 have h3:ds.length * (300 + 2)<=50 * 302:=Nat.mul_le_mul_right _ hl
 exact ⟨.tup fun e he=>(h e he).1,by rw [tz]; omega,by rw [dz]; omega,by show ds.length<=900; omega⟩
theorem Br {ds:List D} (h:∀ e∈ds,eOk e) (hl:ds.length<=50):Pap (.lst .frz ds):=by
 have h1:=uK (ds:=ds) (m:=300) fun e he=>(h e he).2.1
 have h2:=uH (ds:=ds) (m:=3) fun e he=>(h e he).2.2
 have h3:ds.length * (300 + 2)<=50 * 302:=Nat.mul_le_mul_right _ hl
 exact ⟨.lst fun e he=>(h e he).1,by rw [tz]; omega,by rw [dz]; omega,by show ds.length<=900; omega⟩
theorem Ji {d:D} (h:Pap d) (hz:tz d<=50000) (hd:dz d<=9):Pap (.tup [d]):=⟨.tup fun e he=>by rw [List.mem_singleton.mp he]; exact h.1,by simp [tz,tzL]; omega,by simp [dz,dzL]; omega,by simp [kids]⟩
theorem Ku (p:Pt):Tyd (ptD p):=by
 refine .tup fun e he=>?_
 rcases List.mem_cons.mp he with z | z
 .rw [z]; exact .int _
 .rcases List.mem_cons.mp z with z | z
  .rw [z]; exact .int _
  .cases z
theorem Gb {p:Pt} (h1:p.1.natAbs<=200) (h2:p.2.natAbs<=3):eOk (ptD p):=⟨Ku p,by simp [ptD,tz,tzL]; omega,by simp [ptD,dz,dzL]⟩
def yC:List D:=[.non,.bl true,.bl false,.int 0,.int (-1),.int 7,.str "",.str "a",.str "nobody",.tup [],.lst .frz [],.tup [.int 0],.tup [.int 0,.int 1],.tup [.int 0,.int 2],.tup [.bl true,.int 1],.tup [.int 0,.bl true],.lst .frz [.int 0,.int 1],
 .tup [.int 0,.int 1,.int 1],.tup [.str "a",.int 0],.lst .frz [.str "a",.int 0],.tup [.tup [.str "a",.int 0]],.lst .frz [.lst .frz []],.tup [.str "a",.non],.tup [.non,.int 1],.tup [.str "0",.int 1]]
theorem LR:yC.all (fun d=>tyB d && decide (tz d<=300) && decide (dz d<=3))=true:=by decide +kernel
theorem nH {d:D} (h:d∈yC):eOk d:=by
 have:=List.all_eq_true.mp LR d h
 simp at this
 exact ⟨Em this.1.1,this.1.2,this.2⟩
def Od (q:D×List D):Prop:=∃ (d:D) (a' b':Int),q=(d,[tp a' b'])/\d∈yC/\0<=a'
theorem Er {a b:Int} (ha:0<=a):Wp (fV [tp a b]) Od:=by
 simp [fV,aA,bA,aV,cP,w_ite,cY,bW,aX,cJ,bw,sIf,eZ,sEx,bO,cu,dm,b_,cg,gP,gQ,dF,cH,sFz,cL,eV,cR,fZ,upS,tgN,tgT,aJ,aU,cN,tpN,tpT,d_,gK,aq,eC,aB,ak,eAp,eUp,fD,bc,ee2,ee1,aP,dJ,e2,e1,eB,eeB,eY,cM,fK,eOr,eX,cB,gG,cI,eE,vOr,gH,di,eTT,isB,dO,gJ,itS,itE,cQ,gf,bC,bH,bF,eSl,fX,fY,cG,bx,bf,eMt,bz,fW,gj,eIo,objs,bY,bj,eU,dW,clean,aH,aF,aD,aG,aM,aL,view,bI,mkV,mkF,fz,fzL,fzo,dq,mkO,fnP,fnI,en0,outs,dZ,bK,obC,truth,bM,bL,jt,dh,dI]
 refine eQ ha (by omega) (by omega) fun r a1 b1 p1 q1 s1=>?_
 obtain ⟨x,hx1,hx2⟩:=o5 (l:=yC) p1 (by show r < 25; exact q1)
 have hm:x∈yC:=List.mem_of_getElem? hx2
 obtain ⟨_,_,_,f4,f5,_⟩:=(nH hm).1.all
 refine uP (show gIx (.lst .frz yC) (.int r)=some x from hx1) ⟨⟨f4,f5⟩,?_⟩
 exact aA.mpr ⟨x,a1,b1,rfl,hm,s1⟩
def Bn (ps:List Pt) (th:D) (q:D×List D):Prop:=∃ (es:List D) (a' b':Int),q=(.lst .own es,[tp a' b',.lst .frz (ps.map ptD),th])/\(∀ e∈es,e∈ps.map ptD∨e=th)/\es.length<=ps.length + 1/\0<=a'
theorem Jm {ds:List D} {lo hi:Option Int}:∀ e∈cutD ds lo hi,e∈ds:=fun e he=>List.mem_of_mem_drop (List.mem_of_mem_take he)
theorem t8 {ds:List D} {lo hi:Option Int}:(cutD ds lo hi).length<=HT.sIx ds.length ds.length hi - HT.sIx ds.length 0 lo:=by
 unfold cutD
 rw [List.length_take]
 omega
theorem Mp {a b:Int} {ps:List Pt} {th:D} (ha:0<=a) (hl:ps.length<=45) (hth:Tyd th):Wp (ik [tp a b,.lst .frz (ps.map ptD),th]) (Bn ps th):=by
 obtain ⟨f1,f2,f3,f4,f5,f6⟩:=hth.all
 have hlp:∀ m,dI [.lst m (ps.map ptD)]=some (.int ps.length):=fun m=>by simp [dI]
 have slL:∀ (m:Mk) (l:List D) lo hi,gSl (.lst m l) lo hi=some (.lst .own (cutD l lo hi)):=fun _ _ _ _=>rfl
 have addL:∀ (x y:List D),x.length + y.length<=1000000->dh (.lst .own x) (.lst .own y)=some (.lst .own (x++y)):=fun x y h=>by simp [dh,h]
 have addI:∀ x y:Int,dh (.int x) (.int y)=some (.int (x + y)):=fun _ _=>rfl
 simp [ik,aA,bA,aV,cP,w_ite,cY,bW,aX,cJ,bw,sIf,eZ,sEx,bO,cu,dm,b_,cg,gP,gQ,dF,cH,sFz,cL,eV,cR,fZ,upS,tgN,tgT,aJ,aU,cN,tpN,tpT,d_,gK,aq,eC,aB,ak,eAp,eUp,fD,bc,ee2,ee1,aP,dJ,e2,e1,eB,eeB,eY,cM,fK,eOr,eX,cB,gG,cI,eE,vOr,gH,di,eTT,isB,dO,gJ,itS,itE,cQ,gf,bC,bH,bF,eSl,fX,fY,cG,bx,bf,eMt,bz,fW,gj,eIo,objs,bY,bj,eU,dW,clean,aH,aF,aD,aG,aM,aL,view,bI,mkV,mkF,fz,fzL,fzo,dq,mkO,fnP,fnI,en0,outs,dZ,bK,obC,truth,jA,hlp,addI]
 refine eQ ha (by omega) (by omega) fun r1 a1 b1 p1 q1 s1=>?_
 simp_arith [aA]
 refine eQ s1 (by omega) (by omega) fun r2 a2 b2 p2 q2 s2=>?_
 have hpl:(ps.map ptD).length=ps.length:=by simp
 have hsome:∀ k:Int,0<=k->k<=ps.length + 1->HT.sIx ps.length 0 (some k)=min k.toNat ps.length:=fun k h1 h2=>by
  simp only [HT.sIx]; rw [if_neg (by omega)]
 have hsome2:∀ k:Int,0<=k->k<=ps.length + 1->HT.sIx ps.length ps.length (some k)=min k.toNat ps.length:=fun k h1 h2=>by
  simp only [HT.sIx]; rw [if_neg (by omega)]
 have L1:(cutD (ps.map ptD) none (some r1)).length<=r1.toNat:=by
  have:=t8 (ds:=ps.map ptD) (lo:=none) (hi:=some r1)
  rw [hpl,hsome2 r1 p1 (by omega)] at this
  have h0:HT.sIx ps.length 0 none=0:=rfl
  omega
 have L2:(cutD (ps.map ptD) (some (r1 + 1)) none).length<=ps.length - min (r1 + 1).toNat ps.length:=by
  have:=t8 (ds:=ps.map ptD) (lo:=some (r1 + 1)) (hi:=none)
  rw [hpl,hsome (r1 + 1) (by omega) (by omega)] at this
  exact this
 have L3:(cutD (ps.map ptD) (some r1) none).length<=ps.length - min r1.toNat ps.length:=by
  have:=t8 (ds:=ps.map ptD) (lo:=some r1) (hi:=none)
  rw [hpl,hsome r1 (by omega) (by omega)] at this
  exact this
 have L4:(cutD (ps.map ptD) (some r1) (some (r1 + 1))).length<=1:=by
  have:=t8 (ds:=ps.map ptD) (lo:=some r1) (hi:=some (r1 + 1))
  rw [hpl,hsome r1 (by omega) (by omega),hsome2 (r1 + 1) (by omega) (by omega)] at this
  omega
 have fin:∀ es:List D,(∀ e∈es,e∈ps.map ptD∨e=th)->es.length<=ps.length + 1->(aD es=true/\aG es=true)/\Bn ps th (.lst .own es,[tp a2 b2,.lst .frz (ps.map ptD),th]):=fun es h1 h2=>by
  have hty:∀ e∈es,Tyd e:=fun e he=>(h1 e he).elim (fun z=>by obtain ⟨p,_,rfl⟩:=List.mem_map.mp z; exact Ku p) fun z=>by rw [z]; exact hth
  obtain ⟨_,_,_,g4,g5⟩:=Tyd.ofL hty
  exact ⟨⟨g4,g5⟩,es,a2,b2,rfl,h1,h2,s2⟩
 have mem:∀ (lo hi:Option Int) (e:D),e∈cutD (ps.map ptD) lo hi->e∈ps.map ptD∨e=th:=fun lo hi e he=>.inl (Jm e he)
 simp_arith [eq_int,jA,f3,slL,addI,bM]
 have fin2:∀ es:List D,(∀ e∈es,e∈ps.map ptD∨e=th)->es.length<=ps.length + 1->(aH (.lst .own es)=true/\aF (.lst .own es)=true)/\Bn ps th (.lst .own es,[tp a2 b2,.lst .frz (ps.map ptD),th]):=fun es h1 h2=>by
  obtain ⟨⟨g1,g2⟩,g3⟩:=fin es h1 h2
  exact ⟨⟨by simp [aH,g1],by simp [aF,g2]⟩,g3⟩
 split
 .rw [addL _ _ (by omega),aA]
  exact fin2 _ (fun e he=>(List.mem_append.mp he).elim (mem _ _ e) (mem _ _ e)) (by rw [List.length_append]; omega)
 .split
  .rw [addL _ _ (by omega),aA,addL _ _ (by rw [List.length_append]; omega),aA]
   exact fin2 _ (fun e he=>(List.mem_append.mp he).elim (fun he=>(List.mem_append.mp he).elim (mem _ _ e) (mem _ _ e)) (mem _ _ e)) (by rw [List.length_append,List.length_append]; omega)
  .split
   .rw [addL _ _ (by simp; omega),aA,addL _ _ (by rw [List.length_append]; simp; omega),aA]
    exact fin2 _ (fun e he=>(List.mem_append.mp he).elim (fun he=>(List.mem_append.mp he).elim (mem _ _ e) (fun z=>.inr (by simpa using z))) (mem _ _ e)) (by rw [List.length_append,List.length_append]; simp; omega)
   .rw [addL _ _ (by simp; omega),aA,addL _ _ (by rw [List.length_append]; simp; omega),aA]
    exact fin2 _ (fun e he=>(List.mem_append.mp he).elim (fun he=>(List.mem_append.mp he).elim (mem _ _ e) (fun z=>.inr (by simpa using z))) (mem _ _ e)) (by rw [List.length_append,List.length_append]; simp; omega)
def ng (ps:List Pt):List Pt:=ps.map fun p=>(p.1,-p.2)
theorem PB (ps:List Pt):kh (tpT 2 (aJ (tpN 0) (aJ (tpN 1) aU))) eTT (eAp bL (ak (aq false 0) (ak (e1 jt (aq false 1)) aB))) [none,none] (ps.map ptD)=some ((ng ps).map ptD):=by
 rw [jg (p:=fun _=>true) (f:=fun d=>match d with | .tup [.int a,.int b]=>.tup [.int a,.int (-b)] | _=>.non)]
 .rw [filter_tt,List.map_map,ng,List.map_map]
  rfl
 .intro d hd
  obtain ⟨p,hp,rfl⟩:=List.mem_map.mp hd
  simp [ptD,aA,bA,aV,cP,w_ite,cY,bW,aX,cJ,bw,sIf,eZ,sEx,bO,cu,dm,b_,cg,gP,gQ,dF,cH,sFz,cL,eV,cR,fZ,upS,tgN,tgT,aJ,aU,cN,tpN,tpT,d_,gK,aq,eC,aB,ak,eAp,eUp,fD,bc,ee2,ee1,aP,dJ,e2,e1,eB,eeB,eY,cM,fK,eOr,eX,cB,gG,cI,eE,vOr,gH,di,eTT,isB,dO,gJ,itS,itE,cQ,gf,bC,bH,bF,eSl,fX,fY,cG,bx,bf,eMt,bz,fW,gj,eIo,objs,bY,bj,eU,dW,clean,aH,aF,aD,aG,aM,aL,view,bI,mkV,mkF,fz,fzL,fzo,dq,mkO,fnP,fnI,en0,outs,dZ,bK,obC,truth,jt,bL]
theorem QJ (ps:List Pt):kh (tpN 0) eTT (eAp nM (ak (aq false 0) aB)) [none] (ps.map ptD)=some (ps.map fun p=>.lst .own [.int p.1,.int p.2]):=by
 rw [jg (p:=fun _=>true) (f:=fun d=>match d with | .tup ds=>.lst .own ds | _=>.non)]
 .rw [filter_tt,List.map_map]
  rfl
 .intro d hd
  obtain ⟨p,hp,rfl⟩:=List.mem_map.mp hd
  simp [ptD,aA,bA,aV,cP,w_ite,cY,bW,aX,cJ,bw,sIf,eZ,sEx,bO,cu,dm,b_,cg,gP,gQ,dF,cH,sFz,cL,eV,cR,fZ,upS,tgN,tgT,aJ,aU,cN,tpN,tpT,d_,gK,aq,eC,aB,ak,eAp,eUp,fD,bc,ee2,ee1,aP,dJ,e2,e1,eB,eeB,eY,cM,fK,eOr,eX,cB,gG,cI,eE,vOr,gH,di,eTT,isB,dO,gJ,itS,itE,cQ,gf,bC,bH,bF,eSl,fX,fY,cG,bx,bf,eMt,bz,fW,gj,eIo,objs,bY,bj,eU,dW,clean,aH,aF,aD,aG,aM,aL,view,bI,mkV,mkF,fz,fzL,fzo,dq,mkO,fnP,fnI,en0,outs,dZ,bK,obC,truth,nM]
def smP (p:Pt):Prop:=p.1.natAbs<=200/\p.2.natAbs<=3
theorem eP {ps:List Pt} (h:∀ p∈ps,smP p):∀ e∈ps.map ptD,eOk e:=fun e he=>by
 obtain ⟨p,hp,rfl⟩:=List.mem_map.mp he
 exact Gb (h p hp).1 (h p hp).2
def pI (d:D):Prop:=Pap (fz d)/\aH d=true/\aF d=true
theorem GZ {d:D} (h:Pap d):pI d:=by
 obtain ⟨f1,f2,f3,f4,f5,f6⟩:=h.1.all
 exact ⟨by rw [f1]; exact h,f4,f5⟩
theorem KH {ps:List Pt} (h:∀ p∈ps,smP p):∀ p∈ng ps,smP p:=fun p hp=>by
 obtain ⟨q,hq,rfl⟩:=List.mem_map.mp hp
 exact ⟨(h q hq).1,by have:=(h q hq).2; simp; exact this⟩
theorem Hx:yC.all (fun d=>decide ((kids d).length<=900))=true:=by decide +kernel
theorem JM {d:D} (h:d∈yC):Pap d:=by
 obtain ⟨h1,h2,h3⟩:=nH h
 have:=List.all_eq_true.mp Hx d h
 exact ⟨h1,by omega,by omega,by simpa using this⟩
def lpD (p:Pt):D:=.lst .own [.int p.1,.int p.2]
theorem Qj {p:Pt} (h:smP p):eOk (fzo (lpD p)):=by
 have e:fzo (lpD p) = .lst .frz [.int p.1,.int p.2]:=rfl
 rw [e]
 refine ⟨Em rfl,?_,by simp [dz,dzL]⟩
 simp [tz,tzL]
 have h1:=h.1
 have h2:=h.2
 omega
def PpI (J:D) (ps:List Pt) (k:Nat) (ρ:En):Prop:=∃ (items:List D) (a' b':Int) (x4 x5:Option D),ρ=[some (tp a' b'),some J,some (.tup (ps.map ptD)),some (.lst .own items),x4,x5]/\(∀ d∈items,pI d)/\items.length<=7 + k/\0<=a'
def Pp (J:D) (ps:List Pt) (q:D×List D):Prop:=∃ (items:List D) (a' b':Int),q=(.lst .own items,[tp a' b',J,.tup (ps.map ptD)])/\(∀ d∈items,Pap (fzo d)/\aH d=true/\aF d=true)/\0<=a'
theorem HF {a b:Int} {J:D} {js:List Jt} {ps:List Pt} (ha:0<=a) (hJ:JJ J js) (hjl:js.length<=100) (hp:∀ p∈ps,smP p) (hl:ps.length<=10):Wp (gh [tp a b,J,.tup (ps.map ptD)]) (Pp J ps):=by
 have stepR:lU (.tup (ps.map ptD)) (.int (-1))=some (.tup (ps.reverse.map ptD)):=by simp [lU]
 have addT:dh (.tup (ps.map ptD)) (.tup (ps.map ptD))=some (.tup ((ps++ps).map ptD)):=by simp [dh]; omega
 have hpr:∀ p∈ps.reverse,smP p:=fun p h=>hp p (List.mem_reverse.mp h)
 simp only [gh,fnI,en0,List.length_cons,List.length_nil,List.map_cons,List.map_nil,List.replicate,if_true,aV,Nat.reduceAdd,Nat.reduceSub,List.cons_append,List.nil_append]
 refine dG (fun ρ=>ρ=[some (tp a b),some J,some (.tup (ps.map ptD)),some (.lst .own [.tup (ps.map ptD),.lst .own (ps.map ptD),.tup ((ps++ps).map ptD),.tup (ps.reverse.map ptD),.tup ((ng ps.reverse).map ptD),.tup []]),none,none]) (fun Q hQ=>?_) ?_
 .simp_arith [jA,nM,jt,stepR,addT,nJ,jC,jB,-List.map_reverse,-List.map_append]
  refine ⟨by omega,uP (PB ps.reverse) ?_⟩
  simp [g8,bL,bM,aA,aH,aF,aD,aG,jC,jB,-List.map_reverse,-List.map_append]
  exact hQ _ rfl
 rintro _ rfl
 refine dG (fun ρ=>∃ items:List D,(∀ d∈items,pI d)/\items.length<=7/\ρ=[some (tp a b),some J,some (.tup (ps.map ptD)),some (.lst .own items),none,none]) (fun Q hQ=>?_) ?_
 .simp_arith [jA,nJ,jC,jB,-List.map_reverse,-List.map_append]
  refine ⟨by omega,uP (PB ps) ?_⟩
  simp [g8,cA,aA,aH,aF,jC,jB,-List.map_reverse,-List.map_append]
  refine hQ _ ⟨_,?_,?_,rfl⟩
  .intro d hd
   simp only [List.mem_append,List.mem_cons,List.not_mem_nil,or_false] at hd
   have h1:∀ qs:List Pt,(∀ p∈qs,smP p)->qs.length<=50->pI (.tup (qs.map ptD)):=fun qs h hl=>GZ (qP (eP h) (by simpa using hl))
   rcases hd with rfl | rfl | rfl | rfl | rfl | rfl | rfl
   .exact h1 ps hp (by omega)
   .refine ⟨?_,by simp [aH,jC],by simp [aF,jB]⟩
    rw [fz,qM]
    exact Br (eP hp) (by simp; omega)
   .exact h1 (ps++ps) (fun p h=>(List.mem_append.mp h).elim (hp p) (hp p)) (by simp; omega)
   .exact h1 ps.reverse hpr (by simp; omega)
   .exact h1 (ng ps.reverse) (KH hpr) (by simp [ng]; omega)
   .exact GZ (qP (ds:=[]) (by simp) (by simp))
   .exact h1 (ng ps) (KH hp) (by simp [ng]; omega)
  .simp
 rintro _ ⟨items0,hi0,hil0,rfl⟩
 refine dG (PpI J ps 6) (fun Q hQ=>?_) ?_
 .simp [dF,dO,ak,eC,aB,aV,aA,w_ite,bA]
  refine j4 (PpI J ps) ⟨items0,a,b,none,none,rfl,hi0,by omega,ha⟩ ?_ (fun ρ h=>hQ _ (by rw [nA] at h; exact h))
  rintro k d ρ hk ⟨items,a1,b1,x4,x5,rfl,hit,hil,s1⟩
  obtain ⟨hk6,rfl⟩:=pB hk
  have hk6:k < 6:=by simpa using hk6
  simp only [tgN,clean,aH,aF,Bool.and_self,if_true,aA,List.set_cons_succ,List.set_cons_zero]
  refine dG (fun ρ=>∃ (th:D) (a' b':Int),eOk th/\0<=a'/\ρ=[some (tp a' b'),some J,some (.tup (ps.map ptD)),some (.lst .own items),some (.int k),some th]) (fun Q hQ=>?_) ?_
  .simp_arith [aA]
   refine Wp.mono (Er s1) ?_
   rintro _ ⟨th,a2,b2,rfl,hth,s2⟩
   obtain ⟨_,_,_,f4,f5,_⟩:=(nH hth).1.all
   simp_arith [f4,f5]
   exact hQ _ ⟨th,_,_,nH hth,s2,rfl⟩
  rintro _ ⟨th,a2,b2,hth,s2,rfl⟩
  refine dG (fun ρ=>∃ (th:D) (a' b':Int),eOk th/\0<=a'/\ρ=[some (tp a' b'),some J,some (.tup (ps.map ptD)),some (.lst .own items),some (.int k),some th]) (fun Q hQ=>?_) ?_
  .simp_arith [aA]
   refine eQ s2 (by omega) (by omega) fun r3 a3 b3 p3 q3 s3=>?_
   simp_arith [eq_int]
   split
   .have addI:∀ x y:Int,dh (.int x) (.int y)=some (.int (x + y)):=fun _ _=>rfl
    simp_arith [hJ.v,hJ.l,addI]
    refine eQ s3 (by omega) (by omega) fun r4 a4 b4 p4 q4 s4=>?_
    simp_arith [lA,bM,jt]
    refine eQ s4 (by omega) (by omega) fun r5 a5 b5 p5 q5 s5=>?_
    have hr:r5=0∨r5=1∨r5=2∨r5=3:=by omega
    rcases hr with rfl | rfl | rfl | rfl <;> simp_arith [gIx,atI,ixN,bL] <;> exact hQ _ ⟨ptD (r4 - 1,_),_,_,Gb (by show (r4 - 1).natAbs<=200; omega) (by simp),s5,rfl⟩
   .exact hQ _ ⟨th,_,_,hth,s3,rfl⟩
  rintro _ ⟨th',a3,b3,hth',s3,rfl⟩
  obtain ⟨f1,f2,f3,f4,f5,_⟩:=hth'.1.all
  simp_arith [jA,nM,f3,qM,jC,jB,f1,f4,f5]
  refine Wp.mono (Mp s3 (by omega) hth'.1) ?_
  rintro _ ⟨es,a4,b4,rfl,hes,hel,s4⟩
  have hee:∀ e∈es,eOk e:=fun e he=>(hes e he).elim (eP hp e) fun z=>by rw [z]; exact hth'
  obtain ⟨g1,g2,g3,g4,g5⟩:=Tyd.ofL fun e he=>(hee e he).1
  have hil2:items.length < 1000000:=by omega
  simp_arith [g8,cA,g4,g5,hil2]
  refine ⟨items++[.tup es],_,_,_,_,rfl,fun d hd=>?_,by simp; omega,s4⟩
  rcases List.mem_append.mp hd with z | z
  .exact hit d z
  .obtain rfl:d = .tup es:=by simpa using z
   exact GZ (qP hee (by omega))
 rintro _ ⟨items,a1,b1,x4,x5,rfl,hit,hil,s1⟩
 have hb1:aD items=true:=fQ fun d hd=>(hit d hd).2.1
 have hb2:aG items=true:=e_ fun d hd=>(hit d hd).2.2
 have htf:∀ e∈fzL items,Pap e:=fun e he=>by
  rw [j6] at he
  obtain ⟨d,hd,rfl⟩:=List.mem_map.mp he
  exact (hit d hd).1
 obtain ⟨g1,g2,g3,g4,g5⟩:=Tyd.ofL fun e he=>(htf e he).1
 have hfl:(fzL items).length=items.length:=by rw [j6,List.length_map]
 simp_arith [hb1,hb2,g3,jA,nJ]
 refine Wp.mono (Er s1) ?_
 rintro _ ⟨d1,a2,b2,rfl,hd1,s2⟩
 obtain ⟨e1,e2',e3,e4,e5,_⟩:=(nH hd1).1.all
 simp_arith [e4,e5]
 refine Wp.mono (Er s2) ?_
 rintro _ ⟨d2,a3,b3,rfl,hd2,s3⟩
 obtain ⟨k1,k2,k3,k4,k5,_⟩:=(nH hd2).1.all
 simp_arith [k4,k5,bL,jA,nJ]
 refine ⟨by omega,uP (QJ ps) ?_⟩
 have hY:bM [d1,.tup [d2],.lst .own (ps.map fun p=>.lst .own [.int p.1,.int p.2]),.tup [.tup (ps.map ptD)]]=some (.lst .own [d1,.tup [d2],.lst .own (ps.map lpD),.tup [.tup (ps.map ptD)]]):=rfl
 rw [hY,aA]
 have addF:dh (.lst .frz (fzL items)) (.lst .own [d1,.tup [d2],.lst .own (ps.map lpD),.tup [.tup (ps.map ptD)]])=some (.lst .own (fzL items++[d1,.tup [d2],.lst .own (ps.map lpD),.tup [.tup (ps.map ptD)]])):=by
  simp [dh,hfl]
  omega
 rw [addF,aA]
 have nbl:aD (ps.map lpD)=true:=fQ fun d hd=>by obtain ⟨x,_,rfl⟩:=List.mem_map.mp hd; rfl
 have nol:aG (ps.map lpD)=true:=e_ fun d hd=>by obtain ⟨x,_,rfl⟩:=List.mem_map.mp hd; rfl
 have all:∀ d∈fzL items++[d1,.tup [d2],.lst .own (ps.map lpD),.tup [.tup (ps.map ptD)]],Pap (fzo d)/\aH d=true/\aF d=true:=fun d hd=>by
  have ofP:∀ {d:D},Pap d->Pap (fzo d)/\aH d=true/\aF d=true:=fun {d} h=>by
   obtain ⟨f1,f2,f3,f4,f5,f6⟩:=h.1.all
   exact ⟨by rw [f2]; exact h,f4,f5⟩
  rcases List.mem_append.mp hd with z | z
  .exact ofP (htf d z)
  .simp only [List.mem_cons,List.not_mem_nil,or_false] at z
   rcases z with rfl | rfl | rfl | rfl
   .exact ofP (JM hd1)
   .exact ofP (qP (fun e he=>by rw [List.mem_singleton.mp he]; exact nH hd2) (by simp))
   .refine ⟨?_,by simp [aH,nbl],by simp [aF,nol]⟩
    rw [fzo,jF,List.map_map]
    exact Br (fun e he=>by
     obtain ⟨p,hpm,rfl⟩:=List.mem_map.mp he
     exact Qj (hp p hpm)) (by simp; omega)
   .have hr:=qP (eP hp) (by simp; omega)
    refine ofP (Ji hr ?_ ?_)
    .have h1:=uK (ds:=ps.map ptD) (m:=300) fun e he=>(eP hp e he).2.1
     have h3:(ps.map ptD).length * (300 + 2)<=50 * 302:=Nat.mul_le_mul_right _ (by simp; omega)
     rw [tz]; omega
    .have h2:=uH (ds:=ps.map ptD) (m:=3) fun e he=>(eP hp e he).2.2
     rw [dz]; omega
 have c1:=fQ fun d hd=>(all d hd).2.1
 have c2:=e_ fun d hd=>(all d hd).2.2
 exact ⟨g5,⟨⟨by simp only [aH]; rw [c1]; rfl,by simp only [aF]; rw [c2]; rfl⟩,_,a3,b3,rfl,all,s3⟩⟩
theorem BL {h:Str} {ns:List Str} (hm:h∈ns):∃ vs,oh (ns.map D.str)=some vs/\inV (.str h) vs=true:=by
 have:∀ ns:List Str,oh (ns.map D.str)=some (ns.map V.str):=by
  intro ns
  induction ns with
  | nil=>rfl
  | cons x r ih=>simp [oh,scV,ih]
 refine ⟨_,this ns,?_⟩
 unfold inV
 rw [List.any_eq_true]
 exact ⟨.str h,List.mem_map.mpr ⟨h,hm,rfl⟩,by simp [eqV]⟩
theorem NN.lst {h:Str} {ns:List Str} (hm:h∈ns):NN (.lst .frz (ns.map D.str)) h:=⟨by simp [fz,du,mkF],fun b=>by cases b <;> simp [view,bQ,mkV],by simp [aH,cC],by simp [aF,cz],by
 obtain ⟨vs,h1,h2⟩:=BL hm
 simp [jL,tu,scV,h1,h2]⟩
theorem NN.tup {h:Str} {ns:List Str} (hm:h∈ns):NN (.tup (ns.map D.str)) h:=⟨by simp [fz,du],fun b=>by simp [view,bQ],by simp [aH,cC],by simp [aF,cz],by
 obtain ⟨vs,h1,h2⟩:=BL hm
 simp [jL,tu,scV,h1,h2]⟩
theorem zP {N J:D} {js:List Jt} {t:Int} {h:Str} {d:D} (hN:NN N h) (hJ:JJ J js) (ht:0<=t/\t<=1000) (hd:Pap d):dD [N,J,.int t,.str h,d]=some (.bl true):=by
 obtain ⟨_,_,_,_,_,h6⟩:=hd.1.all
 obtain ⟨x,hx⟩:=Om h6 (by have:=hd.2.1; omega) (by have:=hd.2.2.1; omega)
 exact Oc hN hJ ht hd.1 hd.2.2.2 hx
theorem JP:("abcdefghijklmnopqrstuvwxyz" : Str).cps.toList.length=26:=by decide +kernel
theorem K_:("abcdefghijklmnopqrstuvwxyz" : Str).length<=sizeLine:=by decide +kernel
def one (n:Nat):Str:=⟨#[n]⟩
def nmK (k:Int):Str:=("q" ++ one ((("abcdefghijklmnopqrstuvwxyz" : Str).cps.toList[((7 * k) % 26).toNat]?).getD 0))++one ((("abcdefghijklmnopqrstuvwxyz" : Str).cps.toList[(k / 26).toNat]?).getD 0)
theorem wW (n:Nat):(one n).length=1:=rfl
theorem Gm {i:Int} (h0:0<=i) (h1:i < 26):gIx (.str ("abcdefghijklmnopqrstuvwxyz" : Str)) (.int i)=some (.str (one ((("abcdefghijklmnopqrstuvwxyz" : Str).cps.toList[i.toNat]?).getD 0))):=by
 obtain ⟨x,hx1,hx2⟩:=o5 (l:=("abcdefghijklmnopqrstuvwxyz" : Str).cps.toList) (i:=i) h0 (by rw [JP]; exact h1)
 simp only [gIx]
 rw [if_pos K_,hx1,hx2]
 rfl
theorem Qx {n:Nat} (hn:n<=41):kh (tpN 0) eTT (e2 dh (e2 dh (eC (.str "q")) (e2 gIx (aq false 1) (e2 lF (e2 jE (eC (.int 7)) (aq false 0)) (eC (.int 26))))) (e2 gIx (aq false 1) (e2 nP (aq false 0) (eC (.int 26))))) [none,some (.str ("abcdefghijklmnopqrstuvwxyz" : Str))] (j9 0 n)=some (((List.range n).map fun (k:Nat)=>nmK k).map D.str):=by
 rw [jg (p:=fun _=>true) (f:=fun d=>match d with | .int k=>.str (nmK k) | _=>.non)]
 .rw [filter_tt,Ce,List.map_map]
  rfl
 .intro d hd
  obtain ⟨k,hk,rfl⟩:=BP hd
  have hq:(Str.ofString "q").length=1:=by decide
  have hs:(3:Nat)<=sizeLine:=by decide
  have l1:∀ c,(Str.ofString "q").length + (one c).length<=sizeLine:=fun c=>by rw [hq,wW]; omega
  have l2:∀ c c',((Str.ofString "q")++one c).length + (one c').length<=sizeLine:=fun c c'=>by rw [Str.length_append,hq,wW,wW]; omega
  simp [tpN,aA,eTT,e2,eC,aq,view,jE,lF,nP,Gm (i:=7 * (k:Int) % 26) (by omega) (by omega),Gm (i:=(k:Int) / 26) (by omega) (by omega),dh,l1,l2,nmK]
theorem QD {f:En->Option (List D)} {ρ:En} {j:Int} (h:f ρ=some [.int j]) (h1 : -(2 ^ 62)<=j) (h2:j < 2 ^ 62):dO f ρ=some (true,j9 0 j.toNat):=by
 unfold dO
 rw [h]
 simp only [Option.bind_some]
 rw [if_pos ⟨h1,h2⟩]
theorem zZ {f:En->Option (List D)} {ρ:En} {n:Nat} (h:f ρ=some [.int n]) (hn:n<=100):dO f ρ=some (true,j9 0 n):=by
 have h1:(n:Int)<=100:=by omega
 have:=QD h (Int.le_trans (by decide) (Int.natCast_nonneg n)) (Int.lt_of_le_of_lt h1 (by decide))
 rw [Int.toNat_natCast] at this
 exact this
def LrI (t:Int) (ns:List Str) (n:Nat) (k:Nat) (ρ:En):Prop:=∃ (js:List Jt) (ps:List Pt) (a' b':Int) (x7 x8 x9 x10:Option D),ρ=[some (tp a' b'),some (.int t),some (.str ("abcdefghijklmnopqrstuvwxyz" : Str)),some (.int n),some (.lst .own (ns.map D.str)),some (.lst .own (js.map jD)),some (.lst .own (ps.map ptD)),x7,x8,x9,x10,none,none,none,none]/\js.length=k/\ps.length=k/\(∀ p∈ps,0<=p.1/\p.1 < 41/\pm p.2=true)/\0<=a'
def Lr (t:Int) (q:D×List D):Prop:=∃ (a' b':Int),q=(.bl true,[tp a' b',.int t])/\0<=a'
theorem Cq {qs:List Pt} (h:∀ p∈qs,smP p) (hl:qs.length<=90):Pap (.tup (qs.map ptD)):=by
 have h1:=uK (ds:=qs.map ptD) (m:=300) fun e he=>(eP h e he).2.1
 have h2:=uH (ds:=qs.map ptD) (m:=3) fun e he=>(eP h e he).2.2
 have h3:(qs.map ptD).length * (300 + 2)<=90 * 302:=Nat.mul_le_mul_right _ (by simpa using hl)
 exact ⟨.tup fun e he=>(eP h e he).1,by rw [tz]; omega,by rw [dz]; omega,by show (qs.map ptD).length<=900; simp; omega⟩
def LpI (t:Int) (ns:List Str) (n:Nat) (js:List Jt) (a' b':Int) (k:Nat) (ρ:En):Prop:=∃ (x6 x7 x8 x9 x10 x11 x12 x13 x14:Option D),ρ=[some (tp a' b'),some (.int t),some (.str ("abcdefghijklmnopqrstuvwxyz" : Str)),some (.int n),some (.lst .own (ns.map D.str)),some (.lst .own (js.map jD)),x6,x7,x8,x9,x10,x11,x12,x13,x14]
def qz (ps:List Pt) (lo hi:Option Int):List Pt:=(ps.drop (HT.sIx ps.length 0 lo)).take (HT.sIx ps.length ps.length hi - HT.sIx ps.length 0 lo)
theorem JX (ps:List Pt) (lo hi:Option Int):cutD (ps.map ptD) lo hi=(qz ps lo hi).map ptD:=by
 unfold cutD qz
 rw [List.length_map,List.map_take,List.map_drop]
theorem mX {ps:List Pt} {lo hi:Option Int}:∀ p∈qz ps lo hi,p∈ps:=fun p h=>List.mem_of_mem_drop (List.mem_of_mem_take h)
theorem Ha {ps:List Pt} {lo hi:Option Int}:(qz ps lo hi).length<=ps.length:=by
 unfold qz
 rw [List.length_take,List.length_drop]
 omega
theorem Li {a b t:Int} (ha:0<=a) (ht:0<=t/\t<=1000):Wp (dR [tp a b,.int t]) (Lr t):=by
 have addI:∀ x y:Int,dh (.int x) (.int y)=some (.int (x + y)):=fun _ _=>rfl
 simp only [dR,fnI,en0,List.length_cons,List.length_nil,List.map_cons,List.map_nil,List.replicate,if_true,aV,Nat.reduceAdd,Nat.reduceSub,List.cons_append,List.nil_append]
 refine dG (fun ρ=>∃ (n:Nat) (a' b':Int),20<=n/\n<=40/\0<=a'/\ρ=[some (tp a' b'),some (.int t),some (.str ("abcdefghijklmnopqrstuvwxyz" : Str)),some (.int n),none,none,none,none,none,none,none,none,none,none,none]) (fun Q hQ=>?_) ?_
 .simp_arith [aA]
  refine eQ ha (by omega) (by omega) fun r1 a1 b1 p1 q1 s1=>?_
  simp_arith [addI,bL]
  exact hQ _ ⟨(20 + r1).toNat,a1,b1,by omega,by omega,s1,by rw [Int.toNat_of_nonneg (by omega)]⟩
 rintro _ ⟨n,a1,b1,n0,n1,s1,rfl⟩
 refine dG (fun ρ=>∃ ns:List Str,ns.length=n/\ρ=[some (tp a1 b1),some (.int t),some (.str ("abcdefghijklmnopqrstuvwxyz" : Str)),some (.int n),some (.lst .own (ns.map D.str)),none,none,none,none,none,none,none,none,none,none]) (fun Q hQ=>?_) ?_
 .have hit:dO (ak (aq false 3) aB) [some (tp a1 b1),some (.int t),some (.str ("abcdefghijklmnopqrstuvwxyz" : Str)),some (.int n),none,none,none,none,none,none,none,none,none,none,none]=some (true,j9 0 n):=by
   refine zZ ?_ (by omega)
   simp only [ak,aq,aB,List.getElem?_cons_succ,List.getElem?_cons_zero,view,Option.bind_some]
  have hc:=Qx (n:=n) (by omega)
  have hlen:((List.range n).map fun (k:Nat)=>nmK k).length=n:=by rw [List.length_map,List.length_range]
  generalize (List.range n).map (fun (k:Nat)=>nmK k)=ns0 at hc hlen
  simp only [bW,bH,hit,aV,aA,cP]
  rw [w_ite,if_pos (by rw [nA]; omega),cP]
  refine uP hc ?_
  simp only [tgN,w_ite,clean,aH,aF,cC,cz,aA]
  exact hQ _ ⟨ns0,hlen,rfl⟩
 rintro _ ⟨ns,hnl,rfl⟩
 refine dG (LrI t ns n 0) (fun Q hQ=>?_) ?_
 .simp_arith [bM]
  exact hQ _ ⟨[],[],a1,b1,none,none,none,none,rfl,rfl,rfl,by simp,s1⟩
 rintro ρ0 hρ0
 refine dG (LrI t ns n n) (fun Q hQ=>?_) ?_
 .obtain ⟨js0,ps0,a2,b2,y7,y8,y9,y10,rfl,hj0,hp0,hg0,s2⟩:=hρ0
  have hit:∀ {x5 x6 x7 x8 x9 x10 x11 x12 x13 x14 x4:Option D},dO (ak (aq false 3) aB) [some (tp a2 b2),some (.int t),some (.str ("abcdefghijklmnopqrstuvwxyz" : Str)),some (.int n),x4,x5,x6,x7,x8,x9,x10,x11,x12,x13,x14]=some (true,j9 0 n):=fun {_ _ _ _ _ _ _ _ _ _ _}=>by
   refine zZ ?_ (by omega)
   simp only [ak,aq,aB,List.getElem?_cons_succ,List.getElem?_cons_zero,view,Option.bind_some]
  simp only [dF,hit,aV,aA,w_ite,if_true]
  refine j4 (LrI t ns n) ⟨js0,ps0,a2,b2,y7,y8,y9,y10,rfl,hj0,hp0,hg0,s2⟩ ?_ (fun ρ h=>hQ _ (by rw [nA] at h; exact h))
  clear hQ s2 hg0 hp0 hj0
  rintro k d ρ hk ⟨js,ps,a2,b2,x7,x8,x9,x10,rfl,hjl,hpl,hg,s2⟩
  obtain ⟨hkn,rfl⟩:=pB hk
  simp only [tgN,clean,aH,aF,Bool.and_self,if_true,aA,List.set_cons_succ,List.set_cons_zero]
  refine dG (fun ρ=>∃ (s st a' b':Int),pm s=true/\0<=a'/\ρ=[some (tp a' b'),some (.int t),some (.str ("abcdefghijklmnopqrstuvwxyz" : Str)),some (.int n),some (.lst .own (ns.map D.str)),some (.lst .own (js.map jD)),some (.lst .own (ps.map ptD)),some (.int k),some (.int s),some (.int st),x10,none,none,none,none]) (fun Q hQ=>?_) ?_
  .simp_arith [bM,jt]
   refine eQ s2 (by omega) (by omega) fun r3 a3 b3 p3 q3 s3=>?_
   have hr:r3=0∨r3=1:=by omega
   rcases hr with rfl | rfl
   .simp_arith [gIx,atI,ixN]
    refine eQ s3 (by omega) (by omega) fun r4 a4 b4 p4 q4 s4=>?_
    simp_arith [lA]
    exact hQ _ ⟨1,_,_,_,by decide,s4,rfl⟩
   .simp_arith [gIx,atI,ixN]
    refine eQ s3 (by omega) (by omega) fun r4 a4 b4 p4 q4 s4=>?_
    simp_arith [lA]
    exact hQ _ ⟨-1,_,_,_,by decide,s4,rfl⟩
  rintro _ ⟨s,st,a3,b3,hs,s3,rfl⟩
  obtain ⟨x,hx,_,hx2⟩:=iV (f:=D.str) (l:=ns) (i:=(k:Int)) (by omega) (by omega)
  have hmod:0<=((k:Int) + 1) % n/\((k:Int) + 1) % n < n:=⟨Int.emod_nonneg _ (by omega),Int.emod_lt_of_pos _ (by omega)⟩
  obtain ⟨y,hy,_,hy2⟩:=iV (f:=D.str) (l:=ns) (i:=((k:Int) + 1) % n) hmod.1 (by rw [hnl]; exact hmod.2)
  have hn0:(0:Int) < n:=by omega
  have hst:=uw (j:=(x,y,st)) hs
  simp only at hst
  refine dG (fun ρ=>∃ (u v:Str),ρ=[some (tp a3 b3),some (.int t),some (.str ("abcdefghijklmnopqrstuvwxyz" : Str)),some (.int n),some (.lst .own (ns.map D.str)),some (.lst .own (js.map jD)),some (.lst .own (ps.map ptD)),some (.int k),some (.int s),some (.int st),some (.tup [.str u,.str v]),none,none,none,none]) (fun Q hQ=>?_) ?_
  .simp_arith [bQ,kW,hx2,addI,lF,hn0,hy2,bL,hst]
   exact ⟨by omega,hQ _ ⟨_,_,rfl⟩⟩
  rintro _ ⟨u,v,rfl⟩
  have hjl2:js.length < 1000000:=by omega
  have hpl2:ps.length < 1000000:=by omega
  have addT:dh (.tup [.str u,.str v]) (.tup [.int st])=some (jD (u,v,st)):=by simp [dh,jD]
  refine dG (fun ρ=>ρ=[some (tp a3 b3),some (.int t),some (.str ("abcdefghijklmnopqrstuvwxyz" : Str)),some (.int n),some (.lst .own (ns.map D.str)),some (.lst .own ((js++[(u,v,st)]).map jD)),some (.lst .own (ps.map ptD)),some (.int k),some (.int s),some (.int st),some (.tup [.str u,.str v]),none,none,none,none]) (fun Q hQ=>?_) ?_
  .simp_arith [bL,addT,cA,hjl2,lB,lz,-List.map_append]
   rw [← List.map_singleton,← List.map_append]
   exact hQ _ rfl
  rintro _ rfl
  simp_arith [bL,cA,hpl2,-List.map_append]
  refine ⟨js++[(u,v,st)],ps++[((k:Int),s)],a3,b3,some (.int k),some (.int s),some (.int st),some (.tup [.str u,.str v]),by rw [show (ps++[((k:Int),s)]).map ptD=ps.map ptD++[D.tup [.int k,.int s]] by rw [List.map_append]; rfl],by simp [hjl],by simp [hpl],fun p hp=>?_,s3⟩
  rcases List.mem_append.mp hp with z | z
  .exact hg p z
  .obtain rfl:p=((k:Int),s):=by simpa using z
   exact ⟨by show (0:Int)<=k; omega,by show (k:Int) < 41; omega,hs⟩
 rintro _ ⟨js,ps,a2,b2,x7,x8,x9,x10,rfl,hjl,hpl,hg,s2⟩
 have slP:∀ (m:Mk) lo hi,gSl (.lst m (ps.map ptD)) lo hi=some (.lst .own ((qz ps lo hi).map ptD)):=fun m lo hi=>by simp only [gSl,JX]
 have addP:∀ (x y:List Pt),x.length + y.length<=1000->dh (.lst .own (x.map ptD)) (.lst .own (y.map ptD))=some (.lst .own ((x++y).map ptD)):=fun x y h=>by
  have:x.length + y.length<=1000000:=by omega
  simp [dh,this]
 have hsm:∀ p∈ps,smP p:=fun p hp=>by
  obtain ⟨h1,h2,h3⟩:=hg p hp
  have:p.2=1∨p.2 = -1:=by simpa [pm] using h3
  exact ⟨by omega,by omega⟩
 have hL:∀ lo hi,(qz ps lo hi).length<=40:=fun lo hi=>by have:=Ha (ps:=ps) (lo:=lo) (hi:=hi); omega
 refine dG (fun ρ=>∃ (r a' b':Int),0<=r/\r < n/\0<=a'/\ρ=[some (tp a' b'),some (.int t),some (.str ("abcdefghijklmnopqrstuvwxyz" : Str)),some (.int n),some (.lst .own (ns.map D.str)),some (.lst .own (js.map jD)),some (.lst .own (ps.map ptD)),x7,x8,x9,x10,some (.int r),none,none,none]) (fun Q hQ=>?_) ?_
 .simp_arith [aA]
  refine eQ s2 (by omega) (by omega) fun r3 a3 b3 p3 q3 s3=>?_
  simp_arith [aA]
  exact hQ _ ⟨r3,_,_,p3,q3,s3,rfl⟩
 rintro _ ⟨r,a3,b3,r0,r1,s3,rfl⟩
 obtain ⟨p,hpm,_,hp2⟩:=iV (f:=ptD) (l:=ps) (i:=r) r0 (by omega)
 have h0:gIx (ptD p) (.int 0)=some (.int p.1):=rfl
 have h1:gIx (ptD p) (.int 1)=some (.int p.2):=rfl
 have hone:bM [.tup [.int p.1,.int (-p.2)]]=some (.lst .own ([((p.1,-p.2):Pt)].map ptD)):=rfl
 refine dG (fun ρ=>∃ qs:List Pt,(∀ p∈qs,smP p)/\qs.length<=90/\ρ=[some (tp a3 b3),some (.int t),some (.str ("abcdefghijklmnopqrstuvwxyz" : Str)),some (.int n),some (.lst .own (ns.map D.str)),some (.lst .own (js.map jD)),some (.lst .own (ps.map ptD)),x7,x8,x9,x10,some (.int r),some (.lst .own (qs.map ptD)),none,none]) (fun Q hQ=>?_) ?_
 .have l1:=hL none (some r)
  have l2:=hL (some (r + 1)) none
  simp_arith [jA,slP,kW,hp2,h0,h1,jt,bL,hone,addI,-List.map_cons]
  rw [addP _ _ (by simp; omega),aA,addP _ _ (by simp; omega),aA]
  refine ⟨⟨by simp only [aH,jC]; rfl,by simp only [aF,jB]; rfl⟩,hQ _ ⟨_,fun q hq=>?_,by simp; omega,rfl⟩⟩
  rcases List.mem_append.mp hq with z | z
  .rcases List.mem_append.mp z with z | z
   .exact hsm q (mX q z)
   .obtain rfl:q=(p.1,-p.2):=by simpa using z
    exact ⟨(hsm p hpm).1,by have:=(hsm p hpm).2; simp; exact this⟩
  .exact hsm q (mX q z)
 rintro _ ⟨qs,hq,hql,rfl⟩
 refine dG (fun ρ=>∃ us:List Pt,(∀ p∈us,smP p)/\us.length<=90/\ρ=[some (tp a3 b3),some (.int t),some (.str ("abcdefghijklmnopqrstuvwxyz" : Str)),some (.int n),some (.lst .own (ns.map D.str)),some (.lst .own (js.map jD)),some (.lst .own (ps.map ptD)),x7,x8,x9,x10,some (.int r),some (.lst .own (qs.map ptD)),some (.lst .own (us.map ptD)),none]) (fun Q hQ=>?_) ?_
 .have l1:=hL none (some r)
  have l2:=hL (some (r + 1)) none
  simp_arith [jA,slP,addI]
  rw [addP _ _ (by omega),aA]
  refine ⟨⟨by simp only [aH,jC]; rfl,by simp only [aF,jB]; rfl⟩,hQ _ ⟨_,fun q hq=>?_,by simp; omega,rfl⟩⟩
  rcases List.mem_append.mp hq with z | z
  .exact hsm q (mX q z)
  .exact hsm q (mX q z)
 rintro _ ⟨us,hu,hul,rfl⟩
 obtain ⟨x0,hx0,_,hx02⟩:=iV (f:=D.str) (l:=ns) (i:=0) (by omega) (by omega)
 refine dG (LpI t ns n js a3 b3 4) (fun Q hQ=>?_) ?_
 .have slF:∀ (m:Mk) lo hi,gSl (.lst m (ps.map ptD)) lo hi=some (.lst .own ((qz ps lo hi).map ptD)):=slP
  have l1:=hL (some 1) none
  have l2:=hL none (some 1)
  simp [sFz,cL,aV,aA,clean,aH,aF,jC,jB,fz,qM,mkF,-List.map_append]
  simp [dF,itS,eAp,ak,aB,aq,e2,eSl,fY,bx,bf,eC,view,mkV,jA,slF,aV,aA,w_ite,bA,bL,-List.map_append]
  rw [addP _ _ (by omega),aA]
  have hsq:bC (.tup [.lst .frz (ps.map ptD),.lst .frz (qs.map ptD),.lst .frz (us.map ptD),.lst .own ((qz ps (some 1) none++qz ps none (some 1)).map ptD)])=some (true,[.lst .frz (ps.map ptD),.lst .frz (qs.map ptD),.lst .frz (us.map ptD),.lst .frz ((qz ps (some 1) none++qz ps none (some 1)).map ptD)]):=by
   simp [bC,clean,aH,aF,aD,aG,jC,jB,dq,fzo,nJ,mkO,-List.map_append]
  rw [hsq,aA]
  refine ⟨rfl,j4 (LpI t ns n js a3 b3) ⟨_,_,_,_,_,_,_,_,_,rfl⟩ ?_ (fun ρ h=>hQ _ h)⟩
  rintro k d ρ hk ⟨x6,y7,y8,y9,y10,y11,y12,y13,y14,rfl⟩
  obtain ⟨vs,hv,hvl,rfl⟩:∃ vs:List Pt,(∀ p∈vs,smP p)/\vs.length<=90/\d = .lst .frz (vs.map ptD):=by
   match k,hk with
   | 0,hk=>exact ⟨ps,hsm,by omega,by simpa using hk.symm⟩
   | 1,hk=>exact ⟨qs,hq,hql,by simpa using hk.symm⟩
   | 2,hk=>exact ⟨us,hu,hul,by simpa using hk.symm⟩
   | 3,hk=>exact ⟨qz ps (some 1) none++qz ps none (some 1),fun p hp=>(List.mem_append.mp hp).elim (fun z=>hsm p (mX p z)) (fun z=>hsm p (mX p z)),by simp; omega,by simpa using hk.symm⟩
  have hsay:=zP (t:=t) (NN.lst hx0) (JJ.lst js) ht (Cq hv hvl)
  have hx0':gIx (.lst .brw (ns.map D.str)) (.int 0)=some (.str x0):=hx02
  simp_arith [jC,jB,jA,bQ,jj,du,jm,qM,g8,hx0',hsay,iY]
  exact ⟨_,_,_,_,_,_,_,_,_,rfl⟩
 rintro _ ⟨x6,y7,y8,y9,y10,y11,y12,y13,y14,rfl⟩
 simp_arith [aA]
 exact ⟨a3,b3,rfl,s3⟩
theorem tX (b:Bool) (l:List Int):bI b (l.map D.int)=l.map D.int:=by rw [iQ,List.map_map]; rfl
theorem JB (l:List Int):fzL (l.map D.int)=l.map D.int:=by rw [j6,List.map_map]; rfl
def Tw (d:D):Prop:=∃ a b:Int,d=tp a b/\0<=a
theorem M8 {ns:List Int} {k:Int} (hk:0<=k) (hk2:k<=100) (hl:ns.length<=63):Wp (gk [.lst .scr (ns.map D.int),.int k]) Tw:=by
 have hlen:dI [.lst .scr (ns.map D.int)]=some (.int ns.length):=by simp [dI]
 have key:∀ c:Int,∀ Q:Fl->Prop,(∀ a b ρ',0<=a->Q (.ret (tp a b) ρ'))->Wp (bG (bW (e2 jE (eAp vC (ak (aq false 2) aB)) (eAp yw (ak (e2 gGe (eAp vC (ak (aq false 2) aB)) (e2 tV (eC (.int 10)) (eC (.int 18)))) aB))) (tgN 3)) (bO (eAp bM (ak (aq false 3) (ak (e2 lF (e2 jE (e2 dh (e2 dh (e2 lF (aq false 2) (eC (.int 2147483647))) (e2 jE (eC (.int 7919)) (aq false 1))) (eC (.int 11))) (eC (.int 48271))) (eC (.int 2147483629))) aB)))) [some (.lst .scr (ns.map D.int)),some (.int k),some (.int c),none]) Q:=by
  intro c Q hQ
  simp_arith [vC,tV,gGe,yw,jE,lF,dh,bM]
  have hu:(0:Int)<=if c < 0 then -c else c:=by split <;> omega
  generalize (if c < 0 then -c else c)=u at hu ⊢
  refine ⟨.inr ?_,hQ _ _ _ ?_⟩
  .split <;> omega
  .split
   .omega
   .omega
 by_cases h:k < (ns.length:Int)
 .obtain ⟨c,_,_,hc⟩:=iV (f:=D.int) (l:=ns) (i:=k) hk h
  simp only [gk,fnP,en0,List.length_cons,List.length_nil,List.map_cons,List.map_nil,List.replicate,if_true,aV,Nat.reduceAdd,Nat.reduceSub,List.cons_append,List.nil_append]
  refine dG (fun ρ=>ρ=[some (.lst .scr (ns.map D.int)),some (.int k),some (.int 0),none]) (fun Q hQ=>by simp_arith [aA]; exact hQ _ rfl) ?_
  rintro _ rfl
  refine dG (fun ρ=>ρ=[some (.lst .scr (ns.map D.int)),some (.int k),some (.int c),none]) (fun Q hQ=>by simp_arith [tX,hlen,gLt,h,kW,hc]; exact hQ _ rfl) ?_
  rintro _ rfl
  exact key c _ fun a b ρ' ha=>aA.mpr ⟨a,b,rfl,ha⟩
 .simp only [gk,fnP,en0,List.length_cons,List.length_nil,List.map_cons,List.map_nil,List.replicate,if_true,aV,Nat.reduceAdd,Nat.reduceSub,List.cons_append,List.nil_append]
  refine dG (fun ρ=>ρ=[some (.lst .scr (ns.map D.int)),some (.int k),some (.int 0),none]) (fun Q hQ=>by simp_arith [aA]; exact hQ _ rfl) ?_
  rintro _ rfl
  refine dG (fun ρ=>ρ=[some (.lst .scr (ns.map D.int)),some (.int k),some (.int 0),none]) (fun Q hQ=>by simp_arith [tX,hlen,gLt,h]; exact hQ _ rfl) ?_
  rintro _ rfl
  exact key 0 _ fun a b ρ' ha=>aA.mpr ⟨a,b,rfl,ha⟩
theorem Gi:∀ l:List Jt,jz (l.map jD)=true
 | []=>rfl
 | j :: r=>by simp [jz,jD,iY,Gi r]
def LwI (sc:List Int) (k:Nat) (ρ:En):Prop:=∃ (x1 x2 x3 x4 x5 x6 x7 x8 x9 x10 x11 x12:Option D),ρ=[some (.lst .scr (sc.map D.int)),x1,x2,x3,x4,x5,x6,x7,x8,x9,x10,x11,x12]
structure NS (N:D) (ns:List Str):Prop where
 f:fz N=N
 v:∀ b,view b N=N
 b:aH N=true
 o:aF N=true
 l:dI [N]=some (.int ns.length)
 x:∀ i,gIx N (.int i)=atI (ns.map D.str) i
 n:∀ h∈ns,NN N h
theorem NS.lst (ns:List Str):NS (.lst .frz (ns.map D.str)) ns:=⟨by simp [fz,du,mkF],fun b=>by cases b <;> simp [view,bQ,mkV],by simp [aH,cC],by simp [aF,cz],by simp [dI],fun _=>rfl,fun _ h=>.lst h⟩
theorem NS.tup (ns:List Str):NS (.tup (ns.map D.str)) ns:=⟨by simp [fz,du],fun b=>by simp [view,bQ],by simp [aH,cC],by simp [aF,cz],by simp [dI],fun _=>rfl,fun _ h=>.tup h⟩
def LwJ (sc:List Int) (kd N J:D) (t:Int) (k:Nat) (ρ:En):Prop:=∃ (a b:Int) (x6 x7 x8 x9 x10 x11 x12:Option D),0<=a/\ρ=[some (.lst .scr (sc.map D.int)),some kd,some (tp a b),some N,some (.int t),some J,x6,x7,x8,x9,x10,x11,x12]
def LwP (sc:List Int) (kd N J:D) (t:Int) (a b:Int) (x6 x7 x8 x9:Option D) (h:Str) (ps:List Pt) (k:Nat) (ρ:En):Prop:=∃ x12:Option D,ρ=[some (.lst .scr (sc.map D.int)),some kd,some (tp a b),some N,some (.int t),some J,x6,x7,x8,x9,some (.str h),some (.tup (ps.map ptD)),x12]
theorem Gf (sc:List Int) (hl:sc.length<=63):nF [.lst .scr (sc.map D.int)]=some (.bl true):=by
 apply Wp.eq
 have hlen:dI [.lst .scr (sc.map D.int)]=some (.int sc.length):=by simp [dI]
 have hnb:aD (sc.map D.int)=true:=fQ fun d hd=>by obtain ⟨x,_,rfl⟩:=List.mem_map.mp hd; rfl
 have hno:aG (sc.map D.int)=true:=e_ fun d hd=>by obtain ⟨x,_,rfl⟩:=List.mem_map.mp hd; rfl
 have hit:dO (ak (e2 dh (eC (.int 1)) (eAp pL (ak (eC (.int 8)) (ak (eAp dI (ak (aq false 0) aB)) aB)))) aB) [some (.lst .scr (sc.map D.int)),none,none,none,none,none,none,none,none,none,none,none,none]=some (true,j9 0 (1 + min 8 sc.length)):=by
  refine zZ ?_ (by omega)
  simp only [ak,e2,eC,eAp,aq,aB,List.getElem?_cons_zero,view,mkV,tX,Option.bind_some,hlen,pL,dh]
  congr 3
  split <;> omega
 simp only [nF,fnP,en0,List.length_cons,List.length_nil,List.map_cons,List.map_nil,List.replicate,if_true,aV,Nat.reduceAdd,Nat.reduceSub,List.cons_append,List.nil_append]
 refine dG (LwI sc (1 + min 8 sc.length)) (fun Q hQ=>?_) ?_
 .simp only [dF,hit,aV,aA,w_ite,if_true]
  refine j4 (LwI sc) ⟨none,none,none,none,none,none,none,none,none,none,none,none,rfl⟩ ?_ (fun ρ h=>hQ _ (by rw [nA] at h; exact h))
  rintro k d ρ hk ⟨x1,x2,x3,x4,x5,x6,x7,x8,x9,x10,x11,x12,rfl⟩
  obtain ⟨hkn,rfl⟩:=pB hk
  simp only [tgN,clean,aH,aF,Bool.and_self,if_true,aA,List.set_cons_succ,List.set_cons_zero]
  refine dG (fun ρ=>∃ a b:Int,0<=a/\ρ=[some (.lst .scr (sc.map D.int)),some (.int k),some (tp a b),x3,x4,x5,x6,x7,x8,x9,x10,x11,x12]) (fun Q hQ=>?_) ?_
  .simp_arith [tX,JB,hnb,hno]
   refine Wp.mono (M8 (by omega) (by omega) hl) ?_
   rintro _ ⟨a,b,rfl,ha⟩
   simp_arith [aA]
   exact hQ _ ⟨a,b,ha,rfl⟩
  rintro _ ⟨a1,b1,s1,rfl⟩
  refine dG (fun ρ=>∃ (ns:List Str) (a b:Int),0 < ns.length/\ns.length<=15/\0<=a/\ρ=[some (.lst .scr (sc.map D.int)),some (.int k),some (tp a b),some (.lst .own (ns.map D.str)),x4,x5,x6,x7,x8,x9,x10,x11,x12]) (fun Q hQ=>?_) ?_
  .simp_arith [aA]
   refine Wp.mono (Ie s1) ?_
   rintro _ ⟨ns,a2,b2,rfl,hnl,s2⟩
   have addL:dh (.lst .own (ns.map D.str)) (.lst .own [.str "last"])=some (.lst .own ((ns++[("last" : Str)]).map D.str)):=by
    have:ns.length + 1<=1000000:=by omega
    simp [dh,this]
   simp_arith [bM,addL,cC,cz,-List.map_append]
   exact hQ _ ⟨ns++[("last" : Str)],_,_,by simp,by simp; omega,s2,rfl⟩
  rintro _ ⟨ns,a2,b2,hn0,hn1,s2,rfl⟩
  refine dG (fun ρ=>∃ (t a b:Int),(0<=t/\t<=1000)/\0<=a/\ρ=[some (.lst .scr (sc.map D.int)),some (.int k),some (tp a b),some (.lst .own (ns.map D.str)),some (.int t),x5,x6,x7,x8,x9,x10,x11,x12]) (fun Q hQ=>?_) ?_
  .simp_arith [aA]
   refine Wp.mono (Mf s2) ?_
   rintro _ ⟨t,a3,b3,rfl,t0,t1,s3⟩
   simp_arith [aA]
   exact hQ _ ⟨t,_,_,⟨t0,t1⟩,s3,rfl⟩
  rintro _ ⟨t,a3,b3,ht,s3,rfl⟩
  refine dG (fun ρ=>∃ (a b:Int),0<=a/\ρ=[some (.lst .scr (sc.map D.int)),some (.int k),some (tp a b),some (.lst .own (ns.map D.str)),some (.int t),x5,x6,x7,x8,x9,x10,x11,x12]) (fun Q hQ=>?_) ?_
  .simp_arith [gLt]
   split
   .refine Wp.mono (Li s3 ht) ?_
    rintro _ ⟨a4,b4,rfl,s4⟩
    simp_arith [aA]
    exact hQ _ ⟨_,_,s4,rfl⟩
   .exact hQ _ ⟨_,_,s3,rfl⟩
  rintro _ ⟨a4,b4,s4,rfl⟩
  refine dG (fun ρ=>∃ (js:List Jt) (a b:Int),js.length<=30/\0<=a/\ρ=[some (.lst .scr (sc.map D.int)),some (.int k),some (tp a b),some (.lst .own (ns.map D.str)),some (.int t),some (.lst .own (js.map jD)),x6,x7,x8,x9,x10,x11,x12]) (fun Q hQ=>?_) ?_
  .simp_arith [bQ,du,cz]
   refine Wp.mono (zQ s4 hn0 (by omega) ht) ?_
   rintro _ ⟨js,a5,b5,rfl,hjs,hjl,s5⟩
   simp_arith [iY,jz,Gi,iG,iH]
   exact hQ _ ⟨js,_,_,by omega,s5,rfl⟩
  rintro _ ⟨js,a5,b5,hjl,s5,rfl⟩
  refine dG (fun ρ=>∃ (js:List Jt) (a b:Int) (x6 x7 x8:Option D),js.length<=31/\0<=a/\ρ=[some (.lst .scr (sc.map D.int)),some (.int k),some (tp a b),some (.lst .own (ns.map D.str)),some (.int t),some (.lst .own (js.map jD)),x6,x7,x8,x9,x10,x11,x12]) (fun Q hQ=>?_) ?_
  .simp_arith [cC,cz,bQ,du,fH,iG,iH,jj,jm,jf,lB,lz,lW,lO,mD,jr,iw,len_strs,fU,cV,kW,lX,eq_int,iz,bM]
   by_cases hjn:js=[]
   .subst hjn
    simp
    exact hQ _ ⟨[],_,_,_,_,_,by simp,s5,rfl⟩
   .have hjp:0 < js.length:=List.length_pos_iff.mpr hjn
    simp [hjn]
    refine eQ s5 (by omega) (by omega) fun r6 a6 b6 p6 q6 s6=>?_
    simp_arith [cC,cz,bQ,du,fH,iG,iH,jj,jm,jf,lB,lz,lW,lO,mD,jr,iw,len_strs,fU,cV,kW,lX,eq_int,iz]
    split
    .refine eQ s6 (by omega) (by omega) fun r7 a7 b7 p7 q7 s7=>?_
     obtain ⟨j,hj,_,hj2⟩:=iV (f:=jD) (l:=js) p7 q7
     have hjl2:js.length < 1000000:=by omega
     simp_arith [cC,cz,bQ,du,fH,iG,iH,jj,jm,jf,lB,lz,lW,lO,mD,jr,iw,len_strs,fU,cV,kW,lX,eq_int,iz,hj2]
     simp [jD,aA,bA,aV,cP,w_ite,cY,bW,aX,cJ,bw,sIf,eZ,sEx,bO,cu,dm,b_,cg,gP,gQ,dF,cH,sFz,cL,eV,cR,fZ,upS,tgN,tgT,aJ,aU,cN,tpN,tpT,d_,gK,aq,eC,aB,ak,eAp,eUp,fD,bc,ee2,ee1,aP,dJ,e2,e1,eB,eeB,eY,cM,fK,eOr,eX,cB,gG,cI,eE,vOr,gH,di,eTT,isB,dO,gJ,itS,itE,cQ,gf,bC,bH,bF,eSl,fX,fY,cG,bx,bf,eMt,bz,fW,gj,eIo,objs,bY,bj,eU,dW,clean,aH,aF,aD,aG,aM,aL,view,bI,mkV,mkF,fz,fzL,fzo,dq,mkO,fnP,fnI,en0,outs,dZ,bK,obC,truth,lA,bL,cA,hjl2,-List.map_cons]
     exact hQ _ ⟨js++[(j.2.1,j.1,1 - j.2.2)],_,_,_,_,_,by simp; omega,s7,by rw [List.map_append]; rfl⟩
    .exact hQ _ ⟨js,_,_,_,_,_,by omega,s6,rfl⟩
  clear hjl
  rintro _ ⟨js,a6,b6,x6,x7,x8,hjl,s6,rfl⟩
  refine dG (fun ρ=>∃ (N J:D) (a b:Int),NS N ns/\JJ J js/\0<=a/\ρ=[some (.lst .scr (sc.map D.int)),some (.int k),some (tp a b),some N,some (.int t),some J,x6,x7,x8,x9,x10,x11,x12]) (fun Q hQ=>?_) ?_
  .have hT1:g8 [.lst .frz (ns.map D.str)]=some (.tup (ns.map D.str)):=by simp [g8]
   have hT2:g8 [.lst .frz (js.map jD)]=some (.tup (js.map jD)):=by simp [g8]
   simp_arith [cC,cz,bQ,du,fH,iG,iH,jj,jm,jf,lB,lz,lW,lO,mD,jr,iw,len_strs,fU,cV,kW,lX,eq_int,iz,bM,bL,hT1,hT2]
   refine eQ s6 (by omega) (by omega) fun r7 a7 b7 p7 q7 s7=>?_
   have hr:r7=0∨r7=1:=by omega
   rcases hr with rfl | rfl
   .simp_arith [cC,cz,bQ,du,fH,iG,iH,jj,jm,jf,lB,lz,lW,lO,mD,jr,iw,len_strs,fU,cV,kW,lX,eq_int,iz,atI,ixN]
    exact hQ _ ⟨_,_,a7,b7,.lst ns,.lst js,s7,rfl⟩
   .simp_arith [cC,cz,bQ,du,fH,iG,iH,jj,jm,jf,lB,lz,lW,lO,mD,jr,iw,len_strs,fU,cV,kW,lX,eq_int,iz,atI,ixN]
    exact hQ _ ⟨_,_,a7,b7,.tup ns,.tup js,s7,rfl⟩
  rintro _ ⟨N,J,a7,b7,hN,hJ,s7,rfl⟩
  simp only [dF,dO,ak,eC,aB,Option.bind_some,aV,aA,w_ite,if_true]
  have e4:(j9 0 (Int.toNat 4)).length=4:=by rw [nA]; rfl
  refine j4 (LwJ sc (.int k) N J t) ⟨a7,b7,x6,x7,x8,x9,x10,x11,x12,s7,rfl⟩ ?_ (fun ρ ⟨a,b,y6,y7,y8,y9,y10,y11,y12,_,h⟩=>⟨_,_,_,_,_,y6,y7,y8,y9,y10,y11,y12,h⟩)
  rintro i d ρ hi ⟨a8,b8,y6,y7,y8,y9,y10,y11,y12,s8,rfl⟩
  obtain ⟨_,rfl⟩:=pB hi
  simp only [tgN,clean,aH,aF,Bool.and_self,if_true,aA,List.set_cons_succ,List.set_cons_zero]
  refine dG (fun ρ=>∃ (h:Str) (a b:Int),h∈ns/\0<=a/\ρ=[some (.lst .scr (sc.map D.int)),some (.int k),some (tp a b),some N,some (.int t),some J,y6,y7,y8,some (.int i),some (.str h),y11,y12]) (fun Q hQ=>?_) ?_
  .simp_arith [cC,cz,bQ,du,fH,iG,iH,jj,jm,jf,lB,lz,lW,lO,mD,jr,iw,len_strs,fU,cV,kW,lX,eq_int,iz,hN.v,hN.l]
   refine eQ s8 (by omega) (by omega) fun r9 a9 b9 p9 q9 s9=>?_
   obtain ⟨h,hh,_,hh2⟩:=iV (f:=D.str) (l:=ns) p9 q9
   simp_arith [cC,cz,bQ,du,fH,iG,iH,jj,jm,jf,lB,lz,lW,lO,mD,jr,iw,len_strs,fU,cV,kW,lX,eq_int,iz,hN.x,hh2,hN.o]
   exact hQ _ ⟨h,_,_,hh,s9,rfl⟩
  rintro _ ⟨h,a9,b9,hh,s9,rfl⟩
  refine dG (fun ρ=>∃ (ps:List Pt) (a b:Int),(∀ p∈ps,gdP js p)/\ps.length<=8/\0<=a/\ρ=[some (.lst .scr (sc.map D.int)),some (.int k),some (tp a b),some N,some (.int t),some J,y6,y7,y8,some (.int i),some (.str h),some (.tup (ps.map ptD)),y12]) (fun Q hQ=>?_) ?_
  .simp_arith [cC,cz,bQ,du,fH,iG,iH,jj,jm,jf,lB,lz,lW,lO,mD,jr,iw,len_strs,fU,cV,kW,lX,eq_int,iz,hJ.v,hJ.f,hJ.b,hJ.o]
   refine Wp.mono (JT s9 hJ (by omega)) ?_
   rintro _ ⟨ps,a10,b10,rfl,hps,hpl,s10⟩
   simp_arith [cC,cz,bQ,du,fH,iG,iH,jj,jm,jf,lB,lz,lW,lO,mD,jr,iw,len_strs,fU,cV,kW,lX,eq_int,iz,jC,jB]
   exact hQ _ ⟨ps,_,_,hps,hpl,s10,rfl⟩
  rintro _ ⟨ps,a10,b10,hps,hpl,s10,rfl⟩
  have hsm:∀ p∈ps,smP p:=fun p hp=>by
   obtain ⟨h1,h2,h3⟩:=hps p hp
   have hs:p.2=1∨p.2 = -1:=by simpa [pm] using h3
   exact ⟨by omega,by rcases hs with z | z <;> rw [z] <;> decide⟩
  refine dG (fun ρ=>∃ (a b:Int) (z12:Option D),0<=a/\ρ=[some (.lst .scr (sc.map D.int)),some (.int k),some (tp a b),some N,some (.int t),some J,y6,y7,y8,some (.int i),some (.str h),some (.tup (ps.map ptD)),z12]) (fun Q hQ=>?_) ?_
  .simp_arith [cC,cz,bQ,du,fH,iG,iH,jj,jm,jf,lB,lz,lW,lO,mD,jr,iw,len_strs,fU,cV,kW,lX,eq_int,iz,hJ.v,hJ.f,hJ.b,hJ.o,jA,qM,jC,jB]
   refine Wp.mono (HF s10 hJ (by omega) hsm (by omega)) ?_
   rintro _ ⟨items,a11,b11,rfl,hit,s11⟩
   have hb1:aD items=true:=fQ fun d hd=>(hit d hd).2.1
   have hb2:aG items=true:=e_ fun d hd=>(hit d hd).2.2
   simp_arith [cC,cz,bQ,du,fH,iG,iH,jj,jm,jf,lB,lz,lW,lO,mD,jr,iw,len_strs,fU,cV,kW,lX,eq_int,iz,hb1,hb2]
   refine j4 (LwP sc (.int k) N J t a11 b11 y6 y7 y8 (some (.int i)) h ps) ⟨y12,rfl⟩ ?_ (fun ρ ⟨z12,e⟩=>hQ _ ⟨a11,b11,z12,s11,e⟩)
   rintro m d ρ hm ⟨z12,rfl⟩
   have hd:d∈dq items:=List.mem_of_getElem? hm
   rw [jF] at hd
   obtain ⟨d0,hd0,rfl⟩:=List.mem_map.mp hd
   have hp0:=(hit d0 hd0).1
   obtain ⟨f1,f2,f3,f4,f5,f6⟩:=hp0.1.all
   have sy:=zP (t:=t) (hN.n h hh) hJ ht hp0
   simp_arith [cC,cz,bQ,du,fH,iG,iH,jj,jm,jf,lB,lz,lW,lO,mD,jr,iw,len_strs,fU,cV,kW,lX,eq_int,iz,f3,f1,f4,f5,hN.v,hN.f,hN.b,hN.o,hJ.v,hJ.f,hJ.b,hJ.o,sy]
   exact ⟨_,rfl⟩
  rintro _ ⟨a11,b11,z12,s11,rfl⟩
  simp_arith [cC,cz,bQ,du,fH,iG,iH,jj,jm,jf,lB,lz,lW,lO,mD,jr,iw,len_strs,fU,cV,kW,lX,eq_int,iz,hN.v,hN.l,hN.f,hN.b,hN.o,hJ.v,hJ.f,hJ.b,hJ.o]
  refine eQ s11 (by omega) (by omega) fun r12 a12 b12 p12 q12 s12=>?_
  obtain ⟨g,hg,_,hg2⟩:=iV (f:=D.str) (l:=ns) p12 q12
  have sy:=zP (t:=t) (hN.n g hg) hJ ht (Cq hsm (by omega))
  simp_arith [cC,cz,bQ,du,fH,iG,iH,jj,jm,jf,lB,lz,lW,lO,mD,jr,iw,len_strs,fU,cV,kW,lX,eq_int,iz,hN.x,hg2,jA,qM,jC,jB,hN.v,hN.f,hN.b,hN.o,hJ.v,hJ.f,hJ.b,hJ.o,sy]
  exact ⟨_,_,_,_,_,_,_,_,_,s12,rfl⟩
 rintro _ ⟨x1,x2,x3,x4,x5,x6,x7,x8,x9,x10,x11,x12,rfl⟩
 simp_arith [aA]
theorem yV {G:Gc} {H:Hp} {W:Wn}:∀ ns:List Int,aN G H W (ns.map D.int) (ns.map V.int) []
 | []=>.nil
 | x :: r=>aN.cons (M:=[]) (M':=[]) gn (yV r)
theorem N5 {K:PySem.W.Frag} {mg:Str->Option Value} {H:Hp} {a:Addr} {ns:List Int} {Q:VK} {E:XK} (hl:ns.length<=63) (hS:SqL K H a (ns.map V.int)) (q:∀ H',Q (.bl true) H'):spP ⟨K,mg⟩ nF [.ref a] H Q E:=by
 refine ⟨[.lst .scr (ns.map D.int)],fun _=>False,?_,?_,?_,fun _ z=>z.elim,.bl true,Gf ns hl,fun v H' L s r fr nd c=>?_⟩
 .refine aN.one (M:=[]) ?_
  rw [Rep]
  refine ⟨a,_,[],rfl,yV ns,?_,rfl,rfl⟩
  rcases hS with z | z
  .exact .inl ⟨z,⟨fun z=>z,fun z=>z,fun z=>z⟩⟩
  .exact .inr ⟨_,rfl,z⟩
 .simp [aD,aH,fQ (ds:=ns.map D.int) (by simp [aH])]
 .simp [aG,aF,e_ (ds:=ns.map D.int) (by simp [aF])]
 .rw [(lN r).1]; exact q H'
def HN (K:PySem.W.Frag):Sp:=fun vs H Q _=>∃ (a:Addr) (ns:List Int),vs=[.ref a]/\SqL K H a (ns.map V.int)/\ns.length<=63/\∀ H',Q (.bl true) H'
theorem all_mk {l:PySem.W.OpenLaw} {w:World} {K:PySem.W.Frag} {h:Heap} {mg:Str->Option Value} {fa f1 f2 f3 f4 f5 f6 f7 f8 f9 f10 f11 f12 f13 f14 f15 f16 f17 f18 f19 f20 f21 f22 f23 f24 f25 f26 f27:Addr} (X:K.In h) (G:h.Ns mainGlobals mg) (hfa:mg "law" = some (.ref fa))
  {od1 an1 od2 an2 od3 an3 od4 an4 od5 an5 od6 an6 od7 an7 od8 an8 od9 an9 od10 an10 od11 an11 od12 an12 od13 an13 od14 an14 od15 an15 od16 an16 od17 an17 od18 an18 od19 an19 od20 an20 od21 an21 od22 an22 od23 an23 od24 an24 od25 an25 od26 an26 od27 an27:Option Addr} {sl1 sl2 sl3 sl4 sl5 sl6 sl7 sl8 sl9 sl10 sl11 sl12 sl13 sl14 sl15 sl16 sl17 sl18 sl19 sl20 sl21 sl22 sl23 sl24 sl25 sl26 sl27:Array (Option Value)} {oc1 kV1 dc1 pm1 cd1 ct1 oc2 kV2 dc2 pm2 cd2 ct2 oc3 kV3 dc3 pm3 cd3 ct3 oc4 kV4 dc4 pm4 cd4 ct4 oc5 kV5 dc5 pm5 cd5 ct5 oc6 kV6 dc6 pm6 cd6 ct6 oc7 kV7 dc7 pm7 cd7 ct7 oc8 kV8 dc8 pm8 cd8 ct8 oc9 kV9 dc9 pm9 cd9 ct9 oc10 kV10 dc10 pm10 cd10 ct10 oc11 kV11 dc11 pm11 cd11 ct11 oc12 kV12 dc12 pm12 cd12 ct12 oc13 kV13 dc13 pm13 cd13 ct13 oc14 kV14 dc14 pm14 cd14 ct14 oc15 kV15 dc15 pm15 cd15 ct15 oc16 kV16 dc16 pm16 cd16 ct16 oc17 kV17 dc17 pm17 cd17 ct17 oc18 kV18 dc18 pm18 cd18 ct18 oc19 kV19 dc19 pm19 cd19 ct19 oc20 kV20 dc20 pm20 cd20 ct20 oc21 kV21 dc21 pm21 cd21 ct21 oc22 kV22 dc22 pm22 cd22 ct22 oc23 kV23 dc23 pm23 cd23 ct23 oc24 kV24 dc24 pm24 cd24 ct24 oc25 kV25 dc25 pm25 cd25 ct25 oc26 kV26 dc26 pm26 cd26 ct26 oc27 kV27 dc27 pm27 cd27 ct27:Value}
  (a1:PySem.W.nsIn K mainGlobals "_law_tape" = some (some (.ref f1))) (l1:K.lookup f1=some ⟨oc1,od1,.func (PySem.W.fnOf "_law_tape" "_law_tape" (cD kJ) (bV kJ) (aK kJ) .none kV1 dc1 pm1 an1 cd1 ct1),sl1⟩) (c1:PySem.W.codeIn K cd1 "_law_tape" = true) (k1:PySem.W.keepIn K (.ref f1)=true)
  (a2:PySem.W.nsIn K mainGlobals "_law_draw" = some (some (.ref f2))) (l2:K.lookup f2=some ⟨oc2,od2,.func (PySem.W.fnOf "_law_draw" "_law_draw" (cD kO) (bV kO) (aK kO) .none kV2 dc2 pm2 an2 cd2 ct2),sl2⟩) (c2:PySem.W.codeIn K cd2 "_law_draw" = true) (k2:PySem.W.keepIn K (.ref f2)=true)
  (a3:PySem.W.nsIn K mainGlobals "_law_turn" = some (some (.ref f3))) (l3:K.lookup f3=some ⟨oc3,od3,.func (PySem.W.fnOf "_law_turn" "_law_turn" (cD km) (bV km) (aK km) .none kV3 dc3 pm3 an3 cd3 ct3),sl3⟩) (c3:PySem.W.codeIn K cd3 "_law_turn" = true) (k3:PySem.W.keepIn K (.ref f3)=true)
  (a4:PySem.W.nsIn K mainGlobals "_law_joinings" = some (some (.ref f4))) (l4:K.lookup f4=some ⟨oc4,od4,.func (PySem.W.fnOf "_law_joinings" "_law_joinings" (cD gY) (bV gY) (aK gY) .none kV4 dc4 pm4 an4 cd4 ct4),sl4⟩) (c4:PySem.W.codeIn K cd4 "_law_joinings" = true) (k4:PySem.W.keepIn K (.ref f4)=true)
  (a5:PySem.W.nsIn K mainGlobals "_law_names" = some (some (.ref f5))) (l5:K.lookup f5=some ⟨oc5,od5,.func (PySem.W.fnOf "_law_names" "_law_names" (cD jo) (bV jo) (aK jo) .none kV5 dc5 pm5 an5 cd5 ct5),sl5⟩) (c5:PySem.W.codeIn K cd5 "_law_names" = true) (k5:PySem.W.keepIn K (.ref f5)=true)
  (a6:PySem.W.nsIn K mainGlobals "_law_rings" = some (some (.ref f6))) (l6:K.lookup f6=some ⟨oc6,od6,.func (PySem.W.fnOf "_law_rings" "_law_rings" (cD iT) (bV iT) (aK iT) .none kV6 dc6 pm6 an6 cd6 ct6),sl6⟩) (c6:PySem.W.codeIn K cd6 "_law_rings" = true) (k6:PySem.W.keepIn K (.ref f6)=true)
  (a7:PySem.W.nsIn K mainGlobals "_law_odd" = some (some (.ref f7))) (l7:K.lookup f7=some ⟨oc7,od7,.func (PySem.W.fnOf "_law_odd" "_law_odd" (cD lJ) (bV lJ) (aK lJ) .none kV7 dc7 pm7 an7 cd7 ct7),sl7⟩) (c7:PySem.W.codeIn K cd7 "_law_odd" = true) (k7:PySem.W.keepIn K (.ref f7)=true)
  (a8:PySem.W.nsIn K mainGlobals "_law_bent" = some (some (.ref f8))) (l8:K.lookup f8=some ⟨oc8,od8,.func (PySem.W.fnOf "_law_bent" "_law_bent" (cD k_) (bV k_) (aK k_) .none kV8 dc8 pm8 an8 cd8 ct8),sl8⟩) (c8:PySem.W.codeIn K cd8 "_law_bent" = true) (k8:PySem.W.keepIn K (.ref f8)=true)
  (a9:PySem.W.nsIn K mainGlobals "_law_papers" = some (some (.ref f9))) (l9:K.lookup f9=some ⟨oc9,od9,.func (PySem.W.fnOf "_law_papers" "_law_papers" (cD gq) (bV gq) (aK gq) .none kV9 dc9 pm9 an9 cd9 ct9),sl9⟩) (c9:PySem.W.codeIn K cd9 "_law_papers" = true) (k9:PySem.W.keepIn K (.ref f9)=true)
  (a10:PySem.W.nsIn K mainGlobals "ends" = some (some (.ref f10))) (l10:K.lookup f10=some ⟨oc10,od10,.func (PySem.W.fnOf "ends" "ends" (cD rJ) (bV rJ) (aK rJ) .none kV10 dc10 pm10 an10 cd10 ct10),sl10⟩) (c10:PySem.W.codeIn K cd10 "ends" = true) (k10:PySem.W.keepIn K (.ref f10)=true)
  (a11:PySem.W.nsIn K mainGlobals "led" = some (some (.ref f11))) (l11:K.lookup f11=some ⟨oc11,od11,.func (PySem.W.fnOf "led" "led" (cD v4) (bV v4) (aK v4) .none kV11 dc11 pm11 an11 cd11 ct11),sl11⟩) (c11:PySem.W.codeIn K cd11 "led" = true) (k11:PySem.W.keepIn K (.ref f11)=true)
  (a12:PySem.W.nsIn K mainGlobals "counted" = some (some (.ref f12))) (l12:K.lookup f12=some ⟨oc12,od12,.func (PySem.W.fnOf "counted" "counted" (cD lH) (bV lH) (aK lH) .none kV12 dc12 pm12 an12 cd12 ct12),sl12⟩) (c12:PySem.W.codeIn K cd12 "counted" = true) (k12:PySem.W.keepIn K (.ref f12)=true)
  (a13:PySem.W.nsIn K mainGlobals "steps_of" = some (some (.ref f13))) (l13:K.lookup f13=some ⟨oc13,od13,.func (PySem.W.fnOf "steps_of" "steps_of" (cD kZ) (bV kZ) (aK kZ) .none kV13 dc13 pm13 an13 cd13 ct13),sl13⟩) (c13:PySem.W.codeIn K cd13 "steps_of" = true) (k13:PySem.W.keepIn K (.ref f13)=true)
  (a14:PySem.W.nsIn K mainGlobals "is_couple" = some (some (.ref f14))) (l14:K.lookup f14=some ⟨oc14,od14,.func (PySem.W.fnOf "is_couple" "is_couple" (cD jQ) (bV jQ) (aK jQ) .none kV14 dc14 pm14 an14 cd14 ct14),sl14⟩) (c14:PySem.W.codeIn K cd14 "is_couple" = true) (k14:PySem.W.keepIn K (.ref f14)=true)
  (a15:PySem.W.nsIn K mainGlobals "is_number" = some (some (.ref f15))) (l15:K.lookup f15=some ⟨oc15,od15,.func (PySem.W.fnOf "is_number" "is_number" (cD jR) (bV jR) (aK jR) .none kV15 dc15 pm15 an15 cd15 ct15),sl15⟩) (c15:PySem.W.codeIn K cd15 "is_number" = true) (k15:PySem.W.keepIn K (.ref f15)=true)
  (a16:PySem.W.nsIn K mainGlobals "is_pair" = some (some (.ref f16))) (l16:K.lookup f16=some ⟨oc16,od16,.func (PySem.W.fnOf "is_pair" "is_pair" (cD lL) (bV lL) (aK lL) .none kV16 dc16 pm16 an16 cd16 ct16),sl16⟩) (c16:PySem.W.codeIn K cd16 "is_pair" = true) (k16:PySem.W.keepIn K (.ref f16)=true)
  (a17:PySem.W.nsIn K mainGlobals "is_way" = some (some (.ref f17))) (l17:K.lookup f17=some ⟨oc17,od17,.func (PySem.W.fnOf "is_way" "is_way" (cD lQ) (bV lQ) (aK lQ) .none kV17 dc17 pm17 an17 cd17 ct17),sl17⟩) (c17:PySem.W.codeIn K cd17 "is_way" = true) (k17:PySem.W.keepIn K (.ref f17)=true)
  (a18:PySem.W.nsIn K mainGlobals "are_unlike" = some (some (.ref f18))) (l18:K.lookup f18=some ⟨oc18,od18,.func (PySem.W.fnOf "are_unlike" "are_unlike" (cD jw) (bV jw) (aK jw) .none kV18 dc18 pm18 an18 cd18 ct18),sl18⟩) (c18:PySem.W.codeIn K cd18 "are_unlike" = true) (k18:PySem.W.keepIn K (.ref f18)=true)
  (a19:PySem.W.nsIn K mainGlobals "names_met" = some (some (.ref f19))) (l19:K.lookup f19=some ⟨oc19,od19,.func (PySem.W.fnOf "names_met" "names_met" (cD jq) (bV jq) (aK jq) .none kV19 dc19 pm19 an19 cd19 ct19),sl19⟩) (c19:PySem.W.codeIn K cd19 "names_met" = true) (k19:PySem.W.keepIn K (.ref f19)=true)
  (a20:PySem.W.nsIn K mainGlobals "shows_ring" = some (some (.ref f20))) (l20:K.lookup f20=some ⟨oc20,od20,.func (PySem.W.fnOf "shows_ring" "shows_ring" (cD jd) (bV jd) (aK jd) .none kV20 dc20 pm20 an20 cd20 ct20),sl20⟩) (c20:PySem.W.codeIn K cd20 "shows_ring" = true) (k20:PySem.W.keepIn K (.ref f20)=true)
  (a21:PySem.W.nsIn K mainGlobals "_law_is_way" = some (some (.ref f21))) (l21:K.lookup f21=some ⟨oc21,od21,.func (PySem.W.fnOf "_law_is_way" "_law_is_way" (cD i_) (bV i_) (aK i_) .none kV21 dc21 pm21 an21 cd21 ct21),sl21⟩) (c21:PySem.W.codeIn K cd21 "_law_is_way" = true) (k21:PySem.W.keepIn K (.ref f21)=true)
  (a22:PySem.W.nsIn K mainGlobals "_law_met" = some (some (.ref f22))) (l22:K.lookup f22=some ⟨oc22,od22,.func (PySem.W.fnOf "_law_met" "_law_met" (cD lK) (bV lK) (aK lK) .none kV22 dc22 pm22 an22 cd22 ct22),sl22⟩) (c22:PySem.W.codeIn K cd22 "_law_met" = true) (k22:PySem.W.keepIn K (.ref f22)=true)
  (a23:PySem.W.nsIn K mainGlobals "_law_counted" = some (some (.ref f23))) (l23:K.lookup f23=some ⟨oc23,od23,.func (PySem.W.fnOf "_law_counted" "_law_counted" (cD jh) (bV jh) (aK jh) .none kV23 dc23 pm23 an23 cd23 ct23),sl23⟩) (c23:PySem.W.codeIn K cd23 "_law_counted" = true) (k23:PySem.W.keepIn K (.ref f23)=true)
  (a24:PySem.W.nsIn K mainGlobals "_law_is_ring" = some (some (.ref f24))) (l24:K.lookup f24=some ⟨oc24,od24,.func (PySem.W.fnOf "_law_is_ring" "_law_is_ring" (cD gA) (bV gA) (aK gA) .none kV24 dc24 pm24 an24 cd24 ct24),sl24⟩) (c24:PySem.W.codeIn K cd24 "_law_is_ring" = true) (k24:PySem.W.keepIn K (.ref f24)=true)
  (a25:PySem.W.nsIn K mainGlobals "_law_says" = some (some (.ref f25))) (l25:K.lookup f25=some ⟨oc25,od25,.func (PySem.W.fnOf "_law_says" "_law_says" (cD kY) (bV kY) (aK kY) .none kV25 dc25 pm25 an25 cd25 ct25),sl25⟩) (c25:PySem.W.codeIn K cd25 "_law_says" = true) (k25:PySem.W.keepIn K (.ref f25)=true)
  (a26:PySem.W.nsIn K mainGlobals "_law_long_right" = some (some (.ref f26))) (l26:K.lookup f26=some ⟨oc26,od26,.func (PySem.W.fnOf "_law_long_right" "_law_long_right" (cD fO) (bV fO) (aK fO) .none kV26 dc26 pm26 an26 cd26 ct26),sl26⟩) (c26:PySem.W.codeIn K cd26 "_law_long_right" = true) (k26:PySem.W.keepIn K (.ref f26)=true)
  (a27:PySem.W.nsIn K mainGlobals "law" = some (some (.ref f27))) (l27:K.lookup f27=some ⟨oc27,od27,.func (PySem.W.fnOf "law" "law" (cD qC) (bV qC) (aK qC) .none kV27 dc27 pm27 an27 cd27 ct27),sl27⟩) (c27:PySem.W.codeIn K cd27 "law" = true) (k27:PySem.W.keepIn K (.ref f27)=true)
  (z1:PySem.W.nsIn K mainGlobals "abs" = some none)
  (z2:PySem.W.nsIn K mainGlobals "all" = some none)
  (z3:PySem.W.nsIn K mainGlobals "bool" = some none)
  (z4:PySem.W.nsIn K mainGlobals "dict" = some none)
  (z5:PySem.W.nsIn K mainGlobals "enumerate" = some none)
  (z6:PySem.W.nsIn K mainGlobals "int" = some none)
  (z7:PySem.W.nsIn K mainGlobals "isinstance" = some none)
  (z8:PySem.W.nsIn K mainGlobals "len" = some none)
  (z9:PySem.W.nsIn K mainGlobals "list" = some none)
  (z10:PySem.W.nsIn K mainGlobals "min" = some none)
  (z11:PySem.W.nsIn K mainGlobals "range" = some none)
  (z12:PySem.W.nsIn K mainGlobals "set" = some none)
  (z13:PySem.W.nsIn K mainGlobals "str" = some none)
  (z14:PySem.W.nsIn K mainGlobals "sum" = some none)
  (z15:PySem.W.nsIn K mainGlobals "tuple" = some none) :
  ∃ fd:FuncData,(∀ (s:Shared) (v:Value),BindsTo s fd ⟨[v],[]⟩ [("_law_script",v)])/\∀ base:Heap,K.In base->base.Ns mainGlobals mg->iI l.prog w K mg base CX0 7 fa fd ["_law_script"] (HN K):=by
 have e:=hfa.symm.trans (PySem.W.mg_of X G a27)
 cases e
 have B:Blt mg:=⟨PySem.W.mg_none_of X G z1,PySem.W.mg_none_of X G z2,PySem.W.mg_none_of X G z3,PySem.W.mg_none_of X G z4,PySem.W.mg_none_of X G z5,PySem.W.mg_none_of X G z6,PySem.W.mg_none_of X G z7,PySem.W.mg_none_of X G z8,PySem.W.mg_none_of X G z9,PySem.W.mg_none_of X G z10,PySem.W.mg_none_of X G z11,PySem.W.mg_none_of X G z12,PySem.W.mg_none_of X G z13,PySem.W.mg_none_of X G z14,PySem.W.mg_none_of X G z15⟩
 have F1:=fL (st:=kJ) l1 c1 k1
 have F2:=fL (st:=kO) l2 c2 k2
 have F3:=fL (st:=km) l3 c3 k3
 have F4:=fL (st:=gY) l4 c4 k4
 have F5:=fL (st:=jo) l5 c5 k5
 have F6:=fL (st:=iT) l6 c6 k6
 have F7:=fL (st:=lJ) l7 c7 k7
 have F8:=fL (st:=k_) l8 c8 k8
 have F9:=fL (st:=gq) l9 c9 k9
 have F10:=fL (st:=rJ) l10 c10 k10
 have F11:=fL (st:=v4) l11 c11 k11
 have F12:=fL (st:=lH) l12 c12 k12
 have F13:=fL (st:=kZ) l13 c13 k13
 have F14:=fL (st:=jQ) l14 c14 k14
 have F15:=fL (st:=jR) l15 c15 k15
 have F16:=fL (st:=lL) l16 c16 k16
 have F17:=fL (st:=lQ) l17 c17 k17
 have F18:=fL (st:=jw) l18 c18 k18
 have F19:=fL (st:=jq) l19 c19 k19
 have F20:=fL (st:=jd) l20 c20 k20
 have F21:=fL (st:=i_) l21 c21 k21
 have F22:=fL (st:=lK) l22 c22 k22
 have F23:=fL (st:=jh) l23 c23 k23
 have F24:=fL (st:=gA) l24 c24 k24
 have F25:=fL (st:=kY) l25 c25 k25
 have F26:=fL (st:=fO) l26 c26 k26
 have F27:=fL (st:=qC) l27 c27 k27
 refine ⟨PySem.W.fnOf "law" "law" (cD qC) (bV qC) (aK qC) .none kV27 dc27 pm27 an27 cd27 ct27,fun s v=>.of_eq rfl,fun base _ _=>?_⟩
 have c_law_tape:Cal l.prog w K mg base 1 "_law_tape" ["_law_script", "_law_k"] (spP ⟨K,mg⟩ gk):=⟨_,_,yX F1 B ,PySem.W.mg_of X G a1,k1,F1.binds (ps:=["_law_script", "_law_k"]) fun _ _ _ _ _ _ us hl=>match us,hl with | [_,_],_=>rfl⟩
 have c_law_draw:Cal l.prog w K mg base 1 "_law_draw" ["_law_tape_here", "_law_many"] (spI ⟨K,mg⟩ (fun i=>i == 0) (fun i=>i == 0) az):=⟨_,_,yQ F2 B ,PySem.W.mg_of X G a2,k2,F2.binds (ps:=["_law_tape_here", "_law_many"]) fun _ _ _ _ _ _ us hl=>match us,hl with | [_,_],_=>rfl⟩
 have c_law_turn:Cal l.prog w K mg base 2 "_law_turn" ["_law_tape_here"] (spI ⟨K,mg⟩ (fun i=>i == 0) (fun i=>i == 0) ig):=⟨_,_,xZ F3 B c_law_draw,PySem.W.mg_of X G a3,k3,F3.binds (ps:=["_law_tape_here"]) fun _ _ _ _ _ _ us hl=>match us,hl with | [_],_=>rfl⟩
 have c_law_joinings:Cal l.prog w K mg base 2 "_law_joinings" ["_law_tape_here", "_law_names_here", "_law_turn_here"] (spI ⟨K,mg⟩ (fun i=>i == 0) (fun i=>i == 0) fj):=⟨_,_,tQ F4 B c_law_draw,PySem.W.mg_of X G a4,k4,F4.binds (ps:=["_law_tape_here", "_law_names_here", "_law_turn_here"]) fun _ _ _ _ _ _ us hl=>match us,hl with | [_,_,_],_=>rfl⟩
 have c_law_names:Cal l.prog w K mg base 2 "_law_names" ["_law_tape_here"] (spI ⟨K,mg⟩ (fun i=>i == 0) (fun i=>i == 0) gF):=⟨_,_,xN F5 B c_law_draw,PySem.W.mg_of X G a5,k5,F5.binds (ps:=["_law_tape_here"]) fun _ _ _ _ _ _ us hl=>match us,hl with | [_],_=>rfl⟩
 have c_law_rings:Cal l.prog w K mg base 2 "_law_rings" ["_law_tape_here", "_law_joinings_here", "_law_name"] (spI ⟨K,mg⟩ (fun i=>i == 0) (fun i=>i == 0) gO):=⟨_,_,xP F6 B c_law_draw,PySem.W.mg_of X G a6,k6,F6.binds (ps:=["_law_tape_here", "_law_joinings_here", "_law_name"]) fun _ _ _ _ _ _ us hl=>match us,hl with | [_,_,_],_=>rfl⟩
 have c_law_odd:Cal l.prog w K mg base 2 "_law_odd" ["_law_tape_here"] (spI ⟨K,mg⟩ (fun i=>i == 0) (fun i=>i == 0) fV):=⟨_,_,Am F7 B c_law_draw,PySem.W.mg_of X G a7,k7,F7.binds (ps:=["_law_tape_here"]) fun _ _ _ _ _ _ us hl=>match us,hl with | [_],_=>rfl⟩
 have c_law_bent:Cal l.prog w K mg base 2 "_law_bent" ["_law_tape_here", "_law_some", "_law_thing"] (spI ⟨K,mg⟩ (fun i=>i == 0) (fun i=>i == 0) ik):=⟨_,_,zz F8 B c_law_draw,PySem.W.mg_of X G a8,k8,F8.binds (ps:=["_law_tape_here", "_law_some", "_law_thing"]) fun _ _ _ _ _ _ us hl=>match us,hl with | [_,_,_],_=>rfl⟩
 have c_law_papers:Cal l.prog w K mg base 3 "_law_papers" ["_law_tape_here", "_law_joinings_here", "_law_ring"] (spI ⟨K,mg⟩ (fun i=>i == 0) (fun i=>i == 0) gh):=⟨_,_,vD F9 B c_law_odd c_law_draw c_law_bent,PySem.W.mg_of X G a9,k9,F9.binds (ps:=["_law_tape_here", "_law_joinings_here", "_law_ring"]) fun _ _ _ _ _ _ us hl=>match us,hl with | [_,_,_],_=>rfl⟩
 have c_ends:Cal l.prog w K mg base 1 "ends" ["joining", "side"] (spP ⟨K,mg⟩ iR):=⟨_,_,Jr F10 B ,PySem.W.mg_of X G a10,k10,F10.binds (ps:=["joining", "side"]) fun _ _ _ _ _ _ us hl=>match us,hl with | [_,_],_=>rfl⟩
 have c_led:Cal l.prog w K mg base 2 "led" ["joinings", "name", "way"] (spP ⟨K,mg⟩ kj):=⟨_,_,Mq F11 B c_ends,PySem.W.mg_of X G a11,k11,F11.binds (ps:=["joinings", "name", "way"]) fun _ _ _ _ _ _ us hl=>match us,hl with | [_,_,_],_=>rfl⟩
 have c_counted:Cal l.prog w K mg base 1 "counted" ["turn", "n"] (spP ⟨K,mg⟩ gZ):=⟨_,_,zK F12 B ,PySem.W.mg_of X G a12,k12,F12.binds (ps:=["turn", "n"]) fun _ _ _ _ _ _ us hl=>match us,hl with | [_,_],_=>rfl⟩
 have c_steps_of:Cal l.prog w K mg base 2 "steps_of" ["joinings", "turn", "way"] (spP ⟨K,mg⟩ ie):=⟨_,_,yN F13 B c_counted,PySem.W.mg_of X G a13,k13,F13.binds (ps:=["joinings", "turn", "way"]) fun _ _ _ _ _ _ us hl=>match us,hl with | [_,_,_],_=>rfl⟩
 have c_is_couple:Cal l.prog w K mg base 1 "is_couple" ["thing"] (spP ⟨K,mg⟩ eF):=⟨_,_,xj F14 B ,PySem.W.mg_of X G a14,k14,F14.binds (ps:=["thing"]) fun _ _ _ _ _ _ us hl=>match us,hl with | [_],_=>rfl⟩
 have c_is_number:Cal l.prog w K mg base 1 "is_number" ["thing"] (spP ⟨K,mg⟩ fP):=⟨_,_,wY F15 B ,PySem.W.mg_of X G a15,k15,F15.binds (ps:=["thing"]) fun _ _ _ _ _ _ us hl=>match us,hl with | [_],_=>rfl⟩
 have c_is_pair:Cal l.prog w K mg base 2 "is_pair" ["thing"] (spP ⟨K,mg⟩ iK):=⟨_,_,zM F16 B c_is_couple c_is_number,PySem.W.mg_of X G a16,k16,F16.binds (ps:=["thing"]) fun _ _ _ _ _ _ us hl=>match us,hl with | [_],_=>rfl⟩
 have c_is_way:Cal l.prog w K mg base 3 "is_way" ["thing"] (spP ⟨K,mg⟩ gw):=⟨_,_,Dj F17 B c_is_pair,PySem.W.mg_of X G a17,k17,F17.binds (ps:=["thing"]) fun _ _ _ _ _ _ us hl=>match us,hl with | [_],_=>rfl⟩
 have c_are_unlike:Cal l.prog w K mg base 1 "are_unlike" ["things"] (spP ⟨K,mg⟩ cZ):=⟨_,_,vz F18 B ,PySem.W.mg_of X G a18,k18,F18.binds (ps:=["things"]) fun _ _ _ _ _ _ us hl=>match us,hl with | [_],_=>rfl⟩
 have c_names_met:Cal l.prog w K mg base 2 "names_met" ["joinings", "way"] (spP ⟨K,mg⟩ gM):=⟨_,_,xq F19 B c_ends,PySem.W.mg_of X G a19,k19,F19.binds (ps:=["joinings", "way"]) fun _ _ _ _ _ _ us hl=>match us,hl with | [_,_],_=>rfl⟩
 have c_shows_ring:Cal l.prog w K mg base 4 "shows_ring" ["names", "joinings", "turn", "name", "ring"] (spP ⟨K,mg⟩ cW):=⟨_,_,vG F20 B c_led c_steps_of c_is_way c_are_unlike c_names_met,PySem.W.mg_of X G a20,k20,F20.binds (ps:=["names", "joinings", "turn", "name", "ring"]) fun _ _ _ _ _ _ us hl=>match us,hl with | [_,_,_,_,_],_=>rfl⟩
 have c_law_is_way:Cal l.prog w K mg base 1 "_law_is_way" ["_law_thing"] (spP ⟨K,mg⟩ dM):=⟨_,_,vB F21 B ,PySem.W.mg_of X G a21,k21,F21.binds (ps:=["_law_thing"]) fun _ _ _ _ _ _ us hl=>match us,hl with | [_],_=>rfl⟩
 have c_law_met:Cal l.prog w K mg base 1 "_law_met" ["_law_joinings_here", "_law_name", "_law_way"] (spP ⟨K,mg⟩ iM):=⟨_,_,zW F22 B ,PySem.W.mg_of X G a22,k22,F22.binds (ps:=["_law_joinings_here", "_law_name", "_law_way"]) fun _ _ _ _ _ _ us hl=>match us,hl with | [_,_,_],_=>rfl⟩
 have c_law_counted:Cal l.prog w K mg base 1 "_law_counted" ["_law_turn_here", "_law_n"] (spP ⟨K,mg⟩ dB):=⟨_,_,uT F23 B ,PySem.W.mg_of X G a23,k23,F23.binds (ps:=["_law_turn_here", "_law_n"]) fun _ _ _ _ _ _ us hl=>match us,hl with | [_,_],_=>rfl⟩
 have c_law_is_ring:Cal l.prog w K mg base 2 "_law_is_ring" ["_law_joinings_here", "_law_turn_here", "_law_name", "_law_ring"] (spP ⟨K,mg⟩ d7):=⟨_,_,ud F24 B c_law_met c_law_counted,PySem.W.mg_of X G a24,k24,F24.binds (ps:=["_law_joinings_here", "_law_turn_here", "_law_name", "_law_ring"]) fun _ _ _ _ _ _ us hl=>match us,hl with | [_,_,_,_],_=>rfl⟩
 have c_law_says:Cal l.prog w K mg base 5 "_law_says" ["_law_names_here", "_law_joinings_here", "_law_turn_here", "_law_name", "_law_ring"] (spP ⟨K,mg⟩ dD):=⟨_,_,yg F25 B c_shows_ring c_law_is_way c_law_is_ring,PySem.W.mg_of X G a25,k25,F25.binds (ps:=["_law_names_here", "_law_joinings_here", "_law_turn_here", "_law_name", "_law_ring"]) fun _ _ _ _ _ _ us hl=>match us,hl with | [_,_,_,_,_],_=>rfl⟩
 have c_law_long_right:Cal l.prog w K mg base 6 "_law_long_right" ["_law_tape_here", "_law_turn_here"] (spI ⟨K,mg⟩ (fun i=>i == 0) (fun i=>i == 0) dR):=⟨_,_,qQ F26 B c_law_draw c_law_says,PySem.W.mg_of X G a26,k26,F26.binds (ps:=["_law_tape_here", "_law_turn_here"]) fun _ _ _ _ _ _ us hl=>match us,hl with | [_,_],_=>rfl⟩
 exact iI.imp (Lq F27 B c_law_tape c_law_turn c_law_joinings c_law_names c_law_draw c_law_rings c_law_papers c_law_long_right c_law_says) fun vs H Q E ⟨a,ns,e,hS,hl,q⟩=>by subst e; exact N5 hl hS q
theorem walk {l:PySem.W.OpenLaw} {q:Program} {loose:List Str} {XP:(Str->Option Value)->Heap->Prop} {YP:World->Heap->Prop} {d:DefRec} {K:Params->PySem.W.Frag} (hn:l.most=some 63) (hdf:d.params.defaults=[])
  (hY:∀ (w:World) (h:Heap),YP w h->(K w.params).In h)
  (F:∀ (w:World) (mg:Str->Option Value) (fa:Addr) (h:Heap),(K w.params).In h->h.Ns mainGlobals mg->mg d.name=some (.ref fa)->
   ∃ fd:FuncData,(∀ (s:Shared) (u:Value),BindsTo s fd ⟨[u],[]⟩ [("_law_script",u)])/\∀ base:Heap,(K w.params).In base->base.Ns mainGlobals mg->iI l.prog w (K w.params) mg base CX0 7 fa fd ["_law_script"] (HN (K w.params))) :
  PySem.W.WalkO q loose XP YP l.row.toRowW d [] (fun f vs=>PySem.call f vs):=
 L2.walk_of (n:=63) (k:=7) (x:="_law_script") (CX:=fun _=>CX0) (sp:=fun w=>HN (K w.params)) hn (by decide) hdf ⟨rfl,by decide,by decide,rfl⟩ hY F (fun _ _ a ns hl _ hS=>⟨a,ns,rfl,hS,hl,fun _=>rfl⟩) fun _ _ _ _ _ z=>z
end Jb
namespace PySem.W.Fast
theorem tw10085504900970670408:True:=⟨⟩
theorem tw10257706028789442190:True:=⟨⟩
theorem tw10268609860786409089:True:=⟨⟩
theorem tw10368487317424068079:True:=⟨⟩
theorem tw10425434139108135628:True:=⟨⟩
theorem tw10646410352598745409:True:=⟨⟩
theorem tw1065963284783654111:True:=⟨⟩
theorem tw10885035401550341496:True:=⟨⟩
theorem tw10925432444612339264:True:=⟨⟩
theorem tw11016838376250371012:True:=⟨⟩
theorem tw11055020893284031688:True:=⟨⟩
theorem tw11163154897625240824:True:=⟨⟩
theorem tw11164653126346839792:True:=⟨⟩
theorem tw11274203772329581219:True:=⟨⟩
theorem tw11386079587616881145:True:=⟨⟩
theorem tw11459523249616042998:True:=⟨⟩
theorem tw11564119934935295273:True:=⟨⟩
theorem tw11622818848480499013:True:=⟨⟩
theorem tw11661255232222487419:True:=⟨⟩
theorem tw11737455905662815939:True:=⟨⟩
theorem tw11802781156436746978:True:=⟨⟩
theorem tw11827603808321333730:True:=⟨⟩
theorem tw11889098692371485284:True:=⟨⟩
theorem tw11909863998138417318:True:=⟨⟩
theorem tw1192376763631994616:True:=⟨⟩
theorem tw12292371579074909755:True:=⟨⟩
theorem tw12298437487977335691:True:=⟨⟩
theorem tw12333677599050403515:True:=⟨⟩
theorem tw12419030165232642211:True:=⟨⟩
theorem tw12441490711419688979:True:=⟨⟩
theorem tw12499682115821109547:True:=⟨⟩
theorem tw12517641506230243437:True:=⟨⟩
theorem tw12761287913610747270:True:=⟨⟩
theorem tw12972317471546540183:True:=⟨⟩
theorem tw13039489073774125941:True:=⟨⟩
theorem tw13117956610789352890:True:=⟨⟩
theorem tw13443083899217497765:True:=⟨⟩
theorem tw13586250982200843617:True:=⟨⟩
theorem tw13630620543598911855:True:=⟨⟩
theorem tw13919058573093639534:True:=⟨⟩
theorem tw13934631157962215207:True:=⟨⟩
theorem tw14092682813488945298:True:=⟨⟩
theorem tw14247035344837438017:True:=⟨⟩
theorem tw14270844219401491034:True:=⟨⟩
theorem tw14458214420591296647:True:=⟨⟩
theorem tw14566645788181791524:True:=⟨⟩
theorem tw14918691638855905781:True:=⟨⟩
theorem tw14973942124241604607:True:=⟨⟩
theorem tw15038027372215481770:True:=⟨⟩
theorem tw15072340213502367218:True:=⟨⟩
theorem tw15116351859520053490:True:=⟨⟩
theorem tw15126242389774532534:True:=⟨⟩
theorem tw15525067829382767651:True:=⟨⟩
theorem tw15549488070369226446:True:=⟨⟩
theorem tw15727275690931293014:True:=⟨⟩
theorem tw15737929764428955549:True:=⟨⟩
theorem tw15791568183048935269:True:=⟨⟩
theorem tw16245826281260562222:True:=⟨⟩
theorem tw16465896124131280685:True:=⟨⟩
theorem tw16475363101431832898:True:=⟨⟩
theorem tw16480656800412733984:True:=⟨⟩
theorem tw1656652864212788724:True:=⟨⟩
theorem tw16574081199993594795:True:=⟨⟩
theorem tw16698065972356821850:True:=⟨⟩
theorem tw16740924890223785088:True:=⟨⟩
theorem tw16751188849788521441:True:=⟨⟩
theorem tw16772949468720880297:True:=⟨⟩
theorem tw16828320855780011650:True:=⟨⟩
theorem tw16835778610575865494:True:=⟨⟩
theorem tw16848629851124613427:True:=⟨⟩
theorem tw17078480339091350485:True:=⟨⟩
theorem tw17304942936329541276:True:=⟨⟩
theorem tw17501686007187957983:True:=⟨⟩
theorem tw17829312680007551434:True:=⟨⟩
theorem tw17831575421991742164:True:=⟨⟩
theorem tw17883657810908173124:True:=⟨⟩
theorem tw17965232816669202476:True:=⟨⟩
theorem tw18151030399932067835:True:=⟨⟩
theorem tw18194830970647384534:True:=⟨⟩
theorem tw18317337280918331477:True:=⟨⟩
theorem tw18393947066817486247:True:=⟨⟩
theorem tw2023769751441366932:True:=⟨⟩
theorem tw2048926440207098137:True:=⟨⟩
theorem tw2155508360362605836:True:=⟨⟩
theorem tw2212068785974334021:True:=⟨⟩
theorem tw2221267667986215872:True:=⟨⟩
theorem tw2226432276584253574:True:=⟨⟩
theorem tw2415270954628041949:True:=⟨⟩
theorem tw2441171674108506541:True:=⟨⟩
theorem tw2451414975699071612:True:=⟨⟩
theorem tw2457895138021486200:True:=⟨⟩
theorem tw2534402605061857991:True:=⟨⟩
theorem tw254480464853885119:True:=⟨⟩
theorem tw2630175918099171534:True:=⟨⟩
theorem tw2643485168132258147:True:=⟨⟩
theorem tw2675469823006382905:True:=⟨⟩
theorem tw2705411736124386064:True:=⟨⟩
theorem tw3052799382866304880:True:=⟨⟩
theorem tw3054608802834228938:True:=⟨⟩
theorem tw3146137483577360057:True:=⟨⟩
theorem tw3154574679265117042:True:=⟨⟩
theorem tw3309587721269824577:True:=⟨⟩
theorem tw3428868752785953187:True:=⟨⟩
theorem tw3635823123249580972:True:=⟨⟩
theorem tw3679318899724356779:True:=⟨⟩
theorem tw381154650167734195:True:=⟨⟩
theorem tw3846444952441803981:True:=⟨⟩
theorem tw3889223785065598438:True:=⟨⟩
theorem tw3964524359669110900:True:=⟨⟩
theorem tw4031780506985281224:True:=⟨⟩
theorem tw41663487952488072:True:=⟨⟩
theorem tw4270989745034551440:True:=⟨⟩
theorem tw4356702191877260437:True:=⟨⟩
theorem tw4412368497324596414:True:=⟨⟩
theorem tw4449546417018513934:True:=⟨⟩
theorem tw4473012074649359926:True:=⟨⟩
theorem tw4476971677082246012:True:=⟨⟩
theorem tw4481333668868105669:True:=⟨⟩
theorem tw4618818797754729833:True:=⟨⟩
theorem tw4655663379277804283:True:=⟨⟩
theorem tw4903887453786663813:True:=⟨⟩
theorem tw4987114115411756437:True:=⟨⟩
theorem tw5299733266291241912:True:=⟨⟩
theorem tw5336234676159920593:True:=⟨⟩
theorem tw557383187997921642:True:=⟨⟩
theorem tw5614571303486920876:True:=⟨⟩
theorem tw609703292121667360:True:=⟨⟩
theorem tw6110882510141475152:True:=⟨⟩
theorem tw6362861411686283342:True:=⟨⟩
theorem tw6479041004823539565:True:=⟨⟩
theorem tw6607755682001996215:True:=⟨⟩
theorem tw6617392365907453867:True:=⟨⟩
theorem tw6957785834597034783:True:=⟨⟩
theorem tw6977869430778847231:True:=⟨⟩
theorem tw7149653437614172381:True:=⟨⟩
theorem tw7204250243959466475:True:=⟨⟩
theorem tw742608283003093562:True:=⟨⟩
theorem tw748478796622803590:True:=⟨⟩
theorem tw7581196703701365237:True:=⟨⟩
theorem tw7613808008482115963:True:=⟨⟩
theorem tw765401987519562235:True:=⟨⟩
theorem tw7662052503541595787:True:=⟨⟩
theorem tw7818718514575884528:True:=⟨⟩
theorem tw7840907776244478097:True:=⟨⟩
theorem tw7925301736212940275:True:=⟨⟩
theorem tw7959301137797952075:True:=⟨⟩
theorem tw8036549661252889800:True:=⟨⟩
theorem tw8084341928795795505:True:=⟨⟩
theorem tw817661844403212588:True:=⟨⟩
theorem tw8208644013165953078:True:=⟨⟩
theorem tw8533618879113534865:True:=⟨⟩
theorem tw8535179159614418235:True:=⟨⟩
theorem tw8650120396057067583:True:=⟨⟩
theorem tw8682839122465213989:True:=⟨⟩
theorem tw9091964867247888790:True:=⟨⟩
theorem tw9232263516947086695:True:=⟨⟩
theorem tw9351194297787141651:True:=⟨⟩
theorem tw9386814070472608596:True:=⟨⟩
theorem tw939397873459388711:True:=⟨⟩
theorem tw9460759059416660042:True:=⟨⟩
theorem tw9606748185695182355:True:=⟨⟩
theorem tw969765204082277773:True:=⟨⟩
theorem tw9750037719807158966:True:=⟨⟩
theorem tw9772342972334597921:True:=⟨⟩
theorem tw993781230637091354:True:=⟨⟩
theorem tw9956906566837263460:True:=⟨⟩
end PySem.W.Fast
open PySem PySem.W PyProof.Rows
set_option maxRecDepth 100000 in
set_option maxHeartbeats 0 in
theorem PySem.Challenge.cw_joinback_k08_rings_shown_holds : PySem.Challenge.rw_joinback_k08_rings_shown.Holds := by
 w_on; o_law; k_head; (case hw=>w_witness2)
 k_fill
 refine Jb.walk (l:=PySem.Challenge.rw_joinback_k08_rings_shown) rfl rfl (fun w h Y=>PySem.W.kIn_of Y) ?F
 case F=>
  intro w mg fa h KX G hmg
  refine' Jb.all_mk KX G hmg ?a1 ?l1 ?c1 ?k1 ?a2 ?l2 ?c2 ?k2 ?a3 ?l3 ?c3 ?k3 ?a4 ?l4 ?c4 ?k4 ?a5 ?l5 ?c5 ?k5 ?a6 ?l6 ?c6 ?k6 ?a7 ?l7 ?c7 ?k7 ?a8 ?l8 ?c8 ?k8 ?a9 ?l9 ?c9 ?k9 ?a10 ?l10 ?c10 ?k10 ?a11 ?l11 ?c11 ?k11 ?a12 ?l12 ?c12 ?k12 ?a13 ?l13 ?c13 ?k13 ?a14 ?l14 ?c14 ?k14 ?a15 ?l15 ?c15 ?k15 ?a16 ?l16 ?c16 ?k16 ?a17 ?l17 ?c17 ?k17 ?a18 ?l18 ?c18 ?k18 ?a19 ?l19 ?c19 ?k19 ?a20 ?l20 ?c20 ?k20 ?a21 ?l21 ?c21 ?k21 ?a22 ?l22 ?c22 ?k22 ?a23 ?l23 ?c23 ?k23 ?a24 ?l24 ?c24 ?k24 ?a25 ?l25 ?c25 ?k25 ?a26 ?l26 ?c26 ?k26 ?a27 ?l27 ?c27 ?k27 ?z1 ?z2 ?z3 ?z4 ?z5 ?z6 ?z7 ?z8 ?z9 ?z10 ?z11 ?z12 ?z13 ?z14 ?z15
  (case a1=>k_is)
  (case l1=>k_is)
  (case c1=>k_is)
  (case k1=>k_is)
  (case a2=>k_is)
  (case l2=>k_is)
  (case c2=>k_is)
  (case k2=>k_is)
  (case a3=>k_is)
  (case l3=>k_is)
  (case c3=>k_is)
  (case k3=>k_is)
  (case a4=>k_is)
  (case l4=>k_is)
  (case c4=>k_is)
  (case k4=>k_is)
  (case a5=>k_is)
  (case l5=>k_is)
  (case c5=>k_is)
  (case k5=>k_is)
  (case a6=>k_is)
  (case l6=>k_is)
  (case c6=>k_is)
  (case k6=>k_is)
  (case a7=>k_is)
  (case l7=>k_is)
  (case c7=>k_is)
  (case k7=>k_is)
  (case a8=>k_is)
  (case l8=>k_is)
  (case c8=>k_is)
  (case k8=>k_is)
  (case a9=>k_is)
  (case l9=>k_is)
  (case c9=>k_is)
  (case k9=>k_is)
  (case a10=>k_is)
  (case l10=>k_is)
  (case c10=>k_is)
  (case k10=>k_is)
  (case a11=>k_is)
  (case l11=>k_is)
  (case c11=>k_is)
  (case k11=>k_is)
  (case a12=>k_is)
  (case l12=>k_is)
  (case c12=>k_is)
  (case k12=>k_is)
  (case a13=>k_is)
  (case l13=>k_is)
  (case c13=>k_is)
  (case k13=>k_is)
  (case a14=>k_is)
  (case l14=>k_is)
  (case c14=>k_is)
  (case k14=>k_is)
  (case a15=>k_is)
  (case l15=>k_is)
  (case c15=>k_is)
  (case k15=>k_is)
  (case a16=>k_is)
  (case l16=>k_is)
  (case c16=>k_is)
  (case k16=>k_is)
  (case a17=>k_is)
  (case l17=>k_is)
  (case c17=>k_is)
  (case k17=>k_is)
  (case a18=>k_is)
  (case l18=>k_is)
  (case c18=>k_is)
  (case k18=>k_is)
  (case a19=>k_is)
  (case l19=>k_is)
  (case c19=>k_is)
  (case k19=>k_is)
  (case a20=>k_is)
  (case l20=>k_is)
  (case c20=>k_is)
  (case k20=>k_is)
  (case a21=>k_is)
  (case l21=>k_is)
  (case c21=>k_is)
  (case k21=>k_is)
  (case a22=>k_is)
  (case l22=>k_is)
  (case c22=>k_is)
  (case k22=>k_is)
  (case a23=>k_is)
  (case l23=>k_is)
  (case c23=>k_is)
  (case k23=>k_is)
  (case a24=>k_is)
  (case l24=>k_is)
  (case c24=>k_is)
  (case k24=>k_is)
  (case a25=>k_is)
  (case l25=>k_is)
  (case c25=>k_is)
  (case k25=>k_is)
  (case a26=>k_is)
  (case l26=>k_is)
  (case c26=>k_is)
  (case k26=>k_is)
  (case a27=>k_is)
  (case l27=>k_is)
  (case c27=>k_is)
  (case k27=>k_is)
  (case z1=>k_is)
  (case z2=>k_is)
  (case z3=>k_is)
  (case z4=>k_is)
  (case z5=>k_is)
  (case z6=>k_is)
  (case z7=>k_is)
  (case z8=>k_is)
  (case z9=>k_is)
  (case z10=>k_is)
  (case z11=>k_is)
  (case z12=>k_is)
  (case z13=>k_is)
  (case z14=>k_is)
  (case z15=>k_is)
