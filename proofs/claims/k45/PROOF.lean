import PyProof.Rows.All
import Wide.All
import OpenK.AllK
import Wide.FinOn
import Lean
import PyProof.EqAt
import PyProof.EqKinds
import PyProof.TupleCall
import KE.KRevIter
import PyProof.ZipIter
import KE.KSortKey
import PySem.Challenge.RW_ringfell_k45_partings_counted
set_option Elab.async false
set_option linter.all false
set_option maxRecDepth 100000
namespace L2
open PySem PySem.Spec PyProof.Rows
abbrev Key:=Sum Int Str
def kI:Key->Value->Bool
 | .inl k,v=>Value.isInt k v
 | .inr x,v=>Value.isStrOf x v
def keyH (w:World):Key->Int
 | .inl k=>hashInt k
 | .inr x=>hashStr w x
theorem bj:∀ {k:Key} {v:Value},kI k v=true->(∃ i t,k=Sum.inl i/\v=Value.int i t)\/(∃ x t,k=Sum.inr x/\v=Value.str x t)
 | .inl i,v,h=>by
  obtain ⟨t,e⟩:=Value.isInt_shape (k:=i) (v:=v) h
  exact .inl ⟨i,t,rfl,e⟩
 | .inr x,v,h=>by
  obtain ⟨t,e⟩:=Value.isStrOf_shape (x:=x) (v:=v) h
  exact .inr ⟨x,t,rfl,e⟩
theorem rn (i:Int) (t:Tok):kI (.inl i) (.int i t)=true:=by simp [kI,Value.isInt]
theorem rp (x:Str) (t:Tok):kI (.inr x) (.str x t)=true:=by simp [kI,Value.isStrOf]
theorem xN (a b:Int):decide ((Sum.inl a:Key)=Sum.inl b)=(a == b):=by
 by_cases e:a=b
 ·subst e; simp
 ·have h:¬ (Sum.inl a:Key)=Sum.inl b:=fun q=>e (Sum.inl.inj q)
  rw [decide_eq_false h]
  exact (beq_eq_false_iff_ne.mpr e).symm
theorem xO (a b:Str):decide ((Sum.inr a:Key)=Sum.inr b)=decide (a=b):=by
 by_cases e:a=b
 ·subst e; simp
 ·have h:¬ (Sum.inr a:Key)=Sum.inr b:=fun q=>e (Sum.inr.inj q)
  rw [decide_eq_false h,decide_eq_false e]
theorem xP (a:Int) (b:Str):decide ((Sum.inl a:Key)=Sum.inr b)=false:=decide_eq_false (fun q=>nomatch q)
theorem xQ (a:Str) (b:Int):decide ((Sum.inr a:Key)=Sum.inl b)=false:=decide_eq_false (fun q=>nomatch q)
def bg (prog:Program) (w:World):PySem.KeyKind prog w Key where
 is:=kI
 hash:=keyH w
 inj:=fun v a b ha hb=>by
  rcases bj ha with ⟨i,t,rfl,rfl⟩ | ⟨x,t,rfl,rfl⟩
  ·rcases bj hb with ⟨j,u,rfl,e⟩ | ⟨y,u,rfl,e⟩
   ·injection e with e1 _; rw [e1]
   ·exact nomatch e
  ·rcases bj hb with ⟨j,u,rfl,e⟩ | ⟨y,u,rfl,e⟩
   ·exact nomatch e
   ·injection e with e1 _; rw [e1]
 byValue:=fun k v h=>by
  rcases bj h with ⟨i,t,rfl,rfl⟩ | ⟨x,t,rfl,rfl⟩ <;> rfl
 pyHash:=fun hv h=>by
  rcases bj hv with ⟨i,t,rfl,rfl⟩ | ⟨x,t,rfl,rfl⟩
  ·exact wpAny_pyHash_int h
  ·exact wpAny_pyHash_str h
 eqBool:=fun hu hv h=>by
  rcases bj hu with ⟨i,t,rfl,rfl⟩ | ⟨x,t,rfl,rfl⟩
  ·rcases bj hv with ⟨j,u,rfl,rfl⟩ | ⟨y,u,rfl,rfl⟩
   ·rw [xN] at h; exact wpAny_eqBool_int h
   ·rw [xP] at h; exact SeqAt.EqAt.int_str i t y u _ _ _ _ h
  ·rcases bj hv with ⟨j,u,rfl,rfl⟩ | ⟨y,u,rfl,rfl⟩
   ·rw [xQ] at h; exact SeqAt.EqAt.str_int x t j u _ _ _ _ h
   ·rw [xO] at h; exact wpAny_eqBool_str h
 «strs» := fun k x t v h=>by
  rcases bj h with ⟨i,u,rfl,e⟩ | ⟨y,u,rfl,e⟩
  ·exact nomatch e
  ·injection e with e1 _
   subst e1
   cases v <;> rfl
theorem nq (prog:Program) (w:World) (i:Int) (t:Tok):(bg prog w).is (.inl i) (.int i t)=true:=rn i t
theorem nr (prog:Program) (w:World) (x:Str) (t:Tok):(bg prog w).is (.inr x) (.str x t)=true:=rp x t
open PySem PySem.Spec PyProof.Rows
inductive V where
 | non | bl (b:Bool) | int (i:Int) | str (x:Str) | byt (b:Array UInt8) | flt (b:UInt64) | ref (a:Addr) | ty (n:String)
 deriving DecidableEq
def RelV:V->Value->Prop
 | .non,u=>u=Value.none
 | .bl b,u=>u=Value.bool b
 | .int i,u=>∃ t,u=Value.int i t
 | .str x,u=>∃ t,u=Value.str x t
 | .byt b,u=>∃ t,u=Value.bytes b t
 | .flt b,u=>∃ t,u=Value.float b t
 | .ref a,u=>u=Value.ref a
 | .ty n,u=>u=Value.type n
abbrev Vals:List V->List Value->Prop:=Paired RelV
theorem Vals.length {xs:List V} {us:List Value} (r:Vals xs us):xs.length=us.length:=Paired.length r
theorem Vals.get:∀ {xs:List V} {us:List Value} {i:Nat} {x:V},Vals xs us->xs[i]? = some x->∃ u,us[i]? = some u/\RelV x u
 | _,_,_,_,.nil,e=>by simp at e
 | _,_,0,_,.cons r _,e=>by simp at e; subst e; exact ⟨_,rfl,r⟩
 | _,_,i + 1,x,.cons _ t,e=>by
  obtain ⟨u,h1,h2⟩:=Vals.get (i:=i) (x:=x) t (by simpa using e)
  exact ⟨u,by simpa using h1,h2⟩
theorem Vals.set {x:V} {u:Value} (r:RelV x u):∀ {xs:List V} {us:List Value} (i:Nat),Vals xs us->Vals (xs.set i x) (us.set i u)
 | _,_,_,.nil => .nil
 | _,_,0,.cons _ t => .cons r t
 | _,_,i + 1,.cons q t => .cons q (Vals.set r i t)
theorem Vals.append:∀ {xs ys:List V} {us ws:List Value},Vals xs us->Vals ys ws->Vals (xs ++ ys) (us ++ ws)
 | _,_,_,_,.nil,s=>s
 | _,_,_,_,.cons r t,s => .cons r (Vals.append t s)
theorem Vals.take:∀ {xs:List V} {us:List Value} (n:Nat),Vals xs us->Vals (xs.take n) (us.take n)
 | _,_,0,_ => .nil
 | _,_,_ + 1,.nil => .nil
 | _,_,n + 1,.cons r t => .cons r (Vals.take n t)
theorem Vals.drop:∀ {xs:List V} {us:List Value} (n:Nat),Vals xs us->Vals (xs.drop n) (us.drop n)
 | _,_,0,r=>r
 | _,_,_ + 1,.nil => .nil
 | _,_,n + 1,.cons _ t=>Vals.drop n t
def jl:Option V->Option Value->Prop
 | some v,some u=>RelV v u
 | none,none=>True
 | _,_=>False
def KV {κ : Type}:List (κ × V)->List (κ × Value)->Prop:=Paired fun (p : κ × V) (q : κ × Value)=>p.1=q.1/\RelV p.2 q.2
def kV:Key->V
 | .inl i => .int i
 | .inr x => .str x
inductive HO where
  | lst (xs:List V)
  | tup (xs:List V)
  | dK (kvs:List (Key × V)) | dT (kvs:List (List Key × V))
  | set (S:Int->Bool) (n:Nat)
  | ins (C dx:Addr) (fs:List (Str × V))
  | own (x:Addr)
  | xd (fs:List (Str × V))
  | met (f x:Addr)
  | rng (lo hi:Int)
  | frz (o:Obj) (u:HO)
  | tbl (ps:Array Value)
  | ext (φ : Heap->Prop)
abbrev Hp:=Addr->Option HO
def upd (H:Hp) (a:Addr) (o:HO):Hp:=fun b=>if b=a then some o else H b
theorem ae {H:Hp} {a:Addr} {o:HO}:upd H a o a=some o:=by unfold upd; rw [if_pos rfl]
theorem aq {H:Hp} {a b:Addr} {o:HO} (h:b ≠ a):upd H a o b=H b:=by unfold upd; rw [if_neg h]
theorem eN {H:Hp} {a b:Addr} {o u:HO} (h:H a=some o) (h':H b=some u) (d:o ≠ u):a ≠ b:=by
 intro e; subst e; rw [h] at h'; exact d (Option.some.inj h')
theorem au {H:Hp} {a b:Addr} {o:HO} (h:H a=some o) (h':H b=none):a ≠ b:=by
 intro e; subst e; rw [h] at h'; cases h'
def dw (h:Heap) (a:Addr) (items:Array Value):Prop:=∃ o,h.get? a=some o/\(o.cls = .type "tuple" /\ o.dict=none)/\∃ n,o.data = .seq items n
theorem dw.tup {h:Heap} {a:Addr} {items:Array Value} (x:dw h a items):IsTup h a items:=let ⟨o,e,c,n,d⟩:=x; ⟨o,e,c.1,n,d⟩
theorem dw.new (h:Heap) (items:Array Value):dw (h.push { cls := .type "tuple",data := .seq items }) h.objs.size items:=⟨_,Heap.get?_push_size _ rfl,⟨rfl,rfl⟩,_,rfl⟩
section
variable (P:Program) (w:World)
def aY (H:Hp) (h:Heap) (a:Addr):HO->Prop
 | .lst xs=>xs.length<=sizeLine/\∃ (its:List Value) (n:Nat),Vals xs its/\h.get? a=some { cls := .type "list",data := .seq its.toArray n }
 | .tup xs=>xs.length<=sizeLine/\∃ its:List Value,Vals xs its/\dw h a its.toArray
 | .dK kvs=>kvs.length<=sizeLine/\(a == sysModules)=false/\∃ vs,KV kvs vs/\h.DictOf (bg P w) a vs
 | .dT kvs=>kvs.length<=sizeLine/\(a == sysModules)=false/\∃ xs:List (List Key × Addr × Value),
   Paired (fun (p:List Key × V) (q:List Key × Addr × Value)=>p.1=q.1/\H q.2.1=some (.tup (p.1.map kV))/\RelV p.2 q.2.2) kvs xs ∧
   ∃ o es ep,h.get? a=some o/\o.ExactDict/\o.data = .dict es ep/\es.toList=xs.map (entryOfKey (tupleKind (bg P w)))/\(xs.map (·.1)).Nodup
 | .set S n=>h.SetOf (intKind P w) a S n
 | .ins C dx fs=>H dx=some (.own a)/\fs.length<=1000/\dx ≠ a/\h.get? a=some (PySem.W.instObj C dx) ∧
   ∃ mA,h.Ns1 dx mA/\(∀ f,jl (fs.lookup f) (mA f))/\PySem.Within mA (fs.map (·.1))
 | .own _=>∃ o,h.get? a=some o
 | .xd fs=>∃ mA,h.Ns1 a mA/\∀ f,jl (fs.lookup f) (mA f)
 | .rng lo hi=>∃ t u v,h.get? a=some { cls := .type "range",data := .fields #[.int lo t,.int hi u,.int 1 v] }
 | .frz o u=>h.get? a=some o/\aY H h a u
 | .tbl ps=>h.get? a=some { cls := .none,data := .fields ps }
 | .met f x=>h.get? a=some (PySem.W.methodObj (.ref f) (.ref x))
 | .ext φ => φ h/\(∃ o,h.get? a=some o)/\∀ h1 h2:Heap, φ h1->(∀ o,h1.get? a=some o->h2.get? a=some o) -> φ h2
def HOk (H:Hp) (h:Heap):Prop:=∀ a o,H a=some o->aY P w H h a o
end
section
variable {P:Program} {w:World} {H H':Hp} {h h':Heap} {a:Addr} {o:HO}
theorem aY.lt (x:aY P w H h a o):a < h.objs.size:=by
 cases o with
 | lst xs=>obtain ⟨_,_,_,_,e⟩:=x; exact Heap.lt_size e
 | tup xs=>obtain ⟨_,_,_,p⟩:=x; exact (dw.tup p).lt
 | dK kvs=>obtain ⟨_,_,_,_,o,_,_,e,_⟩:=x; exact Heap.lt_size e
 | dT kvs=>obtain ⟨_,_,_,_,o,_,_,e,_⟩:=x; exact Heap.lt_size e
 | set S n=>obtain ⟨o,_,_,_,e,_⟩:=x; exact Heap.lt_size e
 | ins C dx fs=>obtain ⟨_,_,_,e,_⟩:=x; exact Heap.lt_size e
 | own y=>obtain ⟨_,e⟩:=x; exact Heap.lt_size e
 | xd fs=>obtain ⟨_,⟨_,_,_,e,_⟩,_⟩:=x; exact Heap.lt_size e
 | rng lo hi=>obtain ⟨_,_,_,e⟩:=x; exact Heap.lt_size e
 | frz ob u=>obtain ⟨e,_⟩:=x; exact Heap.lt_size e
 | tbl ps=>exact Heap.lt_size (show h.get? a=some _ from x)
 | met f y=>exact Heap.lt_size (show h.get? a=some _ from x)
 | ext φ => obtain ⟨_,⟨_,e⟩,_⟩:=x; exact Heap.lt_size e
theorem Paired.xR {α β : Type} {F G : α -> β -> Prop}:∀ {l₁:List α} {l₂:List β},Paired F l₁ l₂->(∀ a b,F a b->G a b)->Paired G l₁ l₂
 | _,_,.nil,_ => .nil
 | _,_,.cons r t,f => .cons (f _ _ r) (Paired.xR t f)
theorem aY.stay (x:aY P w H h a o) (k:∀ b u,(b=a\/H b=some (.own a))->h.get? b=some u->h'.get? b=some u)
  (ho:∀ b,H b=some (.own a)->H' b=some (.own a)) (ht:∀ b xs,H b=some (.tup xs)->H' b=some (.tup xs)):aY P w H' h' a o:=by
 induction o with
 | lst xs=>obtain ⟨z,its,n,r,e⟩:=x; exact ⟨z,its,n,r,k _ _ (.inl rfl) e⟩
 | tup xs=>obtain ⟨z,its,r,ob,e,c⟩:=x; exact ⟨z,its,r,ob,k _ _ (.inl rfl) e,c⟩
 | dK kvs=>obtain ⟨z,y,vs,r,ob,es,ep,e,c⟩:=x; exact ⟨z,y,vs,r,ob,es,ep,k _ _ (.inl rfl) e,c⟩
 | dT kvs =>
  obtain ⟨z,y,xs,r,ob,es,ep,e,c⟩:=x
  exact ⟨z,y,xs,Paired.xR r fun p q z=>⟨z.1,ht _ _ z.2.1,z.2.2⟩,ob,es,ep,k _ _ (.inl rfl) e,c⟩
 | set S n=>obtain ⟨ob,es,ep,t,e,c⟩:=x; exact ⟨ob,es,ep,t,k _ _ (.inl rfl) e,c⟩
 | ins C dx fs =>
  obtain ⟨d,z,ne,e,mA,⟨od,es,ep,e2,c⟩,r⟩:=x
  exact ⟨ho _ d,z,ne,k _ _ (.inl rfl) e,mA,⟨od,es,ep,k _ _ (.inr d) e2,c⟩,r⟩
 | own y=>obtain ⟨ob,e⟩:=x; exact ⟨ob,k _ _ (.inl rfl) e⟩
 | xd fs=>obtain ⟨mA,⟨od,es,ep,e,c⟩,r⟩:=x; exact ⟨mA,⟨od,es,ep,k _ _ (.inl rfl) e,c⟩,r⟩
 | rng lo hi=>obtain ⟨t,u,v,e⟩:=x; exact ⟨t,u,v,k _ _ (.inl rfl) e⟩
 | frz ob u ih=>obtain ⟨e,q⟩:=x; exact ⟨k _ _ (.inl rfl) e,ih q⟩
 | tbl ps =>
  have e:h.get? a=some { cls := .none,data := .fields ps }:=x
  show h'.get? a=some { cls := .none,data := .fields ps }
  exact k a _ (.inl rfl) e
 | met f y =>
  have e:h.get? a=some (PySem.W.methodObj (.ref f) (.ref y)):=x
  show h'.get? a=some (PySem.W.methodObj (.ref f) (.ref y))
  exact k a _ (.inl rfl) e
 | ext φ => obtain ⟨p,⟨o,e⟩,st⟩:=x; exact ⟨st _ _ p fun o q=>k _ _ (.inl rfl) q,⟨o,k _ _ (.inl rfl) e⟩,st⟩
theorem HOk.lt (x:HOk P w H h) (e:H a=some o):a < h.objs.size:=(x a o e).lt
theorem HOk.fresh (x:HOk P w H h) (e:h.objs.size<=a):H a=none:=by
 cases q:H a with
 | none=>rfl
 | some u=>exact absurd (Nat.lt_of_lt_of_le (x.lt q) e) (Nat.lt_irrefl _)
theorem HOk.kept (x:HOk P w H h) (k:∀ b u,h.get? b=some u->h'.get? b=some u):HOk P w H h':=fun a o e =>
 (x a o e).stay (fun b u _ q=>k b u q) (fun _ q=>q) fun _ _ q=>q
theorem HOk.laid (x:HOk P w H h) (k:∀ b u,h.get? b=some u->h'.get? b=some u) (hp:h.objs.size<=a) (new:aY P w (upd H a o) h' a o):HOk P w (upd H a o) h':=fun b u e=>by
 have hn:=x.fresh hp
 by_cases hb:b=a
 ·subst hb; rw [ae] at e; cases e; exact new
 ·rw [aq hb] at e
  exact (x b u e).stay (fun c v _ q=>k c v q) (fun c q=>by rw [aq (au q hn)]; exact q) fun c xs q=>by rw [aq (au q hn)]; exact q
end
def Rd (H:Hp) (a:Addr) (u:HO):Prop:=H a=some u\/∃ o,H a=some (.frz o u)
theorem Rd.ok {P:Program} {w:World} {H:Hp} {h:Heap} {a:Addr} {u:HO} (r:Rd H a u) (x:HOk P w H h):aY P w H h a u:=by
 rcases r with r | ⟨o,r⟩
 ·exact x a u r
 ·obtain ⟨_,q⟩:=x a _ r
  exact q
def Mut:Option HO->Prop
 | some (.lst _)=>True
 | some (.dK _)=>True
 | some (.dT _)=>True
 | some (.set _ _)=>True
 | some (.ins _ _ _)=>True
 | some (.ext _)=>True
 | _=>False
section
variable {P:Program} {w:World} {H:Hp} {h h':Heap} {x e:Addr} {o':HO}
theorem HOk.write (ok:HOk P w H h) (mu:Mut (H x)) (he:e=x\/H e=some (.own x)) (k:∀ b u,b ≠ e->h.get? b=some u->h'.get? b=some u) (heo:∃ u,h'.get? e=some u)
  (new:aY P w (upd H x o') h' x o'):HOk P w (upd H x o') h':=fun b u q=>by
 have nown:∀ c y,H c=some (.own y)->c ≠ x:=fun c y r z=>by subst z; rw [r] at mu; exact mu
 have ntup:∀ c xs,H c=some (.tup xs)->c ≠ x:=fun c xs r z=>by subst z; rw [r] at mu; exact mu
 by_cases hb:b=x
 ·subst hb; rw [ae] at q; cases q; exact new
 ·rw [aq hb] at q
  by_cases hbe:b=e
  ·have q':H b=some (.own x):=by
    rcases he with z | z
    ·exact absurd (hbe.trans z) hb
    ·rw [hbe]; exact z
   rw [q] at q'; cases q'
   obtain ⟨v,hv⟩:=heo
   exact ⟨v,by rw [hbe]; exact hv⟩
  ·refine (ok b u q).stay (fun c v hc r=>k c v ?_ r) (fun c r=>by rw [aq (nown c b r)]; exact r) fun c xs r=>by rw [aq (ntup c xs r)]; exact r
   rcases hc with rfl | hc
   ·exact hbe
   ·rintro rfl
    rcases he with z | z
    ·exact nown c b hc z
    ·rw [hc] at z; cases z; exact hb rfl
end
structure Un (fs ex:List Addr) (H H':Hp) (h h':Heap):Prop where
 keep:∀ b o,h.get? b=some o->H b=none->b ∉ fs->b ∉ ex->h'.get? b=some o
 slot:∀ b o,h.get? b=some o->H b=none->b ∈ fs->b ∉ ex->∃ sl,h'.get? b=some { o with slots:=sl }
 free:∀ b o,h.get? b=some o->H b=none->b ∉ ex->H' b=none
 there:∀ b o,h.get? b=some o->b ∉ ex->∃ o',h'.get? b=some o'
 tups:∀ b xs,H b=some (.tup xs)->H' b=some (.tup xs)
 frzs:∀ b o u,H b=some (.frz o u)->H' b=some (.frz o u)
 tbls:∀ b ps,H b=some (.tbl ps)->∃ more,H' b=some (.tbl (ps ++ more))
section
variable {fs fs' ex ex':List Addr} {H H1 H2:Hp} {h h1 h2 h':Heap} {a x e:Addr} {o:HO}
theorem Un.any (u:Un fs ex H H1 h h1) {b:Addr} {ob:Obj} (q:h.get? b=some ob) (n:H b=none) (hx:b ∉ ex):∃ sl,h1.get? b=some { ob with slots:=sl }:=by
 by_cases hb:b ∈ fs
 ·exact u.slot b ob q n hb hx
 ·exact ⟨ob.slots,u.keep b ob q n hb hx⟩
theorem Un.kept (k:∀ b u,h.get? b=some u->h'.get? b=some u):Un fs ex H H h h' :=
 ⟨fun b ob q _ _ _=>k b ob q,fun b ob q _ _ _=>⟨ob.slots,k b ob q⟩,fun _ _ _ n _=>n,fun b ob q _=>⟨ob,k b ob q⟩,fun _ _ q=>q,fun _ _ _ q=>q,fun _ ps q=>⟨#[],by rw [q]; simp⟩⟩
theorem Un.refl:Un fs ex H H h h:=Un.kept fun _ _ q=>q
theorem Un.laid (k:∀ b u,h.get? b=some u->h'.get? b=some u) (hp:h.objs.size<=a) (hn:H a=none):Un fs ex H (upd H a o) h h' where
 keep:=fun b u q _ _ _=>k b u q
 slot:=fun b u q _ _ _=>⟨u.slots,k b u q⟩
 free:=fun b u q n _=>by rw [aq (Nat.ne_of_lt (Nat.lt_of_lt_of_le (Heap.lt_size q) hp))]; exact n
 there:=fun b u q _=>⟨u,k b u q⟩
 tups:=fun b xs q=>by rw [aq (au q hn)]; exact q
 frzs:=fun b u xs q=>by rw [aq (au q hn)]; exact q
 tbls:=fun b ps q=>⟨#[],by rw [aq (au q hn),q]; simp⟩
theorem Un.write (mu:Mut (H x)) (he:e=x\/H e=some (.own x)) (k:∀ b u,b ≠ e->h.get? b=some u->h'.get? b=some u) (heo:∃ u,h'.get? e=some u):Un fs ex H (upd H x o) h h':=by
 have hx:∀ b,H b=none->b ≠ x:=fun b n z=>by subst z; rw [n] at mu; exact mu
 have hb:∀ b,H b=none->b ≠ e:=fun b n z=>by
  subst z
  rcases he with r | r
  ·exact hx b n r
  ·rw [n] at r; cases r
 have hm:∀ b u,H b=some u->¬ Mut (some u)->b ≠ x:=fun b u q nm z=>by subst z; rw [q] at mu; exact nm mu
 refine ⟨fun b u q n _ _=>k b u (hb b n) q,fun b u q n _ _=>⟨u.slots,k b u (hb b n) q⟩,fun b u q n _=>by rw [aq (hx b n)]; exact n,fun b u q _ => ?_,
  fun b xs q=>by rw [aq (hm b _ q fun z=>z)]; exact q,fun b u xs q=>by rw [aq (hm b _ q fun z=>z)]; exact q,fun b ps q=>⟨#[],by rw [aq (hm b _ q fun z=>z),q]; simp⟩⟩
 by_cases hbe:b=e
 ·subst hbe; exact heo
 ·exact ⟨u,k b u hbe q⟩
end
def trk (h:Heap) (H:Hp):List Addr:=(List.range h.objs.size).filter fun a=>(H a).isSome
def mq (h:Heap) (H:Hp):Heap:=PySem.W.hideAll h (trk h H)
theorem rq (h:Heap) (H:Hp):(mq h H).objs.size=h.objs.size:=PySem.W.hideAll_size _ _
theorem tJ {h:Heap} {H:Hp} {b:Addr} {o:Obj} (e:h.get? b=some o) (n:H b=none):(mq h H).get? b=some o :=
 PySem.W.hideAll_get _ e fun hm=>by
  have q:(H b).isSome=true:=(List.mem_filter.mp hm).2
  rw [n] at q; simp at q
theorem vR {h:Heap} {H:Hp} {b:Addr} {o:Obj} (e:(mq h H).get? b=some o):h.get? b=some o/\H b=none:=by
 have e':h.get? b=some o:=PySem.W.of_hideAll (trk h H) e
 refine ⟨e',?_⟩
 cases q:H b with
 | none=>rfl
 | some x =>
  have hm:b ∈ trk h H:=List.mem_filter.mpr ⟨List.mem_range.mpr (Heap.lt_size e'),by simp [q]⟩
  have z:(mq h H).get? b=none:=PySem.W.hideAll_none (trk h H) hm
  rw [z] at e; cases e
def vS (g h:Heap) (L:Addr):List (Addr × Obj):=(List.range h.objs.size).filterMap fun a=>if a=L\/(g.get? a).isSome=true then none else (h.get? a).map fun o=>(a,o)
def rest (g h:Heap) (L d:Addr):List (Addr × Obj):=(vS g h L).filter fun p=>decide (p.1 ≠ d)
open PySem PySem.Spec PyProof.Rows
structure Mod (K:PySem.W.Frag) (mg:Str->Option Value) (base:Heap):Prop where
 kin:K.In base
 glob:base.Ns mainGlobals mg
 blt:∃ mb,base.Ns builtinsNs mb/\∀ x:Str,x ≠ "__name__" -> mb x=bootBuiltins x
 nolimit:base.NoLimit
structure Cx where
 prog:Program
 w:World
 K:PySem.W.Frag
 mg:Str->Option Value
 base:Heap
 A:Around
 N:List Str
 s₀:Shared
 H₀:Hp
 env:Env
 outer:List Env
 stack:List Env
 ex:List Addr
 fn:Str->Bool
 calm:Bool
 pn:List (Addr × Obj)
 xe:Value->Shared->Prop
def frs (l:List Env):List Addr:=l.filterMap (·.frame)
abbrev Cx.fs (X:Cx):List Addr:=frs X.outer
def Vis (sc:Scope) (x:Str):Prop:=sc.names.lookup x=some .local\/sc.names.lookup x=some .cell\/sc.names.lookup x=some .free
def Loc (sc:Scope) (x:Str):Prop:=sc.names.lookup x=some .local\/sc.names.lookup x=some .cell
def Look (env:Env) (h:Heap) (m:Str->Option Value) (x:Str) (u:Value):Prop :=
 (env.kindOf x=some .local/\m x=some u)\/((env.kindOf x=some .cell\/env.kindOf x=some .free)/\∃ c,env.cells.lookup x=some c/\h.IsCell c (some u))
structure Cx.Ok (X:Cx):Prop where
 mod:Mod X.K X.mg X.base
 kind:X.env.scope.kind = .function
 glob:X.env.globals=mainGlobals
 blt:X.env.builtins=builtinsNs
 above:X.s₀.heap.objs.size<=X.env.locals
 inj:∀ x y c,X.env.cells.lookup x=some c->X.env.cells.lookup y=some c->x=y
 has:∀ x,(X.env.kindOf x=some .cell\/X.env.kindOf x=some .free)->∃ c,X.env.cells.lookup x=some c
 cab:∀ x c,X.fn x=true->X.env.cells.lookup x=some c->X.s₀.heap.objs.size<=c
 hd:X.calm=true->X.A.handled=none
 frames:X.A.frames=some X.stack
 stk:X.stack=X.outer\/(X.stack=X.env :: X.outer/\X.env.frame=some X.env.locals)
 exf:∀ b ∈ X.ex,b ≠ X.env.locals/\∀ x c,X.env.cells.lookup x=some c->c ≠ b
 bs:∀ b o,X.base.get? b=some o->X.s₀.heap.get? b=some o/\X.H₀ b=none
 bsz:X.base.objs.size<=X.s₀.heap.objs.size
 noex:∀ b o,X.base.get? b=some o->b ∉ X.ex
 exfs:∀ b ∈ X.ex,b ∉ X.fs
 funs:X.s₀.heap.FunFrames X.base X.outer
 frf:∀ b ∈ X.fs,X.H₀ b=none
structure Inv (X:Cx) (pins:List (Addr × Obj)) (σ:List (Option V)) (H:Hp) (s:Shared):Prop where
 ok:X.Ok
 os:s.os=X.s₀.os
 bare:AllBare s.gens
 base:Un X.fs X.ex X.H₀ H X.s₀.heap s.heap
 loc:∃ m,s.heap.Ns X.env.locals m/\∀ (i:Nat) (x:Str) (v:V),X.N[i]? = some x->σ[i]? = some (some v)->Vis X.env.scope x->∃ u,RelV v u/\Look X.env s.heap m x u
 cell:∀ x c,X.env.cells.lookup x=some c->∃ v,s.heap.IsCell c v
 free:H X.env.locals=none
 freeC:∀ x c,X.env.cells.lookup x=some c->H c=none
 pin:∀ p ∈ X.pn ++ pins,s.heap.get? p.1=some p.2/\H p.1=none/\p.1 ≠ X.env.locals/\p.1 ∉ X.fs/\∀ v,p.2.data ≠ .cell v
 hok:HOk X.prog X.w H s.heap
 len:σ.length=X.N.length
section
variable {X:Cx} {pins:List (Addr × Obj)} {σ:List (Option V)} {H H':Hp} {s:Shared} {h':Heap}
theorem Cx.Ok.nofr (ok:X.Ok) {b:Addr} {o:Obj} (e:X.base.get? b=some o):b ∉ X.fs:=fun hb=>by
 have:=(ok.funs.mem hb).1
 rw [e] at this; cases this
theorem Inv.bs (I:Inv X pins σ H s):∀ b o,X.base.get? b=some o->s.heap.get? b=some o/\H b=none:=fun b o e =>
 ⟨I.base.keep b o (I.ok.bs b o e).1 (I.ok.bs b o e).2 (I.ok.nofr e) (I.ok.noex b o e),I.base.free b o (I.ok.bs b o e).1 (I.ok.bs b o e).2 (I.ok.noex b o e)⟩
theorem Inv.bk (I:Inv X pins σ H s):∀ b o,X.base.get? b=some o->s.heap.get? b=some o:=fun b o e=>(I.bs b o e).1
theorem Inv.mod (I:Inv X pins σ H s):Mod X.K X.mg X.base:=I.ok.mod
theorem Inv.kIn (I:Inv X pins σ H s):X.K.In s.heap:=I.ok.mod.kin.keeps I.bk
theorem Inv.lt (I:Inv X pins σ H s):X.env.locals < s.heap.objs.size:=let ⟨_,hn,_⟩:=I.loc; hn.lt
theorem Inv.sz (I:Inv X pins σ H s):X.s₀.heap.objs.size<=s.heap.objs.size:=Nat.le_trans I.ok.above (Nat.le_of_lt I.lt)
theorem Inv.xS (I:Inv X pins σ H s) {a:Addr} (h:s.heap.objs.size<=a):a ∉ X.fs:=fun hb=>by
 obtain ⟨_,o,ho,_⟩:=I.ok.funs.mem hb
 exact absurd (Nat.lt_of_lt_of_le (Heap.lt_size ho) (Nat.le_trans I.sz h)) (Nat.lt_irrefl _)
theorem Inv.cne (I:Inv X pins σ H s):∀ x c,X.env.cells.lookup x=some c->c ≠ X.env.locals:=fun x c e z=>by
 obtain ⟨v,o,ho,hd⟩:=I.cell x c e
 obtain ⟨m,⟨o',es,ep,ho',hd',_⟩,_⟩:=I.loc
 rw [z,ho'] at ho; cases ho; rw [hd'] at hd; cases hd
theorem Inv.funs (I:Inv X pins σ H s):s.heap.FunFrames X.base X.outer:=by
 have all:∀ (l:List Env),(∀ b ∈ frs l,b ∈ X.fs)->X.s₀.heap.FunFrames X.base l->s.heap.FunFrames X.base l:=by
  intro l
  induction l with
  | nil=>intro _ _; trivial
  | cons env r ih =>
   intro hs hl
   obtain ⟨hk,⟨L,o,hf,hn,ho,hd⟩,hr⟩:=hl
   have hL:L ∈ X.fs:=hs L (by unfold frs; rw [List.filterMap_cons,hf]; exact List.mem_cons_self)
   obtain ⟨sl,e⟩:=I.base.slot L o ho (I.ok.frf L hL) hL fun z=>I.ok.exfs L z hL
   exact ⟨hk,⟨L,_,hf,hn,e,hd⟩,ih (fun b hb=>hs b (by unfold frs; rw [List.filterMap_cons,hf]; exact List.mem_cons_of_mem _ hb)) hr⟩
 exact all X.outer (fun _ hb=>hb) I.ok.funs
theorem Inv.stack (I:Inv X pins σ H s):s.heap.FunFrames X.base X.stack:=by
 rcases I.ok.stk with e | ⟨e,hf⟩
 ·rw [e]; exact I.funs
 ·rw [e]
  obtain ⟨m,hn,_⟩:=I.loc
  refine .cons (by rw [I.ok.kind]; decide) hf hn ?_ I.funs
  exact Heap.get?_none_of_le (Nat.le_trans I.ok.bsz I.ok.above)
theorem Inv.mw (I:Inv X pins σ H s):∀ b ∈ frs X.stack,b ∈ X.env.locals :: X.fs:=fun b hb=>by
 rcases I.ok.stk with e | ⟨e,hf⟩
 ·rw [e] at hb; exact List.mem_cons_of_mem _ hb
 ·rw [e] at hb
  unfold frs at hb
  rw [List.filterMap_cons,hf] at hb
  exact hb
theorem Inv.qo (I:Inv X pins σ H s):∀ b ∈ frs X.stack,H b=none:=fun b hb=>by
 rcases List.mem_cons.mp (I.mw b hb) with e | hb
 ·rw [e]; exact I.free
 ·obtain ⟨_,o,ho,_⟩:=I.ok.funs.mem hb
  exact I.base.free b o ho (I.ok.frf b hb) fun z=>I.ok.exfs b z hb
theorem Inv.step {g':Array GenState} {t':Nat} {d':Drawn} {ch:List Addr} (I:Inv X pins σ H s)
  (hch:∀ b ∈ ch,(b ∈ X.ex\/X.s₀.heap.objs.size<=b)/\b ≠ X.env.locals/\(∀ x c,X.env.cells.lookup x=some c->c ≠ b)/\∀ p ∈ X.pn ++ pins,p.1 ≠ b)
  (keep:∀ b o,b ≠ X.env.locals->b ∉ X.fs->b ∉ ch->s.heap.get? b=some o->H b=none->h'.get? b=some o)
  (slot:∀ b o,b ≠ X.env.locals->b ∈ X.fs->b ∉ ch->s.heap.get? b=some o->H b=none->∃ sl,h'.get? b=some { o with slots:=sl }) (free:∀ b o,b ∉ ch->s.heap.get? b=some o->H b=none->H' b=none)
  (there:∀ b o,b ∉ ch->s.heap.get? b=some o->∃ o',h'.get? b=some o')
  (tups:∀ b xs,H b=some (.tup xs)->H' b=some (.tup xs)) (frzs:∀ b o u,H b=some (.frz o u)->H' b=some (.frz o u)) (tbls:∀ b ps,H b=some (.tbl ps)->∃ more,H' b=some (.tbl (ps ++ more)))
  (ns:∀ m,s.heap.Ns X.env.locals m->h'.Ns X.env.locals m) (hok:HOk X.prog X.w H' h') (hg:AllBare g') :
  Inv X pins σ H' { s with heap:=h',gens:=g',drawn:=d',toks:=t' }:=by
 have neL:∀ b o,X.s₀.heap.get? b=some o->b ≠ X.env.locals:=fun b o e=>Nat.ne_of_lt (Nat.lt_of_lt_of_le (Heap.lt_size e) I.ok.above)
 have neC:∀ b o,X.s₀.heap.get? b=some o->b ∉ X.ex->b ∉ ch:=fun b o e hx hb=>by
  rcases (hch b hb).1 with z | z
  ·exact hx z
  ·exact absurd (Nat.lt_of_lt_of_le (Heap.lt_size e) z) (Nat.lt_irrefl _)
 have cellK:∀ x c,X.env.cells.lookup x=some c->∀ v,s.heap.IsCell c v->h'.IsCell c v:=fun x c e v ⟨o,ho,hd⟩=>by
  have nch:c ∉ ch:=fun z=>(hch c z).2.2.1 x c e rfl
  by_cases hc:c ∈ X.fs
  ·obtain ⟨sl,q⟩:=slot c o (I.cne x c e) hc nch ho (I.freeC x c e)
   exact ⟨_,q,hd⟩
  ·exact ⟨o,keep c o (I.cne x c e) hc nch ho (I.freeC x c e),hd⟩
 refine ⟨I.ok,I.os,hg,⟨fun b o e n hb hx => ?_,fun b o e n hb hx => ?_,fun b o e n hx => ?_,fun b o e hx => ?_,fun b xs e=>tups b xs (I.base.tups b xs e),fun b o xs e=>frzs b o xs (I.base.frzs b o xs e),fun b ps e => ?_⟩,?_,fun x c e => ?_,?_,fun x c e => ?_,fun p hp => ?_,hok,I.len⟩
 ·exact keep b o (neL b o e) hb (neC b o e hx) (I.base.keep b o e n hb hx) (I.base.free b o e n hx)
 ·obtain ⟨sl,e1⟩:=I.base.slot b o e n hb hx
  obtain ⟨sl',e2⟩:=slot b _ (neL b o e) hb (neC b o e hx) e1 (I.base.free b o e n hx)
  exact ⟨sl',e2⟩
 ·obtain ⟨o',e1⟩:=I.base.there b o e hx
  exact free b o' (neC b o e hx) e1 (I.base.free b o e n hx)
 ·obtain ⟨o',e1⟩:=I.base.there b o e hx
  exact there b o' (neC b o e hx) e1
 ·obtain ⟨m1,e1⟩:=I.base.tbls b ps e
  obtain ⟨m2,e2⟩:=tbls b _ e1
  exact ⟨m1 ++ m2,by rw [e2,Array.append_assoc]⟩
 ·obtain ⟨m,hn,hl⟩:=I.loc
  refine ⟨m,ns m hn,fun i x v e1 e2 e3 => ?_⟩
  obtain ⟨u,r,l⟩:=hl i x v e1 e2 e3
  refine ⟨u,r,?_⟩
  rcases l with l | ⟨k,c,e,z⟩
  ·exact .inl l
  ·exact .inr ⟨k,c,e,cellK x c e _ z⟩
 ·obtain ⟨v,z⟩:=I.cell x c e
  exact ⟨v,cellK x c e v z⟩
 ·obtain ⟨m,⟨o,_,_,ho,_⟩,_⟩:=I.loc
  exact free _ o (fun z=>(hch _ z).2.1 rfl) ho I.free
 ·obtain ⟨v,o,ho,hd⟩:=I.cell x c e
  exact free c o (fun z=>(hch c z).2.2.1 x c e rfl) ho (I.freeC x c e)
 ·obtain ⟨e,n,ne,nf,d⟩:=I.pin p hp
  have nch:p.1 ∉ ch:=fun z=>(hch p.1 z).2.2.2 p hp rfl
  exact ⟨keep p.1 p.2 ne nf nch e n,free p.1 p.2 nch e n,ne,nf,d⟩
theorem Inv.un {t':Nat} (I:Inv X pins σ H s) (u:Un X.fs [] H H' s.heap h') (hok:HOk X.prog X.w H' h'):Inv X pins σ H' { s with heap:=h',toks:=t' }:=by
 obtain ⟨m,⟨o,es,ep,ho,r⟩,_⟩:=id I.loc
 obtain ⟨sl,hL⟩:=u.any ho I.free (by simp)
 exact I.step (g':=s.gens) (d':=s.drawn) (ch:=[]) (fun _ z=>nomatch z) (fun b o _ hb _ e n=>u.keep b o e n hb (by simp)) (fun b o _ hb _ e n=>u.slot b o e n hb (by simp)) (fun b o _ e n=>u.free b o e n (by simp)) (fun b o _ e=>u.there b o e (by simp)) u.tups u.frzs u.tbls (fun m' hm=>by
  obtain ⟨o',es',ep',ho',r'⟩:=hm
  rw [ho] at ho'; cases ho'
  exact ⟨_,es',ep',hL,r'⟩) hok I.bare
theorem Inv.call {g':Array GenState} {t':Nat} {d':Drawn} {ch:List Addr} (I:Inv X pins σ H s) (u:Un (frs X.stack) ch H H' s.heap h') (hok:HOk X.prog X.w H' h') (hg:AllBare g')
  (hch:∀ b ∈ ch,(b ∈ X.ex\/X.s₀.heap.objs.size<=b)/\b ≠ X.env.locals/\(∀ x c,X.env.cells.lookup x=some c->c ≠ b)/\∀ p ∈ X.pn ++ pins,p.1 ≠ b) :
  Inv X pins σ H' { s with heap:=h',gens:=g',drawn:=d',toks:=t' }:=by
 obtain ⟨m,⟨o,es,ep,ho,r⟩,_⟩:=id I.loc
 obtain ⟨sl,hL⟩:=u.any ho I.free fun z=>(hch _ z).2.1 rfl
 exact I.step (ch:=ch) hch (fun b o hL hb hc e n=>u.keep b o e n (fun z=>(List.mem_cons.mp (I.mw b z)).elim hL hb) hc) (fun b o _ _ hc e n=>u.any e n hc) (fun b o hc e n=>u.free b o e n hc) (fun b o hc e=>u.there b o e hc) u.tups u.frzs u.tbls (fun m' hm=>by
  obtain ⟨o',es',ep',ho',r'⟩:=hm
  rw [ho] at ho'; cases ho'
  exact ⟨_,es',ep',hL,r'⟩) hok hg
theorem Inv.turned {t':Nat} {it:Addr} (I:Inv X pins σ H s) (k:∀ b o,b ≠ it->s.heap.get? b=some o->h'.get? b=some o) (hn:H it=none) (hL:it ≠ X.env.locals)
  (h1:it ∈ X.ex\/X.s₀.heap.objs.size<=it) (h2:∀ x c,X.env.cells.lookup x=some c->c ≠ it) (h3:∀ p ∈ X.pn ++ pins,p.1 ≠ it):Inv X pins σ H { s with heap:=h',toks:=t' }:=by
 have nit:∀ b u,H b=some u->b ≠ it:=fun b u e z=>by rw [z,hn] at e; cases e
 refine I.step (g':=s.gens) (d':=s.drawn) (ch:=[it]) (fun b hb => ?_) (fun b o _ _ hc e _=>k b o (fun z=>hc (by simp [z])) e) (fun b o _ _ hc e _=>⟨o.slots,k b o (fun z=>hc (by simp [z])) e⟩) (fun _ _ _ _ n=>n)
  (fun b o hc e=>⟨o,k b o (fun z=>hc (by simp [z])) e⟩) (fun _ _ e=>e) (fun _ _ _ e=>e) (fun b ps e=>⟨#[],by rw [e]; simp⟩) (fun m hm => ?_) (fun b u e => ?_) I.bare
 ·have e:b=it:=by simpa using hb
  subst e
  exact ⟨h1,hL,h2,h3⟩
 ·obtain ⟨o,es,ep,ho,r⟩:=hm
  exact ⟨o,es,ep,k _ o (Ne.symm hL) ho,r⟩
 ·refine (I.hok b u e).stay (fun c v hc q=>k c v ?_ q) (fun _ q=>q) fun _ _ q=>q
  rcases hc with z | z
  ·rw [z]; exact nit b u e
  ·exact nit c _ z
theorem Inv.tok (I:Inv X pins σ H s) (t:Nat):Inv X pins σ H { s with toks:=t }:=I.un (h':=s.heap) (t':=t) Un.refl I.hok
theorem Inv.kept {t':Nat} (I:Inv X pins σ H s) (k:∀ b u,s.heap.get? b=some u->h'.get? b=some u):Inv X pins σ H { s with heap:=h',toks:=t' }:=I.un (Un.kept k) (I.hok.kept k)
theorem Inv.laid {a:Addr} {o:HO} {t':Nat} (I:Inv X pins σ H s) (k:∀ b u,s.heap.get? b=some u->h'.get? b=some u) (hp:s.heap.objs.size<=a) (new:aY X.prog X.w (upd H a o) h' a o) :
  Inv X pins σ (upd H a o) { s with heap:=h',toks:=t' }:=I.un (Un.laid k hp (I.hok.fresh hp)) (I.hok.laid k hp new)
theorem Inv.write {x e:Addr} {o:HO} {t':Nat} (I:Inv X pins σ H s) (mu:Mut (H x)) (he:e=x\/H e=some (.own x)) (k:∀ b u,b ≠ e->s.heap.get? b=some u->h'.get? b=some u) (heo:∃ u,h'.get? e=some u)
  (new:aY X.prog X.w (upd H x o) h' x o):Inv X pins σ (upd H x o) { s with heap:=h',toks:=t' }:=I.un (Un.write mu he k heo) (I.hok.write mu he k heo new)
theorem Inv.gx {pins':List (Addr × Obj)} (I:Inv X pins σ H s) (h:∀ p ∈ pins',s.heap.get? p.1=some p.2/\H p.1=none/\p.1 ≠ X.env.locals/\p.1 ∉ X.fs/\∀ v,p.2.data ≠ .cell v):Inv X pins' σ H s :=
 ⟨I.ok,I.os,I.bare,I.base,I.loc,I.cell,I.free,I.freeC,fun p hp=>(List.mem_append.mp hp).elim (fun z=>I.pin p (List.mem_append_left _ z)) (h p),I.hok,I.len⟩
theorem nt {N:List Str} (hN:N.Nodup) {i j:Nat} {x:Str} (a:N[i]? = some x) (b:N[j]? = some x):i=j:=by
 obtain ⟨h1,e1⟩:=List.getElem?_eq_some_iff.mp a
 obtain ⟨h2,e2⟩:=List.getElem?_eq_some_iff.mp b
 exact (List.getElem_inj hN).mp (e1.trans e2.symm)
theorem rz {M:Model} {A:Around} {E:Value->Shared->Prop} {i:Nat} {x:Str} {v:V} {u:Value} {Q:Unit->Shared->Prop} (I:Inv X pins σ H s) (hN:X.N.Nodup) (hi:X.N[i]? = some x) (hx:Loc X.env.scope x) (r:RelV v u)
  (h:∀ s',Inv X pins (σ.set i (some v)) H s'->(∃ a,Heap.SameBut a s.heap s'.heap/\(a=X.env.locals\/X.env.cells.lookup x=some a))->Q () s') (hf:X.fn x=true\/X.env.scope.names.lookup x=some .local:=by first | exact .inl rfl | exact .inr rfl | assumption):wpAny M A (storeName X.env x u) Q E s:=by
 obtain ⟨m,hn,hl⟩:=id I.loc
 have hcls:(X.env.scope.kind == .class || (X.env.scope.kind == .module && X.env.locals != X.env.globals))=false:=by rw [I.ok.kind]; rfl
 have hiσ:i < σ.length:=by rw [I.len]; exact (List.getElem?_eq_some_iff.mp hi).1
 have cne:=I.cne
 have tracked:∀ {a:Addr} {h':Heap},(∃ o,s.heap.get? a=some o/\H a=none)->Heap.SameBut a s.heap h'->HOk X.prog X.w H h':=fun {a h'} ha hs b ob e=>by
  obtain ⟨_,_,hfree⟩:=ha
  refine (I.hok b ob e).stay (fun c w' hc q=>(hs.2 c ?_).trans q) (fun _ q=>q) fun _ _ q=>q
  rintro rfl
  rcases hc with rfl | hc
  ·rw [hfree] at e; cases e
  ·rw [hfree] at hc; cases hc
 rcases hx with hk | hk
 ·refine wpAny_storeName_local hk hn (fun h' hn' hs => ?_) hcls
  obtain ⟨oL,_,_,hoL,_⟩:=id hn
  refine h _ ⟨I.ok,I.os,I.bare,⟨fun b o e n hb hx => ?_,fun b o e n hb hx => ?_,I.base.free,fun b o e hx => ?_,I.base.tups,I.base.frzs,I.base.tbls⟩,⟨_,hn',fun j y v' e1 e2 e3 => ?_⟩,fun y c e => ?_,I.free,I.freeC,fun p hp => ?_,tracked ⟨oL,hoL,I.free⟩ hs,by simpa using I.len⟩ ⟨_,hs,.inl rfl⟩
  ·exact (hs.2 b (Nat.ne_of_lt (Nat.lt_of_lt_of_le (Heap.lt_size e) I.ok.above))).trans (I.base.keep b o e n hb hx)
  ·obtain ⟨sl,e1⟩:=I.base.slot b o e n hb hx
   exact ⟨sl,(hs.2 b (Nat.ne_of_lt (Nat.lt_of_lt_of_le (Heap.lt_size e) I.ok.above))).trans e1⟩
  ·obtain ⟨o',e1⟩:=I.base.there b o e hx
   exact ⟨o',(hs.2 b (Nat.ne_of_lt (Nat.lt_of_lt_of_le (Heap.lt_size e) I.ok.above))).trans e1⟩
  ·by_cases hj:j=i
   ·subst hj
    rw [hi] at e1; cases e1
    rw [List.getElem?_set_self hiσ] at e2
    cases e2
    exact ⟨u,r,.inl ⟨hk,by simp⟩⟩
   ·rw [List.getElem?_set_ne (Ne.symm hj)] at e2
    obtain ⟨u',r',q⟩:=hl j y v' e1 e2 e3
    refine ⟨u',r',?_⟩
    rcases q with ⟨k,e⟩ | ⟨k,c,e,z⟩
    ·refine .inl ⟨k,?_⟩
     have:y ≠ x:=fun e=>hj (nt hN e1 (e ▸ hi))
     simp [this,e]
    ·exact .inr ⟨k,c,e,z.sameBut hs (cne y c e)⟩
  ·obtain ⟨w',z⟩:=I.cell y c e
   exact ⟨w',z.sameBut hs (cne y c e)⟩
  ·obtain ⟨e,n,ne,nf,d⟩:=I.pin p hp
   exact ⟨(hs.2 p.1 ne).trans e,n,ne,nf,d⟩
 ·have hfn:X.fn x=true:=by
   rcases hf with z | z
   ·exact z
   ·rw [z] at hk; cases hk
  obtain ⟨c,hc⟩:=I.ok.has x (.inl hk)
  obtain ⟨w',z⟩:=I.cell x c hc
  refine wpAny_storeName_cell I.ok.kind hk hc z (fun h' hc' hs => ?_)
  obtain ⟨oc,hoc,hocd⟩:=id z
  refine h { s with heap:=h' } ⟨I.ok,I.os,I.bare,⟨fun b o e n hb hx => ?_,fun b o e n hb hx => ?_,I.base.free,fun b o e hx => ?_,I.base.tups,I.base.frzs,I.base.tbls⟩,⟨m,hn.sameBut hs (Ne.symm (cne x c hc)),fun j y v' e1 e2 e3 => ?_⟩,fun y c' e => ?_,I.free,I.freeC,fun p hp => ?_,tracked ⟨oc,hoc,I.freeC x c hc⟩ hs,by simpa using I.len⟩ ⟨c,hs,.inr hc⟩
  ·exact (hs.2 b (Nat.ne_of_lt (Nat.lt_of_lt_of_le (Heap.lt_size e) (I.ok.cab x c hfn hc)))).trans (I.base.keep b o e n hb hx)
  ·obtain ⟨sl,e1⟩:=I.base.slot b o e n hb hx
   exact ⟨sl,(hs.2 b (Nat.ne_of_lt (Nat.lt_of_lt_of_le (Heap.lt_size e) (I.ok.cab x c hfn hc)))).trans e1⟩
  ·obtain ⟨o',e1⟩:=I.base.there b o e hx
   exact ⟨o',(hs.2 b (Nat.ne_of_lt (Nat.lt_of_lt_of_le (Heap.lt_size e) (I.ok.cab x c hfn hc)))).trans e1⟩
  ·by_cases hj:j=i
   ·subst hj
    rw [hi] at e1; cases e1
    rw [List.getElem?_set_self hiσ] at e2
    cases e2
    exact ⟨u,r,.inr ⟨.inl hk,c,hc,hc'⟩⟩
   ·rw [List.getElem?_set_ne (Ne.symm hj)] at e2
    obtain ⟨u',r',q⟩:=hl j y v' e1 e2 e3
    refine ⟨u',r',?_⟩
    rcases q with q | ⟨k,c',e,z'⟩
    ·exact .inl q
    ·refine .inr ⟨k,c',e,z'.sameBut hs ?_⟩
     rintro rfl
     exact hj (nt hN e1 (I.ok.inj _ _ _ e hc ▸ hi))
  ·by_cases hcc:c'=c
   ·subst hcc; exact ⟨_,hc'⟩
   ·obtain ⟨w2,z2⟩:=I.cell y c' e
    exact ⟨w2,z2.sameBut hs hcc⟩
  ·obtain ⟨e,n,ne,nf,d⟩:=I.pin p hp
   refine ⟨(hs.2 p.1 ?_).trans e,n,ne,nf,d⟩
   intro q
   rw [q,hoc] at e
   have q':oc=p.2:=Option.some.inj e
   exact d w' (by rw [<- q']; exact hocd)
theorem nA {M:Model} {A:Around} {E:Value->Shared->Prop} {i:Nat} {x:Str} {v:V} {u:Value} {Q:Unit->Shared->Prop} (I:Inv X pins σ H s) (hN:X.N.Nodup) (hi:X.N[i]? = some x) (hx:Loc X.env.scope x) (r:RelV v u)
  (h:∀ s',Inv X pins (σ.set i (some v)) H s'->Q () s') (hf:X.fn x=true\/X.env.scope.names.lookup x=some .local:=by first | exact .inl rfl | exact .inr rfl | assumption):wpAny M A (storeName X.env x u) Q E s :=
 rz I hN hi hx r (fun s' I' _=>h s' I') hf
theorem Inv.yS {s':Shared} {ch:List Addr} (I:Inv X pins σ H s) (ho:s'.os=s.os) (u:Un (frs X.stack) ch H H' s.heap s'.heap) (hok:HOk X.prog X.w H' s'.heap) (hg:AllBare s'.gens)
  (hch:∀ b ∈ ch,(b ∈ X.ex\/X.s₀.heap.objs.size<=b)/\b ≠ X.env.locals/\(∀ x c,X.env.cells.lookup x=some c->c ≠ b)/\∀ p ∈ X.pn ++ pins,p.1 ≠ b):Inv X pins σ H' s':=by
 obtain ⟨h',g',d',t',o'⟩:=s'
 have e:o'=s.os:=ho
 subst e
 exact I.call (g':=g') (t':=t') (d':=d') u hok hg hch
end
abbrev XK:=Value->Option Addr->Hp->Prop
abbrev St:=List (Option V)
abbrev VK:=V->Hp->Prop
abbrev TE:=St->Hp->VK->Prop
abbrev TT:=St->Hp->(Bool->Hp->Prop)->Prop
abbrev TA:=St->Hp->(List V->Hp->Prop)->Prop
structure Ends where
 nx:St->Hp->Prop
 rt:VK
 bk:St->Hp->Prop:=fun _ _=>False
 ct:St->Hp->Prop:=fun _ _=>False
abbrev TS:=Ends->St->Hp->Prop
def EP (X:Cx) (pins:List (Addr × Obj)) (σ:St) (Q:VK) (u:Value) (s':Shared):Prop:=∃ v H',Inv X pins σ H' s'/\RelV v u/\Q v H'
def TP (X:Cx) (pins:List (Addr × Obj)) (σ:St) (Q:Bool->Hp->Prop) (b:Bool) (s':Shared):Prop:=∃ H',Inv X pins σ H' s'/\Q b H'
def AP (X:Cx) (pins:List (Addr × Obj)) (σ:St) (Q:List V->Hp->Prop) (us:List Value) (s':Shared):Prop:=∃ vs H',Inv X pins σ H' s'/\Vals vs us/\Q vs H'
def SP (X:Cx) (pins:List (Addr × Obj)) (D:Ends) (f:Flow) (s':Shared):Prop :=
 match f with
 | .next=>∃ σ' H',Inv X pins σ' H' s'/\D.nx σ' H'
 | .brk=>∃ σ' H',Inv X pins σ' H' s'/\D.bk σ' H'
 | .cont=>∃ σ' H',Inv X pins σ' H' s'/\D.ct σ' H'
 | .ret u=>∃ v σ' H',Inv X pins σ' H' s'/\RelV v u/\D.rt v H'
def PE (X:Cx) (e:Expr) (t:TE):Prop :=
 ∀ (pins:List (Addr × Obj)) (s:Shared) (σ:St) (H:Hp) (Q:VK),Inv X pins σ H s->t σ H Q->wpAny (model X.prog X.w) X.A (eval e X.env) (EP X pins σ Q) X.xe s
def PT (X:Cx) (e:Expr) (t:TT):Prop :=
 ∀ (pins:List (Addr × Obj)) (s:Shared) (σ:St) (H:Hp) (Q:Bool->Hp->Prop),Inv X pins σ H s->t σ H Q->wpAny (model X.prog X.w) X.A (isTrue e X.env (eval e X.env)) (TP X pins σ Q) X.xe s
def PW (X:Cx) (e:Expr) (t:TT):Prop :=
 ∀ (whole:Sem Value) (pins:List (Addr × Obj)) (s:Shared) (σ:St) (H:Hp) (Q:Bool->Hp->Prop),Inv X pins σ H s->t σ H Q->wpAny (model X.prog X.w) X.A (isTrue e X.env whole) (TP X pins σ Q) X.xe s
theorem PW.pt {X:Cx} {e:Expr} {t:TT} (h:PW X e t):PT X e t:=h _
def PA (X:Cx) (es:List Expr) (t:TA):Prop :=
 ∀ (pos:Pos) (pins:List (Addr × Obj)) (s:Shared) (σ:St) (H:Hp) (Q:List V->Hp->Prop),Inv X pins σ H s->t σ H Q->wpAny (model X.prog X.w) X.A (spliced (backTo pos (starEach es X.env))) (AP X pins σ Q) X.xe s
def PS (X:Cx) (st:Stmt) (t:TS):Prop :=
 ∀ (pins:List (Addr × Obj)) (s:Shared) (σ:St) (H:Hp) (D:Ends),Inv X pins σ H s->t D σ H->wpAny (model X.prog X.w) X.A (exec st X.env) (SP X pins D) X.xe s
def PSs (X:Cx) (st:List Stmt) (t:TS):Prop :=
 ∀ (pins:List (Addr × Obj)) (s:Shared) (σ:St) (H:Hp) (D:Ends),Inv X pins σ H s->t D σ H->wpAny (model X.prog X.w) X.A (execs st X.env) (SP X pins D) X.xe s
theorem thn {α : Type} {t:Sem α} {Q Q' : α -> Shared->Prop} {M:Model} {A:Around} {E:Value->Shared->Prop} {s:Shared} (h:wpAny M A t Q E s) (hQ:∀ a s,Q a s->Q' a s):wpAny M A t Q' E s:=wpAny_mono h hQ fun _ _ x=>x
open PySem PySem.Spec PyProof.Rows
section
variable {X:Cx}
theorem bin {a b:Expr} {ta tb:TE} (ha:PE X a ta) (hb:PE X b tb) {pins:List (Addr × Obj)} {s:Shared} {σ:St} {H:Hp} {R:V->V->Hp->Prop} (I:Inv X pins σ H s) (h:ta σ H fun x H1=>tb σ H1 fun y H2=>R x y H2)
  {α : Type} {Q : α -> Shared->Prop} {f:Value->Value->Sem α}
  (hf:∀ v u s2 x y H2,Inv X pins σ H2 s2->RelV x v->RelV y u->R x y H2->wpAny (model X.prog X.w) X.A (f v u) Q X.xe s2) :
  wpAny (model X.prog X.w) X.A (eval a X.env) (fun v s₁=>wpAny (model X.prog X.w) X.A (eval b X.env) (fun u s₂=>wpAny (model X.prog X.w) X.A (f v u) Q X.xe s₂) X.xe s₁) X.xe s:=by
 refine thn (ha pins s σ H _ I h) fun v s1 ⟨x,H1,I1,r1,q1⟩ => ?_
 refine thn (hb pins s1 σ H1 _ I1 q1) fun u s2 ⟨y,H2,I2,r2,q2⟩ => ?_
 exact hf v u s2 x y H2 I2 r1 r2 q2
def yT (i:Nat):TE:=fun σ H Q=>∃ v,σ[i]? = some (some v)/\Q v H
def tC (v:V):TE:=fun _ H Q=>Q v H
theorem xT {i:Nat} {x:Str} {pos:Pos} (hN:X.N[i]? = some x) (hv:Vis X.env.scope x) (hd:(x == ("__debug__" : Str))=false:=by decide) (hcd:(x == ("__classdict__" : Str))=false:=by decide):PE X (.Name x pos) (yT i):=by
 intro pins s σ H Q I h
 obtain ⟨v,e,h⟩:=h
 obtain ⟨m,hn,hl⟩:=I.loc
 obtain ⟨u,r,l⟩:=hl i x v hN e hv
 have fin:EP X pins σ Q u s:=⟨v,H,I,r,h⟩
 rcases l with ⟨hk,hm⟩ | ⟨hk,c,hc,hcell⟩
 ·exact wpAny_Name (wpAny_loadName_local I.ok.kind hk hn hm fin) hd
 ·rcases hk with hk | hk
  ·exact wpAny_Name (wpAny_loadName_cell I.ok.kind hk hc hcell fin) hd
  ·exact wpAny_Name (wpAny_loadName_free I.ok.kind hk hc hcell fin hcd) hd
theorem ah {i j pos}:PE X (.Constant (.int i) j pos) (tC (.int i)):=fun _ _ _ H _ I h=>wpAny_Constant_int ⟨.int i,H,I.tok _,⟨_,rfl⟩,h⟩
theorem nB {b j pos}:PE X (.Constant (.bool b) j pos) (tC (.bl b)):=fun _ _ _ H _ I h=>Constant_bool ⟨.bl b,H,I,rfl,h⟩
theorem my {j pos}:PE X (.Constant .none j pos) (tC .non):=fun _ _ _ H _ I h=>Constant_none ⟨.non,H,I,rfl,h⟩
def Gl (X:Cx) (x:Str):Prop:=X.env.kindOf x=some .globalImplicit
theorem vT {E:Value->Shared->Prop} {pins:List (Addr × Obj)} {s:Shared} {σ:St} {H:Hp} {x:Str} {u:Value} {pos:Pos} {Q:Value->Shared->Prop} (I:Inv X pins σ H s) (hg:Gl X x) (hm:X.mg x=some u) (h:Q u s)
  (hd:(x == ("__debug__" : Str))=false:=by decide):wpAny (model X.prog X.w) X.A (eval (.Name x pos) X.env) Q E s :=
 Calls.Name_function_global I.ok.kind hg (Calls.loadGlobal_global (by rw [I.ok.glob]; exact I.mod.glob.keeps I.bk) hm h) hd
theorem fY {E:Value->Shared->Prop} {pins:List (Addr × Obj)} {s:Shared} {σ:St} {H:Hp} {x:Str} {u:Value} {pos:Pos} {Q:Value->Shared->Prop} (I:Inv X pins σ H s) (hg:Gl X x) (hm:X.mg x=none) (hv:bootBuiltins x=some u) (h:Q u s)
  (hn:x ≠ "__name__" := by decide) (hd:(x == ("__debug__" : Str))=false:=by decide):wpAny (model X.prog X.w) X.A (eval (.Name x pos) X.env) Q E s:=by
 obtain ⟨mb,h1,h2⟩:=I.mod.blt
 exact Calls.Name_function_global I.ok.kind hg (Calls.loadGlobal_builtin (by rw [I.ok.glob]; exact I.mod.glob.keeps I.bk) hm (by rw [I.ok.blt]; exact h1.keeps I.bk) ((h2 x hn).trans hv) h) hd
theorem qp {x:Str} {v:V} {u:Value} {pos:Pos} (hg:Gl X x) (hm:X.mg x=none) (hv:bootBuiltins x=some u) (r:RelV v u) (hn:x ≠ "__name__" := by decide) (hd:(x == ("__debug__" : Str))=false:=by decide):PE X (.Name x pos) (tC v) :=
 fun _ _ _ H _ I h=>fY I hg hm hv ⟨v,H,I,r,h⟩ hn hd
variable {a b:Expr} {ta tb:TE} {pos:Pos}
def PC (X:Cx) (op:CmpOp) (a b:Expr) (t:TE):Prop :=
 ∀ (pins:List (Addr × Obj)) (s:Shared) (σ:St) (H:Hp) (Q:VK),Inv X pins σ H s->t σ H Q →
  wpAny (model X.prog X.w) X.A (eval a X.env) (fun v s₁=>wpAny (model X.prog X.w) X.A (eval b X.env) (fun u s₂=>wpAny (model X.prog X.w) X.A (compareOp op v u) (EP X pins σ Q) X.xe s₂) X.xe s₁) X.xe s
theorem tK (b:Expr) {op:CmpOp} (h:op ≠ .In) (h2:op ≠ .NotIn):behindInMarks op b=false:=by
 have e1:(op == CmpOp.In)=false:=by cases op <;> first | rfl | exact absurd rfl h
 have e2:(op == CmpOp.NotIn)=false:=by cases op <;> first | rfl | exact absurd rfl h2
 cases b <;> simp [behindInMarks,e1,e2]
def tB (t:TE):TT:=fun σ H Q=>t σ H fun x H1=>∃ c,x = .bl c/\Q c H1
theorem mz {op:CmpOp} {t:TE} (h:PC X op a b t) (h1:behindInMarks op b=false:=by first | exact tK _ (by decide) (by decide) | rfl):PT X (.Compare a [op] [b] pos) (tB t):=by
 intro pins s σ H Q I hw
 refine wpAny_isTrue_Compare1 (thn (h pins s σ H _ I hw) fun v s1 h1=>thn h1 fun u s2 h2=>thn h2 fun c s3 ⟨x,H1,I1,r1,q1⟩ => ?_) h1
 obtain ⟨d,rfl,q⟩:=q1
 cases r1
 exact wpAny_truthy_bool ⟨H1,I1,q⟩
theorem jm {e:Expr} {t:TE} (h:PE X e t) (he:∀ whole,isTrue e X.env whole=(do let v ← whole; standAt e.pos; holding [v] (truthy v)):=by intro _; rfl):PT X e (tB t):=by
  intro pins s σ H Q I hw
  refine isTrue_plain (thn (h pins s σ H _ I hw) fun v s1 ⟨x,H1,I1,r1,q1⟩ => ?_) (he _)
  obtain ⟨d,rfl,q⟩:=q1
  cases r1
  exact wpAny_truthy_bool ⟨H1,I1,q⟩
variable {tA tB':TT} {rest:List Expr}
def tAnd (t u:TT):TT:=fun σ H Q=>t σ H fun c H1=>if c=true then u σ H1 Q else Q false H1
def tOr (t u:TT):TT:=fun σ H Q=>t σ H fun c H1=>if c=true then Q true H1 else u σ H1 Q
def tNot (t:TT):TT:=fun σ H Q=>t σ H fun c H1=>Q (!c) H1
theorem gy (ha:PT X a tA):PW X (.BoolOp .And [a] pos) tA:=by
 intro wh pins s σ H Q I h
 refine isTrue_and (thn (ha pins s σ H Q I h) fun c s1 e => ?_)
 cases c with
 | true=>exact isTrue_and_nil e
 | false=>exact e
theorem jq (ha:PT X a tA):PW X (.BoolOp .Or [a] pos) tA:=by
 intro wh pins s σ H Q I h
 refine isTrue_or (thn (ha pins s σ H Q I h) fun c s1 e => ?_)
 cases c with
 | false=>exact isTrue_or_nil e
 | true=>exact e
theorem js (ha:PT X a tA) (hb:PW X (.BoolOp .And (b :: rest) pos) tB'):PW X (.BoolOp .And (a :: b :: rest) pos) (tAnd tA tB'):=by
 intro wh pins s σ H Q I h
 refine isTrue_and (thn (ha pins s σ H _ I h) fun c s1 ⟨H1,I1,q1⟩ => ?_)
 cases c with
 | true=>exact hb wh pins s1 σ H1 Q I1 q1
 | false=>exact ⟨H1,I1,q1⟩
theorem nC (ha:PT X a tA) (hb:PW X (.BoolOp .Or (b :: rest) pos) tB'):PW X (.BoolOp .Or (a :: b :: rest) pos) (tOr tA tB'):=by
 intro wh pins s σ H Q I h
 refine isTrue_or (thn (ha pins s σ H _ I h) fun c s1 ⟨H1,I1,q1⟩ => ?_)
 cases c with
 | true=>exact ⟨H1,I1,q1⟩
 | false=>exact hb wh pins s1 σ H1 Q I1 q1
theorem px (ha:PT X a tA):PT X (.UnaryOp .Not a pos) (tNot tA):=by
 intro pins s σ H Q I h
 exact isTrue_not (ha pins s σ H (fun c H1=>Q (!c) H1) I h)
def yU (ta tb:TE):TE:=fun σ H Q=>ta σ H fun x H1=>∃ c,x = .bl c/\if c=true then tb σ H1 Q else Q (.bl false) H1
def yV (ta:TE):TE:=fun σ H Q=>ta σ H fun x H1=>∃ c,x = .bl c/\Q (.bl (!c)) H1
theorem tL {op} {t:TE} (h:PE X a t):PE X (.BoolOp op [a] pos) t:=fun pins s σ H Q I hw=>BoolOp_one (h pins s σ H Q I hw)
theorem tM (ha:PE X a ta) (hb:PE X (.BoolOp .And (b :: rest) pos) tb):PE X (.BoolOp .And (a :: b :: rest) pos) (yU ta tb):=by
 intro pins s σ H Q I h
 refine BoolOp_and (thn (ha pins s σ H _ I h) fun v s1 ⟨x,H1,I1,r1,q1⟩ => ?_)
 obtain ⟨c,rfl,q1⟩:=q1
 cases r1
 refine wpAny_truthy_bool ?_
 cases c with
 | true=>exact hb pins s1 σ H1 Q I1 q1
 | false=>exact ⟨.bl false,H1,I1,rfl,q1⟩
theorem xU (ha:PE X a ta):PE X (.UnaryOp .Not a pos) (yV ta):=by
 intro pins s σ H Q I h
 refine UnaryOp_ (thn (ha pins s σ H _ I h) fun v s1 ⟨x,H1,I1,r1,q1⟩ => ?_)
 obtain ⟨c,rfl,q1⟩:=q1
 cases r1
 exact not_of (wpAny_truthy_bool ⟨.bl (!c),H1,I1,rfl,q1⟩)
end
open PySem PySem.Spec PyProof.Rows
def SqL (K:PySem.W.Frag) (H:Hp) (a:Addr) (xs:List V):Prop :=
 Rd H a (.lst xs) ∨
  ∃ (o:Obj) (its:Array Value) (n:Nat),K.lookup a=some o/\o.cls = .type "list" /\ o.dict=none/\o.data = .seq its n/\its.size<=sizeLine/\Vals xs its.toList
def SqT (K:PySem.W.Frag) (H:Hp) (a:Addr) (xs:List V):Prop :=
 Rd H a (.tup xs) ∨
  ∃ (o:Obj) (its:Array Value) (n:Nat),K.lookup a=some o/\o.cls = .type "tuple" /\ o.data = .seq its n/\its.size<=sizeLine/\Vals xs its.toList
def absV:Value->Option V
 | .none=>some .non
 | .bool b=>some (.bl b)
 | .int i _=>some (.int i)
 | .str x _=>some (.str x)
 | .bytes b _=>some (.byt b)
 | .float b _=>some (.flt b)
 | .ref a=>some (.ref a)
 | .type n=>some (.ty n)
 | _=>none
theorem RelV.abs {x:V} {u:Value} (r:RelV x u):absV u=some x:=by
 cases x with
 | non=>cases r; rfl
 | bl _=>cases r; rfl
 | int _=>obtain ⟨t,rfl⟩:=r; rfl
 | str _=>obtain ⟨t,rfl⟩:=r; rfl
 | byt _=>obtain ⟨t,rfl⟩:=r; rfl
 | flt _=>obtain ⟨t,rfl⟩:=r; rfl
 | ref _=>cases r; rfl
 | ty _=>cases r; rfl
theorem RelV.inj {x y:V} {u:Value} (r:RelV x u) (q:RelV y u):x=y:=Option.some.inj (r.abs.symm.trans q.abs)
theorem Vals.inj:∀ {xs ys:List V} {us:List Value},Vals xs us->Vals ys us->xs=ys
 | _,_,_,.nil,.nil=>rfl
 | _,_,_,.cons r t,.cons r' t'=>by rw [r.inj r',Vals.inj t t']
section
variable {X:Cx} {pins:List (Addr × Obj)} {σ:St} {H:Hp} {s:Shared} {a:Addr} {xs ys:List V}
theorem SqL.of {K:PySem.W.Frag} (h:H a=some (.lst xs)):SqL K H a xs := .inl (.inl h)
theorem SqT.of {K:PySem.W.Frag} (h:H a=some (.tup xs)):SqT K H a xs := .inl (.inl h)
theorem Inv.list (I:Inv X pins σ H s) (h:SqL X.K H a xs):∃ its:List Value,Vals xs its/\PlainL s.heap a its.toArray/\xs.length<=sizeLine:=by
 rcases h with h | ⟨o,its,n,hk,hc,hd,hs,hz,r⟩
 ·obtain ⟨z,its,n,r,e⟩:=h.ok I.hok
  exact ⟨its,r,⟨_,n,e,rfl,rfl,rfl⟩,z⟩
 ·refine ⟨its.toList,r,⟨o,n,I.kIn a o hk,hc,hd,by simpa using hs⟩,?_⟩
  have e:=r.length
  simp only [Array.length_toList] at e
  omega
theorem Inv.tuple (I:Inv X pins σ H s) (h:SqT X.K H a xs):∃ its:List Value,Vals xs its/\IsTup s.heap a its.toArray/\xs.length<=sizeLine:=by
 rcases h with h | ⟨o,its,n,hk,hc,hs,hz,r⟩
 ·obtain ⟨z,its,r,p⟩:=h.ok I.hok
  exact ⟨its,r,p.tup,z⟩
 ·refine ⟨its.toList,r,⟨o,I.kIn a o hk,hc,n,by simpa using hs⟩,?_⟩
  have e:=r.length
  simp only [Array.length_toList] at e
  omega
theorem Inv.nD (I:Inv X pins σ H s) (h:SqL X.K H a xs) (h':SqL X.K H a ys):xs=ys:=by
 obtain ⟨its,r,⟨o,n,e,_,_,d⟩,_⟩:=I.list h
 obtain ⟨its',r',⟨o',n',e',_,_,d'⟩,_⟩:=I.list h'
 rw [e] at e'; cases e'
 rw [d] at d'
 injection d' with d1 _
 have:its=its':=by simpa using congrArg Array.toList d1
 subst this
 exact r.inj r'
theorem Inv.kJ (I:Inv X pins σ H s) (h:SqT X.K H a xs) (h':SqT X.K H a ys):xs=ys:=by
 obtain ⟨its,r,⟨o,e,_,n,d⟩,_⟩:=I.tuple h
 obtain ⟨its',r',⟨o',e',_,n',d'⟩,_⟩:=I.tuple h'
 rw [e] at e'; cases e'
 rw [d] at d'
 injection d' with d1 _
 have:its=its':=by simpa using congrArg Array.toList d1
 subst this
 exact r.inj r'
end
abbrev Cx.kq (X:Cx) (E:Value->Shared->Prop):Cx:={ X with xe:=E }
abbrev Cx.nox (X:Cx):Cx:=X.kq fun _ _=>False
theorem Cx.Ok.kq {X:Cx} (ok:X.Ok) (E:Value->Shared->Prop):(X.kq E).Ok :=
 ⟨ok.mod,ok.kind,ok.glob,ok.blt,ok.above,ok.inj,ok.has,ok.cab,ok.hd,ok.frames,ok.stk,ok.exf,ok.bs,ok.bsz,ok.noex,ok.exfs,ok.funs,ok.frf⟩
theorem Cx.Ok.eU {X:Cx} {E:Value->Shared->Prop} (ok:(X.kq E).Ok):X.Ok :=
 ⟨ok.mod,ok.kind,ok.glob,ok.blt,ok.above,ok.inj,ok.has,ok.cab,ok.hd,ok.frames,ok.stk,ok.exf,ok.bs,ok.bsz,ok.noex,ok.exfs,ok.funs,ok.frf⟩
section
variable {X:Cx} {pins:List (Addr × Obj)} {σ:St} {H:Hp} {s:Shared} {E:Value->Shared->Prop}
theorem Inv.kq (I:Inv X pins σ H s) (E:Value->Shared->Prop):Inv (X.kq E) pins σ H s:=⟨I.ok.kq E,I.os,I.bare,I.base,I.loc,I.cell,I.free,I.freeC,I.pin,I.hok,I.len⟩
theorem Inv.eU (I:Inv (X.kq E) pins σ H s):Inv X pins σ H s:=⟨I.ok.eU,I.os,I.bare,I.base,I.loc,I.cell,I.free,I.freeC,I.pin,I.hok,I.len⟩
theorem SP.eU {D:Ends} {f:Flow} {s':Shared} (h:SP (X.kq E) pins D f s'):SP X pins D f s':=by
 cases f with
 | next=>obtain ⟨σ',H',I,q⟩:=h; exact ⟨σ',H',I.eU,q⟩
 | brk=>obtain ⟨σ',H',I,q⟩:=h; exact ⟨σ',H',I.eU,q⟩
 | cont=>obtain ⟨σ',H',I,q⟩:=h; exact ⟨σ',H',I.eU,q⟩
 | ret u=>obtain ⟨v,σ',H',I,r,q⟩:=h; exact ⟨v,σ',H',I.eU,r,q⟩
theorem PSs.nox {st:List Stmt} {t:TS} (h:PSs X.nox st t):PSs X st t:=fun pins s σ H D I hw =>
 wpAny_mono (h pins s σ H D (I.kq _) hw) (fun _ _ q=>q.eU) fun _ _ z=>False.elim z
end
section
variable {X:Cx} {st:Stmt} {rest:List Stmt} {t u:TS} {e:Expr} {te:TE} {pos:Pos}
def yW:TS:=fun D σ H=>D.nx σ H
def yX (t u:TS):TS:=fun D σ H=>t { D with nx:=u D } σ H
theorem aU:PSs X [] yW:=fun _ _ σ H _ I h=>wpAny_execs_nil ⟨σ,H,I,h⟩
theorem aj (h1:PS X st t) (h2:PSs X rest u):PSs X (st :: rest) (yX t u):=by
 intro pins s σ H D I h
 refine wpAny_execs_cons (thn (h1 pins s σ H { D with nx:=u D } I h) fun f s1 q => ?_)
 cases f with
 | next =>
  obtain ⟨σ',H',I',q⟩:=q
  exact h2 pins s1 σ' H' D I' q
 | ret v=>exact q
 | brk=>exact q
 | cont=>exact q
theorem ao (h1:PS X st t):PSs X [st] t:=by
 intro pins s σ H D I h
 refine wpAny_execs_cons (thn (h1 pins s σ H D I h) fun f s1 q => ?_)
 cases f with
 | next=>exact wpAny_execs_nil q
 | ret v=>exact q
 | brk=>exact q
 | cont=>exact q
theorem Inv.quiet {pins:List (Addr × Obj)} {σ:St} {H:Hp} {s:Shared} (I:Inv X pins σ H s):interactive X.env=false:=by simp [interactive,I.ok.kind]
def yY (te:TE):TS:=fun D σ H=>te σ H fun _ H1=>D.nx σ H1
theorem bU (he:PE X e te) (hs:swapsWith e none pos.line X.env=pure false:=by rfl):PS X (.Expr e pos) (yY te):=by
 intro pins s σ H D I h
 exact wpAny_Expr_any (thn (he pins s σ H _ I h) fun v s1 ⟨x,H1,I1,r1,q1⟩=>⟨σ,H1,I1,q1⟩) I.quiet hs
def tRet (te:TE):TS:=fun D σ H=>te σ H D.rt
theorem aM (he:PE X e te):PS X (.Return (some e) pos) (tRet te):=by
 intro pins s σ H D I h
 exact wpAny_Return_some (thn (he pins s σ H _ I h) fun v s1 ⟨x,H1,I1,r1,q1⟩=>⟨x,σ,H1,I1,r1,q1⟩)
def tIfS (c:TT) (t u:TS):TS:=fun D σ H=>c σ H fun b H1=>if b=true then t D σ H1 else u D σ H1
theorem bD {c:Expr} {a b:List Stmt} {tc:TT} (hc:PT X c tc) (ha:PSs X a t) (hb:PSs X b u):PS X (.If c a b pos) (tIfS tc t u):=by
 intro pins s σ H D I h
 refine wpAny_If (thn (hc pins s σ H _ I h) fun d s1 ⟨H1,I1,q1⟩ => ?_)
 cases d with
 | true=>exact ha pins s1 σ H1 D I1 q1
 | false=>exact hb pins s1 σ H1 D I1 q1
def xV:TS:=fun _ _ _=>False
theorem iy {sts:List Stmt}:PSs X sts xV:=fun _ _ _ _ _ _ h=>h.elim
end
abbrev TG:=V->St->Hp->(St->Hp->Prop)->Prop
abbrev TGs:=List V->St->Hp->(St->Hp->Prop)->Prop
def PG (X:Cx) (target:Expr) (t:TG):Prop :=
 ∀ (pins:List (Addr × Obj)) (s:Shared) (σ:St) (H:Hp) (v:V) (u:Value) (Q:St->Hp->Prop),Inv X pins σ H s->RelV v u->t v σ H Q →
  wpAny (model X.prog X.w) X.A (assign target X.env u) (fun _ s'=>∃ σ' H',Inv X pins σ' H' s'/\Q σ' H') X.xe s
def PGs (X:Cx) (ts:List Expr) (t:TGs):Prop :=
 ∀ (pins:List (Addr × Obj)) (s:Shared) (σ:St) (H:Hp) (vs:List V) (us:List Value) (Q:St->Hp->Prop),Inv X pins σ H s->Vals vs us->t vs σ H Q →
  wpAny (model X.prog X.w) X.A (assignInOrder ((assignEach ts X.env).map (·.2)) us) (fun _ s'=>∃ σ' H',Inv X pins σ' H' s'/\Q σ' H') X.xe s
abbrev xW:=V->V->V->Hp->(Hp->Prop)->Prop
def yZ (X:Cx) (t:xW):Prop :=
 ∀ (pins:List (Addr × Obj)) (s:Shared) (σ:St) (H:Hp) (o i v:V) (ov iv u:Value) (Q:Hp->Prop),Inv X pins σ H s->RelV o ov->RelV i iv->RelV v u->t o i v H Q →
  wpAny (model X.prog X.w) X.A (setItem ov iv u) (fun _ s'=>∃ H',Inv X pins σ H' s'/\Q H') X.xe s
section
variable {X:Cx} {pos:Pos}
def eO (i:Nat):TG:=fun v σ H Q=>Q (σ.set i (some v)) H
theorem aB {i:Nat} {x:Str} (hN:X.N.Nodup) (hi:X.N[i]? = some x) (hx:Loc X.env.scope x) (hf:X.fn x=true\/X.env.scope.names.lookup x=some .local:=by first | exact .inl rfl | exact .inr rfl | assumption):PG X (.Name x pos) (eO i):=by
 intro pins s σ H v u Q I r h
 exact wpAny_assign_Name (nA I hN hi hx r (fun s' I'=>⟨_,H,I',h⟩) hf)
def y8:TGs:=fun vs σ H Q=>vs=[]/\Q σ H
def tN (t:TG) (u:TGs):TGs:=fun vs σ H Q=>∃ v r,vs=v :: r/\t v σ H fun σ' H'=>u r σ' H' Q
theorem qq:PGs X [] y8:=by
 intro pins s σ H vs us Q I r h
 obtain ⟨e,h⟩:=h
 subst e
 cases r
 exact assignInOrder_nil ⟨σ,H,I,h⟩
theorem gA {e:Expr} {es:List Expr} {t:TG} {u:TGs} (h1:PG X e t) (h2:PGs X es u)
  (hs:(assignEach (e :: es) X.env).map (·.2)=assign e X.env :: (assignEach es X.env).map (·.2):=by rfl):PGs X (e :: es) (tN t u):=by
 intro pins s σ H vs us Q I r h
 obtain ⟨v,vr,e1,h⟩:=h
 subst e1
 cases r with
 | cons r rr =>
  rw [hs]
  refine assignInOrder_cons (thn (h1 pins s σ H _ _ _ I r h) fun _ s1 ⟨σ1,H1,I1,q1⟩ => ?_)
  exact h2 pins s1 σ1 H1 _ _ Q I1 rr q1
def y9 (K:PySem.W.Frag) (n:Nat) (t:TGs):TG:=fun v σ H Q=>∃ a xs,v = .ref a/\SqT K H a xs/\xs.length=n/\t xs σ H Q
theorem tO {es:List Expr} {k:Nat} {t:TGs} {n:Nat} (hc:X.calm=true) (h:PGs X es t)
  (hn:(assignEach es X.env).length=n:=by rfl) (hst:(assignEach es X.env).findIdx? (·.1)=none:=by rfl):PG X (.Tuple es k pos) (y9 X.K n t):=by
 intro pins s σ H v u Q I r hw
 obtain ⟨a,xs,e1,hq,hl,hw⟩:=hw
 subst e1
 cases r
 obtain ⟨its,rv,ht,hz⟩:=I.tuple hq
 refine assign_Tuple_tuple (I.ok.hd hc) ht (by simp [hn, <- hl,rv.length]) hst fun h' hx => ?_
 have I1:Inv X pins σ H { s with heap:=h' }:=I.kept (t':=s.toks) fun b o e=>hx b o (Nat.ne_of_lt (Heap.lt_size e)) e
 exact h pins _ σ H xs _ Q I1 (by simpa using rv) hw
def gSub (to ti:TE) (t:xW):TG:=fun v σ H Q=>to σ H fun o H1=>ti σ H1 fun i H2=>t o i v H2 fun H3=>Q σ H3
theorem jt {o i:Expr} {to ti:TE} {t:xW} (ho:PE X o to) (hi:PE X i ti) (hs:yZ X t)
    (ha:∀ v,assign (.Subscript o i pos) X.env v=(do
      let ov ← holding [v] (eval o X.env)
      let iv ← holding [v,ov] (eval i X.env)
      standAt pos
      holding [v,ov,iv] (setItem ov iv v)
      release [v,ov,iv] []):=by intro _; rfl):PG X (.Subscript o i pos) (gSub to ti t):=by
  intro pins s σ H v u Q I r h
  rw [ha]
  refine wpAny_bind (wpAny_holding (thn (ho pins s σ H _ I h) fun ov s1 ⟨x,H1,I1,r1,q1⟩ => ?_))
  refine wpAny_bind (wpAny_holding (thn (hi pins s1 σ H1 _ I1 q1) fun iv s2 ⟨y,H2,I2,r2,q2⟩ => ?_))
  refine wpAny_bind (wpAny_standAt (wpAny_bind (wpAny_holding (thn (hs pins s2 σ H2 x y v ov iv u _ I2 r1 r2 r q2) fun _ s3 ⟨H3,I3,q3⟩ => ?_))))
  exact wpAny_release ⟨σ,H3,I3,q3⟩
def xX (te:TE) (g:TG):TS:=fun D σ H=>te σ H fun x H1=>g x σ H1 D.nx
theorem ju {tg e:Expr} {te:TE} {g:TG} (he:PE X e te) (hg:PG X tg g) (hs:swapsWithSole [tg] e pos.line X.env=pure false:=by rfl) (hw:swappedStores [tg] e X.env=pure none:=by rfl)
  (h1:(assignEach [tg] X.env).map (·.2)=[assign tg X.env]:=by rfl):PS X (.Assign [tg] e pos) (xX te g):=by
 intro pins s σ H D I h
 refine wpAny_Assign_stores (thn (he pins s σ H _ I h) fun v s1 ⟨x,H1,I1,r1,q1⟩ => ?_) hs hw
 rw [h1]
 exact thn (hg pins s1 σ H1 x v _ I1 r1 q1) fun _ s2 q=>q
theorem aA {i:Nat} {x:Str} {e:Expr} {te:TE} {pos':Pos} (hN:X.N.Nodup) (hi:X.N[i]? = some x) (hx:Loc X.env.scope x) (he:PE X e te) (hs:swapsWith e (some (.Name x pos')) pos.line X.env=pure false:=by rfl) (hf:X.fn x=true\/X.env.scope.names.lookup x=some .local:=by first | exact .inl rfl | exact .inr rfl | assumption) :
  PS X (.Assign [.Name x pos'] e pos) (xX te (eO i)):=by
 intro pins s σ H D I h
 refine wpAny_Assign_Name (thn (he pins s σ H _ I h) fun v s1 ⟨y,H1,I1,r1,q1⟩ => ?_) hs
 exact nA I1 hN hi hx r1 (fun s2 I2=>⟨_,H1,I2,q1⟩) hf
end
section
variable {X:Cx} {pos:Pos}
def tP (c:TT) (tb:TS):TS:=fun D σ H=>∃ W:Nat->St->Hp->Prop,(∃ m,W m σ H)/\∀ m σ H,W m σ H →
 c σ H fun b H1=>if b=true then ∃ N:St->Hp->Prop,(∀ σ' H',N σ' H'->∃ m',m' < m/\W m' σ' H')/\tb { D with nx:=N,ct:=N,bk:=D.nx } σ H1 else D.nx σ H1
theorem nE {c:Expr} {body:List Stmt} {tc:TT} {tb:TS} (hp:PassesOwn (model X.prog X.w) X.A X.env X.xe) (hc:PT X c tc) (hb:PSs X body tb):PS X (.While c body [] pos) (tP tc tb):=by
 intro pins s σ H D I h
 obtain ⟨W,⟨m0,w0⟩,turn⟩:=h
 refine wpAny_While (codeAny_whileLoop (fun n s'=>∃ σ' H',Inv X pins σ' H' s'/\W n σ' H') ?_ m0 ⟨σ,H,I,w0⟩)
 rintro n s1 ⟨σ1,H1,I1,w1⟩
 refine wpAny_passesOwn hp (thn (hc pins s1 σ1 H1 _ I1 (turn n σ1 H1 w1)) fun b s2 ⟨H2,I2,q2⟩ => ?_)
 cases b with
 | true =>
  obtain ⟨N,hN,q2⟩:=q2
  rw [if_pos rfl]
  refine wpAny_passesOwn hp (thn (hb pins s2 σ1 H2 _ I2 q2) fun f s3 q3 => ?_)
  cases f with
  | next =>
   obtain ⟨σ3,H3,I3,n3⟩:=q3
   obtain ⟨m',hm,w3⟩:=hN σ3 H3 n3
   exact ⟨m',hm,σ3,H3,I3,w3⟩
  | cont =>
   obtain ⟨σ3,H3,I3,n3⟩:=q3
   obtain ⟨m',hm,w3⟩:=hN σ3 H3 n3
   exact ⟨m',hm,σ3,H3,I3,w3⟩
  | brk=>exact q3
  | ret v=>exact q3
 | false =>
  rw [if_neg Bool.false_ne_true]
  exact wpAny_execs_nil ⟨σ1,H2,I2,q2⟩
end
structure It where
 go:Nat->Hp->Prop
 yld:Nat->Hp->V->Hp->Prop
 stop:Nat->Hp->Prop
def iz (X:Cx) (pins:List (Addr × Obj)) (H:Hp) (b:Addr):Prop :=
 H b=none/\b ≠ X.env.locals/\b ∉ X.fs/\(b ∈ X.ex\/X.s₀.heap.objs.size<=b)/\(∀ x c,X.env.cells.lookup x=some c->c ≠ b)/\∀ p ∈ X.pn ++ pins,p.1 ≠ b
theorem Inv.rA {X:Cx} {pins:List (Addr × Obj)} {σ:St} {H H':Hp} {s:Shared} {b:Addr} (I:Inv X pins σ H s) (hb:s.heap.objs.size<=b) (hn:H' b=none):iz X pins H' b:=by
 refine ⟨hn,Nat.ne_of_gt (Nat.lt_of_lt_of_le I.lt hb),I.xS hb,.inr (Nat.le_trans I.sz hb),fun x c e z => ?_,fun p hp z => ?_⟩
 ·obtain ⟨v,q⟩:=I.cell x c e
  exact absurd (Nat.lt_of_lt_of_le q.lt (by rw [z]; exact hb)) (Nat.lt_irrefl _)
 ·exact absurd (Nat.lt_of_lt_of_le (Heap.lt_size (I.pin p hp).1) (by rw [z]; exact hb)) (Nat.lt_irrefl _)
structure Turn (P:Program) (w:World) (K:PySem.W.Frag) (tg:Expr) (J:It) (fp:List Addr) (it:Addr) (tn:Nat->Heap->Prop):Prop where
 mem:it ∈ fp
 obj:∀ i h,tn i h->∀ b ∈ fp,∃ o,h.get? b=some o/\∀ v,o.data ≠ .cell v
 keep:∀ i h h',tn i h->(∀ b ∈ fp,∀ o,h.get? b=some o->h'.get? b=some o)->tn i h'
 item:∀ (X:Cx),X.prog=P->X.w=w->X.K=K->X.calm=true->∀ (i:Nat) (pins:List (Addr × Obj)) (s:Shared) (σ:St) (H:Hp) (E:Value->Shared->Prop),Inv X pins σ H s->(∀ b ∈ fp,iz X pins H b)->tn i s.heap->J.go i H →
  wpAny (model P w) X.A (pyNext (.ref it)) (fun r s1=>∃ u,r=some u ∧
   wpAny (model P w) X.A (letOwnedTupleGo tg (.ref it) u) (fun _ s2=>∃ x H',Inv X pins σ H' s2/\RelV x u/\J.yld i H x H'/\tn (i + 1) s2.heap/\∀ b ∈ fp,H' b=none) E s1) E s
 done:∀ (X:Cx),X.prog=P->X.w=w->X.K=K->X.calm=true->∀ (i:Nat) (pins:List (Addr × Obj)) (s:Shared) (σ:St) (H:Hp) (E:Value->Shared->Prop),Inv X pins σ H s->(∀ b ∈ fp,iz X pins H b)->tn i s.heap->J.stop i H →
  wpAny (model P w) X.A (pyNext (.ref it)) (fun r s1=>r=none/\Inv X pins σ H s1) E s
 self:∀ (A:Around) (i:Nat) (s:Shared) (Q:Value->Shared->Prop) (E:Value->Shared->Prop),tn i s.heap->Q (.ref it) s->wpAny (model P w) A (pyIter (.ref it)) Q E s
abbrev TI:=St->Hp->(It->Hp->Prop)->Prop
def PIE (X:Cx) (pins:List (Addr × Obj)) (σ:St) (tg:Expr) (R:It->Hp->Prop) (itv:Value) (s2:Shared):Prop :=
 ∃ (it:Addr) (fp:List Addr) (tn:Nat->Heap->Prop) (J:It) (H':Hp),itv = .ref it/\Inv X pins σ H' s2/\Turn X.prog X.w X.K tg J fp it tn/\tn 0 s2.heap/\(∀ b ∈ fp,iz X pins H' b)/\R J H'
def PI (X:Cx) (tg iter:Expr) (wi:TI):Prop :=
 ∀ (pins:List (Addr × Obj)) (s:Shared) (σ:St) (H:Hp) (R:It->Hp->Prop),Inv X pins σ H s->wi σ H R →
  wpAny (model X.prog X.w) X.A (eval iter X.env) (fun v s1=>wpAny (model X.prog X.w) X.A (pyIter v) (PIE X pins σ tg R) X.xe s1) X.xe s
theorem qr {M:Model} {A:Around} {E:Value->Shared->Prop} {s:Shared} {tg:Expr} {it:Addr} {u:Value} {o:Obj} {n:String} {vs:Array Value} {Q:Unit->Shared->Prop} (ho:s.heap.get? it=some o) (hc:o.cls = .type n) (hd:o.data = .fields vs)
    (hn:["enumerate", "zip", "dict_itemiterator", "dict_reverseitemiterator", "odict_iterator", "itertools.zip_longest", "itertools.pairwise"].contains n=false) (hQ:Q () s):wpAny M A (letOwnedTupleGo tg (.ref it) u) Q E s:=by
  unfold letOwnedTupleGo
  cases tg <;> first
    | exact wpAny_pure hQ
    | (cases u <;> first
        | exact wpAny_pure hQ
        | (refine wpAny_bind (wpAny_load ho ?_)
           rw [hc,hd]
           show wpAny M A (if (["enumerate", "zip", "dict_itemiterator", "dict_reverseitemiterator", "odict_iterator", "itertools.zip_longest", "itertools.pairwise"].contains n && vs[0]? == some (rawInt _))=true then _ else _) Q E s
           rw [if_neg (by intro h; rw [hn,Bool.false_and] at h; cases h)]
           exact wpAny_pure hQ))
def Itl (K:PySem.W.Frag) (a:Addr):It :=
 ⟨fun i H=>∃ xs x,SqL K H a xs/\xs[i]? = some x,fun i H x H'=>H'=H/\∀ xs,SqL K H a xs->xs[i]? = some x,fun i H=>∃ xs,SqL K H a xs/\xs.length<=i⟩
def Itt (K:PySem.W.Frag) (a:Addr):It :=
 ⟨fun i H=>∃ xs x,SqT K H a xs/\xs[i]? = some x,fun i H x H'=>H'=H/\∀ xs,SqT K H a xs->xs[i]? = some x,fun i H=>∃ xs,SqT K H a xs/\xs.length<=i⟩
def Itr (lo:Int) (n:Nat):It:=⟨fun i _=>i < n,fun i H x H'=>H'=H/\x = .int (lo + i),fun i _=>n<=i⟩
theorem kK {P:Program} {w:World} {K:PySem.W.Frag} {tg:Expr} (a it:Addr):Turn P w K tg (Itl K a) [it] it (fun i h=>h.IsListIter it a i) where
 mem:=by simp
 obj:=fun i h st b hb=>by
  have e:b=it:=by simpa using hb
  subst e
  obtain ⟨o,e,c,d⟩:=st
  exact ⟨o,e,fun v z=>by rw [d] at z; cases z⟩
 keep:=fun i h h' st k=>st.at fun o e=>k it (by simp) o e
 item:=by
  intro X hP hw hK hc i pins s σ H E I hf st hg
  subst hP hw hK
  obtain ⟨xs,x,hq,hx⟩:=hg
  obtain ⟨its,rv,p,hz⟩:=I.list hq
  obtain ⟨u,hu,ru⟩:=rv.get hx
  obtain ⟨f0,f1,f2,f3,f4,f5⟩:=hf it (by simp)
  refine wpAny_pyNext_list_item st p.isList (x:=u) (by simpa using hu) fun h' st' sb => ?_
  have I1:Inv X pins σ H { s with heap:=h' }:=I.turned (t':=s.toks) (fun b o hb e=>(sb.2 b hb).trans e) f0 f1 f3 f4 f5
  obtain ⟨o,e,c,d⟩:=id st'
  exact ⟨u,rfl,qr (s:={ s with heap:=h' }) e c d (by decide) ⟨x,H,I1,ru,⟨rfl,fun ys hy=>by rw [I.nD hy hq]; exact hx⟩,st',fun b hb=>(hf b hb).1⟩⟩
 done:=by
  intro X hP hw hK hc i pins s σ H E I hf st hg
  subst hP hw hK
  obtain ⟨xs,hq,hx⟩:=hg
  obtain ⟨its,rv,p,hz⟩:=I.list hq
  obtain ⟨f0,f1,f2,f3,f4,f5⟩:=hf it (by simp)
  have hl:=rv.length
  exact wpAny_pyNext_list_end (I.ok.hd hc) st p.isList (by simp; omega) fun h' eb=>⟨rfl,I.turned (t':=s.toks) (fun b o hb e=>eb b o hb e) f0 f1 f3 f4 f5⟩
 self:=fun _ _ _ _ _ st h=>wpAny_pyIter_listiter st h
theorem jv {P:Program} {w:World} {K:PySem.W.Frag} {tg:Expr} (a it:Addr):Turn P w K tg (Itt K a) [it] it (fun i h=>h.IsTupleIter it a i) where
 mem:=by simp
 obj:=fun i h st b hb=>by
  have e:b=it:=by simpa using hb
  subst e
  obtain ⟨o,e,c,d⟩:=st
  exact ⟨o,e,fun v z=>by rw [d] at z; cases z⟩
 keep:=fun i h h' st k=>st.at fun o e=>k it (by simp) o e
 item:=by
  intro X hP hw hK hc i pins s σ H E I hf st hg
  subst hP hw hK
  obtain ⟨xs,x,hq,hx⟩:=hg
  obtain ⟨its,rv,p,hz⟩:=I.tuple hq
  obtain ⟨u,hu,ru⟩:=rv.get hx
  obtain ⟨f0,f1,f2,f3,f4,f5⟩:=hf it (by simp)
  refine wpAny_pyNext_tuple_item st (show s.heap.IsTuple a its.toArray from p) (x:=u) (by simpa using hu) fun h' st' sb => ?_
  have I1:Inv X pins σ H { s with heap:=h' }:=I.turned (t':=s.toks) (fun b o hb e=>(sb.2 b hb).trans e) f0 f1 f3 f4 f5
  obtain ⟨o,e,c,d⟩:=id st'
  exact ⟨u,rfl,qr (s:={ s with heap:=h' }) e c d (by decide) ⟨x,H,I1,ru,⟨rfl,fun ys hy=>by rw [I.kJ hy hq]; exact hx⟩,st',fun b hb=>(hf b hb).1⟩⟩
 done:=by
  intro X hP hw hK hc i pins s σ H E I hf st hg
  subst hP hw hK
  obtain ⟨xs,hq,hx⟩:=hg
  obtain ⟨its,rv,p,hz⟩:=I.tuple hq
  obtain ⟨f0,f1,f2,f3,f4,f5⟩:=hf it (by simp)
  have hl:=rv.length
  exact wpAny_pyNext_tuple_end (I.ok.hd hc) st (show s.heap.IsTuple a its.toArray from p) (by simp; omega) fun h' eb=>⟨rfl,I.turned (t':=s.toks) (fun b o hb e=>eb b o hb e) f0 f1 f3 f4 f5⟩
 self:=fun _ _ _ _ _ st h=>wpAny_pyIter_tupleiter st h
theorem pA {P:Program} {w:World} {K:PySem.W.Frag} {tg:Expr} (it:Addr) (lo:Int) (n:Nat):Turn P w K tg (Itr lo n) [it] it (fun i h=>IsRangeIter h it (lo + (i:Nat) * 1) ((n:Int) - (i:Nat)) 1) where
 mem:=by simp
 obj:=fun i h st b hb=>by
  have e:b=it:=by simpa using hb
  subst e
  exact ⟨_,st,fun v z=>by
   have z':Data.fields _=Data.cell v:=z
   cases z'⟩
 keep:=fun i h h' st k=>k it (by simp) _ st
 item:=by
  intro X hP hw hK hc i pins s σ H E I hf st hg
  subst hP hw hK
  obtain ⟨f0,f1,f2,f3,f4,f5⟩:=hf it (by simp)
  have W:=Walks.range (prog:=X.prog) (w:=X.w) (I.ok.hd hc) it lo 1 n
  refine W.item i s _ _ hg st fun v h' tk hv st' kk => ?_
  obtain ⟨t,rfl⟩:=hv
  have I1:Inv X pins σ H { s with heap:=h',toks:=tk }:=I.turned (fun b o hb e=>kk b o (by simpa using hb) e) f0 f1 f3 f4 f5
  refine ⟨_,rfl,qr (s:={ s with heap:=h',toks:=tk }) (n := "range_iterator") st' rfl rfl (by decide) ⟨.int (lo + i),H,I1,⟨t,?_⟩,⟨rfl,rfl⟩,st',fun b hb=>(hf b hb).1⟩⟩
  rw [Int.mul_one]
 done:=by
  intro X hP hw hK hc i pins s σ H E I hf st hg
  subst hP hw hK
  obtain ⟨f0,f1,f2,f3,f4,f5⟩:=hf it (by simp)
  exact wpAny_pyNext_range_end (I.ok.hd hc) st (by have:n<=i:=hg; omega) fun h' eb=>⟨rfl,I.turned (t':=s.toks) (fun b o hb e=>eb b o hb e) f0 f1 f3 f4 f5⟩
 self:=fun _ _ _ _ _ st h=>wpAny_pyIter_rangeiter st h
open PySem PySem.Spec PyProof.Rows
section
variable {X:Cx} {tg:Expr}
def zc (K:PySem.W.Frag) (tl:TE):TI:=fun σ H R=>tl σ H fun x H1=>∃ a,x = .ref a/\(∃ xs,SqL K H1 a xs)/\R (Itl K a) H1
def iTup (K:PySem.W.Frag) (tl:TE):TI:=fun σ H R=>tl σ H fun x H1=>∃ a,x = .ref a/\(∃ xs,SqT K H1 a xs)/\R (Itt K a) H1
theorem cK {l:Expr} {tl:TE} (hl:PE X l tl):PI X tg l (zc X.K tl):=by
 intro pins s σ H R I h
 refine thn (hl pins s σ H _ I h) fun v s1 ⟨x,H1,I1,r1,q1⟩ => ?_
 obtain ⟨a,e,⟨xs,hq⟩,q⟩:=q1
 subst e
 cases r1
 obtain ⟨its,rv,p,hz⟩:=I1.list hq
 refine wpAny_pyIter_list p.isList ?_
 refine ⟨s1.heap.objs.size,[s1.heap.objs.size],_,_,H1,rfl,I1.kept (t':=s1.toks) fun b o e=>Heap.get?_push_of_some _ e,kK a _,⟨_,Heap.get?_push_size _ rfl,rfl,rfl⟩,fun b hb => ?_,q⟩
 have e:b=s1.heap.objs.size:=by simpa using hb
 subst e
 exact I1.rA (Nat.le_refl _) (I1.hok.fresh (Nat.le_refl _))
theorem eV {l:Expr} {tl:TE} (hl:PE X l tl):PI X tg l (iTup X.K tl):=by
 intro pins s σ H R I h
 refine thn (hl pins s σ H _ I h) fun v s1 ⟨x,H1,I1,r1,q1⟩ => ?_
 obtain ⟨a,e,⟨xs,hq⟩,q⟩:=q1
 subst e
 cases r1
 obtain ⟨its,rv,p,hz⟩:=I1.tuple hq
 refine wpAny_pyIter_tuple (show s1.heap.IsTuple a its.toArray from p) ?_
 refine ⟨s1.heap.objs.size,[s1.heap.objs.size],_,_,H1,rfl,I1.kept (t':=s1.toks) fun b o e=>Heap.get?_push_of_some _ e,jv a _,⟨_,Heap.get?_push_size _ rfl,rfl,rfl⟩,fun b hb => ?_,q⟩
 have e:b=s1.heap.objs.size:=by simpa using hb
 subst e
 exact I1.rA (Nat.le_refl _) (I1.hok.fresh (Nat.le_refl _))
theorem tQ {pins:List (Addr × Obj)} {σ:St} {H:Hp} {s:Shared} {R:It->Hp->Prop} {E:Value->Shared->Prop} {lo hi:Int} {t u v:Tok} {tk:Nat} (I:Inv X pins σ H s) (h1 : -(2 ^ 62)<=lo) (h2:lo < 2 ^ 62) (h3 : -(2 ^ 62)<=hi) (h4:hi < 2 ^ 62)
  (q:R (Itr lo (hi - lo).toNat) H):wpAny (model X.prog X.w) X.A (pyIter (.ref s.heap.objs.size)) (PIE X pins σ tg R) E { s with heap:=s.heap.push { cls := .type "range",data := .fields #[.int lo t,.int hi u,.int 1 v] },toks:=tk }:=by
 refine wpAny_pyIter_range (IsRange.new ..) (small_one h1 h2 h3 h4) ?_
 have I1:Inv X pins σ H { s with heap:=s.heap.push { cls := .type "range",data := .fields #[.int lo t,.int hi u,.int 1 v] },toks:=tk }:=I.kept fun b o e=>Heap.get?_push_of_some _ e
 refine ⟨(s.heap.push { cls := .type "range",data := .fields #[.int lo t,.int hi u,.int 1 v] }).objs.size,[(s.heap.push { cls := .type "range",data := .fields #[.int lo t,.int hi u,.int 1 v] }).objs.size],_,_,H,rfl,
  I1.kept (t':=tk) fun b o e=>Heap.get?_push_of_some _ e,pA _ lo (hi - lo).toNat,?_,fun b hb => ?_,q⟩
 ·have e1:lo + ((0:Nat):Int) * 1=lo:=by simp
  have e2:(((hi - lo).toNat:Nat):Int) - ((0:Nat):Int)=Builtin.Range.rangeSize lo hi 1:=by rw [rangeSize_one]; split <;> omega
  show IsRangeIter _ _ (lo + ((0:Nat):Int) * 1) ((((hi - lo).toNat:Nat):Int) - ((0:Nat):Int)) 1
  rw [e1,e2]
  exact Heap.get?_push_size _ rfl
 ·have e:b=(s.heap.push { cls := .type "range",data := .fields #[.int lo t,.int hi u,.int 1 v] }).objs.size:=by simpa using hb
  subst e
  exact I1.rA (Nat.le_refl _) (I1.hok.fresh (Nat.le_refl _))
def zd (ta:TA):TI:=fun σ H R=>ta σ H fun vs H1=>∃ j:Int,vs=[.int j] /\ -(2 ^ 62)<=j/\j < 2 ^ 62/\R (Itr 0 j.toNat) H1
theorem cj {a:Expr} {ta:TA} {p pos:Pos} (hg:Gl X "range") (hm:X.mg "range" = none) (ha:PA X [a] ta) (hs:starEach [a] X.env=[(false,eval a X.env)]:=by rfl):PI X tg (.Call (.Name "range" p) [a] [] pos) (zd ta):=by
 intro pins s σ H R I h
 refine Call_ (fY I hg hm boot_range (PyProof.Rows.callWith_type1 (thn (ha pos pins s σ H _ I h) fun us s1 ⟨vs,H1,I1,r1,q1⟩ => ?_) hs rfl))
 obtain ⟨j,e,q1,q2,q⟩:=q1
 subst e
 cases r1 with
 | cons r rr =>
  cases rr
  obtain ⟨t,rfl⟩:=r
  exact call_range_1 (tQ I1 (by omega) (by omega) q1 q2 (by simpa using q))
def tFor (wi:TI) (g:TG) (tb:TS):TS:=fun D σ H=>wi σ H fun J H1=>∃ W:Nat->Nat->St->Hp->Prop,(∃ m,W 0 m σ H1)/\∀ i m σ H,W i m σ H →
 (J.stop i H/\D.nx σ H)\/(J.go i H/\∃ N:St->Hp->Prop,(∀ σ' H',N σ' H'->∃ m',m' < m/\W (i + 1) m' σ' H')/\∀ x H',J.yld i H x H'->g x σ H' fun σ2 H2=>tb { D with nx:=N,ct:=N,bk:=D.nx } σ2 H2)
def fZ (fp:List Addr) (h:Heap):List (Addr × Obj):=fp.filterMap fun b=>(h.get? b).map fun o=>(b,o)
theorem cX {fp:List Addr} {h:Heap} {b:Addr} {o:Obj} (hb:b ∈ fp) (e:h.get? b=some o):(b,o) ∈ fZ fp h:=List.mem_filterMap.mpr ⟨b,hb,by rw [e]; rfl⟩
theorem kM {fp:List Addr} {h:Heap} {p:Addr × Obj} (hp:p ∈ fZ fp h):p.1 ∈ fp/\h.get? p.1=some p.2:=by
 obtain ⟨b,hb,e⟩:=List.mem_filterMap.mp hp
 cases q:h.get? b with
 | none=>rw [q] at e; cases e
 | some o =>
  rw [q] at e
  have e':(b,o)=p:=Option.some.inj e
  subst e'
  exact ⟨hb,q⟩
theorem Inv.pinned {pins:List (Addr × Obj)} {σ:St} {H:Hp} {s:Shared} {fp:List Addr} (I:Inv X pins σ H s) (hf:∀ b ∈ fp,iz X pins H b) (ho:∀ b ∈ fp,∃ o,s.heap.get? b=some o/\∀ v,o.data ≠ .cell v):Inv X (pins ++ fZ fp s.heap) σ H s :=
 I.gx fun p hp=>(List.mem_append.mp hp).elim (fun z=>I.pin p (List.mem_append_right _ z)) fun z=>by
  obtain ⟨hb,e⟩:=kM z
  obtain ⟨f0,f1,f2,_⟩:=hf p.1 hb
  obtain ⟨o,e',d⟩:=ho p.1 hb
  rw [e] at e'; cases e'
  exact ⟨e,f0,f1,f2,d⟩
theorem Inv.dD {pins pl:List (Addr × Obj)} {σ:St} {H:Hp} {s:Shared} (I:Inv X (pins ++ pl) σ H s):Inv X pins σ H s:=I.gx fun p hp=>I.pin p (List.mem_append_right _ (List.mem_append_left _ hp))
theorem bV {iter:Expr} {body:List Stmt} {wi:TI} {g:TG} {tb:TS} {pos:Pos} (hp:PassesOwn (model X.prog X.w) X.A X.env X.xe) (hc:X.calm=true) (hi:PI X tg iter wi) (hg:PG X tg g) (hb:PSs X body tb)
  (hs:∀ x,foldedSetIterable iter X.env x=pure x:=by intro _; rfl):PS X (.For tg iter body [] pos) (tFor wi g tb):=by
 intro pins s σ H D I h
 refine wpAny_For (thn (hi pins s σ H _ I h) fun v s1 h1=>thn h1 fun itv s2 h2 => ?_) hs
 obtain ⟨it,fp,tn,J,H2,e,I2,T,st2,f2,W,⟨m0,w0⟩,turn⟩:=h2
 subst e
 have stat:∀ {H':Hp},(∀ b ∈ fp,H' b=none)->∀ b ∈ fp,iz X pins H' b:=fun hn b hb=>⟨hn b hb,(f2 b hb).2⟩
 refine codeAny_forLoop_any (fun n s'=>∃ i σ' H',Inv X pins σ' H' s'/\tn i s'.heap/\(∀ b ∈ fp,H' b=none)/\W i n σ' H') ?_ m0 ⟨0,σ,H2,I2,st2,fun b hb=>(f2 b hb).1,w0⟩
 rintro n s3 ⟨i,σ3,H3,I3,st3,fr3,w3⟩
 rcases turn i n σ3 H3 w3 with ⟨stop,qn⟩ | ⟨go,N,hN,step⟩
 ·refine wpAny_passesOwn hp (thn (T.done X rfl rfl rfl hc i pins s3 σ3 H3 X.xe I3 (stat fr3) st3 stop) fun r s4 ⟨hr,I4⟩ => ?_)
  subst hr
  exact wpAny_execs_nil ⟨σ3,H3,I4,qn⟩
 ·refine wpAny_passesOwn hp (thn (T.item X rfl rfl rfl hc i pins s3 σ3 H3 X.xe I3 (stat fr3) st3 go) fun r s4 ⟨u,hr,h4⟩ => ?_)
  subst hr
  refine wpAny_passesOwn hp (thn h4 fun _ s5 ⟨x,H5,I5,r5,y5,st5,fr5⟩ => ?_)
  have I5':=I5.pinned (stat fr5) (T.obj _ _ st5)
  refine wpAny_passesOwn hp (thn (hg _ s5 σ3 H5 x u _ I5' r5 (step x H5 y5)) fun _ s6 ⟨σ6,H6,I6,q6⟩ => ?_)
  refine wpAny_passesOwn hp (thn (hb _ s6 σ6 H6 _ I6 q6) fun f s7 q7 => ?_)
  have again:∀ {σ7:St} {H7:Hp},Inv X (pins ++ fZ fp s5.heap) σ7 H7 s7->N σ7 H7->∃ m,m < n/\∃ i σ' H',Inv X pins σ' H' s7/\tn i s7.heap/\(∀ b ∈ fp,H' b=none)/\W i m σ' H':=fun {σ7 H7} I7 n7=>by
   obtain ⟨m',hm,w7⟩:=hN σ7 H7 n7
   refine ⟨m',hm,i + 1,σ7,H7,I7.dD,T.keep _ _ _ st5 fun b hb o e=>(I7.pin (b,o) (List.mem_append_right _ (List.mem_append_right _ (cX hb e)))).1,fun b hb => ?_,w7⟩
   obtain ⟨o,e,d⟩:=T.obj _ _ st5 b hb
   exact (I7.pin (b,o) (List.mem_append_right _ (List.mem_append_right _ (cX hb e)))).2.1
  cases f with
  | next=>obtain ⟨σ7,H7,I7,n7⟩:=q7; exact again I7 n7
  | cont=>obtain ⟨σ7,H7,I7,n7⟩:=q7; exact again I7 n7
  | brk=>obtain ⟨σ7,H7,I7,q7⟩:=q7; exact ⟨σ7,H7,I7.dD,q7⟩
  | ret v=>obtain ⟨x7,σ7,H7,I7,r7,q7⟩:=q7; exact ⟨x7,σ7,H7,I7.dD,r7,q7⟩
end
theorem cz {K:PySem.W.Frag} {a:Addr} {xs:List V} {g:TG} {tb:TS} {D:Ends} {σ:St} {H:Hp} (Pv:Nat->St->Hp->Prop) (h0:Pv 0 σ H) (hl:∀ i σ H,i<=xs.length->Pv i σ H->SqL K H a xs)
  (hs:∀ i x σ H,xs[i]? = some x->Pv i σ H->g x σ H fun σ2 H2=>tb { D with nx:=Pv (i + 1),ct:=Pv (i + 1),bk:=D.nx } σ2 H2) (hd:∀ σ H,Pv xs.length σ H->D.nx σ H) :
  ∃ W:Nat->Nat->St->Hp->Prop,(∃ m,W 0 m σ H)/\∀ i m σ H,W i m σ H →
   ((Itl K a).stop i H/\D.nx σ H)\/((Itl K a).go i H/\∃ N:St->Hp->Prop,(∀ σ' H',N σ' H'->∃ m',m' < m/\W (i + 1) m' σ' H')/\∀ x H',(Itl K a).yld i H x H'->g x σ H' fun σ2 H2=>tb { D with nx:=N,ct:=N,bk:=D.nx } σ2 H2):=by
 refine ⟨fun i m σ H=>m=xs.length - i/\i<=xs.length/\Pv i σ H,⟨xs.length,by simp,Nat.zero_le _,h0⟩,?_⟩
 rintro i m σ H ⟨rfl,hi,p⟩
 have q:=hl i σ H hi p
 by_cases hlt:i < xs.length
 ·refine .inr ⟨⟨xs,xs[i],q,by simp [hlt]⟩,Pv (i + 1),fun σ' H' p'=>⟨xs.length - (i + 1),by omega,rfl,hlt,p'⟩,fun x H' y => ?_⟩
  obtain ⟨e,y⟩:=y
  subst e
  exact hs i x σ _ (y xs q) p
 ·have e:i=xs.length:=by omega
  subst e
  exact .inl ⟨⟨xs,q,Nat.le_refl _⟩,hd σ H p⟩
theorem qt {K:PySem.W.Frag} {a:Addr} {xs:List V} {g:TG} {tb:TS} {D:Ends} {σ:St} {H:Hp} (Pv:Nat->St->Hp->Prop) (h0:Pv 0 σ H) (hl:∀ i σ H,i<=xs.length->Pv i σ H->SqT K H a xs)
  (hs:∀ i x σ H,xs[i]? = some x->Pv i σ H->g x σ H fun σ2 H2=>tb { D with nx:=Pv (i + 1),ct:=Pv (i + 1),bk:=D.nx } σ2 H2) (hd:∀ σ H,Pv xs.length σ H->D.nx σ H) :
  ∃ W:Nat->Nat->St->Hp->Prop,(∃ m,W 0 m σ H)/\∀ i m σ H,W i m σ H →
   ((Itt K a).stop i H/\D.nx σ H)\/((Itt K a).go i H/\∃ N:St->Hp->Prop,(∀ σ' H',N σ' H'->∃ m',m' < m/\W (i + 1) m' σ' H')/\∀ x H',(Itt K a).yld i H x H'->g x σ H' fun σ2 H2=>tb { D with nx:=N,ct:=N,bk:=D.nx } σ2 H2):=by
 refine ⟨fun i m σ H=>m=xs.length - i/\i<=xs.length/\Pv i σ H,⟨xs.length,by simp,Nat.zero_le _,h0⟩,?_⟩
 rintro i m σ H ⟨rfl,hi,p⟩
 have q:=hl i σ H hi p
 by_cases hlt:i < xs.length
 ·refine .inr ⟨⟨xs,xs[i],q,by simp [hlt]⟩,Pv (i + 1),fun σ' H' p'=>⟨xs.length - (i + 1),by omega,rfl,hlt,p'⟩,fun x H' y => ?_⟩
  obtain ⟨e,y⟩:=y
  subst e
  exact hs i x σ _ (y xs q) p
 ·have e:i=xs.length:=by omega
  subst e
  exact .inl ⟨⟨xs,q,Nat.le_refl _⟩,hd σ H p⟩
theorem iA {lo:Int} {n:Nat} {g:TG} {tb:TS} {D:Ends} {σ:St} {H:Hp} (Pv:Nat->St->Hp->Prop) (h0:Pv 0 σ H)
  (hs:∀ i σ H,i < n->Pv i σ H->g (.int (lo + i)) σ H fun σ2 H2=>tb { D with nx:=Pv (i + 1),ct:=Pv (i + 1),bk:=D.nx } σ2 H2) (hd:∀ σ H,Pv n σ H->D.nx σ H) :
  ∃ W:Nat->Nat->St->Hp->Prop,(∃ m,W 0 m σ H)/\∀ i m σ H,W i m σ H →
   ((Itr lo n).stop i H/\D.nx σ H)\/((Itr lo n).go i H/\∃ N:St->Hp->Prop,(∀ σ' H',N σ' H'->∃ m',m' < m/\W (i + 1) m' σ' H')/\∀ x H',(Itr lo n).yld i H x H'->g x σ H' fun σ2 H2=>tb { D with nx:=N,ct:=N,bk:=D.nx } σ2 H2):=by
 refine ⟨fun i m σ H=>m=n - i/\i<=n/\Pv i σ H,⟨n,by simp,Nat.zero_le _,h0⟩,?_⟩
 rintro i m σ H ⟨rfl,hi,p⟩
 by_cases hlt:i < n
 ·refine .inr ⟨hlt,Pv (i + 1),fun σ' H' p'=>⟨n - (i + 1),by omega,rfl,hlt,p'⟩,fun x H' y => ?_⟩
  obtain ⟨e,y⟩:=y
  subst e y
  exact hs i σ _ hlt p
 ·have e:i=n:=by omega
  subst e
  exact .inl ⟨Nat.le_refl _,hd σ H p⟩
theorem nF {c:TT} {tb:TS} {D:Ends} {σ:St} {H:Hp} (Pv:St->Hp->Prop) (μ : St->Hp->Nat) (h0:Pv σ H)
  (hs:∀ σ H,Pv σ H->c σ H fun b H1=>if b=true then tb { D with nx:=fun σ' H'=>Pv σ' H' /\ μ σ' H' < μ σ H,ct:=fun σ' H'=>Pv σ' H' /\ μ σ' H' < μ σ H,bk:=D.nx } σ H1 else D.nx σ H1)
  (mono:∀ σ H Q Q',(∀ b H1,Q b H1->Q' b H1)->c σ H Q->c σ H Q'):tP c tb D σ H:=by
 refine ⟨fun m σ H=>m = μ σ H/\Pv σ H,⟨_,rfl,h0⟩,?_⟩
 rintro m σ H ⟨rfl,p⟩
 refine mono σ H _ _ (fun b H1 q => ?_) (hs σ H p)
 cases b with
 | true=>exact ⟨_,fun σ' H' ⟨p',l⟩=>⟨_,l,rfl,p'⟩,q⟩
 | false=>exact q
open PySem PySem.Spec PyProof.Rows
abbrev R2:=V->V->Hp->VK->Prop
def OpR (X:Cx) (f:Value->Value->Sem Value) (r:R2):Prop :=
 ∀ (pins:List (Addr × Obj)) (s:Shared) (σ:St) (H:Hp) (x y:V) (v u:Value) (Q:VK),Inv X pins σ H s->RelV x v->RelV y u->r x y H Q →
  wpAny (model X.prog X.w) X.A (f v u) (EP X pins σ Q) X.xe s
def UnR (X:Cx) (f:Value->Sem Value) (r:V->Hp->VK->Prop):Prop :=
 ∀ (pins:List (Addr × Obj)) (s:Shared) (σ:St) (H:Hp) (x:V) (v:Value) (Q:VK),Inv X pins σ H s->RelV x v->r x H Q →
  wpAny (model X.prog X.w) X.A (f v) (EP X pins σ Q) X.xe s
def bu (X:Cx) (f:Value) (r:List V->Hp->VK->Prop):Prop :=
 ∀ (pins:List (Addr × Obj)) (s:Shared) (σ:St) (H:Hp) (xs:List V) (us:List Value) (Q:VK),Inv X pins σ H s->Vals xs us->r xs H Q →
  wpAny (model X.prog X.w) X.A (call f us) (EP X pins σ Q) X.xe s
def TruR (X:Cx) (r:V->Hp->(Bool->Hp->Prop)->Prop):Prop :=
 ∀ (pins:List (Addr × Obj)) (s:Shared) (σ:St) (H:Hp) (x:V) (v:Value) (Q:Bool->Hp->Prop),Inv X pins σ H s->RelV x v->r x H Q →
  wpAny (model X.prog X.w) X.A (truthy v) (TP X pins σ Q) X.xe s
def tOp (r:R2) (ta tb:TE):TE:=fun σ H Q=>ta σ H fun x H1=>tb σ H1 fun y H2=>r x y H2 Q
def tUn (r:V->Hp->VK->Prop) (ta:TE):TE:=fun σ H Q=>ta σ H fun x H1=>r x H1 Q
def rI (C:Int->Int->Prop) (g:Int->Int->V):R2:=fun x y H Q=>∃ i j,x = .int i/\y = .int j/\C i j/\Q (g i j) H
def rI0 (g:Int->Int->V):R2:=fun x y H Q=>∃ i j,x = .int i/\y = .int j/\Q (g i j) H
def rU (g:Int->V):V->Hp->VK->Prop:=fun x H Q=>∃ i,x = .int i/\Q (g i) H
section
variable {X:Cx} {a b c:Expr} {ta tb tc:TE} {pos:Pos}
theorem xY (ha:PE X a ta) (hb:PE X b tb) {pins:List (Addr × Obj)} {s:Shared} {σ:St} {H:Hp} {R:V->V->Hp->Prop} (I:Inv X pins σ H s)
  (h:ta σ H fun x H1=>tb σ H1 fun y H2=>R x y H2) {Q:Value->Shared->Prop} {f:Value->Value->Sem Value}
  (hf:∀ v u s2 x y H2,Inv X pins σ H2 s2->RelV x v->RelV y u->R x y H2->wpAny (model X.prog X.w) X.A (f v u) Q X.xe s2) :
  wpAny (model X.prog X.w) X.A (eval a X.env) (fun v s₁=>wpAny (model X.prog X.w) X.A (eval b X.env) (fun u s₂=>wpAny (model X.prog X.w) X.A (f v u) Q X.xe s₂) X.xe s₁) X.xe s:=by
 refine thn (ha pins s σ H _ I h) fun v s1 ⟨x,H1,I1,r1,q1⟩ => ?_
 refine thn (hb pins s1 σ H1 _ I1 q1) fun u s2 ⟨y,H2,I2,r2,q2⟩ => ?_
 exact hf v u s2 x y H2 I2 r1 r2 q2
theorem ay {op:Operator} {r:R2} (ho:OpR X (binaryOp op) r) (ha:PE X a ta) (hb:PE X b tb):PE X (.BinOp a op b pos) (tOp r ta tb):=by
 intro pins s σ H Q I h
 exact wpAny_BinOp (xY ha hb I h fun v u s2 x y H2 I2 rx ry q=>ho pins s2 σ H2 x y v u Q I2 rx ry q)
theorem tR {op:UnaryOp} {r:V->Hp->VK->Prop} (ho:UnR X (unaryOp op) r) (ha:PE X a ta):PE X (.UnaryOp op a pos) (tUn r ta):=by
 intro pins s σ H Q I h
 exact UnaryOp_ (thn (ha pins s σ H _ I h) fun v s1 ⟨x,H1,I1,r1,q1⟩=>ho pins s1 σ H1 x v Q I1 r1 q1)
theorem opI {f:Value->Value->Sem Value} {C:Int->Int->Prop} {g:Int->Int->Int}
  (rule:∀ (i j:Int) (t u:Tok) (s:Shared) (Q:Value->Shared->Prop) (E:Value->Shared->Prop),C i j->Q (.int (g i j) s.toks) { s with toks:=s.toks + 1 }->wpAny (model X.prog X.w) X.A (f (.int i t) (.int j u)) Q E s) :
  OpR X f (rI C fun i j => .int (g i j)):=by
 intro pins s σ H x y v u Q I rx ry h
 obtain ⟨i,j,rfl,rfl,hc,q⟩:=h
 obtain ⟨t,rfl⟩:=rx
 obtain ⟨t',rfl⟩:=ry
 exact rule i j t t' s _ _ hc ⟨.int (g i j),H,I.tok _,⟨_,rfl⟩,q⟩
theorem ze {f:Value->Value->Sem Value} {g:Int->Int->Int}
  (rule:∀ (i j:Int) (t u:Tok) (s:Shared) (Q:Value->Shared->Prop) (E:Value->Shared->Prop),Q (.int (g i j) s.toks) { s with toks:=s.toks + 1 }->wpAny (model X.prog X.w) X.A (f (.int i t) (.int j u)) Q E s) :
  OpR X f (rI0 fun i j => .int (g i j)):=by
 intro pins s σ H x y v u Q I rx ry h
 obtain ⟨i,j,rfl,rfl,q⟩:=h
 obtain ⟨t,rfl⟩:=rx
 obtain ⟨t',rfl⟩:=ry
 exact rule i j t t' s _ _ ⟨.int (g i j),H,I.tok _,⟨_,rfl⟩,q⟩
theorem vU {f:Value->Value->Sem Value} {g:Int->Int->Bool}
  (rule:∀ (i j:Int) (t u:Tok) (s:Shared) (Q:Value->Shared->Prop) (E:Value->Shared->Prop),Q (.bool (g i j)) s->wpAny (model X.prog X.w) X.A (f (.int i t) (.int j u)) Q E s) :
  OpR X f (rI0 fun i j => .bl (g i j)):=by
 intro pins s σ H x y v u Q I rx ry h
 obtain ⟨i,j,rfl,rfl,q⟩:=h
 obtain ⟨t,rfl⟩:=rx
 obtain ⟨t',rfl⟩:=ry
 exact rule i j t t' s _ _ ⟨.bl (g i j),H,I,rfl,q⟩
def CDiv (i j:Int):Prop:=0 < j/\j < 1073741824
def CPow (i j:Int):Prop:=0<=j/\j<=1000000/\i.natAbs < 2 ^ 64
def xZ (i j:Int):Prop:=(-(2 ^ 64) < i/\i < 2 ^ 64)\/(-(2 ^ 64) < j/\j < 2 ^ 64)
theorem xZ.ok {i j:Int} (h:xZ i j):IntMulOk i j:=by
 rcases h with ⟨h1,h2⟩ | ⟨h1,h2⟩
 ·exact .of_left (intBits_le_64 h1 h2)
 ·exact .of_right (intBits_le_64 h1 h2)
theorem bJ:OpR X (binaryOp .Add) (rI0 fun i j => .int (i + j)):=ze fun _ _ _ _ _ _ _ q=>add_int q
theorem iB:OpR X (binaryOp .Sub) (rI0 fun i j => .int (i - j)):=ze fun _ _ _ _ _ _ _ q=>sub_int q
theorem jw:OpR X (binaryOp .Mult) (rI xZ fun i j => .int (i * j)):=opI fun _ _ _ _ _ _ _ hc q=>mul_int q hc.ok
theorem fJ:OpR X (binaryOp .FloorDiv) (rI CDiv fun i j => .int (i / j)):=opI fun i j _ _ _ _ _ hc q=>by
 have h1:(0:Int) < j:=hc.1
 have h2:j < 1073741824:=hc.2
 exact floordiv_int (by omega) (by rw [Int.fdiv_eq_ediv_of_nonneg i (by omega)]; exact q) (.inl (PyProof.noPylong_small (by omega)))
theorem dY:OpR X (binaryOp .Mod) (rI (fun _ j=>0 < j) fun i j => .int (i % j)):=opI fun i j _ _ _ _ _ hc q=>by
 have h1:(0:Int) < j:=hc
 exact mod_int' (by omega) (by rw [Int.fmod_eq_emod_of_nonneg i (by omega)]; exact q)
theorem gf:OpR X (binaryOp .Pow) (rI CPow fun i j => .int (i ^ j.toNat)):=opI fun _ _ _ _ _ _ _ hc q=>pow_int_small hc.1 hc.2.1 hc.2.2 q
theorem unI {f:Value->Sem Value} {g:Int->Int}
  (rule:∀ (i:Int) (t:Tok) (s:Shared) (Q:Value->Shared->Prop) (E:Value->Shared->Prop),Q (.int (g i) s.toks) { s with toks:=s.toks + 1 }->wpAny (model X.prog X.w) X.A (f (.int i t)) Q E s) :
  UnR X f (rU fun i => .int (g i)):=by
 intro pins s σ H x v Q I rx h
 obtain ⟨i,rfl,q⟩:=h
 obtain ⟨t,rfl⟩:=rx
 exact rule i t s _ _ ⟨.int (g i),H,I.tok _,⟨_,rfl⟩,q⟩
theorem pB:UnR X (unaryOp .USub) (rU fun i => .int (-i)):=unI fun _ _ _ _ _ q=>neg_int q
end
def zf:V->V->Bool
 | .non,.non=>true | .non,.int _=>true | .int _,.non=>true | .non,.bl _=>true | .bl _,.non=>true | .non,.str _=>true | .str _,.non=>true
 | .int _,.int _=>true | .bl _,.bl _=>true | .str _,.str _=>true | .byt _,.byt _=>true
 | .int _,.str _=>true | .str _,.int _=>true | .bl _,.str _=>true | .str _,.bl _=>true
 | _,_=>false
def rEq:R2:=fun x y H Q=>zf x y=true/\Q (.bl (decide (x=y))) H
def rNe:R2:=fun x y H Q=>zf x y=true/\Q (.bl (!decide (x=y))) H
theorem qu {i j:Int}:decide (V.int i=V.int j)=(i == j):=by
 rw [Bool.eq_iff_iff]
 simp
theorem tS {i j:Bool}:decide (V.bl i=V.bl j)=(i == j):=by
 rw [Bool.eq_iff_iff]
 simp
theorem qv {i j:Str}:decide (V.str i=V.str j)=(i == j):=by
 rw [Bool.eq_iff_iff]
 simp
theorem qw {i j:Array UInt8}:decide (V.byt i=V.byt j)=(i.toList == j.toList):=by
 rw [Bool.eq_iff_iff]
 cases i
 cases j
 simp
section
variable {X:Cx} {a b c:Expr} {ta tb tc:TE} {pos:Pos}
theorem aQ {pins:List (Addr × Obj)} {σ:St} {H:Hp} {s:Shared} {Q:VK} {k k':Bool} (I:Inv X pins σ H s) (q:Q (.bl k) H) (e:k=k'):EP X pins σ Q (.bool k') s:=by
 subst e
 exact ⟨.bl k,H,I,rfl,q⟩
theorem fU:OpR X (compareOp .Eq) rEq:=by
 intro pins s σ H x y v u Q I rx ry h
 obtain ⟨hs,q⟩:=h
 cases x with
 | non =>
  cases rx
  cases y with
  | non=>cases ry; exact PySem.EqNone.eq_none_none (aQ I q (by simp))
  | bl j=>cases ry; exact PySem.EqNone.eq_none_bool (aQ I q (by simp))
  | int j=>obtain ⟨t',rfl⟩:=ry; exact PySem.EqNone.eq_none_int (aQ I q (by simp))
  | str j=>obtain ⟨t',rfl⟩:=ry; exact PySem.EqNone.eq_none_str (aQ I q (by simp))
  | _=>exact absurd (show false=true from hs) Bool.false_ne_true
 | bl i =>
  cases rx
  cases y with
  | non=>cases ry; exact PySem.EqNone.eq_bool_none (aQ I q (by simp))
  | bl j=>cases ry; exact eq_bool (aQ I q tS)
  | str j=>obtain ⟨t',rfl⟩:=ry; exact PySem.EqMixed.eq_bool_str (aQ I q (by simp))
  | _=>exact absurd (show false=true from hs) Bool.false_ne_true
 | int i =>
  obtain ⟨t,rfl⟩:=rx
  cases y with
  | non=>cases ry; exact PySem.EqNone.eq_int_none (aQ I q (by simp))
  | int j=>obtain ⟨t',rfl⟩:=ry; exact eq_int (aQ I q qu)
  | str j=>obtain ⟨t',rfl⟩:=ry; exact PySem.EqMixed.eq_int_str (aQ I q (by simp))
  | _=>exact absurd (show false=true from hs) Bool.false_ne_true
 | str i =>
  obtain ⟨t,rfl⟩:=rx
  cases y with
  | non=>cases ry; exact PySem.EqNone.eq_str_none (aQ I q (by simp))
  | bl j=>cases ry; exact PySem.EqMixed.eq_str_bool (aQ I q (by simp))
  | int j=>obtain ⟨t',rfl⟩:=ry; exact PySem.EqMixed.eq_str_int (aQ I q (by simp))
  | str j=>obtain ⟨t',rfl⟩:=ry; exact eq_str (aQ I q qv)
  | _=>exact absurd (show false=true from hs) Bool.false_ne_true
 | byt i =>
  obtain ⟨t,rfl⟩:=rx
  cases y with
  | byt j=>obtain ⟨t',rfl⟩:=ry; exact PySem.W.eq_bytes (aQ I q qw)
  | _=>exact absurd (show false=true from hs) Bool.false_ne_true
 | _=>cases y <;> exact absurd (show false=true from hs) Bool.false_ne_true
theorem nG:OpR X (compareOp .NotEq) rNe:=by
 intro pins s σ H x y v u Q I rx ry h
 obtain ⟨hs,q⟩:=h
 cases x with
 | non =>
  cases rx
  cases y with
  | non=>cases ry; exact PySem.EqNone.ne_none_none (aQ I q (by simp))
  | bl j=>cases ry; exact PySem.EqNone.ne_none_bool (aQ I q (by simp))
  | int j=>obtain ⟨t',rfl⟩:=ry; exact PySem.EqNone.ne_none_int (aQ I q (by simp))
  | str j=>obtain ⟨t',rfl⟩:=ry; exact PySem.EqNone.ne_none_str (aQ I q (by simp))
  | _=>exact absurd (show false=true from hs) Bool.false_ne_true
 | bl i =>
  cases rx
  cases y with
  | non=>cases ry; exact PySem.EqNone.ne_bool_none (aQ I q (by simp))
  | bl j=>cases ry; exact ne_bool (aQ I q (congrArg not tS))
  | str j=>obtain ⟨t',rfl⟩:=ry; exact PySem.EqMixed.ne_bool_str (aQ I q (by simp))
  | _=>exact absurd (show false=true from hs) Bool.false_ne_true
 | int i =>
  obtain ⟨t,rfl⟩:=rx
  cases y with
  | non=>cases ry; exact PySem.EqNone.ne_int_none (aQ I q (by simp))
  | int j=>obtain ⟨t',rfl⟩:=ry; exact ne_int (aQ I q (congrArg not qu))
  | str j=>obtain ⟨t',rfl⟩:=ry; exact PySem.EqMixed.ne_int_str (aQ I q (by simp))
  | _=>exact absurd (show false=true from hs) Bool.false_ne_true
 | str i =>
  obtain ⟨t,rfl⟩:=rx
  cases y with
  | non=>cases ry; exact PySem.EqNone.ne_str_none (aQ I q (by simp))
  | bl j=>cases ry; exact PySem.EqMixed.ne_str_bool (aQ I q (by simp))
  | int j=>obtain ⟨t',rfl⟩:=ry; exact PySem.EqMixed.ne_str_int (aQ I q (by simp))
  | str j=>obtain ⟨t',rfl⟩:=ry; exact ne_str (aQ I q (congrArg not qv))
  | _=>exact absurd (show false=true from hs) Bool.false_ne_true
 | byt i =>
  obtain ⟨t,rfl⟩:=rx
  cases y with
  | byt j=>obtain ⟨t',rfl⟩:=ry; exact PySem.W.ne_bytes (aQ I q (congrArg not qw))
  | _=>exact absurd (show false=true from hs) Bool.false_ne_true
 | _=>cases y <;> exact absurd (show false=true from hs) Bool.false_ne_true
theorem qx:OpR X (compareOp .Lt) (rI0 fun i j => .bl (decide (i < j))):=vU fun _ _ _ _ _ _ _ q=>lt_int q
theorem zg:OpR X (compareOp .LtE) (rI0 fun i j => .bl (decide (i<=j))):=vU fun _ _ _ _ _ _ _ q=>le_int q
theorem zh:OpR X (compareOp .Gt) (rI0 fun i j => .bl (decide (j < i))):=vU fun _ _ _ _ _ _ _ q=>gt_int q
theorem zi:OpR X (compareOp .GtE) (rI0 fun i j => .bl (decide (j<=i))):=vU fun _ _ _ _ _ _ _ q=>ge_int q
theorem vV:OpR X (compareOp .IsNot) (fun x y H Q=>y = .non/\Q (.bl (!decide (x = .non))) H):=by
 intro pins s σ H x y v u Q I rx ry h
 obtain ⟨rfl,q⟩:=h
 cases ry
 refine isnot_none_gen (aQ I q ?_)
 cases x <;> first
  | (cases rx; rfl)
  | (obtain ⟨t,rfl⟩:=rx; rfl)
theorem aX (b:Expr) {op:CmpOp} (h:op ≠ .In:=by decide) (h2:op ≠ .NotIn:=by decide):behindInMarks op b=false:=by
 have e1:(op == CmpOp.In)=false:=by cases op <;> first | rfl | exact absurd rfl h
 have e2:(op == CmpOp.NotIn)=false:=by cases op <;> first | rfl | exact absurd rfl h2
 cases b <;> simp [behindInMarks,e1,e2]
theorem jb {op:CmpOp} {r:R2} (ho:OpR X (compareOp op) r) (ha:PE X a ta) (hb:PE X b tb) (hm:behindInMarks op b=false):PE X (.Compare a [op] [b] pos) (tOp r ta tb):=by
 intro pins s σ H Q I h
 exact wpAny_Compare1 (xY ha hb I h fun v u s2 x y H2 I2 rx ry q=>ho pins s2 σ H2 x y v u Q I2 rx ry q) hm
def zj (t:TE):TT:=fun σ H Q=>t σ H fun x H'=>∃ k,x = .bl k/\Q k H'
theorem aF {op:CmpOp} {r:R2} (ho:OpR X (compareOp op) r) (ha:PE X a ta) (hb:PE X b tb) (hm:behindInMarks op b=false):PT X (.Compare a [op] [b] pos) (zj (tOp r ta tb)):=by
 intro pins s σ H Q I h
 refine wpAny_isTrue_Compare1 (thn (ha pins s σ H _ I h) fun v s1 ⟨x,H1,I1,r1,q1⟩=>thn (hb pins s1 σ H1 _ I1 q1) fun u s2 ⟨y,H2,I2,r2,q2⟩ =>
  thn (ho pins s2 σ H2 x y v u _ I2 r1 r2 q2) fun c s3 ⟨z,H3,I3,r3,k,e,q3⟩ => ?_) hm
 subst e
 cases r3
 exact wpAny_truthy_bool ⟨H3,I3,q3⟩
def x8 (r r':R2) (ta tb tc:TE):TE:=fun σ H Q=>ta σ H fun x H1=>tb σ H1 fun y H2=>r x y H2 fun z H3=>∃ k,z = .bl k ∧
 (if k=true then tc σ H3 fun w' H4=>r' y w' H4 Q else Q (.bl false) H3)
theorem tT {op op':CmpOp} {r r':R2} (ho:OpR X (compareOp op) r) (ho':OpR X (compareOp op') r') (ha:PE X a ta) (hb:PE X b tb) (hc:PE X c tc)
  (hm:lastMarks [op,op'] [b,c]=false:=by with_unfolding_all rfl):PE X (.Compare a [op,op'] [b,c] pos) (x8 r r' ta tb tc):=by
 intro pins s σ H Q I h
 refine Compare_chain (thn (ha pins s σ H _ I h) fun v s1 ⟨x,H1,I1,r1,q1⟩=>chain_link (thn (hb pins s1 σ H1 _ I1 q1) fun u s2 ⟨y,H2,I2,r2,q2⟩ =>
  thn (ho pins s2 σ H2 x y v u _ I2 r1 r2 q2) fun d s3 ⟨z,H3,I3,r3,k,e,q3⟩ => ?_)) hm
 subst e
 cases r3
 refine wpAny_truthy_bool ?_
 cases k with
 | false=>exact ite_ff ⟨.bl false,H3,I3,rfl,q3⟩
 | true=>exact ite_tt (chain_last (thn (hc pins s3 σ H3 _ I3 q3) fun w' s4 ⟨z',H4,I4,r4,q4⟩=>ho' pins s4 σ H4 y z' u w' Q I4 r2 r4 q4))
def zk (K:PySem.W.Frag) (x:V) (H:Hp) (k:Bool):Prop :=
 match x with
 | .non=>k=false
 | .bl b=>k=b
 | .int i=>k=(i != 0)
 | .str y=>y.length<=sizeLine/\k=((y.length:Int) != 0)
 | .byt y=>y.size<=sizeLine/\k=((y.size:Int) != 0)
 | .ref p=>(∃ xs,SqL K H p xs/\k = !xs.isEmpty)\/(∃ xs,SqT K H p xs/\k = !xs.isEmpty)\/∃ kvs,H p=some (.dK kvs)/\k = !kvs.isEmpty
 | _=>False
theorem pC {κ : Type} {kvs:List (κ × V)} {vs:List (κ × Value)} (r:KV kvs vs):(!vs.isEmpty) = !kvs.isEmpty:=by
 cases r <;> rfl
theorem jz {xs:List V} {its:List Value} (r:Vals xs its):(!its.toArray.isEmpty) = !xs.isEmpty:=by
 cases r <;> simp
theorem iC:(sizeLine:Nat) < 2 ^ 63:=by rw [sizeLine_eq]; decide
theorem x9:TruR X (fun x H Q=>∃ k,zk X.K x H k/\Q k H):=by
 intro pins s σ H x v Q I rx h
 obtain ⟨k,e,q⟩:=h
 have hl:=iC
 have hs:sizeLine=16777216:=sizeLine_eq
 cases x with
 | non =>
  cases rx
  have e':k=false:=e
  subst e'
  exact truthy_none ⟨H,I,q⟩
 | bl b =>
  cases rx
  have e':k=b:=e
  subst e'
  exact wpAny_truthy_bool ⟨H,I,q⟩
 | int i =>
  obtain ⟨t,rfl⟩:=rx
  have e':k=(i != 0):=e
  subst e'
  exact PySem.P.truthy_int ⟨H,I,q⟩
 | str y =>
  obtain ⟨t,rfl⟩:=rx
  obtain ⟨hy,e'⟩:y.length<=sizeLine/\k=((y.length:Int) != 0):=e
  subst e'
  exact PySem.P.truthy_str (by omega) ⟨H,I.tok _,q⟩
 | byt y =>
  obtain ⟨t,rfl⟩:=rx
  obtain ⟨hy,e'⟩:y.size<=sizeLine/\k=((y.size:Int) != 0):=e
  subst e'
  exact PySem.W.truthy_bytes (by omega) ⟨H,I.tok _,q⟩
 | ref p =>
  cases rx
  have e':(∃ xs,SqL X.K H p xs/\k = !xs.isEmpty)\/(∃ xs,SqT X.K H p xs/\k = !xs.isEmpty)\/∃ kvs,H p=some (.dK kvs)/\k = !kvs.isEmpty:=e
  rcases e' with ⟨xs,hx,e'⟩ | ⟨xs,hx,e'⟩ | ⟨kvs,hx,e'⟩
  ·subst e'
   obtain ⟨its,r,pl,hz⟩:=I.list hx
   have hlen:=r.length
   exact wpAny_truthy_list pl.isList (by simp only [List.size_toArray]; omega) ⟨H,I.tok _,by rw [jz r]; exact q⟩
  ·subst e'
   obtain ⟨its,r,pl,hz⟩:=I.tuple hx
   have hlen:=r.length
   exact truthy_tuple pl (by simp only [List.size_toArray]; omega) ⟨H,I.tok _,by rw [jz r]; exact q⟩
  ·subst e'
   obtain ⟨hz,hS,vs,r,m⟩:kvs.length<=sizeLine/\(p == sysModules)=false/\∃ vs,KV kvs vs/\s.heap.DictOf (bg X.prog X.w) p vs:=I.hok p _ hx
   have hlen:kvs.length=vs.length:=Paired.length r
   exact wpAny_truthy_dict hS m (by omega) ⟨H,I.tok _,by rw [pC r]; exact q⟩
 | _=>exact (show False from e).elim
theorem tU (ha:PE X a ta) (he:∀ whole,isTrue a X.env whole=(do let v ← whole; standAt a.pos; holding [v] (truthy v))) :
    PT X a (fun σ H Q=>ta σ H fun x H'=>∃ k,zk X.K x H' k/\Q k H'):=by
  intro pins s σ H Q I h
  exact isTrue_plain (thn (ha pins s σ H _ I h) fun v s1 ⟨x,H1,I1,r1,q1⟩=>x9 pins s1 σ H1 x v Q I1 r1 q1) (he _)
theorem vals1 {x:V} {us:List Value} (r:Vals [x] us):∃ u,us=[u]/\RelV x u:=by
 cases r with
 | cons r1 r2=>cases r2; exact ⟨_,rfl,r1⟩
theorem vals2 {x y:V} {us:List Value} (r:Vals [x,y] us):∃ u w',us=[u,w']/\RelV x u/\RelV y w':=by
 cases r with
 | cons r1 r2 =>
  cases r2 with
  | cons r3 r4=>cases r4; exact ⟨_,_,rfl,r1,r3⟩
theorem kN (hc:X.calm=true):bu X (.builtin "max") (fun xs H Q=>∃ i j,xs=[.int i,.int j]/\Q (.int (if j > i then j else i)) H):=by
 intro pins s σ H xs us Q I r h
 obtain ⟨i,j,rfl,q⟩:=h
 obtain ⟨u,w',rfl,⟨t,rfl⟩,⟨t',rfl⟩⟩:=vals2 r
 refine max_two_ints (I.ok.hd hc) fun h' tk k=>⟨_,H,I.kept k,?_,q⟩
 by_cases hj:j > i
 ·rw [if_pos hj,if_pos hj]; exact ⟨_,rfl⟩
 ·rw [if_neg hj,if_neg hj]; exact ⟨_,rfl⟩
theorem iD (hc:X.calm=true):bu X (.builtin "min") (fun xs H Q=>∃ i j,xs=[.int i,.int j]/\Q (.int (if j < i then j else i)) H):=by
 intro pins s σ H xs us Q I r h
 obtain ⟨i,j,rfl,q⟩:=h
 obtain ⟨u,w',rfl,⟨t,rfl⟩,⟨t',rfl⟩⟩:=vals2 r
 refine min_two_ints (I.ok.hd hc) fun h' tk k=>⟨_,H,I.kept k,?_,q⟩
 by_cases hj:j < i
 ·rw [if_pos hj,if_pos hj]; exact ⟨_,rfl⟩
 ·rw [if_neg hj,if_neg hj]; exact ⟨_,rfl⟩
end
open PySem PySem.Spec PyProof.Rows
structure yb (h:Heap) (x dx C:Addr) (mA:Str->Option Value):Prop where
 obj:h.get? x=some (PySem.W.instObj C dx)
 ns:h.Ns1 dx mA
 ne:dx ≠ x
theorem rB {h:Heap} {dx:Addr} {mA:Str->Option Value} (n:h.Ns1 dx mA):∃ od,h.get? dx=some od/\∀ name,PySem.W.lookIn name od=some (mA name):=by
 obtain ⟨o,es,ep,ho,hd,hk,_,hm⟩:=n
 refine ⟨o,ho,fun name => ?_⟩
 have e:=hm name
 unfold nsFind findBy at e
 rw [<- Array.find?_toList] at e
 unfold PySem.W.lookIn
 rw [hd]
 dsimp only
 split
 ·rename_i y q
  rw [q] at e
  exact congrArg some e
 ·rename_i q
  rw [q] at e
  have a:es.toList.any (·.refKey)=false:=by
   rw [List.any_eq_false]
   intro y hy
   obtain ⟨z,t,hkey⟩:=hk y (Array.mem_toList_iff.mp hy)
   simp [DictEntry.refKey,hkey]
  have a':¬ es.toList.any (·.refKey)=true:=by rw [a]; exact Bool.false_ne_true
  rw [if_neg a']
  exact congrArg some e
theorem yb.look {h:Heap} {x dx C:Addr} {mA:Str->Option Value} (I:yb h x dx C mA):∃ od,PySem.W.InstAt h x (PySem.W.instObj C dx) C (some od)/\∀ name,PySem.W.lookIn name od=some (mA name) :=
 let ⟨od,ho,hl⟩:=rB I.ns
 ⟨od,⟨I.obj,rfl,rfl,ho⟩,hl⟩
section
variable {prog:Program} {w:World} {A:Around} {E:Value->Shared->Prop} {s:Shared} {K:PySem.W.Frag} {x dx C f:Addr} {mA:Str->Option Value} {name:Str} {v:Value}
end
theorem jl.some_of {v:V} {o:Option Value} (r:jl (some v) o):∃ u,o=some u/\RelV v u:=by
 cases o with
 | none=>exact (show False from r).elim
 | some u=>exact ⟨u,rfl,r⟩
section
variable {P:Program} {w:World} {H H':Hp} {h h':Heap} {a C dx:Addr} {fs fs':List (Str × V)}
theorem vW (hok:HOk P w H h) (e:H a=some (.ins C dx fs)):∃ mA,yb h a dx C mA/\(∀ f,jl (fs.lookup f) (mA f))/\PySem.Within mA (fs.map (·.1))/\fs.length<=1000/\H dx=some (.own a):=by
 obtain ⟨d,z,ne,ob,mA,n,r,q⟩:=(show aY P w H h a (.ins C dx fs) from hok a _ e)
 exact ⟨mA,⟨ob,n,ne⟩,r,q,z,d⟩
end
structure Cls (K:PySem.W.Frag) (C:Addr):Prop where
 pg:PySem.W.plainGet K C Str.empty=true
 hd:PySem.W.hasDictIn K C=true
 po:PySem.W.plainOver K C=true
 sa:PySem.W.findIn K (.ref C) "__setattr__" = some (some (.builtin "object.__setattr__"))
theorem Cls.get {K:PySem.W.Frag} {C:Addr} (c:Cls K C) (f:Str):PySem.W.plainGet K C f=true:=c.pg
structure Con (K:PySem.W.Frag) (C:Addr) (f:Str) (v:V) (u:Value):Prop where
 at_:PySem.W.findIn K (.ref C) f=some (some u)
 rel:RelV v u
 get:PySem.W.specialIn K u "__get__" = some none
 cp:PySem.W.copiedNames.contains f=false
section
variable {X:Cx} {pins:List (Addr × Obj)} {σ:St} {H:Hp} {s:Shared} {a C dx:Addr} {fs:List (Str × V)} {f:Str} {v:V} {A:Around} {E:Value->Shared->Prop}
end
section
variable {X:Cx} {o e value:Expr} {f:Str} {pos pos' tpos:Pos} {ta tv:TE}
end
section
variable {X:Cx} {pins:List (Addr × Obj)} {σ:St} {H:Hp} {s:Shared} {A:Around} {E:Value->Shared->Prop} {Q:Value->Shared->Prop} {c:Value} {b:Bool}
inductive iE (K:PySem.W.Frag) (H:Hp):V->Value->Prop where
 | non:iE K H .non (.type "NoneType")
 | bl (x:Bool):iE K H (.bl x) (.type "bool")
 | int (i:Int):iE K H (.int i) (.type "int")
 | str (x:Str):iE K H (.str x) (.type "str")
 | flt (x:UInt64):iE K H (.flt x) (.type "float")
 | lst {a:Addr} {xs:List V} (e:H a=some (.lst xs)):iE K H (.ref a) (.type "list")
 | frz {a:Addr} {o:Obj} {xs:List V} (e:H a=some (.frz o (.lst xs))):iE K H (.ref a) (.type "list")
 | tup {a:Addr} {xs:List V} (e:H a=some (.tup xs)):iE K H (.ref a) (.type "tuple")
 | dK {a:Addr} {kvs:List (Key × V)} (e:H a=some (.dK kvs)):iE K H (.ref a) (.type "dict")
 | dT {a:Addr} {kvs:List (List Key × V)} (e:H a=some (.dT kvs)):iE K H (.ref a) (.type "dict")
 | ins {a C dx:Addr} {fs:List (Str × V)} (e:H a=some (.ins C dx fs)) (cl:Cls K C) (ha:PySem.W.findIn K (.ref C) "__class__" = some (some (.builtin "object.__class__")))
   (hn:PySem.W.specialIn K (.builtin "object.__class__") "__get__" = some (some (.builtin "getset_descriptor.__get__"))) (htk:PySem.W.takesIn K (.builtin "object.__class__")=some true)
   (hm:PySem.W.mroIn K C (.type "object")=some true):iE K H (.ref a) (.ref C)
theorem rD {x:V} {u t:Value} (I:Inv X pins σ H s) (rx:RelV x u) (ty:iE X.K H x t) (e:PySem.W.kitOne X.K t c=some b) (h:∀ tk,Q (.bool b) { s with toks:=tk }) :
  wpAny (model X.prog X.w) A (call (.builtin "isinstance") [u,c]) Q E s:=by
 cases ty with
 | non=>cases (show u=Value.none from rx); exact PySem.W.kia_one PySem.W.kitx_none I.kIn True.intro e (fun z=>nomatch z) h
 | bl y=>cases (show u=Value.bool y from rx); exact PySem.W.kia_one PySem.W.kitx_bool I.kIn True.intro e (fun z=>nomatch z) h
 | int i=>obtain ⟨t,q⟩:=(show ∃ t,u=Value.int i t from rx); cases q; exact PySem.W.kia_one PySem.W.kitx_int I.kIn True.intro e (fun z=>nomatch z) h
 | str y=>obtain ⟨t,q⟩:=(show ∃ t,u=Value.str y t from rx); cases q; exact PySem.W.kia_one PySem.W.kitx_str I.kIn True.intro e (fun z=>nomatch z) h
 | flt y=>obtain ⟨t,q⟩:=(show ∃ t,u=Value.float y t from rx); cases q; exact PySem.W.kia_one PySem.W.kitx_float I.kIn True.intro e (fun z=>nomatch z) h
 | @lst a xs ea =>
  cases (show u=Value.ref a from rx)
  obtain ⟨_,_,n,_,h1⟩:=(show aY X.prog X.w H s.heap a (.lst xs) from I.hok a _ ea)
  exact PySem.W.kia_one PySem.W.kitx_list I.kIn ⟨_,h1,rfl⟩ e (fun z=>nomatch z) h
 | @frz a ob xs ea =>
  cases (show u=Value.ref a from rx)
  obtain ⟨_,_,_,n,_,h1⟩:=(show aY X.prog X.w H s.heap a (.frz ob (.lst xs)) from I.hok a _ ea)
  exact PySem.W.kia_one PySem.W.kitx_list I.kIn ⟨_,h1,rfl⟩ e (fun z=>nomatch z) h
 | @tup a xs ea =>
  cases (show u=Value.ref a from rx)
  obtain ⟨_,_,_,p⟩:=(show aY X.prog X.w H s.heap a (.tup xs) from I.hok a _ ea)
  obtain ⟨o,h1,h2,_⟩:=p
  exact PySem.W.kia_one PySem.W.kitx_tuple I.kIn ⟨o,h1,h2.1⟩ e (fun z=>nomatch z) h
 | @dK a kvs ea =>
  cases (show u=Value.ref a from rx)
  obtain ⟨_,_,vs,_,p⟩:=(show aY X.prog X.w H s.heap a (.dK kvs) from I.hok a _ ea)
  obtain ⟨o,es,ep,h1,h2,_⟩:=p
  exact PySem.W.kia_one PySem.W.kitx_dict I.kIn ⟨o,h1,h2.1⟩ e (fun z=>nomatch z) h
 | @dT a kvs ea =>
  cases (show u=Value.ref a from rx)
  obtain ⟨_,_,xs,_,o,es,ep,h1,h2,_⟩:=(show aY X.prog X.w H s.heap a (.dT kvs) from I.hok a _ ea)
  exact PySem.W.kia_one PySem.W.kitx_dict I.kIn ⟨o,h1,h2.1⟩ e (fun z=>nomatch z) h
 | @ins a C dx fs ea cl ha hn htk hm =>
  cases (show u=Value.ref a from rx)
  obtain ⟨mA,O,_⟩:=vW I.hok ea
  obtain ⟨od,J,_⟩:=O.look
  exact PySem.W.kia_one (PySem.W.kitx_own (cl.get _) cl.hd ha hn htk hm) I.kIn J e (fun z=>nomatch z) h
end
open PySem PySem.Spec PyProof.Rows
structure cA (k:Nat) (A:Around):Prop where
 hd:A.handled=none
 dp:A.depth + 3 * k + 5 < recursionLimit
 un:A.units + 16 * k + 200 < cLine
theorem cA.mono {j k:Nat} {A:Around} (r:cA k A) (h:j<=k):cA j A:=⟨r.hd,by have:=r.dp; omega,by have:=r.un; omega⟩
theorem cA.deeper {k:Nat} {A:Around} (r:cA (k + 1) A) (env:Env):cA k (A.deeper env) :=
 ⟨r.hd,by have:=r.dp; show A.depth + 1 + 3 * k + 5 < _; omega,by have:=r.un; show A.units + 3 + 16 * k + 200 < _; omega⟩
theorem cA.depth {k:Nat} {A:Around} (r:cA k A):A.depth < recursionLimit:=by have:=r.dp; omega
theorem cA.units {k:Nat} {A:Around} (r:cA k A):A.units + 64 < cLine:=by have:=r.un; omega
def tNil:TA:=fun _ H Q=>Q [] H
def zo (ta:TE) (tr:TA):TA:=fun σ H Q=>ta σ H fun x H1=>tr σ H1 fun xs H2=>Q (x :: xs) H2
section
variable {X:Cx} {e:Expr} {es:List Expr} {te:TE} {t:TA} {pos:Pos}
theorem ag:PA X [] tNil:=fun _ _ _ _ H Q I h=>Calls.spliced_nil ⟨[],H,I,.nil,h⟩
theorem aa (ha:PE X e te) (hr:PA X es t) (hs:starEach (e :: es) X.env=(false,eval e X.env) :: starEach es X.env:=by rfl):PA X (e :: es) (zo te t):=by
 intro pos pins s σ H Q I h
 rw [hs]
 show wpAny _ _ (spliced ((false,eval e X.env) :: backTo pos (starEach es X.env))) _ _ s
 refine Calls.spliced_cons (thn (ha pins s σ H _ I h) fun u s1 ⟨x,H1,I1,r1,q1⟩ => ?_)
 exact thn (hr pos pins s1 σ H1 _ I1 q1) fun us s2 ⟨xs,H2,I2,r2,q2⟩=>⟨x :: xs,H2,I2,.cons r1 r2,q2⟩
def tTup (t:TA):TE:=fun σ H Q=>t σ H fun xs H1=>xs.length<=sizeLine/\∀ p,H1 p=none->Q (.ref p) (upd H1 p (.tup xs))
def tLst (t:TA):TE:=fun σ H Q=>t σ H fun xs H1=>xs.length<=sizeLine/\∀ p,H1 p=none->Q (.ref p) (upd H1 p (.lst xs))
theorem dy {x1} (h:PA X es t):PE X (.Tuple es x1 pos) (tTup t):=by
 intro pins s σ H Q I hq
 refine wpAny_Tuple_spliced (thn (h pos pins s σ H _ I hq) fun us s1 ⟨xs,H1,I1,r,z,q⟩=>⟨by rw [<- r.length]; exact z,?_⟩)
 have hf:H1 s1.heap.objs.size=none:=I1.hok.fresh (Nat.le_refl _)
 refine ⟨.ref s1.heap.objs.size,upd H1 s1.heap.objs.size (.tup xs),I1.laid (t':=s1.toks) (fun b u e=>Heap.get?_push_of_some _ e) (Nat.le_refl _) ?_,rfl,q _ hf⟩
 exact ⟨z,us,r,⟨_,Heap.get?_push_size _ rfl,⟨rfl,rfl⟩,_,rfl⟩⟩
theorem bW (h:PA X es t):PE X (.List es pos) (tLst t):=by
 intro pins s σ H Q I hq
 refine wpAny_List_spliced (thn (h pos pins s σ H _ I hq) fun us s1 ⟨xs,H1,I1,r,z,q⟩=>⟨by rw [<- r.length]; exact z,?_⟩)
 have hf:H1 s1.heap.objs.size=none:=I1.hok.fresh (Nat.le_refl _)
 refine ⟨.ref s1.heap.objs.size,upd H1 s1.heap.objs.size (.lst xs),I1.laid (t':=s1.toks) (fun b u e=>Heap.get?_push_of_some _ e) (Nat.le_refl _) ?_,rfl,q _ hf⟩
 exact ⟨z,us,0,r,Heap.get?_push_size _ rfl⟩
end
abbrev Sp:=List V->Hp->VK->XK->Prop
abbrev CXT:=List Env->Hp->Shared->XK->Value->Shared->Prop
structure vX (P:Program) (w:World) (K:PySem.W.Frag) (mg:Str->Option Value) (base:Heap) (A:Around) (outer:List Env) (s:Shared) (H:Hp):Prop where
 frames:A.frames=some outer
 mod:Mod K mg base
 bs:∀ b o,base.get? b=some o->s.heap.get? b=some o/\H b=none
 bsz:base.objs.size<=s.heap.objs.size
 funs:s.heap.FunFrames base outer
 frf:∀ b ∈ frs outer,H b=none
 hok:HOk P w H s.heap
 bare:AllBare s.gens
def CE (outer:List Env) (P:Program) (w:World) (H:Hp) (s:Shared) (Q:VK) (u:Value) (s':Shared):Prop :=
 ∃ v H',s'.os=s.os/\AllBare s'.gens/\Un (frs outer) [] H H' s.heap s'.heap/\HOk P w H' s'.heap/\RelV v u/\Q v H'
def CR (CX:CXT) (outer:List Env) (P:Program) (w:World) (H:Hp) (s:Shared) (Q:VK) (E:XK) (r:Result) (s':Shared):Prop :=
 match r with
 | .ok (.ret u)=>CE outer P w H s Q u s'
 | .ok _=>False
 | .error e=>CX outer H s E e s'
structure bE (P:Program) (w:World) (K:PySem.W.Frag) (mg:Str->Option Value) (base:Heap) (CX:CXT) (k:Nat) (f:Addr) (fd:FuncData) (ps:List Str) (sp:Sp):Prop where
 len:∀ vs H Q E,sp vs H Q E->vs.length=ps.length
 run:∀ (A:Around) (outer:List Env) (s:Shared) (H:Hp) (args:Args) (us:List Value) (vs:List V) (Q:VK) (E:XK),cA k A->vX P w K mg base A outer s H->BindsTo s fd args (ps.zip us)->Vals vs us->sp vs H Q E →
  codeAny (model P w) A (.call (.ref f) args) (CR CX outer P w H s Q E) s
section
variable {X:Cx} {pins:List (Addr × Obj)} {σ:St} {H:Hp} {s s':Shared}
theorem Inv.env0 (I:Inv X pins σ H s):vX X.prog X.w X.K X.mg X.base X.A X.stack s H :=
 ⟨I.ok.frames,I.ok.mod,I.bs,Nat.le_trans I.ok.bsz I.sz,I.stack,I.qo,I.hok,I.bare⟩
theorem Inv.after {Q:VK} {u:Value} (I:Inv X pins σ H s) (h:CE X.stack X.prog X.w H s Q u s'):EP X pins σ Q u s':=by
 obtain ⟨v,H',os,bare,un,hok,r,q⟩:=h
 obtain ⟨hh,g,d,t,os'⟩:=s'
 obtain rfl:os'=s.os:=os
 exact ⟨v,H',I.call (h':=hh) (g':=g) (d':=d) (t':=t) (ch:=[]) un hok bare (fun b z=>absurd z (by simp)),r,q⟩
end
def xD (sp:Sp) (dvs:List V) (E:XK) (t:TA):TE:=fun σ H Q=>t σ H fun vs H1=>sp (vs ++ dvs) H1 Q E
def Binds (K:PySem.W.Frag) (fd:FuncData) (ps:List Str) (ds:List Value):Prop :=
 ∀ (s:Shared) (us:List Value),K.In s.heap->(us ++ ds).length=ps.length->BindsTo s fd ⟨us,[]⟩ (ps.zip (us ++ ds))
theorem Binds.all {K:PySem.W.Frag} {fd:FuncData} {ps:List Str} (h:∀ us:List Value,us.length=ps.length->bindArgs fd ⟨us,[]⟩=pure (ps.zip us)):Binds K fd ps []:=fun s us _ hl=>by
 rw [List.append_nil] at hl ⊢
 exact .of_eq (h us hl)
def Passes (CX:CXT) (X:Cx) (E:XK):Prop:=∀ (pins:List (Addr × Obj)) (σ:St) (H:Hp) (s:Shared) (e:Value) (s':Shared),Inv X pins σ H s->CX X.stack H s E e s'->X.xe e s'
section
variable {X:Cx} {CX:CXT} {k:Nat} {f C:Addr} {fd:FuncData} {ps:List Str} {sp:Sp} {dvs:List V} {ds:List Value} {E:XK} {x m:Str} {p pos apos:Pos} {e o:Expr} {es:List Expr} {ta:TE} {t:TA}
theorem yc {pins:List (Addr × Obj)} {σ:St} {H:Hp} {s:Shared} {Q:VK} {us:List Value} {vs:List V} (F:bE X.prog X.w X.K X.mg X.base CX k f fd ps sp) (hr:cA k X.A) (hb:Binds X.K fd ps ds) (hd:Vals dvs ds) (hx:Passes CX X E)
  (I:Inv X pins σ H s) (r:Vals vs us) (h:sp (vs ++ dvs) H Q E):wpAny (model X.prog X.w) X.A (call (.ref f) us) (EP X pins σ Q) X.xe s:=by
 have r2:Vals (vs ++ dvs) (us ++ ds):=r.append hd
 have hl:(us ++ ds).length=ps.length:=by rw [<- r2.length]; exact F.len _ _ _ _ h
 refine wpAny_call (codeAny_mono (F.run X.A X.stack s H ⟨us,[]⟩ (us ++ ds) (vs ++ dvs) Q E hr I.env0 (hb s us I.kIn hl) r2 h) fun r s' hq => ?_)
 cases r with
 | error e=>exact hx pins σ H s e s' I hq
 | ok fl =>
  cases fl with
  | ret u=>exact I.after hq
  | next=>exact False.elim hq
  | brk=>exact False.elim hq
  | cont=>exact False.elim hq
theorem vY (F:bE X.prog X.w X.K X.mg X.base CX k f fd ps sp) (hr:cA k X.A) (hg:Gl X x) (hm:X.mg x=some (.ref f)) (hk:PySem.W.keepIn X.K (.ref f)=true) (hb:Binds X.K fd ps ds) (hd:Vals dvs ds) (hx:Passes CX X E)
  (ha:PA X (e :: es) t) (hdb:(x == ("__debug__" : Str))=false:=by decide) (he:starEach (e :: es) X.env=(false,eval e X.env) :: starEach es X.env:=by rfl) (hpl:(backTo pos (starEach es X.env)).any (·.1)=false:=by rfl) :
  PE X (.Call (.Name x p) (e :: es) [] pos) (xD sp dvs E t):=by
 intro pins s σ H Q I h
 refine wpAny_Call_Name_kw (vT I hg hm ?_ hdb)
 refine PySem.W.callWith_K (h₀:=X.base) I.ok.mod.kin hk (thn (ha pos pins s σ H _ I h) fun us s1 ⟨vs,H1,I1,r,q⟩=>⟨I1.kIn,?_⟩) he hpl
 exact yc F hr hb hd hx I1 r q
end
section
variable {X:Cx} {CX:CXT} {k:Nat} {f C:Addr} {fd:FuncData} {ps ks:List Str} {sp:Sp} {E:XK} {x m:Str} {p pos apos kpos:Pos} {e o:Expr} {es:List Expr} {kws:List Keyword} {te ta:TE} {t tk:TA} {nm:Option Str}
variable {g:List Value->List Value->List Value} {gV:List V->List V->List V}
end
structure aK (N P:List Str) (sc:Scope):Prop where
 kind:sc.kind = .function
 co:sc.isCoroutine=false
 gen:sc.isGenerator=false
 nd:N.Nodup
 pre:N.take P.length=P
 par:∀ x ∈ P,sc.names.lookup x=some .local\/sc.names.lookup x=some .cell
 nofree:∀ y ∈ sc.names,y.2 ≠ .free
theorem kO {kindOf:Str->Option NameKind} {x:Str}:∀ {binds:List (Str × Value)} {m:Str->Option Value},(∀ v,(x,v) ∉ binds)->bindL kindOf binds m x=m x
 | [],_,_=>rfl
 | (n,v) :: r,m,h=>by
  unfold bindL
  rw [kO fun w hw=>h w (List.mem_cons_of_mem _ hw)]
  split
  ·have:x ≠ n:=by rintro rfl; exact h v List.mem_cons_self
   simp [this]
  ·rfl
theorem kP {kindOf:Str->Option NameKind} {x:Str}:∀ {binds:List (Str × Value)} {m:Str->Option Value},(∀ v,(x,v) ∉ binds)->bindC kindOf binds m x=m x
 | [],_,_=>rfl
 | (n,v) :: r,m,h=>by
  unfold bindC
  rw [kP fun w hw=>h w (List.mem_cons_of_mem _ hw)]
  split
  ·rfl
  ·have:x ≠ n:=by rintro rfl; exact h v List.mem_cons_self
   simp [this]
theorem kQ {kindOf:Str->Option NameKind} {x:Str} {v:Value}:∀ {P:List Str} {vs:List Value} {i:Nat} {m:Str->Option Value},P.Nodup->P[i]? = some x->vs[i]? = some v->kindOf x=some .local →
  bindL kindOf (P.zip vs) m x=some v
 | [],_,_,_,_,h,_,_=>by simp at h
 | _ :: _,[],_,_,_,_,h,_=>by simp at h
 | p :: P,w :: vs,0,m,nd,h1,h2,hk=>by
  simp at h1 h2; subst h1; subst h2
  show bindL kindOf ((p,w) :: P.zip vs) m p=_
  unfold bindL
  rw [kO fun v hv=>(List.nodup_cons.mp nd).1 (List.of_mem_zip hv).1,if_pos hk]
  simp
 | p :: P,w :: vs,i + 1,m,nd,h1,h2,hk=>by
  show bindL kindOf ((p,w) :: P.zip vs) m x=_
  unfold bindL
  exact kQ (i:=i) (List.nodup_cons.mp nd).2 (by simpa using h1) (by simpa using h2) hk
theorem kR {kindOf:Str->Option NameKind} {x:Str} {v:Value}:∀ {P:List Str} {vs:List Value} {i:Nat} {m:Str->Option Value},P.Nodup->P[i]? = some x->vs[i]? = some v->kindOf x ≠ some .local →
  bindC kindOf (P.zip vs) m x=some v
 | [],_,_,_,_,h,_,_=>by simp at h
 | _ :: _,[],_,_,_,_,h,_=>by simp at h
 | p :: P,w :: vs,0,m,nd,h1,h2,hk=>by
  simp at h1 h2; subst h1; subst h2
  show bindC kindOf ((p,w) :: P.zip vs) m p=_
  unfold bindC
  rw [kP fun v hv=>(List.nodup_cons.mp nd).1 (List.of_mem_zip hv).1,if_neg hk]
  simp
 | p :: P,w :: vs,i + 1,m,nd,h1,h2,hk=>by
  show bindC kindOf ((p,w) :: P.zip vs) m x=_
  unfold bindC
  exact kR (i:=i) (List.nodup_cons.mp nd).2 (by simpa using h1) (by simpa using h2) hk
def start (N:List Str) (vs:List V):St:=vs.map some ++ List.replicate (N.length - vs.length) none
def kr (CX:CXT) (P:Program) (w:World) (K:PySem.W.Frag) (mg:Str->Option Value) (base:Heap) (N:List Str) (qual:Str) (scope:Scope) (f:Addr) (cd:Value) (A:Around) (outer:List Env) (s:Shared) (H:Hp) (E:XK):Cx where
 prog:=P
 w:=w
 K:=K
 mg:=mg
 base:=base
 A:=A.deeper (envOfC qual scope s.heap.objs.size f cd)
 N:=N
 s₀:=s
 H₀:=H
 env:=envOfC qual scope s.heap.objs.size f cd
 outer:=outer
 stack:=envOfC qual scope s.heap.objs.size f cd :: outer
 ex:=[]
 calm:=true
 fn:=fun _=>true
 pn:=[]
 xe:=fun e s'=>wpAny (model P w) (A.deeper (envOfC qual scope s.heap.objs.size f cd)) (leaving (envOfC qual scope s.heap.objs.size f cd) e) (fun _ s''=>CX outer H s E e s'') (fun e' s''=>CX outer H s E e' s'') s'
theorem nH {sc:Scope} {n:Nat} {x:Str} (h:sc.names.lookup x=some .cell):∃ c,(cellsFrom n sc.names []).lookup x=some c:=by
 have q:=PySem.W.cellsFrom_some sc.names n [] (.inl h)
 exact Option.isSome_iff_exists.mp q
theorem rE {CX:CXT} {P:Program} {w:World} {K:PySem.W.Frag} {mg:Str->Option Value} {base:Heap} {N ps:List Str} {qual:Str} {scope:Scope} {f:Addr} {cd:Value} {A:Around} {outer:List Env} {s s1:Shared} {H:Hp} {E:XK} {us:List Value} {vs:List V}
  (S:aK N ps scope) (hd:A.handled=none) (e0:vX P w K mg base A outer s H) (hl:vs.length=ps.length) (r:Vals vs us)
  (x:InCallC s s.heap.objs.size (bindL (envOfC qual scope s.heap.objs.size f cd).kindOf (ps.zip us) fun _=>none) (cellsFrom (s.heap.objs.size + 1) scope.names []) (bindC (envOfC qual scope s.heap.objs.size f cd).kindOf (ps.zip us) fun _=>none) s1) :
  Inv (kr CX P w K mg base N qual scope f cd A outer s H E) [] (start N vs) H s1:=by
 have hpl:ps.length<=N.length:=by have:=congrArg List.length S.pre; rw [List.length_take] at this; omega
 obtain ⟨h1,tk,rfl,hk⟩:=x.done
 have noA:∀ b:Addr,b ∉ (kr CX P w K mg base N qual scope f cd A outer s H E).ex:=fun b z=>absurd (show b ∈ ([]:List Addr) from z) (by simp)
 refine ⟨⟨e0.mod,S.kind,rfl,rfl,Nat.le_refl _,fun y z c h1 h2 => ?_,fun y hy => ?_,fun y c _ h => ?_,fun _=>hd,Around.frames_deeper e0.frames,.inr ⟨rfl,rfl⟩,fun b z=>absurd z (noA b),e0.bs,e0.bsz,fun b _ _=>noA b,fun b z=>absurd z (noA b),e0.funs,e0.frf⟩,
  rfl,e0.bare,Un.kept hk,⟨_,x.toInCall.ns,fun i y v h1 h2 h3 => ?_⟩,fun y c h=>⟨_,x.cell y c h⟩,e0.hok.fresh (Nat.le_refl _),fun y c h => ?_,fun p hp=>absurd (show p ∈ ([]:List (Addr × Obj)) from hp) (by simp),e0.hok.kept hk,?_⟩
 ·exact name_of_addr x.apart (PySem.mem_of_lookup h1) (PySem.mem_of_lookup h2)
 ·have hy:scope.names.lookup y=some .cell\/scope.names.lookup y=some .free:=hy
  rcases hy with hy | hy
  ·exact nH hy
  ·exact absurd rfl (S.nofree _ (PySem.mem_of_lookup hy))
 ·exact Nat.le_of_lt (x.above y c (PySem.mem_of_lookup h))
 ·have hi:i < vs.length:=by
   unfold start at h2
   by_cases hi:i < vs.length
   ·exact hi
   ·rw [List.getElem?_append_right (by simpa using hi)] at h2
    rw [List.getElem?_replicate] at h2
    split at h2 <;> cases h2
  have ha:vs[i]? = some v:=by
   unfold start at h2
   rw [List.getElem?_append_left (by simpa using hi),List.getElem?_map] at h2
   cases e:vs[i]? with
   | none=>rw [e] at h2; cases h2
   | some a=>rw [e] at h2; cases h2; rfl
  obtain ⟨u,hu,rv⟩:=r.get ha
  have hp:ps[i]? = some y:=by
   rw [<- S.pre,List.getElem?_take_of_lt (by omega)]; exact h1
  have ndP:ps.Nodup:=by rw [<- S.pre]; exact S.nd.sublist (List.take_sublist _ _)
  refine ⟨u,rv,?_⟩
  rcases S.par y (List.mem_of_getElem? hp) with k | k
  ·exact .inl ⟨k,kQ ndP hp hu k⟩
  ·obtain ⟨c,e⟩:=nH (n:=s.heap.objs.size + 1) k
   refine .inr ⟨.inl k,c,e,?_⟩
   have q:=x.cell y c e
   rw [kR ndP hp hu (by show scope.names.lookup y ≠ _; rw [k]; decide)] at q
   exact q
 ·exact e0.hok.fresh (Nat.le_of_lt (x.above y c (PySem.mem_of_lookup h)))
 ·unfold start
  show _=N.length
  rw [List.length_append,List.length_map,List.length_replicate]
  omega
theorem zp {CX:CXT} {P:Program} {w:World} {K:PySem.W.Frag} {mg:Str->Option Value} {base:Heap} {k:Nat} {f:Addr} {name qual:Str} {params:Arguments} {body:List Stmt} {scope:Scope} {dV kV doc pm cdv ct oc:Value} {an od:Option Addr}
  {osl:Array (Option Value)} {N ps:List Str} {sp:Sp} (lk:K.lookup f=some ⟨oc,od,.func (PySem.W.fnOf name qual params body scope dV kV doc pm an cdv ct),osl⟩) (hcd:PySem.W.codeIn K cdv qual=true) (S:aK N ps scope)
  (len:∀ vs H Q E,sp vs H Q E->vs.length=ps.length)
  (hbody:∀ (A:Around) (outer:List Env) (s:Shared) (H:Hp) (vs:List V) (Q:VK) (E:XK),cA k (A.deeper (envOfC qual scope s.heap.objs.size f cdv))->sp vs H Q E →
   ∃ t,PSs (kr CX P w K mg base N qual scope f cdv A outer s H E) body t/\t { nx:=fun _ H'=>Q .non H',rt:=Q } (start N vs) H) :
  bE P w K mg base CX (k + 1) f (PySem.W.fnOf name qual params body scope dV kV doc pm an cdv ct) ps sp:=by
 refine ⟨len,fun A outer s H args us vs Q E hr e0 hb r hsp => ?_⟩
 have hl:=len _ _ _ _ hsp
 have KX:K.In s.heap:=e0.mod.kin.keeps fun b o e=>(e0.bs b o e).1
 have lim:s.heap.NoLimit:=e0.mod.nolimit.keeps fun b o e=>(e0.bs b o e).1
 have hkind:∀ y ∈ ps.zip us,scope.names.lookup y.1=some .local\/(scope.names.lookup y.1=some .cell/\((cellsFrom (s.heap.objs.size + 1) scope.names []).lookup y.1).isSome=true):=fun ⟨n,v⟩ hy=>by
  rcases S.par n (List.of_mem_zip hy).1 with q | q
  ·exact .inl q
  ·exact .inr ⟨q,PySem.W.cellsFrom_some _ _ _ (.inl q)⟩
 refine codeAny_call_function hr.depth (KX _ _ lk) rfl S.co S.gen rfl (PySem.W.codeRec_of KX hcd) (hb _ _ _ _ ?_)
 refine wpAny_newFunctionEnv_cells S.kind hkind fun env he s1 x => ?_
 subst he
 refine ⟨lim.keeps x.toInCall.keep,codeAny_func ?_⟩
 obtain ⟨t,ht,hq⟩:=hbody A outer s H vs Q E (hr.deeper _) hsp
 have I:Inv (kr CX P w K mg base N qual scope f cdv A outer s H E) [] (start N vs) H s1:=rE S hr.hd e0 hl r x
 refine wpAny_mono (ht [] s1 (start N vs) H _ I hq) (fun fl s' hs => ?_) fun e s' hs=>hs
 have fin:∀ {σ':St} {H':Hp} {v:V} {u:Value},Inv (kr CX P w K mg base N qual scope f cdv A outer s H E) [] σ' H' s'->RelV v u->Q v H'->CE outer P w H s Q u s' :=
  fun {σ' H' v u} J rv q=>⟨v,H',J.os,J.bare,J.base,J.hok,rv,q⟩
 cases fl with
 | ret u =>
  obtain ⟨v,σ',H',J,rv,q⟩:=hs
  exact fin J rv q
 | next =>
  obtain ⟨σ',H',J,q⟩:=hs
  exact fin (v:=V.non) (u:=Value.none) J rfl q
 | brk =>
  obtain ⟨_,_,_,q⟩:=hs
  exact False.elim q
 | cont =>
  obtain ⟨_,_,_,q⟩:=hs
  exact False.elim q
open PySem PySem.Spec PyProof.Rows
section
variable {X:Cx} {x:Str} {p pos:Pos} {e:Expr} {es:List Expr} {t:TA} {id T:String} {r:List V->Hp->VK->Prop}
def tCB (r:List V->Hp->VK->Prop) (t:TA):TE:=fun σ H Q=>t σ H fun vs H1=>r vs H1 Q
theorem av (hc:bu X (.builtin id) r) (hg:Gl X x) (hm:X.mg x=none) (hv:bootBuiltins x=some (.builtin id)) (ha:PA X (e :: es) t) (hn:x ≠ "__name__" := by decide) (hdb:(x == ("__debug__" : Str))=false:=by decide)
  (he:starEach (e :: es) X.env=(false,eval e X.env) :: starEach es X.env:=by rfl) (hpl:(backTo pos (starEach es X.env)).any (·.1)=false:=by rfl):PE X (.Call (.Name x p) (e :: es) [] pos) (tCB r t):=by
 intro pins s σ H Q I h
 refine wpAny_Call_Name_kw (fY I hg hm hv ?_ hn hdb)
 exact PyProof.Rows.callWith_builtin1 (thn (ha pos pins s σ H _ I h) fun us s1 ⟨vs,H1,I1,r1,q1⟩=>hc pins s1 σ H1 vs us Q I1 r1 q1) he hpl
theorem aE (hc:bu X (.type T) r) (hg:Gl X x) (hm:X.mg x=none) (hv:bootBuiltins x=some (.type T)) (ha:PA X (e :: es) t) (hn:x ≠ "__name__" := by decide) (hdb:(x == ("__debug__" : Str))=false:=by decide)
  (he:starEach (e :: es) X.env=(false,eval e X.env) :: starEach es X.env:=by rfl) (hpl:(backTo pos (starEach es X.env)).any (·.1)=false:=by rfl):PE X (.Call (.Name x p) (e :: es) [] pos) (tCB r t):=by
 intro pins s σ H Q I h
 refine wpAny_Call_Name_kw (fY I hg hm hv ?_ hn hdb)
 exact PyProof.Rows.callWith_type1 (thn (ha pos pins s σ H _ I h) fun us s1 ⟨vs,H1,I1,r1,q1⟩=>hc pins s1 σ H1 vs us Q I1 r1 q1) he hpl
end
end L2
namespace HT
open PySem PyProof.Rows
def lexLt:List Int->List Int->Bool
 | [],[]=>false
 | [],_ :: _=>true
 | _ :: _,[]=>false
 | x :: xs,y :: ys=>if x=y then lexLt xs ys else decide (x < y)
theorem dZ (x y:Int) (xs ys:List Int):lexLt (x :: xs) (y :: ys)=if x=y then lexLt xs ys else decide (x < y):=rfl
theorem tV (A:Around) (s:Shared) (a:Int) (t:Tok) (c:Int) (u:Tok) (prog:Program) (w:World) (E:Value->Shared->Prop) (Q:Value->Shared->Prop) (h:Q (.bool (decide (a < c))) s) :
  wpAny (model prog w) A (richCompare .Lt (.int a t) (.int c u)) Q E s :=
 (PyProof.Rows.lt_int h:wpAny (model prog w) A (compareOp .Lt (.int a t) (.int c u)) Q E s)
section
open PySem.SeqAt
open PySem.AutoSeq1 (wpAny_loadPart')
open PySem.MeetsSeq PySem.MeetsSeq2 PySem.MeetsSeq3
end
section
variable {prog:Program} {w:World} {A:Around} {E:Value->Shared->Prop} {s:Shared}
theorem vZ {t b:Addr} {vs ws:List Value} {Q:Value->Shared->Prop} (ht:IsTup s.heap t vs.toArray) (hb:IsTup s.heap b ws.toArray) (hv:vs ≠ [])
  (h1:ws=[]->Q (.ref t) s) (h2:ws ≠ []->Q (.ref s.heap.objs.size) { s with heap:=s.heap.push { cls := .type "tuple",data := .seq (vs ++ ws).toArray } })
  (hsz:vs.length + ws.length<=sizeLine):wpAny (model prog w) A (binaryOp .Add (.ref t) (.ref b)) Q E s:=by
 obtain ⟨⟨cls,dd,data,sl⟩,ho,hc,n,hd⟩:=id ht
 obtain ⟨⟨cls2,dd2,data2,sl2⟩,ho2,hc2,n2,hd2⟩:=id hb
 simp only at hc hd hc2 hd2
 subst hc hd hc2 hd2
 have e:vs.toArray ++ ws.toArray=(vs ++ ws).toArray:=by simp
 by_cases hw:ws=[]
 ·exact concat_meets ⟨_,ho,rfl⟩ ⟨_,ho2,rfl⟩ noFill_tuple_add seq_tuple_add PySem.F.slot_tuple_add PySem.F.entry_tuple_add (PySem.F.args_tuple_add_2 _ _)
   (tuple_addW1 t b vs.toArray ws.toArray n n2 dd dd2 sl sl2 (by simpa using hv) (by simp [hw])) ⟨ho,ho2,h1 hw⟩
 ·refine concat_meets ⟨_,ho,rfl⟩ ⟨_,ho2,rfl⟩ noFill_tuple_add seq_tuple_add PySem.F.slot_tuple_add PySem.F.entry_tuple_add (PySem.F.args_tuple_add_2 _ _)
   (tuple_addW2 t b vs.toArray ws.toArray n n2 dd dd2 sl sl2 (by simpa using hv) (by simpa using hw) (by rw [List.size_toArray,List.size_toArray]; exact hsz)) ⟨ho,ho2,?_⟩
  rw [e]
  exact h2 hw
def sIx (n d:Nat):Option Int->Nat
 | none=>d
 | some v=>if v < 0 then (v + (n:Int)).toNat else min v.toNat n
theorem yd (n d:Nat) (hd:d<=n) (o:Option Int):sIx n d o<=n:=by
 cases o with
 | none=>exact hd
 | some v =>
  show (if v < 0 then (v + (n:Int)).toNat else min v.toNat n)<=n
  by_cases hv:v < 0
  ·rw [if_pos hv]; omega
  ·rw [if_neg hv]; exact Nat.min_le_right _ _
theorem qy (v:Int) (n d:Nat):(if v < 0 then max (v + (n:Int)) 0 else min v (n:Int))=((sIx n d (some v):Nat):Int):=by
 show (if v < 0 then max (v + (n:Int)) 0 else min v (n:Int))=(((if v < 0 then (v + (n:Int)).toNat else min v.toNat n):Nat):Int)
 by_cases hv:v < 0
 ·simp only [if_pos hv]; omega
 ·simp only [if_neg hv]; omega
theorem pE (lo hi:Option Int) (n:Nat):Builtin.Slice.sliceAdjust lo hi 1 (n:Int)=(((sIx n 0 lo:Nat):Int),((sIx n n hi:Nat):Int)):=by
 have h1:¬ ((1:Int) < 0):=by omega
 unfold Builtin.Slice.sliceAdjust
 simp only [h1,if_false]
 refine Prod.ext ?_ ?_
 ·cases lo with
  | none=>rfl
  | some v=>exact qy v n 0
 ·cases hi with
  | none=>rfl
  | some v=>exact qy v n n
theorem pF (i j:Nat):Builtin.Slice.slicePlaces (i:Int) (j:Int) 1=j - i:=by
 unfold Builtin.Slice.slicePlaces
 have h1:(1:Int) > 0:=by omega
 simp only [h1,if_true,Int.ediv_one]
 split <;> omega
theorem jA {v:Value} {o:Option Int} {Q:Option Int->Shared->Prop} (p:IsPart v o) (h:Q o s):wpAny (model prog w) A (Builtin.Slice.slicePartIndex v) Q E s:=by
 cases p with
 | none=>exact slicePart_none h
 | int i t=>exact slicePart_int h
theorem dE {sl:Addr} {vl vu:Value} {lo hi:Option Int} {n:Nat} {Q:Int × Int × Nat->Shared->Prop} (hs:s.heap.IsSliceOf sl vl vu .none) (pl:IsPart vl lo) (pu:IsPart vu hi)
  (h:Q (((sIx n 0 lo:Nat):Int),1,sIx n n hi - sIx n 0 lo) s):wpAny (model prog w) A (Builtin.Slice.sliceApplied (.ref sl) (pure (n:Int))) Q E s:=by
 obtain ⟨os,hos,hcs,hds⟩:=id hs
 unfold Builtin.Slice.sliceApplied Builtin.Slice.sliceFields
 refine wpAny_bind (wpAny_bind (wpAny_field hos hds (x:=vl) rfl (wpAny_bind (wpAny_field hos hds (x:=vu) rfl (wpAny_bind (wpAny_field hos hds (x := .none) rfl (wpAny_pure ?_)))))))
 refine wpAny_bind (slicePart_none ?_)
 show wpAny _ _ (if ((1:Int) == 0)=true then _ else _) _ _ s
 rw [if_neg (by decide)]
 refine wpAny_bind (jA pl (wpAny_bind (jA pu (wpAny_bind (wpAny_pure ?_)))))
 show wpAny _ _ (match Builtin.Slice.sliceAdjust lo hi 1 (n:Int) with | (lo,hi)=>pure (lo,(1:Int),Builtin.Slice.slicePlaces lo hi 1)) _ _ s
 rw [pE lo hi n]
 show wpAny _ _ (pure (((sIx n 0 lo:Nat):Int),(1:Int),Builtin.Slice.slicePlaces ((sIx n 0 lo:Nat):Int) ((sIx n n hi:Nat):Int) 1)) _ _ s
 rw [pF]
 exact wpAny_pure h
theorem tW (xs:Array Value) (i k:Nat):((List.range k).filterMap fun (m:Nat)=>xs[((i:Int) + (m:Int) * 1).toNat]?).toArray=((xs.toList.drop i).take k).toArray:=by
 have e:(fun (m:Nat)=>xs[((i:Int) + (m:Int) * 1).toNat]?)=fun m=>xs[i + m]? := by
  funext m
  have:((i:Int) + (m:Int) * 1).toNat=i + m:=by omega
  rw [this]
 rw [e]
 have:=pick_run xs i k
 rw [List.filterMap_map] at this
 have e2:((fun x=>xs[x]?) ∘ fun x=>i + x)=fun m=>xs[i + m]? := rfl
 rw [e2] at this
 rw [this]
theorem gB {t sl:Addr} {items:Array Value} {vl vu:Value} {lo hi:Option Int} {Q:Value->Shared->Prop} (ht:IsTup s.heap t items) (hs:s.heap.IsSliceOf sl vl vu .none) (pl:IsPart vl lo) (pu:IsPart vu hi)
  (hw:¬ (sIx items.size 0 lo=0/\sIx items.size items.size hi=items.size))
  (h:Q (.ref s.heap.objs.size) { s with heap:=s.heap.push { cls := .type "tuple",data := .seq ((items.toList.drop (sIx items.size 0 lo)).take (sIx items.size items.size hi - sIx items.size 0 lo)).toArray } })
  (hsz:items.size<=sizeLine):wpAny (model prog w) A (getItem (.ref t) (.ref sl)) Q E s:=by
 have htake:sizeOk (.seq ((items.toList.drop (sIx items.size 0 lo)).take (sIx items.size items.size hi - sIx items.size 0 lo)).toArray):=by
  show ((items.toList.drop (sIx items.size 0 lo)).take (sIx items.size items.size hi - sIx items.size 0 lo)).toArray.size<=sizeLine
  rw [List.size_toArray,List.length_take,List.length_drop,Array.length_toList]
  omega
 have hj:sIx items.size items.size hi<=items.size:=yd _ _ (Nat.le_refl _) hi
 obtain ⟨os,hos,hcs,hds⟩:=id hs
 have hTs:s.TypeIs (.ref sl) "slice" := ⟨os,hos,hcs⟩
 unfold getItem
 try with_reducible refine wpAny_holding ?_
 first | refine wpAny_bind (wpAny_pure ?_) | skip
 refine wpAny_bind (wpAny_sequenceKey ht.typeIs (by decide) ?_)
 refine wpAny_bind (wpAny_callSpecial?_slot (name:=Str.ofString "__getitem__") ht.typeIs PyProof.Rows.slot_tuple_getitem
  (wpAny_call_entry PyProof.Rows.slot_tuple_getitem ht.typeIs entry_tuple_getitem ?_ (args_tuple_getitem _ _)))
 show wpAny _ _ (Builtin.Tuple.tupleItemsOf (.ref t) >>= _) _ _ s
 refine wpAny_bind (tupleItemsOf_ ht ?_)
 refine wpAny_bind (wpAny_typeOf hTs ?_)
 rw [if_pos (by decide)]
 refine wpAny_bind (dE hs pl pu ?_)
 have hno:¬ ((((sIx items.size 0 lo:Nat):Int) == 0 && (1:Int) == 1 && (sIx items.size items.size hi - sIx items.size 0 lo) == items.size)=true):=by
  intro q
  rw [Bool.and_eq_true,Bool.and_eq_true] at q
  have q1:((sIx items.size 0 lo:Nat):Int)=0:=eq_of_beq q.1.1
  have q2:sIx items.size items.size hi - sIx items.size 0 lo=items.size:=eq_of_beq q.2
  exact hw ⟨by omega,by omega⟩
 show wpAny _ _ (if (((sIx items.size 0 lo:Nat):Int) == 0 && (1:Int) == 1 && (sIx items.size items.size hi - sIx items.size 0 lo) == items.size)=true then _ else _) _ _ s
 rw [if_neg hno,tW]
 first
  | exact wpAny_bind (m:=Builtin.Tuple.tupleExact _) (wpAny_newObj_type (wpAny_pure ⟨_,rfl,wpAny_pure h⟩) htake)
  | exact wpAny_bind (m:=Builtin.Tuple.tupleExact _) (wpAny_newObj_type (wpAny_bind (wpAny_pure (wpAny_pure ⟨_,rfl,wpAny_pure h⟩))) htake)
  | exact wpAny_bind (wpAny_bind (m:=Builtin.Tuple.tupleExact _) (wpAny_newObj_type (wpAny_pure (wpAny_pure ⟨_,rfl,wpAny_pure h⟩)) htake))
  | exact wpAny_bind (wpAny_bind (m:=Builtin.Tuple.tupleExact _) (wpAny_newObj_type (wpAny_pure ⟨_,rfl,wpAny_pure h⟩) htake))
end
end HT
namespace L2
open PySem PySem.Spec PyProof.Rows
abbrev TO:=St->Hp->(Option Int->Hp->Prop)->Prop
def PO (X:Cx) (e:Option Expr) (t:TO):Prop :=
 ∀ (pins:List (Addr × Obj)) (s:Shared) (σ:St) (H:Hp) (Q:Option Int->Hp->Prop),Inv X pins σ H s->t σ H Q →
  wpAny (model X.prog X.w) X.A (evalPart e X.env) (fun u s'=>∃ o H',Inv X pins σ H' s'/\IsPart u o/\Q o H') X.xe s
def v3:TO:=fun _ H Q=>Q none H
def zq (t:TE):TO:=fun σ H Q=>t σ H fun x H1=>∃ i,x = .int i/\Q (some i) H1
theorem intsAre_of {ns:List Int}:∀ {us:List Value},Vals (ns.map V.int) us->IntsAre us ns:=by
 induction ns with
 | nil=>intro us r; rw [List.map_nil] at r; cases r; exact .nil
 | cons n ns ih =>
  intro us r
  rw [List.map_cons] at r
  cases r with
  | cons r1 r2 =>
   obtain ⟨t,e⟩:=r1
   subst e
   exact .cons n t (ih r2)
section
variable {X:Cx} {e:Expr} {te:TE} {lo hi:Option Expr} {tl th:TO} {pos p2:Pos}
theorem d7:PO X none v3:=by
 intro pins s σ H Q I h
 rw [evalPart_none]
 exact wpAny_pure ⟨none,H,I,.none,h⟩
theorem cM (h:PE X e te):PO X (some e) (zq te):=by
 intro pins s σ H Q I hw
 rw [evalPart_some]
 refine thn (h pins s σ H _ I hw) fun u s1 ⟨x,H1,I1,r1,q1⟩ => ?_
 obtain ⟨i,rfl,q⟩:=q1
 obtain ⟨t,rfl⟩:=r1
 exact ⟨some i,H1,I1,.int i t,q⟩
def SlR (X:Cx) (r:V->Option Int->Option Int->Hp->VK->Prop):Prop :=
 ∀ (pins:List (Addr × Obj)) (s:Shared) (σ:St) (H:Hp) (x:V) (v vl vu:Value) (lo hi:Option Int) (sl:Addr) (Q:VK),Inv X pins σ H s->RelV x v->s.heap.IsSliceOf sl vl vu .none->IsPart vl lo->IsPart vu hi->r x lo hi H Q →
  ∃ T id,typeLookup (.type T) "__getitem__" = pure (some (.builtin id))/\s.TypeIs v T/\wpAny (model X.prog X.w) X.A (getItem v (.ref sl)) (EP X pins σ Q) X.xe s
def tSl (r:V->Option Int->Option Int->Hp->VK->Prop) (te:TE) (tl th:TO):TE:=fun σ H Q=>te σ H fun x H1=>tl σ H1 fun l H2=>th σ H2 fun u H3=>r x l u H3 Q
theorem cB {r:V->Option Int->Option Int->Hp->VK->Prop} (hr:SlR X r) (he:PE X e te) (hl:PO X lo tl) (hu:PO X hi th):PE X (.Subscript e (.Slice lo hi none p2) pos) (tSl r te tl th):=by
 intro pins s σ H Q I h
 refine Subscript_ (thn (he pins s σ H _ I h) fun v s1 ⟨x,H1,I1,r1,q1⟩ => ?_)
 refine wpAny_Slice (thn (hl pins s1 σ H1 _ I1 q1) fun vl s2 ⟨l,H2,I2,pl,q2⟩=>thn (hu pins s2 σ H2 _ I2 q2) fun vu s3 ⟨u,H3,I3,pu,q3⟩ => ?_)
 rw [evalPart_none]
 refine wpAny_pure ?_
 have I4:Inv X pins σ H3 { s3 with heap:=s3.heap.push { cls := .type "slice",data := .fields #[vl,vu,.none] } }:=I3.kept (t':=s3.toks) fun b ob q=>Heap.get?_push_of_some _ q
 obtain ⟨T,id,hT,ht,hg⟩:=hr pins { s3 with heap:=s3.heap.push { cls := .type "slice",data := .fields #[vl,vu,.none] } } σ H3 x v vl vu l u s3.heap.objs.size Q I4 r1 (Heap.IsSliceOf.new ..) pl pu q3
 show wpAny (model X.prog X.w) X.A (subscriptTail e (.Slice lo hi none p2) v (.ref s3.heap.objs.size)) (EP X pins σ Q) X.xe { s3 with heap:=s3.heap.push { cls := .type "slice",data := .fields #[vl,vu,.none] } }
 exact tail_any (ops:=[.ref s3.heap.objs.size,v]) ht hT hg (by with_unfolding_all rfl)
def eR (xs:List V) (lo hi:Option Int):List V:=(xs.drop (HT.sIx xs.length 0 lo)).take (HT.sIx xs.length xs.length hi - HT.sIx xs.length 0 lo)
theorem iS (xs:List V) (lo hi:Option Int):(eR xs lo hi).length<=xs.length:=by
 unfold eR
 rw [List.length_take,List.length_drop]
 omega
def rSlT (K:PySem.W.Frag):V->Option Int->Option Int->Hp->VK->Prop:=fun x lo hi H Q=>∃ a xs,x = .ref a/\SqT K H a xs ∧
 ¬ (HT.sIx xs.length 0 lo=0/\HT.sIx xs.length xs.length hi=xs.length)/\∀ p,H p=none->Q (.ref p) (upd H p (.tup (eR xs lo hi)))
theorem ye:SlR X (rSlT X.K):=by
 intro pins s σ H x v vl vu lo hi sl Q I rx hs pl pu h
 obtain ⟨a,xs,rfl,hx,hw,q⟩:=h
 cases rx
 obtain ⟨its,r,ht,hz⟩:=I.tuple hx
 have hlen:its.toArray.size=xs.length:=by rw [List.size_toArray]; exact r.length.symm
 refine ⟨"tuple",_,PyProof.Rows.slot_tuple_getitem.lookup,ht.typeIs,?_⟩
 refine HT.gB ht hs pl pu (by rw [hlen]; exact hw) ?_ (by rw [hlen]; exact hz)
 rw [hlen]
 refine ⟨.ref s.heap.objs.size,_,I.laid (t':=s.toks) (o := .tup (eR xs lo hi)) (fun b ob q=>Heap.get?_push_of_some _ q) (Nat.le_refl _) ?_,rfl,q _ (I.hok.fresh (Nat.le_refl _))⟩
 exact ⟨Nat.le_trans (iS xs lo hi) hz,_,(r.drop (HT.sIx xs.length 0 lo)).take (HT.sIx xs.length xs.length hi - HT.sIx xs.length 0 lo),dw.new _ _⟩
def zr (K:PySem.W.Frag):R2:=fun x y H Q=>∃ a b xs ys,x = .ref a/\y = .ref b/\SqT K H a xs/\SqT K H b ys/\xs ≠ []/\xs.length + ys.length<=sizeLine ∧
 (ys=[]->Q (.ref a) H)/\(ys ≠ []->∀ p,H p=none->Q (.ref p) (upd H p (.tup (xs ++ ys))))
theorem Vals.jf {xs:List V} {us:List Value} (r:Vals xs us):us=[] ↔ xs=[]:=by
 cases r with
 | nil=>simp
 | cons _ _=>simp
theorem v5:OpR X (binaryOp .Add) (zr X.K):=by
 intro pins s σ H x y v u Q I rx ry h
 obtain ⟨a,b,xs,ys,rfl,rfl,ha,hb,hx,hz,q1,q2⟩:=h
 cases rx
 cases ry
 obtain ⟨its,r1,p1,_⟩:=I.tuple ha
 obtain ⟨its2,r2,p2,_⟩:=I.tuple hb
 refine HT.vZ p1 p2 (fun z=>hx (r1.jf.mp z)) (fun z=>⟨.ref a,H,I,rfl,q1 (r2.jf.mp z)⟩) (fun z => ?_) (by rw [<- r1.length, <- r2.length]; exact hz)
 refine ⟨.ref s.heap.objs.size,_,I.laid (t':=s.toks) (o := .tup (xs ++ ys)) (fun b ob q=>Heap.get?_push_of_some _ q) (Nat.le_refl _) ?_,rfl,q2 (fun w=>z (r2.jf.mpr w)) _ (I.hok.fresh (Nat.le_refl _))⟩
 exact ⟨by rw [List.length_append]; exact hz,_,r1.append r2,dw.new _ _⟩
end
open PySem PySem.Spec PyProof.Rows
def ixN (n:Nat) (i:Int):Option Nat:=if 0<=i then (if i < n then some i.toNat else none) else if -(n:Int)<=i then some (i + n).toNat else none
def atI {α : Type} (xs:List α) (i:Int):Option α := (ixN xs.length i).bind fun j=>xs[j]?
theorem mB {n:Nat} {i:Int} {j:Nat} (h:ixN n i=some j):seqIndex? i n=some j/\j < n /\ -(n:Int)<=i/\i < n:=by
 unfold ixN at h
 by_cases h0:0<=i
 ·rw [if_pos h0] at h
  by_cases h1:i < n
  ·rw [if_pos h1] at h
   have e:i.toNat=j:=Option.some.inj h
   exact ⟨by rw [seqIndex_of h0 h1,e],by omega,by omega,h1⟩
  ·rw [if_neg h1] at h; cases h
 ·rw [if_neg h0] at h
  by_cases h1 : -(n:Int)<=i
  ·rw [if_pos h1] at h
   have e:(i + n).toNat=j:=Option.some.inj h
   exact ⟨by rw [seqIndex_neg (by omega) h1,e],by omega,h1,by omega⟩
  ·rw [if_neg h1] at h; cases h
theorem qz {α : Type} {xs:List α} {i:Int} {v : α} (h:atI xs i=some v):∃ j,seqIndex? i xs.length=some j/\xs[j]? = some v/\j < xs.length /\ -(xs.length:Int)<=i/\i < xs.length:=by
 unfold atI at h
 cases e:ixN xs.length i with
 | none=>rw [e] at h; cases h
 | some j =>
  rw [e] at h
  obtain ⟨h1,h2,h3,h4⟩:=mB e
  exact ⟨j,h1,h,h2,h3,h4⟩
theorem jg {α : Type} {xs:List α} {j:Nat} {v : α} (h:xs[j]? = some v):atI xs (j:Int)=some v:=by
 have hj:j < xs.length:=(List.getElem?_eq_some_iff.mp h).1
 have e:ixN xs.length (j:Int)=some j:=by
  unfold ixN
  rw [if_pos (by omega),if_pos (by omega)]; simp
 unfold atI; rw [e]; exact h
def v7 (b:Expr):Prop:=∀ o i,subscripted b false o i=operate [o,i] (getItem o i)
def IxR (X:Cx) (r:R2):Prop :=
 ∀ (value slice:Expr) (pins:List (Addr × Obj)) (s:Shared) (σ:St) (H:Hp) (x y:V) (v u:Value) (Q:VK),Inv X pins σ H s->RelV x v->RelV y u->r x y H Q →
  subscripted slice false v u=operate [v,u] (getItem v u)->wpAny (model X.prog X.w) X.A (subscriptTail value slice v u) (EP X pins σ Q) X.xe s
def MtR (X:Cx) (id:String) (r:V->List V->Hp->VK->Prop):Prop :=
 ∀ (pins:List (Addr × Obj)) (s:Shared) (σ:St) (H:Hp) (x:V) (xs:List V) (v:Value) (us:List Value) (Q:VK),Inv X pins σ H s->RelV x v->Vals xs us->r x xs H Q →
  wpAny (model X.prog X.w) X.A (call (.builtin id) (v :: us)) (EP X pins σ Q) X.xe s
section
variable {X:Cx} {a b:Expr} {ta tb:TE} {pos:Pos}
theorem aH {r:R2} (hr:IxR X r) (ha:PE X a ta) (hb:PE X b tb) (hs:v7 b):PE X (.Subscript a b pos) (tOp r ta tb):=by
 intro pins s σ H Q I h
 exact Subscript_ (xY ha hb I h fun v u s2 x y H2 I2 rx ry q=>hr a b pins s2 σ H2 x y v u Q I2 rx ry q (hs _ _))
def rIxL (K:PySem.W.Frag):R2:=fun x y H Q=>∃ p xs i v,x = .ref p/\y = .int i/\SqL K H p xs/\atI xs i=some v/\Q v H
def zt (K:PySem.W.Frag):R2:=fun x y H Q=>∃ p xs i v,x = .ref p/\y = .int i/\SqT K H p xs/\atI xs i=some v/\Q v H
theorem bN:IxR X (rIxL X.K):=by
 intro value slice pins s σ H x y v u Q I rx ry h hs
 obtain ⟨p,xs,i,z,rfl,rfl,hq,he,q⟩:=h
 cases rx
 obtain ⟨t,rfl⟩:=ry
 obtain ⟨its,r,pl,hz⟩:=I.list hq
 obtain ⟨j,h1,h2,h3,h4,h5⟩:=qz he
 obtain ⟨w,ew,rw'⟩:=r.get h2
 have hl:=r.length
 have hn:=iC
 have fin:EP X pins σ Q w s:=⟨z,H,I,rw',q⟩
 by_cases h0:0<=i
 ·have hj:i.toNat=j:=by
   rw [seqIndex_of h0 h5] at h1
   exact Option.some.inj h1
  exact item_listR pl.isList h0 (by omega) (by rw [hj]; simpa using ew) fin hs
 ·have hj:(i + (its.toArray.size:Int)).toNat=j:=by
   rw [seqIndex_neg (by omega) h4] at h1
   rw [List.size_toArray, <- hl]
   exact Option.some.inj h1
  exact subscriptTail_builtinR (x:=w) pl.isList.typeIs slot_list_getitem.lookup
   (wpAny_getItem_list_neg (Q:=fun r s'=>r=w/\EP X pins σ Q r s') pl.isList (by omega) (by rw [List.size_toArray] <;> omega) (by omega) (by rw [hj]; simpa using ew) ⟨rfl,fin⟩) hs
theorem aO:IxR X (zt X.K):=by
 intro value slice pins s σ H x y v u Q I rx ry h hs
 obtain ⟨p,xs,i,z,rfl,rfl,hq,he,q⟩:=h
 cases rx
 obtain ⟨t,rfl⟩:=ry
 obtain ⟨its,r,pl,hz⟩:=I.tuple hq
 obtain ⟨j,h1,h2,h3,h4,h5⟩:=qz he
 obtain ⟨w,ew,rw'⟩:=r.get h2
 have hl:=r.length
 have hn:=iC
 have fin:EP X pins σ Q w s:=⟨z,H,I,rw',q⟩
 exact subscriptTail_builtinR (x:=w) pl.typeIs slot_tuple_getitem.lookup
  (getItem_tuple (j:=j) (Q:=fun r s'=>r=w/\EP X pins σ Q r s') pl (by omega) (by omega) (by rw [List.size_toArray, <- hl]; exact h1) (by simpa using ew) ⟨rfl,fin⟩) hs
theorem pG (its:List Value) (n j:Nat) (u:Value):Obj.mapSeq (·.setIfInBounds j u) { cls := .type "list",data := .seq its.toArray n }={ cls := .type "list",data := .seq (its.set j u).toArray n }:=by
 simp [Obj.mapSeq]
theorem Inv.lst {pins:List (Addr × Obj)} {σ:St} {H:Hp} {s:Shared} {p:Addr} {xs:List V} (I:Inv X pins σ H s) (h:H p=some (.lst xs)) :
  ∃ (its:List Value) (n:Nat),Vals xs its/\s.heap.get? p=some { cls := .type "list",data := .seq its.toArray n }/\xs.length<=sizeLine:=by
 obtain ⟨z,its,n,r,e⟩:=I.hok p _ h
 exact ⟨its,n,r,e,z⟩
theorem Inv.yf {pins:List (Addr × Obj)} {σ:St} {H:Hp} {s:Shared} {p:Addr} {xs ys:List V} {its its':List Value} {n n':Nat} {f:Obj->Obj} (I:Inv X pins σ H s) (h:H p=some (.lst xs))
  (ho:s.heap.get? p=some { cls := .type "list",data := .seq its.toArray n }) (hf:f { cls := .type "list",data := .seq its.toArray n }={ cls := .type "list",data := .seq its'.toArray n' }) (r:Vals ys its') (hz:ys.length<=sizeLine) (t:Nat) :
  Inv X pins σ (upd H p (.lst ys)) { s with heap:=s.heap.update p f,toks:=t }:=by
 have e:(s.heap.update p f).get? p=some { cls := .type "list",data := .seq its'.toArray n' }:=by
  rw [Heap.get?_update_self f ho (by rw [hf] <;> rfl),hf]
 refine I.write (x:=p) (e:=p) (by rw [h]; trivial) (.inl rfl) (fun b u hb q=>(Heap.get?_update_other _ _ (Ne.symm hb)).trans q) ⟨_,e⟩ ?_
 exact ⟨hz,its',n',r,e⟩
def zu:V->V->V->Hp->(Hp->Prop)->Prop:=fun o i v H Q=>∃ p xs k j,o = .ref p/\i = .int k/\H p=some (.lst xs)/\ixN xs.length k=some j/\Q (upd H p (.lst (xs.set j v)))
theorem set_list:yZ X zu:=by
 intro pins s σ H o i v ov iv u Q I ro ri rv h
 obtain ⟨p,xs,k,j,rfl,rfl,hp,hj,q⟩:=h
 cases ro
 obtain ⟨t,rfl⟩:=ri
 obtain ⟨its,n,r,ho,hz⟩:=I.lst hp
 obtain ⟨h1,h2,h3,h4⟩:=mB hj
 have hl:=r.length
 have hn:=iC
 have I':Inv X pins σ (upd H p (.lst (xs.set j v))) { s with heap:=s.heap.update p (Obj.mapSeq (·.setIfInBounds j u)) } :=
  I.yf hp ho (pG its n j u) (r.set rv j) (by rw [List.length_set]; exact hz) s.toks
 by_cases h0:0<=k
 ·have hk:k.toNat=j:=by
   rw [seqIndex_of h0 h4] at h1
   exact Option.some.inj h1
  exact PySem.W.ki_setAt ho h0 (by omega) (by rw [List.size_toArray, <- hl]; exact h4) (by rw [hk]; exact ⟨_,I',q⟩)
 ·have hk:(k + (its.toArray.size:Int)).toNat=j:=by
   rw [seqIndex_neg (by omega) h3] at h1
   rw [List.size_toArray, <- hl]
   exact Option.some.inj h1
  exact PySem.W.ki_setBack ho (by omega) (by rw [List.size_toArray, <- hl]; exact h3) (by omega) (by rw [hk]; exact ⟨_,I',q⟩)
theorem mC (lo hi:Option Int) (n:Nat):(sliceBounds lo hi none n).1=((HT.sIx n 0 lo:Nat):Int)/\(sliceBounds lo hi none n).2.1=((HT.sIx n n hi:Nat):Int)/\(sliceBounds lo hi none n).2.2=1:=by
 refine ⟨?_,?_,rfl⟩
 ·cases lo with
  | none=>simp [sliceBounds,HT.sIx]
  | some i =>
   simp only [sliceBounds,HT.sIx,Option.getD_none,show (1:Int) > 0 by decide,if_true]
   by_cases h:i < 0
   ·simp only [h,if_true] <;> omega
   ·simp only [h,if_false] <;> omega
 ·cases hi with
  | none=>simp [sliceBounds,HT.sIx]
  | some i =>
   simp only [sliceBounds,HT.sIx,Option.getD_none,show (1:Int) > 0 by decide,if_true]
   by_cases h:i < 0
   ·simp only [h,if_true] <;> omega
   ·simp only [h,if_false] <;> omega
theorem ku (its:List Value) (lo hi:Option Int):slicePick its.toArray lo hi none=((its.drop (HT.sIx its.length 0 lo)).take (HT.sIx its.length its.length hi - HT.sIx its.length 0 lo)).toArray:=by
 obtain ⟨h1,h2,h3⟩:=mC lo hi its.toArray.size
 unfold slicePick
 rw [h1,h2,h3]
 simp only [sliceRange_one,pick_run,List.size_toArray] <;> rfl
def rSlL (K:PySem.W.Frag):V->Option Int->Option Int->Hp->VK->Prop:=fun x lo hi H Q=>∃ a xs,x = .ref a/\SqL K H a xs/\∀ p,H p=none->Q (.ref p) (upd H p (.lst (eR xs lo hi)))
theorem gC:SlR X (rSlL X.K):=by
 intro pins s σ H x v vl vu lo hi sl Q I rx hs pl pu h
 obtain ⟨a,xs,rfl,hx,q⟩:=h
 cases rx
 obtain ⟨its,r,ht,hz⟩:=I.list hx
 have hlen:=r.length
 refine ⟨"list",_,slot_list_getitem.lookup,ht.isList.typeIs,?_⟩
 refine wpAny_getItem_list_slice ht.isList hs pl pu .none (by simp) ?_ (by rw [List.size_toArray] <;> omega)
 rw [ku, <- hlen]
 refine ⟨.ref s.heap.objs.size,_,I.laid (t':=s.toks) (o := .lst (eR xs lo hi)) (fun b ob q=>Heap.get?_push_of_some _ q) (Nat.le_refl _) ?_,rfl,q _ (I.hok.fresh (Nat.le_refl _))⟩
 exact ⟨Nat.le_trans (iS xs lo hi) hz,_,0,(r.drop (HT.sIx xs.length 0 lo)).take (HT.sIx xs.length xs.length hi - HT.sIx xs.length 0 lo),Heap.get?_push_size _ rfl⟩
def gE:V->Bool
 | .non=>true
 | .bl _=>true
 | .int _=>true
 | .str _=>true
 | _=>false
def eqV:V->V->Bool
 | .non,.non=>true
 | .bl a,.bl b=>a == b
 | .bl a,.int b=>(if a then 1 else 0) == b
 | .int a,.bl b=>a == (if b then 1 else 0)
 | .int a,.int b=>a == b
 | .str a,.str b=>a == b
 | _,_=>false
theorem yg {A:Around} {s:Shared} {y x:V} {u v:Value} (ry:RelV y u) (rx:RelV x v) (fy:gE y=true) (fx:gE x=true):SeqAt.EqAt A s u v (eqV y x):=by
 cases y with
 | non =>
  cases ry
  cases x with
  | non=>cases rx; exact SeqAt.EqAt.same _
  | bl b=>cases rx; exact SeqAt.EqAt.none_bool b
  | int b=>obtain ⟨t,rfl⟩:=rx; exact SeqAt.EqAt.none_int b t
  | str b=>obtain ⟨t,rfl⟩:=rx; exact SeqAt.EqAt.none_str b t
  | _=>exact absurd (show false=true from fx) Bool.false_ne_true
 | bl a =>
  cases ry
  cases x with
  | non=>cases rx; exact SeqAt.EqAt.bool_none a
  | bl b=>cases rx; exact SeqAt.EqAt.bool_bool a b
  | int b=>obtain ⟨t,rfl⟩:=rx; exact SeqAt.EqAt.bool_int a b t
  | str b=>obtain ⟨t,rfl⟩:=rx; exact SeqAt.EqAt.bool_str a b t
  | _=>exact absurd (show false=true from fx) Bool.false_ne_true
 | int a =>
  obtain ⟨t',rfl⟩:=ry
  cases x with
  | non=>cases rx; exact SeqAt.EqAt.int_none a t'
  | bl b=>cases rx; exact SeqAt.EqAt.int_bool a t' b
  | int b=>obtain ⟨t,rfl⟩:=rx; exact SeqAt.EqAt.int_int a t' b t
  | str b=>obtain ⟨t,rfl⟩:=rx; exact SeqAt.EqAt.int_str a t' b t
  | _=>exact absurd (show false=true from fx) Bool.false_ne_true
 | str a =>
  obtain ⟨t',rfl⟩:=ry
  cases x with
  | non=>cases rx; exact SeqAt.EqAt.str_none a t'
  | bl b=>cases rx; exact SeqAt.EqAt.str_bool a t' b
  | int b=>obtain ⟨t,rfl⟩:=rx; exact SeqAt.EqAt.str_int a t' b t
  | str b=>obtain ⟨t,rfl⟩:=rx; exact SeqAt.EqAt.str_str a t' b t
  | _=>exact absurd (show false=true from fx) Bool.false_ne_true
 | _=>exact absurd (show false=true from fy) Bool.false_ne_true
def eqU (x:V) (u:Value):Bool:=match u with
 | .none=>eqV .non x
 | .bool b=>eqV (.bl b) x
 | .int i _=>eqV (.int i) x
 | .str z _=>eqV (.str z) x
 | _=>false
theorem tX {x y:V} {u:Value} (r:RelV y u) (f:gE y=true):eqU x u=eqV y x:=by
 cases y with
 | non=>cases r; rfl
 | bl b=>cases r; rfl
 | int i=>obtain ⟨t,rfl⟩:=r; rfl
 | str z=>obtain ⟨t,rfl⟩:=r; rfl
 | _=>exact absurd (show false=true from f) Bool.false_ne_true
theorem gF {x:V}:∀ {xs:List V} {us:List Value},Vals xs us->xs.all gE=true->us.any (eqU x)=xs.any fun y=>eqV y x
 | _,_,.nil,_=>rfl
 | y :: xs,u :: us,.cons r t,f=>by
  rw [List.all_cons,Bool.and_eq_true] at f
  rw [List.any_cons,List.any_cons,tX r f.1,gF t f.2]
theorem eX {A:Around} {s:Shared} {x:V} {v:Value} (rx:RelV x v) (fx:gE x=true):∀ {xs:List V} {us:List Value},Vals xs us->xs.all gE=true->∀ u ∈ us,SeqAt.EqAt A s u v (eqU x u)
 | _,_,.nil,_=>fun u hu=>by cases hu
 | y :: xs,u :: us,.cons r t,f=>fun u' hu=>by
  rw [List.all_cons,Bool.and_eq_true] at f
  rcases List.mem_cons.mp hu with rfl | hu
  ·rw [tX r f.1]; exact yg r rx f.1 fx
  ·exact eX rx fx t f.2 u' hu
def inV (x:V) (xs:List V):Bool:=xs.any fun y=>eqV y x
def rIn (K:PySem.W.Frag) (neg:Bool):R2:=fun x y H Q=>∃ p xs,y = .ref p/\(SqL K H p xs\/SqT K H p xs)/\gE x=true/\xs.all gE=true/\Q (.bl (if neg then !inV x xs else inV x xs)) H
theorem rF:OpR X (compareOp .In) (rIn X.K false):=by
 intro pins s σ H x y v u Q I rx ry h
 obtain ⟨p,xs,rfl,hq,fx,fs,q⟩:=h
 cases ry
 rcases hq with hq | hq
 ·obtain ⟨its,r,pl,hz⟩:=I.list hq
  refine SeqAt.in_listAt (eqU x) pl.isList (fun w hw=>eX rx fx r fs w (by simpa using hw)) ⟨.bl _,H,I,rfl,?_⟩
  rw [show its.toArray.any (eqU x)=its.any (eqU x) by simp,gF r fs]
  exact q
 ·obtain ⟨its,r,pl,hz⟩:=I.tuple hq
  refine SeqAt.in_tupleAt (eqU x) pl (fun w hw=>eX rx fx r fs w (by simpa using hw)) ⟨.bl _,H,I,rfl,?_⟩
  rw [show its.toArray.any (eqU x)=its.any (eqU x) by simp,gF r fs]
  exact q
theorem mD:OpR X (compareOp .NotIn) (rIn X.K true):=by
 intro pins s σ H x y v u Q I rx ry h
 obtain ⟨p,xs,rfl,hq,fx,fs,q⟩:=h
 cases ry
 rcases hq with hq | hq
 ·obtain ⟨its,r,pl,hz⟩:=I.list hq
  refine SeqAt.notIn_listAt (eqU x) pl.isList (fun w hw=>eX rx fx r fs w (by simpa using hw)) ⟨.bl _,H,I,rfl,?_⟩
  rw [show its.toArray.any (eqU x)=its.any (eqU x) by simp,gF r fs]
  exact q
 ·obtain ⟨its,r,pl,hz⟩:=I.tuple hq
  refine SeqAt.notIn_tupleAt (eqU x) pl (fun w hw=>eX rx fx r fs w (by simpa using hw)) ⟨.bl _,H,I,rfl,?_⟩
  rw [show its.toArray.any (eqU x)=its.any (eqU x) by simp,gF r fs]
  exact q
theorem aG:bu X (.builtin "len") (fun xs H Q=>∃ p ys,xs=[.ref p]/\(SqL X.K H p ys\/SqT X.K H p ys)/\Q (.int ys.length) H):=by
 intro pins s σ H xs us Q I r h
 obtain ⟨p,ys,rfl,hq,q⟩:=h
 obtain ⟨u,rfl,rx⟩:=vals1 r
 cases rx
 have hn:=iC
 rcases hq with hq | hq
 ·obtain ⟨its,r',pl,hz⟩:=I.list hq
  have hlen:=r'.length
  exact Calls.call_len_list pl.isList (by simp only [List.size_toArray] <;> omega) ⟨.int ys.length,H,I.tok _,⟨s.toks + 1,by rw [List.size_toArray,hlen]⟩,q⟩
 ·obtain ⟨its,r',pl,hz⟩:=I.tuple hq
  have hlen:=r'.length
  exact len_tuple pl (by simp only [List.size_toArray] <;> omega) ⟨.int ys.length,H,I.tok _,⟨s.toks + 1,by rw [List.size_toArray,hlen]⟩,q⟩
theorem gG:bu X (.type "list") (fun xs H Q=>∃ p ys,xs=[.ref p]/\(SqL X.K H p ys\/SqT X.K H p ys)/\∀ l,H l=none->Q (.ref l) (upd H l (.lst ys))):=by
 intro pins s σ H xs us Q I r h
 obtain ⟨p,ys,rfl,hq,q⟩:=h
 obtain ⟨u,rfl,rx⟩:=vals1 r
 cases rx
 have fin:∀ (its:List Value),Vals ys its->ys.length<=sizeLine->∀ (h':Heap) (c':Nat),(∀ b o',s.heap.get? b=some o'->h'.get? b=some o') →
   h'.get? s.heap.objs.size=some { cls := .type "list",dict:=none,data := .seq its.toArray c',slots := #[] }->EP X pins σ Q (.ref s.heap.objs.size) { s with heap:=h' }:=fun its r' hz h' c' kp e =>
  ⟨.ref s.heap.objs.size,_,I.laid (t':=s.toks) kp (Nat.le_refl _) (show aY X.prog X.w _ h' _ (.lst ys) from ⟨hz,its,c',r',e⟩),rfl,q _ (I.hok.fresh (Nat.le_refl _))⟩
 rcases hq with hq | hq
 ·obtain ⟨its,r',pl,hz⟩:=I.list hq
  have hlen:=r'.length
  obtain ⟨o,ho,hc,n,hd⟩:=pl.isList
  exact call_list_seq p (.inl rfl) ho hc hd (fun h' c' kp e=>fin its r' hz h' c' kp e) (by simp only [List.size_toArray] <;> omega)
 ·obtain ⟨its,r',pl,hz⟩:=I.tuple hq
  have hlen:=r'.length
  obtain ⟨o,ho,hc,n,hd⟩:=pl
  exact call_list_seq p (.inr rfl) ho hc hd (fun h' c' kp e=>fin its r' hz h' c' kp e) (by simp only [List.size_toArray] <;> omega)
theorem bp:bu X (.type "tuple") (fun xs H Q=>∃ p ys,xs=[.ref p]/\((SqL X.K H p ys/\∀ l,H l=none->Q (.ref l) (upd H l (.tup ys)))\/(SqT X.K H p ys/\Q (.ref p) H))):=by
 intro pins s σ H xs us Q I r h
 obtain ⟨p,ys,rfl,h⟩:=h
 obtain ⟨u,rfl,rx⟩:=vals1 r
 cases rx
 rcases h with ⟨hq,q⟩ | ⟨hq,q⟩
 ·obtain ⟨its,r',pl,hz⟩:=I.list hq
  have hlen:=r'.length
  refine call_tuple_list pl.isList (fun h' kp => ?_) (by simp only [List.size_toArray] <;> omega)
  have I1:Inv X pins σ H { s with heap:=h' }:=I.kept (t':=s.toks) kp
  have I2:Inv X pins σ (upd H h'.objs.size (.tup ys)) { s with heap:=h'.push { cls := .type "tuple",data := .seq its.toArray } } :=
   I1.laid (t':=s.toks) (fun b o e=>Heap.get?_push_of_some _ e) (Nat.le_refl _) (show aY X.prog X.w _ _ _ (.tup ys) from ⟨hz,its,r',dw.new _ _⟩)
  exact ⟨.ref h'.objs.size,_,I2,rfl,q _ (I1.hok.fresh (Nat.le_refl _))⟩
 ·obtain ⟨its,r',pl,hz⟩:=I.tuple hq
  exact call_tuple_same pl ⟨.ref p,H,I,rfl,q⟩
def tyV (K:PySem.W.Frag) (T:String) (x:V) (H:Hp):Prop:=match x with
 | .str _=>T = "str"
 | .int _=>T = "int"
 | .ref p=>(T = "list" /\ ∃ xs,SqL K H p xs)\/(T = "tuple" /\ ∃ o,K.lookup p=some o/\o.cls = .type "tuple" /\ o.dict=none) ∨
   (T = "dict" /\ ((∃ kvs,H p=some (.dK kvs))\/∃ kvs,H p=some (.dT kvs)))\/(T = "set" /\ ∃ S n,H p=some (.set S n))
 | _=>False
theorem tY {pins:List (Addr × Obj)} {σ:St} {H:Hp} {s:Shared} {T:String} {x:V} {v:Value} (I:Inv X pins σ H s) (r:RelV x v) (ty:tyV X.K T x H) :
  s.TypeIs v T/\∀ a,v = .ref a->∃ ob,s.heap.get? a=some ob/\ob.dict=none:=by
 cases x with
 | str z =>
  obtain ⟨t,rfl⟩:=r
  cases (show T = "str" from ty)
  exact ⟨typeIs_str s z t,fun _ e=>nomatch e⟩
 | int i =>
  obtain ⟨t,rfl⟩:=r
  cases (show T = "int" from ty)
  exact ⟨typeIs_int s i t,fun _ e=>nomatch e⟩
 | ref p =>
  cases r
  rcases ty with ⟨rfl,xs,hq⟩ | ⟨rfl,o,hk,hc,hd⟩ | ⟨rfl,hk⟩ | ⟨rfl,S,n,hk⟩
  ·obtain ⟨its,_,pl,_⟩:=I.list hq
   refine ⟨pl.isList.typeIs,fun a e => ?_⟩
   cases e
   obtain ⟨o,n,e,c,hd,_⟩:=pl
   exact ⟨o,e,hd⟩
  ·refine ⟨⟨o,I.kIn p o hk,hc⟩,fun a e => ?_⟩
   cases e
   exact ⟨o,I.kIn _ o hk,hd⟩
  ·have z:∃ o,s.heap.get? p=some o/\o.ExactDict:=by
    rcases hk with ⟨kvs,hk⟩ | ⟨kvs,hk⟩
    ·obtain ⟨_,_,_,_,o,_,_,e,ex,_⟩:=I.hok p _ hk
     exact ⟨o,e,ex⟩
    ·obtain ⟨_,_,_,_,o,_,_,e,ex,_⟩:=I.hok p _ hk
     exact ⟨o,e,ex⟩
   obtain ⟨o,e,ex⟩:=z
   refine ⟨⟨o,e,ex.1⟩,fun a e2 => ?_⟩
   cases e2
   exact ⟨o,e,ex.2.1⟩
  ·obtain ⟨o,_,_,_,e,ex,_⟩:=I.hok p _ hk
   refine ⟨⟨o,e,ex.1⟩,fun a e2 => ?_⟩
   cases e2
   exact ⟨o,e,ex.2.1⟩
 | _=>exact False.elim ty
def tBM0 (K:PySem.W.Frag) (T:String) (r:V->List V->Hp->VK->Prop) (to:TE):TE:=fun σ H Q=>to σ H fun x H1=>tyV K T x H1/\r x [] H1 Q
def tBM (K:PySem.W.Frag) (T:String) (r:V->List V->Hp->VK->Prop) (to:TE) (t:TA):TE:=fun σ H Q=>to σ H fun x H1=>tyV K T x H1/\t σ H1 fun xs H2=>r x xs H2 Q
variable {o e:Expr} {es:List Expr} {to:TE} {t:TA} {name:Str} {apos cpos:Pos} {T id:String} {r:V->List V->Hp->VK->Prop}
theorem tZ (pa:PlainAttrs T) (slot:Slot T name id) (hty:typeOf (.builtin id)=pure (.type "method_descriptor")) (hm:MtR X id r) (ho:PE X o to)
  (hbase:attributeBase o name X.env (eval o X.env)=eval o X.env:=by rfl) (hline:(apos.endLine == cpos.line)=true:=by rfl):PE X (.Call (.Attribute o name apos) [] [] cpos) (tBM0 X.K T r to):=by
 intro pins s σ H Q I h
 refine wpAny_Call_method0_late hbase hline (thn (ho pins s σ H _ I h) fun v s1 ⟨x,H1,I1,r1,ty,q1⟩ => ?_)
 obtain ⟨h1,h2⟩:=tY I1 r1 ty
 exact ⟨T,id,pa,slot,hty,h1,h2,Calls.callWith_builtin rfl (PySem.evalArgs_none (hm pins s1 σ H1 x [] v [] Q I1 r1 .nil q1))⟩
theorem eY (pa:PlainAttrs T) (slot:Slot T name id) (hty:typeOf (.builtin id)=pure (.type "method_descriptor")) (hm:MtR X id r) (ho:PE X o to) (ha:PA X (e :: es) t)
  (hbase:attributeBase o name X.env (eval o X.env)=eval o X.env:=by rfl)
  (hfew:((backTo cpos (starEach (e :: es) X.env)).all (fun x => !x.1) && (backToKw cpos (keywordEach [] X.env)).all (fun x=>x.1.isSome)
   && decide ((e :: es).length + ([]:List Keyword).length + (if ([]:List Keyword).isEmpty then 0 else 1) < 30))=true:=by rfl)
  (hline:(apos.endLine == cpos.line)=true:=by rfl) (hs:starEach (e :: es) X.env=(false,eval e X.env) :: starEach es X.env:=by rfl) (hplain:(backTo cpos (starEach es X.env)).any (·.1)=false:=by rfl) :
  PE X (.Call (.Attribute o name apos) (e :: es) [] cpos) (tBM X.K T r to t):=by
 intro pins s σ H Q I h
 refine wpAny_Call_method_late hbase hfew hline rfl (thn (ho pins s σ H _ I h) fun v s1 ⟨x,H1,I1,r1,ty,q1⟩ => ?_)
 obtain ⟨h1,h2⟩:=tY I1 r1 ty
 refine ⟨T,id,pa,slot,hty,h1,h2,?_⟩
 have hA:=ha cpos pins s1 σ H1 _ I1 q1
 rw [hs] at hA ⊢
 refine Calls.callWith_builtin (by show (false || (backTo cpos (starEach es X.env)).any (·.1))=false; rw [hplain] <;> rfl) (Calls.evalArgs_plain ?_)
 exact thn hA fun us s2 ⟨vs,H2,I2,r2,q2⟩=>hm pins s2 σ H2 x vs v us Q I2 r1 r2 q2
end
open PySem PySem.Spec PyProof.Rows
def MtM (X:Cx) (id:String) (r:V->List V->Hp->VK->Prop):Prop :=
 ∀ (pins:List (Addr × Obj)) (s:Shared) (σ:St) (H:Hp) (x:V) (xs:List V) (v:Value) (us:List Value) (Q:VK),Inv X pins σ H s->RelV x v->Vals xs us->r x xs H Q →
  wpAny (model X.prog X.w) X.A (call (.builtin id) (v :: us)) (EP X pins σ Q) X.xe s
theorem Vals.one:∀ {x:V} {us:List Value},Vals [x] us->∃ u,us=[u]/\RelV x u
 | _,_,.cons r .nil=>⟨_,rfl,r⟩
theorem Vals.zero:∀ {us:List Value},Vals [] us->us=[]
 | _,.nil=>rfl
theorem Vals.dropLast {xs:List V} {us:List Value} (h:Vals xs us):Vals xs.dropLast us.dropLast:=by
 induction h with
 | nil=>exact .nil
 | cons r t ih =>
  cases t with
  | nil=>exact .nil
  | cons q t'=>exact .cons r ih
theorem Vals.eraseIdx:∀ {xs:List V} {us:List Value} (i:Nat),Vals xs us->Vals (xs.eraseIdx i) (us.eraseIdx i)
 | _,_,_,.nil => .nil
 | _,_,0,.cons _ t=>t
 | _,_,i + 1,.cons r t => .cons r (Vals.eraseIdx i t)
theorem Vals.rep {xs:List V} {us:List Value} (h:Vals xs us):∀ k:Nat,Vals (List.replicate k xs).flatten (List.replicate k us).flatten
 | 0 => .nil
 | k + 1=>by
  rw [List.replicate_succ,List.replicate_succ,List.flatten_cons,List.flatten_cons]
  exact Vals.append h (Vals.rep h k)
theorem pH {α : Type} (l:List α):l.eraseIdx (l.length - 1)=l.dropLast:=by
 induction l with
 | nil=>rfl
 | cons a r ih =>
  cases r with
  | nil=>rfl
  | cons b r =>
   have e:(a :: b :: r).length - 1=((b :: r).length - 1) + 1:=by
    have h1:(a :: b :: r).length=r.length + 2:=rfl
    have h2:(b :: r).length=r.length + 1:=rfl
    omega
   rw [e,List.eraseIdx_cons_succ,ih]
   all_goals rfl
theorem kS {α : Type}:∀ (l:List α) (i:Nat),(l.eraseIdx i).length<=l.length
 | [],_=>Nat.le_refl _
 | _ :: _,0=>Nat.le_succ _
 | _ :: r,i + 1=>Nat.succ_le_succ (kS r i)
theorem foldl_rep (its:List Value):∀ (k:Nat) (acc:List Value),
  List.foldl (fun x1 x2=>x1 ++ x2) acc.toArray (List.replicate k its.toArray)=(acc ++ (List.replicate k its).flatten).toArray
 | 0,acc=>by simp
 | k + 1,acc=>by
  have e:acc.toArray ++ its.toArray=(acc ++ its).toArray:=by simp
  have e2:(acc ++ its) ++ (List.replicate k its).flatten=acc ++ (List.replicate (k + 1) its).flatten:=by
   rw [List.replicate_succ,List.flatten_cons,List.append_assoc]
  rw [<- e2, <- foldl_rep its k (acc ++ its), <- e,List.replicate_succ,List.foldl_cons]
section
variable {X:Cx} {pins:List (Addr × Obj)} {σ:St} {H:Hp} {s:Shared} {l b:Addr} {xs ys zs:List V}
theorem Inv.t8 {its its':List Value} {n:Nat} {f:Array Value->Array Value} {t':Nat} (I:Inv X pins σ H s) (hH:H l=some (.lst xs))
  (e:s.heap.get? l=some { cls := .type "list",data := .seq its.toArray n }) (hf:f its.toArray=its'.toArray) (hv:Vals ys its') (hz:ys.length<=sizeLine) :
  Inv X pins σ (upd H l (.lst ys)) { s with heap:=s.heap.update l (Obj.mapSeq f),toks:=t' }:=by
 have q:=PySem.IsL.update e f
 rw [hf] at q
 refine I.write (x:=l) (e:=l) (by rw [hH]; exact trivial) (.inl rfl) (fun b' u hb hu=>(Heap.get?_update_other s.heap (Obj.mapSeq f) (Ne.symm hb)).trans hu) ⟨_,q⟩ ?_
 exact ⟨hz,its',_,hv,q⟩
theorem Inv.zv {its:List Value} {t':Nat} (I:Inv X pins σ H s) (hv:Vals ys its) (hz:ys.length<=sizeLine) :
  Inv X pins σ (upd H s.heap.objs.size (.lst ys)) { s with heap:=s.heap.push { cls := .type "list",data := .seq its.toArray },toks:=t' } :=
 I.laid (fun _ _ q=>Heap.get?_push_of_some _ q) (Nat.le_refl _) ⟨hz,its,0,hv,Heap.get?_push_size _ rfl⟩
theorem Inv.fresh (I:Inv X pins σ H s):H s.heap.objs.size=none:=I.hok.fresh (Nat.le_refl _)
theorem Inv.rG (I:Inv X pins σ H s) (hH:H l=some (.lst xs)):xs.length<=sizeLine/\∃ (its:List Value) (n:Nat),Vals xs its/\xs.length=its.length/\s.heap.get? l=some { cls := .type "list",data := .seq its.toArray n }:=by
 obtain ⟨z,its,n,r,e⟩:=I.hok l _ hH
 exact ⟨z,its,n,r,r.length,e⟩
theorem jB {n:Nat} (h:n<=sizeLine):Builtin.List.listTooLong n=false:=by
 unfold Builtin.List.listTooLong
 exact decide_eq_false (by omega)
end
section
variable {X:Cx}
def v8:V->List V->Hp->VK->Prop:=fun x vs H Q=>∃ l xs y,x = .ref l/\vs=[y]/\H l=some (.lst xs)/\xs.length < sizeLine/\Q .non (upd H l (.lst (xs ++ [y])))
theorem cU:MtM X "list.append" v8:=by
 intro pins s σ H x vs v us Q I rx rv h
 obtain ⟨l,xs,y,rfl,rfl,hH,hz,q⟩:=h
 cases rx
 obtain ⟨u,rfl,ru⟩:=rv.one
 obtain ⟨z,its,n,r,hl,e⟩:=I.rG hH
 refine call_meets F.slot_list_append ⟨_,e,rfl⟩ F.entry_list_append (F.args_list_append_2 _ _) (PySem.list_append l its.toArray n u (by rw [List.size_toArray]; omega)) ⟨e,?_⟩
 refine ⟨.non,_,I.t8 (its':=its ++ [u]) hH e (by simp) (r.append (.cons ru .nil)) ?_,rfl,q⟩
 rw [List.length_append,List.length_singleton]
 omega
def rPop:V->List V->Hp->VK->Prop:=fun x vs H Q=>∃ l xs y,x = .ref l/\vs=[]/\H l=some (.lst xs)/\xs[xs.length - 1]? = some y/\Q y (upd H l (.lst xs.dropLast))
theorem uc:MtM X "list.pop" rPop:=by
 intro pins s σ H x vs v us Q I rx rv h
 obtain ⟨l,xs,y,rfl,rfl,hH,hy,q⟩:=h
 cases rx
 have hus:=rv.zero
 subst hus
 obtain ⟨z,its,n,r,hl,e⟩:=I.rG hH
 obtain ⟨u,hu,ru⟩:=r.get hy
 have hy':its.toArray[its.toArray.size - 1]? = some u:=by
  show its.toArray[its.length - 1]? = some u
  rw [<- Array.getElem?_toList, <- hl]
  exact hu
 refine call_meets F.slot_list_pop ⟨_,e,rfl⟩ F.entry_list_pop (F.args_list_pop_1 _) (MeetsSeq.list_pop_last l its.toArray n u hy' (by rw [List.size_toArray]; omega)) ⟨e,?_⟩
 refine ⟨y,_,I.t8 (its':=its.dropLast) hH e ?_ r.dropLast ?_,ru,q⟩
 ·show its.toArray.eraseIdxIfInBounds (its.toArray.size - 1)=its.dropLast.toArray
  rw [List.size_toArray,List.eraseIdxIfInBounds_toArray,pH]
 ·rw [List.length_dropLast]
  omega
def yh:V->List V->Hp->VK->Prop:=fun x vs H Q=>∃ l xs i k y,x = .ref l/\vs=[.int i]/\H l=some (.lst xs) /\ -(2 ^ 63)<=i/\i < 2 ^ 63/\seqIndex? i xs.length=some k/\xs[k]? = some y/\Q y (upd H l (.lst (xs.eraseIdx k)))
theorem ud:MtM X "list.pop" yh:=by
 intro pins s σ H x vs v us Q I rx rv h
 obtain ⟨l,xs,i,k,y,rfl,rfl,hH,h1,h2,hk,hy,q⟩:=h
 cases rx
 obtain ⟨u,rfl,ru⟩:=rv.one
 obtain ⟨t,rfl⟩:=ru
 obtain ⟨z,its,n,r,hl,e⟩:=I.rG hH
 obtain ⟨w,hw,rw'⟩:=r.get hy
 refine call_meets F.slot_list_pop ⟨_,e,rfl⟩ F.entry_list_pop (F.args_list_pop_2 _ _)
  (MeetsSeq.list_pop_at l its.toArray n i t k w (fitsIndex_both h1 h2) (by rw [List.size_toArray, <- hl]; exact hk) (by rw [<- Array.getElem?_toList]; exact hw) (by rw [List.size_toArray]; omega)) ⟨e,?_⟩
 refine ⟨y,_,I.t8 (its':=its.eraseIdx k) hH e ?_ (r.eraseIdx k) ?_,rw',q⟩
 ·show its.toArray.eraseIdxIfInBounds k=(its.eraseIdx k).toArray
  rw [List.eraseIdxIfInBounds_toArray]
 ·have:=kS xs k
  omega
def rRep:R2:=fun x y H Q=>∃ l k xs,x = .ref l/\y = .int k/\H l=some (.lst xs) /\ -(2 ^ 63)<=k/\k < 2 ^ 63/\xs.length * k.toNat<=sizeLine ∧
 ∀ p,H p=none->Q (.ref p) (upd H p (.lst (List.replicate k.toNat xs).flatten))
theorem len_rep {α : Type} (xs:List α) (k:Nat):(List.replicate k xs).flatten.length=k * xs.length:=by
 induction k with
 | zero=>simp
 | succ k ih=>rw [List.replicate_succ,List.flatten_cons,List.length_append,ih,Nat.succ_mul,Nat.add_comm]
theorem yi:OpR X (binaryOp .Mult) rRep:=by
 intro pins s σ H x y v u Q I rx ry h
 obtain ⟨l,k,xs,rfl,rfl,hH,h1,h2,hz,q⟩:=h
 cases rx
 obtain ⟨t,rfl⟩:=ry
 obtain ⟨z,its,n,r,hl,e⟩:=I.rG hH
 have hlen:its.toArray.size * k.toNat<=sizeLine:=by rw [List.size_toArray, <- hl]; exact hz
 have hcap:¬ its.toArray.size * k.toNat > (2 ^ 63 - 1) / 8:=by
  have:(sizeLine:Nat)<=(2 ^ 63 - 1) / 8:=by decide
  omega
 have hfit:¬ (!Builtin.List.listFitsIndex k)=true:=by
  rw [fitsIndex_both h1 h2]
  exact Bool.false_ne_true
 have hlong:¬ Builtin.List.listTooLong (its.toArray.size * k.toNat)=true:=by
  rw [jB hlen]
  exact Bool.false_ne_true
 have hnew:List.foldl (fun x1 x2=>x1 ++ x2) #[] (List.replicate (if its.toArray.isEmpty=true then 0 else k.toNat) its.toArray)=(List.replicate k.toNat its).flatten.toArray:=by
  have f0:∀ m:Nat,List.foldl (fun x1 x2=>x1 ++ x2) #[] (List.replicate m its.toArray)=(List.replicate m its).flatten.toArray:=fun m=>by
   have:=foldl_rep its m []
   rw [List.nil_append] at this
   exact this
  rw [f0]
  cases its with
  | nil=>simp
  | cons a r'=>rw [if_neg (by simp)]
 refine wpAny_binaryOp_repeat_ref (T := "list") (U := "int") (by decide) ⟨_,e,rfl⟩ (fun s'=>typeIs_int s' k t) noFill_list_mul F.fills_int_mul F.slot_int_rmul repeat_list F.slot_int_index.lookup
  (call_meets F.slot_int_rmul (typeIs_int s k t) F.entry_int_rmul (F.args_int_rmul_2 _ _) (int___rmul___int_list k t l its.toArray n)
   ⟨e,rfl,⟨_,e,rfl⟩,call_meets F.slot_list_mul ⟨_,e,rfl⟩ F.entry_list_mul (F.args_list_mul_2 _ _) (AutoListH.list___mul___list_int_3 l its.toArray n k t hfit hcap hlong) ⟨e,?_⟩⟩)
 rw [hnew]
 exact ⟨.ref _,_,I.zv (t':=s.toks) (r.rep k.toNat) (by rw [len_rep,Nat.mul_comm]; exact hz),rfl,q _ I.fresh⟩
end
section
variable {prog:Program} {w:World} {A:Around} {E:Value->Shared->Prop} {s:Shared}
end
section
variable {X:Cx}
end
end L2
namespace Att
open PySem PySem.W PySem.Calls PyProof.Rows
theorem i8 {P:Params} {h:Heap}:∀ (ns:List Int) (vs:List Value),WellAll P h vs (ns.map WData.int)->IntsAre vs ns:=by
 intro ns
 induction ns with
 | nil =>
  intro vs w
  rw [List.map_nil] at w
  cases w
  exact .nil
 | cons n ns ih =>
  intro vs w
  rw [List.map_cons] at w
  cases w with
  | cons a b =>
   cases a
   exact .cons _ _ (ih _ b)
theorem rH {l:OpenLaw} {n:Nat} (hn:l.most=some n) {P:Params} {h:Heap} {args:List WData} {vals:List Value}
  (hpre:l.row.toRowW.claim.pre args=true) (hwl:WellAll P h vals args) :
  ∃ a vs ns,vals=[Value.ref a]/\args=[WData.list (ns.map WData.int)]/\h.get? a=some { cls := .type "list",data := .seq vs.toArray }/\IntsAre vs ns/\ns.length<=n:=by
 have hsh:WShape.hasAll [] args [.list .int]=true:=(pre_splitW hpre).1
 have hc:l.pre.holds [] { args:=args }=true:=(pre_splitW hpre).2
 obtain ⟨d,r,rfl,h1,h2⟩:=hasAllW_cons hsh
 obtain rfl:=hasAllW_nil h2
 obtain ⟨xs,rfl,h3⟩:=hasW_list h1
 obtain ⟨ns,rfl⟩:=items_int h3
 have hlen:ns.length<=n:=by
  unfold OpenLaw.pre at hc
  have h4:(WTm.not (.lt (.lit (.int (n:Int))) (.len (.arg 0)))).holds [] { args:=[.list (ns.map .int)] }=true:=by
   have h4:=(holds_andW hc).1
   rw [hn] at h4
   exact h4
  have h5:=condW_of h4 (w_not (w_lt w_lit (w_len_list (w_arg rfl))))
  rw [List.length_map] at h5
  refine Nat.le_of_not_lt fun q => ?_
  have q':(n:Int) < ((ns.length:Nat):Int):=by omega
  first
   | (rw [decide_eq_true q'] at h5; exact absurd h5 (by decide))
   | (simp at h5; omega)
 cases hwl with
 | cons w1 w2 =>
  cases w2
  cases w1 with
  | list ho hall=>exact ⟨_,_,ns,rfl,rfl,ho,i8 ns _ hall,hlen⟩
theorem rJ (l:OpenLaw) (args:List WData):l.row.toRowW.claim.post args (.bool true) args=true :=
 postW_of (r:=l.row.toRowW) (X:=(true == true))
  (show WShape.has [] (.bool true) .bool=true by first | rfl | decide | simp [WShape.has,WShape.arms,WShape.armsAll])
  (show (WTm.eq .res (.lit (.bool true))).value [] { args:=args,res:=some (.bool true),after:=args }=some (.bool (true == true)) from w_eq_bool (w_res rfl) w_lit) rfl
theorem nI {l:OpenLaw} {n:Nat} {q:Program} {loose:List Str} {XP:(Str->Option Value)->Heap->Prop} {YP:World->Heap->Prop} {d:DefRec}
  (hn:l.most=some n) (hdf:d.params.defaults=[])
  (call:∀ (w:World) (s₀ s₁:Shared) (mg mb:Str->Option Value) (fa:Addr) (o:Obj) (pm cd doc:Value) (a:Addr) (vs:List Value) (ns:List Int),
   Ground q loose [] XP w s₀ mg mb s₁.heap->YP w s₁.heap →
   s₁.heap.get? fa=some o->o.data = .func (docDef d.name d.params d.body d.scope pm cd doc)->s₁.heap.CodeRec cd d.name->mg d.name=some (.ref fa) →
   s₁.heap.get? a=some { cls := .type "list",data := .seq vs.toArray }->IntsAre vs ns->ns.length<=n->s₁.gens = #[] →
   codeAny (model l.prog w) callerA (.call (.ref fa) ⟨[.ref a],[]⟩) (fun r s'=>r = .ok (.ret (.bool true))/\OldK s₁.heap s'.heap/\s'.os=s₁.os/\AllBare s'.gens) s₁) :
  WalkO q loose XP YP l.row.toRowW d [] (fun f vs=>PySem.call f vs):=by
 intro w s₀ s₁ mg mb G Y fa o pm cd doc dV kV ho hd hcd hD hmg hg args vals as hpre hlay hrd hwl hlo
 obtain rfl:dV = .none:=Dflts.none hD hdf
 obtain rfl:kV = .none:=Dflts.noKw hD
 obtain ⟨a,vs,ns,rfl,rfl,hobj,hints,hlen⟩:=rH hn hpre hwl
 refine enter_call (codeAny_mono (call w s₀ s₁ mg mb fa o pm cd doc a vs ns G Y ho (fd_plain hd) hcd hmg hobj hints hlen hg) fun r s' hq => ?_)
 obtain ⟨rfl,h2,h3,h4⟩:=hq
 exact ⟨.inl ⟨.bool true,.bool true,[],rfl,fun _=>rfl,.bool true,rJ l _,fun _=>⟨List.Pairwise.nil,fun _ hm=>(nomatch hm)⟩⟩,h2,h3,h4⟩
section
variable {prog:Program} {w:World} {A:Around} {E:Value->Shared->Prop} {s:Shared} {K:Frag}
def ledger (h:Heap) (L d:Addr):List (Addr × Obj):=(List.range h.objs.size).filterMap fun a=>if a=L\/a=d then none else (h.get? a).map fun o=>(a,o)
end
end Att
namespace L2
open PySem PySem.Spec PyProof.Rows
theorem iF:∀ {vs:List Value} {ns:List Int},IntsAre vs ns->Vals (ns.map V.int) vs
 | _,_,.nil => .nil
 | _,_,.cons n t h => .cons ⟨t,rfl⟩ (iF h)
def yj (H:Hp):Prop:=∀ b,H b=none\/∃ o xs,H b=some (.frz o (.lst xs))
theorem ue {P:Program} {w:World} {K:PySem.W.Frag} {mg mb:Str->Option Value} {CX:CXT} {k:Nat} {fa a:Addr} {fd:FuncData} {x:Str} {sp:Sp} {s₁:Shared} {vs:List Value} {ns:List Int}
  (KX:K.In s₁.heap) (hns:s₁.heap.Ns mainGlobals mg) (hb:s₁.heap.Ns builtinsNs mb) (hbb:∀ x:Str,x ≠ "__name__" -> mb x=bootBuiltins x) (hlim:s₁.heap.NoLimit) (hg:s₁.gens = #[])
  (ha:s₁.heap.get? a=some { cls := .type "list",data := .seq vs.toArray }) (hi:IntsAre vs ns) (hl:ns.length<=sizeLine) (hr:cA k callerA)
  (F:∀ base:Heap,K.In base->base.Ns mainGlobals mg->bE P w K mg base CX k fa fd [x] sp) (hbind:∀ (s:Shared) (u:Value),BindsTo s fd ⟨[u],[]⟩ [(x,u)])
  (hsp:∀ H:Hp,yj H->SqL K H a (ns.map V.int)->sp [.ref a] H (fun v _=>v = .bl true) fun _ _ _=>False)
  (hCX:∀ H e s',CX [] H s₁ (fun _ _ _=>False) e s'->False) :
  codeAny (model P w) callerA (.call (.ref fa) ⟨[.ref a],[]⟩) (fun r s'=>r = .ok (.ret (.bool true))/\OldK s₁.heap s'.heap/\s'.os=s₁.os/\AllBare s'.gens) s₁:=by
 have rv:=iF hi
 have lenV:=hi.length
 have core:∀ H:Hp,yj H->SqL K H a (ns.map V.int)->HOk P w H s₁.heap->(∀ b,H b ≠ none->b=a)->(H a ≠ none->K.lookup a=none) →
   codeAny (model P w) callerA (.call (.ref fa) ⟨[.ref a],[]⟩) (fun r s'=>r = .ok (.ret (.bool true))/\OldK s₁.heap s'.heap/\s'.os=s₁.os/\AllBare s'.gens) s₁:=by
  intro H hO hS hok hA hK
  have base_of:∀ {b:Addr} {o:Obj},s₁.heap.get? b=some o->H b=none->(mq s₁.heap H).get? b=some o:=fun e n=>tJ e n
  have noA:∀ {b:Addr} {o:Obj} {es:Array DictEntry} {ep:Nat},s₁.heap.get? b=some o->o.data = .dict es ep->H b=none:=fun {b o es ep} e d=>by
   cases q:H b with
   | none=>rfl
   | some u =>
    have e':b=a:=hA b (by rw [q]; simp)
    subst e'
    rw [ha] at e; cases e
    have d':Data.seq vs.toArray _=Data.dict es ep:=d
    cases d'
  have nsK:∀ {b:Addr} {m:Str->Option Value},s₁.heap.Ns b m->(mq s₁.heap H).Ns b m:=fun {b m} ⟨o,es,ep,e,d,r⟩=>⟨o,es,ep,base_of e (noA e d),d,r⟩
  have hKb:K.In (mq s₁.heap H):=fun b o e=>base_of (KX b o e) (by
   cases q:H b with
   | none=>rfl
   | some u =>
    have e':b=a:=hA b (by rw [q]; simp)
    subst e'
    rw [hK (by rw [q]; simp)] at e; cases e)
  have hM:Mod K mg (mq s₁.heap H):=⟨hKb,nsK hns,⟨mb,nsK hb,hbb⟩,let ⟨mc,h1,h2⟩:=hlim; ⟨mc,nsK h1,h2⟩⟩
  have e0:vX P w K mg (mq s₁.heap H) callerA [] s₁ H:=⟨rfl,hM,fun b o e=>vR e,Nat.le_of_eq (rq _ _),trivial,fun b hb=>absurd (show b ∈ ([]:List Addr) from hb) (by simp),hok,.of_eq hg⟩
  refine codeAny_mono ((F _ hKb (nsK hns)).run callerA [] s₁ H ⟨[.ref a],[]⟩ [.ref a] [.ref a] _ _ hr e0 (hbind s₁ (.ref a)) (.cons rfl .nil) (hsp H hO hS)) fun r s' h => ?_
  cases r with
  | error e=>exact (hCX H e s' h).elim
  | ok fl =>
   cases fl with
   | next=>exact False.elim h
   | brk=>exact False.elim h
   | cont=>exact False.elim h
   | ret u =>
    obtain ⟨v,H',os,bare,un,hok',r',q⟩:=h
    have q':v = .bl true:=q
    subst q'
    obtain rfl:u=Value.bool true:=r'
    refine ⟨rfl,OldK.of_keep fun b o e => ?_,os,bare⟩
    cases q:H b with
    | none=>exact un.keep b o e q (by intro z; exact absurd (show b ∈ ([]:List Addr) from z) (by simp)) (by simp)
    | some u =>
     rcases hO b with z | ⟨ob,xs,z⟩
     ·rw [q] at z; cases z
     ·have z2:=un.frzs b ob _ z
      obtain ⟨e1,_⟩:=hok b _ z
      obtain ⟨e2,_⟩:=hok' b _ z2
      rw [e] at e1; cases e1
      exact e2
 cases hk:K.lookup a with
 | some o =>
  have e:=KX a o hk
  rw [ha] at e
  cases e
  refine core (fun _=>none) (fun _ => .inl rfl) (.inr ⟨_,vs.toArray,_,hk,rfl,rfl,rfl,by rw [List.size_toArray,lenV]; exact hl,by simpa using rv⟩) (fun b u z=>by have z':(none:Option HO)=some u:=z; cases z') (fun b z=>absurd rfl z) fun z=>absurd rfl z
 | none =>
  refine core (fun b=>if b=a then some (.frz { cls := .type "list",data := .seq vs.toArray } (.lst (ns.map V.int))) else none) (fun b => ?_) (.inl (.inr ⟨{ cls := .type "list",data := .seq vs.toArray },if_pos rfl⟩)) (fun b u z => ?_) (fun b z => ?_) fun _=>hk
  ·by_cases hb:b=a
   ·exact .inr ⟨_,_,if_pos hb⟩
   ·exact .inl (if_neg hb)
  ·by_cases hb:b=a
   ·have z':=(if_pos hb).symm.trans z
    cases z'
    subst hb
    exact ⟨ha,by rw [List.length_map]; exact hl,vs,_,rv,ha⟩
   ·have z':=(if_neg hb).symm.trans z
    cases z'
  ·by_cases hb:b=a
   ·exact hb
   ·exact absurd (if_neg hb) z
open PySem PySem.Spec PyProof.Rows
theorem v9 {l:PySem.W.OpenLaw} {n k:Nat} {q:Program} {loose:List Str} {XP:(Str->Option Value)->Heap->Prop} {YP:World->Heap->Prop} {d:DefRec} {K:Params->PySem.W.Frag} {CX:World->CXT} {sp:World->Sp} {x:Str}
  (hn:l.most=some n) (hn2:n<=sizeLine) (hdf:d.params.defaults=[]) (hr:cA k callerA)
  (hY:∀ (w:World) (h:Heap),YP w h->(K w.params).In h)
  (F:∀ (w:World) (mg:Str->Option Value) (fa:Addr) (h:Heap),(K w.params).In h->h.Ns mainGlobals mg->mg d.name=some (.ref fa) →
   ∃ fd:FuncData,(∀ (s:Shared) (u:Value),BindsTo s fd ⟨[u],[]⟩ [(x,u)]) ∧
    ∀ base:Heap,(K w.params).In base->base.Ns mainGlobals mg->bE l.prog w (K w.params) mg base (CX w) k fa fd [x] (sp w))
  (hsp:∀ (w:World) (H:Hp) (a:Addr) (ns:List Int),ns.length<=n->yj H->SqL (K w.params) H a (ns.map V.int)->sp w [.ref a] H (fun v _=>v = .bl true) fun _ _ _=>False)
  (hCX:∀ (w:World) (H:Hp) (s:Shared) (e:Value) (s':Shared),CX w [] H s (fun _ _ _=>False) e s'->False) :
  PySem.W.WalkO q loose XP YP l.row.toRowW d [] (fun f vs=>PySem.call f vs):=by
 refine Att.nI hn hdf fun w s₀ s₁ mg mb fa o pm cd doc a vs ns G Y ho hd hcd hmg hobj hints hlen hg => ?_
 have KX:=hY w _ Y
 obtain ⟨fd,hb,hF⟩:=F w mg fa _ KX G.T.g hmg
 exact ue KX G.T.g G.T.b G.T.builtins G.T.nolimit hg hobj hints (Nat.le_trans hlen hn2) hr hF hb (fun H hO hS=>hsp w H a ns hlen hO hS) fun H e s'=>hCX w H s₁ e s'
open PySem PySem.Spec PyProof.Rows
def aI (s:Stmt):Arguments:=match s with
 | .FunctionDef _ a _ _ _ _ _ _ _ _=>a
 | _=>{ posonlyargs:=[],args:=[],vararg:=none,kwonlyargs:=[],kw_defaults:=[],kwarg:=none,defaults:=[] }
def aD (s:Stmt):List Stmt:=match s with
 | .FunctionDef _ _ b _ _ _ _ _ _ _=>b
 | _=>[]
def ak (s:Stmt):Scope:=match s with
 | .FunctionDef _ _ _ _ _ _ sc _ _ _=>sc
 | _=>{ kind := .function,names:=[],isGenerator:=false,isCoroutine:=false }
abbrev CX0:CXT:=fun _ _ _ _ _ _=>False
abbrev E0:XK:=fun _ _ _=>False
theorem zw {X:Cx}:Passes CX0 X E0:=fun _ _ _ _ _ _ _ h=>h.elim
structure Fun (K:PySem.W.Frag) (x qual:Str) (st:Stmt) (f:Addr) (fd:FuncData):Prop where
 ex:∃ (oc:Value) (od:Option Addr) (kV doc pm:Value) (an:Option Addr) (cdv ct:Value) (osl:Array (Option Value)),
  fd=PySem.W.fnOf x qual (aI st) (aD st) (ak st) .none kV doc pm an cdv ct/\K.lookup f=some ⟨oc,od,.func fd,osl⟩/\PySem.W.codeIn K cdv qual=true
 kp:PySem.W.keepIn K (.ref f)=true
section
variable {P:Program} {w:World} {K:PySem.W.Frag} {mg:Str->Option Value} {base:Heap}
theorem Fun.ok {x qual:Str} {st:Stmt} {f:Addr} {fd:FuncData} {N ps:List Str} {k:Nat} {sp:Sp} (F:Fun K x qual st f fd) (S:aK N ps (ak st)) (len:∀ vs H Q E,sp vs H Q E->vs.length=ps.length)
  (hbody:∀ (cdv:Value) (A:Around) (outer:List Env) (s:Shared) (H:Hp) (vs:List V) (Q:VK) (E:XK),cA k (A.deeper (envOfC qual (ak st) s.heap.objs.size f cdv))->sp vs H Q E →
   ∃ t,PSs (kr CX0 P w K mg base N qual (ak st) f cdv A outer s H E).nox (aD st) t/\t { nx:=fun _ H'=>Q .non H',rt:=Q } (start N vs) H):bE P w K mg base CX0 (k + 1) f fd ps sp:=by
 obtain ⟨oc,od,kV,doc,pm,an,cdv,ct,osl,rfl,lk,hcd⟩:=F.ex
 refine zp lk hcd S len fun A outer s H vs Q E hr hsp => ?_
 obtain ⟨t,h,q⟩:=hbody cdv A outer s H vs Q E hr hsp
 exact ⟨t,h.nox,q⟩
theorem Fun.binds {x qual:Str} {st:Stmt} {f:Addr} {fd:FuncData} {ps:List Str} (F:Fun K x qual st f fd)
  (h:∀ (kV doc pm:Value) (an:Option Addr) (cdv ct:Value) (us:List Value),us.length=ps.length->bindArgs (PySem.W.fnOf x qual (aI st) (aD st) (ak st) .none kV doc pm an cdv ct) ⟨us,[]⟩=pure (ps.zip us)):Binds K fd ps []:=by
 obtain ⟨oc,od,kV,doc,pm,an,cdv,ct,osl,rfl,lk,hcd⟩:=F.ex
 exact .all (h kV doc pm an cdv ct)
theorem ba {x qual:Str} {st:Stmt} {f:Addr} {oc:Value} {od an:Option Addr} {osl:Array (Option Value)} {kV doc pm cdv ct:Value} (l:K.lookup f=some ⟨oc,od,.func (PySem.W.fnOf x qual (aI st) (aD st) (ak st) .none kV doc pm an cdv ct),osl⟩)
  (c:PySem.W.codeIn K cdv qual=true) (k:PySem.W.keepIn K (.ref f)=true):Fun K x qual st f (PySem.W.fnOf x qual (aI st) (aD st) (ak st) .none kV doc pm an cdv ct):=⟨⟨oc,od,kV,doc,pm,an,cdv,ct,osl,rfl,l,c⟩,k⟩
end
theorem nJ {A:Around} {k:Nat} (hr:cA k A):A.units + 1 < cLine:=Nat.lt_of_le_of_lt (Nat.add_le_add_left (by decide:1<=64) _) hr.units
theorem bh {n:Nat} (h:n<=1000):n < sizeLine:=Nat.lt_of_le_of_lt h (by decide)
section
variable {X:Cx}
theorem pv (i:Nat) {x:Str} {pos:Pos} (hN:X.N[i]? = some x:=by rfl) (hv:Vis X.env.scope x:=by first | exact Or.inl rfl | exact Or.inr (Or.inl rfl) | exact Or.inr (Or.inr rfl)) (hd:(x == ("__debug__" : Str))=false:=by decide)
  (hcd:(x == ("__classdict__" : Str))=false:=by decide):PE X (.Name x pos) (yT i):=xT hN hv hd hcd
end
theorem cY {A B:Prop} (h:B):if false=true then A else B:=by
 rw [if_neg Bool.false_ne_true]
 exact h
theorem bT {A B:Prop} (h:A):if true=true then A else B:=by
 rw [if_pos rfl]
 exact h
theorem bC {c A B:Prop} [Decidable c] (h1:c->A) (h2:¬ c->B):if c then A else B:=by
 by_cases h:c
 ·rw [if_pos h]
  exact h1 h
 ·rw [if_neg h]
  exact h2 h
theorem zx {c A B:Prop} [Decidable c] (hc:c) (h:B):if (!decide c)=true then A else B:=by
 rw [decide_eq_true hc]
 exact cY h
def aL (H H':Hp):Prop:=∀ b o,H b=some o->H' b=some o
theorem aL.refl (H:Hp):aL H H:=fun _ _ h=>h
theorem aL.trans {H H1 H2:Hp} (a:aL H H1) (b:aL H1 H2):aL H H2:=fun c o h=>b c o (a c o h)
theorem aL.free {H H':Hp} (e:aL H H') {l:Addr} (h:H' l=Option.none):H l=Option.none:=by
 cases q:H l with
 | none=>rfl
 | some o =>
  rw [e l o q] at h
  cases h
theorem aL.seq {K:PySem.W.Frag} {H H':Hp} {a:Addr} {xs:List V} (e:aL H H') (h:SqL K H a xs):SqL K H' a xs:=by
 rcases h with (h | ⟨o,h⟩) | h
 ·exact .inl (.inl (e _ _ h))
 ·exact .inl (.inr ⟨o,e _ _ h⟩)
 ·exact .inr h
end L2
set_option maxHeartbeats 4000000
namespace L2
open PySem PySem.Spec PyProof.Rows
def nK (on:List (Str × NameKind)) (N:List Str) (sc:Scope) (N':List Str) (ix:List (Option Nat)):Bool :=
 decide (sc.kind = .function) &&
 sc.names.all (fun y=>match y.2 with
  | .local=>decide (sc.names.lookup y.1=some .local)
  | .cell=>false
  | .free=>decide (on.lookup y.1=some .cell) || decide (on.lookup y.1=some .free)
  | _=>true) &&
 decide (ix.length=N'.length) &&
 (ix.zip N').all (fun p=>match p.1 with
  | none=>true
  | some j=>decide (N[j]? = some p.2) && decide (sc.names.lookup p.2=some .free))
theorem iT {ns:List (Str × NameKind)} {y:Str} {k:NameKind} (h:ns.lookup y=some k):(y,k) ∈ ns:=PySem.mem_of_lookup h
structure jC (on:List (Str × NameKind)) (N:List Str) (sc:Scope) (N':List Str) (ix:List (Option Nat)):Prop where
 kind:sc.kind = .function
 locs:∀ y ∈ sc.names,y.2 = .local->sc.names.lookup y.1=some .local
 nocell:∀ y ∈ sc.names,y.2 ≠ .cell
 frees:∀ y ∈ sc.names,y.2 = .free->on.lookup y.1=some .cell\/on.lookup y.1=some .free
 len:ix.length=N'.length
 slot:∀ (i j:Nat) (y:Str),ix[i]? = some (some j)->N'[i]? = some y->N[j]? = some y/\sc.names.lookup y=some .free
theorem jC.of {on:List (Str × NameKind)} {N:List Str} {sc:Scope} {N':List Str} {ix:List (Option Nat)} (h:nK on N sc N' ix=true):jC on N sc N' ix:=by
 unfold nK at h
 rw [Bool.and_eq_true,Bool.and_eq_true,Bool.and_eq_true] at h
 obtain ⟨⟨⟨h1,h2⟩,h3⟩,h4⟩:=h
 rw [List.all_eq_true] at h2 h4
 refine ⟨of_decide_eq_true h1,fun y hy e => ?_,fun y hy e => ?_,fun y hy e => ?_,of_decide_eq_true h3,fun i j y e1 e2 => ?_⟩
 ·have q:=h2 y hy
  rw [e] at q
  exact of_decide_eq_true q
 ·have q:=h2 y hy
  rw [e] at q
  cases q
 ·have q:=h2 y hy
  rw [e] at q
  exact ((Bool.or_eq_true _ _).mp q).imp of_decide_eq_true of_decide_eq_true
 ·have q:=h4 (some j,y) (List.mem_of_getElem? (i:=i) (by rw [List.getElem?_zip_eq_some]; exact ⟨e1,e2⟩))
  dsimp only at q
  rw [Bool.and_eq_true] at q
  exact ⟨of_decide_eq_true q.1,of_decide_eq_true q.2⟩
theorem iU {α β : Type} (f : α -> β -> β) (b : α -> β -> Sem (ForInStep β)):∀ (l:List α) (c : β),(∀ x ∈ l,∀ d,b x d=pure (.yield (f x d)))->forIn l c b=pure (l.foldl (fun d x=>f x d) c)
 | [],c,_=>rfl
 | x :: l,c,h=>by
  rw [List.forIn_cons,h x List.mem_cons_self,pure_bind]
  exact iU f b l (f x c) fun y hy=>h y (List.mem_cons_of_mem _ hy)
def aP (env:Env) (l:List (Str × NameKind)) (c:List (Str × Addr)):List (Str × Addr) :=
 l.foldl (fun d y=>if y.2 = .free then (y.1,(env.cells.lookup y.1).getD 0) :: d else d) c
theorem pI {sc:Scope} {env:Env} (h:∀ y ∈ sc.names,y.2 = .free->∃ c,env.cells.lookup y.1=some c):closureFor sc env=pure (aP env sc.names []):=by
 simp only [closureFor]
 unfold aP
 rw [iU (fun y d=>if y.2 = .free then (y.1,(env.cells.lookup y.1).getD 0) :: d else d)]
 ·rfl
 ·rintro ⟨n,k⟩ hy d
  by_cases hk:k = .free
  ·subst hk
   obtain ⟨c,e⟩:=h _ hy rfl
   have e':env.cells.lookup n=some c:=e
   simp only [beq_self_eq_true,if_true,cellOf,e',Option.getD_some]
   rfl
  ·have hb:(k == NameKind.free)=false:=by simpa using hk
   simp only [hb,Bool.false_eq_true,if_false,hk]
theorem cN {env:Env} {y:Str} {c:Addr}:∀ (l:List (Str × NameKind)) (d:List (Str × Addr)),(∀ z ∈ l,z.2 = .free->∃ c,env.cells.lookup z.1=some c)->(aP env l d).lookup y=some c →
  d.lookup y=some c\/env.cells.lookup y=some c
 | [],d,_,h => .inl h
 | (n,k) :: l,d,hf,h=>by
  have h':(aP env l (if k = .free then (n,(env.cells.lookup n).getD 0) :: d else d)).lookup y=some c:=h
  have ih:=cN l _ (fun z hz=>hf z (List.mem_cons_of_mem _ hz)) h'
  by_cases hk:k = .free
  ·subst hk
   rw [if_pos rfl] at ih
   rcases ih with q | q
   ·rw [List.lookup_cons] at q
    cases hx:(y == n) with
    | true =>
     rw [hx] at q
     obtain ⟨c',e⟩:=hf (n,.free) List.mem_cons_self rfl
     have e':env.cells.lookup n=some c':=e
     have q':some ((env.cells.lookup n).getD 0)=some c:=q
     rw [e'] at q'
     have en:y=n:=eq_of_beq hx
     rw [en,e']
     exact .inr q'
    | false =>
     rw [hx] at q
     exact .inl q
   ·exact .inr q
  ·rw [if_neg hk] at ih
   exact ih
theorem d8 {env:Env} {y:Str}:∀ (l:List (Str × NameKind)) (d:List (Str × Addr)),((y,NameKind.free) ∈ l\/∃ c,d.lookup y=some c)->∃ c,(aP env l d).lookup y=some c
 | [],d,h=>by
  rcases h with h | h
  ·cases h
  ·exact h
 | (n,k) :: l,d,h=>by
  show ∃ c,(aP env l (if k = .free then (n,(env.cells.lookup n).getD 0) :: d else d)).lookup y=some c
  refine d8 l _ ?_
  have old:(∃ c,d.lookup y=some c)->∃ c,(if k = .free then (n,(env.cells.lookup n).getD 0) :: d else d).lookup y=some c:=fun ⟨c,e⟩=>by
   by_cases hk:k = .free
   ·rw [if_pos hk,List.lookup_cons]
    cases hx:(y == n) with
    | true=>exact ⟨_,rfl⟩
    | false=>exact ⟨c,e⟩
   ·rw [if_neg hk]; exact ⟨c,e⟩
  rcases h with h | h
  ·rcases List.mem_cons.mp h with q | q
   ·cases q
    rw [if_pos rfl,List.lookup_cons,beq_self_eq_true]
    exact .inr ⟨_,rfl⟩
   ·exact .inl q
  ·exact .inr (old h)
theorem jD {c:Str->NameKind->Bool} {y:Str}:∀ l:List (Str × NameKind),(l.map fun z=>if c z.1 z.2=true then (z.1,NameKind.cell) else (z.1,z.2)).lookup y=(l.lookup y).map fun k=>if c y k=true then NameKind.cell else k
 | []=>rfl
 | (n,k) :: l=>by
  have ih:=jD (c:=c) (y:=y) l
  rw [List.map_cons]
  have e:(if c n k=true then (n,NameKind.cell) else (n,k))=(n,if c n k=true then NameKind.cell else k):=by split <;> rfl
  show List.lookup y ((if c n k=true then (n,NameKind.cell) else (n,k)) :: _)=_
  rw [e,List.lookup_cons,List.lookup_cons]
  cases hx:(y == n) with
  | true =>
   have en:y=n:=eq_of_beq hx
   subst en
   rfl
  | false=>exact ih
def blk (X:Cx) (sc:Scope) (cl:List (Str × Addr)) (C:Addr) (N':List Str) (s:Shared) (H:Hp) (fp:List Addr):Cx :=
 { X with N:=N',s₀:=s,H₀:=H,env:=compEnvC sc cl C X.env,outer:=X.stack,ex:=fp,fn:=fun _=>false,pn:=[],xe:=fun _ _=>False }
def PF (X:Cx) (ifs:List Expr) (t:TT):Prop :=
  ∀ (pins:List (Addr × Obj)) (s:Shared) (σ:St) (H:Hp) (Q:Bool->Hp->Prop),Inv X pins σ H s->t σ H Q →
    wpAny (model X.prog X.w) X.A (forIn ifs true fun c r=>if r=true then do let ok ← isTrue c X.env (eval c X.env); pure (ForInStep.yield ok) else pure (ForInStep.yield r)) (TP X pins σ Q) X.xe s
theorem dz {X:Cx}:PF X [] (fun _ H Q=>Q true H):=fun _ _ _ H _ I h=>wpAny_tests_nil ⟨H,I,h⟩
theorem iG {X:Cx} {c:Expr} {t:TT} (h:PT X c t):PF X [c] t:=fun pins s σ H Q I q=>wpAny_tests_one (h pins s σ H Q I q)
def inner (ix:List (Option Nat)) (σ:St):St:=ix.map fun o=>match o with | none=>none | some j=>(σ[j]?).join
def iV (J:It) (g:TG) (tc:TT) (te:TE) (τ : St) (Q:VK) (H1:Hp):Prop:=∃ W:Nat->Nat->St->List V->Hp->Prop,(∃ m,W 0 m τ [] H1)/\∀ i m τ ys H,W i m τ ys H →
 (J.stop i H/\ys.length<=sizeLine/\∀ l,H l=none->Q (.ref l) (upd H l (.lst ys))) ∨
 (J.go i H/\∀ x H',J.yld i H x H'->g x τ H' fun τ2 H2=>tc τ2 H2 fun b H3=>if b=true then te τ2 H3 fun y H4=>ys.length < sizeLine/\∃ m',m' < m/\W (i + 1) m' τ2 (ys ++ [y]) H4 else ∃ m',m' < m/\W (i + 1) m' τ2 ys H3)
def uf (ix:List (Option Nat)) (wi:TI) (g:TG) (tc:TT) (te:TE):TE:=fun σ H Q=>wi σ H fun J H1=>iV J g tc te (inner ix σ) Q H1
section
variable {X:Cx} {sc:Scope} {N':List Str} {ix:List (Option Nat)} {pins:List (Addr × Obj)} {σ:St} {H:Hp} {s:Shared}
theorem yk (I:Inv X pins σ H s) (K:jC X.env.scope.names X.N sc N' ix) {C:Addr} {fp:List Addr} (hC:s.heap.objs.size<=C) (f:∀ b ∈ fp,iz X pins H b) (fl:∀ b ∈ fp,b < s.heap.objs.size) :
  (blk X sc (aP X.env sc.names []) C N' s H fp).Ok:=by
 have hcl:∀ y ∈ sc.names,y.2 = .free->∃ c,X.env.cells.lookup y.1=some c:=fun y hy e=>I.ok.has y.1 (K.frees y hy e)
 have up:∀ y c,(aP X.env sc.names []).lookup y=some c->X.env.cells.lookup y=some c:=fun y c e=>by
  rcases cN sc.names [] hcl e with q | q
  ·cases q
  ·exact q
 have nfs:∀ b ∈ fp,b ∉ frs X.stack:=fun b hb z=>by
  rcases List.mem_cons.mp (I.mw b z) with q | q
  ·exact (f b hb).2.1 q
  ·exact (f b hb).2.2.1 q
 refine ⟨I.ok.mod,K.kind,I.ok.glob,I.ok.blt,hC,fun y z c h1 h2=>I.ok.inj y z c (up _ _ h1) (up _ _ h2),fun y hy => ?_,(fun y c h=>nomatch h),I.ok.hd,I.ok.frames,.inl rfl,fun b hb => ?_,fun b o e=>I.bs b o e,Nat.le_trans I.ok.bsz I.sz,fun b o e hb => ?_,nfs,I.stack,I.qo⟩
 ·have hy':(relabel sc X.env).names.lookup y=some .cell\/(relabel sc X.env).names.lookup y=some .free:=hy
  have em:=jD (c:=fun n k=>k == .free && X.env.scope.kind == .function && X.env.kindOf n == some .cell) (y:=y) sc.names
  have em':(relabel sc X.env).names.lookup y=_:=em
  rw [em'] at hy'
  cases hq:sc.names.lookup y with
  | none=>rw [hq] at hy'; rcases hy' with q | q <;> cases q
  | some k =>
   have km:=iT hq
   have hk:k = .free:=by
    rw [hq] at hy'
    simp only [Option.map_some,Option.some.injEq] at hy'
    by_cases hc:(k == .free && X.env.scope.kind == .function && X.env.kindOf y == some .cell)=true
    ·rw [Bool.and_eq_true,Bool.and_eq_true] at hc
     exact by simpa using hc.1.1
    ·rw [if_neg hc] at hy'
     rcases hy' with q | q
     ·exact absurd q (K.nocell _ km)
     ·exact q
   subst hk
   exact d8 sc.names [] (.inl km)
 ·exact ⟨Nat.ne_of_lt (Nat.lt_of_lt_of_le (fl b hb) hC),fun y c e=>(f b hb).2.2.2.2.1 y c (up y c e)⟩
 ·rcases (f b hb).2.2.2.1 with q | q
  ·exact I.ok.noex b o e q
  ·exact absurd (Nat.lt_of_lt_of_le (Heap.lt_size e) (Nat.le_trans I.ok.bsz q)) (Nat.lt_irrefl _)
theorem wa (I:Inv X pins σ H s) (K:jC X.env.scope.names X.N sc N' ix) {C:Addr} {fp:List Addr} (hC:s.heap.objs.size<=C) (f:∀ b ∈ fp,iz X pins H b) (fl:∀ b ∈ fp,b < s.heap.objs.size)
  {h1:Heap} {t:Nat} {m:Str->Option Value} (k:∀ b o,s.heap.get? b=some o->h1.get? b=some o) (ns:h1.Ns C m) :
  Inv (blk X sc (aP X.env sc.names []) C N' s H fp) [] (inner ix σ) H { s with heap:=h1,toks:=t }:=by
 have hcl:∀ y ∈ sc.names,y.2 = .free->∃ c,X.env.cells.lookup y.1=some c:=fun y hy e=>I.ok.has y.1 (K.frees y hy e)
 have up:∀ y c,(aP X.env sc.names []).lookup y=some c->X.env.cells.lookup y=some c:=fun y c e=>by
  rcases cN sc.names [] hcl e with q | q
  ·cases q
  ·exact q
 refine ⟨yk I K hC f fl,rfl,I.bare,Un.kept k,⟨m,ns,fun i y v e1 e2 e3 => ?_⟩,fun y c e => ?_,I.hok.fresh hC,fun y c e=>I.freeC y c (up y c e),(fun p hp=>nomatch hp),I.hok.kept k,?_⟩
 ·have e2':(ix.map fun o=>match o with | none=>none | some j=>(σ[j]?).join)[i]? = some (some v):=e2
  rw [List.getElem?_map] at e2'
  cases hi:ix[i]? with
  | none=>rw [hi] at e2'; cases e2'
  | some o =>
   cases o with
   | none=>rw [hi] at e2'; cases e2'
   | some j =>
    rw [hi] at e2'
    have e4:(σ[j]?).join=some v:=Option.some.inj e2'
    have e5:σ[j]? = some (some v):=by
     cases hj:σ[j]? with
     | none=>rw [hj] at e4; cases e4
     | some z=>rw [hj] at e4; rw [show z=some v from e4]
    obtain ⟨n1,n2⟩:=K.slot i j y hi e1
    have mem:=iT n2
    have kc:X.env.kindOf y=some .cell\/X.env.kindOf y=some .free:=K.frees _ mem rfl
    obtain ⟨m',_,hl⟩:=I.loc
    obtain ⟨u,r,l⟩:=hl j y v n1 e5 (.inr kc)
    refine ⟨u,r,?_⟩
    rcases l with ⟨q,_⟩ | ⟨_,c,q,z⟩
    ·rcases kc with kc | kc <;> (rw [kc] at q; cases q)
    ·obtain ⟨c',hc'⟩:=d8 (env:=X.env) (y:=y) sc.names [] (.inl mem)
     have:=up y c' hc'
     rw [q] at this
     cases this
     refine .inr ⟨?_,c,hc',z.keeps k⟩
     have em:=jD (c:=fun n k=>k == .free && X.env.scope.kind == .function && X.env.kindOf n == some .cell) (y:=y) sc.names
     have em':(relabel sc X.env).names.lookup y=_:=em
     rcases kc with kc | kc
     ·left
      show (relabel sc X.env).names.lookup y=some .cell
      rw [em',n2]
      simp only [Option.map_some,kc,I.ok.kind]
      rfl
     ·right
      show (relabel sc X.env).names.lookup y=some .free
      rw [em',n2]
      simp only [Option.map_some,kc,I.ok.kind]
      rfl
 ·obtain ⟨v,z⟩:=I.cell y c (up y c e)
  exact ⟨v,z.keeps k⟩
 ·show (ix.map _).length=N'.length
  rw [List.length_map]
  exact K.len
end
open PySem PySem.Spec PyProof.Rows
theorem pJ {prog:Program} {w:World} {A:Around} {R:Result->Shared->Prop} {s:Shared} {elt target iter:Expr} {ifs:List Expr} {sc:Scope} {pos:Pos} {it acc:Value} {env:Env} (J:Nat->Shared->Prop)
    (turn:∀ n s,J n s->wpAny (model prog w) A (pyNext it) (fun r s1=>match r with
      | none=>R (.ok .next) s1
      | some v=>wpAny (model prog w) A (letOwnedTupleGo target it v) (fun _ s2=>wpAny (model prog w) A (assign target env v) (fun _ s3 =>
          wpAny (model prog w) A (forIn ifs true fun c r=>if r=true then do let ok ← isTrue c env (eval c env); pure (ForInStep.yield ok) else pure (ForInStep.yield r)) (fun ok s4 =>
            if ok=true then wpAny (model prog w) A (eval elt env) (fun x s5=>wpAny (model prog w) A (call (.builtin "list.append") [acc,x]) (fun _ s6=>∃ m,m < n/\J m s6) (fun _ _=>False) s5) (fun _ _=>False) s4
            else ∃ m,m < n/\J m s4) (fun _ _=>False) s3) (fun _ _=>False) s2) (fun _ _=>False) s1) (fun _ _=>False) s)
    (n:Nat) (h:J n s):codeAny (model prog w) A (.compLoop (.ListComp elt [⟨target,iter,ifs,0⟩] sc pos) 0 it acc env) R s:=by
  refine codeAny_loop rfl J (fun k t q => ?_) n h
  show wpAny _ A (Sem.onRaise (compTurn (.ListComp elt [⟨target,iter,ifs,0⟩] sc pos) 0 it acc env) (fun x=>do noteFrame x env; theTreesLotGoes x)) _ _ t
  refine wpAny_noted ?_
  rw [compTurn_list]
  have no:∀ {E:Value->Shared->Prop} (x:Value) (t:Shared),False->E x t:=fun _ _ z=>z.elim
  refine wpAny_bind (wpAny_standAt (wpAny_bind (wpAny_mono (turn k t q) (fun r s1 h1 => ?_) no)))
  cases r with
  | none=>exact wpAny_pure h1
  | some v =>
    refine wpAny_bind (wpAny_mono h1 (fun _ s2 h2=>wpAny_bind (wpAny_mono h2 (fun _ s3 h3=>wpAny_bind (wpAny_mono h3 (fun ok s4 h4 => ?_) no)) no)) no)
    cases ok with
    | false=>exact wpAny_pure ⟨rfl,h4⟩
    | true=>exact wpAny_bind (wpAny_bind (wpAny_mono h4 (fun x s5 h5=>wpAny_bind (wpAny_mono h5 (fun _ s6 h6=>wpAny_pure (wpAny_pure ⟨rfl,h6⟩)) no)) no))
section
variable {X:Cx}
def wc (X:Cx) (pins:List (Addr × Obj)) (σ:St) (Q:VK) (use:Option (Value->Sem Unit)) (Q2:Value->Shared->Prop):Prop :=
 ∀ (s4:Shared) (H3:Hp) (acc C:Addr) (ys:List V) (oC:Obj),Inv X (pins ++ [(C,oC)]) σ (upd H3 acc (.lst ys)) s4->(∃ m,s4.heap.Ns C m)->X.s₀.heap.objs.size<=C->(∀ x c,X.env.cells.lookup x=some c->c ≠ C)->(∀ p ∈ X.pn ++ pins,p.1 ≠ C)->Q (.ref acc) (upd H3 acc (.lst ys)) →
  compPost (model X.prog X.w) X.A X.xe use Q2 (.ref acc) C (.ok .next) s4
theorem kT {elt target iter:Expr} {ifs:List Expr} {sc:Scope} {pos ps:Pos} {wi:TI} {g:TG} {tc:TT} {te:TE} {N':List Str} {ix:List (Option Nat)} {use:Option (Value->Sem Unit)} {Q2:Value->Shared->Prop}
  {pins:List (Addr × Obj)} {s:Shared} {σ:St} {H:Hp} {Q:VK}
  (hcalm:X.calm=true) (hi:PI X target iter wi) (hk:nK X.env.scope.names X.N sc N' ix=true)
  (hg:∀ cl C s H fp,PG (blk X sc cl C N' s H fp) target g) (hc:∀ cl C s H fp,PF (blk X sc cl C N' s H fp) ifs tc) (he:∀ cl C s H fp,PE (blk X sc cl C N' s H fp) elt te)
  (hs:∀ x,foldedSetIterable iter X.env x=pure x) (fin:wc X pins σ Q use Q2) (I:Inv X pins σ H s) (h:uf ix wi g tc te σ H Q) :
  wpAny (model X.prog X.w) X.A (comprehension (.ListComp elt [⟨target,iter,ifs,0⟩] sc pos) sc X.env ps (newList []) false (eval iter X.env) use) Q2 X.xe s:=by
 have K:=jC.of hk
 have hcl:∀ y ∈ sc.names,y.2 = .free->∃ c,X.env.cells.lookup y.1=some c:=fun y hy e=>I.ok.has y.1 (K.frees y hy e)
 refine wpAny_comprehension_free rfl hs (pI hcl) K.kind K.locs (thn (hi pins s σ H _ I h) fun v s1 h1=>thn h1 fun itv s2 h2 => ?_)
 obtain ⟨it,fp,tn,J,H2,e,I2,T,st2,f2,W,⟨m0,w0⟩,turn⟩:=h2
 subst e
 refine wpAny_newObj_type (wpAny_newFunctionEnv K.nocell (by intro y hy; simp at hy) (fun h1 ns1 sb1 => ?_) K.kind)
 dsimp only at ns1 sb1 ⊢
 generalize hP:s2.heap.push { cls := .type "list",dict:=none,data := .seq ([]:List Value).toArray }=G at ns1 sb1 ⊢
 have sG:G.objs.size=s2.heap.objs.size + 1:=by rw [<- hP,Heap.size_push]
 have fl:∀ b ∈ fp,b < s2.heap.objs.size:=fun b hb=>by
  obtain ⟨o,e,_⟩:=T.obj _ _ st2 b hb
  exact Heap.lt_size e
 have hC:s2.heap.objs.size<=G.objs.size:=by rw [sG]; exact Nat.le_succ _
 have aC:s2.heap.objs.size ≠ G.objs.size:=by rw [sG]; exact Nat.ne_of_lt (Nat.lt_succ_self _)
 have old:∀ b o,s2.heap.get? b=some o->h1.get? b=some o:=fun b o e=>by
  have lt:=Heap.lt_size e
  have ne:b ≠ G.objs.size:=Nat.ne_of_lt (Nat.lt_of_lt_of_le lt hC)
  rw [sb1.2 b ne]
  exact Heap.get?_push_of_some _ (hP ▸ Heap.get?_push_of_some _ e)
 have accO:h1.PlainList s2.heap.objs.size #[]:=⟨_,by
  rw [sb1.2 _ aC]
  exact Heap.get?_push_of_some _ (hP ▸ Heap.get?_push_size _ rfl)⟩
 have IB:=wa (t:=s2.toks + ([]:List (Str × Value)).length) I2 K hC f2 fl old ns1
 have up:∀ y c,(aP X.env sc.names []).lookup y=some c->X.env.cells.lookup y=some c:=fun y c e=>by
  rcases cN sc.names [] hcl e with q | q
  ·cases q
  ·exact q
 have accNotCell:∀ y c,(aP X.env sc.names []).lookup y=some c->c ≠ s2.heap.objs.size:=fun y c e z=>by
  obtain ⟨v,q⟩:=I2.cell y c (up y c e)
  exact absurd q.lt (by rw [z]; exact Nat.lt_irrefl _)
 have accFs:s2.heap.objs.size ∉ frs X.stack:=fun z=>by
  rcases List.mem_cons.mp (I2.mw _ z) with q | q
  ·exact absurd I2.lt (by rw [<- q]; exact Nat.lt_irrefl _)
  ·exact I2.xS (Nat.le_refl _) q
 have accFp:s2.heap.objs.size ∉ fp:=fun z=>absurd (fl _ z) (Nat.lt_irrefl _)
 have stat:∀ {H':Hp} {ob:Obj},(∀ b ∈ fp,H' b=none)->∀ b ∈ fp,iz (blk X sc (aP X.env sc.names []) G.objs.size N' s2 H2 fp) [(s2.heap.objs.size,ob)] H' b:=fun {H' ob} hn b hb=>by
  refine ⟨hn b hb,Nat.ne_of_lt (Nat.lt_of_lt_of_le (fl b hb) hC),IB.ok.exfs b hb,.inl hb,fun y c e=>(f2 b hb).2.2.2.2.1 y c (up y c e),fun p hp z => ?_⟩
  have ep:p=(s2.heap.objs.size,ob):=by simpa [blk] using hp
  subst ep
  exact accFp (by rw [show s2.heap.objs.size=b from z]; exact hb)
 have accPin:∀ {pl:List (Addr × Obj)} {σ':St} {H':Hp} {s':Shared} {its:Array Value} {n:Nat},Inv (blk X sc (aP X.env sc.names []) G.objs.size N' s2 H2 fp) pl σ' H' s'->s'.heap.get? s2.heap.objs.size=some { cls := .type "list",data := .seq its n } →
   H' s2.heap.objs.size=none->Inv (blk X sc (aP X.env sc.names []) G.objs.size N' s2 H2 fp) [(s2.heap.objs.size,{ cls := .type "list",data := .seq its n })] σ' H' s':=fun {pl σ' H' s' its n} J' e nn=>J'.gx fun p hp=>by
  have ep:p=(s2.heap.objs.size,({ cls := .type "list",data := .seq its n }:Obj)):=by simpa [blk] using hp
  subst ep
  exact ⟨e,nn,aC,accFs,fun v z=>nomatch z⟩
 have loop:codeAny (model X.prog X.w) X.A (.compLoop (.ListComp elt [⟨target,iter,ifs,0⟩] sc pos) 0 (.ref it) (.ref s2.heap.objs.size) (compEnvC sc (aP X.env sc.names []) G.objs.size X.env))
   (compPost (model X.prog X.w) X.A X.xe use Q2 (.ref s2.heap.objs.size) G.objs.size) { s2 with heap:=h1,toks:=s2.toks + ([]:List (Str × Value)).length }:=by
  refine pJ (fun n s'=>∃ i ys its nn σ' H',Inv (blk X sc (aP X.env sc.names []) G.objs.size N' s2 H2 fp) [(s2.heap.objs.size,{ cls := .type "list",data := .seq its nn })] σ' H' s'/\Vals ys its.toList/\tn i s'.heap/\(∀ b ∈ fp,H' b=none)/\W i n σ' ys H')
   (fun n s3 h3 => ?_) m0 ?_
  ·obtain ⟨i,ys,its,nn,σ3,H3,I3,r3,st3,fr3,w3⟩:=h3
   obtain ⟨e3,a3,_,_,_⟩:=I3.pin (s2.heap.objs.size,{ cls := .type "list",data := .seq its nn }) (by simp [blk])
   rcases turn i n σ3 ys H3 w3 with ⟨stop,zl,q3⟩ | ⟨go,step⟩
   ·refine thn (T.done (blk X sc (aP X.env sc.names []) G.objs.size N' s2 H2 fp) rfl rfl rfl hcalm i _ s3 σ3 H3 _ I3 (stat fr3) st3 stop) fun r s4 ⟨hr,I4⟩ => ?_
    subst hr
    obtain ⟨e4,a4,_,_,_⟩:=I4.pin (s2.heap.objs.size,{ cls := .type "list",data := .seq its nn }) (by simp [blk])
    obtain ⟨m4,n4,_⟩:=I4.loc
    obtain ⟨oC,es4,ep4,c4,d4,r4⟩:=id n4
    have ltA:∀ b o,s2.heap.get? b=some o->b ≠ s2.heap.objs.size:=fun b o e=>Nat.ne_of_lt (Heap.lt_size e)
    have B:=I4.base
    have hok:HOk X.prog X.w (upd H3 s2.heap.objs.size (.lst ys)) s4.heap:=fun b o e=>by
     by_cases hb:b=s2.heap.objs.size
     ·subst hb
      rw [ae] at e
      cases e
      exact ⟨zl,its.toList,nn,r3,e4⟩
     ·rw [aq hb] at e
      refine (I4.hok b o e).stay (fun c u hc q=>q) (fun c q => ?_) (fun c xs q => ?_)
      ·rw [aq (au q a4)]; exact q
      ·rw [aq (au q a4)]; exact q
    have I5:Inv X pins σ (upd H3 s2.heap.objs.size (.lst ys)) s4:=by
     refine I2.yS (ch:=fp) I4.os ⟨fun b o e n hb hx=>B.keep b o e n hb hx,fun b o e n hb hx=>B.slot b o e n hb hx,fun b o e n hx => ?_,fun b o e hx=>B.there b o e hx,fun b xs e => ?_,fun b o u e => ?_,fun b ps e => ?_⟩ hok I4.bare (fun b hb => ?_)
     ·rw [aq (ltA b o e)]; exact B.free b o e n hx
     ·have q:=B.tups b xs e
      rw [aq (au q a4)]; exact q
     ·have q:=B.frzs b o u e
      rw [aq (au q a4)]; exact q
     ·obtain ⟨more,q⟩:=B.tbls b ps e
      exact ⟨more,by rw [aq (au q a4)]; exact q⟩
     ·obtain ⟨g0,g1,g2,g3,g4,g5⟩:=f2 b hb
      exact ⟨g3,g1,g4,g5⟩
    have cL:G.objs.size ≠ X.env.locals:=Nat.ne_of_gt (Nat.lt_of_lt_of_le I2.lt hC)
    have I6:Inv X (pins ++ [(G.objs.size,oC)]) σ (upd H3 s2.heap.objs.size (.lst ys)) s4:=I5.gx fun p hp=>by
     rcases List.mem_append.mp hp with q | q
     ·exact I5.pin p (List.mem_append_right _ q)
     ·have ep:p=(G.objs.size,oC):=by simpa using q
      subst ep
      exact ⟨c4,by rw [aq (Ne.symm aC)]; exact I4.free,cL,I2.xS hC,fun v z=>by rw [d4] at z; cases z⟩
    refine fin s4 H3 s2.heap.objs.size G.objs.size ys oC I6 ⟨m4,n4⟩ (Nat.le_trans I2.sz hC) (fun y c e z => ?_) (fun p hp z => ?_) (q3 _ a4)
    ·obtain ⟨v,q⟩:=I2.cell y c e
     exact absurd (Nat.lt_of_lt_of_le q.lt hC) (by rw [z]; exact Nat.lt_irrefl _)
    ·exact absurd (Nat.lt_of_lt_of_le (Heap.lt_size (I2.pin p hp).1) hC) (by rw [z]; exact Nat.lt_irrefl _)
   ·refine thn (T.item (blk X sc (aP X.env sc.names []) G.objs.size N' s2 H2 fp) rfl rfl rfl hcalm i _ s3 σ3 H3 _ I3 (stat fr3) st3 go) fun r s4 ⟨u,hr,h4⟩ => ?_
    subst hr
    refine thn h4 fun _ s5 ⟨x,H5,I5,r5,y5,st5,fr5⟩ => ?_
    have I5':=I5.pinned (stat fr5) (T.obj _ _ st5)
    refine thn (hg _ _ _ _ _ _ s5 σ3 H5 x u _ I5' r5 (step x H5 y5)) fun _ s6 ⟨σ6,H6,I6,q6⟩ => ?_
    refine thn (hc _ _ _ _ _ _ s6 σ6 H6 _ I6 q6) fun ok s7 ⟨H7,I7,q7⟩ => ?_
    have back:∀ {σ7:St} {H7:Hp} {s7:Shared},Inv (blk X sc (aP X.env sc.names []) G.objs.size N' s2 H2 fp) ([(s2.heap.objs.size,{ cls := .type "list",data := .seq its nn })] ++ fZ fp s5.heap) σ7 H7 s7->tn (i + 1) s7.heap/\∀ b ∈ fp,H7 b=none:=fun J7 =>
     ⟨T.keep _ _ _ st5 fun b hb o e=>(J7.pin (b,o) (List.mem_append_right _ (List.mem_append_right _ (cX hb e)))).1,fun b hb=>by
      obtain ⟨o,e,d⟩:=T.obj _ _ st5 b hb
      exact (J7.pin (b,o) (List.mem_append_right _ (List.mem_append_right _ (cX hb e)))).2.1⟩
    cases ok with
    | false =>
     rw [if_neg (by decide)] at q7
     obtain ⟨m',lm,w7⟩:=q7
     show ∃ m,m < n/\_
     exact ⟨m',lm,i + 1,ys,its,nn,σ6,H7,I7.dD,r3,(back I7).1,(back I7).2,w7⟩
    | true =>
     rw [if_pos rfl] at q7
     refine thn (he _ _ _ _ _ _ s7 σ6 H7 _ I7 q7) fun z s8 ⟨y,H8,I8,r8,lz,m',lm,w8⟩ => ?_
     obtain ⟨e8,a8,_,_,_⟩:=I8.pin (s2.heap.objs.size,{ cls := .type "list",data := .seq its nn }) (by simp [blk])
     have sz:its.size<=sizeLine:=by
      have l:ys.length=its.size:=r3.length.trans Array.length_toList
      rw [<- l]
      exact Nat.le_of_lt lz
     refine wpAny_list_append_plain ⟨nn,e8⟩ (fun h' pl' sb' => ?_) sz
     obtain ⟨n9,e9⟩:=pl'
     have I8p:Inv (blk X sc (aP X.env sc.names []) G.objs.size N' s2 H2 fp) (fZ fp s5.heap) σ6 H8 s8:=I8.gx fun p hp=>I8.pin p (List.mem_append_right _ (List.mem_append_right _ hp))
     have I9:=I8p.turned (it:=s2.heap.objs.size) (h':=h') (t':=s8.toks) (fun b o ne e=>by rw [sb'.2 b ne]; exact e) a8 aC (.inr (Nat.le_refl _)) (fun y c e=>accNotCell y c e) (fun p hp z=>by
      have hp':p ∈ fZ fp s5.heap:=by simpa [blk] using hp
      exact accFp (by rw [<- z]; exact (kM hp').1))
     have b9:tn (i + 1) h'/\∀ b ∈ fp,H8 b=none :=
      ⟨T.keep _ _ _ st5 fun b hb o e=>(I9.pin (b,o) (List.mem_append_right _ (cX hb e))).1,(back I8).2⟩
     exact ⟨m',lm,i + 1,ys ++ [y],its.push z,n9,σ6,H8,accPin I9 e9 a8,by rw [Array.toList_push]; exact r3.append (.cons r8 .nil),b9.1,b9.2,w8⟩
  ·obtain ⟨n0,e0⟩:=accO
   exact ⟨0,[], #[],n0,_,H2,accPin IB e0 (I2.hok.fresh (Nat.le_refl _)),.nil,T.keep _ _ _ st2 fun b hb o e=>old b o e,fun b hb=>(f2 b hb).1,w0⟩
 exact codeAny_compStart_list loop (T.self _ 0 _ _ _ (T.keep _ _ _ st2 fun b hb o e=>old b o e) loop)
theorem bF {elt target iter:Expr} {ifs:List Expr} {sc:Scope} {pos:Pos} {wi:TI} {g:TG} {tc:TT} {te:TE} (N':List Str) (ix:List (Option Nat))
  (hcalm:X.calm=true) (hi:PI X target iter wi) (hk:nK X.env.scope.names X.N sc N' ix=true)
  (hg:∀ cl C s H fp,PG (blk X sc cl C N' s H fp) target g) (hc:∀ cl C s H fp,PF (blk X sc cl C N' s H fp) ifs tc) (he:∀ cl C s H fp,PE (blk X sc cl C N' s H fp) elt te)
  (hs:∀ x,foldedSetIterable iter X.env x=pure x:=by intro _; rfl):PE X (.ListComp elt [⟨target,iter,ifs,0⟩] sc pos) (uf ix wi g tc te):=by
 intro pins s σ H Q I h
 rw [eval_ListComp]
 refine kT hcalm hi hk hg hc he hs (fun s4 H3 acc C ys oC I4 ns hC hc hp q => ?_) I h
 obtain ⟨m,ns⟩:=ns
 refine ⟨m,ns,fun h' sb=>⟨.ref acc,_,?_,rfl,q⟩⟩
 obtain ⟨_,n0,n1,n2,_⟩:=I4.pin (C,oC) (by simp)
 exact (I4.dD).turned (it:=C) (h':=h') (t':=s4.toks) (fun b o ne e=>by rw [sb.2 b ne]; exact e) n0 n1 (.inr hC) hc hp
theorem gg {elt target iter:Expr} {ifs:List Expr} {sc:Scope} {pos pos' spos:Pos} {wi:TI} {g:TG} {tc:TT} {te:TE} {i:Nat} {x:Str} (N':List Str) (ix:List (Option Nat))
    (hcalm:X.calm=true) (hN:X.N.Nodup) (hx:X.N[i]? = some x) (hl:X.env.scope.names.lookup x=some .local)
    (hi:PI X target iter wi) (hk:nK X.env.scope.names X.N sc N' ix=true)
    (hg:∀ cl C s H fp,PG (blk X sc cl C N' s H fp) target g) (hc:∀ cl C s H fp,PF (blk X sc cl C N' s H fp) ifs tc) (he:∀ cl C s H fp,PE (blk X sc cl C N' s H fp) elt te)
    (hsw:swapsWith (.ListComp elt [⟨target,iter,ifs,0⟩] sc pos) (some (.Name x pos')) spos.line X.env=pure true:=by rfl)
    (hs:∀ x,foldedSetIterable iter X.env x=pure x:=by intro _; rfl):PS X (.Assign [.Name x pos'] (.ListComp elt [⟨target,iter,ifs,0⟩] sc pos) spos) (xX (uf ix wi g tc te) (eO i)):=by
  intro pins s σ H D I h
  rw [exec_Assign_Name_used _ _ _ _ hsw]
  refine wpAny_bind (wpAny_standAt (wpAny_bind ?_))
  show wpAny _ X.A (do let _ ← comprehension (.ListComp elt [⟨target,iter,ifs,0⟩] sc pos) sc X.env _ (newList []) false (eval iter X.env) (some (assign (.Name x pos') X.env))) _ _ s
  refine wpAny_bind (wpAny_mono (kT (Q:=fun v H1=>D.nx (σ.set i (some v)) H1) (Q2:=fun _ s'=>SP X pins D .next s') hcalm hi hk hg hc he hs (fun s4 H3 acc C ys oC I4 ns hC hc hp q => ?_) I h) (fun _ s' q=>wpAny_pure (wpAny_pure q)) fun _ _ e=>e)
  obtain ⟨m,ns⟩:=ns
  obtain ⟨e0,n0,n1,n2,_⟩:=I4.pin (C,oC) (by simp)
  show wpAny _ X.A (assign (.Name x pos') X.env (.ref acc)) _ _ s4
  refine thn ((aB (i:=i) hN hx (.inl hl) (.inr hl)) (pins ++ [(C,oC)]) s4 σ _ (.ref acc) (.ref acc) _ I4 rfl q) fun _ s5 ⟨σ5,H5,I5,q5⟩ => ?_
  obtain ⟨e5,k0,k1,k2,_⟩:=I5.pin (C,oC) (by simp)
  obtain ⟨o',es',ep',c',r'⟩:=ns
  have e':=e0.symm.trans c'
  cases e'
  refine ⟨m,⟨_,es',ep',e5,r'⟩,fun h' sb=>⟨σ5,H5,?_,q5⟩⟩
  exact (I5.dD).turned (it:=C) (h':=h') (t':=s5.toks) (fun b o ne e=>by rw [sb.2 b ne]; exact e) k0 k1 (.inr hC) hc hp
end
open PySem PySem.Spec PyProof.Rows
section
variable {X:Cx} {sc:Scope} {N':List Str} {ix:List (Option Nat)} {pins:List (Addr × Obj)} {σ:St} {H:Hp} {s:Shared}
end
section
variable {X:Cx}
end
open PySem PySem.Spec PyProof.Rows
section
variable {X:Cx}
def zy (K:PySem.W.Frag):R2:=fun x y H Q=>∃ l b xs zs,x = .ref l/\y = .ref b/\SqL K H l xs/\SqL K H b zs/\xs.length + zs.length<=sizeLine/\∀ p,H p=none->Q (.ref p) (upd H p (.lst (xs ++ zs)))
theorem gH:OpR X (binaryOp .Add) (zy X.K):=by
 intro pins s σ H x y v u Q I rx ry h
 obtain ⟨l,b,xs,zs,rfl,rfl,hH,hB,hz,q⟩:=h
 cases rx
 cases ry
 obtain ⟨its,r,e,z⟩:=I.list hH
 obtain ⟨its2,r2,e2,z2⟩:=I.list hB
 obtain ⟨⟨c1,d1,da1,sl1⟩,n,e,k1,k2,k3⟩:=e
 obtain ⟨⟨c2,d2,da2,sl2⟩,n2,e2,g1,g2,g3⟩:=e2
 simp only at k1 k3 g1 g3
 subst k1 k3 g1 g3
 have l1:=r.length
 have l2:=r2.length
 have ea:its.toArray ++ its2.toArray=(its ++ its2).toArray:=by simp
 refine concat_meets ⟨_,e,rfl⟩ ⟨_,e2,rfl⟩ noFill_list_add seq_list_add PySem.F.slot_list_add PySem.F.entry_list_add
  (PySem.F.args_list_add_2 _ _) (list_addW l b its.toArray its2.toArray n n2 d1 d2 sl1 sl2 (by rw [List.size_toArray,List.size_toArray]; omega)) ⟨e,e2,?_⟩
 rw [ea]
 exact ⟨.ref _,_,I.zv (t':=s.toks) (r.append r2) (by rw [List.length_append]; omega),rfl,q _ I.fresh⟩
theorem iW:bu X (.builtin "isinstance") (fun xs H Q=>∃ x T t b,xs=[x,.ty T]/\iE X.K H x t/\PySem.W.kitOne X.K t (.type T)=some b/\Q (.bl b) H):=by
 intro pins s σ H xs us Q I r h
 obtain ⟨x,T,t,b,rfl,ty,e,q⟩:=h
 obtain ⟨u,w',rfl,ru,rw'⟩:=vals2 r
 cases (show w'=Value.type T from rw')
 exact rD I ru ty e fun tk=>⟨.bl b,H,I.tok tk,rfl,q⟩
end
def nL (k:Nat) (tc:TT) (te:TE) (τ : St) (Pv:Nat->List V->Hp->Prop) (i:Nat) (x:V) (ys:List V) (H:Hp):Prop :=
 ∀ (R1:V->Hp->Prop) (R0:Hp->Prop),(∀ y H4,Pv (i + 1) (ys ++ [y]) H4->R1 y H4)->(∀ H3,Pv (i + 1) ys H3->R0 H3)->tc (τ.set k (some x)) H fun b H3=>if b=true then te (τ.set k (some x)) H3 R1 else R0 H3
theorem gh {K:PySem.W.Frag} {a:Addr} {xs:List V} {k:Nat} {tc:TT} {te:TE} {τ : St} {H:Hp} {Q:VK} (Pv:Nat->List V->Hp->Prop) (h0:Pv 0 [] H) (hz:xs.length<=sizeLine)
  (hl:∀ i ys H,i<=xs.length->Pv i ys H->SqL K H a xs) (hs:∀ i x ys H,xs[i]? = some x->ys.length<=i->Pv i ys H->nL k tc te τ Pv i x ys H)
  (hd:∀ ys H,ys.length<=xs.length->Pv xs.length ys H->∀ l,H l=none->Q (.ref l) (upd H l (.lst ys))) :
  iV (Itl K a) (eO k) tc te τ Q H:=by
 refine ⟨fun i m σ ys H=>m=xs.length - i/\i<=xs.length/\(∀ x,σ.set k (some x) = τ.set k (some x))/\ys.length<=i/\Pv i ys H,⟨xs.length,by simp,Nat.zero_le _,fun _=>rfl,Nat.le_refl _,h0⟩,?_⟩
 rintro i m σ ys H ⟨rfl,hi,hτ,hy,p⟩
 have q:=hl i ys H hi p
 by_cases hlt:i < xs.length
 ·refine .inr ⟨⟨xs,xs[i],q,by simp [hlt]⟩,fun x H' y => ?_⟩
  obtain ⟨e,y⟩:=y
  subst e
  show tc (σ.set k (some x)) _ _
  rw [hτ x]
  have hσ:∀ z,(τ.set k (some x)).set k (some z) = τ.set k (some z):=fun z=>by rw [List.set_set]
  refine hs i x ys _ (y xs q) hy p _ _ (fun y4 H4 p4=>⟨by omega,xs.length - (i + 1),by omega,rfl,hlt,hσ,by rw [List.length_append,List.length_singleton]; omega,p4⟩) fun H3 p3=>⟨xs.length - (i + 1),by omega,rfl,hlt,hσ,by omega,p3⟩
 ·have e:i=xs.length:=by omega
  subst e
  exact .inl ⟨⟨xs,q,Nat.le_refl _⟩,by omega,hd ys H hy p⟩
theorem bQ {K:PySem.W.Frag} {a:Addr} {xs:List V} {k:Nat} {tc:TT} {te:TE} {τ : St} {H:Hp} {Q:VK} (Pv:Nat->List V->Hp->Prop) (h0:Pv 0 [] H) (hz:xs.length<=sizeLine)
  (hl:∀ i ys H,i<=xs.length->Pv i ys H->SqT K H a xs) (hs:∀ i x ys H,xs[i]? = some x->ys.length<=i->Pv i ys H->nL k tc te τ Pv i x ys H)
  (hd:∀ ys H,ys.length<=xs.length->Pv xs.length ys H->∀ l,H l=none->Q (.ref l) (upd H l (.lst ys))) :
  iV (Itt K a) (eO k) tc te τ Q H:=by
 refine ⟨fun i m σ ys H=>m=xs.length - i/\i<=xs.length/\(∀ x,σ.set k (some x) = τ.set k (some x))/\ys.length<=i/\Pv i ys H,⟨xs.length,by simp,Nat.zero_le _,fun _=>rfl,Nat.le_refl _,h0⟩,?_⟩
 rintro i m σ ys H ⟨rfl,hi,hτ,hy,p⟩
 have q:=hl i ys H hi p
 by_cases hlt:i < xs.length
 ·refine .inr ⟨⟨xs,xs[i],q,by simp [hlt]⟩,fun x H' y => ?_⟩
  obtain ⟨e,y⟩:=y
  subst e
  show tc (σ.set k (some x)) _ _
  rw [hτ x]
  have hσ:∀ z,(τ.set k (some x)).set k (some z) = τ.set k (some z):=fun z=>by rw [List.set_set]
  refine hs i x ys _ (y xs q) hy p _ _ (fun y4 H4 p4=>⟨by omega,xs.length - (i + 1),by omega,rfl,hlt,hσ,by rw [List.length_append,List.length_singleton]; omega,p4⟩) fun H3 p3=>⟨xs.length - (i + 1),by omega,rfl,hlt,hσ,by omega,p3⟩
 ·have e:i=xs.length:=by omega
  subst e
  exact .inl ⟨⟨xs,q,Nat.le_refl _⟩,by omega,hd ys H hy p⟩
theorem dt {lo:Int} {n:Nat} {k:Nat} {tc:TT} {te:TE} {τ : St} {H:Hp} {Q:VK} (Pv:Nat->List V->Hp->Prop) (h0:Pv 0 [] H) (hz:n<=sizeLine)
  (hs:∀ i ys H,i < n->ys.length<=i->Pv i ys H->nL k tc te τ Pv i (.int (lo + i)) ys H)
  (hd:∀ ys H,ys.length<=n->Pv n ys H->∀ l,H l=none->Q (.ref l) (upd H l (.lst ys))) :
  iV (Itr lo n) (eO k) tc te τ Q H:=by
 refine ⟨fun i m σ ys H=>m=n - i/\i<=n/\(∀ x,σ.set k (some x) = τ.set k (some x))/\ys.length<=i/\Pv i ys H,⟨n,by simp,Nat.zero_le _,fun _=>rfl,Nat.le_refl _,h0⟩,?_⟩
 rintro i m σ ys H ⟨rfl,hi,hτ,hy,p⟩
 by_cases hlt:i < n
 ·refine .inr ⟨hlt,fun x H' y => ?_⟩
  obtain ⟨e,y⟩:=y
  subst e y
  show tc (σ.set k (some (.int (lo + i)))) _ _
  rw [hτ]
  have hσ:∀ z,(τ.set k (some (.int (lo + i)))).set k (some z) = τ.set k (some z):=fun z=>by rw [List.set_set]
  refine hs i ys _ hlt hy p _ _ (fun y4 H4 p4=>⟨by omega,n - (i + 1),by omega,rfl,hlt,hσ,by rw [List.length_append,List.length_singleton]; omega,p4⟩) fun H3 p3=>⟨n - (i + 1),by omega,rfl,hlt,hσ,by omega,p3⟩
 ·have e:i=n:=by omega
  subst e
  exact .inl ⟨Nat.le_refl _,by omega,hd ys H hy p⟩
structure Cal (P:Program) (w:World) (K:PySem.W.Frag) (mg:Str->Option Value) (base:Heap) (k:Nat) (x:Str) (ps:List Str) (sp:Sp):Prop where
 ex:∃ f fd,bE P w K mg base CX0 k f fd ps sp/\mg x=some (.ref f)/\PySem.W.keepIn K (.ref f)=true/\Binds K fd ps []
theorem aJ {X:Cx} {j k:Nat} {x:Str} {ps:List Str} {sp:Sp} {e:Expr} {es:List Expr} {t:TA} {p pos:Pos} (C:Cal X.prog X.w X.K X.mg X.base k x ps sp) (hr:cA j X.A) (hj:k<=j) (hg:Gl X x) (ha:PA X (e :: es) t)
  (hdb:(x == ("__debug__" : Str))=false:=by decide) (he:starEach (e :: es) X.env=(false,eval e X.env) :: starEach es X.env:=by rfl) (hpl:(backTo pos (starEach es X.env)).any (·.1)=false:=by rfl) :
  PE X (.Call (.Name x p) (e :: es) [] pos) (xD sp [] E0 t):=by
 obtain ⟨f,fd,F,m,kp,b⟩:=C.ex
 exact vY F (hr.mono hj) hg m kp b .nil zw ha hdb he hpl
theorem af {H:Hp} {p:Addr} (h:H p=none) (o:HO):aL H (upd H p o):=fun b u q=>by rw [aq (au q h)]; exact q
theorem small {n:Nat} (h:n<=1000):n<=sizeLine:=Nat.le_of_lt (bh h)
open PySem PySem.Spec PyProof.Rows
section
variable {X:Cx}
theorem iX {its:List Value} {bs:List Bool} (h:Vals (bs.map V.bl) its) {prog:Program} {w:World} {A:Around}:TruthOf prog w A (fun i v=>its.toArray[i]? = some v) (fun i=>bs.getD i false):=by
 intro i v s Q E hv q
 have l:=h.length
 rw [List.length_map] at l
 have hi:i < its.length:=by
  rw [List.getElem?_toArray] at hv
  exact (List.getElem?_eq_some_iff.mp hv).1
 have e:(bs.map V.bl)[i]? = some (.bl (bs.getD i false)):=by
  rw [List.getElem?_map,List.getD_eq_getElem?_getD,List.getElem?_eq_getElem (by omega)]
  rfl
 obtain ⟨u,e1,e2⟩:=h.get e
 rw [List.getElem?_toArray,e1] at hv
 have ev:u=v:=Option.some.inj hv
 subst ev
 cases (show u=Value.bool _ from e2)
 exact wpAny_truthy_bool q
theorem all_range (bs:List Bool):((List.range bs.length).all fun i=>bs.getD i false)=bs.all id:=by
 rw [Bool.eq_iff_iff,List.all_eq_true,List.all_eq_true]
 constructor
 ·intro h x hx
  obtain ⟨i,e⟩:=List.mem_iff_getElem?.mp hx
  have hi:i < bs.length:=(List.getElem?_eq_some_iff.mp e).1
  have q:=h i (List.mem_range.mpr hi)
  rw [List.getD_eq_getElem?_getD,e] at q
  exact q
 ·intro h i hi
  have hi':=List.mem_range.mp hi
  rw [List.getD_eq_getElem?_getD,List.getElem?_eq_getElem hi']
  exact h _ (List.getElem_mem hi')
theorem nM (hc:X.calm=true):bu X (.builtin "all") (fun xs H Q=>∃ (p:Addr) (bs:List Bool),xs=[.ref p]/\SqL X.K H p (bs.map V.bl)/\Q (.bl (bs.all id)) H):=by
 intro pins s σ H xs us Q I r h
 obtain ⟨p,bs,rfl,hs,q⟩:=h
 obtain ⟨u,rfl,ru⟩:=vals1 r
 cases (show u=Value.ref p from ru)
 obtain ⟨its,rv,pl,hz⟩:=I.list hs
 have l:=rv.length
 rw [List.length_map] at l
 have hpl:p < s.heap.objs.size:=by obtain ⟨o,_,e,_⟩:=pl; exact Heap.lt_size e
 refine call_all_walk (wpAny_pyIter_list pl.isList ?_)
 have hd:X.A.in1.handled=none:=I.ok.hd hc
 refine ⟨s.heap.objs.size,_,_,_,_,_,_,rfl,Walks.list hd s.heap.objs.size p (Nat.ne_of_lt hpl) its.toArray,⟨⟨_,Heap.get?_push_size _ rfl,rfl,rfl⟩,?_⟩,iX rv,fun h' tk k => ?_⟩
 ·exact pl.isList.at fun o e=>Heap.get?_push_of_some _ e
 ·have e:((List.range its.toArray.size).all fun i=>bs.getD i false)=bs.all id:=by rw [List.size_toArray, <- l,all_range]
  rw [e]
  refine ⟨.bl (bs.all id),H,I.kept (t':=tk) (fun b o eb=>k b o ?_ (Heap.get?_push_of_some _ eb)),rfl,q⟩
  intro hb
  have:b=s.heap.objs.size:=by simpa using hb
  exact absurd (Heap.lt_size eb) (by rw [this]; exact Nat.lt_irrefl _)
def wd:V->List V->Hp->VK->Prop:=fun x vs H Q=>∃ (l:Addr) (xs:List V) (i:Int) (y:V),x = .ref l/\vs=[.int i,y]/\H l=some (.lst xs)/\0<=i/\i<=xs.length/\xs.length < sizeLine/\Q .non (upd H l (.lst (xs.take i.toNat ++ y :: xs.drop i.toNat)))
theorem kU:MtM X "list.insert" wd:=by
 intro pins s σ H x vs v us Q I rx rv h
 obtain ⟨l,xs,i,y,rfl,rfl,hH,h0,h1,hz,q⟩:=h
 cases rx
 obtain ⟨ui,uy,rfl,⟨t,rfl⟩,ry⟩:=vals2 rv
 obtain ⟨z,its,n,r,hl,e⟩:=I.rG hH
 have zl:=iC
 have fits:¬ (!Builtin.List.listFitsIndex i)=true:=by
  have:Builtin.List.listFitsIndex i=true:=by
   unfold Builtin.List.listFitsIndex
   simp only [Bool.and_eq_true,decide_eq_true_eq]
   omega
  rw [this]; simp
 refine call_meets F.slot_list_insert ⟨_,e,rfl⟩ F.entry_list_insert (F.args_list_insert_3 _ _ _) (PySem.AutoListH.list_insert_list_int_val_1 l its.toArray n i t uy fits (by rw [List.size_toArray]; omega)) ⟨e,?_⟩
 refine ⟨.non,_,I.t8 (its':=its.take i.toNat ++ uy :: its.drop i.toNat) hH e ?_ ((r.take _).append (.cons ry (r.drop _))) ?_,rfl,q⟩
 ·have ek:min i.toNat its.toArray.size=i.toNat:=by rw [List.size_toArray]; omega
  dsimp only
  rw [if_neg (by omega),ek]
  apply Array.toList_inj.mp
  rw [Array.toList_append,Array.toList_push,Array.toList_extract,Array.toList_extract,List.extract_eq_take_drop,List.extract_eq_take_drop]
  simp
  rw [List.take_of_length_le (by rw [List.length_drop]; omega)]
 ·rw [List.length_append,List.length_cons,List.length_take,List.length_drop]
  omega
def cZ (K:PySem.W.Frag) (H:Hp):Nat->V->V->Prop
 | 0,x,y=>(∃ i,x = .int i/\y = .int i)\/∃ a,x = .ref a/\y = .ref a
 | n + 1,x,y=>(∃ i,x = .int i/\y = .int i)\/(∃ a,x = .ref a/\y = .ref a)\/∃ a b xs ys,x = .ref a/\y = .ref b/\((SqT K H a xs/\SqT K H b ys)\/(SqL K H a xs/\SqL K H b ys))/\Paired (cZ K H n) xs ys
theorem kW {α β : Type} {F : α -> β -> Prop}:∀ {l:List α} {m:List β} {i:Nat} {x : α} {y : β},Paired F l m->l[i]? = some x->m[i]? = some y->F x y
 | _,_,0,_,_,.cons h _,e1,e2=>by simp at e1 e2; subst e1 e2; exact h
 | _,_,i + 1,_,_,.cons _ t,e1,e2=>kW (i:=i) t (by simpa using e1) (by simpa using e2)
 | _,_,_,_,_,.nil,e1,_=>by simp at e1
theorem all_true (n:Nat):((List.range n).all fun _=>true)=true:=by simp
theorem bX {K:PySem.W.Frag} {H:Hp} {n:Nat} {s:Shared} {A:Around} {xs ys:List V} {us vs:List Value} (p:Paired (cZ K H n) xs ys) (r1:Vals xs us) (r2:Vals ys vs)
  (ih:∀ x y u v,cZ K H n x y->RelV x u->RelV y v->SeqAt.EqAt A s u v true):∀ j (h1:j < us.toArray.size) (h2:j < vs.toArray.size),SeqAt.EqAt A s us.toArray[j] vs.toArray[j] true:=fun j h1 h2=>by
 rw [List.size_toArray] at h1 h2
 have l1:=r1.length
 have l2:=r2.length
 have e1:xs[j]? = some xs[j]:=List.getElem?_eq_getElem (by omega)
 have e2:ys[j]? = some ys[j]:=List.getElem?_eq_getElem (by omega)
 obtain ⟨u,g1,q1⟩:=r1.get e1
 obtain ⟨v,g2,q2⟩:=r2.get e2
 have f1:us.toArray[j]=u:=by simp [List.getElem?_eq_some_iff] at g1; obtain ⟨_,g⟩:=g1; simpa using g
 have f2:vs.toArray[j]=v:=by simp [List.getElem?_eq_some_iff] at g2; obtain ⟨_,g⟩:=g2; simpa using g
 rw [f1,f2]
 exact ih _ _ u v (kW p e1 e2) q1 q2
theorem fK {pins:List (Addr × Obj)} {σ:St} {H:Hp} {s:Shared} (I:Inv X pins σ H s):∀ (n:Nat) (A:Around) (x y:V) (u v:Value),A.units + n < cLine->cZ X.K H n x y->RelV x u->RelV y v->SeqAt.EqAt A s u v true
 | 0,A,x,y,u,v,_,h,ru,rv=>by
  rcases h with ⟨i,rfl,rfl⟩ | ⟨a,rfl,rfl⟩
  ·obtain ⟨t,rfl⟩:=(show ∃ t,u=Value.int i t from ru)
   obtain ⟨t',rfl⟩:=(show ∃ t,v=Value.int i t from rv)
   have:=SeqAt.EqAt.int_int (A:=A) (s:=s) i t i t'
   rw [beq_self_eq_true] at this
   exact this
  ·cases (show u=Value.ref a from ru)
   cases (show v=Value.ref a from rv)
   exact SeqAt.EqAt.same _
 | n + 1,A,x,y,u,v,hA,h,ru,rv=>by
  rcases h with ⟨i,rfl,rfl⟩ | ⟨a,rfl,rfl⟩ | ⟨a,b,xs,ys,rfl,rfl,hs,p⟩
  ·obtain ⟨t,rfl⟩:=(show ∃ t,u=Value.int i t from ru)
   obtain ⟨t',rfl⟩:=(show ∃ t,v=Value.int i t from rv)
   have:=SeqAt.EqAt.int_int (A:=A) (s:=s) i t i t'
   rw [beq_self_eq_true] at this
   exact this
  ·cases (show u=Value.ref a from ru)
   cases (show v=Value.ref a from rv)
   exact SeqAt.EqAt.same _
  ·cases (show u=Value.ref a from ru)
   cases (show v=Value.ref b from rv)
   by_cases hab:a=b
   ·subst hab; exact SeqAt.EqAt.same _
   refine SeqAt.EqAt.of_refs hab ?_
   have ih:∀ x y u v,cZ X.K H n x y->RelV x u->RelV y v->SeqAt.EqAt A.in1 s u v true:=fun x y u v h1 h2 h3=>fK I n A.in1 x y u v (by show A.units + 1 + n < cLine; omega) h1 h2 h3
   have pl:=Paired.length p
   rcases hs with ⟨h1,h2⟩ | ⟨h1,h2⟩
   ·obtain ⟨its,r1,p1,_⟩:=I.tuple h1
    obtain ⟨its2,r2,p2,_⟩:=I.tuple h2
    have q:=SeqAt.RcAt.tuples (e:=fun _=>true) (show s.heap.IsTuple a its.toArray from p1) (show s.heap.IsTuple b its2.toArray from p2) (by omega) (bX p r1 r2 ih)
    have ez:its.toArray.size=its2.toArray.size:=by rw [List.size_toArray,List.size_toArray, <- r1.length, <- r2.length,pl]
    rw [all_true,ez,beq_self_eq_true] at q
    exact q
   ·obtain ⟨its,r1,p1,_⟩:=I.list h1
    obtain ⟨its2,r2,p2,_⟩:=I.list h2
    have q:=SeqAt.RcAt.lists (e:=fun _=>true) p1.isList p2.isList (by rw [List.size_toArray,List.size_toArray, <- r1.length, <- r2.length,pl]) (by omega) (bX p r1 r2 ih)
    rw [all_true] at q
    exact q
theorem yl {k:Nat} (hr:cA k X.A):OpR X (compareOp .NotEq) (fun x y H Q=>∃ a b xs ys,x = .ref a/\y = .ref b/\SqL X.K H a xs/\SqL X.K H b ys/\((xs.length ≠ ys.length/\Q (.bl true) H)\/(Paired (cZ X.K H 20) xs ys/\Q (.bl false) H))):=by
 intro pins s σ H x y v u Q I rx ry h
 obtain ⟨a,b,xs,ys,rfl,rfl,h1,h2,h3⟩:=h
 cases (show v=Value.ref a from rx)
 cases (show u=Value.ref b from ry)
 obtain ⟨its,r1,⟨⟨c1,d1,da1,sl1⟩,n1,e1,k1,_,k3⟩,_⟩:=I.list h1
 obtain ⟨its2,r2,⟨⟨c2,d2,da2,sl2⟩,n2,e2,g1,_,g3⟩,_⟩:=I.list h2
 simp only at k1 k3 g1 g3
 subst k1 k3 g1 g3
 have l1:=r1.length
 have l2:=r2.length
 have hu:=hr.un
 have hu1:X.A.units < cLine:=by omega
 rcases h3 with ⟨ne,q⟩ | ⟨p,q⟩
 ·refine richCompare_meets_room (op := .NotEq) ⟨_,e1,rfl⟩ ⟨_,e2,rfl⟩ F.slot_list_ne F.entry_list_ne (F.args_list_ne_2 _ _) (SeqAt.list_ne_lengthsAt a b its.toArray its2.toArray n1 n2 d1 d2 sl1 sl2 (by simp; omega)) ⟨e1,e2,?_⟩ hu1
  exact ⟨(fun z=>nomatch z),⟨.bl true,H,I,rfl,q⟩⟩
 ·have pl:=Paired.length p
  refine richCompare_meets_room (op := .NotEq) ⟨_,e1,rfl⟩ ⟨_,e2,rfl⟩ F.slot_list_ne F.entry_list_ne (F.args_list_ne_2 _ _) (SeqAt.list_neAt a b its.toArray its2.toArray n1 n2 d1 d2 sl1 sl2 (by rw [List.size_toArray,List.size_toArray]; omega) (fun _=>true)) ⟨e1,e2,?_,?_⟩ hu1
  ·exact bX p r1 r2 fun x y u v h1 h2 h3=>fK I 20 _ x y u v (by show X.A.units + 1 + _ < cLine; omega) h1 h2 h3
  ·rw [all_true]
   exact ⟨(fun z=>nomatch z),⟨.bl false,H,I,rfl,q⟩⟩
end
open PySem PySem.Spec PyProof.Rows
def xE (K:PySem.W.Frag) (k l:Nat):TG:=y9 K 2 (tN (eO k) (tN (eO l) y8))
def zz (k l:Nat) (tc:TT) (te:TE) (τ : St) (Pv:Nat->List V->Hp->Prop) (i:Nat) (a b:V) (ys:List V) (H:Hp):Prop :=
 ∀ (R1:V->Hp->Prop) (R0:Hp->Prop),(∀ y H4,Pv (i + 1) (ys ++ [y]) H4->R1 y H4)->(∀ H3,Pv (i + 1) ys H3->R0 H3)->tc ((τ.set k (some a)).set l (some b)) H fun c H3=>if c=true then te ((τ.set k (some a)).set l (some b)) H3 R1 else R0 H3
open PySem PySem.Spec PyProof.Rows
section
variable {X:Cx} {K:PySem.W.Frag}
theorem d9 (h:X.K=K:=by rfl):IxR X (zt K):=by subst h; exact aO
theorem mE (h:X.K=K:=by rfl):OpR X (compareOp .In) (rIn K false):=by subst h; exact rF
theorem iH (h:X.K=K:=by rfl):OpR X (compareOp .NotIn) (rIn K true):=by subst h; exact mD
end
open PySem PySem.Spec PyProof.Rows
theorem Inv.pK {X:Cx} {pins:List (Addr × Obj)} {σ:St} {H:Hp} {s:Shared} {h':Heap} {t':Nat} {ch:List Addr} {T:Addr} {o:HO} (I:Inv X pins σ H s) (f:∀ b ∈ ch,iz X pins H b)
  (k:∀ b ob,b ∉ ch->s.heap.get? b=some ob->h'.get? b=some ob) (th:∀ b ∈ ch,∃ ob,h'.get? b=some ob) (hT:s.heap.objs.size<=T) (new:aY X.prog X.w (upd H T o) h' T o):Inv X pins σ (upd H T o) { s with heap:=h',toks:=t' }:=by
 have hn:H T=none:=I.hok.fresh hT
 have nT:∀ b ob,s.heap.get? b=some ob->b ≠ T:=fun b ob e=>Nat.ne_of_lt (Nat.lt_of_lt_of_le (Heap.lt_size e) hT)
 refine I.step (g':=s.gens) (d':=s.drawn) (ch:=ch) (fun b hb => ?_) (fun b ob _ _ hc e _=>k b ob hc e) (fun b ob _ _ hc e _=>⟨ob.slots,k b ob hc e⟩) (fun b ob _ e n=>by rw [aq (nT b ob e)]; exact n)
  (fun b ob hc e=>⟨ob,k b ob hc e⟩) (fun b xs e=>by rw [aq (au e hn)]; exact e) (fun b ob u e=>by rw [aq (au e hn)]; exact e) (fun b ps e=>⟨#[],by rw [aq (au e hn),e]; simp⟩) (fun m hm => ?_) (fun b u e => ?_) I.bare
 ·obtain ⟨g0,g1,g2,g3,g4,g5⟩:=f b hb
  exact ⟨g3,g1,g4,g5⟩
 ·obtain ⟨ob,es,ep,ho,r⟩:=hm
  exact ⟨ob,es,ep,k _ ob (fun z=>(f _ z).2.1 rfl) ho,r⟩
 ·by_cases hb:b=T
  ·subst hb
   rw [ae] at e
   cases e
   exact new
  ·rw [aq hb] at e
   refine (I.hok b u e).stay (fun c v hc q=>k c v ?_ q) (fun c q=>by rw [aq (au q hn)]; exact q) fun c xs q=>by rw [aq (au q hn)]; exact q
   intro z
   have n0:=(f c z).1
   rcases hc with hc | hc
   ·rw [hc,e] at n0; cases n0
   ·rw [hc] at n0; cases n0
open PySem PySem.Spec PyProof.Rows
open PySem.AutoSeq1 (wpAny_loadPart')
section
variable {prog:Program} {w:World} {A:Around} {E:Value->Shared->Prop} {s:Shared}
theorem pL {it t:Addr} {i:Nat} {items:Array Value} {x:Value} {Q:Value->Shared->Prop} (hi:s.heap.IsTupleIter it t i) (hl:s.heap.IsTuple t items) (hx:items[i]? = some x)
  (q:∀ h',h'.IsTupleIter it t (i + 1)->Heap.SameBut it s.heap h'->Q x { s with heap:=h' }):wpAny (model prog w) A (Builtin.SmallTypes.nextOf (.ref it)) Q E s:=by
 obtain ⟨o,eo,oc,od⟩:=id hi
 obtain ⟨ol,el,_,nl,dl⟩:=hl
 unfold Builtin.SmallTypes.nextOf
 refine wpAny_bind (wpAny_callSpecial?_slot (name:=Str.ofString "__next__") hi.typeIs F.slot_tuple_iterator_next (wpAny_call_entry F.slot_tuple_iterator_next hi.typeIs F.entry_tuple_iterator_next ?_ (F.args_tuple_iterator_next_1 _)))
 show wpAny _ _ (field (.ref it) 0 >>= _) _ _ s; refine wpAny_bind (wpAny_field eo od (x := .ref t) rfl ?_)
 show wpAny _ _ (if (Value.ref t == Value.none)=true then _ else _) _ _ s; rw [if_neg (show ¬ ((Value.ref t == Value.none)=true) from Bool.false_ne_true)]
 show wpAny _ _ (field (.ref it) 1 >>= _) _ _ s; refine wpAny_bind (wpAny_field eo od (x := .int i 0) rfl ?_)
 show wpAny _ _ (seqItems? (.ref t) >>= _) _ _ s; refine wpAny_bind (wpAny_seqItems el dl ?_)
 simp only [Int.toNat_natCast,hx]; refine wpAny_bind (wpAny_setField eo od (by simp) (wpAny_pure ⟨x,rfl,wpAny_pure (q _ ?_ (Heap.SameBut.update ..))⟩))
 exact ⟨_,Heap.get?_update_self _ eo (Obj.isFreed_of_fields (Obj.data_mapFields od _)),(Obj.cls_mapFields ..).trans oc,by rw [Obj.data_mapFields od]; simp [rawInt]⟩
theorem jE {it t:Addr} {i:Nat} {items:Array Value} {Q:Value->Shared->Prop} (hh:A.handled=none) (hi:s.heap.IsTupleIter it t i) (hl:s.heap.IsTuple t items) (hx:items[i]? = none)
  (q:∀ h' e,Heap.ExtBut it s.heap h'->(∃ o,h'.get? e=some o/\o.cls = .type "StopIteration")->E (.ref e) { s with heap:=h' }):wpAny (model prog w) A (Builtin.SmallTypes.nextOf (.ref it)) Q E s:=by
 obtain ⟨o,eo,oc,od⟩:=id hi
 obtain ⟨ol,el,_,nl,dl⟩:=hl
 unfold Builtin.SmallTypes.nextOf
 refine wpAny_bind (wpAny_callSpecial?_slot (name:=Str.ofString "__next__") hi.typeIs F.slot_tuple_iterator_next (wpAny_call_entry F.slot_tuple_iterator_next hi.typeIs F.entry_tuple_iterator_next ?_ (F.args_tuple_iterator_next_1 _)))
 show wpAny _ _ (field (.ref it) 0 >>= _) _ _ s; refine wpAny_bind (wpAny_field eo od (x := .ref t) rfl ?_)
 show wpAny _ _ (if (Value.ref t == Value.none)=true then _ else _) _ _ s; rw [if_neg (show ¬ ((Value.ref t == Value.none)=true) from Bool.false_ne_true)]
 show wpAny _ _ (field (.ref it) 1 >>= _) _ _ s; refine wpAny_bind (wpAny_field eo od (x := .int i 0) rfl ?_)
 show wpAny _ _ (seqItems? (.ref t) >>= _) _ _ s; refine wpAny_bind (wpAny_seqItems el dl ?_)
 simp only [Int.toNat_natCast,hx]; refine wpAny_bind (wpAny_rule (wpAny_bind (wpAny_setField eo od (by simp) ?_)))
 show wpAny _ _ (newExc (.type "StopIteration") [] >>= _) _ _ _; refine wpAny_bind ?_
 simp only [newExc,newTuple]; refine wpAny_bind (wpAny_newObj_type ?_ (by size_fits))
 refine wpAny_bind (m:=firstArgMember _ _) (wpAny_of_eq (a:=Value.none) (by first | rfl | (simp only [firstArgMember]; rfl)) ?_); refine wpAny_newObj_type ?_ (by size_fits)
 simp only [raiseNew]; refine wpAny_bind (wpAny_handled ?_)
 first | (rw [show A.in1.handled=none from hh]) | (rw [hh])
 refine wpAny_bind (wpAny_pure (wpAny_throw ?_)); exact q _ _ (((Heap.SameBut.update ..).extBut.push _).push _) ⟨_,Heap.get?_push_size _ rfl,rfl⟩
end
open PySem PySem.Spec PyProof.Rows
section
variable {X:Cx}
end
def zA (J:It) (g:TG) (tb:TS) (D:Ends) (σ:St) (H:Hp):Prop:=∃ W:Nat->Nat->St->Hp->Prop,(∃ m,W 0 m σ H)/\∀ i m σ H,W i m σ H →
 (J.stop i H/\D.nx σ H)\/(J.go i H/\∃ N:St->Hp->Prop,(∀ σ' H',N σ' H'->∃ m',m' < m/\W (i + 1) m' σ' H')/\∀ x H',J.yld i H x H'->g x σ H' fun σ2 H2=>tb { D with nx:=N,ct:=N,bk:=D.nx } σ2 H2)
end L2
namespace Srt
open PySem PyProof.Rows
def gal:Bool->Keyed->Array Keyed->Nat->Nat->Nat->StateT SortSt Sem (Option Nat):=sortPriv% PySem.Builtin.gallop
def mLo:Array Keyed->Array Keyed->StateT SortSt Sem (Array Keyed):=sortPriv% PySem.Builtin.mergeLo
def mHi:Array Keyed->Array Keyed->StateT SortSt Sem (Array Keyed):=sortPriv% PySem.Builtin.mergeHi
def mAt:Nat->StateT SortSt Sem Bool:=sortPriv% PySem.Builtin.mergeAt
def xF:StateT SortSt Sem Unit:=sortPriv% PySem.Builtin.sortRuns
def yo:Nat->Nat->StateT SortSt Sem (Option Nat):=sortPriv% PySem.Builtin.countRun
def ug:Nat->Nat->Nat->StateT SortSt Sem Bool:=sortPriv% PySem.Builtin.binarySort
theorem yp (lf:Bool) (ky:Keyed) (ar:Array Keyed) (bs n ht:Nat):gal lf ky ar bs n ht=(do
    let far (i:Nat):StateT SortSt Sem (Option Bool):=do
      let z ← elem' ar (bs + i)
      if lf then lt' z ky else return (← lt' ky z).map (!·)
    let mut la:=0; let mut of:=1
    let mut lo:=0; let mut hi:=0
    let some rt ← far ht | return none
    if rt then
      let mx:=n - ht
      for _ in [0:n] do
        if of ≥ mx then break
        let some mo ← far (ht + of)
          | return none
        if !mo then break
        la:=of; of:=2 * of + 1
      lo:=ht + la + 1; hi:=ht + min of mx
    else
      let mx:=ht + 1
      for _ in [0:n] do
        if of ≥ mx then break
        let some fd ← far (ht - of)
          | return none
        if fd then break
        la:=of; of:=2 * of + 1
      lo:=ht + 1 - min of mx; hi:=ht - la
    for _ in [0:n] do
      if lo ≥ hi then break
      let md:=lo + (hi - lo) / 2
      let some mo ← far md | return none
      if mo then lo:=md + 1 else hi:=md
    return some hi):=rfl
section
variable {prog:Program} {w:World} {A:Around} {E:Value->Shared->Prop} {s:Shared}
theorem uh {lf:Bool} {ky:Keyed} {ar:Array Keyed} {bs n ht:Nat} {st:SortSt} {Q:Option Nat->SortSt->Prop} (p:Nat->Bool)
    (hf:∀ i,i < n->∀ (Q:Option Bool->SortSt->Prop),Q (some (p i)) st->wpS (model prog w) A E s (do let z ← elem' ar (bs + i); if lf then lt' z ky else return (← lt' ky z).map (!·)) Q st)
    (hp:∀ i j,i<=j->j < n->p j=true->p i=true) (hh:ht < n)
    (h:∀ k,k<=n->(∀ i,i < k->p i=true)->(∀ i,k<=i->i < n->p i=false)->Q (some k) st):wpS (model prog w) A E s (gal lf ky ar bs n ht) Q st:=by
  rw [yp]
  dsimp only
  refine wpS_bind (hf ht hh _ ?_)
  dsimp only
  cases hr:p ht with
  | true =>
    rw [if_pos rfl]
    refine wpS_bind (wpS_mono (wpS_forRange (I:=fun x c st'=>st=st'/\∃ la of,c=(none,la,of)/\la < of/\x + 1<=of/\ht + la < n/\p (ht + la)=true)
      (Q:=fun c st'=>st=st'/\∃ la of,c=(none,la,of)/\la < of/\ht + la < n/\p (ht + la)=true/\(n - ht<=of\/(ht + of < n/\p (ht + of)=false))) ?step ?fin ⟨rfl,0,1,rfl,by omega,by omega,by omega,by simpa using hr⟩) ?post)
    case fin =>
      rintro c st' ⟨rfl,la,of,rfl,b1,b2,b3,b4⟩
      exact ⟨rfl,la,of,rfl,b1,b3,b4,.inl (by omega)⟩
    case step =>
      rintro x c st' _ hx ⟨rfl,la,of,rfl,b1,b2,b3,b4⟩
      dsimp only
      by_cases hge:of ≥ n - ht
      · rw [if_pos hge]
        exact wpS_pure ⟨rfl,la,of,rfl,b1,b3,b4,.inl hge⟩
      · rw [if_neg hge]
        refine wpS_bind (hf _ (by omega) _ ?_)
        dsimp only
        cases hm:p (ht + of) with
        | true =>
          simp only [Bool.not_true,Bool.false_eq_true,if_false]
          exact wpS_pure ⟨rfl,of,2 * of + 1,rfl,by omega,by omega,by omega,hm⟩
        | false =>
          simp only [Bool.not_false,if_true]
          exact wpS_pure ⟨rfl,la,of,rfl,b1,b3,b4,.inr ⟨by omega,hm⟩⟩
    case post =>
      rintro c st' ⟨rfl,la,of,rfl,b1,b3,b4,b5⟩
      have h1:(ht + la + 1)<=(ht + min of (n - ht)):=by omega
      have h2:(ht + min of (n - ht))<=n:=by omega
      have h3:∀ i,i < (ht + la + 1)->p i=true:=fun i hi=>hp i (ht + la) (by omega) b3 b4
      have h4:∀ i,(ht + min of (n - ht))<=i->i < n->p i=false:=fun i hi hn=>by
        rcases b5 with b5 | ⟨b5,b6⟩
        · omega
        · cases hpi:p i with
          | false=>rfl
          | true=>rw [hp (ht + of) i (by omega) hn hpi] at b6; cases b6
      dsimp only
      refine wpS_bind (wpS_mono (wpS_forRange (I:=fun x c st'=>st=st'/\∃ lo hi,c=(none,lo,hi)/\lo<=hi/\hi<=n/\hi - lo<=n - x/\(∀ i,i < lo->p i=true)/\(∀ i,hi<=i->i < n->p i=false))
        (Q:=fun c st'=>st=st'/\∃ k,c=(none,k,k)/\k<=n/\(∀ i,i < k->p i=true)/\(∀ i,k<=i->i < n->p i=false)) ?step ?fin ⟨rfl,(ht + la + 1),(ht + min of (n - ht)),rfl,h1,h2,by omega,h3,h4⟩) ?post)
      case fin =>
        rintro c st' ⟨rfl,lo,hi,rfl,a1,a2,a3,a4,a5⟩
        have e:lo=hi:=by omega
        subst e
        exact ⟨rfl,lo,rfl,a2,a4,a5⟩
      case post =>
        rintro c st' ⟨rfl,k,rfl,a2,a4,a5⟩
        exact wpS_pure (h k a2 a4 a5)
      case step =>
        rintro x c st' _ hx ⟨rfl,lo,hi,rfl,a1,a2,a3,a4,a5⟩
        dsimp only
        by_cases hge:lo ≥ hi
        · rw [if_pos hge]
          have e:lo=hi:=by omega
          subst e
          exact wpS_pure ⟨rfl,lo,rfl,a2,a4,a5⟩
        · rw [if_neg hge]
          refine wpS_bind (hf _ (by omega) _ ?_)
          dsimp only
          cases hm:p (lo + (hi - lo) / 2) with
          | true =>
            rw [if_pos rfl]
            exact wpS_pure ⟨rfl,_,_,rfl,by omega,a2,by omega,fun i hi'=>hp i _ (by omega) (by omega) hm,a5⟩
          | false =>
            rw [if_neg (by simp)]
            refine wpS_pure ⟨rfl,_,_,rfl,by omega,by omega,by omega,a4,fun i hi' hn => ?_⟩
            cases hpi:p i with
            | false=>rfl
            | true=>rw [hp _ i hi' hn hpi] at hm; cases hm
  | false =>
    rw [if_neg (by simp)]
    refine wpS_bind (wpS_mono (wpS_forRange (I:=fun x c st'=>st=st'/\∃ la of,c=(none,la,of)/\la < of/\x + 1<=of/\la<=ht/\p (ht - la)=false)
      (Q:=fun c st'=>st=st'/\∃ la of,c=(none,la,of)/\la < of/\la<=ht/\p (ht - la)=false/\(ht + 1<=of\/(of<=ht/\p (ht - of)=true))) ?step ?fin ⟨rfl,0,1,rfl,by omega,by omega,by omega,by simpa using hr⟩) ?post)
    case fin =>
      rintro c st' ⟨rfl,la,of,rfl,b1,b2,b3,b4⟩
      exact ⟨rfl,la,of,rfl,b1,b3,b4,.inl (by omega)⟩
    case step =>
      rintro x c st' _ hx ⟨rfl,la,of,rfl,b1,b2,b3,b4⟩
      dsimp only
      by_cases hge:of ≥ ht + 1
      · rw [if_pos hge]
        exact wpS_pure ⟨rfl,la,of,rfl,b1,b3,b4,.inl hge⟩
      · rw [if_neg hge]
        refine wpS_bind (hf _ (by omega) _ ?_)
        dsimp only
        cases hm:p (ht - of) with
        | true =>
          rw [if_pos rfl]
          exact wpS_pure ⟨rfl,la,of,rfl,b1,b3,b4,.inr ⟨by omega,hm⟩⟩
        | false =>
          rw [if_neg (by simp)]
          exact wpS_pure ⟨rfl,of,2 * of + 1,rfl,by omega,by omega,by omega,hm⟩
    case post =>
      rintro c st' ⟨rfl,la,of,rfl,b1,b3,b4,b5⟩
      have h1:(ht + 1 - min of (ht + 1))<=(ht - la):=by omega
      have h2:(ht - la)<=n:=by omega
      have h3:∀ i,i < (ht + 1 - min of (ht + 1))->p i=true:=fun i hi=>by
        rcases b5 with b5 | ⟨b5,b6⟩
        · omega
        · exact hp i (ht - of) (by omega) (by omega) b6
      have h4:∀ i,(ht - la)<=i->i < n->p i=false:=fun i hi hn=>by
        cases hpi:p i with
        | false=>rfl
        | true=>rw [hp (ht - la) i hi hn hpi] at b4; cases b4
      dsimp only
      refine wpS_bind (wpS_mono (wpS_forRange (I:=fun x c st'=>st=st'/\∃ lo hi,c=(none,lo,hi)/\lo<=hi/\hi<=n/\hi - lo<=n - x/\(∀ i,i < lo->p i=true)/\(∀ i,hi<=i->i < n->p i=false))
        (Q:=fun c st'=>st=st'/\∃ k,c=(none,k,k)/\k<=n/\(∀ i,i < k->p i=true)/\(∀ i,k<=i->i < n->p i=false)) ?step ?fin ⟨rfl,(ht + 1 - min of (ht + 1)),(ht - la),rfl,h1,h2,by omega,h3,h4⟩) ?post)
      case fin =>
        rintro c st' ⟨rfl,lo,hi,rfl,a1,a2,a3,a4,a5⟩
        have e:lo=hi:=by omega
        subst e
        exact ⟨rfl,lo,rfl,a2,a4,a5⟩
      case post =>
        rintro c st' ⟨rfl,k,rfl,a2,a4,a5⟩
        exact wpS_pure (h k a2 a4 a5)
      case step =>
        rintro x c st' _ hx ⟨rfl,lo,hi,rfl,a1,a2,a3,a4,a5⟩
        dsimp only
        by_cases hge:lo ≥ hi
        · rw [if_pos hge]
          have e:lo=hi:=by omega
          subst e
          exact wpS_pure ⟨rfl,lo,rfl,a2,a4,a5⟩
        · rw [if_neg hge]
          refine wpS_bind (hf _ (by omega) _ ?_)
          dsimp only
          cases hm:p (lo + (hi - lo) / 2) with
          | true =>
            rw [if_pos rfl]
            exact wpS_pure ⟨rfl,_,_,rfl,by omega,a2,by omega,fun i hi'=>hp i _ (by omega) (by omega) hm,a5⟩
          | false =>
            rw [if_neg (by simp)]
            refine wpS_pure ⟨rfl,_,_,rfl,by omega,by omega,by omega,a4,fun i hi' hn => ?_⟩
            cases hpi:p i with
            | false=>rfl
            | true=>rw [hp _ i hi' hn hpi] at hm; cases hm
end
open PySem PyProof.Rows
structure Cmp (prog:Program) (w:World) (A:Around) (s:Shared) (O:KeyOrd) (key:Keyed->O.α) (U:Keyed->Prop) (κ : SortKind):Prop where
 lt:∀ (E:Value->Shared->Prop) (st:SortSt) (x y:Keyed) (Q:Option Bool->SortSt->Prop),kindOf st = κ -> U x->U y->Q (some (O.blt (key x) (key y))) st->wpS (model prog w) A E s (lt' x y) Q st
section
variable {prog:Program} {w:World} {A:Around} {E:Value->Shared->Prop} {s:Shared} {O:KeyOrd} {key:Keyed->O.α} {U:Keyed->Prop} {κ : SortKind}
theorem aT {ar:Array Keyed} {i:Nat} {z:Keyed} {st:SortSt} {Q:Keyed->SortSt->Prop} (h:ar[i]? = some z) (hq:Q z st):wpS (model prog w) A E s (elem' ar i) Q st:=by
 rw [elem'_eq,h]
 exact wpS_pure hq
theorem yq (C:Cmp prog w A s O key U κ) {ky:Keyed} {ar:Array Keyed} {bs n ht:Nat} {st:SortSt} {Q:Option Nat->SortSt->Prop} (g:Nat->Keyed) (hk:kindOf st = κ) (uk:U ky)
  (hg:∀ i,i < n->ar[bs + i]? = some (g i)) (hu:∀ i,i < n->U (g i)) (hs:∀ i j,i<=j->j < n->O.kle (key (g i)) (key (g j))) (hh:ht < n)
  (h:∀ k,k<=n->(∀ i,i < k->O.kle (key (g i)) (key ky))->(∀ i,k<=i->i < n->O.klt (key ky) (key (g i)))->Q (some k) st):wpS (model prog w) A E s (gal false ky ar bs n ht) Q st:=by
 refine uh (fun i => !O.blt (key ky) (key (g i))) (fun i hi R hr => ?_) (fun i j hij hj hp => ?_) hh (fun k hk' h1 h2=>h k hk' (fun i hi => ?_) fun i hi hn => ?_)
 ·refine wpS_bind (aT (hg i hi) ?_)
  rw [if_neg (by simp)]
  exact wpS_bind (C.lt _ st ky (g i) _ hk uk (hu i hi) (wpS_pure hr))
 ·have a1:O.blt (key ky) (key (g j))=false:=by simpa using hp
  have a2:O.kle (key (g i)) (key ky):=KeyOrd.kle_trans (hs i j hij hj) a1
  have a3:O.blt (key ky) (key (g i))=false:=a2
  simp [a3]
 ·have a1:=h1 i hi
  exact (by simpa using a1:O.blt (key ky) (key (g i))=false)
 ·have a1:=h2 i hi hn
  exact (by simpa using a1:O.blt (key ky) (key (g i))=true)
theorem yr (C:Cmp prog w A s O key U κ) {ky:Keyed} {ar:Array Keyed} {bs n ht:Nat} {st:SortSt} {Q:Option Nat->SortSt->Prop} (g:Nat->Keyed) (hk:kindOf st = κ) (uk:U ky)
  (hg:∀ i,i < n->ar[bs + i]? = some (g i)) (hu:∀ i,i < n->U (g i)) (hs:∀ i j,i<=j->j < n->O.kle (key (g i)) (key (g j))) (hh:ht < n)
  (h:∀ k,k<=n->(∀ i,i < k->O.klt (key (g i)) (key ky))->(∀ i,k<=i->i < n->O.kle (key ky) (key (g i)))->Q (some k) st):wpS (model prog w) A E s (gal true ky ar bs n ht) Q st:=by
 refine uh (fun i=>O.blt (key (g i)) (key ky)) (fun i hi R hr => ?_) (fun i j hij hj hp => ?_) hh (fun k hk' h1 h2=>h k hk' (fun i hi=>h1 i hi) fun i hi hn=>h2 i hi hn)
 ·refine wpS_bind (aT (hg i hi) ?_)
  rw [if_pos rfl]
  exact C.lt _ st (g i) ky _ hk (hu i hi) uk hr
 ·exact KeyOrd.klt_of_kle_of_klt (hs i j hij hj) hp
end
open PySem PyProof.Rows
section
variable {O:KeyOrd} (key:Keyed->O.α)
def Le (p q:Keyed):Prop:=O.kle (key p) (key q)
structure MW (a b o:Array Keyed) (x y:Nat):Prop where
 hx:x<=a.size
 hy:y<=b.size
 perm:(o.toList ++ (a.toList.drop x ++ b.toList.drop y)).Perm (a.toList ++ b.toList)
 sorted:o.toList.Pairwise (Le key)
 below:∀ p ∈ o.toList,∀ z ∈ a.toList.drop x ++ b.toList.drop y,Le key p z
def dA (a b r:Array Keyed):Prop:=r.toList.Perm (a.toList ++ b.toList)/\r.toList.Pairwise (Le key)
variable {key}
theorem MW.fin {a b o:Array Keyed} {x y:Nat} (m:MW key a b o x y) {t:List Keyed} {r:Array Keyed} (hr:r.toList=o.toList ++ t) (ht:t.Perm (a.toList.drop x ++ b.toList.drop y)) (hs:t.Pairwise (Le key)):dA key a b r:=by
 unfold dA
 rw [hr]
 exact ⟨(List.Perm.append_left _ ht).trans m.perm,List.pairwise_append.mpr ⟨m.sorted,hs,fun p hp q hq=>m.below p hp q (ht.mem_iff.mp hq)⟩⟩
theorem MW.take {a b o:Array Keyed} {x y x' y':Nat} (m:MW key a b o x y) {t:List Keyed} {r:Array Keyed} (hr:r.toList=o.toList ++ t) (hx:x'<=a.size) (hy:y'<=b.size)
  (ht:(t ++ (a.toList.drop x' ++ b.toList.drop y')).Perm (a.toList.drop x ++ b.toList.drop y)) (hs:t.Pairwise (Le key)) (hb:∀ p ∈ t,∀ z ∈ a.toList.drop x' ++ b.toList.drop y',Le key p z):MW key a b r x' y':=by
 have sub:∀ z,z ∈ t\/z ∈ a.toList.drop x' ++ b.toList.drop y'->z ∈ a.toList.drop x ++ b.toList.drop y:=fun z hz=>ht.mem_iff.mp (List.mem_append.mpr hz)
 refine ⟨hx,hy,?_,?_,?_⟩
 ·rw [hr,List.append_assoc]
  exact (List.Perm.append_left _ ht).trans m.perm
 ·rw [hr]
  exact List.pairwise_append.mpr ⟨m.sorted,hs,fun p hp q hq=>m.below p hp q (sub q (.inl hq))⟩
 ·rw [hr]
  intro p hp z hz
  rcases List.mem_append.mp hp with h | h
  ·exact m.below p h z (sub z (.inr hz))
  ·exact hb p h z hz
theorem drop_cons {α : Type} {l:List α} {i:Nat} {z : α} (h:l[i]? = some z):l.drop i=z :: l.drop (i + 1):=by
 obtain ⟨hi,e⟩:=List.getElem?_eq_some_iff.mp h
 rw [List.drop_eq_getElem_cons hi,e]
theorem drop_take {α : Type} (l:List α) (i k:Nat):l.drop i=(l.drop i).take k ++ l.drop (i + k):=by
 rw [<- List.drop_drop,List.take_append_drop]
theorem ax {a:Array Keyed} {i:Nat} {z:Keyed} (h:a[i]? = some z):a.toList[i]? = some z:=by rw [Array.getElem?_toList]; exact h
theorem MW.iY {a b o:Array Keyed} {x y:Nat} {z:Keyed} (m:MW key a b o x y) (h:a[x]? = some z) (ha:a.toList.Pairwise (Le key)) (hb:∀ t ∈ b.toList.drop y,Le key z t):MW key a b (o.push z) (x + 1) y:=by
 have e:=drop_cons (ax h)
 have hx:x < a.size:=(Array.getElem?_eq_some_iff.mp h).1
 have pa:(z :: a.toList.drop (x + 1)).Pairwise (Le key):=by rw [<- e]; exact ha.sublist (List.drop_sublist _ _)
 refine m.take (t:=[z]) (by rw [Array.toList_push]) hx m.hy (by rw [e]; exact List.Perm.refl _) (List.pairwise_singleton _ _) fun p hp t ht => ?_
 have ep:p=z:=by simpa using hp
 subst ep
 rcases List.mem_append.mp ht with q | q
 ·exact (List.pairwise_cons.mp pa).1 t q
 ·exact hb t q
theorem MW.kX {a b o:Array Keyed} {x y:Nat} {z:Keyed} (m:MW key a b o x y) (h:b[y]? = some z) (hb:b.toList.Pairwise (Le key)) (ha:∀ t ∈ a.toList.drop x,Le key z t):MW key a b (o.push z) x (y + 1):=by
 have e:=drop_cons (ax h)
 have hy:y < b.size:=(Array.getElem?_eq_some_iff.mp h).1
 have pb:(z :: b.toList.drop (y + 1)).Pairwise (Le key):=by rw [<- e]; exact hb.sublist (List.drop_sublist _ _)
 refine m.take (t:=[z]) (by rw [Array.toList_push]) m.hx hy (by rw [e,List.singleton_append]; exact List.perm_middle.symm) (List.pairwise_singleton _ _) fun p hp t ht => ?_
 have ep:p=z:=by simpa using hp
 subst ep
 rcases List.mem_append.mp ht with q | q
 ·exact ha t q
 ·exact (List.pairwise_cons.mp pb).1 t q
theorem ext_toList (a:Array Keyed) (x k:Nat):(a.extract x (x + k)).toList=(a.toList.drop x).take k:=by
 rw [Array.toList_extract,List.extract_eq_take_drop,Nat.add_sub_cancel_left]
theorem fL (a:Array Keyed) (x:Nat):(a.extract x a.size).toList=a.toList.drop x:=by
 rw [Array.toList_extract,List.extract_eq_take_drop]
 exact List.take_of_length_le (by rw [List.length_drop,Array.length_toList]; exact Nat.le_refl _)
theorem az {l:List Keyed} (h:l.Pairwise (Le key)) {i j:Nat} {p q:Keyed} (hi:l[i]? = some p) (hj:l[j]? = some q) (hij:i<=j):Le key p q:=by
 by_cases e:i=j
 ·subst e
  rw [hi] at hj
  cases hj
  exact KeyOrd.kle_refl _
 ·obtain ⟨h1,e1⟩:=List.getElem?_eq_some_iff.mp hi
  obtain ⟨h2,e2⟩:=List.getElem?_eq_some_iff.mp hj
  have:=List.pairwise_iff_getElem.mp h i j h1 h2 (by omega)
  rw [e1,e2] at this
  exact this
theorem aS {l:List Keyed} {i:Nat} {t:Keyed} (h:t ∈ l.drop i):∃ j,i<=j/\l[j]? = some t:=by
 obtain ⟨n,e⟩:=List.mem_iff_getElem?.mp h
 rw [List.getElem?_drop] at e
 exact ⟨i + n,by omega,e⟩
theorem iZ {l:List Keyed} {i k:Nat} {t:Keyed} (h:t ∈ (l.drop i).take k):∃ j,j < k/\l[i + j]? = some t:=by
 obtain ⟨n,e⟩:=List.mem_iff_getElem?.mp h
 rw [List.getElem?_take] at e
 split at e
 ·rw [List.getElem?_drop] at e
  exact ⟨n,by omega,e⟩
 ·cases e
theorem MW.uj {a b o:Array Keyed} {x y k:Nat} (m:MW key a b o x y) (hk:x + k<=a.size) (ha:a.toList.Pairwise (Le key)) (hb:∀ j p,j < k->a.toList[x + j]? = some p->∀ t ∈ b.toList.drop y,Le key p t):MW key a b (o ++ a.extract x (x + k)) (x + k) y:=by
 refine m.take (t:=(a.toList.drop x).take k) (by rw [Array.toList_append,ext_toList]) hk m.hy ?_ ?_ fun p hp t ht => ?_
 ·rw [<- List.append_assoc, <- drop_take]
 ·exact ha.sublist ((List.take_sublist _ _).trans (List.drop_sublist _ _))
 ·obtain ⟨j,hj,e⟩:=iZ hp
  rcases List.mem_append.mp ht with q | q
  ·obtain ⟨i,hi,e2⟩:=aS q
   exact az ha e e2 (by omega)
  ·exact hb j p hj e t q
theorem MW.uo {a b o:Array Keyed} {x y k:Nat} (m:MW key a b o x y) (hk:y + k<=b.size) (hb:b.toList.Pairwise (Le key)) (ha:∀ j p,j < k->b.toList[y + j]? = some p->∀ t ∈ a.toList.drop x,Le key p t):MW key a b (o ++ b.extract y (y + k)) x (y + k):=by
 refine m.take (t:=(b.toList.drop y).take k) (by rw [Array.toList_append,ext_toList]) m.hx hk ?_ ?_ fun p hp t ht => ?_
 ·rw [drop_take b.toList y k]
  have e:((b.toList.drop y).take k ++ b.toList.drop (y + k)).take k=(b.toList.drop y).take k:=by rw [<- drop_take]
  rw [e]
  refine (List.perm_append_comm_assoc _ _ _)
 ·exact hb.sublist ((List.take_sublist _ _).trans (List.drop_sublist _ _))
 ·obtain ⟨j,hj,e⟩:=iZ hp
  rcases List.mem_append.mp ht with q | q
  ·exact ha j p hj e t q
  ·obtain ⟨i,hi,e2⟩:=aS q
   exact az hb e e2 (by omega)
theorem MW.rK {a b o:Array Keyed} {x y:Nat} (m:MW key a b o x y) (ha:a.toList.Pairwise (Le key)) (hy:y=b.size):dA key a b (o ++ a.extract x a.size ++ b.extract y b.size):=by
 subst hy
 have e:b.toList.drop b.size=[]:=List.drop_eq_nil_of_le (by rw [Array.length_toList]; exact Nat.le_refl _)
 refine m.fin (t:=a.toList.drop x) (by rw [Array.toList_append,Array.toList_append,fL,fL,e,List.append_nil]) (by rw [e,List.append_nil]) (ha.sublist (List.drop_sublist _ _))
theorem MW.rL {a b o:Array Keyed} {x y:Nat} (m:MW key a b o x y) (hb:b.toList.Pairwise (Le key)) (hx:x=a.size):dA key a b (o ++ a.extract x a.size ++ b.extract y b.size):=by
 subst hx
 have e:a.toList.drop a.size=[]:=List.drop_eq_nil_of_le (by rw [Array.length_toList]; exact Nat.le_refl _)
 refine m.fin (t:=b.toList.drop y) (by rw [Array.toList_append,Array.toList_append,fL,fL,e,List.append_nil]) (by rw [e,List.nil_append]) (hb.sublist (List.drop_sublist _ _))
theorem MW.last {a b o:Array Keyed} {x y:Nat} (m:MW key a b o x y) (ha:a.toList.Pairwise (Le key)) (hb:b.toList.Pairwise (Le key)) (hx:x + 1=a.size) (hl:∀ p q,p ∈ b.toList->a[a.size - 1]? = some q->Le key p q):dA key a b (o ++ b.extract y b.size ++ a.extract x a.size):=by
 refine m.fin (t:=b.toList.drop y ++ a.toList.drop x) (by rw [Array.toList_append,Array.toList_append,fL,fL,List.append_assoc]) List.perm_append_comm ?_
 refine List.pairwise_append.mpr ⟨hb.sublist (List.drop_sublist _ _),ha.sublist (List.drop_sublist _ _),fun p hp q hq=>hl p q (List.mem_of_mem_drop hp) ?_⟩
 obtain ⟨i,hi,e⟩:=aS hq
 rw [Array.getElem?_toList] at e
 have hi2:i < a.size:=(Array.getElem?_eq_some_iff.mp e).1
 rw [show a.size - 1=i by omega]
 exact e
theorem MW.size {a b o:Array Keyed} {x y:Nat} (m:MW key a b o x y):o.size + (a.size - x) + (b.size - y)=a.size + b.size:=by
 have e:=m.perm.length_eq
 simp only [List.length_append,List.length_drop,Array.length_toList] at e
 omega
end
structure Sm (st st':SortSt):Prop where
 k:kindOf st'=kindOf st
 a:arrOf st'=arrOf st
 p:pendingOf st'=pendingOf st
 f:failedOf st'=failedOf st
theorem Sm.refl (st:SortSt):Sm st st:=⟨rfl,rfl,rfl,rfl⟩
theorem Sm.mg {st st':SortSt} (h:Sm st st') (n:Nat):Sm st (SortSt.mk' (kindOf st') (arrOf st') (pendingOf st') n (failedOf st')):=⟨h.k,h.a,h.p,h.f⟩
open PySem PyProof.Rows
section
variable {prog:Program} {w:World} {A:Around} {E:Value->Shared->Prop} {s:Shared} {O:KeyOrd} {key:Keyed->O.α} {U:Keyed->Prop} {κ : SortKind}
theorem aV {a:Array Keyed} {i:Nat} (h:i < a.size):∃ z,a[i]? = some z:=⟨a[i],by simp [h]⟩
theorem bz {a:Array Keyed} {i:Nat} {z:Keyed} (h:a[i]? = some z):z ∈ a.toList:=List.mem_iff_getElem?.mpr ⟨i,by rw [Array.getElem?_toList]; exact h⟩
theorem ltq {x n:Nat} (h:x<=n) (c:¬ (x == n)=true):x < n:=Nat.lt_of_le_of_ne h fun z=>c (beq_iff_eq.mpr z)
abbrev LoC:=Option (Array Keyed) × Array Keyed × Nat × Nat × Nat × Nat × Nat
def we (a b o:Array Keyed) (x y mg ac bc:Nat):StateT SortSt Sem (ForInStep LoC):=do
  let z ← elem' a x
  if (x + 1 + 1 == a.size)=true then pure (.done (some (o.push z ++ b.extract y b.size ++ a.extract (x + 1) a.size),o.push z,x + 1,y,mg,ac,bc))
  else if (decide (ac < 7) && decide (bc < 7))=true then pure (.done (none,o.push z,x + 1,y,mg,ac,bc))
  else pure (.yield (none,o.push z,x + 1,y,mg,ac,bc))
def wg (a b o:Array Keyed) (x y mg ac bc:Nat):StateT SortSt Sem (ForInStep LoC):=do
  let z ← elem' b y
  if (y + 1 == b.size)=true then pure (.done (some (o.push z ++ a.extract x a.size ++ b.extract (y + 1) b.size),o.push z,x,y + 1,mg,ac,bc))
  else do
    let z2 ← elem' a x
    let __x ← gal true z2 b (y + 1) (b.size - (y + 1)) 0
    match __x with
    | some k =>
      if k > 0 then
        if (y + 1 + k == b.size)=true then pure (.done (some (o.push z ++ b.extract (y + 1) (y + 1 + k) ++ a.extract x a.size ++ b.extract (y + 1 + k) b.size),o.push z ++ b.extract (y + 1) (y + 1 + k),x,y + 1 + k,mg,ac,k))
        else we a b (o.push z ++ b.extract (y + 1) (y + 1 + k)) x (y + 1 + k) mg ac k
      else we a b (o.push z) x (y + 1) mg ac k
    | _=>pure (.done (some (o.push z ++ a.extract x a.size ++ b.extract (y + 1) b.size),o.push z,x,y + 1,mg,ac,bc))
def rM (a b p:Array Keyed) (x y ac bc mg:Nat):StateT SortSt Sem (ForInStep LoC):=do
  modify (fun s=>SortSt.mk' (kindOf s) (arrOf s) (pendingOf s) mg (failedOf s))
  let z ← elem' b y
  let __x ← gal false z a x (a.size - x) 0
  match __x with
  | some k =>
    if k > 0 then
      if (x + k + 1 == a.size)=true then pure (.done (some (p ++ a.extract x (x + k) ++ b.extract y b.size ++ a.extract (x + k) a.size),p ++ a.extract x (x + k),x + k,y,mg,k,bc))
      else if (x + k == a.size)=true then pure (.done (some (p ++ a.extract x (x + k) ++ a.extract (x + k) a.size ++ b.extract y b.size),p ++ a.extract x (x + k),x + k,y,mg,k,bc))
      else wg a b (p ++ a.extract x (x + k)) (x + k) y mg k bc
    else wg a b p x y mg k bc
  | _=>pure (.done (some (p ++ a.extract x a.size ++ b.extract y b.size),p,x,y,mg,ac,bc))
def LoQ (key:Keyed->O.α) (a b:Array Keyed) (st:SortSt) (n:Nat) (r:ForInStep LoC) (st':SortSt):Prop:=match r with
 | .done c=>Sm st st'/\((∃ r p x y mg ac bc,c=(some r,p,x,y,mg,ac,bc)/\dA key a b r)\/∃ p x y mg ac bc,c=(none,p,x,y,mg,ac,bc)/\MW key a b p x y/\x + 1 < a.size/\y < b.size/\n<=p.size)
 | .yield c=>Sm st st'/\∃ p x y mg ac bc,c=(none,p,x,y,mg,ac,bc)/\MW key a b p x y/\x + 1 < a.size/\y < b.size/\n<=p.size
theorem LoQ.out {a b:Array Keyed} {st st':SortSt} {n:Nat} {r:Array Keyed} {c:Array Keyed × Nat × Nat × Nat × Nat × Nat} (sm:Sm st st') (f:dA key a b r):LoQ key a b st n (.done (some r,c)) st':=by
 obtain ⟨p,x,y,mg,ac,bc⟩:=c
 exact ⟨sm,.inl ⟨_,_,_,_,_,_,_,rfl,f⟩⟩
theorem qA {a b:Array Keyed} {st st':SortSt} (ha:a.toList.Pairwise (Le key)) (hb:b.toList.Pairwise (Le key)) (hl:∀ p q,p ∈ b.toList->a[a.size - 1]? = some q->Le key p q)
  {o:Array Keyed} {x y mg ac bc n:Nat} {za:Keyed} (sm:Sm st st') (ea:a[x]? = some za) (m4:MW key a b (o.push za) (x + 1) y) (hx:x + 1 < a.size) (hy:y < b.size) (hn:n<=o.size):wpS (model prog w) A E s (we a b o x y mg ac bc) (LoQ key a b st n) st':=by
 unfold we
 refine wpS_bind (aT ea ?_)
 by_cases d5:(x + 1 + 1 == a.size)=true
 ·rw [if_pos d5]
  exact wpS_pure (LoQ.out sm (m4.last ha hb (beq_iff_eq.mp d5) hl))
 rw [if_neg d5]
 have hx2:x + 1 + 1 < a.size:=ltq hx d5
 have hn':n<=(o.push za).size:=by rw [Array.size_push]; exact Nat.le_succ_of_le hn
 split
 ·exact wpS_pure ⟨sm,.inr ⟨_,_,_,_,_,_,rfl,m4,hx2,hy,hn'⟩⟩
 ·exact wpS_pure ⟨sm,_,_,_,_,_,_,rfl,m4,hx2,hy,hn'⟩
theorem qB (C:Cmp prog w A s O key U κ) {a b:Array Keyed} {st st':SortSt} (hκ : kindOf st = κ) (ua:∀ p ∈ a.toList,U p) (ub:∀ p ∈ b.toList,U p)
  (ha:a.toList.Pairwise (Le key)) (hb:b.toList.Pairwise (Le key)) (hl:∀ p q,p ∈ b.toList->a[a.size - 1]? = some q->Le key p q)
  {o:Array Keyed} {x y mg ac bc n:Nat} {zb:Keyed} (sm:Sm st st') (eb:b[y]? = some zb) (mk:MW key a b o x y) (bl:∀ t ∈ a.toList.drop x,Le key zb t) (hx1:x + 1 < a.size) (hy:y < b.size) (hn:n<=o.size):wpS (model prog w) A E s (wg a b o x y mg ac bc) (LoQ key a b st n) st':=by
 unfold wg
 refine wpS_bind (aT eb ?_)
 have m2:=mk.kX eb hb bl
 by_cases d3:(y + 1 == b.size)=true
 ·rw [if_pos d3]
  exact wpS_pure (LoQ.out sm (m2.rK ha (beq_iff_eq.mp d3)))
 rw [if_neg d3]
 have hy1:y + 1 < b.size:=ltq hy d3
 have hxa:x < a.size:=Nat.lt_of_succ_lt hx1
 obtain ⟨za,ea⟩:=aV hxa
 refine wpS_bind (aT ea ?_)
 refine wpS_bind (yr C (fun i=>(b[y + 1 + i]?).getD za) (sm.k.trans hκ) (ua _ (bz ea)) (fun i hi => ?_) (fun i hi => ?_) (fun i j hij hj => ?_) (Nat.sub_pos_of_lt hy1) fun k1 hk1 g1 g2 => ?_)
 ·obtain ⟨z,e⟩:=aV (show y + 1 + i < b.size by omega)
  rw [e]; rfl
 ·obtain ⟨z,e⟩:=aV (show y + 1 + i < b.size by omega)
  rw [e]; exact ub _ (bz e)
 ·obtain ⟨z,e⟩:=aV (show y + 1 + i < b.size by omega)
  obtain ⟨z',e'⟩:=aV (show y + 1 + j < b.size by omega)
  rw [e,e']; exact az hb (ax e) (ax e') (Nat.add_le_add_left hij _)
 dsimp only at g1 g2 ⊢
 have tb:∀ j q,j < k1->b.toList[y + 1 + j]? = some q->∀ t ∈ a.toList.drop x,Le key q t:=fun j q hj e t ht=>by
  have z:=g1 j hj
  rw [Array.getElem?_toList] at e
  rw [e] at z
  obtain ⟨n,hn,e2⟩:=aS ht
  exact KeyOrd.kle_trans (KeyOrd.kle_of_klt z) (az ha (ax ea) e2 hn)
 have hk1':y + 1 + k1<=b.size:=by omega
 have m3:=m2.uo (k:=k1) hk1' hb tb
 have bl2:∀ t ∈ b.toList.drop (y + 1 + k1),Le key za t:=fun t ht=>by
  obtain ⟨n,hn,e2⟩:=aS ht
  rw [Array.getElem?_toList] at e2
  have hn2:n < b.size:=(Array.getElem?_eq_some_iff.mp e2).1
  have z:=g2 (n - (y + 1)) (by omega) (by omega)
  rw [show y + 1 + (n - (y + 1))=n by omega,e2] at z
  exact z
 have hn1:n<=(o.push zb).size:=by rw [Array.size_push]; exact Nat.le_succ_of_le hn
 by_cases k2:k1 > 0
 ·rw [if_pos k2]
  by_cases d4:(y + 1 + k1 == b.size)=true
  ·rw [if_pos d4]
   exact wpS_pure (LoQ.out sm (m3.rK ha (beq_iff_eq.mp d4)))
  rw [if_neg d4]
  exact qA ha hb hl sm ea (m3.iY ea ha bl2) hx1 (ltq hk1' d4) (Nat.le_trans hn1 (by rw [Array.size_append]; exact Nat.le_add_right _ _))
 ·rw [if_neg k2]
  obtain rfl:k1=0:=Nat.eq_zero_of_not_pos k2
  exact qA ha hb hl sm ea (m2.iY ea ha bl2) hx1 hy1 hn1
theorem qC (C:Cmp prog w A s O key U κ) {a b:Array Keyed} {st st':SortSt} (hκ : kindOf st = κ) (ua:∀ p ∈ a.toList,U p) (ub:∀ p ∈ b.toList,U p)
  (ha:a.toList.Pairwise (Le key)) (hb:b.toList.Pairwise (Le key)) (hl:∀ p q,p ∈ b.toList->a[a.size - 1]? = some q->Le key p q)
  {p:Array Keyed} {x y ac bc n:Nat} (mg:Nat) (sm:Sm st st') (m:MW key a b p x y) (hx:x + 1 < a.size) (hy:y < b.size) (hn:n<=p.size):wpS (model prog w) A E s (rM a b p x y ac bc mg) (LoQ key a b st n) st':=by
 unfold rM
 obtain ⟨zb,eb⟩:=aV hy
 refine wpS_bind (wpS_modify ?_)
 refine wpS_bind (aT eb ?_)
 refine wpS_bind (yq C (fun i=>(a[x + i]?).getD zb) ((sm.mg _).k.trans hκ) (ub _ (bz eb)) (fun i hi => ?_) (fun i hi => ?_) (fun i j hij hj => ?_) (Nat.sub_pos_of_lt (Nat.lt_of_succ_lt hx)) fun k hk h1 h2 => ?_)
 ·obtain ⟨z,e⟩:=aV (show x + i < a.size by omega)
  rw [e]; rfl
 ·obtain ⟨z,e⟩:=aV (show x + i < a.size by omega)
  rw [e]; exact ua _ (bz e)
 ·obtain ⟨z,e⟩:=aV (show x + i < a.size by omega)
  obtain ⟨z',e'⟩:=aV (show x + j < a.size by omega)
  rw [e,e']; exact az ha (ax e) (ax e') (Nat.add_le_add_left hij _)
 dsimp only at h1 h2 ⊢
 have ta:∀ j q,j < k->a.toList[x + j]? = some q->∀ t ∈ b.toList.drop y,Le key q t:=fun j q hj e t ht=>by
  have z:=h1 j hj
  rw [Array.getElem?_toList] at e
  rw [e] at z
  obtain ⟨n,hn,e2⟩:=aS ht
  exact KeyOrd.kle_trans (show O.kle (key q) (key zb) from z) (az hb (ax eb) e2 hn)
 have hk':x + k<=a.size:=by omega
 have mk:=m.uj (k:=k) hk' ha ta
 have bl:∀ t ∈ a.toList.drop (x + k),Le key zb t:=fun t ht=>by
  obtain ⟨n,hn,e2⟩:=aS ht
  rw [Array.getElem?_toList] at e2
  have hn2:n < a.size:=(Array.getElem?_eq_some_iff.mp e2).1
  have z:=h2 (n - x) (by omega) (by omega)
  rw [show x + (n - x)=n by omega,e2] at z
  exact KeyOrd.kle_of_klt z
 by_cases k0:k > 0
 ·rw [if_pos k0]
  by_cases d1:(x + k + 1 == a.size)=true
  ·rw [if_pos d1]
   exact wpS_pure (LoQ.out (sm.mg _) (mk.last ha hb (beq_iff_eq.mp d1) hl))
  rw [if_neg d1]
  by_cases d2:(x + k == a.size)=true
  ·rw [if_pos d2]
   exact wpS_pure (LoQ.out (sm.mg _) (mk.rL hb (beq_iff_eq.mp d2)))
  rw [if_neg d2]
  exact qB C hκ ua ub ha hb hl (sm.mg _) eb mk bl (ltq (ltq hk' d2) d1) hy (Nat.le_trans hn (by rw [Array.size_append]; exact Nat.le_add_right _ _))
 ·rw [if_neg k0]
  obtain rfl:k=0:=Nat.eq_zero_of_not_pos k0
  exact qB C hκ ua ub ha hb hl (sm.mg _) eb m bl hx hy hn
theorem wj (C:Cmp prog w A s O key U κ) {a b:Array Keyed} {st st':SortSt} (hκ : kindOf st = κ) (ua:∀ p ∈ a.toList,U p) (ub:∀ p ∈ b.toList,U p)
  (ha:a.toList.Pairwise (Le key)) (hb:b.toList.Pairwise (Le key)) (hl:∀ p q,p ∈ b.toList->a[a.size - 1]? = some q->Le key p q)
  {p:Array Keyed} {x y ac bc n mg:Nat} (sm:Sm st st') (m:MW key a b p x y) (hx:x + 1 < a.size) (hy:y < b.size) (hn:n<=p.size):wpS (model prog w) A E s (if mg > 1 then rM a b p x y ac bc (mg - 1) else rM a b p x y ac bc mg) (LoQ key a b st n) st':=by
 split
 ·exact qC C hκ ua ub ha hb hl (mg - 1) sm m hx hy hn
 ·exact qC C hκ ua ub ha hb hl mg sm m hx hy hn
abbrev LoD:=Option (Array Keyed) × Array Keyed × Nat × Nat × Nat × Nat
abbrev LoE:=Option (Array Keyed) × Array Keyed × Nat × Nat × Nat
def uq (a b:Array Keyed) (mg:Nat) (c:LoD):StateT SortSt Sem (ForInStep LoD):=do
  let u ← elem' b c.2.2.2.1
  let v ← elem' a c.2.2.1
  let __x ← lt' u v
  match __x with
  | some bw =>
    if bw=true then do
      let z ← elem' b c.2.2.2.1
      if (c.2.2.2.1 + 1 == b.size)=true then pure (.done (some (c.2.1.push z ++ a.extract c.2.2.1 a.size ++ b.extract (c.2.2.2.1 + 1) b.size),c.2.1.push z,c.2.2.1,c.2.2.2.1 + 1,0,c.2.2.2.2.2 + 1))
      else if c.2.2.2.2.2 + 1 ≥ mg then pure (.done (none,c.2.1.push z,c.2.2.1,c.2.2.2.1 + 1,0,c.2.2.2.2.2 + 1))
      else pure (.yield (none,c.2.1.push z,c.2.2.1,c.2.2.2.1 + 1,0,c.2.2.2.2.2 + 1))
    else do
      let z ← elem' a c.2.2.1
      if (c.2.2.1 + 1 + 1 == a.size)=true then pure (.done (some (c.2.1.push z ++ b.extract c.2.2.2.1 b.size ++ a.extract (c.2.2.1 + 1) a.size),c.2.1.push z,c.2.2.1 + 1,c.2.2.2.1,c.2.2.2.2.1 + 1,0))
      else if c.2.2.2.2.1 + 1 ≥ mg then pure (.done (none,c.2.1.push z,c.2.2.1 + 1,c.2.2.2.1,c.2.2.2.2.1 + 1,0))
      else pure (.yield (none,c.2.1.push z,c.2.2.1 + 1,c.2.2.2.1,c.2.2.2.2.1 + 1,0))
  | _=>pure (.done (some (c.2.1 ++ a.extract c.2.2.1 a.size ++ b.extract c.2.2.2.1 b.size),c.2.1,c.2.2.1,c.2.2.2.1,c.2.2.2.2.1,c.2.2.2.2.2))
def yt (a b:Array Keyed) (c:LoC):StateT SortSt Sem (ForInStep LoC) :=
 if c.2.2.2.2.1 > 1 then rM a b c.2.1 c.2.2.1 c.2.2.2.1 c.2.2.2.2.2.1 c.2.2.2.2.2.2 (c.2.2.2.2.1 - 1) else rM a b c.2.1 c.2.2.1 c.2.2.2.1 c.2.2.2.2.2.1 c.2.2.2.2.2.2 c.2.2.2.2.1
def pM (a b:Array Keyed) (c:LoE):StateT SortSt Sem (ForInStep LoE):=do
  let d ← forIn [0:a.size + b.size] ((none,c.2.1,c.2.2.1,c.2.2.2.1,0,0):LoD) fun _ d=>uq a b c.2.2.2.2 d
  match d.1 with
  | some r=>pure (.done (some r,d.2.1,d.2.2.1,d.2.2.2.1,c.2.2.2.2))
  | none=>do
    rule "list.sort.gallop"
    let e ← forIn [0:a.size + b.size] ((none,d.2.1,d.2.2.1,d.2.2.2.1,c.2.2.2.2 + 1,d.2.2.2.2.1,d.2.2.2.2.2):LoC) fun _ e=>yt a b e
    match e.1 with
    | some r=>pure (.done (some r,e.2.1,e.2.2.1,e.2.2.2.1,e.2.2.2.2.1))
    | none=>do
      modify (fun s=>SortSt.mk' (kindOf s) (arrOf s) (pendingOf s) (e.2.2.2.2.1 + 1) (failedOf s))
      pure (.yield (none,e.2.1,e.2.2.1,e.2.2.2.1,e.2.2.2.2.1 + 1))
theorem wk (a b:Array Keyed):mLo a b=(do
    rule "list.sort.merge-lo"
    let z ← elem' b 0
    if (1 == b.size)=true then pure (#[z] ++ a.extract 0 a.size ++ b.extract 1 b.size)
    else if (0 + 1 == a.size)=true then pure (#[z] ++ b.extract 1 b.size ++ a.extract 0 a.size)
    else do
      let g ← get
      let c ← forIn [0:a.size + b.size] ((none, #[z],0,1,gallopOf g):LoE) fun _ c=>pM a b c
      match c.1 with
      | some r=>pure r
      | none=>unsupported "internal:list.sort.merge-bound"):=by
  kernel_rfl
def LdI (key:Keyed->O.α) (a b:Array Keyed) (st:SortSt) (n:Nat) (c:LoD) (st':SortSt):Prop:=Sm st st'/\∃ o' x y ac bc,c=(none,o',x,y,ac,bc)/\MW key a b o' x y/\x + 1 < a.size/\y < b.size/\n<=o'.size
def LdQ (key:Keyed->O.α) (a b:Array Keyed) (st:SortSt) (n:Nat) (c:LoD) (st':SortSt):Prop:=Sm st st'/\((∃ r o x y ac bc,c=(some r,o,x,y,ac,bc)/\dA key a b r)\/∃ o' x y ac bc,c=(none,o',x,y,ac,bc)/\MW key a b o' x y/\x + 1 < a.size/\y < b.size/\n<=o'.size)
theorem ur (C:Cmp prog w A s O key U κ) {a b:Array Keyed} {st st':SortSt} (hκ : kindOf st = κ) (ua:∀ p ∈ a.toList,U p) (ub:∀ p ∈ b.toList,U p)
  (ha:a.toList.Pairwise (Le key)) (hb:b.toList.Pairwise (Le key)) (hl:∀ p q,p ∈ b.toList->a[a.size - 1]? = some q->Le key p q)
  {mg n m':Nat} {c:LoD} (I:LdI key a b st n c st') (hm:m'<=n + 1) {Q:ForInStep LoD->SortSt->Prop} (h:∀ r st',(match r with | .done c'=>LdQ key a b st (n + 1) c' st' | .yield c'=>LdI key a b st m' c' st')->Q r st'):wpS (model prog w) A E s (uq a b mg c) Q st':=by
 obtain ⟨sm2,o',x,y,ac,bc,rfl,m,hx,hy,hz⟩:=I
 unfold uq
 obtain ⟨za,ea⟩:=aV (Nat.lt_of_succ_lt hx)
 obtain ⟨zb,eb⟩:=aV hy
 refine wpS_bind (aT eb (wpS_bind (aT ea (wpS_bind (C.lt _ st' zb za _ (sm2.k.trans hκ) (ub _ (bz eb)) (ua _ (bz ea)) ?_)))))
 dsimp only
 have sz:∀ z,n + 1<=(o'.push z).size:=fun z=>by rw [Array.size_push]; exact Nat.succ_le_succ hz
 cases hlt:O.blt (key zb) (key za) with
 | true =>
  rw [if_pos rfl]
  refine wpS_bind (aT eb ?_)
  have m1:=m.kX eb hb fun t ht=>by
   obtain ⟨n,hn,e⟩:=aS ht
   exact KeyOrd.kle_trans (KeyOrd.kle_of_klt hlt) (az ha (ax ea) e hn)
  by_cases c3:(y + 1 == b.size)=true
  ·rw [if_pos c3]
   exact wpS_pure (h _ _ ⟨sm2,.inl ⟨_,_,_,_,_,_,rfl,m1.rK ha (beq_iff_eq.mp c3)⟩⟩)
  ·rw [if_neg c3]
   have c3':=ltq hy c3
   split
   ·exact wpS_pure (h _ _ ⟨sm2,.inr ⟨_,_,_,_,_,rfl,m1,hx,c3',sz _⟩⟩)
   ·exact wpS_pure (h _ _ ⟨sm2,_,_,_,_,_,rfl,m1,hx,c3',Nat.le_trans hm (sz _)⟩)
 | false =>
  rw [if_neg Bool.false_ne_true]
  refine wpS_bind (aT ea ?_)
  have m1:=m.iY ea ha fun t ht=>by
   obtain ⟨n,hn,e⟩:=aS ht
   exact KeyOrd.kle_trans (show O.kle (key za) (key zb) from hlt) (az hb (ax eb) e hn)
  by_cases c3:(x + 1 + 1 == a.size)=true
  ·rw [if_pos c3]
   exact wpS_pure (h _ _ ⟨sm2,.inl ⟨_,_,_,_,_,_,rfl,m1.last ha hb (beq_iff_eq.mp c3) hl⟩⟩)
  ·rw [if_neg c3]
   have c3':=ltq hx c3
   split
   ·exact wpS_pure (h _ _ ⟨sm2,.inr ⟨_,_,_,_,_,rfl,m1,c3',hy,sz _⟩⟩)
   ·exact wpS_pure (h _ _ ⟨sm2,_,_,_,_,_,rfl,m1,c3',hy,Nat.le_trans hm (sz _)⟩)
def LeI (key:Keyed->O.α) (a b:Array Keyed) (st:SortSt) (n:Nat) (c:LoE) (st':SortSt):Prop:=Sm st st'/\∃ o x y mg,c=(none,o,x,y,mg)/\MW key a b o x y/\x + 1 < a.size/\y < b.size/\n + 1<=o.size
def LeQ (key:Keyed->O.α) (a b:Array Keyed) (st:SortSt) (c:LoE) (st':SortSt):Prop:=Sm st st'/\((∃ r o x y mg,c=(some r,o,x,y,mg)/\dA key a b r)\/∃ o x y mg,c=(none,o,x,y,mg)/\MW key a b o x y/\x + 1 < a.size/\y < b.size/\a.size + b.size + 1<=o.size)
theorem rN (C:Cmp prog w A s O key U κ) {a b:Array Keyed} {st st':SortSt} (hκ : kindOf st = κ) (ua:∀ p ∈ a.toList,U p) (ub:∀ p ∈ b.toList,U p)
  (ha:a.toList.Pairwise (Le key)) (hb:b.toList.Pairwise (Le key)) (na:0 < a.size) (hl:∀ p q,p ∈ b.toList->a[a.size - 1]? = some q->Le key p q)
  {n:Nat} {c:LoE} (I:LeI key a b st n c st'):wpS (model prog w) A E s (pM a b c) (fun r st'=>match r with | .done c'=>LeQ key a b st c' st' | .yield c'=>LeI key a b st (n + 1) c' st') st':=by
 obtain ⟨sm1,o,x,y,mg,rfl,m,hx,hy,hz⟩:=I
 unfold pM
 have q1:1<=a.size + b.size:=Nat.le_trans na (Nat.le_add_right _ _)
 refine wpS_bind (wpS_mono (wpS_forRange (I:=fun j c st'=>LdI key a b st (o.size + min j 1) c st') (Q:=LdQ key a b st (o.size + 1)) (fun j c st2 _ hj J=>ur (n:=o.size + min j 1) (m':=o.size + min (j + 1) 1) C hκ ua ub ha hb hl J (by omega) fun r st' k => ?_) (fun c st' J => ?_) ⟨sm1,o,x,y,0,0,rfl,m,hx,hy,Nat.le_refl _⟩) ?_)
 ·cases r with
  | done c'=>exact k.imp id fun z=>z.imp id fun ⟨o',x,y,ac,bc,e,m,hx,hy,hz⟩=>⟨o',x,y,ac,bc,e,m,hx,hy,by omega⟩
  | yield c'=>exact k
 ·obtain ⟨sm,o',x,y,ac,bc,e,m,hx,hy,hz⟩:=J
  exact ⟨sm,.inr ⟨o',x,y,ac,bc,e,m,hx,hy,by omega⟩⟩
 rintro c st2 ⟨sm2,⟨r,o',x,y,ac,bc,rfl,fr⟩ | ⟨o',x,y,ac,bc,rfl,m,hx,hy,hz2⟩⟩
 ·exact wpS_pure ⟨sm2,.inl ⟨_,_,_,_,_,rfl,fr⟩⟩
 dsimp only
 refine wpS_bind (wpS_lift (wpAny_rule ⟨rfl,?_⟩))
 refine wpS_bind (wpS_mono (wpS_forRange (I:=fun _ c st'=>LoQ key a b st o'.size (.yield c) st') (Q:=fun c st'=>LoQ key a b st o'.size (.done c) st') (fun j c st3 _ hj J => ?_) (fun c st' J=>⟨J.1,.inr J.2⟩) ⟨sm2,o',x,y,_,ac,bc,rfl,m,hx,hy,Nat.le_refl _⟩) ?_)
 ·obtain ⟨sm3,p,x,y,mg,ac,bc,rfl,m,hx,hy,hz3⟩:=J
  refine wpS_mono (wj C hκ ua ub ha hb hl sm3 m hx hy hz3) ?_
  intro r st' h
  cases r <;> exact h
 rintro c st3 ⟨sm3,⟨r,p,x,y,mg,ac,bc,rfl,fr⟩ | ⟨p,x,y,mg,ac,bc,rfl,m,hx,hy,hz3⟩⟩
 ·exact wpS_pure ⟨sm3,.inl ⟨_,_,_,_,_,rfl,fr⟩⟩
 ·dsimp only
  exact wpS_bind (wpS_modify (wpS_pure ⟨sm3.mg _,p,x,y,_,rfl,m,hx,hy,by omega⟩))
theorem yu (C:Cmp prog w A s O key U κ) {a b:Array Keyed} {st:SortSt} {Q:Array Keyed->SortSt->Prop} (hκ : kindOf st = κ) (ua:∀ p ∈ a.toList,U p) (ub:∀ p ∈ b.toList,U p)
  (ha:a.toList.Pairwise (Le key)) (hb:b.toList.Pairwise (Le key)) (na:0 < a.size) (nb:0 < b.size) (h0:∀ p q,b[0]? = some p->a[0]? = some q->Le key p q) (hl:∀ p q,p ∈ b.toList->a[a.size - 1]? = some q->Le key p q)
  (h:∀ r st',Sm st st'->dA key a b r->Q r st'):wpS (model prog w) A E s (mLo a b) Q st:=by
 rw [wk]
 refine wpS_bind (wpS_lift (wpAny_rule ⟨rfl,?_⟩))
 obtain ⟨b0,eb0⟩:=aV nb
 obtain ⟨a0,ea0⟩:=aV na
 have a0le:∀ t ∈ a.toList,Le key a0 t:=fun t ht=>by
  obtain ⟨i,e⟩:=List.mem_iff_getElem?.mp ht
  exact az ha (ax ea0) e (Nat.zero_le _)
 have m0:MW key a b #[] 0 0:=⟨Nat.zero_le _,Nat.zero_le _,List.Perm.refl _,List.Pairwise.nil,fun p hp=>by cases hp⟩
 have m1:MW key a b #[b0] 0 1:=m0.kX eb0 hb fun t ht=>KeyOrd.kle_trans (h0 _ _ eb0 ea0) (a0le t ht)
 refine wpS_bind (aT eb0 ?_)
 by_cases c1:(1 == b.size)=true
 ·rw [if_pos c1]
  exact wpS_pure (h _ st (Sm.refl st) (m1.rK ha (beq_iff_eq.mp c1)))
 rw [if_neg c1]
 by_cases c2:(0 + 1 == a.size)=true
 ·rw [if_pos c2]
  exact wpS_pure (h _ st (Sm.refl st) (m1.last ha hb (beq_iff_eq.mp c2) hl))
 rw [if_neg c2]
 refine wpS_bind (wpS_get ?_)
 refine wpS_bind (wpS_mono (wpS_forRange (I:=fun i c st'=>LeI key a b st i c st') (Q:=LeQ key a b st) (fun i c st1 _ _ J=>wpS_mono (rN C hκ ua ub ha hb na hl J) fun r st' h=>by cases r <;> exact h) (fun c st' J => ?_) ⟨Sm.refl st,_,_,_,_,rfl,m1,ltq na c2,ltq nb c1,Nat.le_refl _⟩) ?_)
 ·obtain ⟨sm,o,x,y,mg,e,m,hx,hy,hz⟩:=J
  exact ⟨sm,.inr ⟨o,x,y,mg,e,m,hx,hy,by omega⟩⟩
 rintro c st' ⟨sm,⟨r,o,x,y,mg,rfl,fr⟩ | ⟨o,x,y,mg,rfl,m,hx,hy,hz⟩⟩
 ·exact wpS_pure (h r st' sm fr)
 ·have:=m.size
  omega
end
open PySem PyProof.Rows
section
variable {O:KeyOrd} (key:Keyed->O.α)
structure MV (a b o:Array Keyed) (x y:Nat):Prop where
 hx:x<=a.size
 hy:y<=b.size
 perm:((a.toList.take x ++ b.toList.take y) ++ o.toList.reverse).Perm (a.toList ++ b.toList)
 sorted:o.toList.reverse.Pairwise (Le key)
 above:∀ p ∈ a.toList.take x ++ b.toList.take y,∀ q ∈ o.toList.reverse,Le key p q
variable {key}
theorem MV.fin {a b o:Array Keyed} {x y:Nat} (m:MV key a b o x y) {t:List Keyed} {r:Array Keyed} (hr:r.toList=t ++ o.toList.reverse) (ht:t.Perm (a.toList.take x ++ b.toList.take y)) (hs:t.Pairwise (Le key)):dA key a b r:=by
 unfold dA
 rw [hr]
 exact ⟨(List.Perm.append_right _ ht).trans m.perm,List.pairwise_append.mpr ⟨hs,m.sorted,fun p hp q hq=>m.above p (ht.mem_iff.mp hp) q hq⟩⟩
theorem MV.take {a b o:Array Keyed} {x y x' y':Nat} (m:MV key a b o x y) {t:List Keyed} {r:Array Keyed} (hr:r.toList.reverse=t ++ o.toList.reverse) (hx:x'<=a.size) (hy:y'<=b.size)
  (ht:((a.toList.take x' ++ b.toList.take y') ++ t).Perm (a.toList.take x ++ b.toList.take y)) (hs:t.Pairwise (Le key)) (hb:∀ p ∈ a.toList.take x' ++ b.toList.take y',∀ q ∈ t,Le key p q):MV key a b r x' y':=by
 have sub:∀ z,z ∈ a.toList.take x' ++ b.toList.take y'\/z ∈ t->z ∈ a.toList.take x ++ b.toList.take y:=fun z hz=>ht.mem_iff.mp (List.mem_append.mpr hz)
 refine ⟨hx,hy,?_,?_,?_⟩
 ·rw [hr, <- List.append_assoc]
  exact (List.Perm.append_right _ ht).trans m.perm
 ·rw [hr]
  exact List.pairwise_append.mpr ⟨hs,m.sorted,fun p hp q hq=>m.above p (sub p (.inr hp)) q hq⟩
 ·rw [hr]
  intro p hp z hz
  rcases List.mem_append.mp hz with h | h
  ·exact hb p hp z h
  ·exact m.above p (sub p (.inl hp)) z h
theorem aW {l:List Keyed} {k:Nat} {t:Keyed} (h:t ∈ l.take k):∃ j,j < k/\l[j]? = some t:=by
 obtain ⟨n,e⟩:=List.mem_iff_getElem?.mp h
 rw [List.getElem?_take] at e
 split at e
 ·exact ⟨n,by omega,e⟩
 ·cases e
theorem kY {l:List Keyed} {x:Nat} {z:Keyed} (hx:1<=x) (h:l[x - 1]? = some z):l.take x=l.take (x - 1) ++ [z]:=by
 obtain ⟨n,rfl⟩:∃ n,x=n + 1:=⟨x - 1,by omega⟩
 rw [Nat.add_sub_cancel] at h ⊢
 rw [List.take_add_one,h]
 rfl
theorem qD (a:Array Keyed) (c x:Nat) (hx:x<=a.size):(a.extract c x).toList=(a.toList.take x).drop c:=by
 rw [Array.toList_extract,List.extract_eq_take_drop,List.drop_take]
theorem fM (a:Array Keyed) (x:Nat):(a.extract 0 x).toList=a.toList.take x:=by
 rw [Array.toList_extract,List.extract_eq_take_drop,List.drop_zero,Nat.sub_zero]
theorem MV.iY {a b o:Array Keyed} {x y:Nat} {z:Keyed} (m:MV key a b o x y) (h1:1<=x) (h:a[x - 1]? = some z) (ha:a.toList.Pairwise (Le key)) (hb:∀ t ∈ b.toList.take y,Le key t z):MV key a b (o.push z) (x - 1) y:=by
 have e:=kY h1 (ax h)
 refine m.take (t:=[z]) (by rw [Array.toList_push,List.reverse_append]; rfl) (by have:=m.hx; omega) m.hy ?_ (List.pairwise_singleton _ _) fun p hp q hq => ?_
 ·rw [e,List.append_assoc,List.append_assoc]
  exact List.Perm.append_left _ List.perm_append_comm
 ·have eq:q=z:=by simpa using hq
  subst eq
  rcases List.mem_append.mp hp with r | r
  ·obtain ⟨j,hj,e2⟩:=aW r
   exact az ha e2 (ax h) (by omega)
  ·exact hb p r
theorem MV.kX {a b o:Array Keyed} {x y:Nat} {z:Keyed} (m:MV key a b o x y) (h1:1<=y) (h:b[y - 1]? = some z) (hb:b.toList.Pairwise (Le key)) (ha:∀ t ∈ a.toList.take x,Le key t z):MV key a b (o.push z) x (y - 1):=by
 have e:=kY h1 (ax h)
 refine m.take (t:=[z]) (by rw [Array.toList_push,List.reverse_append]; rfl) m.hx (by have:=m.hy; omega) ?_ (List.pairwise_singleton _ _) fun p hp q hq => ?_
 ·rw [e,List.append_assoc]
 ·have eq:q=z:=by simpa using hq
  subst eq
  rcases List.mem_append.mp hp with r | r
  ·exact ha p r
  ·obtain ⟨j,hj,e2⟩:=aW r
   exact az hb e2 (ax h) (by omega)
theorem qE (l:List Keyed) {c x:Nat} (h:c<=x):l.take x=l.take c ++ (l.take x).drop c:=by
 have e:(l.take x).take c=l.take c:=by rw [List.take_take,Nat.min_eq_left h]
 rw [<- e,List.take_append_drop]
theorem jF {l:List Keyed} {c x:Nat} {t:Keyed} (h:t ∈ (l.take x).drop c):∃ j,c<=j/\j < x/\l[j]? = some t:=by
 obtain ⟨j,hj,e⟩:=aS h
 rw [List.getElem?_take] at e
 split at e
 ·exact ⟨j,hj,by omega,e⟩
 ·cases e
theorem MV.uj {a b o:Array Keyed} {x y c:Nat} (m:MV key a b o x y) (hc:c<=x) (ha:a.toList.Pairwise (Le key)) (hb:∀ j p,c<=j->j < x->a.toList[j]? = some p->∀ t ∈ b.toList.take y,Le key t p):MV key a b (o ++ (a.extract c x).reverse) c y:=by
 refine m.take (t:=(a.toList.take x).drop c) (by rw [Array.toList_append,List.reverse_append,Array.toList_reverse,List.reverse_reverse,qD _ _ _ m.hx]) (Nat.le_trans hc m.hx) m.hy ?_ ?_ fun p hp q hq => ?_
 ·refine List.Perm.trans ?_ (List.Perm.append_right _ (List.Perm.of_eq (qE a.toList hc).symm))
  rw [List.append_assoc,List.append_assoc]
  exact List.Perm.append_left _ List.perm_append_comm
 ·exact ha.sublist ((List.drop_sublist _ _).trans (List.take_sublist _ _))
 ·obtain ⟨j,h1,h2,e⟩:=jF hq
  rcases List.mem_append.mp hp with r | r
  ·obtain ⟨i,hi,e2⟩:=aW r
   exact az ha e2 e (by omega)
  ·exact hb j q h1 h2 e p r
theorem MV.uo {a b o:Array Keyed} {x y c:Nat} (m:MV key a b o x y) (hc:c<=y) (hb:b.toList.Pairwise (Le key)) (ha:∀ j p,c<=j->j < y->b.toList[j]? = some p->∀ t ∈ a.toList.take x,Le key t p):MV key a b (o ++ (b.extract c y).reverse) x c:=by
 refine m.take (t:=(b.toList.take y).drop c) (by rw [Array.toList_append,List.reverse_append,Array.toList_reverse,List.reverse_reverse,qD _ _ _ m.hy]) m.hx (Nat.le_trans hc m.hy) ?_ ?_ fun p hp q hq => ?_
 ·rw [List.append_assoc, <- qE b.toList hc]
 ·exact hb.sublist ((List.drop_sublist _ _).trans (List.take_sublist _ _))
 ·obtain ⟨j,h1,h2,e⟩:=jF hq
  rcases List.mem_append.mp hp with r | r
  ·exact ha j q h1 h2 e p r
  ·obtain ⟨i,hi,e2⟩:=aW r
   exact az hb e2 e (by omega)
theorem MV.rL {a b o:Array Keyed} {x y:Nat} (m:MV key a b o x y) (hb:b.toList.Pairwise (Le key)) (hx:x=0):dA key a b (a.extract 0 x ++ b.extract 0 y ++ o.reverse):=by
 subst hx
 refine m.fin (t:=b.toList.take y) (by rw [Array.toList_append,Array.toList_append,fM,fM,Array.toList_reverse,List.take_zero,List.nil_append]) (by rw [List.take_zero,List.nil_append]) (hb.sublist (List.take_sublist _ _))
theorem MV.rK {a b o:Array Keyed} {x y:Nat} (m:MV key a b o x y) (ha:a.toList.Pairwise (Le key)) (hy:y=0):dA key a b (a.extract 0 x ++ b.extract 0 y ++ o.reverse):=by
 subst hy
 refine m.fin (t:=a.toList.take x) (by rw [Array.toList_append,Array.toList_append,fM,fM,Array.toList_reverse,List.take_zero,List.append_nil]) (by rw [List.take_zero,List.append_nil]) (ha.sublist (List.take_sublist _ _))
theorem MV.first {a b o:Array Keyed} {x y:Nat} (m:MV key a b o x y) (ha:a.toList.Pairwise (Le key)) (hb:b.toList.Pairwise (Le key)) (hy:y=1) (hl:∀ p q,b[0]? = some p->q ∈ a.toList->Le key p q):dA key a b (b.extract 0 y ++ a.extract 0 x ++ o.reverse):=by
 refine m.fin (t:=b.toList.take y ++ a.toList.take x) (by rw [Array.toList_append,Array.toList_append,fM,fM,Array.toList_reverse]) List.perm_append_comm ?_
 refine List.pairwise_append.mpr ⟨hb.sublist (List.take_sublist _ _),ha.sublist (List.take_sublist _ _),fun p hp q hq=>hl p q ?_ (List.mem_of_mem_take hq)⟩
 obtain ⟨i,hi,e⟩:=aW hp
 rw [Array.getElem?_toList] at e
 rw [show i=0 by omega] at e
 exact e
theorem MV.size {a b o:Array Keyed} {x y:Nat} (m:MV key a b o x y):o.size + x + y=a.size + b.size:=by
 have e:=m.perm.length_eq
 have h1:=m.hx
 have h2:=m.hy
 simp only [List.length_append,List.length_take,Array.length_toList,List.length_reverse] at e
 omega
end
open PySem PyProof.Rows
section
variable {prog:Program} {w:World} {A:Around} {E:Value->Shared->Prop} {s:Shared} {O:KeyOrd} {key:Keyed->O.α} {U:Keyed->Prop} {κ : SortKind}
abbrev HiC:=Option (Array Keyed) × Nat × Nat × Array Keyed × Nat × Nat × Nat
def wm (a b:Array Keyed) (x y:Nat) (o:Array Keyed) (mg ac bc:Nat):StateT SortSt Sem (ForInStep HiC):=do
  let z ← elem' a (x - 1)
  if (x - 1 == 0)=true then pure (.done (some (a.extract 0 (x - 1) ++ b.extract 0 y ++ (o.push z).reverse),x - 1,y,o.push z,mg,ac,bc))
  else if (decide (ac < 7) && decide (bc < 7))=true then pure (.done (none,x - 1,y,o.push z,mg,ac,bc))
  else pure (.yield (none,x - 1,y,o.push z,mg,ac,bc))
def wo (a b:Array Keyed) (x y:Nat) (o:Array Keyed) (mg ac bc:Nat):StateT SortSt Sem (ForInStep HiC):=do
  let z ← elem' b (y - 1)
  if (y - 1 == 1)=true then pure (.done (some (b.extract 0 (y - 1) ++ a.extract 0 x ++ (o.push z).reverse),x,y - 1,o.push z,mg,ac,bc))
  else do
    let z2 ← elem' a (x - 1)
    let __x ← gal true z2 b 0 (y - 1) (y - 1 - 1)
    match __x with
    | some c =>
      if y - 1 - c > 0 then
        if (c == 1)=true then pure (.done (some (b.extract 0 c ++ a.extract 0 x ++ (o.push z ++ (b.extract c (y - 1)).reverse).reverse),x,c,o.push z ++ (b.extract c (y - 1)).reverse,mg,ac,y - 1 - c))
        else if (c == 0)=true then pure (.done (some (a.extract 0 x ++ b.extract 0 c ++ (o.push z ++ (b.extract c (y - 1)).reverse).reverse),x,c,o.push z ++ (b.extract c (y - 1)).reverse,mg,ac,y - 1 - c))
        else wm a b x c (o.push z ++ (b.extract c (y - 1)).reverse) mg ac (y - 1 - c)
      else wm a b x (y - 1) (o.push z) mg ac (y - 1 - c)
    | _=>pure (.done (some (a.extract 0 x ++ b.extract 0 (y - 1) ++ (o.push z).reverse),x,y - 1,o.push z,mg,ac,bc))
def rO (a b:Array Keyed) (x y:Nat) (p:Array Keyed) (ac bc mg:Nat):StateT SortSt Sem (ForInStep HiC):=do
  modify (fun s=>SortSt.mk' (kindOf s) (arrOf s) (pendingOf s) mg (failedOf s))
  let z ← elem' b (y - 1)
  let __x ← gal false z a 0 x (x - 1)
  match __x with
  | some c =>
    if x - c > 0 then
      if (c == 0)=true then pure (.done (some (a.extract 0 c ++ b.extract 0 y ++ (p ++ (a.extract c x).reverse).reverse),c,y,p ++ (a.extract c x).reverse,mg,x - c,bc))
      else wo a b c y (p ++ (a.extract c x).reverse) mg (x - c) bc
    else wo a b x y p mg (x - c) bc
  | _=>pure (.done (some (a.extract 0 x ++ b.extract 0 y ++ p.reverse),x,y,p,mg,ac,bc))
def HiQ (key:Keyed->O.α) (a b:Array Keyed) (st:SortSt) (n:Nat) (r:ForInStep HiC) (st':SortSt):Prop:=match r with
 | .done c=>Sm st st'/\((∃ r x y p mg ac bc,c=(some r,x,y,p,mg,ac,bc)/\dA key a b r)\/∃ x y p mg ac bc,c=(none,x,y,p,mg,ac,bc)/\MV key a b p x y/\1<=x/\2<=y/\n<=p.size)
 | .yield c=>Sm st st'/\∃ x y p mg ac bc,c=(none,x,y,p,mg,ac,bc)/\MV key a b p x y/\1<=x/\2<=y/\n<=p.size
theorem HiQ.out {a b:Array Keyed} {st st':SortSt} {n:Nat} {r:Array Keyed} {c:Nat × Nat × Array Keyed × Nat × Nat × Nat} (sm:Sm st st') (f:dA key a b r):HiQ key a b st n (.done (some r,c)) st':=by
 obtain ⟨p,x,y,mg,ac,bc⟩:=c
 exact ⟨sm,.inl ⟨_,_,_,_,_,_,_,rfl,f⟩⟩
theorem uv {x:Nat} (c:¬ (x == 0)=true):1<=x:=Nat.pos_of_ne_zero fun z=>c (beq_iff_eq.mpr z)
theorem wq {y:Nat} (h:1<=y) (c:¬ (y == 1)=true):2<=y:=Nat.lt_of_le_of_ne h fun z=>c (beq_iff_eq.mpr z.symm)
theorem qF {a b:Array Keyed} {st st':SortSt} (hb:b.toList.Pairwise (Le key))
  {o:Array Keyed} {x y mg ac bc n:Nat} {za:Keyed} (sm:Sm st st') (ea:a[x - 1]? = some za) (m4:MV key a b (o.push za) (x - 1) y) (hy:2<=y) (hn:n<=o.size):wpS (model prog w) A E s (wm a b x y o mg ac bc) (HiQ key a b st n) st':=by
 unfold wm
 refine wpS_bind (aT ea ?_)
 by_cases d5:(x - 1 == 0)=true
 ·rw [if_pos d5]
  exact wpS_pure (HiQ.out sm (m4.rL hb (beq_iff_eq.mp d5)))
 rw [if_neg d5]
 have hx2:=uv d5
 have hn':n<=(o.push za).size:=by rw [Array.size_push]; exact Nat.le_succ_of_le hn
 split
 ·exact wpS_pure ⟨sm,.inr ⟨_,_,_,_,_,_,rfl,m4,hx2,hy,hn'⟩⟩
 ·exact wpS_pure ⟨sm,_,_,_,_,_,_,rfl,m4,hx2,hy,hn'⟩
theorem qG (C:Cmp prog w A s O key U κ) {a b:Array Keyed} {st st':SortSt} (hκ : kindOf st = κ) (ua:∀ p ∈ a.toList,U p) (ub:∀ p ∈ b.toList,U p)
  (ha:a.toList.Pairwise (Le key)) (hb:b.toList.Pairwise (Le key)) (h0:∀ p q,b[0]? = some p->q ∈ a.toList->Le key p q)
  {o:Array Keyed} {x y mg ac bc n:Nat} {zb:Keyed} (sm:Sm st st') (eb:b[y - 1]? = some zb) (mk:MV key a b o x y) (bl:∀ t ∈ a.toList.take x,Le key t zb) (hx1:1<=x) (hy:2<=y) (hn:n<=o.size):wpS (model prog w) A E s (wo a b x y o mg ac bc) (HiQ key a b st n) st':=by
 unfold wo
 refine wpS_bind (aT eb ?_)
 have m2:=mk.kX (Nat.le_of_succ_le hy) eb hb bl
 have y1:1<=y - 1:=Nat.le_sub_one_of_lt hy
 have bx1:=mk.hx
 have by1:=mk.hy
 by_cases d3:(y - 1 == 1)=true
 ·rw [if_pos d3]
  exact wpS_pure (HiQ.out sm (m2.first ha hb (beq_iff_eq.mp d3) h0))
 rw [if_neg d3]
 have hy1:=wq y1 d3
 obtain ⟨za,ea⟩:=aV (show x - 1 < a.size by omega)
 refine wpS_bind (aT ea ?_)
 refine wpS_bind (yr C (fun i=>(b[i]?).getD za) (sm.k.trans hκ) (ua _ (bz ea)) (fun i hi => ?_) (fun i hi => ?_) (fun i j hij hj => ?_) (Nat.sub_one_lt_of_lt y1) fun c2 hc2 g1 g2 => ?_)
 ·obtain ⟨z,e⟩:=aV (show i < b.size by omega)
  rw [Nat.zero_add,e]; rfl
 ·obtain ⟨z,e⟩:=aV (show i < b.size by omega)
  rw [e]; exact ub _ (bz e)
 ·obtain ⟨z,e⟩:=aV (show i < b.size by omega)
  obtain ⟨z',e'⟩:=aV (show j < b.size by omega)
  rw [e,e']; exact az hb (ax e) (ax e') hij
 dsimp only at g1 g2 ⊢
 have tb:∀ j q,c2<=j->j < y - 1->b.toList[j]? = some q->∀ t ∈ a.toList.take x,Le key t q:=fun j q hj hj2 e t ht=>by
  have z:=g2 j hj hj2
  rw [Array.getElem?_toList] at e
  rw [e] at z
  obtain ⟨n,hn,e2⟩:=aW ht
  exact KeyOrd.kle_trans (az ha e2 (ax ea) (Nat.le_sub_one_of_lt hn)) z
 have m3:=m2.uo hc2 hb tb
 have bl2:∀ t ∈ b.toList.take c2,Le key t za:=fun t ht=>by
  obtain ⟨n,hn,e2⟩:=aW ht
  rw [Array.getElem?_toList] at e2
  have z:=g1 n hn
  rw [e2] at z
  exact KeyOrd.kle_of_klt z
 have hn1:n<=(o.push zb).size:=by rw [Array.size_push]; exact Nat.le_succ_of_le hn
 by_cases k2:y - 1 - c2 > 0
 ·rw [if_pos k2]
  by_cases d4:(c2 == 1)=true
  ·rw [if_pos d4]
   exact wpS_pure (HiQ.out sm (m3.first ha hb (beq_iff_eq.mp d4) h0))
  rw [if_neg d4]
  by_cases d6:(c2 == 0)=true
  ·rw [if_pos d6]
   exact wpS_pure (HiQ.out sm (m3.rK ha (beq_iff_eq.mp d6)))
  rw [if_neg d6]
  exact qF hb sm ea (m3.iY hx1 ea ha bl2) (wq (uv d6) d4) (Nat.le_trans hn1 (by rw [Array.size_append]; exact Nat.le_add_right _ _))
 ·rw [if_neg k2]
  have ec2:c2=y - 1:=Nat.le_antisymm hc2 (Nat.le_of_sub_eq_zero (Nat.eq_zero_of_not_pos k2))
  rw [ec2] at bl2
  exact qF hb sm ea (m2.iY hx1 ea ha bl2) hy1 hn1
theorem qH (C:Cmp prog w A s O key U κ) {a b:Array Keyed} {st st':SortSt} (hκ : kindOf st = κ) (ua:∀ p ∈ a.toList,U p) (ub:∀ p ∈ b.toList,U p)
  (ha:a.toList.Pairwise (Le key)) (hb:b.toList.Pairwise (Le key)) (h0:∀ p q,b[0]? = some p->q ∈ a.toList->Le key p q)
  {p:Array Keyed} {x y ac bc n:Nat} (mg:Nat) (sm:Sm st st') (m:MV key a b p x y) (hx:1<=x) (hy:2<=y) (hn:n<=p.size):wpS (model prog w) A E s (rO a b x y p ac bc mg) (HiQ key a b st n) st':=by
 unfold rO
 have bx:=m.hx
 have by':=m.hy
 obtain ⟨zb,eb⟩:=aV (show y - 1 < b.size by omega)
 refine wpS_bind (wpS_modify ?_)
 refine wpS_bind (aT eb ?_)
 refine wpS_bind (yq C (fun i=>(a[i]?).getD zb) ((sm.mg _).k.trans hκ) (ub _ (bz eb)) (fun i hi => ?_) (fun i hi => ?_) (fun i j hij hj => ?_) (Nat.sub_one_lt_of_lt hx) fun c hc h1 h2 => ?_)
 ·obtain ⟨z,e⟩:=aV (Nat.lt_of_lt_of_le hi bx)
  rw [Nat.zero_add,e]; rfl
 ·obtain ⟨z,e⟩:=aV (Nat.lt_of_lt_of_le hi bx)
  rw [e]; exact ua _ (bz e)
 ·obtain ⟨z,e⟩:=aV (show i < a.size by omega)
  obtain ⟨z',e'⟩:=aV (show j < a.size by omega)
  rw [e,e']; exact az ha (ax e) (ax e') hij
 dsimp only at h1 h2 ⊢
 have ta:∀ j q,c<=j->j < x->a.toList[j]? = some q->∀ t ∈ b.toList.take y,Le key t q:=fun j q hj hj2 e t ht=>by
  have z:=h2 j hj hj2
  rw [Array.getElem?_toList] at e
  rw [e] at z
  obtain ⟨n,hn,e2⟩:=aW ht
  exact KeyOrd.kle_trans (az hb e2 (ax eb) (Nat.le_sub_one_of_lt hn)) (KeyOrd.kle_of_klt z)
 have mk:=m.uj hc ha ta
 have bl:∀ t ∈ a.toList.take c,Le key t zb:=fun t ht=>by
  obtain ⟨n,hn,e2⟩:=aW ht
  rw [Array.getElem?_toList] at e2
  have z:=h1 n hn
  rw [e2] at z
  exact z
 by_cases k0:x - c > 0
 ·rw [if_pos k0]
  by_cases d1:(c == 0)=true
  ·rw [if_pos d1]
   exact wpS_pure (HiQ.out (sm.mg _) (mk.rL hb (beq_iff_eq.mp d1)))
  rw [if_neg d1]
  exact qG C hκ ua ub ha hb h0 (sm.mg _) eb mk bl (uv d1) hy (Nat.le_trans hn (by rw [Array.size_append]; exact Nat.le_add_right _ _))
 ·rw [if_neg k0]
  have ec:c=x:=Nat.le_antisymm hc (Nat.le_of_sub_eq_zero (Nat.eq_zero_of_not_pos k0))
  rw [ec] at bl
  exact qG C hκ ua ub ha hb h0 (sm.mg _) eb m bl hx hy hn
theorem wt (C:Cmp prog w A s O key U κ) {a b:Array Keyed} {st st':SortSt} (hκ : kindOf st = κ) (ua:∀ p ∈ a.toList,U p) (ub:∀ p ∈ b.toList,U p)
  (ha:a.toList.Pairwise (Le key)) (hb:b.toList.Pairwise (Le key)) (h0:∀ p q,b[0]? = some p->q ∈ a.toList->Le key p q)
  {p:Array Keyed} {x y ac bc n mg:Nat} (sm:Sm st st') (m:MV key a b p x y) (hx:1<=x) (hy:2<=y) (hn:n<=p.size):wpS (model prog w) A E s (if mg > 1 then rO a b x y p ac bc (mg - 1) else rO a b x y p ac bc mg) (HiQ key a b st n) st':=by
 split
 ·exact qH C hκ ua ub ha hb h0 (mg - 1) sm m hx hy hn
 ·exact qH C hκ ua ub ha hb h0 mg sm m hx hy hn
abbrev HiD:=Option (Array Keyed) × Nat × Nat × Array Keyed × Nat × Nat
abbrev HiE:=Option (Array Keyed) × Nat × Nat × Array Keyed × Nat
def uw (a b:Array Keyed) (mg:Nat) (c:HiD):StateT SortSt Sem (ForInStep HiD):=do
  let u ← elem' b (c.2.2.1 - 1)
  let v ← elem' a (c.2.1 - 1)
  let __x ← lt' u v
  match __x with
  | some aw =>
    if aw=true then do
      let z ← elem' a (c.2.1 - 1)
      if (c.2.1 - 1 == 0)=true then pure (.done (some (a.extract 0 (c.2.1 - 1) ++ b.extract 0 c.2.2.1 ++ (c.2.2.2.1.push z).reverse),c.2.1 - 1,c.2.2.1,c.2.2.2.1.push z,c.2.2.2.2.1 + 1,0))
      else if c.2.2.2.2.1 + 1 ≥ mg then pure (.done (none,c.2.1 - 1,c.2.2.1,c.2.2.2.1.push z,c.2.2.2.2.1 + 1,0))
      else pure (.yield (none,c.2.1 - 1,c.2.2.1,c.2.2.2.1.push z,c.2.2.2.2.1 + 1,0))
    else do
      let z ← elem' b (c.2.2.1 - 1)
      if (c.2.2.1 - 1 == 1)=true then pure (.done (some (b.extract 0 (c.2.2.1 - 1) ++ a.extract 0 c.2.1 ++ (c.2.2.2.1.push z).reverse),c.2.1,c.2.2.1 - 1,c.2.2.2.1.push z,0,c.2.2.2.2.2 + 1))
      else if c.2.2.2.2.2 + 1 ≥ mg then pure (.done (none,c.2.1,c.2.2.1 - 1,c.2.2.2.1.push z,0,c.2.2.2.2.2 + 1))
      else pure (.yield (none,c.2.1,c.2.2.1 - 1,c.2.2.2.1.push z,0,c.2.2.2.2.2 + 1))
  | _=>pure (.done (some (a.extract 0 c.2.1 ++ b.extract 0 c.2.2.1 ++ c.2.2.2.1.reverse),c.2.1,c.2.2.1,c.2.2.2.1,c.2.2.2.2.1,c.2.2.2.2.2))
def yv (a b:Array Keyed) (c:HiC):StateT SortSt Sem (ForInStep HiC) :=
 if c.2.2.2.2.1 > 1 then rO a b c.2.1 c.2.2.1 c.2.2.2.1 c.2.2.2.2.2.1 c.2.2.2.2.2.2 (c.2.2.2.2.1 - 1) else rO a b c.2.1 c.2.2.1 c.2.2.2.1 c.2.2.2.2.2.1 c.2.2.2.2.2.2 c.2.2.2.2.1
def pN (a b:Array Keyed) (c:HiE):StateT SortSt Sem (ForInStep HiE):=do
  let d ← forIn [0:a.size + b.size] ((none,c.2.1,c.2.2.1,c.2.2.2.1,0,0):HiD) fun _ d=>uw a b c.2.2.2.2 d
  match d.1 with
  | some r=>pure (.done (some r,d.2.1,d.2.2.1,d.2.2.2.1,c.2.2.2.2))
  | none=>do
    rule "list.sort.gallop"
    let e ← forIn [0:a.size + b.size] ((none,d.2.1,d.2.2.1,d.2.2.2.1,c.2.2.2.2 + 1,d.2.2.2.2.1,d.2.2.2.2.2):HiC) fun _ e=>yv a b e
    match e.1 with
    | some r=>pure (.done (some r,e.2.1,e.2.2.1,e.2.2.2.1,e.2.2.2.2.1))
    | none=>do
      modify (fun s=>SortSt.mk' (kindOf s) (arrOf s) (pendingOf s) (e.2.2.2.2.1 + 1) (failedOf s))
      pure (.yield (none,e.2.1,e.2.2.1,e.2.2.2.1,e.2.2.2.2.1 + 1))
theorem wx (a b:Array Keyed):mHi a b=(do
    rule "list.sort.merge-hi"
    let z ← elem' a (a.size - 1)
    if (a.size - 1 == 0)=true then pure (a.extract 0 (a.size - 1) ++ b.extract 0 b.size ++ (#[z]:Array Keyed).reverse)
    else if (b.size == 1)=true then pure (b.extract 0 b.size ++ a.extract 0 (a.size - 1) ++ (#[z]:Array Keyed).reverse)
    else do
      let g ← get
      let c ← forIn [0:a.size + b.size] ((none,a.size - 1,b.size, #[z],gallopOf g):HiE) fun _ c=>pN a b c
      match c.1 with
      | some r=>pure r
      | none=>unsupported "internal:list.sort.merge-bound"):=by
  kernel_rfl
def HdI (key:Keyed->O.α) (a b:Array Keyed) (st:SortSt) (n:Nat) (c:HiD) (st':SortSt):Prop:=Sm st st'/\∃ x y o' ac bc,c=(none,x,y,o',ac,bc)/\MV key a b o' x y/\1<=x/\2<=y/\n<=o'.size
def HdQ (key:Keyed->O.α) (a b:Array Keyed) (st:SortSt) (n:Nat) (c:HiD) (st':SortSt):Prop:=Sm st st'/\((∃ r x y o ac bc,c=(some r,x,y,o,ac,bc)/\dA key a b r)\/∃ x y o' ac bc,c=(none,x,y,o',ac,bc)/\MV key a b o' x y/\1<=x/\2<=y/\n<=o'.size)
theorem ux (C:Cmp prog w A s O key U κ) {a b:Array Keyed} {st st':SortSt} (hκ : kindOf st = κ) (ua:∀ p ∈ a.toList,U p) (ub:∀ p ∈ b.toList,U p)
  (ha:a.toList.Pairwise (Le key)) (hb:b.toList.Pairwise (Le key)) (h0:∀ p q,b[0]? = some p->q ∈ a.toList->Le key p q)
  {mg n m':Nat} {c:HiD} (I:HdI key a b st n c st') (hm:m'<=n + 1) {Q:ForInStep HiD->SortSt->Prop} (h:∀ r st',(match r with | .done c'=>HdQ key a b st (n + 1) c' st' | .yield c'=>HdI key a b st m' c' st')->Q r st'):wpS (model prog w) A E s (uw a b mg c) Q st':=by
 obtain ⟨sm2,x,y,o',ac,bc,rfl,m,hx,hy,hz⟩:=I
 unfold uw
 have bx:=m.hx
 have by':=m.hy
 obtain ⟨za,ea⟩:=aV (show x - 1 < a.size by omega)
 obtain ⟨zb,eb⟩:=aV (show y - 1 < b.size by omega)
 refine wpS_bind (aT eb (wpS_bind (aT ea (wpS_bind (C.lt _ st' zb za _ (sm2.k.trans hκ) (ub _ (bz eb)) (ua _ (bz ea)) ?_)))))
 dsimp only
 have sz:∀ z,n + 1<=(o'.push z).size:=fun z=>by rw [Array.size_push]; exact Nat.succ_le_succ hz
 cases hlt:O.blt (key zb) (key za) with
 | true =>
  rw [if_pos rfl]
  refine wpS_bind (aT ea ?_)
  have m1:=m.iY hx ea ha fun t ht=>by
   obtain ⟨n,hn,e⟩:=aW ht
   exact KeyOrd.kle_trans (az hb e (ax eb) (Nat.le_sub_one_of_lt hn)) (KeyOrd.kle_of_klt hlt)
  by_cases c3:(x - 1 == 0)=true
  ·rw [if_pos c3]
   exact wpS_pure (h _ _ ⟨sm2,.inl ⟨_,_,_,_,_,_,rfl,m1.rL hb (beq_iff_eq.mp c3)⟩⟩)
  ·rw [if_neg c3]
   have c3':=uv c3
   split
   ·exact wpS_pure (h _ _ ⟨sm2,.inr ⟨_,_,_,_,_,rfl,m1,c3',hy,sz _⟩⟩)
   ·exact wpS_pure (h _ _ ⟨sm2,_,_,_,_,_,rfl,m1,c3',hy,Nat.le_trans hm (sz _)⟩)
 | false =>
  rw [if_neg Bool.false_ne_true]
  refine wpS_bind (aT eb ?_)
  have m1:=m.kX (Nat.le_of_succ_le hy) eb hb fun t ht=>by
   obtain ⟨n,hn,e⟩:=aW ht
   exact KeyOrd.kle_trans (az ha e (ax ea) (Nat.le_sub_one_of_lt hn)) (show O.kle (key za) (key zb) from hlt)
  by_cases c3:(y - 1 == 1)=true
  ·rw [if_pos c3]
   exact wpS_pure (h _ _ ⟨sm2,.inl ⟨_,_,_,_,_,_,rfl,m1.first ha hb (beq_iff_eq.mp c3) h0⟩⟩)
  ·rw [if_neg c3]
   have c3':=wq (Nat.le_sub_one_of_lt hy) c3
   split
   ·exact wpS_pure (h _ _ ⟨sm2,.inr ⟨_,_,_,_,_,rfl,m1,hx,c3',sz _⟩⟩)
   ·exact wpS_pure (h _ _ ⟨sm2,_,_,_,_,_,rfl,m1,hx,c3',Nat.le_trans hm (sz _)⟩)
def HeI (key:Keyed->O.α) (a b:Array Keyed) (st:SortSt) (n:Nat) (c:HiE) (st':SortSt):Prop:=Sm st st'/\∃ x y o mg,c=(none,x,y,o,mg)/\MV key a b o x y/\1<=x/\2<=y/\n + 1<=o.size
def HeQ (key:Keyed->O.α) (a b:Array Keyed) (st:SortSt) (c:HiE) (st':SortSt):Prop:=Sm st st'/\((∃ r x y o mg,c=(some r,x,y,o,mg)/\dA key a b r)\/∃ x y o mg,c=(none,x,y,o,mg)/\MV key a b o x y/\1<=x/\2<=y/\a.size + b.size + 1<=o.size)
theorem rP (C:Cmp prog w A s O key U κ) {a b:Array Keyed} {st st':SortSt} (hκ : kindOf st = κ) (ua:∀ p ∈ a.toList,U p) (ub:∀ p ∈ b.toList,U p)
  (ha:a.toList.Pairwise (Le key)) (hb:b.toList.Pairwise (Le key)) (h0:∀ p q,b[0]? = some p->q ∈ a.toList->Le key p q) (na:0 < a.size)
  {n:Nat} {c:HiE} (I:HeI key a b st n c st'):wpS (model prog w) A E s (pN a b c) (fun r st'=>match r with | .done c'=>HeQ key a b st c' st' | .yield c'=>HeI key a b st (n + 1) c' st') st':=by
 obtain ⟨sm1,x,y,o,mg,rfl,m,hx,hy,hz⟩:=I
 unfold pN
 have q1:1<=a.size + b.size:=Nat.le_trans na (Nat.le_add_right _ _)
 refine wpS_bind (wpS_mono (wpS_forRange (I:=fun j c st'=>HdI key a b st (o.size + min j 1) c st') (Q:=HdQ key a b st (o.size + 1)) (fun j c st2 _ hj J=>ux (n:=o.size + min j 1) (m':=o.size + min (j + 1) 1) C hκ ua ub ha hb h0 J (by omega) fun r st' k => ?_) (fun c st' J => ?_) ⟨sm1,x,y,o,0,0,rfl,m,hx,hy,Nat.le_refl _⟩) ?_)
 ·cases r with
  | done c'=>exact k.imp id fun z=>z.imp id fun ⟨x,y,o',ac,bc,e,m,hx,hy,hz⟩=>⟨x,y,o',ac,bc,e,m,hx,hy,by omega⟩
  | yield c'=>exact k
 ·obtain ⟨sm,x,y,o',ac,bc,e,m,hx,hy,hz⟩:=J
  exact ⟨sm,.inr ⟨x,y,o',ac,bc,e,m,hx,hy,by omega⟩⟩
 rintro c st2 ⟨sm2,⟨r,x,y,o',ac,bc,rfl,fr⟩ | ⟨x,y,o',ac,bc,rfl,m,hx,hy,hz2⟩⟩
 ·exact wpS_pure ⟨sm2,.inl ⟨_,_,_,_,_,rfl,fr⟩⟩
 dsimp only
 refine wpS_bind (wpS_lift (wpAny_rule ⟨rfl,?_⟩))
 refine wpS_bind (wpS_mono (wpS_forRange (I:=fun _ c st'=>HiQ key a b st o'.size (.yield c) st') (Q:=fun c st'=>HiQ key a b st o'.size (.done c) st') (fun j c st3 _ hj J => ?_) (fun c st' J=>⟨J.1,.inr J.2⟩) ⟨sm2,x,y,o',_,ac,bc,rfl,m,hx,hy,Nat.le_refl _⟩) ?_)
 ·obtain ⟨sm3,x,y,p,mg,ac,bc,rfl,m,hx,hy,hz3⟩:=J
  refine wpS_mono (wt C hκ ua ub ha hb h0 sm3 m hx hy hz3) ?_
  intro r st' h
  cases r <;> exact h
 rintro c st3 ⟨sm3,⟨r,x,y,p,mg,ac,bc,rfl,fr⟩ | ⟨x,y,p,mg,ac,bc,rfl,m,hx,hy,hz3⟩⟩
 ·exact wpS_pure ⟨sm3,.inl ⟨_,_,_,_,_,rfl,fr⟩⟩
 ·dsimp only
  exact wpS_bind (wpS_modify (wpS_pure ⟨sm3.mg _,x,y,p,_,rfl,m,hx,hy,by omega⟩))
theorem yw (C:Cmp prog w A s O key U κ) {a b:Array Keyed} {st:SortSt} {Q:Array Keyed->SortSt->Prop} (hκ : kindOf st = κ) (ua:∀ p ∈ a.toList,U p) (ub:∀ p ∈ b.toList,U p)
  (ha:a.toList.Pairwise (Le key)) (hb:b.toList.Pairwise (Le key)) (na:0 < a.size) (nb:0 < b.size) (h0:∀ p q,b[0]? = some p->q ∈ a.toList->Le key p q) (hl:∀ p q,p ∈ b.toList->a[a.size - 1]? = some q->Le key p q)
  (h:∀ r st',Sm st st'->dA key a b r->Q r st'):wpS (model prog w) A E s (mHi a b) Q st:=by
 rw [wx]
 refine wpS_bind (wpS_lift (wpAny_rule ⟨rfl,?_⟩))
 obtain ⟨a0,ea0⟩:=aV (Nat.sub_one_lt_of_lt na)
 have m0:MV key a b #[] a.size b.size:=by
  refine ⟨Nat.le_refl _,Nat.le_refl _,?_,List.Pairwise.nil,fun p _ q hq=>by cases hq⟩
  rw [List.take_of_length_le (by rw [Array.length_toList]; exact Nat.le_refl _),List.take_of_length_le (by rw [Array.length_toList]; exact Nat.le_refl _)]
  show (a.toList ++ b.toList ++ []).Perm _
  rw [List.append_nil]
 have m1:MV key a b #[a0] (a.size - 1) b.size:=m0.iY na ea0 ha fun t ht=>hl t a0 (List.mem_of_mem_take ht) ea0
 refine wpS_bind (aT ea0 ?_)
 by_cases c1:(a.size - 1 == 0)=true
 ·rw [if_pos c1]
  exact wpS_pure (h _ st (Sm.refl st) (m1.rL hb (beq_iff_eq.mp c1)))
 rw [if_neg c1]
 by_cases c2:(b.size == 1)=true
 ·rw [if_pos c2]
  exact wpS_pure (h _ st (Sm.refl st) (m1.first ha hb (beq_iff_eq.mp c2) h0))
 rw [if_neg c2]
 refine wpS_bind (wpS_get ?_)
 refine wpS_bind (wpS_mono (wpS_forRange (I:=fun i c st'=>HeI key a b st i c st') (Q:=HeQ key a b st) (fun i c st1 _ _ J=>wpS_mono (rP C hκ ua ub ha hb h0 na J) fun r st' h=>by cases r <;> exact h) (fun c st' J => ?_) ⟨Sm.refl st,_,_,_,_,rfl,m1,uv c1,wq nb c2,Nat.le_refl _⟩) ?_)
 ·obtain ⟨sm,x,y,o,mg,e,m,hx,hy,hz⟩:=J
  exact ⟨sm,.inr ⟨x,y,o,mg,e,m,hx,hy,by omega⟩⟩
 rintro c st' ⟨sm,⟨r,x,y,o,mg,rfl,fr⟩ | ⟨x,y,o,mg,rfl,m,hx,hy,hz⟩⟩
 ·exact wpS_pure (h r st' sm fr)
 ·have:=m.size
  omega
end
open PySem PyProof.Rows
theorem yx (i:Nat):mAt i=(do
    let s ← get
    let (some (sa,na,pw),some (sb,nb,_)):=((pendingOf s)[i]?,(pendingOf s)[i + 1]?) | unsupported "internal:list.sort.pending"
    set (SortSt.mk' (kindOf s) (arrOf s) (((pendingOf s).setIfInBounds i (sa,na + nb,pw)).eraseIdxIfInBounds (i + 1)) (gallopOf s) (failedOf s))
    let some k ← gal false (← elem' (arrOf s) sb) (arrOf s) sa na 0 | return false
    let (sa,na):=(sa + k,na - k)
    if na == 0 then return true
    let some nb ← gal true (← elem' (arrOf s) (sa + na - 1)) (arrOf s) sb nb (nb - 1) | return false
    if nb == 0 then return true
    let x:=(arrOf s).extract sa sb
    let y:=(arrOf s).extract sb (sb + nb)
    let mm ← if na<=nb then mLo x y else mHi x y
    modify fun s=>setArr s (mm.toList.zipIdx.foldl (fun a (p,j)=>a.setIfInBounds (sa + j) p) (arrOf s))
    return (failedOf (← get)).isNone):=rfl
theorem gI {α : Type} (p r:List α) (k:Nat):(p ++ r).drop (p.length + k)=r.drop k:=by
 rw [<- List.drop_drop,List.drop_left]
theorem pO {α : Type} (p r:List α) (k:Nat):(p ++ r)[p.length + k]? = r[k]? := by
 rw [List.getElem?_append_right (by omega),Nat.add_sub_cancel_left]
theorem xG {α : Type} (p a r:List α) {k:Nat} (h:k < a.length):(p ++ (a ++ r))[p.length + k]? = a[k]? := by
 rw [pO,List.getElem?_append_left h]
theorem written (l:List Keyed):∀ (c n:Nat) (a:Array Keyed),c + n + l.length<=a.size->((l.zipIdx n).foldl (fun (a:Array Keyed) (pj:Keyed × Nat)=>a.setIfInBounds (c + pj.2) pj.1) a).toList=a.toList.take (c + n) ++ l ++ a.toList.drop (c + n + l.length):=by
 induction l with
 | nil=>intro c n a _; simp
 | cons z l ih =>
  intro c n a h
  rw [List.length_cons] at h
  rw [List.zipIdx_cons,List.foldl_cons,ih c (n + 1) _ (by rw [Array.size_setIfInBounds]; omega)]
  have e:(a.setIfInBounds (c + n) z).toList=a.toList.set (c + n) z:=Array.toList_setIfInBounds ..
  rw [e]
  have lt:c + n < a.toList.length:=by rw [Array.length_toList]; omega
  have t1:(a.toList.set (c + n) z).take (c + (n + 1))=a.toList.take (c + n) ++ [z]:=by
   rw [show c + (n + 1)=c + n + 1 by omega,List.take_add_one,List.take_set_of_le (Nat.le_refl _),List.getElem?_set_self lt]
   rfl
  have t2:(a.toList.set (c + n) z).drop (c + (n + 1) + l.length)=a.toList.drop (c + n + (l.length + 1)):=by
   rw [List.drop_set_of_lt (by omega),show c + (n + 1) + l.length=c + n + (l.length + 1) by omega]
  rw [t1,t2,List.length_cons]
  simp
section
variable {prog:Program} {w:World} {A:Around} {E:Value->Shared->Prop} {s:Shared} {O:KeyOrd} {key:Keyed->O.α} {U:Keyed->Prop} {κ : SortKind}
theorem yy (C:Cmp prog w A s O key U κ) {i pw pw2:Nat} {st:SortSt} {Q:Bool->SortSt->Prop} {P X Y S:List Keyed} (hκ : kindOf st = κ) (hf:failedOf st=none)
    (ha:(arrOf st).toList=P ++ (X ++ (Y ++ S))) (hu:∀ p ∈ (arrOf st).toList,U p) (h1:(pendingOf st)[i]? = some (P.length,X.length,pw)) (h2:(pendingOf st)[i + 1]? = some (P.length + X.length,Y.length,pw2))
    (nx:0 < X.length) (ny:0 < Y.length) (sx:X.Pairwise (Le key)) (sy:Y.Pairwise (Le key))
    (h:∀ st' M,M.Perm (X ++ Y)->M.Pairwise (Le key)->(arrOf st').toList=P ++ (M ++ S)->pendingOf st'=((pendingOf st).setIfInBounds i (P.length,X.length + Y.length,pw)).eraseIdxIfInBounds (i + 1)->kindOf st' = κ -> failedOf st'=none->Q true st') :
    wpS (model prog w) A E s (mAt i) Q st:=by
  rw [yx]
  refine wpS_bind (wpS_get ?_)
  rw [h1,h2]
  dsimp only
  refine wpS_bind (show wpS (model prog w) A E s (modify fun _=>SortSt.mk' (kindOf st) (arrOf st) (((pendingOf st).setIfInBounds i (P.length,X.length + Y.length,pw)).eraseIdxIfInBounds (i + 1)) (gallopOf st) (failedOf st)) _ st from wpS_modify ?_)
  generalize hst1:SortSt.mk' (kindOf st) (arrOf st) (((pendingOf st).setIfInBounds i (P.length,X.length + Y.length,pw)).eraseIdxIfInBounds (i + 1)) (gallopOf st) (failedOf st)=st1
  have k1:kindOf st1 = κ := by rw [<- hst1]; exact hκ
  have a1:arrOf st1=arrOf st:=by rw [<- hst1]
  have p1:pendingOf st1=((pendingOf st).setIfInBounds i (P.length,X.length + Y.length,pw)).eraseIdxIfInBounds (i + 1):=by rw [<- hst1]
  have f1:failedOf st1=none:=by rw [<- hst1]; exact hf
  have sz:(arrOf st).size=P.length + X.length + Y.length + S.length:=by
    rw [<- Array.length_toList,ha]; simp only [List.length_append]; omega
  have atX:∀ j,j < X.length->(arrOf st)[P.length + j]? = X[j]? := fun j hj=>by
    rw [<- Array.getElem?_toList,ha,xG _ _ _ hj]
  have atY:∀ j,j < Y.length->(arrOf st)[P.length + X.length + j]? = Y[j]? := fun j hj=>by
    rw [<- Array.getElem?_toList,ha, <- List.append_assoc,show P.length + X.length + j=(P ++ X).length + j by rw [List.length_append],xG _ _ _ hj]
  have uX:∀ p ∈ X,U p:=fun p hp=>hu p (by rw [ha]; simp [hp])
  have uY:∀ p ∈ Y,U p:=fun p hp=>hu p (by rw [ha]; simp [hp])
  have xget:∀ j,j < X.length->∃ z,X[j]? = some z:=fun j hj=>⟨X[j],by simp [hj]⟩
  have yget:∀ j,j < Y.length->∃ z,Y[j]? = some z:=fun j hj=>⟨Y[j],by simp [hj]⟩
  obtain ⟨y0,ey0⟩:=yget 0 ny
  have plain:(∀ p ∈ X,∀ q ∈ Y,Le key p q)->Q true st1:=fun hle=>h st1 (X ++ Y) (List.Perm.refl _) (List.pairwise_append.mpr ⟨sx,sy,hle⟩) (by rw [a1,ha,List.append_assoc]) p1 k1 f1
  refine wpS_bind (aT (z:=y0) (by rw [show P.length + X.length=P.length + X.length + 0 by omega,atY 0 ny]; exact ey0) ?_)
  refine wpS_bind (yq C (fun j=>(X[j]?).getD y0) k1 (uY _ (List.mem_of_getElem? ey0)) (fun j hj => ?_) (fun j hj => ?_) (fun i j hij hj => ?_) nx fun k hk g1 g2 => ?_)
  · obtain ⟨z,e⟩:=xget j hj
    rw [atX j hj,e]; rfl
  · obtain ⟨z,e⟩:=xget j hj
    rw [e]; exact uX _ (List.mem_of_getElem? e)
  · obtain ⟨z,e⟩:=xget i (by omega)
    obtain ⟨z',e'⟩:=xget j hj
    rw [e,e']; exact az sx e e' hij
  dsimp only at g1 g2 ⊢
  have y0le:∀ q ∈ Y,Le key y0 q:=fun q hq=>by
    obtain ⟨n,e⟩:=List.mem_iff_getElem?.mp hq
    exact az sy ey0 e (Nat.zero_le _)
  by_cases c1:(X.length - k == 0)=true
  · rw [if_pos c1]
    refine wpS_pure (plain fun p hp q hq => ?_)
    obtain ⟨n,e⟩:=List.mem_iff_getElem?.mp hp
    have hn:n < X.length:=(List.getElem?_eq_some_iff.mp e).1
    have z:=g1 n (by have:=beq_iff_eq.mp c1; omega)
    rw [e] at z
    exact KeyOrd.kle_trans z (y0le q hq)
  rw [if_neg c1]
  have kx:k < X.length:=by have:X.length - k ≠ 0:=fun z=>c1 (beq_iff_eq.mpr z); omega
  obtain ⟨xl,exl⟩:=xget (X.length - 1) (by omega)
  have xlle:∀ p ∈ X,Le key p xl:=fun p hp=>by
    obtain ⟨n,e⟩:=List.mem_iff_getElem?.mp hp
    have hn:n < X.length:=(List.getElem?_eq_some_iff.mp e).1
    exact az sx e exl (by omega)
  refine wpS_bind (aT (z:=xl) (by rw [show P.length + k + (X.length - k) - 1=P.length + (X.length - 1) by omega,atX _ (by omega)]; exact exl) ?_)
  refine wpS_bind (yr C (fun j=>(Y[j]?).getD xl) k1 (uX _ (List.mem_of_getElem? exl)) (fun j hj => ?_) (fun j hj => ?_) (fun i j hij hj => ?_) (by omega) fun m hm e1 e2 => ?_)
  · obtain ⟨z,e⟩:=yget j hj
    rw [atY j hj,e]; rfl
  · obtain ⟨z,e⟩:=yget j hj
    rw [e]; exact uY _ (List.mem_of_getElem? e)
  · obtain ⟨z,e⟩:=yget i (by omega)
    obtain ⟨z',e'⟩:=yget j hj
    rw [e,e']; exact az sy e e' hij
  dsimp only at e1 e2 ⊢
  by_cases c2:(m == 0)=true
  · rw [if_pos c2]
    refine wpS_pure (plain fun p hp q hq => ?_)
    obtain ⟨n,e⟩:=List.mem_iff_getElem?.mp hq
    have hn:n < Y.length:=(List.getElem?_eq_some_iff.mp e).1
    have z:=e2 n (by have:=beq_iff_eq.mp c2; omega) hn
    rw [e] at z
    exact KeyOrd.kle_trans (xlle p hp) z
  rw [if_neg c2]
  have m0:0 < m:=by have:m ≠ 0:=fun z=>c2 (beq_iff_eq.mpr z); omega
  have ex:((arrOf st).extract (P.length + k) (P.length + X.length)).toList=X.drop k:=by
    rw [Array.toList_extract,List.extract_eq_take_drop,ha,gI,List.drop_append_of_le_length (by omega)]
    rw [List.take_left' (by rw [List.length_drop]; omega)]
  have ey:((arrOf st).extract (P.length + X.length) (P.length + X.length + m)).toList=Y.take m:=by
    have e:=gI (P ++ X) (Y ++ S) 0
    rw [List.length_append,Nat.add_zero,List.drop_zero,List.append_assoc] at e
    rw [Array.toList_extract,List.extract_eq_take_drop,ha,e,Nat.add_sub_cancel_left,List.take_append_of_le_length hm]
  have sX:((arrOf st).extract (P.length + k) (P.length + X.length)).size=X.length - k:=by rw [<- Array.length_toList,ex,List.length_drop]
  have sY:((arrOf st).extract (P.length + X.length) (P.length + X.length + m)).size=m:=by rw [<- Array.length_toList,ey,List.length_take]; omega
  generalize (arrOf st).extract (P.length + k) (P.length + X.length)=xa at ex sX ⊢
  generalize (arrOf st).extract (P.length + X.length) (P.length + X.length + m)=ya at ey sY ⊢
  have xa0:∀ q ∈ xa.toList,Le key y0 q:=fun q hq=>by
    rw [ex] at hq
    obtain ⟨n,hn,e⟩:=aS hq
    have hn2:n < X.length:=(List.getElem?_eq_some_iff.mp e).1
    have z:=g2 n hn hn2
    rw [e] at z
    exact KeyOrd.kle_of_klt z
  have yaL:∀ p ∈ ya.toList,Le key p xl:=fun p hp=>by
    rw [ey] at hp
    obtain ⟨n,hn,e⟩:=aW hp
    have z:=e1 n hn
    rw [e] at z
    exact KeyOrd.kle_of_klt z
  have first:∀ p q,ya[0]? = some p->q ∈ xa.toList->Le key p q:=fun p q hp hq=>by
    rw [<- Array.getElem?_toList,ey,List.getElem?_take,if_pos m0,ey0] at hp
    cases hp
    exact xa0 q hq
  have lst:∀ p q,p ∈ ya.toList->xa[xa.size - 1]? = some q->Le key p q:=fun p q hp hq=>by
    rw [<- Array.getElem?_toList,ex,List.getElem?_drop,sX,show k + (X.length - k - 1)=X.length - 1 by omega,exl] at hq
    cases hq
    exact yaL p hp
  have sxa:xa.toList.Pairwise (Le key):=by rw [ex]; exact sx.sublist (List.drop_sublist _ _)
  have sya:ya.toList.Pairwise (Le key):=by rw [ey]; exact sy.sublist (List.take_sublist _ _)
  have uxa:∀ p ∈ xa.toList,U p:=fun p hp=>by rw [ex] at hp; exact uX p (List.mem_of_mem_drop hp)
  have uya:∀ p ∈ ya.toList,U p:=fun p hp=>by rw [ey] at hp; exact uY p (List.mem_of_mem_take hp)
  have post:∀ r st',Sm st1 st'->dA key xa ya r->wpS (model prog w) A E s (do modify fun s=>setArr s (r.toList.zipIdx.foldl (fun a (p,j)=>a.setIfInBounds (P.length + k + j) p) (arrOf s)); return (failedOf (← get)).isNone) Q st':=by
    rintro r st' sm ⟨fp,fs⟩
    refine wpS_bind (wpS_modify (wpS_bind (wpS_get (wpS_pure ?_))))
    have rl:r.toList.length=X.length - k + m:=by rw [fp.length_eq,List.length_append,Array.length_toList,Array.length_toList,sX,sY]
    have wr:=written r.toList (P.length + k) 0 (arrOf st') (by rw [sm.a,a1,sz,rl]; omega)
    have e:(failedOf (setArr st' (r.toList.zipIdx.foldl (fun a (p,j)=>a.setIfInBounds (P.length + k + j) p) (arrOf st')))).isNone=true:=by
      show (failedOf st').isNone=true
      rw [sm.f,f1]; rfl
    rw [e]
    have t1:(P ++ (X ++ (Y ++ S))).take (P.length + k + 0)=P ++ X.take k:=by
      rw [Nat.add_zero,List.take_append,List.take_of_length_le (by omega),Nat.add_sub_cancel_left,List.take_append_of_le_length (by omega)]
    have t2:(P ++ (X ++ (Y ++ S))).drop (P.length + k + 0 + r.toList.length)=Y.drop m ++ S:=by
      rw [rl,show P.length + k + 0 + (X.length - k + m)=P.length + (X.length + m) by omega,gI,gI,List.drop_append_of_le_length hm]
    have perm:(X.take k ++ (r.toList ++ Y.drop m)).Perm (X ++ Y):=by
      rw [ex,ey] at fp
      have q:(X.take k ++ (r.toList ++ Y.drop m)).Perm (X.take k ++ ((X.drop k ++ Y.take m) ++ Y.drop m)):=List.Perm.append_left _ (List.Perm.append_right _ fp)
      have e3:X.take k ++ ((X.drop k ++ Y.take m) ++ Y.drop m)=X ++ Y:=by
        rw [List.append_assoc (X.drop k),List.take_append_drop, <- List.append_assoc,List.take_append_drop]
      rw [e3] at q
      exact q
    have inr:∀ z ∈ r.toList,z ∈ X.drop k\/z ∈ Y.take m:=fun z hz=>by
      have q:=fp.mem_iff.mp hz
      rw [ex,ey] at q
      exact List.mem_append.mp q
    refine h _ (X.take k ++ (r.toList ++ Y.drop m)) perm ?_ ?_ ?_ (sm.k.trans k1) (sm.f.trans f1)
    · refine List.pairwise_append.mpr ⟨sx.sublist (List.take_sublist _ _),List.pairwise_append.mpr ⟨fs,sy.sublist (List.drop_sublist _ _),fun p hp q hq => ?_⟩,fun p hp q hq => ?_⟩
      · obtain ⟨n,hn,en⟩:=aS hq
        have hn2:n < Y.length:=(List.getElem?_eq_some_iff.mp en).1
        rcases inr p hp with z | z
        · have g:=e2 n hn hn2
          rw [en] at g
          exact KeyOrd.kle_trans (xlle p (List.mem_of_mem_drop z)) g
        · obtain ⟨j,hj,ej⟩:=aW z
          exact az sy ej en (by omega)
      · obtain ⟨n,hn,en⟩:=aW hp
        have g:=g1 n hn
        rw [en] at g
        rcases List.mem_append.mp hq with z | z
        · rcases inr q z with z | z
          · obtain ⟨j,hj,ej⟩:=aS z
            exact az sx en ej (by omega)
          · exact KeyOrd.kle_trans g (y0le q (List.mem_of_mem_take z))
        · exact KeyOrd.kle_trans g (y0le q (List.mem_of_mem_drop z))
    · show (r.toList.zipIdx.foldl (fun a (p,j)=>a.setIfInBounds (P.length + k + j) p) (arrOf st')).toList=_
      rw [wr,sm.a,a1,ha,t1,t2]
      simp only [List.append_assoc]
    · show pendingOf st'=_
      rw [sm.p,p1]
  by_cases c3:X.length - k<=m
  · rw [if_pos c3]
    exact wpS_bind (yu C k1 uxa uya sxa sya (by omega) (by omega) (fun p q hp hq=>first p q hp (bz hq)) lst fun r st' sm fr=>post r st' sm fr)
  · rw [if_neg c3]
    exact wpS_bind (yw C k1 uxa uya sxa sya (by omega) (by omega) first lst fun r st' sm fr=>post r st' sm fr)
end
open PySem PyProof.Rows
theorem wz (lo m:Nat):yo lo m=(do
    let mut n:=1
    for _ in [1:m] do
      let some sm ← ltAt' (lo + n) (lo + n - 1)
        | return none
      if sm then break
      n:=n + 1
    if n == m then return some n
    if n > 1 then
      let some ro ← ltAt' lo (lo + n - 1)
        | return none
      if ro then return some n
      reverseSlice' lo (lo + n)
    rule "list.sort.descending-run"
    n:=n + 1
    let mut q:=0
    for _ in [n:m] do
      let some sm ← ltAt' (lo + n) (lo + n - 1)
        | return none
      if sm then
        if q > 0 then reverseSlice' (lo + n - (q + 1)) (lo + n)
        q:=0
      else
        let some lg ← ltAt' (lo + n - 1) (lo + n)
          | return none
        if lg then break
        q:=q + 1
      n:=n + 1
    if q > 0 then reverseSlice' (lo + n - (q + 1)) (lo + n)
    reverseSlice' lo (lo + n)
    for _ in [n:m] do
      let some sm ← ltAt' (lo + n) (lo + n - 1)
        | return none
      if sm then break
      n:=n + 1
    return some n):=rfl
theorem uz (lo n ok:Nat):ug lo n ok=(do
    for k in [max ok 1:n] do
      let mut l:=0; let mut r:=k
      for _ in [0:k] do
        if l ≥ r then break
        let m:=(l + r) / 2
        let some le ← ltAt' (lo + k) (lo + m)
          | return false
        if le then r:=m else l:=m + 1
      moveDown' (lo + k) (lo + l)
    return true):=rfl
section
variable {O:KeyOrd} (key:Keyed->O.α)
def kk (xs:Array Keyed) (i:Nat):O.α := key ((xs[i]?).getD (Value.none,Value.none))
def Up (xs:Array Keyed) (lo n:Nat):Prop:=∀ i j,lo<=i->i<=j->j < lo + n->O.kle (kk key xs i) (kk key xs j)
def Down (xs:Array Keyed) (lo n:Nat):Prop:=∀ i j,lo<=i->i<=j->j < lo + n->O.kle (kk key xs j) (kk key xs i)
variable {key}
theorem gJ {xs ys:Array Keyed} {i j:Nat} (h:xs[i]? = ys[j]?):kk key xs i=kk key ys j:=by unfold kk; rw [h]
theorem kZ {xs:Array Keyed} {i j:Nat} (hj:j<=xs.size) (k:Nat):kk key (mirror xs i j ((j - i) / 2)) k=if i<=k/\k < j then kk key xs (i + j - 1 - k) else kk key xs k:=by
 have e:=getElem?_mirror_all (i:=i) hj k
 by_cases h:i<=k/\k < j
 ·rw [if_pos h] at e ⊢; exact gJ e
 ·rw [if_neg h] at e ⊢; exact gJ e
theorem ef {xs:Array Keyed} {i j:Nat} (hj:j<=xs.size) (he:∀ k,i<=k->k < j->kk key xs k=kk key xs (j - 1)) (k:Nat):kk key (mirror xs i j ((j - i) / 2)) k=kk key xs k:=by
 rw [kZ hj]
 split
 ·rw [he _ (by omega) (by omega),he k (by omega) (by omega)]
 ·rfl
end
structure SA (lo:Nat) (st st':SortSt):Prop where
 perm:(arrOf st').Perm (arrOf st)
 pre:∀ k,k < lo->(arrOf st')[k]? = (arrOf st)[k]?
 k:kindOf st'=kindOf st
 p:pendingOf st'=pendingOf st
 f:failedOf st'=failedOf st
theorem SA.refl (lo:Nat) (st:SortSt):SA lo st st:=⟨Array.Perm.refl _,fun _ _=>rfl,rfl,rfl,rfl⟩
theorem SA.size {lo:Nat} {st st':SortSt} (h:SA lo st st'):(arrOf st').size=(arrOf st).size:=h.perm.size_eq
theorem SA.mirror {lo:Nat} {st st':SortSt} (h:SA lo st st') {i j:Nat} (hi:lo<=i) (hj:j<=(arrOf st').size):SA lo st (setArr st' (mirror (arrOf st') i j ((j - i) / 2))) :=
 ⟨(mirror_perm _ _ _ _).trans h.perm,fun k hk=>by
  show (PyProof.Rows.mirror (arrOf st') i j ((j - i) / 2))[k]? = _
  rw [getElem?_mirror_all hj,if_neg (by omega)]
  exact h.pre k hk,h.k,h.p,h.f⟩
theorem SA.mem {lo:Nat} {st st':SortSt} (h:SA lo st st') {p:Keyed} (hp:p ∈ (arrOf st').toList):p ∈ (arrOf st).toList:=(Array.perm_iff_toList_perm.mp h.perm).mem_iff.mp hp
section
variable {prog:Program} {w:World} {A:Around} {E:Value->Shared->Prop} {s:Shared} {O:KeyOrd} {key:Keyed->O.α} {U:Keyed->Prop} {κ : SortKind}
theorem fN (C:Cmp prog w A s O key U κ) {st:SortSt} {i j:Nat} {Q:Option Bool->SortSt->Prop} (hκ : kindOf st = κ) (hu:∀ p ∈ (arrOf st).toList,U p) (hi:i < (arrOf st).size) (hj:j < (arrOf st).size)
  (h:Q (some (O.blt (kk key (arrOf st) i) (kk key (arrOf st) j))) st):wpS (model prog w) A E s (ltAt' i j) Q st:=by
 rw [ltAt'_eq]
 refine wpS_bind (wpS_get ?_)
 obtain ⟨x,ex⟩:=aV hi
 obtain ⟨y,ey⟩:=aV hj
 dsimp only
 refine wpS_bind (aT ex (wpS_bind (aT ey (C.lt _ st x y _ hκ (hu _ (bz ex)) (hu _ (bz ey)) ?_))))
 unfold kk at h
 rw [ex,ey] at h
 exact h
theorem wA (C:Cmp prog w A s O key U κ) {st:SortSt} {lo m:Nat} {Q:Option Nat->SortSt->Prop} (hκ : kindOf st = κ) (hu:∀ p ∈ (arrOf st).toList,U p) (hm:1<=m) (hz:lo + m=(arrOf st).size)
  (h:∀ n st',1<=n->n<=m->SA lo st st'->Up key (arrOf st') lo n->Q (some n) st'):wpS (model prog w) A E s (yo lo m) Q st:=by
 rw [wz]
 dsimp only
 refine wpS_bind (wpS_mono (wpS_forRange (I:=fun x c st'=>st=st'/\c=(none,x)/\Up key (arrOf st) lo x)
  (Q:=fun c st'=>st=st'/\∃ n,c=(none,n)/\1<=n/\n<=m/\Up key (arrOf st) lo n/\(n < m->O.klt (kk key (arrOf st) (lo + n)) (kk key (arrOf st) (lo + n - 1)))) ?step ?fin ⟨rfl,rfl,fun i j h1 h2 h3=>by rw [show i=j by omega]; exact KeyOrd.kle_refl _⟩) ?post)
 case fin =>
  rintro c st' ⟨rfl,rfl,up⟩
  exact ⟨rfl,_,rfl,by omega,by omega,by rw [show max 1 m=m by omega] at up ⊢; exact up,by omega⟩
 case step =>
  rintro x c st' h1 h2 ⟨rfl,rfl,up⟩
  dsimp only
  refine wpS_bind (fN C hκ hu (by omega) (by omega) ?_)
  dsimp only
  cases hb:O.blt (kk key (arrOf st) (lo + x)) (kk key (arrOf st) (lo + x - 1)) with
  | true =>
   rw [if_pos rfl]
   exact wpS_pure ⟨rfl,x,rfl,h1,by omega,up,fun _=>hb⟩
  | false =>
   rw [if_neg (by simp)]
   refine wpS_pure ⟨rfl,rfl,fun i j k1 k2 k3 => ?_⟩
   by_cases hj:j=lo + x
   ·by_cases hi:i=j
    ·rw [hi]; exact KeyOrd.kle_refl _
    ·rw [hj]
     exact KeyOrd.kle_trans (up i (lo + x - 1) k1 (by omega) (by omega)) hb
   ·exact up i j k1 k2 (by omega)
 case post =>
  rintro c st' ⟨rfl,n,rfl,n1,n2,up,br⟩
  dsimp only
  by_cases c1:(n == m)=true
  ·rw [if_pos c1]
   exact wpS_pure (h n st n1 n2 (SA.refl _ _) up)
  rw [if_neg c1]
  have nm:n < m:=by have:n ≠ m:=fun z=>c1 (beq_iff_eq.mpr z); omega
  have br:=br nm
  by_cases c2:n > 1
  case' pos =>
   rw [if_pos c2]
   refine wpS_bind (fN C hκ hu (by omega) (by omega) ?_)
   dsimp only
   cases hro:O.blt (kk key (arrOf st) lo) (kk key (arrOf st) (lo + n - 1))
   case' true =>
    rw [if_pos rfl]
    exact wpS_pure (h n st n1 n2 (SA.refl _ _) up)
   rw [if_neg (by simp)]
   have eqs:∀ k,lo<=k->k < lo + n->kk key (arrOf st) k=kk key (arrOf st) (lo + n - 1):=fun k k1 k2 =>
    KeyOrd.kle_antisymm (up k (lo + n - 1) k1 (by omega) (by omega)) (KeyOrd.kle_trans (show O.kle (kk key (arrOf st) (lo + n - 1)) (kk key (arrOf st) lo) from hro) (up lo k (Nat.le_refl _) k1 k2))
   rw [reverseSlice'_eq]
   refine wpS_bind (wpS_modify ?_)
   have sa:=(SA.refl lo st).mirror (i:=lo) (j:=lo + n) (Nat.le_refl _) (by omega)
   have ke:=ef (key:=key) (xs:=arrOf st) (i:=lo) (j:=lo + n) (by omega) eqs
   have ka:∀ k,kk key (arrOf (setArr st (mirror (arrOf st) lo (lo + n) ((lo + n - lo) / 2)))) k=kk key (arrOf st) k:=ke
   generalize setArr st (mirror (arrOf st) lo (lo + n) ((lo + n - lo) / 2))=st1 at sa ka ⊢
   clear ke
  case' neg =>
   rw [if_neg c2]
   have eqs:∀ k,lo<=k->k < lo + n->kk key (arrOf st) k=kk key (arrOf st) (lo + n - 1):=fun k k1 k2=>by rw [show k=lo + n - 1 by omega]
   obtain ⟨st1,e1⟩:∃ st1,st1=st:=⟨_,rfl⟩
   have sa:SA lo st st1:=by rw [e1]; exact SA.refl _ _
   have ka:∀ k,kk key (arrOf st1) k=kk key (arrOf st) k:=fun k=>by rw [e1]
   rw [<- e1]
   clear e1
  all_goals
   refine wpS_bind (wpS_lift (wpAny_rule ⟨rfl,?_⟩))
   have dn:Down key (arrOf st1) lo (n + 1):=fun i j k1 k2 k3=>by
    rw [ka,ka]
    by_cases hj:j=lo + n
    ·by_cases hi:i=j
     ·rw [hi]; exact KeyOrd.kle_refl _
     ·rw [hj,eqs i k1 (by omega)]
      exact KeyOrd.kle_of_klt br
    ·rw [eqs i k1 (by omega),eqs j (by omega) (by omega)]
     exact KeyOrd.kle_refl _
   clear eqs up br ka
   refine wpS_bind (wpS_mono (wpS_forRange (I:=fun x c st'=>∃ q,c=(none,x,q)/\x<=m/\SA lo st st'/\Down key (arrOf st') lo x/\q + 1<=x/\∀ k,lo + x - (q + 1)<=k->k < lo + x->kk key (arrOf st') k=kk key (arrOf st') (lo + x - 1))
    (Q:=fun c st'=>∃ x q,c=(none,x,q)/\1<=x/\x<=m/\SA lo st st'/\Down key (arrOf st') lo x/\q + 1<=x/\∀ k,lo + x - (q + 1)<=k->k < lo + x->kk key (arrOf st') k=kk key (arrOf st') (lo + x - 1)) ?step ?fin
    ⟨0,rfl,by omega,sa,dn,by omega,fun k k1 k2=>by rw [show k=lo + (n + 1) - 1 by omega]⟩) ?post)
   case fin =>
    rintro c st' ⟨q,rfl,xm,sa,dn,hq,he⟩
    exact ⟨_,q,rfl,by omega,xm,sa,dn,hq,he⟩
   case step =>
    rintro x c st2 h1 h2 ⟨q,rfl,xm,sa2,dn2,hq,he⟩
    dsimp only
    have sz:=sa2.size
    have u2:∀ p ∈ (arrOf st2).toList,U p:=fun p hp=>hu p (sa2.mem hp)
    refine wpS_bind (fN C (sa2.k.trans hκ) u2 (by omega) (by omega) ?_)
    dsimp only
    cases hb:O.blt (kk key (arrOf st2) (lo + x)) (kk key (arrOf st2) (lo + x - 1)) with
    | true =>
     rw [if_pos rfl]
     have dn3:Down key (arrOf st2) lo (x + 1):=fun i j k1 k2 k3=>by
      by_cases hj:j=lo + x
      ·by_cases hi:i=j
       ·rw [hi]; exact KeyOrd.kle_refl _
       ·rw [hj]; exact KeyOrd.kle_trans (KeyOrd.kle_of_klt hb) (dn2 i (lo + x - 1) k1 (by omega) (by omega))
      ·exact dn2 i j k1 k2 (by omega)
     by_cases q0:q > 0
     ·rw [if_pos q0,reverseSlice'_eq]
      refine wpS_bind (wpS_modify (wpS_pure ?_))
      have ke:=ef (key:=key) (xs:=arrOf st2) (i:=lo + x - (q + 1)) (j:=lo + x) (by omega) he
      refine ⟨0,rfl,by omega,sa2.mirror (by omega) (by omega),fun i j k1 k2 k3 => ?_,by omega,fun k k1 k2=>by rw [show k=lo + (x + 1) - 1 by omega]⟩
      show O.kle (kk key (mirror (arrOf st2) (lo + x - (q + 1)) (lo + x) ((lo + x - (lo + x - (q + 1))) / 2)) j) (kk key (mirror (arrOf st2) (lo + x - (q + 1)) (lo + x) ((lo + x - (lo + x - (q + 1))) / 2)) i)
      rw [ke,ke]
      exact dn3 i j k1 k2 k3
     ·rw [if_neg q0]
      exact wpS_pure ⟨0,rfl,by omega,sa2,dn3,by omega,fun k k1 k2=>by rw [show k=lo + (x + 1) - 1 by omega]⟩
    | false =>
     rw [if_neg (by simp)]
     refine wpS_bind (fN C (sa2.k.trans hκ) u2 (by omega) (by omega) ?_)
     dsimp only
     cases hb2:O.blt (kk key (arrOf st2) (lo + x - 1)) (kk key (arrOf st2) (lo + x)) with
     | true =>
      rw [if_pos rfl]
      exact wpS_pure ⟨x,q,rfl,by omega,xm,sa2,dn2,hq,he⟩
     | false =>
      rw [if_neg (by simp)]
      have eq:=KeyOrd.kle_antisymm (show O.kle (kk key (arrOf st2) (lo + x)) (kk key (arrOf st2) (lo + x - 1)) from hb2) hb
      refine wpS_pure ⟨q + 1,rfl,by omega,sa2,fun i j k1 k2 k3 => ?_,by omega,fun k k1 k2 => ?_⟩
      ·by_cases hj:j=lo + x
       ·by_cases hi:i=j
        ·rw [hi]; exact KeyOrd.kle_refl _
        ·rw [hj,eq]; exact dn2 i (lo + x - 1) k1 (by omega) (by omega)
       ·exact dn2 i j k1 k2 (by omega)
      ·rw [show lo + (x + 1) - 1=lo + x by omega,eq]
       by_cases hk:k=lo + x
       ·rw [hk,eq]
       ·exact he k (by omega) (by omega)
   case post =>
    rintro c st2 ⟨x,q,rfl,x1,xm,sa2,dn2,hq,he⟩
    dsimp only
    have sz:=sa2.size
    by_cases q0:q > 0
    case' pos =>
     rw [if_pos q0,reverseSlice'_eq]
     refine wpS_bind (wpS_modify ?_)
     have ke:=ef (key:=key) (xs:=arrOf st2) (i:=lo + x - (q + 1)) (j:=lo + x) (by omega) he
     have sa3:=sa2.mirror (i:=lo + x - (q + 1)) (j:=lo + x) (by omega) (by omega)
     have dn3:Down key (arrOf (setArr st2 (mirror (arrOf st2) (lo + x - (q + 1)) (lo + x) ((lo + x - (lo + x - (q + 1))) / 2)))) lo x:=fun i j k1 k2 k3=>by
      show O.kle (kk key (mirror (arrOf st2) (lo + x - (q + 1)) (lo + x) ((lo + x - (lo + x - (q + 1))) / 2)) j) (kk key (mirror (arrOf st2) (lo + x - (q + 1)) (lo + x) ((lo + x - (lo + x - (q + 1))) / 2)) i)
      rw [ke,ke]
      exact dn2 i j k1 k2 k3
     generalize setArr st2 (mirror (arrOf st2) (lo + x - (q + 1)) (lo + x) ((lo + x - (lo + x - (q + 1))) / 2))=st3 at sa3 dn3 ⊢
     clear ke
    case' neg =>
     rw [if_neg q0]
     obtain ⟨st3,e3⟩:∃ st3,st3=st2:=⟨_,rfl⟩
     have sa3:SA lo st st3:=by rw [e3]; exact sa2
     have dn3:Down key (arrOf st3) lo x:=by rw [e3]; exact dn2
     rw [<- e3]
     clear e3
    all_goals
     rw [reverseSlice'_eq]
     refine wpS_bind (wpS_modify ?_)
     have sz3:=sa3.size
     have sa4:=sa3.mirror (i:=lo) (j:=lo + x) (Nat.le_refl _) (by omega)
     have km:=kZ (key:=key) (xs:=arrOf st3) (i:=lo) (j:=lo + x) (by omega)
     have up4:Up key (arrOf (setArr st3 (mirror (arrOf st3) lo (lo + x) ((lo + x - lo) / 2)))) lo x:=fun i j k1 k2 k3=>by
      show O.kle (kk key (mirror (arrOf st3) lo (lo + x) ((lo + x - lo) / 2)) i) (kk key (mirror (arrOf st3) lo (lo + x) ((lo + x - lo) / 2)) j)
      rw [km,km,if_pos ⟨by omega,by omega⟩,if_pos ⟨by omega,by omega⟩]
      exact dn3 _ _ (by omega) (by omega) (by omega)
     generalize setArr st3 (mirror (arrOf st3) lo (lo + x) ((lo + x - lo) / 2))=st4 at sa4 up4 ⊢
     clear km
     have u4:∀ p ∈ (arrOf st4).toList,U p:=fun p hp=>hu p (sa4.mem hp)
     have sz4:=sa4.size
     refine wpS_bind (wpS_mono (wpS_forRange (I:=fun z c st'=>st4=st'/\c=(none,z)/\z<=m/\Up key (arrOf st4) lo z)
      (Q:=fun c st'=>st4=st'/\∃ z,c=(none,z)/\1<=z/\z<=m/\Up key (arrOf st4) lo z) ?step ?fin ⟨rfl,rfl,xm,up4⟩) ?post)
     case fin =>
      rintro c st' ⟨rfl,rfl,zm,up⟩
      exact ⟨rfl,_,rfl,by omega,zm,up⟩
     case post =>
      rintro c st' ⟨rfl,z,rfl,z1,zm,up⟩
      exact wpS_pure (h z st4 z1 zm sa4 up)
     case step =>
      rintro z c st' h1 h2 ⟨rfl,rfl,zm,up⟩
      dsimp only
      refine wpS_bind (fN C (sa4.k.trans hκ) u4 (by omega) (by omega) ?_)
      dsimp only
      cases hb:O.blt (kk key (arrOf st4) (lo + z)) (kk key (arrOf st4) (lo + z - 1)) with
      | true =>
       rw [if_pos rfl]
       exact wpS_pure ⟨rfl,z,rfl,by omega,zm,up⟩
      | false =>
       rw [if_neg (by simp)]
       refine wpS_pure ⟨rfl,rfl,by omega,fun i j k1 k2 k3 => ?_⟩
       by_cases hj:j=lo + z
       ·by_cases hi:i=j
        ·rw [hi]; exact KeyOrd.kle_refl _
        ·rw [hj]; exact KeyOrd.kle_trans (up i (lo + z - 1) k1 (by omega) (by omega)) hb
       ·exact up i j k1 k2 (by omega)
theorem lb {xs:Array Keyed} {src d:Nat} (hs:src < xs.size) (hd:d<=src) (k:Nat) :
  kk key (bubble xs src d) k=if k=src - d then kk key xs src else if src - d < k/\k<=src then kk key xs (k - 1) else kk key xs k:=by
 have e:=getElem?_bubble hs d hd k
 by_cases h1:k=src - d
 ·rw [if_pos h1] at e ⊢; exact gJ e
 ·rw [if_neg h1] at e ⊢
  by_cases h2:src - d < k/\k<=src
  ·rw [if_pos h2] at e ⊢; exact gJ e
  ·rw [if_neg h2] at e ⊢; exact gJ e
theorem SA.bubble {lo:Nat} {st st':SortSt} (h:SA lo st st') {src d:Nat} (hs:src < (arrOf st').size) (hd:lo + d<=src):SA lo st (setArr st' (bubble (arrOf st') src d)) :=
 ⟨(bubble_perm _ _ _).trans h.perm,fun k hk=>by
  show (PyProof.Rows.bubble (arrOf st') src d)[k]? = _
  rw [getElem?_bubble hs d (by omega),if_neg (by omega),if_neg (by omega)]
  exact h.pre k hk,h.k,h.p,h.f⟩
theorem uA (C:Cmp prog w A s O key U κ) {st:SortSt} {lo n ok:Nat} {Q:Bool->SortSt->Prop} (hκ : kindOf st = κ) (hu:∀ p ∈ (arrOf st).toList,U p) (hn:lo + n<=(arrOf st).size) (hok:ok<=n) (up:Up key (arrOf st) lo ok)
  (h:∀ st',SA lo st st'->Up key (arrOf st') lo n->Q true st'):wpS (model prog w) A E s (ug lo n ok) Q st:=by
 rw [uz]
 dsimp only
 refine wpS_bind (wpS_mono (wpS_forRange (I:=fun x c st'=>c=(none,())/\SA lo st st'/\Up key (arrOf st') lo (min x n)) (Q:=fun c st'=>c=(none,())/\SA lo st st'/\Up key (arrOf st') lo n) ?step ?fin ⟨rfl,SA.refl _ _,fun i j k1 k2 k3 => ?_⟩) ?post)
 case post =>
  rintro c st' ⟨rfl,sa,up⟩
  exact wpS_pure (h st' sa up)
 case fin =>
  rintro c st' ⟨rfl,sa,up⟩
  refine ⟨rfl,sa,?_⟩
  rw [show min (max (max ok 1) n) n=n by omega] at up
  exact up
 case step =>
  rintro k c st1 h1 h2 ⟨rfl,sa1,up1⟩
  rw [show min k n=k by omega] at up1
  have sz:=sa1.size
  have u1:∀ p ∈ (arrOf st1).toList,U p:=fun p hp=>hu p (sa1.mem hp)
  refine wpS_bind (wpS_mono (wpS_forRange (I:=fun x c st'=>st1=st'/\∃ l r,c=(none,l,r)/\l<=r/\r<=k/\r - l<=k - x/\(∀ i,i < l->O.kle (kk key (arrOf st1) (lo + i)) (kk key (arrOf st1) (lo + k)))/\(∀ i,r<=i->i < k->O.klt (kk key (arrOf st1) (lo + k)) (kk key (arrOf st1) (lo + i))))
   (Q:=fun c st'=>st1=st'/\∃ l r,c=(none,l,r)/\l<=k/\(∀ i,i < l->O.kle (kk key (arrOf st1) (lo + i)) (kk key (arrOf st1) (lo + k)))/\(∀ i,l<=i->i < k->O.klt (kk key (arrOf st1) (lo + k)) (kk key (arrOf st1) (lo + i)))) ?istep ?ifin ⟨rfl,0,k,rfl,by omega,by omega,by omega,fun i hi=>by omega,fun i a1 a2=>by omega⟩) ?ipost)
  case ifin =>
   rintro c st' ⟨rfl,l,r,rfl,b1,b2,b3,b4,b5⟩
   have e:l=r:=by omega
   subst e
   exact ⟨rfl,l,l,rfl,b2,b4,b5⟩
  case istep =>
   rintro x c st' _ hx ⟨rfl,l,r,rfl,b1,b2,b3,b4,b5⟩
   dsimp only
   by_cases hge:l ≥ r
   ·rw [if_pos hge]
    have e:l=r:=by omega
    subst e
    exact wpS_pure ⟨rfl,l,l,rfl,b2,b4,b5⟩
   ·rw [if_neg hge]
    refine wpS_bind (fN C (sa1.k.trans hκ) u1 (by omega) (by omega) ?_)
    dsimp only
    cases hb:O.blt (kk key (arrOf st1) (lo + k)) (kk key (arrOf st1) (lo + (l + r) / 2)) with
    | true =>
     rw [if_pos rfl]
     exact wpS_pure ⟨rfl,l,(l + r) / 2,rfl,by omega,by omega,by omega,b4,fun i a1 a2=>KeyOrd.klt_of_klt_of_kle hb (up1 _ _ (by omega) (by omega) (by omega))⟩
    | false =>
     rw [if_neg (by simp)]
     exact wpS_pure ⟨rfl,(l + r) / 2 + 1,r,rfl,by omega,by omega,by omega,fun i a1=>KeyOrd.kle_trans (up1 (lo + i) (lo + (l + r) / 2) (by omega) (by omega) (by omega)) hb,b5⟩
  case ipost =>
   rintro c st' ⟨rfl,l,r,rfl,b2,b4,b5⟩
   dsimp only
   rw [moveDown'_eq]
   have e:lo + k - (lo + l)=k - l:=by omega
   refine wpS_bind (wpS_modify (wpS_pure ⟨rfl,?_,?_⟩))
   ·rw [e]
    exact sa1.bubble (by omega) (by omega)
   ·rw [show min (k + 1) n=k + 1 by omega]
    intro i j k1 k2 k3
    show O.kle (kk key (bubble (arrOf st1) (lo + k) (lo + k - (lo + l))) i) (kk key (bubble (arrOf st1) (lo + k) (lo + k - (lo + l))) j)
    have lt:lo + k < (arrOf st1).size:=by omega
    rw [e,lb lt (by omega),lb lt (by omega),show lo + k - (k - l)=lo + l by omega]
    have b4':∀ z,lo<=z->z < lo + l->O.kle (kk key (arrOf st1) z) (kk key (arrOf st1) (lo + k)):=fun z z1 z2=>by
     have:=b4 (z - lo) (by omega)
     rw [show lo + (z - lo)=z by omega] at this
     exact this
    have b5':∀ z,lo + l<=z->z < lo + k->O.kle (kk key (arrOf st1) (lo + k)) (kk key (arrOf st1) z):=fun z z1 z2=>by
     have:=b5 (z - lo) (by omega) (by omega)
     rw [show lo + (z - lo)=z by omega] at this
     exact KeyOrd.kle_of_klt this
    repeat' split
    all_goals first
     | (exfalso; omega)
     | exact KeyOrd.kle_refl _
     | exact b4' _ (by omega) (by omega)
     | exact b5' _ (by omega) (by omega)
     | exact up1 _ _ (by omega) (by omega) (by omega)
 ·by_cases h1:ok=0
  ·rw [show i=j by omega]; exact KeyOrd.kle_refl _
  ·exact up i j k1 k2 (by omega)
end
open PySem PyProof.Rows
def pwr:Nat->Nat->Nat->Nat->Nat:=sortPriv% PySem.Builtin.power
def mrn:Nat->Nat->Nat->Nat:=sortPriv% PySem.Builtin.minRun
theorem uB:xF=(do
    let sz:=(arrOf (← get)).size
    let mr:=mrn sz sz 0
    let mut lo:=0
    for _ in [0:sz] do
      if lo ≥ sz then break
      let some fd ← yo lo (sz - lo)
        | return
      let mut n:=fd
      if n < mr then
        rule "list.sort.binary-insertion"
        let fo:=min (sz - lo) mr
        if !(← ug lo fo n) then return
        n:=fo
      if let some (s1,n1,_):=(pendingOf (← get)).back? then
        let pw:=pwr sz (2 * s1 + n1) (2 * s1 + n1 + n1 + n) sz
        for _ in [0:sz] do
          let p:=pendingOf (← get)
          let some (_,_,old):=(if p.size > 1 then p[p.size - 2]? else none)
            | break
          if old<=pw then break
          if !(← mAt (p.size - 2)) then return
        modify fun s=>SortSt.mk' (kindOf s) (arrOf s) ((pendingOf s).modify ((pendingOf s).size - 1) fun (st,len,_)=>(st,len,pw)) (gallopOf s) (failedOf s)
      modify fun s=>SortSt.mk' (kindOf s) (arrOf s) ((pendingOf s).push (lo,n,0)) (gallopOf s) (failedOf s)
      lo:=lo + n
    for _ in [0:sz] do
      let p:=pendingOf (← get)
      if p.size<=1 then break
      let i:=p.size - 2
      let bf:=if i > 0 then p[i - 1]?.map (·.2.1) else none
      let i:=if bf.any (· < (p[i + 1]?.elim 0 (·.2.1))) then i - 1 else i
      if !(← mAt i) then return):=rfl
def Mt:Nat->List (List Keyed)->List (Nat × Nat × Nat)->Prop
 | _,[],[]=>True
 | off,r :: rs,p :: ps=>p.1=off/\p.2.1=r.length/\Mt (off + r.length) rs ps
 | _,_,_=>False
theorem Mt.length:∀ {off:Nat} {rs:List (List Keyed)} {ps:List (Nat × Nat × Nat)},Mt off rs ps->ps.length=rs.length
 | _,[],[],_=>rfl
 | _,_ :: _,_ :: _,h=>by rw [List.length_cons,List.length_cons,Mt.length h.2.2]
theorem Mt.append:∀ {off:Nat} {rs ts:List (List Keyed)} {ps us:List (Nat × Nat × Nat)},Mt off rs ps->Mt (off + rs.flatten.length) ts us->Mt off (rs ++ ts) (ps ++ us)
 | _,[],_,[],_,_,h=>by simpa using h
 | off,r :: rs,ts,p :: ps,us,h,h'=>by
  refine ⟨h.1,h.2.1,Mt.append h.2.2 ?_⟩
  rw [List.flatten_cons,List.length_append, <- Nat.add_assoc] at h'
  exact h'
theorem Mt.split:∀ {off:Nat} {rs:List (List Keyed)} {ps:List (Nat × Nat × Nat)} (i:Nat),Mt off rs ps->i + 1 < ps.length →
  ∃ R1 X Y R2 L1 w1 w2 L2,rs=R1 ++ X :: Y :: R2/\ps=L1 ++ (off + R1.flatten.length,X.length,w1) :: (off + R1.flatten.length + X.length,Y.length,w2) :: L2/\L1.length=i/\Mt off R1 L1/\Mt (off + R1.flatten.length + X.length + Y.length) R2 L2
 | off,r :: r2 :: rs,p :: p2 :: ps,0,h,_=>by
  obtain ⟨a,b,w1⟩:=p
  obtain ⟨c,d,w2⟩:=p2
  obtain ⟨h1,h2,h3,h4,h5⟩:=h
  dsimp only at h1 h2 h3 h4
  subst h1 h2 h3 h4
  exact ⟨[],r,r2,rs,[],w1,w2,ps,rfl,rfl,rfl,trivial,h5⟩
 | off,r :: rs,p :: ps,i + 1,h,hl=>by
  rw [List.length_cons] at hl
  obtain ⟨R1,X,Y,R2,L1,w1,w2,L2,e1,e2,e3,m1,m2⟩:=Mt.split i h.2.2 (by omega)
  have ea:off + (r :: R1).flatten.length=off + r.length + R1.flatten.length:=by rw [List.flatten_cons,List.length_append]; omega
  refine ⟨r :: R1,X,Y,R2,p :: L1,w1,w2,L2,by rw [e1]; rfl,?_,by rw [List.length_cons,e3],⟨h.1,h.2.1,m1⟩,?_⟩
  ·rw [ea,e2]; rfl
  ·rw [ea]; exact m2
 | off,[],[],i,_,hl=>by simp at hl
 | off,[_],[_],0,_,hl=>by simp at hl
theorem Mt.modify (f:Nat × Nat × Nat->Nat × Nat × Nat) (hf:∀ p,(f p).1=p.1/\(f p).2.1=p.2.1):∀ {off:Nat} {rs:List (List Keyed)} {ps:List (Nat × Nat × Nat)} (i:Nat),Mt off rs ps->Mt off rs (ps.modify i f)
 | _,[],[],i,_=>by cases i <;> exact trivial
 | off,r :: rs,p :: ps,0,h=>⟨(hf p).1.trans h.1,(hf p).2.trans h.2.1,h.2.2⟩
 | off,r :: rs,p :: ps,i + 1,h=>⟨h.1,h.2.1,Mt.modify f hf i h.2.2⟩
theorem rQ {α : Type} (l:List α) (a b c : α) (r:List α):((l ++ a :: b :: r).set l.length c).eraseIdx (l.length + 1)=l ++ c :: r:=by
 induction l with
 | nil=>rfl
 | cons x l ih=>simp only [List.cons_append,List.length_cons,List.set_cons_succ,List.eraseIdx_cons_succ,ih]
section
variable {O:KeyOrd} (key:Keyed->O.α) (U:Keyed->Prop) (κ : SortKind)
structure Rn (a0:List Keyed) (lo:Nat) (st:SortSt):Prop where
 ex:∃ runs rest,(arrOf st).toList=runs.flatten ++ rest/\runs.flatten.length=lo/\(∀ r ∈ runs,r.Pairwise (Le key)/\0 < r.length)/\Mt 0 runs (pendingOf st).toList
 perm:(arrOf st).toList.Perm a0
 k:kindOf st = κ
 f:failedOf st=none
end
section
variable {prog:Program} {w:World} {A:Around} {E:Value->Shared->Prop} {s:Shared} {O:KeyOrd} {key:Keyed->O.α} {U:Keyed->Prop} {κ : SortKind}
theorem nN (C:Cmp prog w A s O key U κ) {a0:List Keyed} {lo i:Nat} {st:SortSt} {Q:Bool->SortSt->Prop} (hu:∀ p ∈ a0,U p) (R:Rn key κ a0 lo st) (hi:i + 1 < (pendingOf st).size)
  (h:∀ st',Rn key κ a0 lo st'->(pendingOf st').size + 1=(pendingOf st).size->(arrOf st').toList.drop lo=(arrOf st).toList.drop lo->Q true st'):wpS (model prog w) A E s (mAt i) Q st:=by
 obtain ⟨runs,rest,ea,el,er,em⟩:=R.ex
 obtain ⟨R1,X,Y,R2,L1,w1,w2,L2,e1,e2,e3,m1,m2⟩:=Mt.split i em (by rw [Array.length_toList]; exact hi)
 subst e1
 rw [Nat.zero_add] at e2 m2
 have hx:=er X (by simp)
 have hy:=er Y (by simp)
 have ga:(pendingOf st)[i]? = some (R1.flatten.length,X.length,w1):=by
  rw [<- Array.getElem?_toList,e2, <- e3,show L1.length=L1.length + 0 by omega,pO]; rfl
 have gb:(pendingOf st)[i + 1]? = some (R1.flatten.length + X.length,Y.length,w2):=by
  rw [<- Array.getElem?_toList,e2, <- e3,pO]; rfl
 refine yy C (P:=R1.flatten) (X:=X) (Y:=Y) (S:=R2.flatten ++ rest) R.k R.f (by rw [ea]; simp) (fun p hp=>hu p (R.perm.mem_iff.mp hp)) ga gb hx.2 hy.2 hx.1 hy.1 fun st' M pm sm ar pd kd fl => ?_
 have lm:M.length=X.length + Y.length:=by rw [pm.length_eq,List.length_append]
 have ep:(pendingOf st').toList=L1 ++ (R1.flatten.length,X.length + Y.length,w1) :: L2:=by
  rw [pd,Array.toList_eraseIdxIfInBounds,Array.toList_setIfInBounds,e2, <- e3]
  exact rQ _ _ _ _ _
 refine h st' ⟨⟨R1 ++ M :: R2,rest,?_,?_,fun r hr => ?_,?_⟩,?_,kd,fl⟩ ?_ ?_
 ·rw [ar]; simp
 ·rw [<- el]; simp [lm]; omega
 ·rcases List.mem_append.mp hr with q | q
  ·exact er r (by simp [q])
  ·rcases List.mem_cons.mp q with q | q
   ·rw [q]; exact ⟨sm,by have:=hx.2; omega⟩
   ·exact er r (by simp [q])
 ·rw [ep]
  refine Mt.append m1 ⟨by rw [Nat.zero_add],lm.symm,?_⟩
  rw [Nat.zero_add,lm, <- Nat.add_assoc]
  exact m2
 ·rw [ar]
  refine List.Perm.trans ?_ R.perm
  rw [ea,show (R1 ++ X :: Y :: R2).flatten ++ rest=R1.flatten ++ ((X ++ Y) ++ (R2.flatten ++ rest)) by simp]
  exact List.Perm.append_left _ (List.Perm.append_right _ pm)
 ·rw [<- Array.length_toList, <- Array.length_toList,ep,e2]
  simp only [List.length_append,List.length_cons]
  omega
 ·have l1:(R1 ++ M :: R2).flatten.length=lo:=by rw [<- el]; simp [lm]; omega
  have q1:(arrOf st').toList=(R1 ++ M :: R2).flatten ++ rest:=by rw [ar]; simp
  rw [q1,ea, <- l1,List.drop_left,l1, <- el,List.drop_left]
theorem Rn.sa {a0:List Keyed} {lo:Nat} {st st':SortSt} (R:Rn key κ a0 lo st) (sa:SA lo st st'):Rn key κ a0 lo st':=by
 obtain ⟨runs,rest,ea,el,er,em⟩:=R.ex
 have et:(arrOf st').toList.take lo=runs.flatten:=by
  have e1:(arrOf st').toList.take lo=(arrOf st).toList.take lo:=by
   refine List.ext_getElem? fun i => ?_
   rw [List.getElem?_take,List.getElem?_take]
   split
   ·rw [Array.getElem?_toList,Array.getElem?_toList]; exact sa.pre i (by assumption)
   ·rfl
  rw [e1,ea, <- el,List.take_left]
 refine ⟨⟨runs,(arrOf st').toList.drop lo,by rw [<- et,List.take_append_drop],el,er,by rw [sa.p]; exact em⟩,(Array.perm_iff_toList_perm.mp sa.perm).trans R.perm,sa.k.trans R.k,sa.f.trans R.f⟩
theorem rR {xs:Array Keyed} {lo n:Nat} (h:Up key xs lo n):((xs.toList.drop lo).take n).Pairwise (Le key):=by
 refine List.pairwise_iff_getElem.mpr fun i j hi hj hij => ?_
 have get:∀ k (hk:k < ((xs.toList.drop lo).take n).length),key ((xs.toList.drop lo).take n)[k]=kk key xs (lo + k)/\k < n:=fun k hk=>by
  have hk':=hk
  rw [List.length_take] at hk'
  refine ⟨?_,by omega⟩
  have e:((xs.toList.drop lo).take n)[k]? = xs[lo + k]? := by
   rw [List.getElem?_take,if_pos (by omega),List.getElem?_drop,Array.getElem?_toList]
  rw [List.getElem?_eq_getElem hk] at e
  unfold kk
  rw [<- e]; rfl
 obtain ⟨e1,l1⟩:=get i hi
 obtain ⟨e2,l2⟩:=get j hj
 show O.kle (key _) (key _)
 rw [e1,e2]
 exact h _ _ (by omega) (by omega) (by omega)
theorem Rn.push {a0:List Keyed} {lo n:Nat} {st:SortSt} (R:Rn key κ a0 lo st) (hn:0 < n) (hz:lo + n<=(arrOf st).size) (hs:(((arrOf st).toList.drop lo).take n).Pairwise (Le key)) :
  Rn key κ a0 (lo + n) (SortSt.mk' (kindOf st) (arrOf st) ((pendingOf st).push (lo,n,0)) (gallopOf st) (failedOf st)):=by
 obtain ⟨runs,rest,ea,el,er,em⟩:=R.ex
 have ed:(arrOf st).toList.drop lo=rest:=by rw [ea, <- el,List.drop_left]
 rw [ed] at hs
 have lr:n<=rest.length:=by
  have:=congrArg List.length ea
  rw [Array.length_toList,List.length_append,el] at this
  omega
 have lt:(rest.take n).length=n:=by rw [List.length_take]; omega
 refine ⟨⟨runs ++ [rest.take n],rest.drop n,?_,?_,fun r hr => ?_,?_⟩,R.perm,R.k,R.f⟩
 ·show (arrOf st).toList=_
  rw [ea]; simp
 ·simp [lt,el]
 ·rcases List.mem_append.mp hr with q | q
  ·exact er r q
  ·have e:r=rest.take n:=by simpa using q
   rw [e]; exact ⟨hs,by omega⟩
 ·show Mt 0 _ ((pendingOf st).push (lo,n,0)).toList
  rw [Array.toList_push]
  exact Mt.append em ⟨by show lo=_; omega,lt.symm,trivial⟩
theorem Rn.mod {a0:List Keyed} {lo:Nat} {st:SortSt} (R:Rn key κ a0 lo st) (i:Nat) (f:Nat × Nat × Nat->Nat × Nat × Nat) (hf:∀ p,(f p).1=p.1/\(f p).2.1=p.2.1):Rn key κ a0 lo (SortSt.mk' (kindOf st) (arrOf st) ((pendingOf st).modify i f) (gallopOf st) (failedOf st)):=by
 obtain ⟨runs,rest,ea,el,er,em⟩:=R.ex
 refine ⟨⟨runs,rest,ea,el,er,?_⟩,R.perm,R.k,R.f⟩
 show Mt 0 runs ((pendingOf st).modify i f).toList
 rw [Array.toList_modify]
 exact Mt.modify f hf i em
theorem yz {c:Prop} [Decidable c] {n:Nat} (h:1 < n):(if c then n - 2 - 1 else n - 2) + 1 < n:=by split <;> omega
theorem lx:∀ {runs:List (List Keyed)},(∀ r ∈ runs,0 < r.length)->runs.length<=runs.flatten.length
 | [],_=>Nat.le_refl _
 | r :: rs,h=>by
  have h1:=h r List.mem_cons_self
  have h2:=lx fun q hq=>h q (List.mem_cons_of_mem _ hq)
  rw [List.flatten_cons,List.length_append,List.length_cons]
  omega
theorem uC (C:Cmp prog w A s O key U κ) {a0:List Keyed} {st:SortSt} {Q:Unit->SortSt->Prop} (hu:∀ p ∈ a0,U p) (ha:(arrOf st).toList=a0) (hp:pendingOf st = #[]) (hk:kindOf st = κ) (hf:failedOf st=none) (h1:1<=a0.length)
  (h:∀ st',(arrOf st').toList.Perm a0->(arrOf st').toList.Pairwise (Le key)->failedOf st'=none->Q () st'):wpS (model prog w) A E s xF Q st:=by
 rw [uB]
 refine wpS_bind (wpS_get ?_)
 dsimp only
 have sz0:(arrOf st).size=a0.length:=by rw [<- Array.length_toList,ha]
 have szR:∀ {lo:Nat} {st':SortSt},Rn key κ a0 lo st'->(arrOf st').size=(arrOf st).size:=fun R=>by rw [<- Array.length_toList,R.perm.length_eq,sz0]
 have uR:∀ {lo:Nat} {st':SortSt},Rn key κ a0 lo st'->∀ p ∈ (arrOf st').toList,U p:=fun R p hp=>hu p (R.perm.mem_iff.mp hp)
 have R0:Rn key κ a0 0 st:=⟨⟨[],a0,by rw [ha]; rfl,rfl,fun r hr=>(by cases hr),by rw [hp]; exact trivial⟩,by rw [ha],hk,hf⟩
 refine wpS_bind (wpS_mono (wpS_forRange (I:=fun x c st'=>∃ lo,c=(none,lo)/\x<=lo/\lo<=(arrOf st).size/\Rn key κ a0 lo st') (Q:=fun c st'=>c=(none,(arrOf st).size)/\Rn key κ a0 (arrOf st).size st') ?step ?fin ⟨0,rfl,Nat.le_refl _,Nat.zero_le _,R0⟩) ?post)
 case fin =>
  rintro c st' ⟨lo,rfl,l1,l2,R⟩
  obtain rfl:lo=(arrOf st).size:=by omega
  exact ⟨rfl,R⟩
 case post =>
  rintro c st1 ⟨rfl,R⟩
  dsimp only
  have p0:(pendingOf st1).size<=(arrOf st).size:=by
   obtain ⟨runs,rest,ea,el,er,em⟩:=R.ex
   have q:=em.length
   rw [Array.length_toList] at q
   have:=lx fun r hr=>(er r hr).2
   omega
  refine wpS_bind (wpS_mono (wpS_forRange (I:=fun x c st'=>c=(none,())/\Rn key κ a0 (arrOf st).size st'/\((pendingOf st').size<=1\/(pendingOf st').size + x<=(arrOf st).size)) (Q:=fun c st'=>c=(none,())/\Rn key κ a0 (arrOf st).size st'/\(pendingOf st').size<=1) ?stepB ?finB ⟨rfl,R,.inr (by omega)⟩) ?postB)
  case finB =>
   rintro c st' ⟨rfl,R,q⟩
   exact ⟨rfl,R,by omega⟩
  case stepB =>
   rintro x c st' _ hx ⟨rfl,R,q⟩
   refine wpS_bind (wpS_get ?_)
   by_cases c1:(pendingOf st').size<=1
   ·rw [if_pos c1]
    exact wpS_pure ⟨rfl,R,c1⟩
   rw [if_neg c1]
   refine wpS_bind (nN C hu R (yz (by omega)) fun st2 R2 s2 _ => ?_)
   simp only [Bool.not_true,Bool.false_eq_true,if_false]
   exact wpS_pure ⟨rfl,R2,by omega⟩
  case postB =>
   rintro c st' ⟨rfl,R,q⟩
   obtain ⟨runs,rest,ea,el,er,em⟩:=R.ex
   have lm:=em.length
   rw [Array.length_toList] at lm
   have lr:=congrArg List.length ea
   rw [Array.length_toList,szR R,List.length_append,el] at lr
   have er0:rest=[]:=List.length_eq_zero_iff.mp (by omega)
   subst er0
   rw [List.append_nil] at ea
   match runs,er,lm,el,ea with
   | [],_,_,el,_=>simp at el; omega
   | [r],er,_,_,ea =>
    have e:(arrOf st').toList=r:=by rw [ea]; simp
    exact wpS_pure (h st' R.perm (by rw [e]; exact (er r (by simp)).1) R.f)
   | _ :: _ :: _,_,lm,_,_=>simp at lm; omega
 case step =>
  rintro x c st1 _ hx ⟨lo,rfl,l1,l2,R⟩
  dsimp only
  by_cases cl:lo ≥ (arrOf st).size
  ·rw [if_pos cl]
   obtain rfl:lo=(arrOf st).size:=by omega
   exact wpS_pure ⟨rfl,R⟩
  rw [if_neg cl]
  have s1:=szR R
  refine wpS_bind (wA C R.k (uR R) (by omega) (by omega) fun n st2 n1 n2 sa2 up2 => ?_)
  dsimp only
  have R2:=R.sa sa2
  have s2:=szR R2
  by_cases cm:n < mrn (arrOf st).size (arrOf st).size 0
  case' pos =>
   rw [if_pos cm]
   refine wpS_bind (wpS_lift (wpAny_rule ⟨rfl,?_⟩))
   obtain ⟨fo,e⟩:∃ fo,fo=min ((arrOf st).size - lo) (mrn (arrOf st).size (arrOf st).size 0):=⟨_,rfl⟩
   rw [<- e]
   refine wpS_bind (uA C R2.k (uR R2) (by omega) (by omega) up2 fun st3 sa3 up3 => ?_)
   simp only [Bool.not_true,Bool.false_eq_true,if_false]
   have R3:=R2.sa sa3
   have f0:0 < fo:=by omega
   have f1:lo + fo<=(arrOf st).size:=by omega
  case' neg =>
   rw [if_neg cm]
   obtain ⟨fo,e⟩:∃ fo,fo=n:=⟨_,rfl⟩
   subst e
   obtain ⟨st3,e3⟩:∃ st3,st3=st2:=⟨_,rfl⟩
   subst e3
   have R3:=R2
   have up3:=up2
   have f0:0 < fo:=n1
   have f1:lo + fo<=(arrOf st).size:=by omega
  all_goals
   have srt:=rR up3
   have s3:=szR R3
   refine wpS_bind (wpS_get ?_)
   cases hbk:(pendingOf st3).back? with
   | none =>
    dsimp only
    exact wpS_bind (wpS_modify (wpS_pure ⟨lo + fo,rfl,by omega,f1,R3.push f0 (by omega) srt⟩))
   | some t =>
    obtain ⟨t1,t2,t3⟩:=t
    dsimp only
    refine wpS_bind (wpS_mono (wpS_forRange (I:=fun _ c st'=>c=(none,())/\Rn key κ a0 lo st'/\(arrOf st').toList.drop lo=(arrOf st3).toList.drop lo) (Q:=fun c st'=>c=(none,())/\Rn key κ a0 lo st'/\(arrOf st').toList.drop lo=(arrOf st3).toList.drop lo) ?stepC ?finC ⟨rfl,R3,rfl⟩) ?postC)
    case finC=>exact fun c st' q=>q
    case stepC =>
     rintro z c st4 _ _ ⟨rfl,R4,d4⟩
     refine wpS_bind (wpS_get ?_)
     by_cases p1:(pendingOf st4).size > 1
     ·rw [if_pos p1]
      have lt:(pendingOf st4).size - 2 < (pendingOf st4).size:=by omega
      have e:(pendingOf st4)[(pendingOf st4).size - 2]? = some (pendingOf st4)[(pendingOf st4).size - 2]:=by simp [lt]
      rw [e]
      dsimp only
      split
      ·exact wpS_pure ⟨rfl,R4,d4⟩
      ·refine wpS_bind (nN C hu R4 (by omega) fun st5 R5 _ d5 => ?_)
       simp only [Bool.not_true,Bool.false_eq_true,if_false]
       exact wpS_pure ⟨rfl,R5,d5.trans d4⟩
     ·rw [if_neg p1]
      exact wpS_pure ⟨rfl,R4,d4⟩
    case postC =>
     rintro c st4 ⟨rfl,R4,d4⟩
     dsimp only
     have s4:=szR R4
     refine wpS_bind (wpS_modify (wpS_bind (wpS_modify (wpS_pure ⟨lo + fo,rfl,by omega,f1,?_⟩))))
     refine Rn.push ?_ f0 ?_ ?_
     ·refine Rn.mod R4 _ _ ?_
      exact fun p=>⟨rfl,rfl⟩
     ·show lo + fo<=(arrOf st4).size
      omega
     ·show (((arrOf st4).toList.drop lo).take fo).Pairwise (Le key)
      rw [d4]
      exact srt
end
open PySem PyProof.Rows
structure gK (prog:Program) (w:World) (s:Shared) (vs:List Value) (O:KeyOrd) (key:Value->O.α):Prop where
 ok:2<=vs.length->∀ (A:Around) (h6:Heap),(∀ b o,s.heap.get? b=some o->h6.get? b=some o)->∃ κ,(∀ (Q:SortKind->Shared->Prop) (E:Value->Shared->Prop),Q κ { s with heap:=h6 }->wpAny (model prog w) A (keyKind' vs.toArray) Q E { s with heap:=h6 }) ∧
  Cmp prog w A { s with heap:=h6 } O (fun p=>key p.1) (fun p=>p.1=p.2/\p.1 ∈ vs) κ
section
variable {prog:Program} {w:World} {A:Around} {E:Value->Shared->Prop} {s:Shared} {O:KeyOrd} {key:Value->O.α}
theorem zs:∀ vs:List Value,(vs.zip vs).map (·.2)=vs
 | []=>rfl
 | v :: vs=>by rw [List.zip_cons_cons,List.map_cons,zs vs]
theorem nO {l:List Keyed} {vs:List Value} (h:l.Perm (vs.zip vs)):(l.map (·.2)).Perm vs/\∀ p ∈ l,p.1=p.2/\p.1 ∈ vs:=by
 have e:=zs vs
 refine ⟨by have:=h.map (·.2); rw [e] at this; exact this,fun p hp => ?_⟩
 have m:=h.mem_iff.mp hp
 obtain ⟨i,hi⟩:=List.mem_iff_getElem?.mp m
 rw [List.getElem?_zip_eq_some] at hi
 have e1:=hi.1.symm.trans hi.2
 exact ⟨Option.some.inj e1,List.mem_of_getElem? hi.1⟩
theorem dB {a:Addr} {vs:List Value} {n:Nat} {P:Fin->Shared->Prop} (ho:s.heap.get? a=some (seqObj "list" vs.toArray n)) (hz:vs.length<=sizeLine)
    (hc:2<=vs.length->∀ h6,(∀ b o,b ≠ a->s.heap.get? b=some o->h6.get? b=some o)->∃ κ,(∀ (Q:SortKind->Shared->Prop) (E:Value->Shared->Prop),Q κ { s with heap:=h6 }->wpAny (model prog w) A (keyKind' vs.toArray) Q E { s with heap:=h6 }) ∧
      Cmp prog w A { s with heap:=h6 } O (fun p=>key p.1) (fun p=>p.1=p.2/\p.1 ∈ vs) κ)
    (h:∀ out:List Value,out.Perm vs->out.Pairwise (fun x y=>O.kle (key x) (key y))->P (.done (.ret .none)) { s with heap:=sortedHeap s.heap a vs out.toArray }):wpAny (model prog w) A (Builtin.«list.sort» ⟨[.ref a],[]⟩) P E s:=by
  rw [list_sort_plain]
  have ha:a < s.heap.objs.size:=Heap.lt_size ho
  refine wpAny_bind (listItems_at ho rfl ?_)
  refine wpAny_bind (listUpdate_at ho rfl ?_ (by rw [List.size_toArray]; exact hz) (Nat.zero_le _))
  obtain ⟨e1,ho1⟩:∃ e1,(s.heap.update a (Obj.mapSeq fun _ => #[])).get? a=some (seqObj "list" #[] e1):=⟨_,get?_update_seq ho (fun _ => #[])⟩
  refine wpAny_bind (seqEpoch_at ho1 rfl (wpAny_bind (wpAny_newTuple ?_ (by exact hz))))
  refine wpAny_bind (wpAny_newList ?_ (Nat.zero_le _))
  refine wpAny_holding ?_
  generalize hH:((s.heap.update a (Obj.mapSeq fun _ => #[])).push (seqObj "tuple" vs.toArray 0)).push (seqObj "list" #[] 0)=h6
  have kp:∀ b o,b ≠ a->s.heap.get? b=some o->h6.get? b=some o:=fun b o nb e=>by
    rw [<- hH]
    refine Heap.get?_push_of_some _ (Heap.get?_push_of_some _ ?_)
    rw [Heap.get?_update_ne _ _ _ _ nb]
    exact e
  have ho6:h6.get? a=some (seqObj "list" #[] e1):=by
    rw [<- hH]
    exact Heap.get?_push_of_some _ (Heap.get?_push_of_some _ ho1)
  have eH:∀ out:List Value,sortedHeap s.heap a vs out.toArray=h6.update a (Obj.mapSeq fun _=>out.toArray):=fun out=>by rw [<- hH]; rfl
  have go:∀ st':SortSt,(arrOf st').toList.Perm (vs.zip vs)->(arrOf st').toList.Pairwise (fun p q=>O.kle (key p.1) (key q.1))->failedOf st'=none →
      wpAny (model prog w) A (do
        let sorted:=(arrOf st').map (·.2)
        let touched:=(← seqEpoch a) != e1
        Builtin.List.listUpdate (.ref a) fun _=>sorted
        if let some e:=failedOf st' then rule "list.sort.comparison-raised"; throw e
        if touched then rule "list.sort.modified"; raiseError "ValueError" "list modified during sort"
        ret .none) P E { s with heap:=h6 }:=by
    intro st' pm ps hf
    obtain ⟨z1,z2⟩:=nO pm
    have em:(arrOf st').map (·.2)=((arrOf st').toList.map (·.2)).toArray:=by
      apply Array.toList_inj.mp
      rw [Array.toList_map]
    dsimp only
    refine wpAny_bind (seqEpoch_at ho6 rfl ?_)
    refine wpAny_bind (listUpdate_at ho6 rfl ?_ (Nat.zero_le _) (by rw [Array.size_map, <- Array.length_toList,pm.length_eq,List.length_zip,Nat.min_self]; omega))
    rw [hf]
    simp only [bne_self_eq_false,Bool.false_eq_true,if_false]
    refine wpAny_pure ?_
    rw [em, <- eH]
    refine h _ z1 (List.pairwise_map.mpr (ps.imp_of_mem fun {p q} hp hq le => ?_))
    rw [<- (z2 p hp).1, <- (z2 q hq).1]
    exact le
  by_cases h2:vs.toArray.size < 2
  · rw [if_pos h2,if_pos h2]
    refine wpAny_bind (wpAny_pure ?_)
    dsimp only
    rw [StateT.run_pure]
    refine wpAny_bind (wpAny_pure ?_)
    refine go (SortSt.mk' general' (vs.toArray.zip vs.toArray) #[] 7 none) (by show (vs.toArray.zip vs.toArray).toList.Perm _; simp) ?_ rfl
    rw [List.size_toArray] at h2
    have et:(vs.toArray.zip vs.toArray).toList=vs.zip vs:=by simp
    show (vs.toArray.zip vs.toArray).toList.Pairwise (fun (p q:Keyed)=>O.kle (key p.1) (key q.1))
    rw [et]
    have short:∀ us:List Value,us.length < 2->(us.zip us).Pairwise (fun (p q:Keyed)=>O.kle (key p.1) (key q.1)):=fun us hu=>by
      match us,hu with
      | [],_=>exact List.Pairwise.nil
      | [v],_=>exact List.pairwise_singleton _ _
      | _ :: _ :: _,hu=>simp only [List.length_cons] at hu; omega
    exact short vs h2
  · rw [if_neg h2,if_neg h2]
    rw [List.size_toArray] at h2
    obtain ⟨κ,k1,C⟩:=hc (by omega) h6 kp
    refine wpAny_bind (k1 _ _ ?_)
    have et:(vs.toArray.zip vs.toArray).toList=vs.zip vs:=by simp
    refine wpAny_bind (wpAny_mono (uC C (E:=E) (a0:=vs.zip vs) (st:=SortSt.mk' κ (vs.toArray.zip vs.toArray) #[] 7 none)
      (Q:=fun _ st'=>(arrOf st').toList.Perm (vs.zip vs)/\(arrOf st').toList.Pairwise (Le fun (p:Keyed)=>key p.1)/\failedOf st'=none)
      (nO (List.Perm.refl _)).2 et rfl rfl rfl (by rw [List.length_zip,Nat.min_self]; omega) fun st' a1 a2 a3=>⟨a1,a2,a3⟩) ?_ fun _ _ e=>e)
    rintro ⟨⟨⟩,st'⟩ s' ⟨rfl,hp,hs,hf⟩
    exact go st' hp hs hf
def nP (prog:Program) (w:World) (s:Shared) (v:Value) (vs:List Value):Prop :=
 ∀ (A:Around) (E:Value->Shared->Prop) (R:List Value->Shared->Prop),(∀ h1,(∀ b o,s.heap.get? b=some o->h1.get? b=some o)->s.heap.objs.size<=h1.objs.size->R vs { s with heap:=h1 })->wpAny (model prog w) A (collect v) R E s
theorem jG {v:Value} {vs:List Value} {Q:Value->Shared->Prop} (hv:nP prog w s v vs) (hz:vs.length<=sizeLine) (C:gK prog w s vs O key)
  (h:∀ (h':Heap) (p:Addr) (out:List Value) (n:Nat),(∀ b o,s.heap.get? b=some o->h'.get? b=some o)->s.heap.objs.size<=p->h'.get? p=some (seqObj "list" out.toArray n)->out.Perm vs->out.Pairwise (fun x y=>O.kle (key x) (key y))->Q (.ref p) { s with heap:=h' }) :
  wpAny (model prog w) A (call (.builtin "sorted") [v]) Q E s:=by
 refine Calls.call_function_entry kind_sorted plain_sorted entry_sorted (args_sorted1 _) ?_
 unfold Builtin.«sorted»
 refine wpAny_bind (m:=checkCount "sorted" 1 1 _) (wpAny_pure ?_)
 refine wpAny_bind (hv _ _ _ fun h1 k1 z1=>wpAny_bind (wpAny_newList ?_ hz))
 have hoL:(h1.push (seqObj "list" vs.toArray 0)).get? h1.objs.size=some (seqObj "list" vs.toArray 0):=Heap.get?_push_size _ rfl
 have kL:∀ b o,s.heap.get? b=some o->(h1.push (seqObj "list" vs.toArray 0)).get? b=some o:=fun b o e=>Heap.get?_push_of_some _ (k1 b o e)
 refine wpAny_bind (wpAny_holding (wpAny_call_entry slot_list_sort ⟨_,hoL,rfl⟩ entry_list_sort (dB (key:=key) (O:=O) hoL hz (fun h2 h6 k6 => ?_) fun out pm ps=>⟨_,rfl,?_⟩) (args_list_sort _)))
 ·exact C.ok h2 _ h6 fun b o e=>k6 b o (Nat.ne_of_lt (Nat.lt_of_lt_of_le (Heap.lt_size e) z1)) (kL b o e)
 ·obtain ⟨n,en⟩:=sortedHeap_at (out:=out.toArray) hoL
  refine wpAny_pure ⟨_,rfl,h _ _ out n (fun b o e => ?_) z1 en pm ps⟩
  have lt:=Nat.lt_of_lt_of_le (Heap.lt_size e) z1
  rw [sortedHeap_old (Nat.ne_of_lt lt) (by rw [size_push']; exact Nat.lt_succ_of_lt lt)]
  exact kL b o e
theorem gL {l:Addr} {o:Obj} {vs:List Value} {n:Nat} (ho:s.heap.get? l=some o) (hc:o.cls = .type "list" \/ o.cls = .type "tuple") (hd:o.data = .seq vs.toArray n) (hz:vs.length<=sizeLine):nP prog w s (.ref l) vs:=by
  intro A E R h
  unfold collect
  refine wpAny_bind (wpAny_runValue (codeAny_builtin entry_proto_collect' ?_))
  show wpAny _ _ (do again (.builtin "list.__iadd__" ⟨[<- newList [],.ref l],[]⟩)) _ _ s
  refine wpAny_bind (wpAny_newList (wpAny_pure ⟨Code.quiet_builtin _ (by decide +kernel),codeAny_builtin entry_list_iadd' ?_⟩))
  show wpAny _ _ (Builtin.List.listExtendWith (.ref s.heap.objs.size) (.ref l) (.ref s.heap.objs.size)) _ _ { s with heap:=s.heap.push (seqObj "list" #[] 0) }
  unfold Builtin.List.listExtendWith
  have ho':(s.heap.push (seqObj "list" #[] 0)).get? l=some o:=Heap.get?_push_of_some _ ho
  have cond:∀ T,o.cls = .type T->(T = "list" \/ T = "tuple")->wpAny (model prog w) A (typeOf (.ref l)) (fun t s'=>t = .type T/\s'={ s with heap:=s.heap.push (seqObj "list" #[] 0) }) E { s with heap:=s.heap.push (seqObj "list" #[] 0) }:=fun T e _=>wpAny_typeOf (T:=T) ⟨o,ho',e⟩ ⟨rfl,rfl⟩
  obtain ⟨T,eT,hT⟩:∃ T,o.cls = .type T/\(T = "list" \/ T = "tuple"):=by
    rcases hc with hc | hc
    · exact ⟨_,hc,.inl rfl⟩
    · exact ⟨_,hc,.inr rfl⟩
  refine wpAny_bind (wpAny_typeOf (T:=T) ⟨o,ho',eT⟩ ?_)
  rw [if_pos (by rcases hT with rfl | rfl <;> simp)]
  refine wpAny_bind (listItems_at ho' hd ?_)
  refine wpAny_bind (listItems_at (xs := #[]) (n:=0) (Heap.get?_push_size _ rfl) rfl ?_)
  rw [if_neg (by simp)]
  refine wpAny_bind (listUpdate_at (xs := #[]) (n:=0) (Heap.get?_push_size _ rfl) rfl ?_ (Nat.zero_le _) (by show (#[] ++ vs.toArray).size<=sizeLine + 1; simp only [Array.size_append,List.size_toArray,List.length_nil]; omega))
  refine wpAny_pure ?_
  show wpAny (model prog w) A (do
      let o ← load s.heap.objs.size
      match o.data with
      | .seq xs _=>pure xs.toList
      | _=>unsupported "internal:collect") R E { s with heap:=(s.heap.push (seqObj "list" #[] 0)).update s.heap.objs.size (Obj.mapSeq (· ++ vs.toArray)) }
  refine wpAny_bind (wpAny_load (get?_update_seq (Heap.get?_push_size _ rfl) _) ?_)
  show wpAny _ _ (pure ((#[]:Array Value) ++ vs.toArray).toList) R E _
  rw [show ((#[]:Array Value) ++ vs.toArray).toList=vs by simp]
  refine wpAny_pure (h _ (fun b ob e => ?_) ?_)
  · rw [Heap.get?_update_ne _ _ _ _ (Nat.ne_of_lt (Heap.lt_size e))]
    exact Heap.get?_push_of_some _ e
  · rw [Heap.size_update,size_push']
    exact Nat.le_succ _
end
open PySem PyProof.Rows
def mF:KeyOrd where
 α := Int
 blt:=fun a b=>decide (a < b)
 irrefl:=fun a=>by simp
 trans:=fun a b c h1 h2=>by simp at *; omega
 negTrans:=fun a b c h=>by simp at *; omega
 total:=fun a b h1 h2=>by simp at *; omega
theorem lex_irrefl:∀ a,HT.lexLt a a=false
 | []=>rfl
 | x :: xs=>by rw [HT.dZ,if_pos rfl]; exact lex_irrefl xs
theorem lex_trans:∀ a b c,HT.lexLt a b=true->HT.lexLt b c=true->HT.lexLt a c=true
 | [],[],_,h,_=>by cases h
 | [],_ :: _,[],_,h=>by cases h
 | [],_ :: _,_ :: _,_,_=>rfl
 | _ :: _,[],_,h,_=>by cases h
 | _ :: _,_ :: _,[],_,h=>by cases h
 | x :: xs,y :: ys,z :: zs,h1,h2=>by
  rw [HT.dZ] at *
  by_cases e1:x=y
  ·subst e1
   rw [if_pos rfl] at h1
   by_cases e2:x=z
   ·rw [if_pos e2] at h2 ⊢
    exact lex_trans xs ys zs h1 h2
   ·rw [if_neg e2] at h2 ⊢
    exact h2
  ·rw [if_neg e1] at h1
   have l1:=of_decide_eq_true h1
   by_cases e2:y=z
   ·subst e2
    rw [if_neg e1]
    exact h1
   ·rw [if_neg e2] at h2
    have l2:=of_decide_eq_true h2
    rw [if_neg (by omega)]
    exact decide_eq_true (by omega)
theorem iI:∀ a b,HT.lexLt a b=false->HT.lexLt b a=false->a=b
 | [],[],_,_=>rfl
 | [],_ :: _,h,_=>by cases h
 | _ :: _,[],_,h=>by cases h
 | x :: xs,y :: ys,h1,h2=>by
  rw [HT.dZ] at *
  by_cases e:x=y
  ·subst e
   rw [if_pos rfl] at h1 h2
   rw [iI xs ys h1 h2]
  ·rw [if_neg e] at h1
   rw [if_neg (Ne.symm e)] at h2
   have a1:=of_decide_eq_false h1
   have a2:=of_decide_eq_false h2
   omega
theorem wB (a b c:List Int) (h:HT.lexLt a c=true):HT.lexLt a b=true\/HT.lexLt b c=true:=by
 cases h1:HT.lexLt a b with
 | true=>exact .inl rfl
 | false =>
  right
  cases h2:HT.lexLt b a with
  | true=>exact lex_trans b a c h2 h
  | false=>rw [<- iI a b h1 h2]; exact h
def lexOrd:KeyOrd where
 α := List Int
 blt:=HT.lexLt
 irrefl:=lex_irrefl
 trans:=lex_trans
 negTrans:=wB
 total:=iI
def intOf:Value->Int
 | .int i _=>i
 | _=>0
section
variable {prog:Program} {w:World} {A:Around} {E:Value->Shared->Prop} {s:Shared}
theorem eZ:∀ {vs:List Value} {ns:List Int},IntsAre vs ns->∀ v ∈ vs,∃ i t,v = .int i t
 | _,_,.nil,v,h=>by cases h
 | _,_,.cons n t r,v,h=>by
  rcases List.mem_cons.mp h with e | e
  ·exact ⟨n,t,e⟩
  ·exact eZ r v e
theorem eA {vs:List Value} {ns:List Int} (hI:IntsAre vs ns):gK prog w s vs mF intOf:=by
 refine ⟨fun h2 A h6 _=>⟨oneType',fun Q E q => ?_,⟨fun E st x y Q hk hx hy q => ?_⟩⟩⟩
 ·match vs,h2,hI with
  | v1 :: v2 :: rest,_,hI =>
   rw [keyKind_ints hI]
   exact wpAny_pure q
  | [],h2,_=>simp at h2
  | [_],h2,_=>simp at h2
 ·obtain ⟨i,t,e1⟩:=eZ hI _ hx.2
  obtain ⟨j,u,e2⟩:=eZ hI _ hy.2
  rw [lt'_eq]
  refine wpS_bind (wpS_get ?_)
  rw [hk,keyLt'_oneType,e1,e2]
  refine wpS_bind (wpS_lift (wpAny_attempt (oneLt_int ⟨rfl,?_⟩)))
  refine wpS_pure ?_
  have q':Q (some (decide (intOf x.1 < intOf y.1))) st:=q
  rw [e1,e2] at q'
  exact q'
def cy (h:Heap) (v:Value):List Int:=match v with
 | .ref p=>match h.get? p with
  | some o=>match o.data with
   | .seq xs _=>xs.toList.map intOf
   | _=>[]
  | none=>[]
 | _=>[]
def da (h:Heap) (v:Value) (ns:List Int):Prop:=∃ p o xs n,v = .ref p/\h.get? p=some o/\o.cls = .type "tuple" /\ o.data = .seq xs n/\IntsAre xs.toList ns
theorem ints_map:∀ {vs:List Value} {ns:List Int},IntsAre vs ns->vs.map intOf=ns
 | _,_,.nil=>rfl
 | _,_,.cons n t r=>by rw [List.map_cons,ints_map r]; rfl
theorem da.ints {h:Heap} {v:Value} {ns:List Int} (x:da h v ns):cy h v=ns:=by
 obtain ⟨p,o,xs,n,rfl,e,_,d,r⟩:=x
 unfold cy
 dsimp only
 rw [e]
 dsimp only
 rw [d]
 exact ints_map r
theorem da.keeps {h h':Heap} {v:Value} {ns:List Int} (x:da h v ns) (k:∀ b o,h.get? b=some o->h'.get? b=some o):da h' v ns:=by
 obtain ⟨p,o,xs,n,rfl,e,r⟩:=x
 exact ⟨p,o,xs,n,rfl,k _ _ e,r⟩
theorem nQ {fin:Bool} {Q:Bool->Shared->Prop}:∀ {us ws:List Value} {ns ms:List Int} (i:Nat),IntsAre us ns->IntsAre ws ms->(fin=true ↔ (decide (ns.length < ms.length)=true))->Q (HT.lexLt ns ms) s →
  PySem.W.KatLex prog w A true fin Q (us.zip ws) i s
 | _,_,_,_,i,.nil,.nil,hf,q=>by
  refine PySem.W.kat_nil ?_
  have e:fin=false:=by cases fin with
   | false=>rfl
   | true=>have:=hf.mp rfl; simp at this
  rw [e]; exact q
 | _,_,_,_,i,.nil,.cons _ _ _,hf,q=>by
  refine PySem.W.kat_nil ?_
  have e:fin=true:=hf.mpr (by simp)
  rw [e]; exact q
 | _,_,_,_,i,.cons _ _ _,.nil,hf,q=>by
  refine PySem.W.kat_nil ?_
  have e:fin=false:=by cases fin with
   | false=>rfl
   | true=>have:=hf.mp rfl; simp at this
  rw [e]; exact q
 | _,_,_,_,i,.cons (ns:=ns) a t r,.cons (ns:=ms) c u r',hf,q=>by
  rw [List.zip_cons_cons]
  refine PySem.W.kat_cons (wpAny_eqBool_int ?_)
  rw [HT.dZ] at q
  by_cases e:a=c
  ·rw [if_pos e] at q
   rw [beq_iff_eq.mpr e]
   exact PySem.W.kat_yes (nQ (i + 1) r r' (by rw [hf]; simp) q)
  ·rw [if_neg e] at q
   rw [beq_eq_false_iff_ne.mpr e]
   refine PySem.W.kat_no ?_
   by_cases i0:(true && i == 0)=true
   ·rw [i0]
    exact oneLt_int q
   ·rw [Bool.eq_false_iff.mpr i0,oneLt'_eq]
    simp only [Bool.false_eq_true,if_false]
    refine wpAny_bind (HT.tV _ _ a t c u prog w _ _ ?_)
    exact wpAny_truthy_bool q
theorem jH {h:Heap}:∀ {vs:List Value},(∀ v ∈ vs,∃ ns,da h v ns/\ns ≠ [])->∃ fs,PySem.W.KatTups h vs fs/\fs.length=vs.length/\∀ f ∈ fs,∃ i t,f = .int i t
 | [],_=>⟨[],trivial,rfl,fun f hf=>by cases hf⟩
 | v :: vs,hv=>by
  obtain ⟨fs,t,l,hf⟩:=jH fun u hu=>hv u (List.mem_cons_of_mem _ hu)
  obtain ⟨ns,⟨p,o,xs,n,rfl,e,c,d,r⟩,ne⟩:=hv v List.mem_cons_self
  have hx:∃ i t,xs[0]? = some (.int i t):=by
   rw [<- Array.getElem?_toList]
   generalize xs.toList=l at r
   cases r with
   | nil=>exact absurd rfl ne
   | cons i t r=>exact ⟨i,t,rfl⟩
  obtain ⟨i,t',hx⟩:=hx
  exact ⟨.int i t' :: fs,PySem.W.KatTups.cons e c d hx t,by rw [List.length_cons,List.length_cons,l],fun f hf'=>by
   rcases List.mem_cons.mp hf' with q | q
   ·exact ⟨i,t',q⟩
   ·exact hf f q⟩
theorem gM {vs:List Value} (hv:∀ v ∈ vs,∃ ns,da s.heap v ns/\ns ≠ []):gK prog w s vs lexOrd (cy s.heap):=by
 refine ⟨fun h2 A h6 k6=>⟨tuples' true,fun Q E q => ?_,⟨fun E st x y Q hk hx hy q => ?_⟩⟩⟩
 ·obtain ⟨fs,t,l,hf⟩:=jH (h:=h6) (vs:=vs) fun v hv'=>by
   obtain ⟨ns,i,ne⟩:=hv v hv'
   exact ⟨ns,i.keeps k6,ne⟩
  refine PySem.W.kat_kind (T := .type "int") t (by omega) (fun f hf' => ?_) rfl q
  obtain ⟨i,t',rfl⟩:=hf f hf'
  exact PySem.W.Looks.of_pure rfl
 ·obtain ⟨ns,i1,_⟩:=hv _ hx.2
  obtain ⟨ms,i2,_⟩:=hv _ hy.2
  have q':Q (some (HT.lexLt (cy s.heap x.1) (cy s.heap y.1))) st:=q
  rw [i1.ints,i2.ints] at q'
  obtain ⟨p1,o1,xs1,n1,e1,g1,c1,d1,r1⟩:=i1.keeps k6
  obtain ⟨p2,o2,xs2,n2,e2,g2,c2,d2,r2⟩:=i2.keeps k6
  rw [lt'_eq]
  refine wpS_bind (wpS_get ?_)
  rw [hk,e1,e2]
  have l1:=r1.length
  have l2:=r2.length
  refine wpS_bind (wpS_lift (wpAny_attempt (PySem.W.kat_lt g1 d1 g2 d2 (nQ 0 r1 r2 ?_ ⟨rfl,?_⟩))))
  ·rw [<- l1, <- l2,Array.length_toList,Array.length_toList]
  ·exact wpS_pure q'
end
end Srt
namespace L2
open PySem PySem.Spec PyProof.Rows
theorem jJ {α β : Type} {f : α -> β}:∀ {l:List β} {m:List α},l.Perm (m.map f)->∃ m':List α,m'.Perm m/\l=m'.map f:=by
 intro l m h
 generalize hk:m.map f=k at h
 induction h generalizing m with
 | nil =>
  have:m=[]:=List.map_eq_nil_iff.mp hk
  exact ⟨[],by rw [this],rfl⟩
 | cons x _ ih =>
  match m,hk with
  | y :: m,hk =>
   rw [List.map_cons] at hk
   injection hk with h1 h2
   obtain ⟨m',p,e⟩:=ih h2
   exact ⟨y :: m',p.cons y,by rw [List.map_cons, <- e,h1]⟩
  | [],hk=>cases hk
 | swap x y l =>
  match m,hk with
  | a :: b :: m,hk =>
   rw [List.map_cons,List.map_cons] at hk
   injection hk with h1 h2
   injection h2 with h2 h3
   exact ⟨b :: a :: m,List.Perm.swap a b m,by rw [List.map_cons,List.map_cons,h1,h2,h3]⟩
  | [],hk=>cases hk
  | [_],hk=>simp at hk
 | trans _ _ ih1 ih2 =>
  obtain ⟨m',p,e⟩:=ih2 hk
  obtain ⟨m'',p',e'⟩:=ih1 e.symm
  exact ⟨m'',p'.trans p,e'⟩
theorem bG:∀ {ns:List Int} {us:List Value},Vals (ns.map V.int) us->IntsAre us ns:=fun r=>intsAre_of r
theorem cO:∀ {us:List Value} {ns:List Int},IntsAre us ns->Vals (ns.map V.int) us:=fun r=>iF r
theorem ck:∀ {us:List Value},(∀ u ∈ us,∃ i t,u=Value.int i t)->IntsAre us (us.map Srt.intOf)
 | [],_ => .nil
 | u :: us,h=>by
  obtain ⟨i,t,e⟩:=h u List.mem_cons_self
  subst e
  exact .cons i t (ck fun v hv=>h v (List.mem_cons_of_mem _ hv))
theorem dF:∀ {α : Type} {f : α -> Addr} {ps:List α} {us:List Value},Vals (ps.map fun x=>V.ref (f x)) us->us=ps.map fun x=>Value.ref (f x)
 | _,_,[],_,r=>by cases r; rfl
 | _,f,p :: ps,_,r=>by
  cases r with
  | cons h t=>rw [List.map_cons, <- dF t,show _=Value.ref (f p) from h]
theorem fO {α : Type} {f : α -> Addr}:∀ {ps:List α},Vals (ps.map fun x=>V.ref (f x)) (ps.map fun x=>Value.ref (f x))
 | [] => .nil
 | p :: ps => .cons rfl fO
section
variable {X:Cx}
theorem Inv.nR {pins:List (Addr × Obj)} {σ:St} {H:Hp} {s:Shared} {p:Addr} {ys:List V} (I:Inv X pins σ H s) (h:SqL X.K H p ys\/SqT X.K H p ys) :
  ∃ (its:List Value) (o:Obj) (n:Nat),Vals ys its/\s.heap.get? p=some o/\(o.cls = .type "list" \/ o.cls = .type "tuple")/\o.data = .seq its.toArray n/\ys.length<=sizeLine:=by
 rcases h with h | h
 ·obtain ⟨its,r,⟨o,n,e,c,_,d⟩,z⟩:=I.list h
  exact ⟨its,o,n,r,e,.inl c,d,z⟩
 ·obtain ⟨its,r,⟨o,e,c,n,d⟩,z⟩:=I.tuple h
  exact ⟨its,o,n,r,e,.inr c,d,z⟩
theorem Inv.newList {pins:List (Addr × Obj)} {σ:St} {H:Hp} {s:Shared} {h':Heap} {p:Addr} {ys:List V} {its:List Value} {n:Nat} (I:Inv X pins σ H s) (k:∀ b o,s.heap.get? b=some o->h'.get? b=some o) (hp:s.heap.objs.size<=p)
  (e:h'.get? p=some { cls := .type "list",data := .seq its.toArray n }) (r:Vals ys its) (hz:ys.length<=sizeLine):Inv X pins σ (upd H p (.lst ys)) { s with heap:=h' } :=
 I.laid (t':=s.toks) k hp ⟨hz,its,n,r,e⟩
theorem bY:bu X (.builtin "sorted") (fun xs H Q=>∃ (p:Addr) (ns:List Int),xs=[.ref p]/\(SqL X.K H p (ns.map V.int)\/SqT X.K H p (ns.map V.int))/\∀ (l:Addr) (out:List Int),H l=none->out.Perm ns->out.Pairwise (· <= ·)->Q (.ref l) (upd H l (.lst (out.map V.int)))):=by
 intro pins s σ H xs us Q I r h
 obtain ⟨p,ns,rfl,hs,q⟩:=h
 obtain ⟨u,rfl,ru⟩:=vals1 r
 cases (show u=Value.ref p from ru)
 obtain ⟨its,o,n,rv,e,c,d,z⟩:=I.nR hs
 have hI:=bG rv
 have lz:its.length<=sizeLine:=by rw [<- rv.length]; exact z
 refine Srt.jG (Srt.gL e c d lz) lz (Srt.eA hI) fun h' l out m k hl el pm ps => ?_
 have hm:∀ v ∈ out,∃ i t,v=Value.int i t:=fun v hv=>Srt.eZ hI v (pm.mem_iff.mp hv)
 have hO:=ck hm
 have pm':(out.map Srt.intOf).Perm ns:=by
  have:=pm.map Srt.intOf
  rw [Srt.ints_map hI] at this
  exact this
 refine ⟨.ref l,_,I.newList k hl el (cO hO) (by rw [List.length_map,pm'.length_eq, <- List.length_map (f:=V.int)]; exact z),rfl,q l _ (I.hok.fresh hl) pm' ?_⟩
 refine List.pairwise_map.mpr (ps.imp fun {x y} le => ?_)
 have le':decide (Srt.intOf y < Srt.intOf x)=false:=le
 have:=of_decide_eq_false le'
 omega
theorem mG:bu X (.builtin "sorted") (fun xs H Q=>∃ (p:Addr) (ts:List (Addr × List Int)),xs=[.ref p]/\(SqL X.K H p (ts.map fun t => .ref t.1)\/SqT X.K H p (ts.map fun t => .ref t.1))/\(∀ t ∈ ts,SqT X.K H t.1 (t.2.map V.int)/\t.2 ≠ []) ∧
  ∀ (l:Addr) (out:List (Addr × List Int)),H l=none->out.Perm ts->out.Pairwise (fun a b=>HT.lexLt b.2 a.2=false)->Q (.ref l) (upd H l (.lst (out.map fun t => .ref t.1)))):=by
 intro pins s σ H xs us Q I r h
 obtain ⟨p,ts,rfl,hs,ht,q⟩:=h
 obtain ⟨u,rfl,ru⟩:=vals1 r
 cases (show u=Value.ref p from ru)
 obtain ⟨its,o,n,rv,e,c,d,z⟩:=I.nR hs
 have ei:=dF rv
 have lz:its.length<=sizeLine:=by rw [<- rv.length]; exact z
 have tup:∀ t ∈ ts,Srt.da s.heap (Value.ref t.1) t.2:=fun t hm=>by
  obtain ⟨jts,jr,⟨jo,je,jc,jn,jd⟩,_⟩:=I.tuple (ht t hm).1
  exact ⟨t.1,jo,_,jn,rfl,je,jc,jd,by simpa using bG jr⟩
 have hv:∀ v ∈ its,∃ ns,Srt.da s.heap v ns/\ns ≠ []:=fun v hv=>by
  rw [ei] at hv
  obtain ⟨t,hm,rfl⟩:=List.mem_map.mp hv
  exact ⟨t.2,tup t hm,(ht t hm).2⟩
 refine Srt.jG (Srt.gL e c d lz) lz (Srt.gM hv) fun h' l out m k hl el pm ps => ?_
 rw [ei] at pm
 obtain ⟨out',pm',rfl⟩:=jJ pm
 refine ⟨.ref l,_,I.newList k hl el fO (by rw [List.length_map,pm'.length_eq, <- List.length_map (f:=fun t:Addr × List Int=>V.ref t.1)]; exact z),rfl,q l _ (I.hok.fresh hl) pm' ?_⟩
 refine (List.pairwise_map.mp ps).imp_of_mem fun {a b} ha hb le => ?_
 have le':HT.lexLt (Srt.cy s.heap (Value.ref b.1)) (Srt.cy s.heap (Value.ref a.1))=false:=le
 rw [(tup a (pm'.mem_iff.mp ha)).ints,(tup b (pm'.mem_iff.mp hb)).ints] at le'
 exact le'
end
open PySem PySem.Spec PyProof.Rows
def SB (r:Addr) (H H':Hp):Prop:=∀ b u,b ≠ r->H b=some u->H' b=some u
theorem SB.refl (r:Addr) (H:Hp):SB r H H:=fun _ _ _ h=>h
theorem SB.trans {r:Addr} {H H1 H2:Hp} (a:SB r H H1) (b:SB r H1 H2):SB r H H2:=fun c u n h=>b c u n (a c u n h)
theorem SB.put {r:Addr} {H:Hp} (o:HO):SB r H (upd H r o):=fun c u n h=>by rw [aq n]; exact h
def Tp (H H':Hp):Prop:=∀ b xs,H b=some (.tup xs)->H' b=some (.tup xs)
theorem aL.tp {H H':Hp} (a:aL H H'):Tp H H':=fun c u h=>a c _ h
def mnI (a b:Int):Int:=if b < a then b else a
def mxI (a b:Int):Int:=if b > a then b else a
def nrm (a b:Int):List Int:=[mnI a b,mxI a b]
open PySem PySem.Spec PyProof.Rows
section
variable {X:Cx} {tg:Expr}
def iSeq (K:PySem.W.Frag) (tl:TE):TI:=fun σ H R=>tl σ H fun x H1=>∃ a,x = .ref a/\(((∃ xs,SqL K H1 a xs)/\R (Itl K a) H1)\/((∃ xs,SqT K H1 a xs)/\R (Itt K a) H1))
theorem mH {l:Expr} {tl:TE} (hl:PE X l tl):PI X tg l (iSeq X.K tl):=by
 intro pins s σ H R I h; refine thn (hl pins s σ H _ I h) fun v s1 ⟨x,H1,I1,r1,q1⟩ => ?_
 obtain ⟨a,e,q1⟩:=q1
 subst e
 cases r1
 have fp:∀ b ∈ [s1.heap.objs.size],iz X pins H1 b:=fun b hb=>by
  have e:b=s1.heap.objs.size:=by simpa using hb
  rw [e]; exact I1.rA (Nat.le_refl _) (I1.hok.fresh (Nat.le_refl _))
 rcases q1 with ⟨⟨xs,hq⟩,q⟩ | ⟨⟨xs,hq⟩,q⟩
 ·obtain ⟨its,rv,p,hz⟩:=I1.list hq; refine wpAny_pyIter_list p.isList ?_
  exact ⟨s1.heap.objs.size,_,_,_,H1,rfl,I1.kept (t':=s1.toks) (fun b o e=>Heap.get?_push_of_some _ e),kK a _,⟨_,Heap.get?_push_size _ rfl,rfl,rfl⟩,fp,q⟩
 ·obtain ⟨its,rv,p,hz⟩:=I1.tuple hq; refine wpAny_pyIter_tuple (show s1.heap.IsTuple a its.toArray from p) ?_
  exact ⟨s1.heap.objs.size,_,_,_,H1,rfl,I1.kept (t':=s1.toks) (fun b o e=>Heap.get?_push_of_some _ e),jv a _,⟨_,Heap.get?_push_size _ rfl,rfl,rfl⟩,fp,q⟩
end
theorem rT {K:PySem.W.Frag} {a:Addr} {xs:List V} {k:Nat} {tc:TT} {te:TE} {τ : St} {H:Hp} {Q:VK} (Pv:Nat->List V->Hp->Prop) (hp:H a=some (.lst xs)\/H a=some (.tup xs)) (h0:Pv 0 [] H) (hz:xs.length<=sizeLine)
  (hl:∀ i ys H',Pv i ys H'->H' a=H a) (hs:∀ i x ys H,xs[i]? = some x->ys.length<=i->Pv i ys H->nL k tc te τ Pv i x ys H)
  (hd:∀ ys H,ys.length<=xs.length->Pv xs.length ys H->∀ l,H l=none->Q (.ref l) (upd H l (.lst ys))) :
  ((∃ xs,SqL K H a xs)/\iV (Itl K a) (eO k) tc te τ Q H)\/((∃ xs,SqT K H a xs)/\iV (Itt K a) (eO k) tc te τ Q H):=by
 rcases hp with hp | hp
 ·exact .inl ⟨⟨_,SqL.of hp⟩,gh Pv h0 hz (fun i ys H' _ z=>SqL.of ((hl i ys H' z).trans hp)) hs hd⟩
 ·exact .inr ⟨⟨_,SqT.of hp⟩,bQ Pv h0 hz (fun i ys H' _ z=>SqT.of ((hl i ys H' z).trans hp)) hs hd⟩
theorem uD {X:Cx} {K:PySem.W.Frag} {x y:Str} {i j k:Nat} {p p' pos:Pos} (hN:X.N.Nodup) (hi:X.N[i]? = some x) (hj:X.N[j]? = some y) (hx:Loc X.env.scope x) (hy:Loc X.env.scope y) (hc:X.calm=true:=by rfl) (h:X.K=K:=by rfl)
  (hf:X.fn x=true\/X.env.scope.names.lookup x=some .local:=by first | exact .inl rfl | exact .inr rfl) (hg:X.fn y=true\/X.env.scope.names.lookup y=some .local:=by first | exact .inl rfl | exact .inr rfl):PG X (.Tuple [.Name x p,.Name y p'] k pos) (xE K i j):=by
 subst h
 exact tO hc (gA (aB hN hi hx hf) (gA (aB hN hj hy hg) qq))
end L2
namespace STab
open PySem PySem.SetTable
def mI (xs:Array Nat):Prop:=∀ i j a b:Nat,xs[i]? = some a->xs[j]? = some b->i < j->a < b
theorem uE {xs:Array Nat} (R:mI xs) (j:Nat):∀ (fuel lo hi:Nat),lo<=hi->hi<=xs.size->hi - lo<=fuel →
  (∀ i a,i < lo->xs[i]? = some a->a < j)->(∀ i a,hi<=i->xs[i]? = some a->j<=a) →
  below.go xs j fuel lo hi<=xs.size/\(∀ i a,xs[i]? = some a->(i < below.go xs j fuel lo hi ↔ a < j)):=by
 intro fuel
 induction fuel with
 | zero =>
  intro lo hi h1 h2 h3 h4 h5
  unfold below.go
  refine ⟨by omega,fun i a e=>⟨fun q=>h4 i a q e,fun q => ?_⟩⟩
  apply Nat.lt_of_not_le
  intro q2
  have:=h5 i a (by omega) e
  omega
 | succ fuel ih =>
  intro lo hi h1 h2 h3 h4 h5
  unfold below.go
  by_cases hl:lo < hi
  ·rw [if_pos hl]
   dsimp only
   have hm:(lo + hi) / 2 < xs.size:=by omega
   have em:xs[(lo + hi) / 2]? = some xs[(lo + hi) / 2]:=Array.getElem?_eq_getElem hm
   have eg:xs.getD ((lo + hi) / 2) j=xs[(lo + hi) / 2]:=by simp [Array.getD,hm]
   rw [eg]
   by_cases hc:xs[(lo + hi) / 2] < j
   ·rw [if_pos hc]
    refine ih _ _ (by omega) h2 (by omega) (fun i a q e => ?_) h5
    by_cases q2:i=(lo + hi) / 2
    ·rw [q2,em] at e; cases e; exact hc
    ·exact Nat.lt_trans (R i _ _ _ e em (by omega)) hc
   ·rw [if_neg hc]
    refine ih _ _ (by omega) (by omega) (by omega) h4 (fun i a q e => ?_)
    by_cases q2:i=(lo + hi) / 2
    ·rw [q2,em] at e; cases e; omega
    ·have:=R _ i _ _ em e (by omega)
     omega
  ·rw [if_neg hl]
   refine ⟨by omega,fun i a e=>⟨fun q=>h4 i a q e,fun q => ?_⟩⟩
   apply Nat.lt_of_not_le
   intro q2
   have:=h5 i a (by omega) e
   omega
theorem dc {xs:Array Nat} (R:mI xs) (j:Nat):below xs j<=xs.size/\∀ i a,xs[i]? = some a->(i < below xs j ↔ a < j) :=
 uE R j _ _ _ (Nat.zero_le _) (Nat.le_refl _) (by omega) (fun i a h=>by omega) fun i a h e=>by
  rw [Array.getElem?_eq_none (by omega)] at e; cases e
theorem below_at {xs:Array Nat} (R:mI xs) {i j:Nat} (h:xs[i]? = some j):below xs j=i:=by
 obtain ⟨h1,h2⟩:=dc R j
 have hi:i < xs.size:=by
  apply Nat.lt_of_not_le; intro q; rw [Array.getElem?_eq_none q] at h; cases h
 have a1:¬ i < below xs j:=fun q=>by have:=(h2 i j h).mp q; omega
 apply Nat.le_antisymm (by omega)
 apply Nat.le_of_not_lt
 intro q
 have e:=Array.getElem?_eq_getElem (xs:=xs) (i:=below xs j) (by omega)
 have l1:=R _ _ _ _ e h q
 have:=(h2 _ _ e).mpr l1
 omega
theorem pP {xs:Array Nat} (R:mI xs) {i j:Nat} (h:xs[i]? = some j):below xs (j + 1)=i + 1:=by
 obtain ⟨h1,h2⟩:=dc R (j + 1)
 have a1:i < below xs (j + 1):=(h2 i j h).mpr (by omega)
 apply Nat.le_antisymm _ a1
 apply Nat.le_of_not_lt
 intro q
 have hk:i + 1 < xs.size:=by omega
 have e:=Array.getElem?_eq_getElem (xs:=xs) hk
 have l1:=R _ _ _ _ h e (by omega)
 have:=(h2 _ _ e).mp q
 omega
theorem pQ {xs:Array Nat} (R:mI xs):below xs 0=0:=by
 obtain ⟨h1,h2⟩:=dc R 0
 apply Nat.le_antisymm _ (Nat.zero_le _)
 apply Nat.le_of_not_lt
 intro q
 have:=(h2 0 _ (Array.getElem?_eq_getElem (by omega))).mp q
 omega
theorem bA {α : Type} (xs:Array α) (p:Nat) (x : α):(insertAt xs p x).toList=xs.toList.take p ++ x :: xs.toList.drop p:=by
 unfold insertAt
 simp
 rw [List.take_of_length_le (by simp)]
theorem bH {α : Type} (xs:Array α) {p:Nat} (hp:p<=xs.size) (x : α) (i:Nat) :
  (insertAt xs p x)[i]? = if i < p then xs[i]? else if i=p then some x else xs[i - 1]? := by
 rw [<- Array.getElem?_toList,bA]
 have hl:(xs.toList.take p).length=p:=by rw [List.length_take,Array.length_toList]; omega
 by_cases h1:i < p
 ·rw [if_pos h1,List.getElem?_append_left (by omega),List.getElem?_take,if_pos h1,Array.getElem?_toList]
 ·rw [if_neg h1,List.getElem?_append_right (by omega),hl]
  by_cases h2:i=p
  ·rw [if_pos h2,h2,Nat.sub_self]; rfl
  ·rw [if_neg h2]
   obtain ⟨d,hd⟩:∃ d,i - p=d + 1:=⟨i - p - 1,by omega⟩
   rw [hd,List.getElem?_cons_succ,List.getElem?_drop,Array.getElem?_toList]
   congr 1; omega
theorem bK {α : Type} (xs:Array α) (p:Nat) (x : α):(insertAt xs p x).size=xs.size + 1:=by
 rw [<- Array.length_toList,bA,List.length_append,List.length_cons,List.length_take,List.length_drop,Array.length_toList]
 omega
theorem insertAt_perm {α : Type} (xs:Array α) (p:Nat) (x : α):(insertAt xs p x).toList.Perm (x :: xs.toList):=by
 rw [bA]
 exact List.perm_middle.trans (by rw [List.take_append_drop])
theorem eB {α β : Type} (xs:Array α) (p:Nat) (x : α) (f : α -> β):(insertAt xs p x).map f=insertAt (xs.map f) p (f x):=by
 apply Array.toList_inj.mp
 rw [Array.toList_map,bA,bA,Array.toList_map,List.map_append,List.map_cons,List.map_take,List.map_drop]
theorem kz {xs:Array Nat} (R:mI xs) {j:Nat} (hj:∀ i:Nat,xs[i]? ≠ some j):mI (insertAt xs (below xs j) j):=by
 obtain ⟨h1,h2⟩:=dc R j
 intro a b x y ea eb hab
 rw [bH _ h1] at ea eb
 by_cases a1:a < below xs j
 ·rw [if_pos a1] at ea
  have:=(h2 _ _ ea).mp a1
  by_cases b1:b < below xs j
  ·rw [if_pos b1] at eb; exact R _ _ _ _ ea eb hab
  ·rw [if_neg b1] at eb
   by_cases b2:b=below xs j
   ·rw [if_pos b2] at eb; cases eb; exact this
   ·rw [if_neg b2] at eb
    exact R _ _ _ _ ea eb (by omega)
 ·rw [if_neg a1] at ea
  rw [if_neg (by omega),if_neg (by omega)] at eb
  have l1:¬ y < j:=fun q=>by have:=(h2 _ _ eb).mpr q; omega
  by_cases a2:a=below xs j
  ·rw [if_pos a2] at ea; cases ea
   have:y ≠ j:=fun q=>hj _ (q ▸ eb)
   omega
  ·rw [if_neg a2] at ea
   exact R _ _ _ _ ea eb (by omega)
def occ (t:SetTable) (j:Nat):Prop:=∃ i:Nat,t.place[i]? = some j
theorem iJ {t:SetTable} (R:mI t.place) {i j:Nat} (h:t.place[i]? = some j):t.slot j = .live i:=by
 unfold SetTable.slot
 dsimp only
 rw [below_at R h,h]
 simp
theorem pS {t:SetTable} (D:t.dummies = #[]) {j:Nat} (h:¬ occ t j):t.slot j = .empty:=by
 unfold SetTable.slot
 dsimp only
 have h1:(t.place[below t.place j]? == some j)=false:=by
  rw [beq_eq_false_iff_ne]; exact fun q=>h ⟨_,q⟩
 rw [h1,D]
 simp [has]
def adv (mask:Nat) (p:Probe):Probe :=
 if p.more > 0 then { p with j:=p.j + 1,more:=p.more - 1 } else
 let (i,perturb):=leap mask p.i p.perturb
 { p with j:=i,more:=runEnd mask i - i,i,perturb }
def cC (mask i perturb:Nat):Probe:={ j:=i,more:=runEnd mask i - i,i,perturb,dummy:=none }
def start (mask:Nat) (h:Int):Probe:=cC mask (bits h % (mask + 1)) (bits h)
inductive Way (oc:Nat->Prop) (mask:Nat):Nat->Probe->Probe->Prop
 | here (p:Probe):Way oc mask 0 p p
 | step {n:Nat} {p q:Probe}:oc p.j->Way oc mask n (adv mask p) q->Way oc mask (n + 1) p q
theorem Way.mono {oc oc':Nat->Prop} {mask n:Nat} {p q:Probe} (m:∀ j,oc j->oc' j) (h:Way oc mask n p q):Way oc' mask n p q:=by
 induction h with
 | here p=>exact .here p
 | step a _ ih=>exact .step (m _ a) ih
theorem Way.dummy {oc:Nat->Prop} {mask n:Nat} {p q:Probe} (h:Way oc mask n p q):q.dummy=p.dummy:=by
 induction h with
 | here p=>rfl
 | @step n p q _ _ ih =>
  rw [ih]; unfold adv; split <;> rfl
theorem yA {mask:Nat} {p:Probe} (h:p.j + p.more<=mask):(adv mask p).j + (adv mask p).more<=mask:=by
 unfold adv
 split
 ·dsimp only; omega
 ·dsimp only [leap]
  have:(p.i * 5 + 1 + p.perturb / 32) % (mask + 1) < mask + 1:=Nat.mod_lt _ (Nat.succ_pos mask)
  unfold runEnd
  split <;> omega
theorem nU (mask:Nat) (h:Int):(start mask h).j + (start mask h).more<=mask:=by
 unfold start cC
 dsimp only
 have:bits h % (mask + 1) < mask + 1:=Nat.mod_lt _ (Nat.succ_pos mask)
 unfold runEnd
 split <;> omega
theorem Way.le {oc:Nat->Prop} {mask n:Nat} {p q:Probe} (h:Way oc mask n p q):p.j + p.more<=mask->q.j<=mask:=by
 induction h with
 | here p=>intro; omega
 | step _ _ ih=>intro h; exact ih (yA h)
def mJ (mask:Nat):Nat->Probe->Probe
 | 0,p=>p
 | n + 1,p=>mJ mask n (adv mask p)
theorem nV (mask:Nat):∀ (a b:Nat) (p:Probe),mJ mask (a + b) p=mJ mask b (mJ mask a p)
 | 0,b,p=>by rw [Nat.zero_add]; rfl
 | a + 1,b,p=>by rw [show a + 1 + b=(a + b) + 1 by omega]; exact nV mask a b (adv mask p)
theorem rV (oc:Nat->Prop) (mask:Nat):∀ (n:Nat) (p:Probe),¬ oc (mJ mask n p).j->∃ k q,k<=n/\Way oc mask k p q/\¬ oc q.j:=by
 intro n
 induction n with
 | zero=>intro p h; exact ⟨0,p,Nat.le_refl _,.here p,h⟩
 | succ n ih =>
  intro p h
  by_cases hp:oc p.j
  ·obtain ⟨k,q,a,b,c⟩:=ih (adv mask p) h
   exact ⟨k + 1,q,by omega,.step hp b,c⟩
  ·exact ⟨0,p,Nat.zero_le _,.here p,hp⟩
theorem wC (mask:Nat):∀ (m:Nat) (p:Probe),p.more=m->p.dummy=none->mJ mask (m + 1) p=cC mask (leap mask p.i p.perturb).1 (leap mask p.i p.perturb).2:=by
 intro m
 induction m with
 | zero =>
  intro p h d
  show adv mask p=_
  unfold adv
  rw [if_neg (by omega)]
  obtain ⟨j,mo,i,pe,dm⟩:=p
  cases d
  rfl
 | succ m ih =>
  intro p h d
  show mJ mask (m + 1) (adv mask p)=_
  have e:adv mask p={ p with j:=p.j + 1,more:=p.more - 1 }:=by unfold adv; rw [if_pos (by omega)]
  rw [e]
  exact ih _ (by dsimp only; omega) d
def bR (mask:Nat):Nat->Nat × Nat->Nat × Nat
 | 0,x=>x
 | k + 1,x=>bR mask k (leap mask x.1 x.2)
theorem lB (mask:Nat):∀ (a b:Nat) (x:Nat × Nat),bR mask (a + b) x=bR mask b (bR mask a x)
 | 0,b,x=>by rw [Nat.zero_add]; rfl
 | a + 1,b,x=>by rw [show a + 1 + b=(a + b) + 1 by omega]; exact lB mask a b _
theorem more_le (mask i:Nat):runEnd mask i - i<=9:=by unfold runEnd; split <;> omega
theorem pT (mask:Nat):∀ (k i pe:Nat),∃ n,n<=10 * k/\mJ mask n (cC mask i pe)=cC mask (bR mask k (i,pe)).1 (bR mask k (i,pe)).2:=by
 intro k
 induction k with
 | zero=>intro i pe; exact ⟨0,by omega,rfl⟩
 | succ k ih =>
  intro i pe
  obtain ⟨n,h1,h2⟩:=ih (leap mask i pe).1 (leap mask i pe).2
  refine ⟨(runEnd mask i - i + 1) + n,by have:=more_le mask i; omega,?_⟩
  rw [nV,wC mask (runEnd mask i - i) (cC mask i pe) rfl rfl]
  exact h2
theorem fV (mask:Nat):∀ (k i pe:Nat),(bR mask k (i,pe)).2=pe / 32 ^ k
 | 0,i,pe=>by simp [bR]
 | k + 1,i,pe=>by
  show (bR mask k (leap mask i pe)).2=_
  rw [show leap mask i pe=((leap mask i pe).1,pe / 32) from rfl,fV mask k,Nat.div_div_eq_div_mul,Nat.pow_succ,Nat.mul_comm 32]
theorem nW (mask:Nat):∀ (k i pe:Nat),i<=mask->(bR mask k (i,pe)).1<=mask
 | 0,i,pe,h=>h
 | k + 1,i,pe,h=>by
  show (bR mask k (leap mask i pe)).1<=mask
  rw [show leap mask i pe=((leap mask i pe).1,pe / 32) from rfl]
  exact nW mask k _ _ (Nat.le_of_lt_succ (Nat.mod_lt _ (Nat.succ_pos mask)))
def ste (m i:Nat):Nat:=(i * 5 + 1) % m
def its (m:Nat):Nat->Nat->Nat
 | 0,i=>i
 | n + 1,i=>its m n (ste m i)
theorem jh (m:Nat):∀ (a b i:Nat),its m (a + b) i=its m b (its m a i)
 | 0,b,i=>by rw [Nat.zero_add]; rfl
 | a + 1,b,i=>by rw [show a + 1 + b=(a + b) + 1 by omega]; exact jh m a b _
def orb (m:Nat):Nat->Nat->List Nat
 | 0,_=>[]
 | n + 1,i=>i :: orb m n (ste m i)
theorem mK (m:Nat):∀ (n i j:Nat),j ∈ orb m n i->∃ r,r < n/\its m r i=j
 | 0,i,j,h=>by cases h
 | n + 1,i,j,h=>by
  rcases List.mem_cons.mp h with h | h
  ·exact ⟨0,by omega,h.symm⟩
  ·obtain ⟨r,a,b⟩:=mK m n _ _ h
   exact ⟨r + 1,by omega,b⟩
def whole (m:Nat):Bool:=((List.range m).all fun j=>(orb m m 0).contains j) && (its m m 0 == 0)
theorem rW {m:Nat} (h:whole m=true) {i j:Nat} (hi:i < m) (hj:j < m):∃ r,r < m/\its m r i=j:=by
 unfold whole at h
 rw [Bool.and_eq_true,List.all_eq_true,beq_iff_eq] at h
 obtain ⟨h1,h2⟩:=h
 obtain ⟨a,a1,a2⟩:=mK m m 0 i (List.contains_iff_mem.mp (h1 i (List.mem_range.mpr hi)))
 obtain ⟨b,b1,b2⟩:=mK m m 0 j (List.contains_iff_mem.mp (h1 j (List.mem_range.mpr hj)))
 by_cases hab:a<=b
 ·refine ⟨b - a,by omega,?_⟩
  rw [<- a2, <- jh,show a + (b - a)=b by omega]
  exact b2
 ·refine ⟨m + b - a,by omega,?_⟩
  rw [<- a2, <- jh,show a + (m + b - a)=m + b by omega,jh,h2]
  exact b2
theorem yB:whole 8=true:=by decide +kernel
theorem wD:whole 32=true:=by decide +kernel
theorem uF:whole 128=true:=by decide +kernel
theorem uG:whole 512=true:=by decide +kernel
def Msk (mask:Nat):Prop:=mask=7\/mask=31\/mask=127\/mask=511
theorem Msk.whole {mask:Nat} (h:Msk mask):whole (mask + 1)=true:=by
 rcases h with rfl | rfl | rfl | rfl
 ·exact yB
 ·exact wD
 ·exact uF
 ·exact uG
theorem lC (mask:Nat):∀ (r i:Nat),bR mask r (i,0)=(its (mask + 1) r i,0)
 | 0,i=>rfl
 | r + 1,i=>by
  show bR mask r (leap mask i 0)=_
  rw [show leap mask i 0=(ste (mask + 1) i,0) from rfl,lC mask r]; rfl
theorem wF (h:Int):bits h < 2 ^ 64:=by
 unfold bits
 have h1:=Int.emod_lt_of_pos h (show (0:Int) < 2 ^ 64 by decide)
 have h0:=Int.emod_nonneg h (show (2 ^ 64:Int) ≠ 0 by decide)
 have:((2 ^ 64:Nat):Int)=2 ^ 64:=by decide
 omega
theorem jK {mask:Nat} (hm:Msk mask) {h:Int} {j:Nat} (hj:j<=mask):∃ k,k < turns mask/\(bR mask k (bits h % (mask + 1),bits h)).1=j:=by
 have p0:(bR mask 13 (bits h % (mask + 1),bits h)).2=0:=by
  rw [fV]
  exact Nat.div_eq_of_lt (Nat.lt_of_lt_of_le (wF h) (by decide))
 have i0:=nW mask 13 (bits h % (mask + 1)) (bits h) (Nat.le_of_lt_succ (Nat.mod_lt _ (Nat.succ_pos mask)))
 obtain ⟨r,r1,r2⟩:=rW hm.whole (i:=(bR mask 13 (bits h % (mask + 1),bits h)).1) (j:=j) (by omega) (by omega)
 refine ⟨13 + r,by unfold turns; omega,?_⟩
 rw [lB,show bR mask 13 (bits h % (mask + 1),bits h)=((bR mask 13 (bits h % (mask + 1),bits h)).1,0) from Prod.ext rfl p0,lC]
 exact r2
theorem uH {mask:Nat} (hm:Msk mask) (oc:Nat->Prop) (h:Int) {j:Nat} (hj:j<=mask) (he:¬ oc j):∃ n q,n < 10 * turns mask/\Way oc mask n (start mask h) q/\¬ oc q.j/\q.j<=mask/\q.dummy=none:=by
 obtain ⟨k,k1,k2⟩:=jK hm (h:=h) hj
 obtain ⟨n,n1,n2⟩:=pT mask k (bits h % (mask + 1)) (bits h)
 obtain ⟨n',q,a,b,c⟩:=rV oc mask n (start mask h) (by
  show ¬ oc (mJ mask n (cC mask _ _)).j
  rw [n2]
  show ¬ oc (bR mask k (bits h % (mask + 1),bits h)).1
  rw [k2]
  exact he)
 exact ⟨n',q,by omega,b,c,b.le (nU mask h),b.dummy⟩
theorem lD {mask n:Nat} (oc:Nat->Prop) (f:Nat->Nat) (hf:∀ j,j<=mask->oc j->f j < n) (inj:∀ i j,i<=mask->j<=mask->oc i->oc j->f i=f j->i=j) (hn:n<=mask):∃ j,j<=mask/\¬ oc j:=by
 by_cases q:∃ j,j<=mask/\¬ oc j
 ·exact q
 ·exfalso
  have all:∀ j,j<=mask->oc j:=fun j hj=>by
   by_cases o:oc j
   ·exact o
   ·exact absurd ⟨j,hj,o⟩ q
  have nd:((List.range (mask + 1)).map f).Nodup:=by
   unfold List.Nodup
   rw [List.pairwise_map]
   refine List.Pairwise.imp_of_mem (fun {a b} ha hb hab e=>hab (inj a b ?_ ?_ (all _ ?_) (all _ ?_) e)) (List.nodup_range)
   all_goals (rw [List.mem_range] at ha hb; omega)
  have:=List.Nodup.length_le_of_subset nd (l₂:=List.range n) (fun x hx=>by
   obtain ⟨j,hj,e⟩:=List.mem_map.mp hx
   rw [List.mem_range] at hj ⊢
   rw [<- e]
   exact hf j (by omega) (all j (by omega)))
  rw [List.length_map,List.length_range,List.length_range] at this
  omega
open PySem PySem.SetTable
structure Tab (t:SetTable) (hs:Array Int):Prop where
 dm:t.dummies = #[]
 rise:mI t.place
 size:t.place.size=hs.size
 le:∀ i j:Nat,t.place[i]? = some j->j<=t.mask
 msk:Msk t.mask
 fit:hs.size<=t.mask
 reach:∀ (i j:Nat) (h:Int),t.place[i]? = some j->hs[i]? = some h->∃ n q,Way (occ t) t.mask n (start t.mask h) q/\q.j=j
theorem dG {α : Type} {xs:Array α} {i:Nat} {a : α} (h:xs[i]? = some a):i < xs.size:=by
 apply Nat.lt_of_not_le; intro q; rw [Array.getElem?_eq_none q] at h; cases h
theorem Tab.fill {t:SetTable} {hs:Array Int} (T:Tab t hs):t.fill=hs.size:=by
 unfold SetTable.fill; rw [T.dm,T.size]; rfl
theorem Tab.fits {t:SetTable} {hs:Array Int} (T:Tab t hs):t.fits hs.size=true:=by
 unfold SetTable.fits
 rw [T.fill,T.size]
 simp [T.fit]
theorem Tab.ends {t:SetTable} {hs:Array Int} (T:Tab t hs) (h:Int):∃ n q,n < 10 * turns t.mask/\Way (occ t) t.mask n (start t.mask h) q/\¬ occ t q.j/\q.j<=t.mask/\q.dummy=none:=by
 obtain ⟨j,hj,he⟩:=lD (mask:=t.mask) (n:=hs.size) (occ t) (fun j=>below t.place j)
  (fun j _ ⟨i,e⟩=>by show below t.place j < hs.size; rw [below_at T.rise e, <- T.size]; exact dG e)
  (fun i j _ _ ⟨a,ea⟩ ⟨b,eb⟩ e=>by
   have e':below t.place i=below t.place j:=e
   rw [below_at T.rise ea,below_at T.rise eb] at e'
   subst e'
   exact Option.some.inj (ea.symm.trans eb)) T.fit
 exact uH T.msk (occ t) h hj he
theorem uI {t:SetTable} {hs:Array Int} (T:Tab t hs) {H:Nat->Int} {h:Int}:∀ (n:Nat) (p q:Probe) (fuel:Nat),Way (occ t) t.mask n p q->¬ occ t q.j->n < fuel->p.dummy=none →
  (SetTable.probe.go t H h fuel p=some (.empty q.j none)/\∀ k r i,Way (occ t) t.mask k p r->t.place[i]? = some r.j->H i ≠ h) ∨
  (∃ k r i,k < n/\Way (occ t) t.mask k p r/\t.place[i]? = some r.j/\H i=h/\SetTable.probe.go t H h fuel p=some (.candidate r.j i (adv t.mask r))/\Way (occ t) t.mask (n - k - 1) (adv t.mask r) q/\(adv t.mask r).dummy=none
   /\ ∀ k' r' i',k' < k->Way (occ t) t.mask k' p r'->t.place[i']? = some r'.j->H i' ≠ h):=by
 intro n
 induction n with
 | zero =>
  intro p q fuel W he hf hd
  cases W
  obtain ⟨fuel,rfl⟩:∃ f,fuel=f + 1:=⟨fuel - 1,by omega⟩
  refine .inl ⟨?_,fun k r i Wr er => ?_⟩
  ·unfold SetTable.probe.go
   rw [pS T.dm he]
   dsimp only
   rw [hd]
  ·cases Wr with
   | here=>exact absurd ⟨i,er⟩ he
   | step a _=>exact absurd a he
 | succ n ih =>
  intro p q fuel W he hf hd
  obtain ⟨fuel,rfl⟩:∃ f,fuel=f + 1:=⟨fuel - 1,by omega⟩
  cases W with
  | step a W =>
   obtain ⟨i,ei⟩:=a
   have hd':(adv t.mask p).dummy=none:=by rw [<- hd]; unfold adv; split <;> rfl
   by_cases hh:H i=h
   ·refine .inr ⟨0,p,i,by omega,.here p,ei,hh,?_,W,hd',fun k' r' i' hk=>by omega⟩
    unfold SetTable.probe.go
    rw [iJ T.rise ei]
    dsimp only
    rw [if_pos (by rw [hh]; exact beq_self_eq_true h)]
    rfl
   ·have e0:SetTable.probe.go t H h (fuel + 1) p=SetTable.probe.go t H h fuel (adv t.mask p):=by
     conv=>lhs; unfold SetTable.probe.go
     rw [iJ T.rise ei]
     dsimp only
     rw [if_neg (by rw [beq_iff_eq]; exact hh)]
     rfl
    rcases ih (adv t.mask p) q fuel W he (by omega) hd' with ⟨r1,r2⟩ | ⟨k,r,i',k1,w1,e1,h1,g1,w2,d2,no⟩
    ·refine .inl ⟨e0.trans r1,fun k r j Wr er => ?_⟩
     cases Wr with
     | here =>
      obtain rfl:i=j:=by
       have x:=below_at T.rise ei
       have y:=below_at T.rise er
       exact x.symm.trans y
      exact hh
     | step _ Wr=>exact r2 _ _ _ Wr er
    ·refine .inr ⟨k + 1,r,i',by omega,.step ⟨i,ei⟩ w1,e1,h1,e0.trans g1,by rw [show n + 1 - (k + 1) - 1=n - k - 1 by omega]; exact w2,d2,fun k' r' j hk Wr er => ?_⟩
     cases Wr with
     | here =>
      obtain rfl:i=j:=by
       have x:=below_at T.rise ei
       have y:=below_at T.rise er
       exact x.symm.trans y
      exact hh
     | step _ Wr=>exact no _ _ _ (by omega) Wr er
theorem nX {t:SetTable} {hs:Array Int} (T:Tab t hs) {H:Nat->Int} {h:Int} {n:Nat} {p q:Probe} (W:Way (occ t) t.mask n p q) (he:¬ occ t q.j) (hn:n < 10 * turns t.mask) (hd:p.dummy=none) :
  (t.probe H h p=some (.empty q.j none)/\∀ k r i,Way (occ t) t.mask k p r->t.place[i]? = some r.j->H i ≠ h) ∨
  (∃ k r i,k < n/\Way (occ t) t.mask k p r/\t.place[i]? = some r.j/\H i=h/\t.probe H h p=some (.candidate r.j i (adv t.mask r))/\Way (occ t) t.mask (n - k - 1) (adv t.mask r) q/\(adv t.mask r).dummy=none
   /\ ∀ k' r' i',k' < k->Way (occ t) t.mask k' p r'->t.place[i']? = some r'.j->H i' ≠ h) :=
 uI T n p q _ W he hn hd
theorem Tab.uJ {t:SetTable} {hs:Array Int} (T:Tab t hs) (j:Nat):t.put j=({ t with place:=insertAt t.place (below t.place j) j },below t.place j):=by
 unfold SetTable.put
 dsimp only
 have:has t.dummies j=false:=by rw [T.dm]; simp [has]
 rw [this]
 rfl
theorem Tab.put {t:SetTable} {hs:Array Int} (T:Tab t hs) {h:Int} {n:Nat} {q:Probe} (W:Way (occ t) t.mask n (start t.mask h) q) (he:¬ occ t q.j) (hq:q.j<=t.mask) (hf:hs.size + 1<=t.mask) :
  Tab { t with place:=insertAt t.place (below t.place q.j) q.j } (insertAt hs (below t.place q.j) h):=by
 have hp:=(dc T.rise q.j).1
 have hp':below t.place q.j<=hs.size:=by rw [<- T.size]; exact hp
 have up:∀ j,occ t j->occ { t with place:=insertAt t.place (below t.place q.j) q.j } j:=by
  rintro j ⟨i,e⟩
  by_cases l:i < below t.place q.j
  ·exact ⟨i,by show (insertAt _ _ _)[i]? = _; rw [bH _ hp,if_pos l]; exact e⟩
  ·exact ⟨i + 1,by show (insertAt _ _ _)[i + 1]? = _; rw [bH _ hp,if_neg (by omega),if_neg (by omega)]; exact e⟩
 refine ⟨T.dm,kz T.rise fun i e=>he ⟨i,e⟩,?_,fun i j e => ?_,T.msk,by rw [bK]; exact hf,fun i j h' e eh => ?_⟩
 ·show (insertAt _ _ _).size=_
  rw [bK,bK,T.size]
 ·have e':(insertAt t.place (below t.place q.j) q.j)[i]? = some j:=e
  rw [bH _ hp] at e'
  split at e'
  ·exact T.le _ _ e'
  ·split at e'
   ·cases e'; exact hq
   ·exact T.le _ _ e'
 ·have e':(insertAt t.place (below t.place q.j) q.j)[i]? = some j:=e
  rw [bH _ hp] at e'
  rw [bH _ hp'] at eh
  by_cases l1:i < below t.place q.j
  ·rw [if_pos l1] at e' eh
   obtain ⟨n',q',w,eq⟩:=T.reach _ _ _ e' eh
   exact ⟨n',q',w.mono up,eq⟩
  ·rw [if_neg l1] at e' eh
   by_cases l2:i=below t.place q.j
   ·rw [if_pos l2] at e' eh
    cases e'; cases eh
    exact ⟨n,q,W.mono up,rfl⟩
   ·rw [if_neg l2] at e' eh
    obtain ⟨n',q',w,eq⟩:=T.reach _ _ _ e' eh
    exact ⟨n',q',w.mono up,eq⟩
def ocw (owner:Array (Option Nat)) (j:Nat):Prop:=∃ k,owner[j]? = some (some k)
theorem Way.trans {oc:Nat->Prop} {mask n m:Nat} {p q r:Probe} (h:Way oc mask n p q) (h2:Way oc mask m q r):∃ k,Way oc mask k p r:=by
 induction h with
 | here=>exact ⟨m,h2⟩
 | step a _ ih=>obtain ⟨k,w⟩:=ih h2; exact ⟨k + 1,.step a w⟩
theorem mL (oc:Nat->Prop) (mask:Nat):∀ (k:Nat) (p:Probe),k<=p.more->(∀ k',k' < k->oc (p.j + k'))->Way oc mask k p { p with j:=p.j + k,more:=p.more - k }
 | 0,p,_,_ => .here p
 | k + 1,p,h,ho=>by
  have e:adv mask p={ p with j:=p.j + 1,more:=p.more - 1 }:=by unfold adv; rw [if_pos (by omega)]
  refine .step (ho 0 (by omega)) ?_
  rw [e]
  have:=mL oc mask k { p with j:=p.j + 1,more:=p.more - 1 } (by dsimp only; omega) fun k' hk=>by
   have:=ho (k' + 1) (by omega)
   rw [show p.j + (k' + 1)=p.j + 1 + k' by omega] at this
   exact this
  dsimp only at this
  rw [show p.j + 1 + k=p.j + (k + 1) by omega,show p.more - 1 - k=p.more - (k + 1) by omega] at this
  exact this
theorem fb {owner:Array (Option Nat)} {mask j:Nat} (hs:owner.size=mask + 1) (hj:j<=mask):(owner.getD j (some 0)).isNone=true ↔ ¬ ocw owner j:=by
 have hl:j < owner.size:=by omega
 have e:owner[j]? = some owner[j]:=Array.getElem?_eq_getElem hl
 rw [show owner.getD j (some 0)=owner[j] by simp [Array.getD,hl]]
 unfold ocw
 rw [e]
 cases owner[j] with
 | none=>simp
 | some k=>simp
theorem lE {mask i:Nat} (h:i<=mask):runEnd mask i<=mask/\i<=runEnd mask i:=by
 unfold runEnd; split <;> omega
theorem rX {mask:Nat} {owner:Array (Option Nat)} (hs:owner.size=mask + 1):∀ (fuel i pe j:Nat),i<=mask->SetTable.layClean.free mask owner fuel i pe=some j →
  ¬ ocw owner j/\∃ n q,Way (ocw owner) mask n (cC mask i pe) q/\q.j=j:=by
 intro fuel
 induction fuel with
 | zero=>intro i pe j hi h; unfold SetTable.layClean.free at h; cases h
 | succ fuel ih =>
  intro i pe j hi h
  unfold SetTable.layClean.free at h
  obtain ⟨r1,r2⟩:=lE hi
  have no:∀ k,k < runEnd mask i + 1 - i->((owner.getD (i + k) (some 0)).isNone=false)->ocw owner (i + k):=fun k hk e=>by
   by_cases o:ocw owner (i + k)
   ·exact o
   ·rw [(fb hs (by omega)).mpr o] at e; cases e
  cases hf:(List.range (runEnd mask i + 1 - i)).find? fun k=>(owner.getD (i + k) (some 0)).isNone with
  | some k =>
   rw [hf] at h
   dsimp only at h
   cases h
   rw [List.find?_range_eq_some] at hf
   obtain ⟨f1,f2,f3⟩:=hf
   rw [List.mem_range] at f2
   refine ⟨(fb hs (by omega)).mp f1,k,_,mL (ocw owner) mask k (cC mask i pe) (by show k<=runEnd mask i - i; omega) fun k' hk => ?_,rfl⟩
   refine no k' (by omega) ?_
   have:=f3 k' hk
   simpa using this
  | none =>
   rw [hf] at h
   dsimp only at h
   rw [List.find?_range_eq_none] at hf
   have all:∀ k,k < runEnd mask i + 1 - i->ocw owner (i + k):=fun k hk=>no k hk (by simpa using hf k hk)
   obtain ⟨g1,n,q,w,eq⟩:=ih _ _ _ (Nat.le_of_lt_succ (Nat.mod_lt _ (Nat.succ_pos mask))) h
   refine ⟨g1,?_⟩
   have w0:=mL (ocw owner) mask (runEnd mask i - i) (cC mask i pe) (Nat.le_refl _) fun k' hk=>all k' (by omega)
   have w1:Way (ocw owner) mask (n + 1) { (cC mask i pe) with j:=(cC mask i pe).j + (runEnd mask i - i),more:=(cC mask i pe).more - (runEnd mask i - i) } q:=by
    refine .step (all (runEnd mask i - i) (by omega)) ?_
    have e:adv mask { (cC mask i pe) with j:=(cC mask i pe).j + (runEnd mask i - i),more:=(cC mask i pe).more - (runEnd mask i - i) }=cC mask (leap mask i pe).1 (leap mask i pe).2:=by
     unfold adv
     rw [if_neg (by show ¬ (runEnd mask i - i - (runEnd mask i - i)) > 0; omega)]
     rfl
    rw [e]
    exact w
   obtain ⟨k,w2⟩:=w0.trans w1
   exact ⟨k,q,w2,eq⟩
theorem rY {mask:Nat} {owner:Array (Option Nat)} (hs:owner.size=mask + 1):∀ (fuel i pe k:Nat),i<=mask->k < fuel->¬ ocw owner (bR mask k (i,pe)).1->∃ j,SetTable.layClean.free mask owner fuel i pe=some j:=by
 intro fuel
 induction fuel with
 | zero=>intro i pe k _ h; omega
 | succ fuel ih =>
  intro i pe k hi hk he
  unfold SetTable.layClean.free
  obtain ⟨r1,r2⟩:=lE hi
  cases hf:(List.range (runEnd mask i + 1 - i)).find? fun k=>(owner.getD (i + k) (some 0)).isNone with
  | some k=>exact ⟨_,rfl⟩
  | none =>
   dsimp only
   rw [List.find?_range_eq_none] at hf
   cases k with
   | zero =>
    have h0:=hf 0 (by omega)
    have:(owner.getD (i + 0) (some 0)).isNone=true:=(fb hs (by omega)).mpr he
    rw [this] at h0
    cases h0
   | succ k=>exact ih _ _ k (Nat.le_of_lt_succ (Nat.mod_lt _ (Nat.succ_pos mask))) (by omega) he
structure Own (mask:Nat) (owner:Array (Option Nat)) (hs:List Int):Prop where
 size:owner.size=mask + 1
 cov:∀ (k:Nat) (h:Int),hs[k]? = some h->∃ j n q,owner[j]? = some (some k)/\Way (ocw owner) mask n (start mask h) q/\q.j=j
 bnd:∀ j k:Nat,owner[j]? = some (some k)->k < hs.length
 inj:∀ i j k:Nat,owner[i]? = some (some k)->owner[j]? = some (some k)->i=j
theorem Own.step {mask:Nat} (hm:Msk mask) {owner:Array (Option Nat)} {hs:List Int} (O:Own mask owner hs) (h:Int) (hl:hs.length<=mask) :
  ∃ j,SetTable.layClean.free mask owner (turns mask) (bits h % (mask + 1)) (bits h)=some j/\Own mask (owner.setIfInBounds j (some hs.length)) (hs ++ [h]):=by
 obtain ⟨e,he,hne⟩:=lD (mask:=mask) (n:=hs.length) (ocw owner) (fun j=>(owner.getD j none).getD 0)
  (fun j _ ⟨k,ek⟩=>by
   have:=dG ek
   show (owner.getD j none).getD 0 < _
   rw [show owner.getD j none=some k by rw [Array.getD_eq_getD_getElem?,ek]; rfl]
   exact O.bnd j k ek)
  (fun i j _ _ ⟨a,ea⟩ ⟨b,eb⟩ q=>by
   have q':(owner.getD i none).getD 0=(owner.getD j none).getD 0:=q
   rw [show owner.getD i none=some a by rw [Array.getD_eq_getD_getElem?,ea]; rfl,show owner.getD j none=some b by rw [Array.getD_eq_getD_getElem?,eb]; rfl] at q'
   have q'':a=b:=q'
   subst q''
   exact O.inj i j a ea eb) hl
 have i0:bits h % (mask + 1)<=mask:=Nat.le_of_lt_succ (Nat.mod_lt _ (Nat.succ_pos mask))
 obtain ⟨k,k1,k2⟩:=jK hm (h:=h) he
 obtain ⟨j,hj⟩:=rY O.size (turns mask) _ _ k i0 k1 (by rw [k2]; exact hne)
 obtain ⟨hno,n,q,w,eq⟩:=rX O.size _ _ _ _ i0 hj
 have hjm:j<=mask:=by rw [<- eq]; exact w.le (nU mask h)
 have hjs:j < owner.size:=by rw [O.size]; omega
 have ej:owner[j]? = some none:=by
  rw [Array.getElem?_eq_getElem hjs]
  cases ho:owner[j] with
  | none=>rfl
  | some k=>exact absurd ⟨k,by rw [Array.getElem?_eq_getElem hjs,ho]⟩ hno
 have get:∀ i:Nat,(owner.setIfInBounds j (some hs.length))[i]? = if i=j then some (some hs.length) else owner[i]? := fun i=>by
  rw [Array.getElem?_setIfInBounds]
  by_cases q:j=i
  ·rw [if_pos q,if_pos q.symm,if_pos hjs]
  ·rw [if_neg q,if_neg (Ne.symm q)]
 have up:∀ i,ocw owner i->ocw (owner.setIfInBounds j (some hs.length)) i:=by
  rintro i ⟨k,ek⟩
  refine ⟨k,?_⟩
  rw [get,if_neg (fun q=>by rw [q,ej] at ek; cases ek)]
  exact ek
 refine ⟨j,hj,by rw [Array.size_setIfInBounds]; exact O.size,fun k h' eh => ?_,fun i k ek => ?_,fun i i' k ei ei' => ?_⟩
 ·by_cases lk:k < hs.length
  ·rw [List.getElem?_append_left lk] at eh
   obtain ⟨j',n',q',a,b,c⟩:=O.cov k h' eh
   refine ⟨j',n',q',?_,b.mono up,c⟩
   rw [get,if_neg (fun q=>by rw [q,ej] at a; cases a)]
   exact a
  ·rw [List.getElem?_append_right (by omega)] at eh
   have:k - hs.length=0:=by
    cases hk:k - hs.length with
    | zero=>rfl
    | succ m=>rw [hk] at eh; cases eh
   rw [this] at eh
   cases eh
   obtain rfl:k=hs.length:=by omega
   exact ⟨j,n,q,by rw [get,if_pos rfl],w.mono up,eq⟩
 ·rw [List.length_append,List.length_singleton]
  rw [get] at ek
  split at ek
  ·cases ek; omega
  ·have:=O.bnd _ _ ek; omega
 ·rw [get] at ei ei'
  by_cases q1:i=j
  ·by_cases q2:i'=j
   ·rw [q1,q2]
   ·rw [if_pos q1] at ei; rw [if_neg q2] at ei'
    cases ei
    have:=O.bnd _ _ ei'; omega
  ·rw [if_neg q1] at ei
   by_cases q2:i'=j
   ·rw [if_pos q2] at ei'
    cases ei'
    have:=O.bnd _ _ ei; omega
   ·rw [if_neg q2] at ei'
    exact O.inj _ _ _ ei ei'
theorem nY {mask:Nat} (hm:Msk mask):∀ (l:List Int) (owner:Array (Option Nat)) (hs:List Int),Own mask owner hs->hs.length + l.length<=mask + 1 →
    ∃ owner',l.foldl (fun acc h=>do
      let (owner,k) ← acc
      let j ← SetTable.layClean.free mask owner (turns mask) (bits h % (mask + 1)) (bits h)
      pure (owner.setIfInBounds j (some k),k + 1)) (some (owner,hs.length))=some (owner',hs.length + l.length)/\Own mask owner' (hs ++ l)
  | [],owner,hs,O,_=>⟨owner,rfl,by rw [List.append_nil]; exact O⟩
  | h :: l,owner,hs,O,hl=>by
    rw [List.length_cons] at hl
    obtain ⟨j,hj,O'⟩:=O.step hm h (by omega)
    obtain ⟨owner',e,O''⟩:=nY hm l _ _ O' (by rw [List.length_append,List.length_singleton]; omega)
    refine ⟨owner',?_,by rw [List.append_assoc] at O''; exact O''⟩
    rw [List.foldl_cons]
    have:(do
      let (owner,k) ← some (owner,hs.length)
      let j ← SetTable.layClean.free mask owner (turns mask) (bits h % (mask + 1)) (bits h)
      pure (owner.setIfInBounds j (some k),k + 1):Option (Array (Option Nat) × Nat))=some (owner.setIfInBounds j (some hs.length),(hs ++ [h]).length):=by
      show (SetTable.layClean.free mask owner (turns mask) (bits h % (mask + 1)) (bits h)).bind _=_
      rw [hj,List.length_append]
      rfl
    rw [this,e]
    rw [List.length_append,List.length_singleton,List.length_cons]
    congr 2
    omega
theorem nZ {mask:Nat} (hm:Msk mask) (hs:Array Int) (hl:hs.size<=mask + 1):∃ owner,SetTable.layClean mask hs=some owner/\Own mask owner hs.toList:=by
  have O0:Own mask (Array.replicate (mask + 1) none) []:=by
    refine ⟨by simp,fun k h e=>by simp at e,fun j k e => ?_,fun i j k e => ?_⟩
    · rw [Array.getElem?_replicate] at e; split at e <;> cases e
    · rw [Array.getElem?_replicate] at e; split at e <;> cases e
  obtain ⟨owner,e,O⟩:=nY hm hs.toList _ [] O0 (by rw [List.length_nil,Array.length_toList]; omega)
  refine ⟨owner,?_,by rw [List.nil_append] at O; exact O⟩
  unfold SetTable.layClean
  rw [<- Array.foldl_toList]
  have e':hs.toList.foldl (fun acc h=>do
      let (owner,k) ← acc
      let j ← SetTable.layClean.free mask owner (turns mask) (bits h % (mask + 1)) (bits h)
      pure (owner.setIfInBounds j (some k),k + 1)) (some (Array.replicate (mask + 1) none,0))=some (owner,0 + hs.toList.length):=e
  rw [e']
  rfl
theorem filterMap_get {α β : Type} {f : α -> Option β}:∀ (l:List α),(∀ x ∈ l,(f x).isSome=true)->∀ i:Nat,(l.filterMap f)[i]? = l[i]?.bind f
 | [],_,i=>by simp
 | x :: l,h,i=>by
  obtain ⟨y,hy⟩:=Option.isSome_iff_exists.mp (h x List.mem_cons_self)
  rw [List.filterMap_cons_some hy]
  cases i with
  | zero=>simp [hy]
  | succ i =>
   rw [List.getElem?_cons_succ,List.getElem?_cons_succ]
   exact filterMap_get l (fun z hz=>h z (List.mem_cons_of_mem _ hz)) i
theorem wG {mask:Nat} (hm:Msk mask) (finger moves:Nat) (led plain:Bool) (es:Array (Int × Value)) (hl:es.size<=mask) :
  ∃ t order,SetTable.laid mask finger moves led plain (es.map (·.1))=some (t,order)/\order.toList.Perm (List.range es.size)/\Tab t ((order.filterMap (es[·]?)).map (·.1))/\(order.filterMap (es[·]?)).toList.Perm es.toList/\t.led=led/\t.plain=plain/\t.mask=mask:=by
 obtain ⟨owner,e,O⟩:=nZ hm (es.map (·.1)) (by rw [Array.size_map]; omega)
 refine ⟨_,_,by unfold SetTable.laid; rw [e]; rfl,?_⟩
 generalize hlive:((List.range (mask + 1)).filterMap fun j=>(owner.getD j none).map (j, ·))=live
 have mem:∀ j k,(j,k) ∈ live ↔ owner[j]? = some (some k):=fun j k=>by
  rw [<- hlive,List.mem_filterMap]
  constructor
  ·rintro ⟨a,ha,ea⟩
   rw [Array.getD_eq_getD_getElem?] at ea
   cases ho:owner[a]? with
   | none=>rw [ho] at ea; cases ea
   | some x =>
    rw [ho] at ea
    cases x with
    | none=>cases ea
    | some k'=>cases ea; exact ho
  ·intro ho
   refine ⟨j,?_,?_⟩
   ·rw [List.mem_range, <- O.size]; exact dG ho
   ·rw [Array.getD_eq_getD_getElem?,ho]; rfl
 have pw:live.Pairwise (fun a b=>a.1 < b.1):=by
  rw [<- hlive,List.pairwise_filterMap]
  refine List.Pairwise.imp (fun {a b} hab x hx y hy => ?_) List.pairwise_lt_range
  have hx':x.1=a:=by cases ho:owner.getD a none with
   | none=>rw [ho] at hx; cases hx
   | some k=>rw [ho] at hx; cases hx; rfl
  have hy':y.1=b:=by cases ho:owner.getD b none with
   | none=>rw [ho] at hy; cases hy
   | some k=>rw [ho] at hy; cases hy; rfl
  rw [hx',hy']; exact hab
 have nd:(live.map (·.2)).Nodup:=by
  unfold List.Nodup
  rw [List.pairwise_map]
  refine List.Pairwise.imp_of_mem (fun {a b} ha hb hab q => ?_) pw
  have:=O.inj a.1 b.1 a.2 ((mem _ _).mp ha) (by rw [q]; exact (mem _ _).mp hb)
  omega
 have hlen:(es.map (·.1)).toList.length=es.size:=by rw [Array.length_toList,Array.size_map]
 have perm:(live.map (·.2)).Perm (List.range es.size):=by
  rw [List.perm_ext_iff_of_nodup nd List.nodup_range]
  intro k
  rw [List.mem_range,List.mem_map]
  constructor
  ·rintro ⟨⟨j,k'⟩,hm',rfl⟩
   have:=O.bnd _ _ ((mem _ _).mp hm')
   rw [hlen] at this
   exact this
  ·intro hk
   obtain ⟨j,_,_,ej,_⟩:=O.cov k _ (List.getElem?_eq_getElem (by rw [hlen]; exact hk))
   exact ⟨(j,k),(mem _ _).mpr ej,rfl⟩
 have all:∀ x ∈ live.map (·.2),(es[x]?).isSome=true:=fun x hx=>by
  have:=(perm.mem_iff).mp hx
  rw [List.mem_range] at this
  rw [Array.getElem?_eq_getElem this]; rfl
 have tl:(live.map (·.2)).toArray.toList=live.map (·.2):=rfl
 have ll:live.length=es.size:=by have:=perm.length_eq; rw [List.length_map,List.length_range] at this; exact this
 have fm:((live.map (·.2)).toArray.filterMap (es[·]?)).toList=(live.map (·.2)).filterMap (es[·]?):=by simp
 have fl:((live.map (·.2)).filterMap (es[·]?)).Perm es.toList:=by
  have p1:=perm.filterMap (es[·]?)
  have:(List.range es.size).filterMap (es[·]?)=es.toList:=by
   apply List.ext_getElem?
   intro i
   rw [filterMap_get _ (fun x hx=>by rw [List.mem_range] at hx; rw [Array.getElem?_eq_getElem hx]; rfl)]
   by_cases hi:i < es.size
   ·rw [List.getElem?_range hi,Array.getElem?_toList]; rfl
   ·rw [List.getElem?_eq_none (by rw [List.length_range]; omega),List.getElem?_eq_none (by rw [Array.length_toList]; omega)]; rfl
  rw [this] at p1
  exact p1
 refine ⟨perm,?_,by rw [fm]; exact fl,rfl,rfl,rfl⟩
 have sz:(((live.map (·.2)).toArray.filterMap (es[·]?)).map (·.1)).size=es.size:=by
  rw [Array.size_map, <- Array.length_toList,fm,fl.length_eq,Array.length_toList]
 have occ_of:∀ j,ocw owner j->occ { mask:=mask,place:=(live.map (·.1)).toArray,dummies := #[],finger:=finger,led:=led,moves:=moves,plain:=plain } j:=by
  rintro j ⟨k,ek⟩
  obtain ⟨i,hi,ei⟩:=List.getElem_of_mem ((mem j k).mpr ek)
  refine ⟨i,?_⟩
  show (live.map (·.1)).toArray[i]? = some j
  rw [List.getElem?_toArray,List.getElem?_map,List.getElem?_eq_getElem hi,ei]
  rfl
 refine ⟨rfl,fun i j a b ea eb hij => ?_,?_,fun i j ej => ?_,hm,by rw [sz]; exact hl,fun i j h ej eh => ?_⟩
 ·have ea':(live.map (·.1)).toArray[i]? = some a:=ea
  have eb':(live.map (·.1)).toArray[j]? = some b:=eb
  rw [List.getElem?_toArray] at ea' eb'
  have pw':(live.map (·.1)).Pairwise (· < ·):=by rw [List.pairwise_map]; exact pw
  obtain ⟨hi,xi⟩:=List.getElem?_eq_some_iff.mp ea'
  obtain ⟨hj,xj⟩:=List.getElem?_eq_some_iff.mp eb'
  rw [<- xi, <- xj]
  exact List.pairwise_iff_getElem.mp pw' i j hi hj hij
 ·show (live.map (·.1)).toArray.size=_
  rw [sz,List.size_toArray,List.length_map,ll]
 ·have ej':(live.map (·.1)).toArray[i]? = some j:=ej
  rw [List.getElem?_toArray,List.getElem?_map] at ej'
  cases hx:live[i]? with
  | none=>rw [hx] at ej'; cases ej'
  | some x =>
   rw [hx] at ej'
   cases ej'
   have:=dG ((mem x.1 x.2).mp (List.mem_of_getElem? hx))
   show x.1<=mask
   rw [O.size] at this
   omega
 ·have ej':(live.map (·.1)).toArray[i]? = some j:=ej
  rw [List.getElem?_toArray,List.getElem?_map] at ej'
  cases hx:live[i]? with
  | none=>rw [hx] at ej'; cases ej'
  | some x =>
   rw [hx] at ej'
   cases ej'
   have ho:=(mem x.1 x.2).mp (List.mem_of_getElem? hx)
   have hk:=O.bnd _ _ ho
   rw [Array.getElem?_map, <- Array.getElem?_toList,fm,filterMap_get _ all,List.getElem?_map,hx] at eh
   have eh':(es[x.2]?).map (·.1)=some h:=eh
   obtain ⟨j',n,q,a,b,c⟩:=O.cov x.2 h (by rw [Array.toList_map,List.getElem?_map,Array.getElem?_toList]; exact eh')
   obtain rfl:=O.inj _ _ _ ho a
   exact ⟨n,q,b.mono occ_of,c⟩
open PySem PySem.SetTable PyProof.Rows
section
variable {prog:Program} {w:World} {A:Around} {E:Value->Shared->Prop} {s:Shared}
abbrev TK (prog:Program) (w:World):=IsTupleKey (prog:=prog) (w:=w) (intKind prog w)
def bL (prog:Program) (w:World) (ks:List Int):Int:=tupleKeyHash (intKind prog w) ks
def aN (es:Array (Int × Value)) (ep:Nat) (t:SetTable):Obj:={ cls := .type "set",dict:=none,data := .set es ep t }
def ElT (prog:Program) (w:World) (h:Heap) (e:Int × Value) (ks:List Int):Prop:=∃ b,e=(bL prog w ks,.ref b)/\TK prog w h ks b
theorem mM (d:Nat) {v:Value} (h:carriedByValue v=true):ofAClassStatement d v=pure false:=by
 cases v with
 | ref a=>simp [carriedByValue] at h
 | _=>cases d <;> rfl
theorem gN {ks:List Int} {b:Addr} {Q:Bool->Shared->Prop} (hk:TK prog w s.heap ks b) (h:Q false s):wpAny (model prog w) A (ofAClassStatement 8 (.ref b)) Q E s:=by
 have hT:=hk.typeIs
 obtain ⟨o,items,n,ho,_,hd,hi⟩:=hk
 unfold ofAClassStatement
 refine wpAny_bind (wpAny_typeOf hT ?_)
 dsimp only
 rw [if_pos (by decide)]
 refine wpAny_bind (wpAny_pure ?_)
 simp only [Bool.not_true,Bool.false_eq_true,if_false]
 refine wpAny_bind (wpAny_seqItems ho hd ?_)
 dsimp only
 refine wpAny_bind ?_
 rw [<- Array.forIn_toList]
 refine wpAny_forIn_list _ (fun rest r s'=>r.1=none/\s'=s/\∀ v ∈ rest,carriedByValue v=true) _ ?_ ?_ _ _ ⟨rfl,rfl,hi.byValue⟩
 ·rintro v rest r s' ⟨hr,rfl,hall⟩
  rw [mM _ (hall v List.mem_cons_self)]
  refine wpAny_bind (wpAny_pure ?_)
  simp only [Bool.false_eq_true,if_false]
  exact wpAny_pure ⟨rfl,rfl,fun u hu'=>hall u (List.mem_cons_of_mem _ hu')⟩
 ·rintro ⟨r1,r2⟩ s' ⟨hr,rfl,_⟩
  simp only at hr
  subst hr
  exact wpAny_pure h
theorem yC {ks:List Int} {b:Addr} {vs:List Value} {Q:Bool->Shared->Prop} (hk:TK prog w s.heap ks b) (hv:∀ v ∈ vs,∃ ks' b',v = .ref b'/\TK prog w s.heap ks' b') (h:Q false s) :
  wpAny (model prog w) A (searchCouldBeSeen (.ref b) vs) Q E s:=by
 unfold searchCouldBeSeen
 refine wpAny_bind ?_
 refine wpAny_forIn_list _ (fun rest r s'=>r.1=none/\s'=s/\∀ v ∈ rest,∃ ks' b',v = .ref b'/\TK prog w s.heap ks' b') _ ?_ ?_ _ _ ⟨rfl,rfl,hv⟩
 ·rintro v rest r s' ⟨hr,rfl,hall⟩
  obtain ⟨ks',b',rfl,hk'⟩:=hall v List.mem_cons_self
  have go:∀ u ∈ rest,∃ ks' b',u = .ref b'/\TK prog w s'.heap ks' b':=fun u hu'=>hall u (List.mem_cons_of_mem _ hu')
  dsimp only
  split
  ·exact wpAny_pure ⟨rfl,rfl,go⟩
  ·refine wpAny_bind (wpAny_eqIsQuiet_tuple hk ?_)
   simp only [Bool.not_true,Bool.false_eq_true,if_false]
   refine wpAny_bind (wpAny_eqIsQuiet_tuple hk' ?_)
   simp only [Bool.not_true,Bool.false_eq_true,if_false]
   refine wpAny_bind (gN hk ?_)
   simp only [Bool.false_eq_true,if_false]
   refine wpAny_bind (gN hk' ?_)
   simp only [Bool.false_eq_true,if_false]
   exact wpAny_pure ⟨rfl,rfl,go⟩
 ·rintro ⟨r1,r2⟩ s' ⟨hr,rfl,_⟩
  simp only at hr
  subst hr
  exact wpAny_pure h
theorem wH {m:Nat} (h:Msk m):(m % 2 == 0)=false:=by rcases h with rfl | rfl | rfl | rfl <;> rfl
theorem bo {a:Addr} {es:Array (Int × Value)} {ep:Nat} {t:SetTable} {Q:(Array (Int × Value) × Nat × SetTable)->Shared->Prop} (ho:s.heap.get? a=some (aN es ep t)) (T:Tab t (es.map (·.1))) (h:Q (es,ep,t) s) :
  wpAny (model prog w) A (setState a) Q E s:=wpAny_setState_of ho rfl (by have:=T.fits; rwa [Array.size_map] at this) h
theorem pU (es:Array (Int × Value)) (i:Nat) (e:Int × Value) (h:es[i]? = some e):(es.map (·.1))[i]? = some e.1:=by rw [Array.getElem?_map,h]; rfl
theorem Way.split {oc:Nat->Prop} {mask k:Nat} {p r:Probe} (h:Way oc mask k p r):∀ {k':Nat} {r':Probe},Way oc mask k' p r'->k<=k'->Way oc mask (k' - k) r r':=by
 induction h with
 | here p=>intro k' r' h2 _; exact h2
 | @step n p q a _ ih =>
  intro k' r' h2 l
  cases h2 with
  | here=>omega
  | @step m _ _ _ h2=>rw [show m + 1 - (n + 1)=m - n by omega]; exact ih h2 (by omega)
theorem pV {a b:Addr} {es:Array (Int × Value)} {ep:Nat} {t:SetTable} {ks:List Int} {Q:SetFound->Shared->Prop} (hu:A.units < cLine) (ho:s.heap.get? a=some (aN es ep t)) (T:Tab t (es.map (·.1)))
    (els:∀ e ∈ es,∃ ks',ElT prog w s.heap e ks') (hk:TK prog w s.heap ks b) {q:Probe} (he:¬ occ t q.j) :
    ∀ (fuel n:Nat) (st:Option Probe) (p:Probe),st.getD (start t.mask (bL prog w ks))=p->Way (occ t) t.mask n p q->n < fuel->n < 10 * turns t.mask->p.dummy=none →
      ((∃ (k:Nat) (r:Probe) (i:Nat) (e:Int × Value),Way (occ t) t.mask k p r/\t.place[i]? = some r.j/\es[i]? = some e/\ElT prog w s.heap e ks)->Q (.there none) s) →
      ((¬ ∃ (k:Nat) (r:Probe) (i:Nat) (e:Int × Value),Way (occ t) t.mask k p r/\t.place[i]? = some r.j/\es[i]? = some e/\ElT prog w s.heap e ks)->Q (.free q.j false) s) →
      wpAny (model prog w) A (setSearchFrom a (.ref b) (bL prog w ks) true fuel st) Q E s:=by
  intro fuel
  induction fuel with
  | zero=>intro n st p _ _ h; omega
  | succ fuel ih =>
    intro n st p hst W hn hn2 hd hit mis
    unfold setSearchFrom
    refine wpAny_bind (bo ho T ?_)
    dsimp only
    rw [show t.gaveWay=false from wH T.msk]
    simp only [Bool.false_eq_true,if_false]
    rw [show st.getD (t.probeStart (bL prog w ks))=p from hst]
    rcases nX T (H:=fun i=>(es[i]?.map (·.1)).getD 0) (h:=bL prog w ks) W he hn2 hd with ⟨g,no⟩ | ⟨k,r,i,k1,w1,e1,h1,g,w2,d2,no⟩
    · erw [g]
      dsimp only
      refine wpAny_pure (mis ?_)
      rintro ⟨k,r,i,e,wr,er,ee,eb,rfl,_⟩
      refine no k r i wr er ?_
      show (es[i]?.map (·.1)).getD 0=_
      rw [ee]
      rfl
    · erw [g]
      dsimp only
      have hi:i < es.size:=by have:=dG e1; rw [T.size,Array.size_map] at this; exact this
      have ee:es[i]? = some es[i]:=Array.getElem?_eq_getElem hi
      obtain ⟨ks',b',eq,hk'⟩:=els es[i] (Array.getElem_mem hi)
      rw [eq] at ee
      have hh:bL prog w ks'=bL prog w ks:=by
        have h1':(es[i]?.map (·.1)).getD 0=bL prog w ks:=h1
        rw [ee] at h1'
        exact h1'
      have tail:wpAny (model prog w) A (do
          let equal ← holding [Value.ref b'] (eqBool (.ref b') (.ref b))
          let (es',_,t') ← setState a
          if (true && equal)=true then return .there none
          let some same:=t'.sameMemory t.moves t.mask | unsupported "set.changed-during-lookup:is-the-new-block-at-the-old-address"
          let still ← match (if same then t'.slot r.j else .empty) with
            | .live i'=>match es'[i']? with
              | some (_,y')=>do pure (if ← isSame y' (.ref b') then some i' else none)
              | none=>pure none
            | _=>pure none
          match still with
          | none=>rule "set.search.anew"; setSearchFrom a (.ref b) (bL prog w ks) true fuel none
          | some i'=>if equal then return .there (some i') else setSearchFrom a (.ref b) (bL prog w ks) true fuel (some (adv t.mask r))) Q E s:=by
        refine wpAny_bind (wpAny_holding (wpAny_eqBool_tuple hu hk' hk ?_))
        refine wpAny_bind (bo ho T ?_)
        dsimp only
        by_cases hks:ks'=ks
        · subst hks
          rw [decide_eq_true rfl]
          simp only [Bool.and_self,if_true]
          exact wpAny_pure (hit ⟨k,r,i,_,w1,e1,ee,b',rfl,hk'⟩)
        · rw [decide_eq_false hks]
          simp only [Bool.and_false,Bool.false_eq_true,if_false]
          rw [show t.sameMemory t.moves t.mask=some true by unfold SetTable.sameMemory; simp]
          dsimp only
          simp only [if_true]
          rw [iJ T.rise e1]
          dsimp only
          rw [ee]
          dsimp only
          refine wpAny_bind (wpAny_isSame_ref_self (wpAny_bind (wpAny_pure ?_)))
          simp only [if_true]
          refine ih (n - k - 1) _ _ rfl w2 (by omega) (by omega) d2 (fun x=>hit ?_) fun x=>mis fun y=>x ?_
          · obtain ⟨k',r',i',e',a1,a2,a3,a4⟩:=x
            obtain ⟨k'',w''⟩:=w1.trans (.step ⟨i,e1⟩ a1)
            exact ⟨k'',r',i',e',w'',a2,a3,a4⟩
          · obtain ⟨k',r',i',e',a1,a2,a3,a4⟩:=y
            have hx:(es[i']?.map (·.1)).getD 0=bL prog w ks:=by
              obtain ⟨bb,rfl,_⟩:=a4
              rw [a3]; rfl
            by_cases lt:k' < k
            · exact absurd hx (no k' r' i' lt a1 a2)
            · have w3:=w1.split a1 (by omega)
              cases hd3:k' - k with
              | zero =>
                rw [hd3] at w3
                cases w3
                obtain rfl:i=i':=(below_at T.rise e1).symm.trans (below_at T.rise a2)
                obtain ⟨bb,rfl,hbb⟩:=a4
                rw [ee] at a3
                injection a3 with a3
                injection a3 with a31 a32
                injection a32 with a32
                subst a32
                exact absurd (hk'.inj hbb) hks
              | succ m =>
                rw [hd3] at w3
                cases w3 with
                | step _ w3=>exact ⟨m,r',i',e',w3,a2,a3,a4⟩
      cases hl:t.led with
      | true =>
        simp only [Bool.not_true,Bool.false_eq_true,if_false]
        rw [ee]
        exact tail
      | false =>
        simp only [Bool.not_false,if_true]
        refine wpAny_bind (yC hk (fun v hv => ?_) ?_)
        · obtain ⟨e',he',rfl⟩:=List.mem_map.mp hv
          obtain ⟨ks2,b2,e2,hk2⟩:=els e' (Array.mem_of_mem_filter (Array.mem_toList_iff.mp he'))
          exact ⟨ks2,b2,by rw [e2],hk2⟩
        · simp only [Bool.false_eq_true,if_false]
          rw [ee]
          exact tail
end
open PySem PySem.SetTable PyProof.Rows
section
variable {prog:Program} {w:World} {A:Around} {E:Value->Shared->Prop} {s:Shared}
def cQ (w:World) (h:Heap) (a:Addr) (es:Array (Int × Value)):Prop :=
 ∃ ep t,h.get? a=some (aN es ep t)/\Tab t (es.map (·.1))/\es.size * 5 < t.mask * 3/\t.led = !w.params.followText "set-order" /\ t.plain=true
theorem cQ.at {h h':Heap} {a:Addr} {es:Array (Int × Value)} (x:cQ w h a es) (e:∀ o,h.get? a=some o->h'.get? a=some o):cQ w h' a es :=
 let ⟨ep,t,ho,r⟩:=x; ⟨ep,t,e _ ho,r⟩
theorem n5 {m n:Nat} (hm:Msk m) (h1:n * 5 < m * 3) (h2:(n + 1) * 5 ≥ m * 3) (h3:n < 300):Msk (sizeAbove (grown (n + 1)) - 1)/\n + 1<=sizeAbove (grown (n + 1)) - 1/\(n + 1) * 5 < (sizeAbove (grown (n + 1)) - 1) * 3/\sizeAbove (grown (n + 1))<=512:=by
 have c:n=4\/n=18\/n=76:=by
  rcases hm with rfl | rfl | rfl | rfl <;> omega
 unfold Msk
 rcases c with rfl | rfl | rfl <;> decide
theorem lF:512<=sizeLine:=by rw [sizeLine_eq]; omega
theorem gO {a:Addr} {es es':Array (Int × Value)} {ep:Nat} {t t':SetTable} {Q:Unit->Shared->Prop} (ho:s.heap.get? a=some (aN es ep t)) (hz:es'.size<=512)
  (h:∀ h',Heap.SameBut a s.heap h'->h'.get? a=some (aN es' (ep + 1) t')->Q () { s with heap:=h' }):wpAny (model prog w) A (storeSet a es' t') Q E s:=by
 refine wpAny_storeSet_of (o:=aN es ep t) ho rfl ?_ (Nat.le_trans hz lF)
 refine h _ (Heap.SameBut.update s.heap a _) ?_
 have:=Heap.get?_update_self (Obj.putSet es' t') ho (by rw [putSet_of es' t' (o:=aN es ep t) rfl]; rfl)
 rw [putSet_of es' t' (o:=aN es ep t) rfl] at this
 exact this
theorem Tab.tooFull {t:SetTable} {hs:Array Int} (T:Tab t hs):t.tooFull=decide (hs.size * 5 ≥ t.mask * 3):=by
 unfold SetTable.tooFull; rw [T.fill]
theorem lG {t:SetTable} {es:Array (Int × Value)} (T:Tab t (es.map (·.1))) {n:Nat} (hn:es.size=n + 1) (h1:n * 5 < t.mask * 3) (h2:(n + 1) * 5 ≥ t.mask * 3) (h3:n < 300) :
  ∃ t' order,t.relaid (es.map (·.1)) (grown (n + 1))=some (t',order)/\order.toList.Perm (List.range es.size)/\Tab t' ((order.filterMap (es[·]?)).map (·.1))/\(order.filterMap (es[·]?)).toList.Perm es.toList/\t'.led=t.led/\t'.plain=t.plain/\(n + 1) * 5 < t'.mask * 3:=by
 obtain ⟨k1,k2,k3,k4⟩:=n5 T.msk h1 h2 h3
 obtain ⟨t',order,e,pm,T',pe,l,p,m⟩:=wG k1 t.finger (t.movedTo (sizeAbove (grown (n + 1)) - 1)) t.led t.plain es (by omega)
 exact ⟨t',order,e,pm,T',pe,l,p,by rw [m]; exact k3⟩
theorem pW {ks:List Int} {b:Addr} {Q:Bool->Shared->Prop} (hk:TK prog w s.heap ks b) (h:Q true s):wpAny (model prog w) A (hashByValue 8 (.ref b)) Q E s:=by
 have hT:=hk.typeIs
 obtain ⟨o,items,n,ho,_,hd,hi⟩:=hk
 unfold hashByValue
 refine wpAny_bind (wpAny_specialOf hT F.slot_tuple_hash.lookup ?_)
 dsimp only
 refine wpAny_bind (wpAny_seqItems ho hd ?_)
 refine wpAny_bind ?_
 show wpAny _ _ (forIn items _ _) _ _ s
 rw [<- Array.forIn_toList]
 have hall0:∀ v ∈ items.toList,∃ k t,v = .int k t:=by
  clear hd ho
  generalize items.toList=l at hi
  induction hi with
  | nil=>intro v hv; cases hv
  | cons h1 _ ih =>
   intro v hv
   rcases List.mem_cons.mp hv with rfl | hv
   ·obtain ⟨t,e⟩:=Value.isInt_shape h1; exact ⟨_,t,e⟩
   ·exact ih v hv
 refine wpAny_forIn_list _ (fun rest r s'=>r.1=none/\s'=s/\∀ v ∈ rest,∃ k t,v=Value.int k t) _ ?_ ?_ _ _ ⟨rfl,rfl,hall0⟩
 ·rintro v rest r s' ⟨hr,rfl,hall⟩
  obtain ⟨k,t,rfl⟩:=hall v List.mem_cons_self
  rw [show hashByValue 7 (.int k t)=pure true from rfl]
  refine wpAny_bind (wpAny_pure ?_)
  simp only [Bool.not_true,Bool.false_eq_true,if_false]
  exact wpAny_pure ⟨rfl,rfl,fun u hu'=>hall u (List.mem_cons_of_mem _ hu')⟩
 ·rintro ⟨r1,r2⟩ s' ⟨hr,rfl,_⟩
  simp only at hr
  subst hr
  exact wpAny_pure h
theorem wI {a b:Addr} {es:Array (Int × Value)} {ks:List Int} {Q:Bool->Shared->Prop} (hu:A.units < cLine) (I:cQ w s.heap a es) (els:∀ e ∈ es,∃ ks',ElT prog w s.heap e ks') (hk:TK prog w s.heap ks b) (hz:es.size < 300)
  (hin:(∃ e ∈ es,ElT prog w s.heap e ks)->Q false s)
  (hnew:(¬ ∃ e ∈ es,ElT prog w s.heap e ks)->∀ h' es',Heap.SameBut a s.heap h'->cQ w h' a es'->es'.toList.Perm ((bL prog w ks,.ref b) :: es.toList)->Q true { s with heap:=h' }) :
  wpAny (model prog w) A (setAddHashed a (.ref b) (bL prog w ks)) Q E s:=by
 obtain ⟨ep,t,ho,T,rm,hl,hp⟩:=I
 unfold setAddHashed setAddHashedIn
 refine wpAny_holding (wpAny_bind (bo ho T ?_))
 dsimp only
 rw [show byScan (.ref b) es=false from rfl]
 simp only [Bool.false_eq_true,if_false]
 obtain ⟨n,q,hn,W,he,hq,hd⟩:=T.ends (bL prog w ks)
 have hn':n < 100000:=by
  have:t.mask<=511:=by rcases T.msk with e | e | e | e <;> omega
  unfold turns at hn
  omega
 unfold setSearch
 refine wpAny_bind (pV hu ho T els hk he 100000 n none _ rfl W hn' hn rfl (fun x => ?_) fun x => ?_)
 ·obtain ⟨k,r,i,e,_,_,ee,el⟩:=x
  exact wpAny_pure (hin ⟨e,Array.mem_of_getElem? ee,el⟩)
 ·have nx:¬ ∃ e ∈ es,ElT prog w s.heap e ks:=by
   rintro ⟨e,he',el⟩
   obtain ⟨i,hi,ei⟩:=Array.getElem_of_mem he'
   have ee:es[i]? = some e:=by rw [Array.getElem?_eq_getElem hi,ei]
   have hpl:i < t.place.size:=by rw [T.size,Array.size_map]; exact hi
   obtain ⟨bb,rfl,hbb⟩:=el
   obtain ⟨k,r,w1,er⟩:=T.reach i _ _ (Array.getElem?_eq_getElem hpl) (pU es i _ ee)
   exact x ⟨k,r,i,_,w1,by rw [er]; exact Array.getElem?_eq_getElem hpl,ee,bb,rfl,hbb⟩
  dsimp only
  refine wpAny_bind (bo ho T ?_)
  dsimp only
  rw [T.uJ]
  dsimp only
  rw [hp]
  simp only [if_true]
  have hz':(es.map (·.1)).size + 1<=t.mask:=by
   rw [Array.size_map]; have:=T.fit; rw [Array.size_map] at this
   rcases T.msk with e | e | e | e <;> rw [e] at rm ⊢ <;> omega
  have T':=T.put W he hq hz'
  rw [<- eB es (below t.place q.j) (bL prog w ks,Value.ref b) (·.1),hp] at T'
  have sz:(insertAt es (below t.place q.j) (bL prog w ks,Value.ref b)).size=es.size + 1:=bK _ _ _
  refine wpAny_bind (pW hk ?_)
  simp only [if_true]
  refine wpAny_bind (gO ho (by rw [sz]; omega) fun h1 sb1 ho1 => ?_)
  have pm1:=insertAt_perm es (below t.place q.j) (bL prog w ks,Value.ref b)
  rw [T'.tooFull,Array.size_map,sz]
  by_cases full:(es.size + 1) * 5 ≥ t.mask * 3
  ·rw [if_pos (by simpa using full)]
   unfold setRelay
   obtain ⟨t2,order,e2,pm2,T2,pe2,l2,p2,rm2⟩:=lG T' sz (n:=es.size) (by simpa using rm) full hz
   obtain ⟨_,_,_,sa⟩:=n5 T.msk rm full hz
   refine wpAny_bind (wpAny_bind (bo (s:={ s with heap:=h1 }) ho1 T' ?_))
   dsimp only
   rw [if_neg (Nat.not_lt.mpr (Nat.le_trans sa lF))]
   rw [e2]
   have z2:(order.filterMap ((insertAt es (below t.place q.j) (bL prog w ks,Value.ref b))[·]?)).size=es.size + 1:=by
    rw [<- Array.length_toList,pe2.length_eq,Array.length_toList,sz]
   refine wpAny_bind ?_
   show wpAny _ _ (if ((order.filterMap ((insertAt es (below t.place q.j) (bL prog w ks,Value.ref b))[·]?)).size != (insertAt es (below t.place q.j) (bL prog w ks,Value.ref b)).size)=true then _ else _) _ _ _
   rw [if_neg (by rw [z2,sz]; simp)]
   refine wpAny_pure ?_
   dsimp only
   refine gO (s:={ s with heap:=h1 }) ho1 (by rw [z2]; omega) fun h2 sb2 ho2 => ?_
   refine wpAny_pure (hnew nx h2 _ (sb1.trans sb2) ⟨_,_,ho2,T2,by rw [z2]; exact rm2,by rw [l2]; exact hl,by rw [p2]⟩ (pe2.trans pm1))
  ·rw [if_neg (by simpa using full)]
   refine wpAny_pure (hnew nx h1 _ sb1 ⟨_,_,ho1,T',?_,hl,rfl⟩ pm1)
   rw [sz]
   exact Nat.lt_of_not_le full
end
open PySem PySem.SetTable PyProof.Rows
section
variable {prog:Program} {w:World} {A:Around} {E:Value->Shared->Prop} {s:Shared}
def ElI (e:Int × Value) (k:Int):Prop:=∃ t,e=(hashInt k,Value.int k t)
theorem rZ {es:Array (Int × Value)} (els:∀ e ∈ es,∃ k,ElI e k):ElemsOf (intKind prog w) es.toList:=by
 intro e he
 obtain ⟨k,t,rfl⟩:=els e (Array.mem_toList_iff.mp he)
 exact ⟨⟨k,intKind_is _ _ _ _,rfl⟩,rfl⟩
theorem r6 {t:SetTable} {es:Array (Int × Value)} (T:Tab t (es.map (·.1))) (h:Int) (x:Value) {n:Nat} {q:Probe} (hn:n < 10 * turns t.mask) (W:Way (occ t) t.mask n (start t.mask h) q) (he:¬ occ t q.j) (hq:q.j<=t.mask) (hz:es.size + 1<=t.mask) :
  layNew t es h x=(insertAt es (below t.place q.j) (h,x),{ t with place:=insertAt t.place (below t.place q.j) q.j },false,false):=by
 have hf:t.freeSlot h=some (q.j,false):=by
  unfold SetTable.freeSlot
  rcases nX T (H:=fun _=>h + 1) (h:=h) W he hn rfl with ⟨g,_⟩ | ⟨_,_,i,_,_,_,h1,_⟩
  ·rw [show t.probe (fun _=>h + 1) h (t.probeStart h)=some (.empty q.j none) from g]
   rfl
  ·have:h + 1=h:=h1
   omega
 have T':=T.put W he hq (by rw [Array.size_map]; exact hz)
 rw [<- eB es (below t.place q.j) (h,x) (·.1)] at T'
 have ft:=T'.fits
 rw [Array.size_map] at ft
 unfold layNew
 rw [hf]
 dsimp only
 rw [T.uJ]
 dsimp only
 unfold SetTable.orStandIn
 rw [if_pos ft,ft]
 rfl
theorem n6 {t:SetTable} {es:Array (Int × Value)} {n:Nat} {t':SetTable} {order:Array Nat} (e:t.relaid (es.map (·.1)) n=some (t',order)) (pm:order.toList.Perm (List.range es.size)) (T':Tab t' ((order.filterMap (es[·]?)).map (·.1))) :
  relayAll t es n=(order.filterMap (es[·]?),t',false):=by
 unfold relayAll
 rw [e]
 dsimp only
 have c:coversAll order es.size=true:=by unfold coversAll; rw [List.isPerm_iff]; exact pm
 have f:=T'.fits
 rw [Array.size_map] at f
 rw [c,f]
 rfl
theorem add_int {a:Addr} {es:Array (Int × Value)} {k:Int} {tok:Tok} {Q:Bool->Shared->Prop} (I:cQ w s.heap a es) (els:∀ e ∈ es,∃ k',ElI e k') (hz:es.size < 300)
  (hin:(∃ e ∈ es,ElI e k)->Q false s)
  (hnew:(¬ ∃ e ∈ es,ElI e k)->∀ h' es',Heap.SameBut a s.heap h'->cQ w h' a es'->es'.toList.Perm ((hashInt k,.int k tok) :: es.toList)->Q true { s with heap:=h' }) :
  wpAny (model prog w) A (setAddHashed a (.int k tok) (hashInt k)) Q E s:=by
 obtain ⟨ep,t,ho,T,rm,hl,hp⟩:=I
 have hel:=rZ (prog:=prog) (w:=w) els
 have hb:es.size < scanBound:=by unfold scanBound; omega
 have hf:t.fits es.size=true:=by have:=T.fits; rwa [Array.size_map] at this
 unfold setAddHashed setAddHashedIn
 refine wpAny_holding (wpAny_bind (bo ho T ?_))
 dsimp only
 rw [byScan_of (knd:=intKind prog w) rfl hb hel]
 simp only [↓reduceIte]
 unfold setAddByScan
 refine wpAny_bind ?_
 refine wpAny_bind (wpAny_rule ?_)
 refine wpAny_bind (wpAny_setScan_of (knd:=intKind prog w) (k:=k) (intKind_is _ _ _ _) ho rfl hf hel ?_)
 cases hr:List.findIdx? (fun e=>(intKind prog w).is k e.2) es.toList with
 | some j =>
  dsimp only
  obtain ⟨hj,hpj,_⟩:=List.findIdx?_eq_some_iff_getElem.mp hr
  refine wpAny_pure (wpAny_pure (hin ⟨es.toList[j],Array.mem_toList_iff.mp (List.getElem_mem hj),?_⟩))
  obtain ⟨k',t',e'⟩:=els es.toList[j] (Array.mem_toList_iff.mp (List.getElem_mem hj))
  obtain ⟨u,e2⟩:=Value.isInt_shape hpj
  rw [e'] at e2
  cases e2
  exact ⟨_,e'⟩
 | none =>
  dsimp only
  have nx:¬ ∃ e ∈ es,ElI e k:=by
   rintro ⟨e,he,t',rfl⟩
   have:=List.findIdx?_eq_none_iff.mp hr _ (Array.mem_toList_iff.mpr he)
   rw [intKind_is] at this
   cases this
  have hgw:∀ (b:Bool) {s₁:Shared} {Q':Unit->Shared->Prop},Q' () s₁->wpAny (model prog w) A (match b with | true=>rule "set.scan.the-table-gave-way" | false=>pure ()) Q' E s₁ :=
   fun b s₁ Q' hq=>by cases b <;> first | exact wpAny_pure hq | exact wpAny_rule hq
  obtain ⟨n,q,hn,W,he,hq,hd⟩:=T.ends (hashInt k)
  have hz':es.size + 1<=t.mask:=by
   rcases T.msk with e | e | e | e <;> rw [e] at rm ⊢ <;> omega
  rw [r6 T (hashInt k) (.int k tok) hn W he hq hz']
  dsimp only
  refine wpAny_bind (wpAny_pure (a:=()) ?_)
  have T':=T.put W he hq (by rw [Array.size_map]; exact hz')
  rw [<- eB es (below t.place q.j) (hashInt k,Value.int k tok) (·.1),hp] at T'
  rw [hp]
  simp only [↓reduceIte]
  refine wpAny_bind ?_
  rw [show hashByValue 8 (.int k tok)=pure true from rfl]
  refine wpAny_pure ?_
  simp only [↓reduceIte]
  have sz:(insertAt es (below t.place q.j) (hashInt k,Value.int k tok)).size=es.size + 1:=bK _ _ _
  refine wpAny_bind (gO ho (by rw [sz]; omega) fun h1 sb1 ho1 => ?_)
  have pm1:=insertAt_perm es (below t.place q.j) (hashInt k,Value.int k tok)
  rw [T'.tooFull,Array.size_map,sz]
  by_cases full:(es.size + 1) * 5 ≥ t.mask * 3
  ·rw [if_pos (by simpa using full)]
   obtain ⟨t2,order,e2,pm2,T2,pe2,l2,p2,rm2⟩:=lG T' sz (n:=es.size) (by simpa using rm) full hz
   rw [n6 e2 pm2 T2]
   dsimp only
   have z2:(order.filterMap ((insertAt es (below t.place q.j) (hashInt k,Value.int k tok))[·]?)).size=es.size + 1:=by
    rw [<- Array.length_toList,pe2.length_eq,Array.length_toList,sz]
   refine wpAny_bind (wpAny_pure (a:=()) ?_)
   refine wpAny_bind (gO (s:={ s with heap:=h1 }) ho1 (by rw [z2]; omega) fun h2 sb2 ho2 => ?_)
   refine wpAny_pure (wpAny_pure (hnew nx h2 _ (sb1.trans sb2) ⟨_,_,ho2,T2,by rw [z2]; exact rm2,by rw [l2]; exact hl,by rw [p2]⟩ (pe2.trans pm1)))
  ·rw [if_neg (by simpa using full)]
   refine wpAny_pure (wpAny_pure (hnew nx h1 _ sb1 ⟨_,_,ho1,T',?_,hl,rfl⟩ pm1))
   rw [sz]
   exact Nat.lt_of_not_le full
end
open PySem PySem.SetTable PyProof.Rows PySem.Spec
def TS (h h':Heap):Prop:=∀ b o,o.cls = .type "tuple" -> h.get? b=some o->h'.get? b=some o
structure Kd (prog:Program) (w:World) (κ : Type) where
 El:Heap->Value -> κ -> Prop
 hash : κ -> Int
 room:Around->Prop
 keeps:∀ {h h':Heap} {v:Value} {k : κ},El h v k->TS h h'->El h' v k
 inj:∀ {h:Heap} {v:Value} {k k' : κ},El h v k->El h v k'->k=k'
 add:∀ {A:Around} {E:Value->Shared->Prop} {s:Shared} {a:Addr} {es:Array (Int × Value)} {v:Value} {k : κ} {Q:Bool->Shared->Prop},room A->cQ w s.heap a es->(∀ e ∈ es,∃ k',e.1=hash k'/\El s.heap e.2 k')->El s.heap v k->es.size < 300 →
  ((∃ e ∈ es,El s.heap e.2 k)->∀ tk,s.toks<=tk->Q false { s with toks:=tk }) →
  ((¬ ∃ e ∈ es,El s.heap e.2 k)->∀ h' es' tk,s.toks<=tk->Heap.SameBut a s.heap h'->cQ w h' a es'->es'.toList.Perm ((hash k,v) :: es.toList)->Q true { s with heap:=h',toks:=tk }) →
  wpAny (model prog w) A (setAdd a v) Q E s
theorem TK.keep {prog:Program} {w:World} {h h':Heap} {ks:List Int} {b:Addr} (x:TK prog w h ks b) (t:TS h h'):TK prog w h' ks b :=
 let ⟨o,items,n,ho,hc,r⟩:=x; ⟨o,items,n,t b o hc ho,hc,r⟩
def i3 (prog:Program) (w:World):Kd prog w (List Int) where
 El:=fun h v ks=>∃ b,v = .ref b/\TK prog w h ks b
 hash:=bL prog w
 room:=fun A=>A.units < cLine
 keeps:=fun ⟨b,e,x⟩ t=>⟨b,e,x.keep t⟩
 inj:=fun ⟨b,e,x⟩ ⟨b',e',x'⟩=>by
  rw [e] at e'; injection e' with e'; subst e'; exact x.inj x'
 add:=by
  intro A E s a es v k Q hu I els hv hz hin hnew
  obtain ⟨b,rfl,hk⟩:=hv
  unfold setAdd
  refine wpAny_holding (wpAny_bind (wpAny_pyHash_tuple hu hk ?_))
  have els':∀ e ∈ es,∃ ks',ElT prog w s.heap e ks':=fun e he=>by
   obtain ⟨k',e1,b',e2,x⟩:=els e he
   exact ⟨k',b',Prod.ext e1 e2,x⟩
  have conv:∀ e ∈ es,(ElT prog w s.heap e k ↔ ∃ b,e.2 = .ref b/\TK prog w s.heap k b):=fun e he=>by
   constructor
   ·rintro ⟨b',rfl,x⟩; exact ⟨b',rfl,x⟩
   ·rintro ⟨b',e2,x⟩
    obtain ⟨k',e1,b2,e3,x2⟩:=els e he
    rw [e2] at e3; injection e3 with e3; subst e3
    obtain rfl:=x.inj x2
    exact ⟨b',Prod.ext e1 e2,x⟩
  refine wI (s:={ s with toks:=s.toks + (k.length + 1) }) hu I els' hk hz (fun x=>hin ?_ _ (Nat.le_add_right _ _)) fun x h' es' sb I' pm=>hnew ?_ h' es' _ (Nat.le_add_right _ _) sb I' pm
  ·obtain ⟨e,he,x⟩:=x; exact ⟨e,he,(conv e he).mp x⟩
  ·rintro ⟨e,he,y⟩; exact x ⟨e,he,(conv e he).mpr y⟩
def qI (prog:Program) (w:World):Kd prog w Int where
 El:=fun _ v k=>∃ t,v = .int k t
 hash:=hashInt
 room:=fun _=>True
 keeps:=fun x _=>x
 inj:=fun ⟨t,e⟩ ⟨t',e'⟩=>by rw [e] at e'; injection e'
 add:=by
  intro A E s a es v k Q _ I els hv hz hin hnew
  obtain ⟨t,rfl⟩:=hv
  unfold setAdd
  refine wpAny_holding (wpAny_bind ((intKind prog w).pyHash (k:=k) (intKind_is _ _ _ _) ?_))
  have els':∀ e ∈ es,∃ k',ElI e k':=fun e he=>by
   obtain ⟨k',e1,t',e2⟩:=els e he
   exact ⟨k',t',Prod.ext e1 e2⟩
  have conv:∀ e ∈ es,(ElI e k ↔ ∃ t,e.2=Value.int k t):=fun e he=>by
   constructor
   ·rintro ⟨t',rfl⟩; exact ⟨t',rfl⟩
   ·rintro ⟨t',e2⟩
    obtain ⟨k',e1,t2,e3⟩:=els e he
    rw [e2] at e3; injection e3 with e3 e4; subst e3
    exact ⟨t',Prod.ext e1 e2⟩
  refine add_int (s:={ s with toks:=s.toks + 1 }) I els' hz (fun x=>hin ?_ _ (Nat.le_succ _)) fun x h' es' sb I' pm=>hnew ?_ h' es' _ (Nat.le_succ _) sb I' pm
  ·obtain ⟨e,he,x⟩:=x; exact ⟨e,he,(conv e he).mp x⟩
  ·rintro ⟨e,he,y⟩; exact x ⟨e,he,(conv e he).mpr y⟩
section
variable {prog:Program} {w:World} {κ : Type} (kd:Kd prog w κ)
structure Good (h:Heap) (es:Array (Int × Value)) (l:List κ):Prop where
 el:∀ e ∈ es,∃ k,k ∈ l/\e.1=kd.hash k/\kd.El h e.2 k
 all:∀ k ∈ l,∃ e ∈ es,kd.El h e.2 k
 dis:es.toList.Pairwise (fun e e'=>∀ k,kd.El h e.2 k->¬ kd.El h e'.2 k)
 len:es.size<=l.length
variable {kd}
theorem Good.keeps {h h':Heap} {es:Array (Int × Value)} {l:List κ} (G:Good kd h es l) (t:TS h h'):Good kd h' es l:=by
 refine ⟨fun e he => ?_,fun k hk => ?_,?_,G.len⟩
 ·obtain ⟨k,a,b,c⟩:=G.el e he; exact ⟨k,a,b,kd.keeps c t⟩
 ·obtain ⟨e,a,b⟩:=G.all k hk; exact ⟨e,a,kd.keeps b t⟩
 ·refine List.Pairwise.imp_of_mem (fun {e e'} he he' x k y z => ?_) G.dis
  obtain ⟨k1,_,_,c1⟩:=G.el e (Array.mem_toList_iff.mp he)
  obtain ⟨k2,_,_,c2⟩:=G.el e' (Array.mem_toList_iff.mp he')
  obtain rfl:=kd.inj y (kd.keeps c1 t)
  obtain rfl:=kd.inj z (kd.keeps c2 t)
  exact x _ c1 c2
theorem Good.nil (h:Heap):Good kd h #[] []:=⟨fun e he=>(by simp at he),fun k hk=>(by cases hk),(by simp),Nat.le_refl _⟩
theorem Good.same {h:Heap} {es:Array (Int × Value)} {l:List κ} (G:Good kd h es l) {k : κ} (x:∃ e ∈ es,kd.El h e.2 k):Good kd h es (l ++ [k]):=by
 refine ⟨fun e he => ?_,fun k' hk => ?_,G.dis,by rw [List.length_append]; have:=G.len; omega⟩
 ·obtain ⟨k,a,b⟩:=G.el e he; exact ⟨k,List.mem_append_left _ a,b⟩
 ·rcases List.mem_append.mp hk with hk | hk
  ·exact G.all k' hk
  ·rw [List.mem_singleton] at hk; subst hk; exact x
theorem Good.more {h:Heap} {es es':Array (Int × Value)} {l:List κ} (G:Good kd h es l) {k : κ} {v:Value} (hv:kd.El h v k) (x:¬ ∃ e ∈ es,kd.El h e.2 k) (pm:es'.toList.Perm ((kd.hash k,v) :: es.toList)):Good kd h es' (l ++ [k]):=by
 have mem:∀ e,e ∈ es' ↔ e=(kd.hash k,v)\/e ∈ es:=fun e=>by
  rw [<- Array.mem_toList_iff,pm.mem_iff,List.mem_cons,Array.mem_toList_iff]
 refine ⟨fun e he => ?_,fun k' hk => ?_,?_,?_⟩
 ·rcases (mem e).mp he with rfl | he
  ·exact ⟨k,List.mem_append_right _ (List.mem_singleton.mpr rfl),rfl,hv⟩
  ·obtain ⟨k,a,b⟩:=G.el e he; exact ⟨k,List.mem_append_left _ a,b⟩
 ·rcases List.mem_append.mp hk with hk | hk
  ·obtain ⟨e,a,b⟩:=G.all k' hk; exact ⟨e,(mem e).mpr (.inr a),b⟩
  ·rw [List.mem_singleton] at hk; subst hk; exact ⟨_,(mem _).mpr (.inl rfl),hv⟩
 ·rw [pm.pairwise_iff (fun {a b} z k y1 y2=>z k y2 y1)]
  refine List.Pairwise.cons (fun e he k' y1 y2 => ?_) G.dis
  obtain rfl:=kd.inj y1 hv
  exact x ⟨e,Array.mem_toList_iff.mp he,y2⟩
 ·have:=pm.length_eq
  rw [List.length_cons,Array.length_toList,Array.length_toList] at this
  rw [List.length_append,List.length_singleton]
  have:=G.len
  omega
end
section
variable {prog:Program} {w:World} {A:Around} {R:Result->Shared->Prop} {I:Addr} {fp:List Addr} {G:Array GenState->Array GenState->Prop} {n:Nat} {P:Nat->Value->Prop} {St:Nat->Shared->Prop} {κ : Type} {kd:Kd prog w κ}
theorem n8 (W:WalksS prog w A.in1 I fp [I] G n P St) (hrm:kd.room A.in1) (hI:∀ i s,St i s->∃ o,s.heap.get? I=some o/\o.cls ≠ .type "tuple") (S:Addr) (hSf:S ∉ fp) (hIf:I ∈ fp) (ks:List κ) (hn:n=ks.length) (hb:n < 300) :
  ∀ (k i:Nat) (s:Shared) (es:Array (Int × Value)),n - i=k->i<=n->St i s->(∀ j v,P j v->∃ q,ks[j]? = some q/\kd.El s.heap v q) →
   cQ w s.heap S es->Good kd s.heap es (ks.take i) →
   (∀ s' es',Moved [S,I] G s s'->cQ w s'.heap S es'->Good kd s'.heap es' ks->R (.ok (.ret .none)) s') →
   codeAny (model prog w) A (.builtin "set.update.loop" ⟨[.ref S,.ref I],[]⟩) R s:=by
 have hSI:S ≠ I:=fun e=>hSf (e ▸ hIf)
 have ts:∀ i s s',St i s->Moved [I] G s s'->TS s.heap s'.heap:=fun i s s' hst hm b o hc e=>by
  refine hm.heap b o (fun hb => ?_) e
  rw [List.mem_singleton] at hb
  obtain ⟨o',e',c'⟩:=hI i s hst
  rw [hb,e'] at e; cases e; exact c' hc
 intro k
 induction k with
 | zero =>
  intro i s es hk hi hst hv hS hG hR
  have hin:i=n:=by omega
  subst hin
  refine codeAny_builtin F.entry_set_update_loop ?_
  rw [Around.under_plainId F.plain_set_update_loop _]
  show wpAny _ A.in1 (pyNext (.ref I) >>= _) _ _ s
  refine wpAny_bind (W.done s _ _ hst fun s' hm => ?_)
  show wpAny _ A.in1 (ret Value.none) _ _ s'
  rw [List.take_of_length_le (by omega)] at hG
  exact wpAny_pure (hR s' es (hm.mono fun b hb=>by rw [List.mem_singleton] at hb; simp [hb]) (hS.at fun o e=>hm.heap S o (by rw [List.mem_singleton]; exact hSI) e) (hG.keeps (ts _ _ _ hst hm)))
 | succ k ih =>
  intro i s es hk hi hst hv hS hG hR
  have hlt:i < n:=by omega
  refine codeAny_builtin F.entry_set_update_loop ?_
  rw [Around.under_plainId F.plain_set_update_loop _]
  show wpAny _ A.in1 (pyNext (.ref I) >>= _) _ _ s
  refine wpAny_bind (W.item i s _ _ hlt hst fun v s' hP hst' hm => ?_)
  have t0:=ts _ _ _ hst hm
  obtain ⟨q,eq,hq⟩:=hv i v hP
  have hS':cQ w s'.heap S es:=hS.at fun o e=>hm.heap S o (by rw [List.mem_singleton]; exact hSI) e
  have hG':=hG.keeps t0
  have tk:ks.take (i + 1)=ks.take i ++ [q]:=by rw [List.take_succ,eq]; rfl
  show wpAny _ A.in1 (holding [v] (setAdd S v) >>= _) _ _ s'
  have hm2:Moved [S,I] G s s':=hm.mono fun b hb=>by rw [List.mem_singleton] at hb; simp [hb]
  refine wpAny_bind (wpAny_holding (kd.add hrm hS' (fun e he => ?_) (kd.keeps hq t0) ?_ (fun x tk' htk => ?_) fun x h' es' tk' htk sb I' pm => ?_))
  ·obtain ⟨k',_,a,b⟩:=hG'.el e he; exact ⟨k',a,b⟩
  ·have:=hG'.len; rw [List.length_take] at this; omega
  ·refine wpAny_pure ⟨plainId_quiet F.plain_set_update_loop _,ih (i + 1) _ es (by omega) hlt (W.frame _ s' _ _ hst' htk fun b _ o e=>e) (fun j v' p => ?_) hS' (by rw [tk]; exact hG'.same x) fun s'' es'' hm'' a b => ?_⟩
   ·obtain ⟨q',a,b⟩:=hv j v' p; exact ⟨q',a,kd.keeps b t0⟩
   ·exact hR s'' es'' (Moved.trans W.gtrans (hm2.then_heap htk fun b o _ e=>e) hm'') a b
  ·have t1:TS s'.heap h':=fun b o hc e=>by
    rw [sb.2 b (fun hb=>by
     obtain ⟨ep,t,ho,_⟩:=hS'
     rw [hb,ho] at e; cases e; simp [aN] at hc)]
    exact e
   refine wpAny_pure ⟨plainId_quiet F.plain_set_update_loop _,ih (i + 1) _ es' (by omega) hlt (W.frame _ s' _ _ hst' htk fun b hb o e => ?_) (fun j v' p => ?_) I' (by rw [tk]; exact (hG'.more (kd.keeps hq t0) x pm).keeps t1) fun s'' es'' hm'' a b => ?_⟩
   ·rw [sb.2 b (fun h:b=S=>hSf (h ▸ hb))]; exact e
   ·obtain ⟨q',a,b⟩:=hv j v' p; exact ⟨q',a,kd.keeps (kd.keeps b t0) t1⟩
   ·refine hR s'' es'' (Moved.trans W.gtrans (hm2.then_heap htk fun b o hb e => ?_) hm'') a b
    rw [sb.2 b (fun h:b=S=>hb (by rw [h]; exact List.mem_cons_self))]; exact e
end
section
variable {prog:Program} {w:World} {A:Around} {E:Value->Shared->Prop} {s:Shared}
theorem qJ (a:Value) {Q₁:Value->Shared->Prop}
    (h:Q₁ (.ref s.heap.objs.size) { s with heap:=s.heap.push (aN #[] 0 (.fresh 0 0 (!w.params.followText "set-order"))) }) :
    codeAny (model prog w) A (.call (.builtin "set.__new__") ⟨[.type "set",a],[]⟩) (wants Q₁ E) s:=by
  refine codeAny_of_tree ?_
  show wpAny _ A.in1 (do checkBuiltinCall "set.__new__" ⟨[.type "set",a],[]⟩; again (.builtin "set.__new__" ⟨[.type "set",a],[]⟩)) _ _ s
  refine wpAny_bind (wpAny_of_eq (PySem.F.newCall_set_1 a) (wpAny_pure ⟨plainId_quiet F.plain_set_new _,codeAny_builtin F.entry_set_new ?_⟩))
  rw [Around.under_plainId F.plain_set_new _]
  unfold Builtin.«set.__new__» Builtin.Frozenset.newClass
  have hsub:=sub_set_self
  obtain ⟨hp,g,d,tk,os⟩:=s
  dsimp only
  wp_walk
  refine wpAny_askSetting (wpAny_pure ?_)
  dsimp only
  simp only [newObj]
  refine wpAny_bind (wpAny_alloc (wpAny_pure ?_))
  exact wpAny_pure h
theorem r9 (led:Bool):Tab (.fresh 0 0 led) #[]:=by
 refine ⟨rfl,fun i j a b e => ?_,rfl,fun i j e => ?_,.inl rfl,Nat.zero_le _,fun i j h e => ?_⟩ <;> (simp [SetTable.fresh] at e)
theorem jL {h:Heap} {a:Addr} (ho:h.get? a=some (aN #[] 0 (.fresh 0 0 (!w.params.followText "set-order")))):cQ w h a #[] :=
 ⟨0,_,ho,(by rw [Array.map_empty]; exact r9 _),(by show 0 * 5 < 7 * 3; decide),rfl,rfl⟩
theorem sub_tuple_set:isSubtype (.type "tuple") (.type "set")=pure false:=by rw [isSubtype_type]; kernel_rfl
theorem sub_tuple_frozenset:isSubtype (.type "tuple") (.type "frozenset")=pure false:=by rw [isSubtype_type]; kernel_rfl
end
open PySem PySem.SetTable PyProof.Rows PySem.Spec
section
variable {prog:Program} {w:World} {A:Around} {E:Value->Shared->Prop} {s:Shared}
set_option maxHeartbeats 3200000 in
theorem fe {κ : Type} {kd:Kd prog w κ} {l:Addr} {items:Array Value} {ks:List κ} {Q:Value->Shared->Prop}
  (hh:A.handled=none) (hrm:kd.room A.in1.in1.in1) (hl:s.heap.IsTuple l items) (hz:items.size=ks.length) (hi:∀ (i:Nat) v,items[i]? = some v->∃ q,ks[i]? = some q/\kd.El s.heap v q) (hb:items.size < 300)
  (h:∀ (h':Heap) (es:Array (Int × Value)) (tk:Nat),s.toks<=tk->cQ w h' s.heap.objs.size es->Good kd h' es ks →
   (∀ b o,s.heap.get? b=some o->h'.get? b=some o)->Q (.ref s.heap.objs.size) { s with heap:=h',toks:=tk }) :
  wpAny (model prog w) A (call (.type "set") [.ref l]) Q E s:=by
 obtain ⟨c,tl,hmro⟩:=F.called_set.mro
 have hmade:=F.called_set.made
 have hsub:=F.called_set.sub
 refine wpAny_call (codeAny_of_tree ?_)
 show wpAny _ _ (callAny (.type "set") _) _ _ _
 refine wpAny_pure ⟨Code.quiet_builtin _ (by decide +kernel),codeAny_builtin F.entry_type_call ?_⟩
 rw [Around.under_plain (weight_type_call_type "set" [.ref l] []) rfl]
 have h1:=F.called_set.notType
 have h2:=F.called_set.canCreate
 have hct:=PySem.F.typeCall_set_1 (.ref l)
 repeat (any_goals (first | assumption | wp_step))
 have gd:(s.heap.push (aN #[] 0 (.fresh 0 0 (!w.params.followText "set-order")))).objs.size=s.heap.objs.size + 1:=Heap.size_push _ _
 refine codeAny_mono (qJ (w:=w) (.ref l) (E:=E) (Q₁:=fun obj s₁=>obj = .ref s.heap.objs.size/\s₁={ s with heap:=s.heap.push (aN #[] 0 (.fresh 0 0 (!w.params.followText "set-order"))) }) ⟨rfl,rfl⟩) fun r s₁ hr => ?_
 cases r with
 | error e=>exact hr
 | ok fl =>
  cases fl with
  | ret obj =>
   obtain ⟨rfl,rfl⟩:=hr
   generalize hled:(!w.params.followText "set-order")=led at gd ⊢
   have hS:(s.heap.push (aN #[] 0 (.fresh 0 0 led))).get? s.heap.objs.size=some (aN #[] 0 (.fresh 0 0 led)):=Heap.get?_push_size _ rfl
   have hT:Shared.TypeIs { s with heap:=s.heap.push (aN #[] 0 (.fresh 0 0 led)) } (.ref s.heap.objs.size) "set" := ⟨_,hS,rfl⟩
   have hli:=F.called_set.init.lookup
   have hbi:=F.called_set.init.bind (.ref s.heap.objs.size)
   repeat (any_goals (first | assumption | wp_step))
   refine codeAny_mono (codeAny_call_builtin (R:=wants (fun r s₂=>r = .none/\∃ h' es tk,s₂={ s with heap:=h',toks:=tk }/\s.toks<=tk ∧
     cQ w h' s.heap.objs.size es/\Good kd h' es ks ∧
     (∀ b o,s.heap.get? b=some o->h'.get? b=some o)) E) F.called_set.init.plain F.entry_set_init (check_set_init_1 hT ?_)) fun r₂ s₂ hr₂ => ?_
   ·obtain ⟨ol,hol,hcl,nl,hdl⟩:=id hl
    obtain ⟨ocls,odict,odata,oslots⟩:=ol
    simp only at hcl hdl
    subst hcl; subst hdl
    have hol':(s.heap.push (aN #[] 0 (.fresh 0 0 led))).get? l=some { cls := .type "tuple",dict:=odict,data := .seq items nl,slots:=oslots }:=Heap.get?_push_of_some _ hol
    have hsls:=sub_tuple_set
    have hslf:=sub_tuple_frozenset
    have hne:(Value.type "tuple" == Value.type "dict")=false:=by decide
    have hl1:(s.heap.push (aN #[] 0 (.fresh 0 0 led))).IsTuple l items:=⟨_,hol',rfl,nl,rfl⟩
    unfold Builtin.«set.__init__» noKeywords Builtin.Frozenset.updateFrom
    generalize hPI:pyIter=PI
    wp_walk
    subst hPI
    refine wpAny_pyIter_tuple hl1 ?_
    refine wpAny_bind (wpAny_runValue ?_)
    have hlS:l < s.heap.objs.size:=Heap.lt_size hol
    have hh3:A.in1.in1.in1.handled=none:=by simp [hh]
    have hneI:l ≠ (s.heap.push (aN #[] 0 (.fresh 0 0 led))).objs.size:=by
     rw [gd]; exact Nat.ne_of_lt (Nat.lt_succ_of_lt hlS)
    have hSf:s.heap.objs.size ∉ [(s.heap.push (aN #[] 0 (.fresh 0 0 led))).objs.size,l]:=by
     rw [gd]; simp only [List.mem_cons,List.mem_singleton,List.not_mem_nil,or_false,not_or]
     exact ⟨Nat.ne_of_lt (Nat.lt_succ_self _),Nat.ne_of_gt hlS⟩
    refine n8 (kd:=kd) ((Walks.tuple hh3 _ l hneI items).toS) hrm (fun i s' st => ?hI) s.heap.objs.size hSf List.mem_cons_self ks hz hb (items.size - 0) 0 _ #[] (by omega) (Nat.zero_le _)
     ⟨⟨_,Heap.get?_push_size _ rfl,rfl,rfl⟩,(hl1.push _)⟩ ?hv (by subst hled; exact jL (Heap.get?_push_of_some _ hS)) (Good.nil _) ?hR
    case hI =>
     obtain ⟨o,ho,hc,_⟩:=st.1
     exact ⟨o,ho,by rw [hc]; decide⟩
    case hv =>
     intro j v hv
     obtain ⟨q,e,x⟩:=hi j v hv
     exact ⟨q,e,kd.keeps x fun b o _ e=>Heap.get?_push_of_some _ (Heap.get?_push_of_some _ e)⟩
    case hR =>
     intro s' es' hm hS' hG'
     obtain ⟨h',g',d',tk',os'⟩:=s'
     have eg:g'=s.gens:=hm.gens
     have ed:d'=s.drawn:=hm.drawn
     have eo:os'=s.os:=hm.os
     subst eg; subst ed; subst eo
     show wpAny _ _ _ _ _ _
     refine wpAny_pure ?_
     show wpAny _ _ (ret Value.none) _ _ _
     refine wpAny_pure ⟨rfl,h',es',tk',rfl,hm.toks,hS',hG',fun b o e => ?_⟩
     have hbb:=Heap.lt_size e
     have hb1:b ≠ s.heap.objs.size:=Nat.ne_of_lt hbb
     have hb2:b ≠ (s.heap.push (aN #[] 0 (.fresh 0 0 led))).objs.size:=by
      rw [gd]; exact Nat.ne_of_lt (Nat.lt_succ_of_lt hbb)
     exact hm.heap b o (by simp only [List.mem_cons,List.mem_singleton,List.not_mem_nil,or_false,not_or]; exact ⟨hb1,hb2⟩) (Heap.get?_push_of_some _ (Heap.get?_push_of_some _ e))
   ·cases r₂ with
    | error e=>exact hr₂
    | ok fl₂ =>
     cases fl₂ with
     | ret r =>
      obtain ⟨rfl,h',es,tk,rfl,htk,hS',hG',hk'⟩:=hr₂
      repeat (any_goals (first | assumption | wp_step))
      exact h _ _ _ htk hS' hG' hk'
     | _=>exact hr₂.elim
  | _=>exact hr.elim
end
open PySem PySem.SetTable PyProof.Rows PySem.Spec
section
variable {prog:Program} {w:World} {A:Around} {E:Value->Shared->Prop} {s:Shared}
set_option maxHeartbeats 3200000 in
theorem call_set_list {κ : Type} {kd:Kd prog w κ} {l:Addr} {items:Array Value} {ks:List κ} {Q:Value->Shared->Prop}
  (hh:A.handled=none) (hrm:kd.room A.in1.in1.in1) (hl:s.heap.IsList l items) (hz:items.size=ks.length) (hi:∀ (i:Nat) v,items[i]? = some v->∃ q,ks[i]? = some q/\kd.El s.heap v q) (hb:items.size < 300)
  (h:∀ (h':Heap) (es:Array (Int × Value)) (tk:Nat),s.toks<=tk->cQ w h' s.heap.objs.size es->Good kd h' es ks →
   (∀ b o,s.heap.get? b=some o->h'.get? b=some o)->Q (.ref s.heap.objs.size) { s with heap:=h',toks:=tk }) :
  wpAny (model prog w) A (call (.type "set") [.ref l]) Q E s:=by
 obtain ⟨c,tl,hmro⟩:=F.called_set.mro
 have hmade:=F.called_set.made
 have hsub:=F.called_set.sub
 refine wpAny_call (codeAny_of_tree ?_)
 show wpAny _ _ (callAny (.type "set") _) _ _ _
 refine wpAny_pure ⟨Code.quiet_builtin _ (by decide +kernel),codeAny_builtin F.entry_type_call ?_⟩
 rw [Around.under_plain (weight_type_call_type "set" [.ref l] []) rfl]
 have h1:=F.called_set.notType
 have h2:=F.called_set.canCreate
 have hct:=PySem.F.typeCall_set_1 (.ref l)
 repeat (any_goals (first | assumption | wp_step))
 have gd:(s.heap.push (aN #[] 0 (.fresh 0 0 (!w.params.followText "set-order")))).objs.size=s.heap.objs.size + 1:=Heap.size_push _ _
 refine codeAny_mono (qJ (w:=w) (.ref l) (E:=E) (Q₁:=fun obj s₁=>obj = .ref s.heap.objs.size/\s₁={ s with heap:=s.heap.push (aN #[] 0 (.fresh 0 0 (!w.params.followText "set-order"))) }) ⟨rfl,rfl⟩) fun r s₁ hr => ?_
 cases r with
 | error e=>exact hr
 | ok fl =>
  cases fl with
  | ret obj =>
   obtain ⟨rfl,rfl⟩:=hr
   generalize hled:(!w.params.followText "set-order")=led at gd ⊢
   have hS:(s.heap.push (aN #[] 0 (.fresh 0 0 led))).get? s.heap.objs.size=some (aN #[] 0 (.fresh 0 0 led)):=Heap.get?_push_size _ rfl
   have hT:Shared.TypeIs { s with heap:=s.heap.push (aN #[] 0 (.fresh 0 0 led)) } (.ref s.heap.objs.size) "set" := ⟨_,hS,rfl⟩
   have hli:=F.called_set.init.lookup
   have hbi:=F.called_set.init.bind (.ref s.heap.objs.size)
   repeat (any_goals (first | assumption | wp_step))
   refine codeAny_mono (codeAny_call_builtin (R:=wants (fun r s₂=>r = .none/\∃ h' es tk,s₂={ s with heap:=h',toks:=tk }/\s.toks<=tk ∧
     cQ w h' s.heap.objs.size es/\Good kd h' es ks ∧
     (∀ b o,s.heap.get? b=some o->h'.get? b=some o)) E) F.called_set.init.plain F.entry_set_init (check_set_init_1 hT ?_)) fun r₂ s₂ hr₂ => ?_
   ·obtain ⟨ol,hol,hcl,nl,hdl⟩:=id hl
    obtain ⟨ocls,odict,odata,oslots⟩:=ol
    simp only at hcl hdl
    subst hcl; subst hdl
    have hol':(s.heap.push (aN #[] 0 (.fresh 0 0 led))).get? l=some { cls := .type "list",dict:=odict,data := .seq items nl,slots:=oslots }:=Heap.get?_push_of_some _ hol
    have hsls:=PySem.F.sub_list_set
    have hslf:=PySem.F.sub_list_frozenset
    have hne:(Value.type "list" == Value.type "dict")=false:=by decide
    have hl1:(s.heap.push (aN #[] 0 (.fresh 0 0 led))).IsList l items:=⟨_,hol',rfl,nl,rfl⟩
    unfold Builtin.«set.__init__» noKeywords Builtin.Frozenset.updateFrom
    generalize hPI:pyIter=PI
    wp_walk
    subst hPI
    refine wpAny_pyIter_list hl1 ?_
    refine wpAny_bind (wpAny_runValue ?_)
    have hlS:l < s.heap.objs.size:=Heap.lt_size hol
    have hh3:A.in1.in1.in1.handled=none:=by simp [hh]
    have hneI:l ≠ (s.heap.push (aN #[] 0 (.fresh 0 0 led))).objs.size:=by
     rw [gd]; exact Nat.ne_of_lt (Nat.lt_succ_of_lt hlS)
    have hSf:s.heap.objs.size ∉ [(s.heap.push (aN #[] 0 (.fresh 0 0 led))).objs.size,l]:=by
     rw [gd]; simp only [List.mem_cons,List.mem_singleton,List.not_mem_nil,or_false,not_or]
     exact ⟨Nat.ne_of_lt (Nat.lt_succ_self _),Nat.ne_of_gt hlS⟩
    refine n8 (kd:=kd) ((Walks.list hh3 _ l hneI items).toS) hrm (fun i s' st => ?hI) s.heap.objs.size hSf List.mem_cons_self ks hz hb (items.size - 0) 0 _ #[] (by omega) (Nat.zero_le _)
     ⟨⟨_,Heap.get?_push_size _ rfl,rfl,rfl⟩,(hl1.push _)⟩ ?hv (by subst hled; exact jL (Heap.get?_push_of_some _ hS)) (Good.nil _) ?hR
    case hI =>
     obtain ⟨o,ho,hc,_⟩:=st.1
     exact ⟨o,ho,by rw [hc]; decide⟩
    case hv =>
     intro j v hv
     obtain ⟨q,e,x⟩:=hi j v hv
     exact ⟨q,e,kd.keeps x fun b o _ e=>Heap.get?_push_of_some _ (Heap.get?_push_of_some _ e)⟩
    case hR =>
     intro s' es' hm hS' hG'
     obtain ⟨h',g',d',tk',os'⟩:=s'
     have eg:g'=s.gens:=hm.gens
     have ed:d'=s.drawn:=hm.drawn
     have eo:os'=s.os:=hm.os
     subst eg; subst ed; subst eo
     show wpAny _ _ _ _ _ _
     refine wpAny_pure ?_
     show wpAny _ _ (ret Value.none) _ _ _
     refine wpAny_pure ⟨rfl,h',es',tk',rfl,hm.toks,hS',hG',fun b o e => ?_⟩
     have hbb:=Heap.lt_size e
     have hb1:b ≠ s.heap.objs.size:=Nat.ne_of_lt hbb
     have hb2:b ≠ (s.heap.push (aN #[] 0 (.fresh 0 0 led))).objs.size:=by
      rw [gd]; exact Nat.ne_of_lt (Nat.lt_succ_of_lt hbb)
     exact hm.heap b o (by simp only [List.mem_cons,List.mem_singleton,List.not_mem_nil,or_false,not_or]; exact ⟨hb1,hb2⟩) (Heap.get?_push_of_some _ (Heap.get?_push_of_some _ e))
   ·cases r₂ with
    | error e=>exact hr₂
    | ok fl₂ =>
     cases fl₂ with
     | ret r =>
      obtain ⟨rfl,h',es,tk,rfl,htk,hS',hG',hk'⟩:=hr₂
      repeat (any_goals (first | assumption | wp_step))
      exact h _ _ _ htk hS' hG' hk'
     | _=>exact hr₂.elim
  | _=>exact hr.elim
end
open PySem PySem.SetTable PyProof.Rows
namespace F9
theorem eC:Slot "set_iterator" "__next__" "set_iterator.__next__" :=
 .of (owner := "set_iterator") (n := "__next__") (by rw [typeLookup_type,builtinLookup_eq_fast]; kernel_rfl) (by decide +kernel) (by decide +kernel) (by decide +kernel)
  (by first | exact .inl (by decide +kernel) | exact .inr (by decide +kernel)) (by rw [isSubtype_type]; kernel_rfl)
theorem kA:entryFor table "set_iterator.__next__" = some Builtin.«set_iterator.__next__» := entryFor_of_tree (by kernel_rfl)
theorem mN (a:Value):argsOk "set_iterator.__next__" ⟨[a],[]⟩:=by
 unfold argsOk; kernel_rfl
theorem jM:entryFor table "set.__iter__" = some Builtin.«frozenset.__iter__» :=
 entryFor_alias (id' := "frozenset.__iter__") (by kernel_rfl) rfl (by decide +kernel) (by kernel_rfl)
end F9
theorem jN {α : Type}:∀ (l:List α) (i:Nat) (x : α),l[i]? = some x->(x :: l.eraseIdx i).Perm l
 | [],i,x,h=>by simp at h
 | y :: l,0,x,h=>by simp at h; subst h; exact List.Perm.refl _
 | y :: l,i + 1,x,h=>by
  rw [List.getElem?_cons_succ] at h
  rw [List.eraseIdx_cons_succ]
  exact (List.Perm.swap y x _).trans (List.Perm.cons y (jN l i x h))
theorem qK {α : Type} (next:Nat->Nat):∀ (fuel k:Nat) (left:List α) (out:Array α),left.length=fuel->(pickOrder.go next fuel k left out).toList.Perm (out.toList ++ left)
 | 0,k,left,out,h=>by
  have:left=[]:=List.length_eq_zero_iff.mp h
  subst this
  unfold pickOrder.go
  rw [List.append_nil]
 | fuel + 1,k,left,out,h=>by
  unfold pickOrder.go
  have hl:next k % left.length < left.length:=Nat.mod_lt _ (by omega)
  have e:=List.getElem?_eq_getElem hl
  rw [e]
  dsimp only
  have ih:=qK next fuel (k + 1) (left.eraseIdx (next k % left.length)) (out.push left[next k % left.length]) (by rw [List.length_eraseIdx,if_pos hl]; omega)
  refine ih.trans ?_
  rw [Array.toList_push,List.append_assoc]
  exact List.Perm.append_left _ (jN _ _ _ e)
theorem sd {α : Type} (next:Nat->Nat) (xs:Array α):(pickOrder next xs).toList.Perm xs.toList:=by
 unfold pickOrder
 have:=qK next xs.size 0 xs.toList #[] (by simp)
 simpa using this
section
variable {prog:Program} {w:World} {A:Around} {E:Value->Shared->Prop} {s:Shared}
def walkVals (w:World) (a:Addr) (es:Array (Int × Value)) (ep:Nat):List Value :=
 if w.params.followText "set-order" = true then (pickOrder (w.params.setOrder a ep) es).toList.map (·.2) else es.toList.map (·.2)
theorem lH (w:World) (a:Addr) (es:Array (Int × Value)) (ep:Nat):(walkVals w a es ep).Perm (es.toList.map (·.2)):=by
 unfold walkVals
 split
 ·exact (sd _ _).map _
 ·exact List.Perm.refl _
theorem iK {Q:Bool->Shared->Prop} (h:Q (w.params.followText "set-order") s):wpAny (model prog w) A setsByText Q E s:=by
 unfold setsByText
 exact wpAny_bind (wpAny_askSetting (wpAny_pure h))
theorem pX {a:Addr} {es:Array (Int × Value)} {ep:Nat} {t:SetTable} {Q:Option (Value × Nat)->Shared->Prop} (ho:s.heap.get? a=some (aN es ep t)) (T:Tab t (es.map (·.1))) (hl:t.led = !w.params.followText "set-order") (hp:t.plain=true) {slot i:Nat}
  (hs:w.params.followText "set-order" = false->below t.place slot=i)
  (hy:∀ x slot',(walkVals w a es ep)[i]? = some x->(w.params.followText "set-order" = false->below t.place slot'=i + 1)->Q (some (x,slot')) s)
  (hn:(walkVals w a es ep)[i]? = none->Q none s):wpAny (model prog w) A (setNext a slot i ep) Q E s:=by
 unfold setNext
 refine wpAny_bind (bo ho T ?_)
 dsimp only
 refine wpAny_bind (iK ?_)
 cases hb:w.params.followText "set-order" with
 | true =>
  rw [hb] at hs hy
  simp only [bne_self_eq_false,Bool.false_eq_true,if_true,if_false]
  refine wpAny_bind ?_
  unfold setWalk
  refine wpAny_bind (bo ho T ?_)
  dsimp only
  refine wpAny_bind (iK ?_)
  rw [hb]
  simp only [if_true]
  refine wpAny_bind (wpAny_askSetting (wpAny_pure ?_))
  refine wpAny_pure ?_
  have ew:(walkVals w a es ep)[i]? = ((pickOrder (w.params.setOrder a ep) es)[i]?).map (·.2):=by
   unfold walkVals
   rw [if_pos hb,List.getElem?_map,Array.getElem?_toList]
  show Q (((pickOrder (w.params.setOrder a ep) es)[i]?).map fun e=>(e.2,slot)) s
  cases hx:(pickOrder (w.params.setOrder a ep) es)[i]? with
  | none=>rw [hx] at ew; exact hn ew
  | some e=>rw [hx] at ew; exact hy _ _ ew (fun q=>by cases q)
 | false =>
  have hs':=hs hb
  simp only [Bool.false_eq_true,if_false]
  have ew:(walkVals w a es ep)[i]? = (es[i]?).map (·.2):=by
   unfold walkVals
   rw [if_neg (by rw [hb]; exact Bool.false_ne_true),List.getElem?_map,Array.getElem?_toList]
  show wpAny _ _ (if (!t.plain && decide (es.size > 1))=true then _ else _) _ _ _
  rw [hp]
  simp only [Bool.not_true,Bool.false_and,Bool.false_eq_true,if_false]
  refine wpAny_bind ?_
  show wpAny _ _ (if (!t.led && !es.isEmpty)=true then _ else _) _ _ _
  rw [hl,hb]
  simp only [Bool.not_false,Bool.not_true,Bool.false_and,Bool.false_eq_true,if_false]
  refine wpAny_pure ?_
  rw [hs']
  by_cases hi:i < es.size
  ·have ee:es[i]? = some es[i]:=Array.getElem?_eq_getElem hi
   have hpl:i < t.place.size:=by rw [T.size,Array.size_map]; exact hi
   have ep':t.place[i]? = some t.place[i]:=Array.getElem?_eq_getElem hpl
   rw [ee,ep']
   rw [ee] at ew
   exact wpAny_pure (hy _ _ ew fun _=>pP T.rise ep')
  ·have ee:es[i]? = none:=Array.getElem?_eq_none (by omega)
   rw [ee]
   rw [ee] at ew
   exact wpAny_pure (hn ew)
def iL (h:Heap) (it a:Addr) (slot i n ep:Nat):Prop:=h.get? it=some { cls := .type "set_iterator",data := .fields #[.int slot 0,.int i 0,.ref a,.int n 0,.int ep 0] }
theorem iL.typeIs {it a:Addr} {slot i n ep:Nat} (x:iL s.heap it a slot i n ep):s.TypeIs (.ref it) "set_iterator" := ⟨_,x,rfl⟩
end
open PySem PySem.SetTable PyProof.Rows
section
variable {prog:Program} {w:World} {A:Around} {E:Value->Shared->Prop} {s:Shared}
structure pY (w:World) (h:Heap) (it a:Addr) (es:Array (Int × Value)) (ep i:Nat):Prop where
 st:∃ t slot,h.get? a=some (aN es ep t)/\Tab t (es.map (·.1))/\t.led=(!w.params.followText "set-order")/\t.plain=true/\(w.params.followText "set-order" = false->below t.place slot=i)/\iL h it a slot i es.size ep
theorem qL {it a:Addr} {es:Array (Int × Value)} {ep i:Nat} {Q:Option Value->Shared->Prop} (hh:A.handled=none) (hne:it ≠ a) (O:pY w s.heap it a es ep i)
  (hy:∀ x h',(walkVals w a es ep)[i]? = some x->pY w h' it a es ep (i + 1)->Heap.SameBut it s.heap h'->Q (some x) { s with heap:=h' })
  (hn:(walkVals w a es ep)[i]? = none->∀ h',Heap.ExtBut it s.heap h'->Q none { s with heap:=h' }) :
  wpAny (model prog w) A (pyNext (.ref it)) Q E s:=by
 obtain ⟨t,slot,ho,T,hl,hp,hs,hit⟩:=O.st
 have hf:t.fits es.size=true:=by have:=T.fits; rwa [Array.size_map] at this
 unfold pyNext
 refine wpAny_bind (wpAny_attempt (wpAny_callSpecial?_slot (name:=Str.ofString "__next__") hit.typeIs F9.eC
  (wpAny_call_entry F9.eC hit.typeIs F9.kA ?_ (F9.mN _))))
 show wpAny _ _ (fieldsOf (.ref it) >>= _) _ _ s
 refine wpAny_bind (wpAny_fieldsOf hit rfl ?_)
 show wpAny _ _ (setEntries a >>= _) _ _ s
 refine wpAny_bind (wpAny_setEntries_of ho rfl hf ?_)
 rw [if_neg (by simp)]
 show wpAny _ _ (setNext a ((slot:Int).toNat) ((i:Int).toNat) ((ep:Int).toNat) >>= _) _ _ s
 rw [Int.toNat_natCast,Int.toNat_natCast,Int.toNat_natCast]
 refine wpAny_bind (pX ho T hl hp hs (fun x slot' ex hs' => ?_) fun ex => ?_)
 ·dsimp only
  refine wpAny_bind (wpAny_setField_rec hit (by simp) fun h1 e1 sb1 => ?_)
  refine wpAny_bind (wpAny_setField_rec e1 (by simp) fun h2 e2 sb2 => ?_)
  refine wpAny_pure ⟨x,rfl,wpAny_pure (hy x h2 ex ⟨t,slot',?_,T,hl,hp,hs',?_⟩ (sb1.trans sb2))⟩
  ·rw [(sb1.trans sb2).2 a (Ne.symm hne)]; exact ho
  ·unfold iL
   rw [e2]
   simp [rawInt]
 ·dsimp only
  refine wpAny_bind (wpAny_setField_rec hit (by simp) fun h1 e1 sb1 => ?_)
  show wpAny _ _ (newExc (.type "StopIteration") [] >>= _) _ _ _
  refine wpAny_bind ?_
  simp only [newExc,newTuple]
  refine wpAny_bind (wpAny_newObj_type ?_ (by size_fits))
  refine wpAny_bind (m:=firstArgMember _ _) (wpAny_of_eq (a:=Value.none) (by first | rfl | (simp only [firstArgMember]; rfl)) ?_)
  refine wpAny_newObj_type ?_ (by size_fits)
  simp only [raiseNew]
  refine wpAny_bind (wpAny_handled ?_)
  first | rw [show A.in1.handled=none from hh] | rw [hh]
  refine wpAny_bind (wpAny_pure (wpAny_throw ?_))
  refine wpAny_bind (wpAny_isInstance (T := "StopIteration") (b:=true) ⟨_,Heap.get?_push_size _ rfl,rfl⟩ isSubtype_stop ?_)
  exact wpAny_pure (hn ex _ ((sb1.extBut.push _).push _))
theorem oa {it a S:Addr} {es:Array (Int × Value)} {ep:Nat} {res:Value} {R:Result->Shared->Prop} (hh:A.in1.handled=none) (hne:it ≠ a) (hSI:S ≠ it) (hSa:S ≠ a) (hz:es.size < 300) :
  ∀ (k i:Nat) (h:Heap) (acc:Array Value) (c:Nat),es.size - i=k->i<=es.size->pY w h it a es ep i->h.get? S=some { cls := .type "list",dict:=none,data := .seq acc c,slots := #[] }->acc.toList=(walkVals w a es ep).take i →
  (∀ h' acc' c',(∀ b o,b ≠ S->b ≠ it->h.get? b=some o->h'.get? b=some o)->h'.get? S=some { cls := .type "list",dict:=none,data := .seq acc' c',slots := #[] }->acc'.toList=walkVals w a es ep->R (.ok (.ret res)) { s with heap:=h' }) →
  codeAny (model prog w) A (.builtin "list.extend.loop" ⟨[.ref S,.ref it,res],[]⟩) R { s with heap:=h }:=by
 have lw:(walkVals w a es ep).length=es.size:=by rw [(lH w a es ep).length_eq,List.length_map,Array.length_toList]
 have zl:300<=sizeLine:=by rw [sizeLine_eq]; omega
 intro k
 induction k with
 | zero =>
  intro i h acc c hk hi O hS ha hR
  have hin:i=es.size:=by omega
  subst hin
  refine codeAny_builtin F.entry_extend_loop ?_
  rw [Around.under_plainId F.plain_extend_loop _]
  show wpAny _ A.in1 (pyNext (.ref it) >>= _) _ _ { s with heap:=h }
  refine wpAny_bind (qL hh hne O (fun x h' ex => ?_) fun ex h' xb => ?_)
  ·rw [List.getElem?_eq_none (by omega)] at ex; cases ex
  ·refine wpAny_pure (hR h' acc c (fun b o _ hb e=>xb b o hb e) (xb S _ hSI hS) ?_)
   rw [ha,List.take_of_length_le (by omega)]
 | succ k ih =>
  intro i h acc c hk hi O hS ha hR
  have hlt:i < es.size:=by omega
  refine codeAny_builtin F.entry_extend_loop ?_
  rw [Around.under_plainId F.plain_extend_loop _]
  show wpAny _ A.in1 (pyNext (.ref it) >>= _) _ _ { s with heap:=h }
  refine wpAny_bind (qL hh hne O (fun x h' ex O' sb => ?_) fun ex => ?_)
  ·have hS':h'.get? S=some { cls := .type "list",dict:=none,data := .seq acc c,slots := #[] }:=by rw [sb.2 S hSI]; exact hS
   have hal:acc.size=i:=by rw [<- Array.length_toList,ha,List.length_take]; omega
   show wpAny _ A.in1 (updateSeq S (·.push x) >>= _) _ _ _
   refine wpAny_bind ?_
   refine wpAny_updateSeq (s:={ s with heap:=h' }) hS' rfl (wpAny_pure ⟨plainId_quiet F.plain_extend_loop _,ih (i + 1) _ (acc.push x) _ (by omega) hlt ?_ (Heap.get?_update_self _ hS' rfl) ?_ fun h'' acc' c' kk hS'' ha' => ?_⟩)
    (by rw [hal]; omega) (by show (acc.push x).size<=sizeLine + 1; rw [Array.size_push,hal]; omega)
   ·obtain ⟨t,slot,ho,T,hl,hp,hs,hit⟩:=O'.st
    exact ⟨t,slot,(Heap.get?_update_other _ _ hSa).trans ho,T,hl,hp,hs,(Heap.get?_update_other _ _ hSI).trans hit⟩
   ·rw [Array.toList_push,ha,List.take_succ,ex]; rfl
   ·refine hR h'' acc' c' (fun b o hb hb2 e=>kk b o hb hb2 ?_) hS'' ha'
    refine (Heap.get?_update_other _ _ (Ne.symm hb)).trans ?_
    rw [sb.2 b hb2]; exact e
  ·rw [List.getElem?_eq_getElem (by omega)] at ex; cases ex
theorem og {a:Addr} {es:Array (Int × Value)} {R:List Value->Shared->Prop} (hh:A.handled=none) (I:cQ w s.heap a es) (hz:es.size < 300)
  (h:∀ h1 vs,vs.Perm (es.toList.map (·.2))->(∀ b o,s.heap.get? b=some o->h1.get? b=some o)->s.heap.objs.size<=h1.objs.size->R vs { s with heap:=h1 }) :
  wpAny (model prog w) A (collect (.ref a)) R E s:=by
 obtain ⟨ep,t,ho,T,rm,hl,hp⟩:=I
 have hf:t.fits es.size=true:=by have:=T.fits; rwa [Array.size_map] at this
 have hlt:=Heap.lt_size ho
 unfold collect
 refine wpAny_bind (wpAny_runValue (codeAny_builtin F.entry_proto_collect ?_))
 rw [Around.under_plainId F.plain_proto_collect _]
 show wpAny _ A.in1 (newList [] >>= fun l=>again (.builtin "list.__iadd__" ⟨[l,.ref a],[]⟩)) _ _ s
 refine wpAny_bind (wpAny_newObj_type ?_)
 refine wpAny_pure ⟨plainId_quiet F.plain_list_iadd _,codeAny_builtin F.entry_list_iadd ?_⟩
 rw [Around.under_plainId F.plain_list_iadd _]
 show wpAny _ A.in1 (Builtin.List.listExtendWith (.ref s.heap.objs.size) (.ref a) (.ref s.heap.objs.size)) _ _ _
 unfold Builtin.List.listExtendWith
 have hSa:s.heap.objs.size ≠ a:=Nat.ne_of_gt hlt
 have z1:(s.heap.push { cls := .type "list",data := .seq ([]:List Value).toArray }).objs.size=s.heap.objs.size + 1:=Heap.size_push _ _
 have ho1:(s.heap.push { cls := .type "list",data := .seq ([]:List Value).toArray }).get? a=some (aN es ep t):=Heap.get?_push_of_some _ ho
 have hT1:Shared.TypeIs { s with heap:=s.heap.push { cls := .type "list",data := .seq ([]:List Value).toArray } } (.ref a) "set" := ⟨_,ho1,rfl⟩
 refine wpAny_bind (wpAny_typeOf hT1 ?_)
 have h1:Builtin.List.listSameRef (.ref s.heap.objs.size) (.ref a)=false:=by simp [Builtin.List.listSameRef,hSa]
 have h2:(Value.type "set" == Value.type "list")=false:=by decide
 have h3:(Value.type "set" == Value.type "tuple")=false:=by decide
 simp only [h1,h2,h3,Bool.or_false,Bool.false_eq_true,if_false]
 refine wpAny_bind (wpAny_pyIter_slot hT1 F.slot_set_iter (wpAny_call_entry F.slot_set_iter hT1 F9.jM ?_ (F.args_set_iter_1 _)))
 unfold Builtin.«frozenset.__iter__» Builtin.Frozenset.slot0 slotArgs
 simp only [List.isEmpty_nil,Bool.not_true,Bool.false_eq_true, ↓reduceIte,bind_assoc,List.length_nil,bne_self_eq_false]
 unfold Builtin.Frozenset.addrOf Builtin.Frozenset.sizeOf
 refine wpAny_bind (wpAny_pure ?_)
 try dsimp only
 refine wpAny_bind (wpAny_pure ?_)
 refine wpAny_bind (wpAny_bind (wpAny_setEntries_of ho1 rfl hf (wpAny_pure ?_)))
 refine wpAny_bind ?_
 unfold setDrawn
 refine wpAny_bind (bo ho1 T ?_)
 dsimp only
 refine wpAny_bind (iK ?_)
 show wpAny _ _ (pure (!w.params.followText "set-order" && (!t.plain && decide (es.size > 1)))) _ _ _
 rw [hp]
 simp only [Bool.not_true,Bool.false_and,Bool.and_false]
 refine wpAny_pure ?_
 simp only [Bool.false_eq_true,if_false]
 refine wpAny_bind (wpAny_pure ?_)
 refine wpAny_bind (wpAny_setEpoch_of ho1 rfl hf ?_)
 refine wpAny_bind (wpAny_newObj_type (wpAny_pure ⟨_,rfl, "set_iterator",_,⟨_,Heap.get?_push_size _ rfl,rfl⟩,F9.eC.lookup,?_⟩))
 have zit:(s.heap.push { cls := .type "list",data := .seq ([]:List Value).toArray }).objs.size=s.heap.objs.size + 1:=z1
 show wpAny _ A.in1 (holding [.ref (s.heap.push { cls := .type "list",data := .seq ([]:List Value).toArray }).objs.size] (Builtin.List.listLengthHint (.ref a)) >>= _) _ _ { s with heap:=(s.heap.push { cls := .type "list",data := .seq ([]:List Value).toArray }).push { cls := .type "set_iterator",data := .fields #[rawInt 0,rawInt 0,.ref a,rawInt es.size,rawInt ep] } }
 rw [zit]
 generalize hH:(s.heap.push { cls := .type "list",data := .seq ([]:List Value).toArray }).push { cls := .type "set_iterator",data := .fields #[rawInt 0,rawInt 0,.ref a,rawInt es.size,rawInt ep] }=H
 have kH:∀ b o,(s.heap.push { cls := .type "list",data := .seq ([]:List Value).toArray }).get? b=some o->H.get? b=some o:=fun b o e=>by rw [<- hH]; exact Heap.get?_push_of_some _ e
 have zH:H.objs.size=s.heap.objs.size + 2:=by rw [<- hH,Heap.size_push,z1]
 have hit:iL H (s.heap.objs.size + 1) a 0 0 es.size ep:=by
  unfold iL
  rw [<- hH, <- z1]
  exact Heap.get?_push_size _ rfl
 have hT2:Shared.TypeIs { s with heap:=H } (.ref a) "set" := ⟨_,kH _ _ ho1,rfl⟩
 refine wpAny_bind (wpAny_holding ?_)
 unfold Builtin.List.listLengthHint
 refine wpAny_bind (wpAny_specialOf hT2 F.slot_set_len.lookup ?_)
 dsimp only
 rw [show splitId "set.__len__" = some ("set", "__len__") by kernel_rfl]
 dsimp only
 refine wpAny_bind (wpAny_isInstance hT2 sub_set_self ?_)
 simp only [Bool.not_true,Bool.false_eq_true,if_false]
 show wpAny _ _ (typeOf (.ref a) >>= _) _ _ _
 refine wpAny_bind (wpAny_typeOf hT2 ?_)
 refine wpAny_pure ?_
 show wpAny _ A.in1 (rule "list.extend.makes-room" >>= fun _=>Builtin.List.listTouch (.ref s.heap.objs.size) >>= fun _ =>
  again (.builtin "list.extend.loop" ⟨[.ref s.heap.objs.size,.ref (s.heap.objs.size + 1),.ref s.heap.objs.size],[]⟩)) _ _ _
 refine wpAny_bind (wpAny_rule ?_)
 have hS₁:H.get? s.heap.objs.size=some { cls := .type "list",data := .seq ([]:List Value).toArray }:=kH _ _ (Heap.get?_push_size _ rfl)
 refine wpAny_bind ?_
 show wpAny _ A.in1 (updateSeq s.heap.objs.size (·.push .none) >>= fun _=>updateSeq s.heap.objs.size (·.pop)) _ _ _
 refine wpAny_bind (wpAny_updateSeq (s:={ s with heap:=H }) hS₁ rfl ?_)
 have hS₂:=Heap.get?_update_self (Obj.mapSeq (·.push Value.none)) hS₁ rfl
 refine wpAny_updateSeq hS₂ rfl ?_
 have hS₃:=Heap.get?_update_self (Obj.mapSeq (·.pop)) hS₂ rfl
 have oth:∀ b o,b ≠ s.heap.objs.size->H.get? b=some o->((H.update s.heap.objs.size (Obj.mapSeq (·.push Value.none))).update s.heap.objs.size (Obj.mapSeq (·.pop))).get? b=some o :=
  fun b o hb e=>(Heap.get?_update_other _ _ (Ne.symm hb)).trans ((Heap.get?_update_other _ _ (Ne.symm hb)).trans e)
 refine wpAny_pure ⟨plainId_quiet F.plain_extend_loop _,oa (it:=s.heap.objs.size + 1) (a:=a) (es:=es) (ep:=ep) (s:=s) hh (Nat.ne_of_gt (Nat.lt_succ_of_lt hlt)) (Nat.ne_of_lt (Nat.lt_succ_self _)) hSa hz es.size 0 _ _ _ rfl (Nat.zero_le _)
  ⟨t,0,oth a _ (Ne.symm hSa) (kH _ _ ho1),T,hl,hp,fun _=>pQ T.rise,oth _ _ (Nat.ne_of_gt (Nat.lt_succ_self _)) hit⟩ hS₃ rfl fun h' acc' c' kk hS' ha => ?_⟩
 show wpAny _ A (load s.heap.objs.size >>= _) _ _ { s with heap:=h' }
 refine wpAny_bind (wpAny_load hS' ?_)
 have kf:∀ b o,s.heap.get? b=some o->h'.get? b=some o:=fun b o e=>by
  have:=Heap.lt_size e
  exact kk b o (Nat.ne_of_lt this) (Nat.ne_of_lt (Nat.lt_succ_of_lt this)) (oth b o (Nat.ne_of_lt this) (kH b o (Heap.get?_push_of_some _ e)))
 refine wpAny_pure ?_
 rw [ha]
 exact h h' _ (lH w a es ep) kf (Nat.le_of_lt (Heap.lt_size hS'))
end
open PySem PySem.SetTable PyProof.Rows Srt
def Kd.sub {prog:Program} {w:World} {κ : Type} (kd:Kd prog w κ) (M:Value->Prop):Kd prog w κ where
 El:=fun h v k=>kd.El h v k/\M v
 hash:=kd.hash
 room:=kd.room
 keeps:=fun x t=>⟨kd.keeps x.1 t,x.2⟩
 inj:=fun x y=>kd.inj x.1 y.1
 add:=by
  intro A E s a es v k Q hr I els hv hz hin hnew
  refine kd.add hr I (fun e he => ?_) hv.1 hz (fun x tk htk=>hin ?_ tk htk) fun x h' es' tk htk sb I' pm=>hnew ?_ h' es' tk htk sb I' pm
  ·obtain ⟨k',a1,a2,a3⟩:=els e he; exact ⟨k',a1,a2⟩
  ·obtain ⟨e,he,y⟩:=x
   obtain ⟨k',a1,a2,a3⟩:=els e he
   exact ⟨e,he,y,a3⟩
  ·rintro ⟨e,he,y,_⟩; exact x ⟨e,he,y⟩
section
variable {prog:Program} {w:World} {A:Around} {E:Value->Shared->Prop} {s:Shared} {O:KeyOrd} {key:Value->O.α}
theorem jP {a:Addr} {es:Array (Int × Value)} {Q:Value->Shared->Prop} (hh:A.handled=none) (I:cQ w s.heap a es) (hz:es.size < 300) (C:∀ vs:List Value,vs.Perm (es.toList.map (·.2))->gK prog w s vs O key)
  (h:∀ (h':Heap) (p:Addr) (out:List Value) (n:Nat),(∀ b o,s.heap.get? b=some o->h'.get? b=some o)->s.heap.objs.size<=p->h'.get? p=some (seqObj "list" out.toArray n)->out.Perm (es.toList.map (·.2))->out.Pairwise (fun x y=>O.kle (key x) (key y))->Q (.ref p) { s with heap:=h' }) :
  wpAny (model prog w) A (call (.builtin "sorted") [.ref a]) Q E s:=by
 refine Calls.call_function_entry kind_sorted plain_sorted entry_sorted (args_sorted1 _) ?_
 unfold Builtin.«sorted»
 refine wpAny_bind (m:=checkCount "sorted" 1 1 _) (wpAny_pure ?_)
 refine wpAny_bind (og (by simpa using hh) I hz fun h1 vs pv k1 z1 => ?_)
 have hz':vs.length<=sizeLine:=by
  rw [pv.length_eq,List.length_map,Array.length_toList]
  have:300<=sizeLine:=by rw [sizeLine_eq]; omega
  omega
 refine wpAny_bind (wpAny_newList ?_ hz')
 have hoL:(h1.push (seqObj "list" vs.toArray 0)).get? h1.objs.size=some (seqObj "list" vs.toArray 0):=Heap.get?_push_size _ rfl
 have kL:∀ b o,s.heap.get? b=some o->(h1.push (seqObj "list" vs.toArray 0)).get? b=some o:=fun b o e=>Heap.get?_push_of_some _ (k1 b o e)
 refine wpAny_bind (wpAny_holding (wpAny_call_entry slot_list_sort ⟨_,hoL,rfl⟩ entry_list_sort (dB (key:=key) (O:=O) hoL hz' (fun h2 h6 k6 => ?_) fun out pm ps=>⟨_,rfl,?_⟩) (args_list_sort _)))
 ·exact (C vs pv).ok h2 _ h6 fun b o e=>k6 b o (Nat.ne_of_lt (Nat.lt_of_lt_of_le (Heap.lt_size e) z1)) (kL b o e)
 ·obtain ⟨n,en⟩:=sortedHeap_at (out:=out.toArray) hoL
  refine wpAny_pure ⟨_,rfl,h _ _ out n (fun b o e => ?_) z1 en (pm.trans pv) ps⟩
  have lt:=Nat.lt_of_lt_of_le (Heap.lt_size e) z1
  rw [sortedHeap_old (Nat.ne_of_lt lt) (by rw [size_push']; exact Nat.lt_succ_of_lt lt)]
  exact kL b o e
end
end STab
namespace L2
open PySem PySem.Spec PyProof.Rows
section
variable {X:Cx}
def bO (w:World) (a:Addr) (ys:List V):HO := .ext fun h=>∃ es,STab.cQ w h a es/\Vals ys (es.toList.map (·.2))
theorem qM {prog:Program} {w:World} {H:Hp} {h:Heap} {a:Addr} {ys:List V} {es:Array (Int × Value)} (I:STab.cQ w h a es) (r:Vals ys (es.toList.map (·.2))):aY prog w (upd H a (bO w a ys)) h a (bO w a ys):=by
 refine ⟨⟨es,I,r⟩,?_,fun h1 h2 ⟨es',I',r'⟩ k=>⟨es',I'.at k,r'⟩⟩
 obtain ⟨ep,t,ho,_⟩:=I
 exact ⟨_,ho⟩
theorem oj:∀ {ns:List Int} {xs:List Value} {prog:Program} {w:World},IntsAre xs ns->ItemsAre (intKind prog w) ns xs
 | _,_,_,_,.nil => .nil
 | _,_,_,_,.cons n t r => .cons (intKind_is _ _ _ _) (oj r)
theorem Inv.tk {pins:List (Addr × Obj)} {σ:St} {H:Hp} {s:Shared} (I:Inv X pins σ H s) {b:Addr} {ns:List Int} (h:SqT X.K H b (ns.map V.int)):STab.TK X.prog X.w s.heap ns b:=by
 obtain ⟨its,r,⟨o,e,c,n,d⟩,_⟩:=I.tuple h
 exact ⟨o,_,n,e,c,d,oj (by simpa using bG r)⟩
theorem pull {α β : Type} {f : α -> β} {ts:List α}:∀ {l:List β},(∀ v ∈ l,∃ t ∈ ts,v=f t)->∃ us:List α,l=us.map f/\∀ t ∈ us,t ∈ ts
 | [],_=>⟨[],rfl,fun t h=>by cases h⟩
 | v :: l,h=>by
  obtain ⟨t,ht,e⟩:=h v List.mem_cons_self
  obtain ⟨us,e2,m⟩:=pull (l:=l) fun v' hv=>h v' (List.mem_cons_of_mem _ hv)
  refine ⟨t :: us,by rw [List.map_cons, <- e, <- e2],fun t' ht' => ?_⟩
  rcases List.mem_cons.mp ht' with rfl | h'
  ·exact ht
  ·exact m _ h'
theorem se (hh:X.A.handled=none) (hu:X.A.units + 64 < cLine):bu X (.type "set") (fun xs H Q=>∃ (p:Addr) (ts:List (Addr × List Int)),xs=[.ref p]/\(SqL X.K H p (ts.map fun t => .ref t.1)\/SqT X.K H p (ts.map fun t => .ref t.1))/\(∀ t ∈ ts,SqT X.K H t.1 (t.2.map V.int))/\ts.length < 300 ∧
  ∀ (a:Addr) (us:List (Addr × List Int)),H a=none->(∀ t ∈ us,t ∈ ts)->(us.map (·.2)).Nodup->(∀ t ∈ ts,t.2 ∈ us.map (·.2))->us.length<=ts.length->Q (.ref a) (upd H a (bO X.w a (us.map fun t => .ref t.1)))):=by
 intro pins s σ H xs vs Q I r h
 obtain ⟨p,ts,rfl,hs,ht,hl,q⟩:=h
 obtain ⟨u,rfl,ru⟩:=vals1 r
 cases (show u=Value.ref p from ru)
 have goal:∀ (items:Array Value),items.toList=(ts.map fun t=>Value.ref t.1)->∀ (h':Heap) (es:Array (Int × Value)) (tk:Nat),s.toks<=tk->STab.cQ X.w h' s.heap.objs.size es->STab.Good ((STab.i3 X.prog X.w).sub (· ∈ items.toList)) h' es (ts.map (·.2)) →
   (∀ b o,s.heap.get? b=some o->h'.get? b=some o)->EP X pins σ Q (.ref s.heap.objs.size) { s with heap:=h',toks:=tk }:=by
  intro items ei h' es tk _ S G k
  obtain ⟨us,eu,mu⟩:=pull (f:=fun t:Addr × List Int=>Value.ref t.1) (ts:=ts) (l:=es.toList.map (·.2)) (fun v hv=>by
   obtain ⟨e,he,rfl⟩:=List.mem_map.mp hv
   obtain ⟨_,_,_,_,m⟩:=G.el e (Array.mem_toList_iff.mp he)
   rw [ei] at m
   obtain ⟨t,ht',e'⟩:=List.mem_map.mp m
   exact ⟨t,ht',e'.symm⟩)
  have tk':∀ t ∈ us,STab.TK X.prog X.w h' t.2 t.1:=fun t m=>(I.tk (ht t (mu t m))).keep fun b o _ e=>k b o e
  have elu:∀ t ∈ us,((STab.i3 X.prog X.w).sub (· ∈ items.toList)).El h' (.ref t.1) t.2:=fun t m=>⟨⟨t.1,rfl,tk' t m⟩,by
   rw [ei]; exact List.mem_map.mpr ⟨t,mu t m,rfl⟩⟩
  have nd:(us.map (·.2)).Nodup:=by
   have d:=G.dis
   have d2:(es.toList.map (·.2)).Pairwise (fun v v'=>∀ k,((STab.i3 X.prog X.w).sub (· ∈ items.toList)).El h' v k->¬ ((STab.i3 X.prog X.w).sub (· ∈ items.toList)).El h' v' k):=by
    rw [List.pairwise_map]; exact d
   rw [eu,List.pairwise_map] at d2
   unfold List.Nodup
   rw [List.pairwise_map]
   refine d2.imp_of_mem fun {t t'} m m' x e=>x t.2 (elu t m) ?_
   have:=elu t' m'
   rw [<- e] at this
   exact this
  have cov:∀ t ∈ ts,t.2 ∈ us.map (·.2):=fun t m=>by
   obtain ⟨e,he,x,_⟩:=G.all t.2 (List.mem_map.mpr ⟨t,m,rfl⟩)
   have:e.2 ∈ us.map fun t=>Value.ref t.1:=by rw [<- eu]; exact List.mem_map.mpr ⟨e,Array.mem_toList_iff.mpr he,rfl⟩
   obtain ⟨u,hu',e'⟩:=List.mem_map.mp this
   obtain ⟨b,eb,x⟩:=x
   rw [<- e'] at eb
   injection eb with eb
   subst eb
   exact List.mem_map.mpr ⟨u,hu',(tk' u hu').inj x⟩
  have hlen:us.length<=ts.length:=by
   have:=G.len
   rw [List.length_map] at this
   have e2:=congrArg List.length eu
   rw [List.length_map,List.length_map,Array.length_toList] at e2
   omega
  refine ⟨.ref s.heap.objs.size,_,I.laid k (Nat.le_refl _) (qM (ys:=us.map fun t=>V.ref t.1) S (by rw [eu]; exact fO)),rfl,q _ us (I.hok.fresh (Nat.le_refl _)) mu nd cov hlen⟩
 have rm:((STab.i3 X.prog X.w).sub (fun v=>True)).room X.A.in1.in1.in1:=by show X.A.units + 1 + 1 + 1 < cLine; omega
 have itm:∀ (its:List Value),its=(ts.map fun t=>Value.ref t.1)->∀ (i:Nat) (v:Value),its.toArray[i]? = some v->∃ q,(ts.map (·.2))[i]? = some q/\((STab.i3 X.prog X.w).sub (· ∈ its.toArray.toList)).El s.heap v q:=by
  intro its ei i v hv
  rw [List.getElem?_toArray,ei,List.getElem?_map] at hv
  cases ht':ts[i]? with
  | none=>rw [ht'] at hv; cases hv
  | some t =>
   rw [ht'] at hv
   cases hv
   have m:=List.mem_of_getElem? ht'
   refine ⟨t.2,by rw [List.getElem?_map,ht']; rfl,⟨t.1,rfl,I.tk (ht t m)⟩,?_⟩
   show Value.ref t.1 ∈ its
   rw [ei]
   exact List.mem_map.mpr ⟨t,m,rfl⟩
 rcases hs with hs | hs
 ·obtain ⟨its,rv,⟨o,n,e,c,dn,d⟩,z⟩:=I.list hs
  have ei:=dF rv
  have lz:its.length=ts.length:=by rw [ei,List.length_map]
  refine STab.call_set_list (kd:=(STab.i3 X.prog X.w).sub (· ∈ its.toArray.toList)) (items:=its.toArray) (ks:=ts.map (·.2)) hh rm ⟨o,e,c,n,d⟩ (by simp [lz]) (fun i v hv => ?_) (by simpa [lz] using hl) (goal its.toArray (by simpa using ei))
  exact itm its ei i v hv
 ·obtain ⟨its,rv,⟨o,e,c,n,d⟩,z⟩:=I.tuple hs
  have ei:=dF rv
  have lz:its.length=ts.length:=by rw [ei,List.length_map]
  refine STab.fe (kd:=(STab.i3 X.prog X.w).sub (· ∈ its.toArray.toList)) (items:=its.toArray) (ks:=ts.map (·.2)) hh rm ⟨o,e,c,n,d⟩ (by simp [lz]) (fun i v hv => ?_) (by simpa [lz] using hl) (goal its.toArray (by simpa using ei))
  exact itm its ei i v hv
theorem lI (hh:X.A.handled=none):bu X (.type "set") (fun xs H Q=>∃ (p:Addr) (ns:List Int),xs=[.ref p]/\(SqL X.K H p (ns.map V.int)\/SqT X.K H p (ns.map V.int))/\ns.length < 300 ∧
  ∀ (a:Addr) (us:List Int),H a=none->(∀ k,k ∈ us ↔ k ∈ ns)->us.Nodup->us.length<=ns.length->Q (.ref a) (upd H a (bO X.w a (us.map V.int)))):=by
 intro pins s σ H xs vs Q I r h
 obtain ⟨p,ns,rfl,hs,hl,q⟩:=h
 obtain ⟨u,rfl,ru⟩:=vals1 r
 cases (show u=Value.ref p from ru)
 have goal:∀ (h':Heap) (es:Array (Int × Value)) (tk:Nat),s.toks<=tk->STab.cQ X.w h' s.heap.objs.size es->STab.Good (STab.qI X.prog X.w) h' es ns →
   (∀ b o,s.heap.get? b=some o->h'.get? b=some o)->EP X pins σ Q (.ref s.heap.objs.size) { s with heap:=h',toks:=tk }:=by
  intro h' es tk _ S G k
  have sh:∀ v ∈ es.toList.map (·.2),∃ k t,v=Value.int k t:=fun v hv=>by
   obtain ⟨e,he,rfl⟩:=List.mem_map.mp hv
   obtain ⟨k',_,_,t,e'⟩:=G.el e (Array.mem_toList_iff.mp he)
   exact ⟨k',t,e'⟩
  have ru:=cO (ck sh)
  have mem:∀ k,k ∈ (es.toList.map (·.2)).map Srt.intOf ↔ k ∈ ns:=fun k=>by
   constructor
   ·intro m
    obtain ⟨v,hv,rfl⟩:=List.mem_map.mp m
    obtain ⟨e,he,rfl⟩:=List.mem_map.mp hv
    obtain ⟨k',mk,_,t,e'⟩:=G.el e (Array.mem_toList_iff.mp he)
    rw [e']; exact mk
   ·intro m
    obtain ⟨e,he,t,e'⟩:=G.all k m
    exact List.mem_map.mpr ⟨e.2,List.mem_map.mpr ⟨e,Array.mem_toList_iff.mpr he,rfl⟩,by rw [e']; rfl⟩
  have nd:((es.toList.map (·.2)).map Srt.intOf).Nodup:=by
   unfold List.Nodup
   rw [List.pairwise_map,List.pairwise_map]
   refine G.dis.imp_of_mem fun {e e'} m m' x y => ?_
   obtain ⟨k1,_,_,t1,e1⟩:=G.el e (Array.mem_toList_iff.mp m)
   obtain ⟨k2,_,_,t2,e2⟩:=G.el e' (Array.mem_toList_iff.mp m')
   rw [e1,e2] at y
   have y':k1=k2:=y
   subst y'
   exact x k1 ⟨t1,e1⟩ ⟨t2,e2⟩
  refine ⟨.ref s.heap.objs.size,_,I.laid k (Nat.le_refl _) (qM S ru),rfl,q _ _ (I.hok.fresh (Nat.le_refl _)) mem nd (by rw [List.length_map,List.length_map,Array.length_toList]; exact G.len)⟩
 have itm:∀ (its:List Value),Vals (ns.map V.int) its->∀ (i:Nat) (v:Value),its.toArray[i]? = some v->∃ q,ns[i]? = some q/\(STab.qI X.prog X.w).El s.heap v q:=by
  intro its rv i v hv
  have hI:=bG rv
  obtain ⟨t,e⟩:=IntsAre.int_at hI i v (by rw [List.getElem?_toArray] at hv; exact hv)
  have hlt:i < ns.length:=by
   have:=hI.length
   rw [List.getElem?_toArray] at hv
   have:=(List.getElem?_eq_some_iff.mp hv).1
   omega
  refine ⟨ns.getD i 0,?_,t,e⟩
  rw [List.getD_eq_getElem?_getD,List.getElem?_eq_getElem hlt]
  rfl
 rcases hs with hs | hs
 ·obtain ⟨its,rv,⟨o,n,e,c,dn,d⟩,z⟩:=I.list hs
  have lz:its.length=ns.length:=by have:=rv.length; rw [List.length_map] at this; exact this.symm
  exact STab.call_set_list (kd:=STab.qI X.prog X.w) (items:=its.toArray) (ks:=ns) hh trivial ⟨o,e,c,n,d⟩ (by simp [lz]) (itm its rv) (by simpa [lz] using hl) goal
 ·obtain ⟨its,rv,⟨o,e,c,n,d⟩,z⟩:=I.tuple hs
  have lz:its.length=ns.length:=by have:=rv.length; rw [List.length_map] at this; exact this.symm
  exact STab.fe (kd:=STab.qI X.prog X.w) (items:=its.toArray) (ks:=ns) hh trivial ⟨o,e,c,n,d⟩ (by simp [lz]) (itm its rv) (by simpa [lz] using hl) goal
theorem Inv.bO {pins:List (Addr × Obj)} {σ:St} {H:Hp} {s:Shared} (I:Inv X pins σ H s) {a:Addr} {ys:List V} (h:H a=some (bO X.w a ys)):∃ es,STab.cQ X.w s.heap a es/\Vals ys (es.toList.map (·.2)):=by
 exact (I.hok a _ h).1
theorem kB (hh:X.A.handled=none):bu X (.builtin "sorted") (fun xs H Q=>∃ (a:Addr) (ns:List Int),xs=[.ref a]/\H a=some (bO X.w a (ns.map V.int))/\ns.length < 300/\∀ (l:Addr) (out:List Int),H l=none->out.Perm ns->out.Pairwise (· <= ·)->Q (.ref l) (upd H l (.lst (out.map V.int)))):=by
 intro pins s σ H xs us Q I r h
 obtain ⟨a,ns,rfl,hs,hl,q⟩:=h
 obtain ⟨u,rfl,ru⟩:=vals1 r
 cases (show u=Value.ref a from ru)
 obtain ⟨es,S,rv⟩:=I.bO hs
 have hI:=bG rv
 have lz:es.size=ns.length:=by have:=rv.length; simp at this; omega
 have sh:∀ v ∈ es.toList.map (·.2),∃ i t,v=Value.int i t:=fun v hv=>Srt.eZ hI v hv
 refine STab.jP (O:=Srt.mF) (key:=Srt.intOf) hh S (by omega) (fun vs pv=>Srt.eA (ck fun v hv=>sh v (pv.mem_iff.mp hv))) fun h' l out m k hl' el pm ps => ?_
 have hO:=ck fun v hv=>sh v (pm.mem_iff.mp hv)
 have pm':(out.map Srt.intOf).Perm ns:=by
  have:=pm.map Srt.intOf
  rw [Srt.ints_map hI] at this
  exact this
 have z:ns.length<=sizeLine:=by have:300<=sizeLine:=(by rw [sizeLine_eq]; omega); omega
 refine ⟨.ref l,_,I.newList k hl' el (cO hO) (by rw [List.length_map,pm'.length_eq]; exact z),rfl,q l _ (I.hok.fresh hl') pm' ?_⟩
 refine List.pairwise_map.mpr (ps.imp fun {x y} le => ?_)
 have le':decide (Srt.intOf y < Srt.intOf x)=false:=le
 have:=of_decide_eq_false le'
 omega
theorem kC (hh:X.A.handled=none):bu X (.builtin "sorted") (fun xs H Q=>∃ (a:Addr) (ts:List (Addr × List Int)),xs=[.ref a]/\H a=some (bO X.w a (ts.map fun t => .ref t.1))/\(∀ t ∈ ts,SqT X.K H t.1 (t.2.map V.int)/\t.2 ≠ [])/\ts.length < 300 ∧
  ∀ (l:Addr) (out:List (Addr × List Int)),H l=none->out.Perm ts->out.Pairwise (fun a b=>HT.lexLt b.2 a.2=false)->Q (.ref l) (upd H l (.lst (out.map fun t => .ref t.1)))):=by
 intro pins s σ H xs us Q I r h
 obtain ⟨a,ts,rfl,hs,ht,hl,q⟩:=h
 obtain ⟨u,rfl,ru⟩:=vals1 r
 cases (show u=Value.ref a from ru)
 obtain ⟨es,S,rv⟩:=I.bO hs
 have ei:=dF rv
 have lz:es.size=ts.length:=by have:=rv.length; simp at this; omega
 have tup:∀ t ∈ ts,Srt.da s.heap (Value.ref t.1) t.2:=fun t hm=>by
  obtain ⟨jts,jr,⟨jo,je,jc,jn,jd⟩,_⟩:=I.tuple (ht t hm).1
  exact ⟨t.1,jo,_,jn,rfl,je,jc,jd,by simpa using bG jr⟩
 have hv:∀ v ∈ es.toList.map (·.2),∃ ns,Srt.da s.heap v ns/\ns ≠ []:=fun v hv=>by
  rw [ei] at hv
  obtain ⟨t,hm,rfl⟩:=List.mem_map.mp hv
  exact ⟨t.2,tup t hm,(ht t hm).2⟩
 refine STab.jP (O:=Srt.lexOrd) (key:=Srt.cy s.heap) hh S (by omega) (fun vs pv=>Srt.gM fun v hm=>hv v (pv.mem_iff.mp hm)) fun h' l out m k hl' el pm ps => ?_
 rw [ei] at pm
 obtain ⟨out',pm',rfl⟩:=jJ pm
 have z:ts.length<=sizeLine:=by have:300<=sizeLine:=(by rw [sizeLine_eq]; omega); omega
 refine ⟨.ref l,_,I.newList k hl' el fO (by rw [List.length_map,pm'.length_eq]; exact z),rfl,q l _ (I.hok.fresh hl') pm' ?_⟩
 refine (List.pairwise_map.mp ps).imp_of_mem fun {a b} ha hb le => ?_
 have le':HT.lexLt (Srt.cy s.heap (Value.ref b.1)) (Srt.cy s.heap (Value.ref a.1))=false:=le
 rw [(tup a (pm'.mem_iff.mp ha)).ints,(tup b (pm'.mem_iff.mp hb)).ints] at le'
 exact le'
end
open PySem PySem.Spec PyProof.Rows
section
variable {X:Cx} {w:World}
theorem pZ (hw:X.w=w) (hh:X.A.handled=none) (hu:X.A.units + 64 < cLine):bu X (.type "set") (fun xs H Q=>∃ (p:Addr) (ts:List (Addr × List Int)),xs=[.ref p]/\(SqL X.K H p (ts.map fun t => .ref t.1)\/SqT X.K H p (ts.map fun t => .ref t.1))/\(∀ t ∈ ts,SqT X.K H t.1 (t.2.map V.int))/\ts.length < 300 ∧
  ∀ (a:Addr) (us:List (Addr × List Int)),H a=none->(∀ t ∈ us,t ∈ ts)->(us.map (·.2)).Nodup->(∀ t ∈ ts,t.2 ∈ us.map (·.2))->us.length<=ts.length->Q (.ref a) (upd H a (bO w a (us.map fun t => .ref t.1)))):=by
 subst hw
 exact se hh hu
theorem gi (hw:X.w=w) (hh:X.A.handled=none):bu X (.type "set") (fun xs H Q=>∃ (p:Addr) (ns:List Int),xs=[.ref p]/\(SqL X.K H p (ns.map V.int)\/SqT X.K H p (ns.map V.int))/\ns.length < 300 ∧
  ∀ (a:Addr) (us:List Int),H a=none->(∀ k,k ∈ us ↔ k ∈ ns)->us.Nodup->us.length<=ns.length->Q (.ref a) (upd H a (bO w a (us.map V.int)))):=by
 subst hw
 exact lI hh
theorem de (hw:X.w=w) (hh:X.A.handled=none):bu X (.builtin "sorted") (fun xs H Q=>∃ (a:Addr) (ns:List Int),xs=[.ref a]/\H a=some (bO w a (ns.map V.int))/\ns.length < 300/\∀ (l:Addr) (out:List Int),H l=none->out.Perm ns->out.Pairwise (· <= ·)->Q (.ref l) (upd H l (.lst (out.map V.int)))):=by
 subst hw
 exact kB hh
theorem jQ (hw:X.w=w) (hh:X.A.handled=none):bu X (.builtin "sorted") (fun xs H Q=>∃ (a:Addr) (ts:List (Addr × List Int)),xs=[.ref a]/\H a=some (bO w a (ts.map fun t => .ref t.1))/\(∀ t ∈ ts,SqT X.K H t.1 (t.2.map V.int)/\t.2 ≠ [])/\ts.length < 300 ∧
  ∀ (l:Addr) (out:List (Addr × List Int)),H l=none->out.Perm ts->out.Pairwise (fun a b=>HT.lexLt b.2 a.2=false)->Q (.ref l) (upd H l (.lst (out.map fun t => .ref t.1)))):=by
 subst hw
 exact kC hh
end
open PySem PySem.Spec PyProof.Rows
section
variable {X:Cx}
def tBMT (r:V->List V->Hp->VK->Prop) (to:TE) (t:TA):TE:=fun σ H Q=>to σ H fun x H1=>(∃ p xs,x = .ref p/\H1 p=some (.tup xs))/\t σ H1 fun xs H2=>r x xs H2 Q
theorem yD {o e:Expr} {es:List Expr} {to:TE} {t:TA} {name:Str} {apos cpos:Pos} {id:String} {r:V->List V->Hp->VK->Prop} (slot:Slot "tuple" name id) (hty:typeOf (.builtin id)=pure (.type "method_descriptor")) (hm:MtR X id r) (ho:PE X o to) (ha:PA X (e :: es) t)
  (hbase:attributeBase o name X.env (eval o X.env)=eval o X.env:=by rfl)
  (hfew:((backTo cpos (starEach (e :: es) X.env)).all (fun x => !x.1) && (backToKw cpos (keywordEach [] X.env)).all (fun x=>x.1.isSome)
   && decide ((e :: es).length + ([]:List Keyword).length + (if ([]:List Keyword).isEmpty then 0 else 1) < 30))=true:=by rfl)
  (hline:(apos.endLine == cpos.line)=true:=by rfl) (hs:starEach (e :: es) X.env=(false,eval e X.env) :: starEach es X.env:=by rfl) (hplain:(backTo cpos (starEach es X.env)).any (·.1)=false:=by rfl) :
  PE X (.Call (.Attribute o name apos) (e :: es) [] cpos) (tBMT r to t):=by
 intro pins s σ H Q I h
 refine wpAny_Call_method_late hbase hfew hline rfl (thn (ho pins s σ H _ I h) fun v s1 ⟨x,H1,I1,r1,ty,q1⟩ => ?_)
 obtain ⟨p,xs,rfl,hp⟩:=ty
 cases (show v=Value.ref p from r1)
 obtain ⟨_,its,_,ob,e1,⟨c1,d1⟩,n,s1'⟩:=(show aY X.prog X.w H1 s1.heap p (.tup xs) from I1.hok p _ hp)
 refine ⟨"tuple",id,PySem.F.plainAttrs_tuple,slot,hty,⟨ob,e1,c1⟩,fun a e=>by cases e; exact ⟨ob,e1,d1⟩,?_⟩
 have hA:=ha cpos pins s1 σ H1 _ I1 q1
 rw [hs] at hA ⊢
 refine Calls.callWith_builtin (by show (false || (backTo cpos (starEach es X.env)).any (·.1))=false; rw [hplain] <;> rfl) (Calls.evalArgs_plain ?_)
 exact thn hA fun us s2 ⟨vs,H2,I2,r2,q2⟩=>hm pins s2 σ H2 (.ref p) vs _ us Q I2 rfl r2 q2
theorem sf {A:Around} {s:Shared} {k:Int} {t:Tok} {its:List Value} {ns:List Int} (hi:IntsAre its ns):∀ y,y ∈ its.toArray->SeqAt.EqAt A s y (.int k t) (isInt k y):=fun y hy =>
 (eq_isInt k t hi y (by simpa using hy)).at _ _
theorem sg:MtR X "tuple.count" (fun x vs H Q=>∃ (p:Addr) (ns:List Int) (k:Int),x = .ref p/\vs=[.int k]/\H p=some (.tup (ns.map V.int))/\Q (.int (ns.count k:Nat)) H):=by
 intro pins s σ H x vs v us Q I rx rv h
 obtain ⟨p,ns,k,rfl,rfl,hp,q⟩:=h
 cases rx
 obtain ⟨u,rfl,⟨t,rfl⟩⟩:=vals1 rv
 obtain ⟨z,its,r,ob,e1,⟨c1,d1⟩,n,s1⟩:=(show aY X.prog X.w H s.heap p (.tup _) from I.hok p _ hp)
 have hi:IntsAre its ns:=intsAre_of r
 obtain ⟨cls,dd,data,sl⟩:=ob
 simp only at c1 s1
 subst c1 s1
 refine call_meets PySem.F.slot_tuple_count ⟨_,e1,rfl⟩ PySem.F.entry_tuple_count (PySem.F.args_tuple_count_2 _ _) (SeqAt.tuple_countAt p its.toArray n dd sl (.int k t) (isInt k)) ⟨e1,fun y hy=>sf hi y hy,?_⟩
 rw [show its.toArray.toList=its from rfl,countP_isInt k hi]
 exact ⟨.int _,H,I.tok _,⟨_,rfl⟩,q⟩
theorem i4:∀ {its:List Value} {ns:List Int},IntsAre its ns->∃ xs:List (Int × Tok),its=xs.map (fun p=>Value.int p.1 p.2)/\xs.map (·.1)=ns
 | _,_,.nil=>⟨[],rfl,rfl⟩
 | _,_,.cons n t r=>by
  obtain ⟨xs,e1,e2⟩:=i4 r
  exact ⟨(n,t) :: xs,by rw [List.map_cons, <- e1],by rw [List.map_cons,e2]⟩
theorem om (hh:X.A.handled=none):bu X (.builtin "sum") (fun xs H Q=>∃ (p:Addr) (ns:List Int),xs=[.ref p]/\H p=some (.lst (ns.map V.int))/\Q (.int ns.sum) H):=by
 intro pins s σ H xs us Q I r h
 obtain ⟨p,ns,rfl,hp,q⟩:=h
 obtain ⟨u,rfl,ru⟩:=vals1 r
 cases (show u=Value.ref p from ru)
 obtain ⟨z,its,n,r,e1⟩:=(show aY X.prog X.w H s.heap p (.lst _) from I.hok p _ hp)
 obtain ⟨zs,e2,e3⟩:=i4 (intsAre_of r)
 have ei:its.toArray=intItems zs.toArray:=by rw [e2]; simp [intItems]
 refine sum_intListG hh (xs:=zs.toArray) ⟨_,e1,rfl,n,by rw [ei]⟩ fun h' tk t' k => ?_
 rw [preSum_eq,List.take_of_length_le (by simp),e3]
 exact ⟨.int _,H,I.kept k,⟨_,rfl⟩,q⟩
end
end L2
namespace HT
open PySem PySem.Spec PyProof.Rows
section
variable {prog:Program} {w:World} {A:Around} {E:Value->Shared->Prop} {s:Shared}
theorem fR {t sl:Addr} {items:Array Value} {vl vu:Value} {lo hi:Option Int} {Q:Value->Shared->Prop} (ht:IsTup s.heap t items) (hs:s.heap.IsSliceOf sl vl vu .none) (pl:IsPart vl lo) (pu:IsPart vu hi)
  (hw:sIx items.size 0 lo=0/\sIx items.size items.size hi=items.size) (h:Q (.ref t) s):wpAny (model prog w) A (getItem (.ref t) (.ref sl)) Q E s:=by
 obtain ⟨os,hos,hcs,hds⟩:=id hs
 have hTs:s.TypeIs (.ref sl) "slice" := ⟨os,hos,hcs⟩
 unfold getItem
 try with_reducible refine wpAny_holding ?_
 first | refine wpAny_bind (wpAny_pure ?_) | skip
 refine wpAny_bind (wpAny_sequenceKey ht.typeIs (by decide) ?_)
 refine wpAny_bind (wpAny_callSpecial?_slot (name:=Str.ofString "__getitem__") ht.typeIs PyProof.Rows.slot_tuple_getitem
  (wpAny_call_entry PyProof.Rows.slot_tuple_getitem ht.typeIs entry_tuple_getitem ?_ (args_tuple_getitem _ _)))
 show wpAny _ _ (Builtin.Tuple.tupleItemsOf (.ref t) >>= _) _ _ s
 refine wpAny_bind (tupleItemsOf_ ht ?_)
 refine wpAny_bind (wpAny_typeOf hTs ?_)
 rw [if_pos (by decide)]
 refine wpAny_bind (dE hs pl pu ?_)
 show wpAny _ _ (if (((sIx items.size 0 lo:Nat):Int) == 0 && (1:Int) == 1 && (sIx items.size items.size hi - sIx items.size 0 lo) == items.size)=true then _ else _) _ _ s
 rw [hw.1,hw.2,if_pos (by simp)]
 unfold Builtin.Tuple.tupleIsExact
 refine wpAny_bind (wpAny_bind (wpAny_typeOf ht.typeIs (wpAny_pure ?_)))
 rw [if_pos (by decide)]
 exact wpAny_bind (wpAny_rule (wpAny_pure ⟨_,rfl,wpAny_pure h⟩))
end
end HT
namespace L2
open PySem PySem.Spec PyProof.Rows
section
variable {X:Cx}
theorem wJ:SlR X (fun x lo hi H Q=>∃ a xs,x = .ref a/\SqT X.K H a xs/\((HT.sIx xs.length 0 lo=0/\HT.sIx xs.length xs.length hi=xs.length)->Q (.ref a) H) ∧
  (¬ (HT.sIx xs.length 0 lo=0/\HT.sIx xs.length xs.length hi=xs.length)->∀ p,H p=none->Q (.ref p) (upd H p (.tup (eR xs lo hi))))):=by
 intro pins s σ H x v vl vu lo hi sl Q I rx hs pl pu h
 obtain ⟨a,xs,rfl,hx,q1,q2⟩:=h
 by_cases hw:HT.sIx xs.length 0 lo=0/\HT.sIx xs.length xs.length hi=xs.length
 ·cases rx
  obtain ⟨its,r,ht,hz⟩:=I.tuple hx
  have hlen:its.toArray.size=xs.length:=by rw [List.size_toArray]; exact r.length.symm
  refine ⟨"tuple",_,PyProof.Rows.slot_tuple_getitem.lookup,ht.typeIs,?_⟩
  exact HT.fR ht hs pl pu (by rw [hlen]; exact hw) ⟨.ref a,H,I,rfl,q1 hw⟩
 ·exact ye pins s σ H _ v vl vu lo hi sl Q I rx hs pl pu ⟨a,xs,rfl,hx,hw,q2 hw⟩
theorem du:bu X (.type "range") (fun xs H Q=>∃ n:Int,xs=[.int n]/\∀ a,H a=none->Q (.ref a) (upd H a (.rng 0 n))):=by
 intro pins s σ H xs us Q I r h
 obtain ⟨n,rfl,q⟩:=h
 obtain ⟨u,rfl,⟨t,rfl⟩⟩:=vals1 r
 refine call_range_1 ?_
 exact ⟨.ref s.heap.objs.size,_,I.laid (o := .rng 0 n) (fun b ob q=>Heap.get?_push_of_some _ q) (Nat.le_refl _) ⟨_,_,_,Heap.get?_push_size _ rfl⟩,rfl,q _ (I.hok.fresh (Nat.le_refl _))⟩
end
section
variable {prog:Program} {w:World} {A:Around} {E:Value->Shared->Prop} {s:Shared}
end
section
variable {X:Cx}
theorem p5:∀ {vs:List Value},(∀ (i:Nat) (x:Value),vs[i]? = some x->∃ t,x=Value.int i t)->Vals ((List.range vs.length).map fun i=>V.int (i:Nat)) vs:=by
 suffices h:∀ (vs:List Value) (k:Nat),(∀ (i:Nat) (x:Value),vs[i]? = some x->∃ t,x=Value.int ((i + k:Nat):Int) t)->Vals ((List.range' k vs.length).map fun i=>V.int (i:Nat)) vs by
  intro vs hv
  have:=h vs 0 hv
  rw [List.range_eq_range']
  exact this
 intro vs
 induction vs with
 | nil=>intro k _; exact .nil
 | cons x vs ih =>
  intro k hv
  rw [List.length_cons,List.range'_succ,List.map_cons]
  refine .cons ?_ (ih (k + 1) fun i y hy => ?_)
  ·obtain ⟨t,e⟩:=hv 0 x rfl
   exact ⟨t,by rw [e,Nat.zero_add]⟩
  ·obtain ⟨t,e⟩:=hv (i + 1) y (by rw [List.getElem?_cons_succ]; exact hy)
   exact ⟨t,by rw [e,show i + 1 + k=i + (k + 1) by omega]⟩
end
open PySem PySem.Spec PyProof.Rows
section
variable {κ : Type} [DecidableEq κ]
def eS (kvs:List (κ × V)) (k : κ):Option V:=(kvs.find? fun kv=>decide (kv.1=k)).map (·.2)
def putK (kvs:List (κ × V)) (k : κ) (v:V):List (κ × V) :=
 if (kvs.any fun kv=>decide (kv.1=k))=true then kvs.map (fun kv=>if kv.1=k then (kv.1,v) else kv) else kvs ++ [(k,v)]
theorem gP {p : κ × V} {r:List (κ × V)} {k : κ} (e:p.1=k):eS (p :: r) k=some p.2:=by simp [eS,List.find?_cons,e]
theorem gQ {p : κ × V} {r:List (κ × V)} {k : κ} (e:¬ p.1=k):eS (p :: r) k=eS r k:=by simp [eS,List.find?_cons,e]
theorem jR (k : κ):∀ kvs:List (κ × V),(kvs.any fun kv=>decide (kv.1=k))=(eS kvs k).isSome
 | []=>rfl
 | p :: r=>by
  rw [List.any_cons]
  by_cases e:p.1=k
  ·simp only [gP e,decide_eq_true e,Bool.true_or,Option.isSome_some]
  ·rw [gQ e,decide_eq_false e,Bool.false_or]; exact jR k r
theorem ff (kvs:List (κ × V)) (k : κ) (v:V):(putK kvs k v).length<=kvs.length + 1:=by
 unfold putK
 split
 ·rw [List.length_map]; omega
 ·rw [List.length_append,List.length_cons,List.length_nil]; omega
theorem uK {kvs:List (κ × V)} {k : κ} (v:V) (h:eS kvs k=none):putK kvs k v=kvs ++ [(k,v)]:=by
 unfold putK
 rw [jR,h]
 exact if_neg (by decide)
theorem jl.dH {o:Option V} {u:Option Value} (r:jl o u):o.isSome=u.isSome:=by
 cases o with
 | none=>cases u with
  | none=>rfl
  | some _=>exact (show False from r).elim
 | some _=>cases u with
  | none=>exact (show False from r).elim
  | some _=>rfl
theorem KV.val {kvs:List (κ × V)} {vs:List (κ × Value)} (r:KV kvs vs) (k : κ):jl (eS kvs k) (valueAt vs k):=by
 unfold KV at r
 induction r with
 | nil=>exact True.intro
 | @cons p q ps qs h t ih =>
  obtain ⟨h1,h2⟩:=h
  by_cases e:p.1=k
  ·have e':q.1=k:=h1.symm.trans e
   have b:valueAt (q :: qs) k=some q.2:=by simp [valueAt,List.find?_cons,e']
   rw [gP e,b]; exact h2
  ·have e':¬ q.1=k:=fun z=>e (h1.trans z)
   have b:valueAt (q :: qs) k=valueAt qs k:=by simp [valueAt,List.find?_cons,e']
   rw [gQ e,b]; exact ih
theorem KV.any {kvs:List (κ × V)} {vs:List (κ × Value)} (r:KV kvs vs) (k : κ):(kvs.any fun kv=>decide (kv.1=k))=vs.any fun kv=>decide (kv.1=k):=by
 unfold KV at r
 induction r with
 | nil=>rfl
 | cons h t ih=>rw [List.any_cons,List.any_cons,ih,h.1]
theorem KV.yE {kvs:List (κ × V)} {vs:List (κ × Value)} (r:KV kvs vs) (k : κ) {y:V} {u:Value} (ry:RelV y u) :
  KV (kvs.map fun kv=>if kv.1=k then (kv.1,y) else kv) (vs.map fun kv=>if kv.1=k then (kv.1,u) else kv):=by
 unfold KV at r ⊢
 induction r with
 | nil=>exact .nil
 | @cons p q ps qs h t ih =>
  rw [List.map_cons,List.map_cons]
  refine .cons ?_ ih
  obtain ⟨h1,h2⟩:=h
  by_cases e:p.1=k
  ·rw [if_pos e,if_pos (h1.symm.trans e)]; exact ⟨h1,ry⟩
  ·rw [if_neg e,if_neg (fun z=>e (h1.trans z))]; exact ⟨h1,h2⟩
theorem KV.put {kvs:List (κ × V)} {vs:List (κ × Value)} (r:KV kvs vs) (k : κ) {y:V} {u:Value} (ry:RelV y u):KV (putK kvs k y) (stored vs k u):=by
 unfold putK stored
 rw [r.any k]
 by_cases e:(vs.any fun kv=>decide (kv.1=k))=true
 ·rw [if_pos e,if_pos e]; exact r.yE k ry
 ·rw [if_neg e,if_neg e]; exact Paired.snoc r ⟨rfl,ry⟩
theorem KV.length {kvs:List (κ × V)} {vs:List (κ × Value)} (r:KV kvs vs):kvs.length=vs.length:=Paired.length r
end
theorem lJ {P:Program} {w:World} {k:Key} {u:Value} (r:RelV (kV k) u):(bg P w).is k u=true:=by
 cases k with
 | inl i=>obtain ⟨t,e⟩:=(show ∃ t,u=Value.int i t from r); subst e; exact nq P w i t
 | inr x=>obtain ⟨t,e⟩:=(show ∃ t,u=Value.str x t from r); subst e; exact nr P w x t
theorem lK {P:Program} {w:World}:∀ {ks:List Key} {us:List Value},Vals (ks.map kV) us->ItemsAre (bg P w) ks us
 | [],_,r=>by rw [List.map_nil] at r; cases r; exact .nil
 | k :: ks,_,r=>by
  rw [List.map_cons] at r
  cases r with
  | cons h t=>exact .cons (lJ h) (lK t)
abbrev KT (H:Hp):List (List Key × V)->List (List Key × Addr × Value)->Prop:=Paired fun p q=>p.1=q.1/\H q.2.1=some (.tup (p.1.map kV))/\RelV p.2 q.2.2
theorem KT.val {H:Hp} {kvs:List (List Key × V)} {xs:List (List Key × Addr × Value)} (r:KT H kvs xs) (k:List Key):jl (eS kvs k) ((atKey xs k).map (·.2)):=by
 induction r with
 | nil=>exact True.intro
 | @cons p q ps qs h t ih =>
  obtain ⟨h1,_,h2⟩:=h
  by_cases e:p.1=k
  ·have e':q.1=k:=h1.symm.trans e
   have b:atKey (q :: qs) k=some q.2:=by simp [atKey,List.find?_cons,e']
   rw [gP e,b]; exact h2
  ·have e':¬ q.1=k:=fun z=>e (h1.trans z)
   have b:atKey (q :: qs) k=atKey qs k:=by simp [atKey,List.find?_cons,e']
   rw [gQ e,b]; exact ih
theorem KT.yE {H:Hp} {kvs:List (List Key × V)} {xs:List (List Key × Addr × Value)} (r:KT H kvs xs) (k:List Key) {y:V} {u:Value} (ry:RelV y u) :
  KT H (kvs.map fun kv=>if kv.1=k then (kv.1,y) else kv) (xs.map (putAt k u)):=by
 induction r with
 | nil=>exact .nil
 | @cons p q ps qs h t ih =>
  rw [List.map_cons,List.map_cons]
  refine .cons ?_ ih
  obtain ⟨h1,h2,h3⟩:=h
  unfold putAt
  by_cases e:p.1=k
  ·rw [if_pos e,if_pos (h1.symm.trans e)]; exact ⟨h1,h2,ry⟩
  ·rw [if_neg e,if_neg (fun z=>e (h1.trans z))]; exact ⟨h1,h2,h3⟩
theorem KT.put {H:Hp} {kvs:List (List Key × V)} {xs:List (List Key × Addr × Value)} (r:KT H kvs xs) (k:List Key) {b:Addr} {y:V} {u:Value} (hb:H b=some (.tup (k.map kV))) (ry:RelV y u) :
  KT H (putK kvs k y) (storedH xs k b u):=by
 have e:(kvs.any fun kv=>decide (kv.1=k))=(atKey xs k).isSome:=by
  rw [jR,(r.val k).dH,Option.isSome_map]
 unfold putK storedH
 rw [e]
 by_cases q:(atKey xs k).isSome=true
 ·rw [if_pos q,if_pos q]; exact r.yE k ry
 ·rw [if_neg q,if_neg q]; exact Paired.snoc r ⟨rfl,hb,ry⟩
theorem KT.keeps {H H':Hp} {kvs:List (List Key × V)} {xs:List (List Key × Addr × Value)} (r:KT H kvs xs) (ht:∀ b ys,H b=some (.tup ys)->H' b=some (.tup ys)):KT H' kvs xs :=
 Paired.xR r fun _ _ z=>⟨z.1,ht _ _ z.2.1,z.2.2⟩
section
variable {P:Program} {w:World} {H:Hp} {h:Heap} {a:Addr}
theorem xH {u:HO} (ok:HOk P w H h) (e:Rd H a u):aY P w H h a u:=e.ok ok
theorem oq {kvs:List (Key × V)} (ok:HOk P w H h) (e:Rd H a (.dK kvs)):kvs.length<=sizeLine/\(a == sysModules)=false/\∃ vs,KV kvs vs/\h.DictOf (bg P w) a vs :=
 show aY P w H h a (.dK kvs) from xH ok e
theorem qN {kvs:List (Key × V)} (ok:HOk P w H h) (e:H a=some (.dK kvs)):kvs.length<=sizeLine/\(a == sysModules)=false/\∃ vs,KV kvs vs/\h.DictOf (bg P w) a vs:=oq ok (.inl e)
theorem jS {ks:List Key} (ok:HOk P w H h) (e:H a=some (.tup (ks.map kV))):(tupleKind (bg P w)).is h ks a:=by
 obtain ⟨_,its,r,o,h1,h2,n,h3⟩:=(show aY P w H h a (.tup (ks.map kV)) from ok a _ e)
 exact ⟨o,its.toArray,n,h1,h2.1,h3,by simpa using lK r⟩
theorem ou {kvs:List (List Key × V)} (ok:HOk P w H h) (e:Rd H a (.dT kvs)):kvs.length<=sizeLine/\(a == sysModules)=false ∧
  ∃ xs,KT H kvs xs/\h.DictOfH (tupleKind (bg P w)) a xs:=by
 obtain ⟨z,y,xs,r,o,es,ep,h1,h2,h3,h4,h5⟩:=(show aY P w H h a (.dT kvs) from xH ok e)
 refine ⟨z,y,xs,r,o,es,ep,h1,h2,h3,h4,fun x hx => ?_,h5⟩
 have all:∀ {l:List (List Key × V)} {m:List (List Key × Addr × Value)},KT H l m->∀ x ∈ m,(tupleKind (bg P w)).is h x.1 x.2.1:=by
  intro l m q
  induction q with
  | nil=>intro x hx; exact nomatch hx
  | @cons p q ps qs hq t ih =>
   intro x hx
   rcases List.mem_cons.mp hx with e | hx
   ·subst e
    exact jS ok (by rw [<- hq.1]; exact hq.2.1)
   ·exact ih x hx
 exact all r x hx
theorem zB {kvs:List (List Key × V)} (ok:HOk P w H h) (e:H a=some (.dT kvs)):kvs.length<=sizeLine/\(a == sysModules)=false ∧
  ∃ xs,KT H kvs xs/\h.DictOfH (tupleKind (bg P w)) a xs:=ou ok (.inl e)
end
def dI (H:Hp) (a:Addr) (y:V) (r:Option V):Prop :=
 (∃ kvs k,Rd H a (.dK kvs)/\y=kV k/\r=eS kvs k)\/∃ kvs k b,Rd H a (.dT kvs)/\y = .ref b/\H b=some (.tup (k.map kV))/\r=eS kvs k
def mO (H:Hp) (a:Addr) (y v:V) (H':Hp):Prop :=
 (∃ kvs k,H a=some (.dK kvs)/\y=kV k/\kvs.length < sizeLine/\H'=upd H a (.dK (putK kvs k v))) ∨
 ∃ kvs k b,H a=some (.dT kvs)/\y = .ref b/\H b=some (.tup (k.map kV))/\kvs.length < sizeLine/\H'=upd H a (.dT (putK kvs k v))
theorem dI.k {H:Hp} {a:Addr} {kvs:List (Key × V)} {k:Key} (e:H a=some (.dK kvs)):dI H a (kV k) (eS kvs k) := .inl ⟨kvs,k,.inl e,rfl,rfl⟩
theorem mO.k {H:Hp} {a:Addr} {kvs:List (Key × V)} {k:Key} {v:V} (e:H a=some (.dK kvs)) (hl:kvs.length < sizeLine):mO H a (kV k) v (upd H a (.dK (putK kvs k v))) := .inl ⟨kvs,k,e,rfl,hl,rfl⟩
section
variable {X:Cx} {pins:List (Addr × Obj)} {σ:St} {H:Hp} {s:Shared} {a:Addr} {y v:V} {u r:Value} {o:Option V} {A:Around} {E:Value->Shared->Prop}
theorem Inv.big (I:Inv X pins σ H s):sysModules < s.heap.objs.size:=by
 have h:mainGlobals < s.heap.objs.size:=(I.mod.glob.keeps I.bk).lt
 exact Nat.lt_trans (by decide) h
theorem sj {Q:Value->Shared->Prop} (hu:A.units + 1 < cLine) (I:Inv X pins σ H s) (g:dI H a y (some v)) (ry:RelV y u) (h:∀ w' s',Inv X pins σ H s'->RelV v w'->Q w' s') :
  wpAny (model X.prog X.w) A (getItem (.ref a) u) Q E s:=by
 rcases g with ⟨kvs,k,e,ey,l⟩ | ⟨kvs,k,b,e,ey,eb,l⟩
 ·subst ey
  obtain ⟨z,hd,vs,rel,dd⟩:=oq I.hok e
  obtain ⟨w',hw,rw'⟩:=jl.some_of (v:=v) (o:=valueAt vs k) (by rw [l]; exact rel.val k)
  exact wpAny_getItem_of (lJ ry) dd.mapOf hw (h w' _ (I.tok _) rw')
 ·subst ey
  cases (show u=Value.ref b from ry)
  obtain ⟨z,hd,xs,rel,dd⟩:=ou I.hok e
  obtain ⟨w',hw,rw'⟩:=jl.some_of (v:=v) (o:=(atKey xs k).map (·.2)) (by rw [l]; exact rel.val k)
  obtain ⟨p,hp,hp2⟩:=Option.map_eq_some_iff.mp hw
  refine wpAny_getItem_heap (tupleKind_room_in1 hu) (jS I.hok eb) dd hp ?_
  rw [hp2]
  exact h w' _ (I.tok _) rw'
theorem d_in {Q:Value->Shared->Prop} (hu:A.units + 1 < cLine) (I:Inv X pins σ H s) (g:dI H a y o) (ry:RelV y u) (h:∀ s',Inv X pins σ H s'->Q (.bool o.isSome) s') :
  wpAny (model X.prog X.w) A (compareOp .In u (.ref a)) Q E s:=by
 rcases g with ⟨kvs,k,e,ey,l⟩ | ⟨kvs,k,b,e,ey,eb,l⟩
 ·subst ey
  obtain ⟨z,hd,vs,rel,dd⟩:=oq I.hok e
  refine wpAny_in_of (lJ ry) hd dd.mapOf ?_
  rw [<- (rel.val k).dH, <- l]
  exact h _ (I.tok _)
 ·subst ey
  cases (show u=Value.ref b from ry)
  obtain ⟨z,hd,xs,rel,dd⟩:=ou I.hok e
  refine wpAny_in_heap (tupleKind_room_in1 hu) (jS I.hok eb) hd dd ?_
  have q:=(rel.val k).dH
  rw [Option.isSome_map] at q
  rw [<- q, <- l]
  exact h _ (I.tok _)
theorem wK {Q:Value->Shared->Prop} (hu:A.units + 1 < cLine) (I:Inv X pins σ H s) (g:dI H a y o) (ry:RelV y u) (h:∀ s',Inv X pins σ H s'->Q (.bool (!o.isSome)) s') :
  wpAny (model X.prog X.w) A (compareOp .NotIn u (.ref a)) Q E s:=by
 rcases g with ⟨kvs,k,e,ey,l⟩ | ⟨kvs,k,b,e,ey,eb,l⟩
 ·subst ey
  obtain ⟨z,hd,vs,rel,dd⟩:=oq I.hok e
  refine wpAny_notIn_of (lJ ry) hd dd.mapOf ?_
  rw [<- (rel.val k).dH, <- l]
  exact h _ (I.tok _)
 ·subst ey
  cases (show u=Value.ref b from ry)
  obtain ⟨z,hd,xs,rel,dd⟩:=ou I.hok e
  refine wpAny_notIn_heap (tupleKind_room_in1 hu) (jS I.hok eb) hd dd ?_
  have q:=(rel.val k).dH
  rw [Option.isSome_map] at q
  rw [<- q, <- l]
  exact h _ (I.tok _)
theorem mP {h':Heap} {t':Nat} {ob:HO} (I:Inv X pins σ H s) (mu:Mut (H a)) (hs:Heap.SameBut a s.heap h') (he:∃ q,h'.get? a=some q) (new:aY X.prog X.w (upd H a ob) h' a ob) :
  Inv X pins σ (upd H a ob) { s with heap:=h',toks:=t' } :=
 I.write (x:=a) (e:=a) mu (.inl rfl) (fun b q hb z=>(hs.2 b hb).trans z) he new
theorem uL {P:Program} {w:World} {H':Hp} {h':Heap} {kvs:List (Key × V)} {vs:List (Key × Value)} (z:kvs.length<=sizeLine) (hd:(a == sysModules)=false) (rel:KV kvs vs) (dd:h'.DictOf (bg P w) a vs) :
  aY P w H' h' a (.dK kvs):=⟨z,hd,vs,rel,dd⟩
theorem sk {H':Hp} {Q:Unit->Shared->Prop} (hu:A.units + 1 < cLine) (I:Inv X pins σ H s) (g:mO H a y v H') (ry:RelV y u) (rv:RelV v r) (h:∀ s',Inv X pins σ H' s'->Q () s') :
  wpAny (model X.prog X.w) A (setItem (.ref a) u r) Q E s:=by
 rcases g with ⟨kvs,k,e,ey,l,eH⟩ | ⟨kvs,k,b,e,ey,eb,l,eH⟩
 ·subst ey eH
  obtain ⟨z,hd,vs,rel,dd⟩:=qN I.hok e
  have hz:vs.length<=sizeLine:=by rw [<- rel.length]; exact z
  have hl:(putK kvs k v).length<=sizeLine:=by have:=ff kvs k v; omega
  refine wpAny_setItem_pairs (hsz:=hz) (lJ ry) dd fun h' dd' hs=>h _ ?_
  have he:∃ q,h'.get? a=some q:=let ⟨q,_,_,hq,_⟩:=dd'; ⟨q,hq⟩
  exact mP I (by rw [e]; exact True.intro) hs he (uL hl hd (rel.put k rv) dd')
 ·subst ey eH
  cases (show u=Value.ref b from ry)
  obtain ⟨z,hd,xs,rel,dd⟩:=zB I.hok e
  have hz:xs.length<=sizeLine:=by rw [<- Paired.length rel]; exact z
  have hl:(putK kvs k v).length<=sizeLine:=by have:=ff kvs k v; omega
  refine wpAny_setItem_heap (hsz:=hz) (tupleKind_room_in1 hu) (jS I.hok eb) dd fun h' dd' hs=>h _ ?_
  obtain ⟨q,es,ep,hq,h2,h3,h4,_,h5⟩:=dd'
  refine mP I (by rw [e]; exact True.intro) hs ⟨q,hq⟩ ⟨hl,hd,_,(rel.put k eb rv).keeps fun c ys ec => ?_,q,es,ep,hq,h2,h3,h4,h5⟩
  rw [aq (eN ec e (fun z=>nomatch z))]
  exact ec
end
section
variable {X:Cx} {pins:List (Addr × Obj)} {σ:St} {H:Hp} {s:Shared} {a:Addr} {kvs:List (Key × V)} {k:Key} {u:Value} {A:Around} {E:Value->Shared->Prop}
end
def zC (i:Expr):Prop:=∀ ov iv,subscripted i false ov iv=operate [ov,iv] (getItem ov iv)
theorem wL {prog:Program} {w:World} {A:Around} {E:Value->Shared->Prop} {s:Shared} {env:Env} {value slice:Expr} {pos:Pos} {T id:String} {Q:Value->Shared->Prop}
  (hl:typeLookup (.type T) "__getitem__" = pure (some (.builtin id))) (hs:zC slice)
  (h:wpAny (model prog w) A (eval value env) (fun o s₁=>wpAny (model prog w) A (eval slice env) (fun i s₂=>s₂.TypeIs o T/\wpAny (model prog w) A (getItem o i) Q E s₂) E s₁) E s) :
  wpAny (model prog w) A (eval (.Subscript value slice pos) env) Q E s:=by
 refine Subscript_ (wpAny_mono h (fun o s₁ h₁=>wpAny_mono h₁ (fun i s₂ h₂ => ?_) fun _ _ x=>x) fun _ _ x=>x)
 obtain ⟨hT,h₂⟩:=h₂
 unfold subscriptTail
 refine wpAny_bind ?_
 rw [getitemInPython_of_ne hT.not_modules]
 refine wpAny_bind (wpAny_specialOf hT hl ?_)
 have fin:wpAny (model prog w) A (subscripted slice false o i) (fun r s₃=>wpAny (model prog w) A (letTemporaryGo value o r >>= fun _=>pure r) Q E s₃) E s₂:=by
  rw [hs o i]
  exact wpAny_operating (wpAny_mono h₂ (fun r s₃ h₃=>wpAny_bind (wpAny_letTemporaryGo (wpAny_pure h₃))) fun _ _ x=>x)
 first
  | exact wpAny_pure (wpAny_bind fin)
  | exact wpAny_bind (wpAny_pure (wpAny_bind fin))
  | exact wpAny_bind fin
theorem ow {X:Cx} {pins:List (Addr × Obj)} {σ:St} {H:Hp} {s:Shared} {a:Addr} {y:V} {o:Option V} (I:Inv X pins σ H s) (g:dI H a y o):s.TypeIs (.ref a) "dict" := by
 rcases g with ⟨kvs,k,e,_,_⟩ | ⟨kvs,k,b,e,_,_,_⟩
 ·obtain ⟨_,_,vs,_,dd⟩:=oq I.hok e
  exact dd.typeIs
 ·obtain ⟨_,_,xs,_,dd⟩:=ou I.hok e
  exact dd.typeIs
def zD (td ty:TE):TE:=fun σ H Q=>td σ H fun x H1=>ty σ H1 fun y H2=>∃ a v,x = .ref a/\dI H2 a y (some v)/\Q v H2
def tDIn (ty td:TE):TE:=fun σ H Q=>ty σ H fun y H1=>td σ H1 fun x H2=>∃ a o,x = .ref a/\dI H2 a y o/\Q (.bl o.isSome) H2
def wM (ty td:TE):TE:=fun σ H Q=>ty σ H fun y H1=>td σ H1 fun x H2=>∃ a o,x = .ref a/\dI H2 a y o/\Q (.bl (!o.isSome)) H2
def zE (td ty tv:TE):TS:=fun D σ H=>tv σ H fun v H1=>td σ H1 fun x H2=>ty σ H2 fun y H3=>∃ a H4,x = .ref a/\mO H3 a y v H4/\D.nx σ H4
section
variable {X:Cx} {o i e value:Expr} {pos pos' tpos:Pos} {td ty tv:TE}
theorem gR (hu:X.A.units + 1 < cLine) (ho:PE X o td) (hi:PE X i ty) (hs:zC i):PE X (.Subscript o i pos) (zD td ty):=by
 intro pins s σ H Q I h
 refine wL PySem.F.slot_dict_getitem.lookup hs (thn (ho pins s σ H _ I h) fun u s1 ⟨x,H1,I1,rx,q1⟩=>thn (hi pins s1 σ H1 _ I1 q1) fun iv s2 ⟨y,H2,I2,ry,a,v,ex,g,q2⟩ => ?_)
 subst ex
 obtain rfl:u=Value.ref a:=rx
 exact ⟨ow I2 g,sj hu I2 g ry fun w' s3 I3 rw'=>⟨v,H2,I3,rw',q2⟩⟩
theorem uM (hu:X.A.units + 1 < cLine) (hi:PE X i ty) (ho:PE X o td):PC X .In i o (tDIn ty td):=by
 intro pins s σ H Q I h
 refine thn (hi pins s σ H _ I h) fun iv s1 ⟨y,H1,I1,ry,q1⟩=>thn (ho pins s1 σ H1 _ I1 q1) fun u s2 ⟨x,H2,I2,rx,a,ov,ex,g,q2⟩ => ?_
 subst ex
 obtain rfl:u=Value.ref a:=rx
 exact d_in hu I2 g ry fun s3 I3=>⟨.bl ov.isSome,H2,I3,rfl,q2⟩
theorem lL (hu:X.A.units + 1 < cLine) (hi:PE X i ty) (ho:PE X o td):PC X .NotIn i o (wM ty td):=by
 intro pins s σ H Q I h
 refine thn (hi pins s σ H _ I h) fun iv s1 ⟨y,H1,I1,ry,q1⟩=>thn (ho pins s1 σ H1 _ I1 q1) fun u s2 ⟨x,H2,I2,rx,a,ov,ex,g,q2⟩ => ?_
 subst ex
 obtain rfl:u=Value.ref a:=rx
 exact wK hu I2 g ry fun s3 I3=>⟨.bl (!ov.isSome),H2,I3,rfl,q2⟩
theorem gS (hu:X.A.units + 1 < cLine) (ho:PE X o td) (hi:PE X i ty) (hv:PE X value tv) (hs:swapsWith value (some (.Subscript o i pos')) pos.line X.env=pure false) :
  PS X (.Assign [.Subscript o i pos'] value pos) (zE td ty tv):=by
 intro pins s σ H D I h
 refine wpAny_Assign_Subscript (thn (hv pins s σ H _ I h) fun r s1 ⟨v,H1,I1,rv,q1⟩=>thn (ho pins s1 σ H1 _ I1 q1) fun u s2 ⟨x,H2,I2,rx,q2⟩=>thn (hi pins s2 σ H2 _ I2 q2) fun iv s3 ⟨y,H3,I3,ry,a,H4,ex,g,q3⟩ => ?_) hs
 subst ex
 obtain rfl:u=Value.ref a:=rx
 exact sk hu I3 g ry rv fun s4 I4=>⟨σ,H4,I4,q3⟩
end
theorem ox {P:Program} {w:World} {H:Hp} (h:Heap) (hb:sysModules < h.objs.size):aY P w H (h.push { cls := .type "dict",data := .dict #[] }) h.objs.size (.dK []) :=
 ⟨Nat.zero_le _,beq_eq_false_iff_ne.mpr (Ne.symm (Nat.ne_of_lt hb)),[],.nil,Heap.DictOf.new h⟩
def yF:TE:=fun _ H Q=>∀ p,H p=none->Q (.ref p) (upd H p (.dK []))
section
variable {X:Cx} {pos:Pos}
theorem oy:PE X (.Dict [] [] pos) yF:=fun pins s σ H Q I h =>
 wpAny_Dict_empty ⟨.ref s.heap.objs.size,_,I.laid (a:=s.heap.objs.size) (o := .dK []) (t':=s.toks) (fun _ _ q=>Heap.get?_push_of_some _ q) (Nat.le_refl _) (ox s.heap I.big),rfl,h _ (I.hok.fresh (Nat.le_refl _))⟩
end
def p9:List (TE × TE)->St->Hp->(List (V × V)->Hp->Prop)->Prop
 | [],_,H,Q=>Q [] H
 | (tk,tv) :: r,σ,H,Q=>tk σ H fun x H1=>tv σ H1 fun y H2=>p9 r σ H2 fun ps H3=>Q ((x,y) :: ps) H3
abbrev VV:List (V × V)->List (Value × Value)->Prop:=Paired fun p q=>RelV p.1 q.1/\RelV p.2 q.2
def PPs (X:Cx) (pos:Pos) (keys:List (Option Expr)) (values:List Expr) (trs:List (TE × TE)):Prop :=
 ∀ (pins:List (Addr × Obj)) (s:Shared) (σ:St) (H:Hp) (Q:List (V × V)->Hp->Prop),Inv X pins σ H s->p9 trs σ H Q →
  wpAny (model X.prog X.w) X.A (evalPairs (pairTrees keys values X.env pos)) (fun vs s'=>∃ ps H',Inv X pins σ H' s'/\VV ps vs/\Q ps H') X.xe s
theorem wN {X:Cx} {pos:Pos}:PPs X pos [] [] []:=fun pins s σ H Q I h=>pairTrees_nil_walk ⟨[],H,I,.nil,h⟩
theorem uN {X:Cx} {pos:Pos} {k v:Expr} {ks:List (Option Expr)} {vs:List Expr} {tk tv:TE} {trs:List (TE × TE)} (hk:PE X k tk) (hv:PE X v tv) (hr:PPs X pos ks vs trs) :
  PPs X pos (some k :: ks) (v :: vs) ((tk,tv) :: trs):=fun pins s σ H Q I h =>
 pairTrees_cons_walk (thn (hk pins s σ H _ I h) fun u s1 ⟨x,H1,I1,rx,q1⟩=>thn (hv pins s1 σ H1 _ I1 q1) fun w2 s2 ⟨y,H2,I2,ry,q2⟩ =>
  thn (hr pins s2 σ H2 _ I2 q2) fun ws s3 ⟨ps,H3,I3,rel,q3⟩=>⟨(x,y) :: ps,H3,I3,.cons ⟨rx,ry⟩ rel,q3⟩)
def eD (kvs more:List (Key × V)):List (Key × V):=more.foldl (fun acc kv=>putK acc kv.1 kv.2) kvs
theorem KV.merge:∀ {more:List (Key × V)} {rs:List (Key × Value)} {kvs:List (Key × V)} {vs:List (Key × Value)},KV more rs->KV kvs vs->KV (eD kvs more) (merged vs rs):=by
 intro more rs kvs vs r
 unfold KV at r
 induction r generalizing kvs vs with
 | nil=>intro q; exact q
 | @cons p q ps qs h t ih =>
  intro r0
  have e:KV (putK kvs p.1 p.2) (stored vs q.1 q.2):=by
   have:=r0.put p.1 h.2
   rw [<- h.1]; exact this
  exact ih e
theorem fW:∀ (more kvs:List (Key × V)),(eD kvs more).length<=kvs.length + more.length
 | [],kvs=>by show kvs.length<=kvs.length + 0; omega
 | p :: r,kvs=>by
  have h1:=fW r (putK kvs p.1 p.2)
  have h2:=ff kvs p.1 p.2
  show (eD (putK kvs p.1 p.2) r).length<=_
  rw [List.length_cons]; omega
theorem jT {P:Program} {w:World}:∀ {kvs:List (Key × V)} {ws:List (Value × Value)},VV (kvs.map fun kv=>(kV kv.1,kv.2)) ws->∃ rs,Carries (bg P w) ws rs/\KV kvs rs
 | [],_,r=>by rw [List.map_nil] at r; cases r; exact ⟨[],True.intro,.nil⟩
 | p :: kvs,_,r=>by
  rw [List.map_cons] at r
  cases r with
  | @cons a b as bs h t =>
   obtain ⟨rs,c,q⟩:=jT (P:=P) (w:=w) t
   obtain ⟨b1,b2⟩:=b
   exact ⟨(p.1,b2) :: rs,⟨lJ h.1,rfl,c⟩,.cons ⟨rfl,h.2⟩ q⟩
def zF (trs:List (TE × TE)):TE:=fun σ H Q=>∀ p,H p=none->p9 trs σ (upd H p (.dK [])) fun ps H2=>H2 p=some (.dK [])/\∃ kvs:List (Key × V),ps=kvs.map (fun kv=>(kV kv.1,kv.2))/\kvs.length<=15/\Q (.ref p) (upd H2 p (.dK (eD [] kvs)))
theorem wO {X:Cx} {pos:Pos} {keys:List (Option Expr)} {values:List Expr} {trs:List (TE × TE)} (h:PPs X pos keys values trs) (hall:keys.all (·.isSome)=true) (hl:keys.length=values.length) (h0:keys ≠ [])
  (h15:keys.length<=15):PE X (.Dict keys values pos) (zF trs):=by
 intro pins s σ H Q I q
 have hn:=I.hok.fresh (Nat.le_refl s.heap.objs.size)
 have I1:=I.laid (a:=s.heap.objs.size) (o := .dK []) (h':=s.heap.push { cls := .type "dict",data := .dict #[] }) (t':=s.toks) (fun _ _ q=>Heap.get?_push_of_some _ q) (Nat.le_refl _) (ox s.heap I.big)
 refine wpAny_Dict_walk (knd:=bg X.prog X.w) hall hl h0 h15 (thn (h pins _ σ _ _ I1 (q _ hn)) fun ws s2 ⟨ps,H2,I2,rel,e,kvs,ep,lk,q2⟩ => ?_)
 subst ep
 obtain ⟨rs,c,rk⟩:=jT (P:=X.prog) (w:=X.w) rel
 obtain ⟨z,hd,vs0,r0,dd⟩:=qN I2.hok e
 cases r0
 refine ⟨rs,c,dd,fun h' dd' hs=>⟨.ref s.heap.objs.size,_,?_,rfl,q2⟩⟩
 have hz:(eD [] kvs).length<=sizeLine:=by
  have h1:=fW kvs []
  rw [List.length_nil] at h1
  rw [sizeLine_eq]; omega
 have he:∃ q,h'.get? s.heap.objs.size=some q:=let ⟨q,_,_,hq,_⟩:=dd'; ⟨q,hq⟩
 exact mP I2 (by rw [e]; exact True.intro) hs he (uL hz hd (rk.merge .nil) dd')
structure M1 (X:Cx) (o:Expr) (m:Str) (apos:Pos) (e:Expr) (cpos:Pos):Prop where
 base:attributeBase o m X.env (eval o X.env)=eval o X.env
 few:((backTo cpos (starEach [e] X.env)).all (fun x => !x.1) && (backToKw cpos (keywordEach [] X.env)).all (fun x=>x.1.isSome)
  && decide (([e]:List Expr).length + ([]:List Keyword).length + (if ([]:List Keyword).isEmpty then 0 else 1) < 30))=true
 line:(apos.endLine == cpos.line)=true
 trees:backTo cpos (starEach [e] X.env)=[(false,eval e X.env)]
structure M2 (X:Cx) (o:Expr) (m:Str) (apos:Pos) (e f:Expr) (cpos:Pos):Prop where
 base:attributeBase o m X.env (eval o X.env)=eval o X.env
 few:((backTo cpos (starEach [e,f] X.env)).all (fun x => !x.1) && (backToKw cpos (keywordEach [] X.env)).all (fun x=>x.1.isSome)
  && decide (([e,f]:List Expr).length + ([]:List Keyword).length + (if ([]:List Keyword).isEmpty then 0 else 1) < 30))=true
 line:(apos.endLine == cpos.line)=true
 trees:backTo cpos (starEach [e,f] X.env)=[(false,eval e X.env),(false,eval f X.env)]
section
variable {X:Cx} {pins:List (Addr × Obj)} {σ:St} {H:Hp} {s:Shared} {a:Addr} {y d:V} {u r:Value} {o:Option V} {A:Around} {E:Value->Shared->Prop}
end
section
variable {X:Cx} {o e f:Expr} {apos cpos:Pos} {td ty tx:TE}
end
section
variable {X:Cx} {pins:List (Addr × Obj)} {σ:St} {H:Hp} {s:Shared} {a:Addr} {kvs:List (Key × V)} {A:Around} {E:Value->Shared->Prop}
end
section
variable {X:Cx} {pins:List (Addr × Obj)} {σ:St} {H:Hp} {s:Shared} {a:Addr} {y:V} {u:Value} {A:Around} {E:Value->Shared->Prop}
end
open PySem PySem.Spec PyProof.Rows
section
variable {X:Cx}
end
section
variable {κ : Type} [DecidableEq κ]
end
end L2
namespace SDct
open PySem PyProof.Rows Srt
section
variable {prog:Program} {w:World} {K:Type} [DecidableEq K] {knd:KeyKind prog w K} {A:Around} {E:Value->Shared->Prop} {s:Shared}
theorem mQ {d:Addr} {kvs:List (K × Value)} {ep:Nat} {R:List Value->Shared->Prop} (hh:A.handled=none) (hd:(d == sysModules)=false) (hm:s.heap.DictAt knd d kvs ep) (hz:kvs.length<=sizeLine)
  (h:∀ h1 tk vs,vs.length=kvs.length->(∀ (i:Nat) v,vs[i]? = some v->∃ k x,kvs[i]? = some (k,x)/\knd.is k v=true)->(∀ b o,s.heap.get? b=some o->h1.get? b=some o)->s.heap.objs.size<=h1.objs.size->R vs { s with heap:=h1,toks:=tk }) :
  wpAny (model prog w) A (collect (.ref d)) R E s:=by
 have hlt:=hm.lt_size
 unfold collect
 refine wpAny_bind (wpAny_runValue (codeAny_builtin F.entry_proto_collect ?_))
 rw [Around.under_plainId F.plain_proto_collect _]
 show wpAny _ A.in1 (newList [] >>= fun l=>again (.builtin "list.__iadd__" ⟨[l,.ref d],[]⟩)) _ _ s
 refine wpAny_bind (wpAny_newObj_type ?_)
 refine wpAny_pure ⟨plainId_quiet F.plain_list_iadd _,codeAny_builtin F.entry_list_iadd ?_⟩
 rw [Around.under_plainId F.plain_list_iadd _]
 show wpAny _ A.in1 (Builtin.List.listExtendWith (.ref s.heap.objs.size) (.ref d) (.ref s.heap.objs.size)) _ _ _
 unfold Builtin.List.listExtendWith
 have hSa:s.heap.objs.size ≠ d:=Nat.ne_of_gt hlt
 have z1:(s.heap.push { cls := .type "list",data := .seq ([]:List Value).toArray }).objs.size=s.heap.objs.size + 1:=Heap.size_push _ _
 have hm1:=hm.push { cls := .type "list",data := .seq ([]:List Value).toArray }
 have hT1:Shared.TypeIs { s with heap:=s.heap.push { cls := .type "list",data := .seq ([]:List Value).toArray } } (.ref d) "dict" := hm1.dictOf.typeIs
 refine wpAny_bind (wpAny_typeOf hT1 ?_)
 have h1:Builtin.List.listSameRef (.ref s.heap.objs.size) (.ref d)=false:=by simp [Builtin.List.listSameRef,hSa]
 have h2:(Value.type "dict" == Value.type "list")=false:=by decide
 have h3:(Value.type "dict" == Value.type "tuple")=false:=by decide
 simp only [h1,h2,h3,Bool.or_false,Bool.false_eq_true,if_false]
 refine wpAny_bind (wpAny_pyIter_dict hd hm1 ?_)
 show wpAny _ A.in1 (holding [.ref (s.heap.push { cls := .type "list",data := .seq ([]:List Value).toArray }).objs.size] (Builtin.List.listLengthHint (.ref d)) >>= _) _ _ { s with heap:=(s.heap.push { cls := .type "list",data := .seq ([]:List Value).toArray }).push { cls := .type "dict_keyiterator",data := .fields #[.ref d,.int 0 0,.int kvs.length 0,.int ep 0] } }
 rw [z1]
 generalize hH:(s.heap.push { cls := .type "list",data := .seq ([]:List Value).toArray }).push { cls := .type "dict_keyiterator",data := .fields #[.ref d,.int 0 0,.int kvs.length 0,.int ep 0] }=H
 have kH:∀ b o,(s.heap.push { cls := .type "list",data := .seq ([]:List Value).toArray }).get? b=some o->H.get? b=some o:=fun b o e=>by rw [<- hH]; exact Heap.get?_push_of_some _ e
 have hit:H.IsKeyIter (s.heap.objs.size + 1) d 0 kvs.length ep:=by
  refine ⟨{ cls := .type "dict_keyiterator",data := .fields #[.ref d,.int 0 0,.int kvs.length 0,.int ep 0] },?_,rfl,rfl⟩
  rw [<- hH, <- z1]
  exact Heap.get?_push_size _ rfl
 have hm2:H.DictAt knd d kvs ep:=hm1.keep kH
 have hT2:Shared.TypeIs { s with heap:=H } (.ref d) "dict" := hm2.dictOf.typeIs
 refine wpAny_bind (wpAny_holding ?_)
 unfold Builtin.List.listLengthHint
 refine wpAny_bind (wpAny_specialOf hT2 F.slot_dict_len.lookup ?_)
 dsimp only
 rw [show splitId "dict.__len__" = some ("dict", "__len__") by kernel_rfl]
 dsimp only
 refine wpAny_bind (wpAny_isInstance hT2 (show isSubtype (.type "dict") (.type "dict")=pure true by rw [isSubtype_type]; kernel_rfl) ?_)
 simp only [Bool.not_true,Bool.false_eq_true,if_false]
 show wpAny _ _ (typeOf (.ref d) >>= _) _ _ _
 refine wpAny_bind (wpAny_typeOf hT2 ?_)
 refine wpAny_pure ?_
 show wpAny _ A.in1 (rule "list.extend.makes-room" >>= fun _=>Builtin.List.listTouch (.ref s.heap.objs.size) >>= fun _ =>
  again (.builtin "list.extend.loop" ⟨[.ref s.heap.objs.size,.ref (s.heap.objs.size + 1),.ref s.heap.objs.size],[]⟩)) _ _ _
 refine wpAny_bind (wpAny_rule ?_)
 have hS₁:H.get? s.heap.objs.size=some { cls := .type "list",data := .seq ([]:List Value).toArray }:=kH _ _ (Heap.get?_push_size _ rfl)
 refine wpAny_bind ?_
 show wpAny _ A.in1 (updateSeq s.heap.objs.size (·.push .none) >>= fun _=>updateSeq s.heap.objs.size (·.pop)) _ _ _
 refine wpAny_bind (wpAny_updateSeq (s:={ s with heap:=H }) hS₁ rfl ?_)
 have hS₂:=Heap.get?_update_self (Obj.mapSeq (·.push Value.none)) hS₁ rfl
 refine wpAny_updateSeq hS₂ rfl ?_
 have hS₃:=Heap.get?_update_self (Obj.mapSeq (·.pop)) hS₂ rfl
 have oth:∀ b o,b ≠ s.heap.objs.size->H.get? b=some o->((H.update s.heap.objs.size (Obj.mapSeq (·.push Value.none))).update s.heap.objs.size (Obj.mapSeq (·.pop))).get? b=some o :=
  fun b o hb e=>(Heap.get?_update_other _ _ (Ne.symm hb)).trans ((Heap.get?_update_other _ _ (Ne.symm hb)).trans e)
 have W:=(Walks.dictKeys (prog:=prog) (w:=w) (knd:=knd) (A:=A.in1) hh (s.heap.objs.size + 1) d (Nat.ne_of_lt (Nat.lt_succ_of_lt hlt)) kvs ep).toS
 have hSf:s.heap.objs.size ∉ [s.heap.objs.size + 1,d]:=by
  simp only [List.mem_cons,List.not_mem_nil,or_false,not_or]
  exact ⟨Nat.ne_of_lt (Nat.lt_succ_self _),hSa⟩
 refine wpAny_pure ⟨plainId_quiet F.plain_extend_loop _,codeAny_extend_loopS W hz _ hSf _ kvs.length 0 _ _ _ rfl (Nat.zero_le _) ⟨hit.at fun o e=>oth _ o (Nat.ne_of_gt (Nat.lt_succ_self _)) e,hm2.at' fun o e=>oth _ o (Ne.symm hSa) e⟩ hS₃ (ItemsOf.nil _) fun s' acc' c' hmv hS' ha => ?_⟩
 obtain ⟨h',g',d',tk',os'⟩:=s'
 have eg:g'=s.gens:=hmv.gens
 have ed:d'=s.drawn:=hmv.drawn
 have eo:os'=s.os:=hmv.os
 subst eg; subst ed; subst eo
 show wpAny _ A (load s.heap.objs.size >>= _) _ _ _
 refine wpAny_bind (wpAny_load hS' ?_)
 refine wpAny_pure (h h' tk' acc'.toList (by rw [Array.length_toList]; exact ha.1) (fun i v hv=>ha.2 i v (by rw [Array.getElem?_toList] at hv; exact hv)) (fun b o e => ?_) (Nat.le_of_lt (Heap.lt_size hS')))
 have lt:=Heap.lt_size e
 refine hmv.heap b o ?_ (oth b o (Nat.ne_of_lt lt) (kH b o (Heap.get?_push_of_some _ e)))
 simp only [List.mem_cons,List.not_mem_nil,or_false,not_or]
 exact ⟨Nat.ne_of_lt lt,Nat.ne_of_lt (Nat.lt_succ_of_lt lt)⟩
end
end SDct
namespace L2
open PySem PySem.Spec PyProof.Rows Srt
section
variable {X:Cx}
theorem mR:∀ {kvs:List (Key × V)} {vs:List (Key × Value)},KV kvs vs->vs.map (·.1)=kvs.map (·.1)
 | _,_,.nil=>rfl
 | _,_,.cons h t=>by rw [List.map_cons,List.map_cons,mR t,h.1]
theorem mT (hh:X.A.handled=none):bu X (.builtin "sorted") (fun xs H Q=>∃ (a:Addr) (kvs:List (Key × V)) (ks:List Int),xs=[.ref a]/\H a=some (.dK kvs)/\kvs.map (·.1)=ks.map Sum.inl/\∀ (l:Addr) (out:List Int),H l=none->out.Perm ks->out.Pairwise (· <= ·)->Q (.ref l) (upd H l (.lst (out.map V.int)))):=by
 intro pins s σ H xs us Q I r h
 obtain ⟨a,kvs,ks,rfl,ha,ek,q⟩:=h
 obtain ⟨u,rfl,ru⟩:=vals1 r
 cases (show u=Value.ref a from ru)
 obtain ⟨z,hd,vs,rel,dd⟩:=qN I.hok ha
 obtain ⟨ep,dd⟩:=dd.dictAt
 have lv:kvs.length=vs.length:=Paired.length rel
 have keys:vs.map (·.1)=kvs.map (·.1):=mR rel
 have lk:ks.length=vs.length:=by
  have:=congrArg List.length ek
  rw [List.length_map,List.length_map] at this
  omega
 refine Calls.call_function_entry kind_sorted plain_sorted entry_sorted (args_sorted1 _) ?_
 unfold Builtin.«sorted»
 refine wpAny_bind (m:=checkCount "sorted" 1 1 _) (wpAny_pure ?_)
 refine wpAny_bind (SDct.mQ (by simpa using hh) hd dd (by omega) fun h1 tk ws lw hw k1 z1 => ?_)
 have sh:∀ (i:Nat) v,ws[i]? = some v->∃ t,ks[i]? = some (intOf v)/\v = .int (intOf v) t:=fun i v hv=>by
  obtain ⟨k,x,e1,e2⟩:=hw i v hv
  have e3:(vs.map (·.1))[i]? = some k:=by rw [List.getElem?_map,e1]; rfl
  rw [keys,ek,List.getElem?_map] at e3
  cases hk:ks[i]? with
  | none=>rw [hk] at e3; cases e3
  | some n =>
   rw [hk] at e3
   cases e3
   obtain ⟨t,rfl⟩:=Value.isInt_shape (show Value.isInt n v=true from e2)
   exact ⟨t,rfl,rfl⟩
 have si:∀ v ∈ ws,∃ i t,v=Value.int i t:=fun v hv=>by
  obtain ⟨i,hi,e⟩:=List.getElem_of_mem hv
  obtain ⟨t,_,e2⟩:=sh i v (by rw [List.getElem?_eq_getElem hi,e])
  exact ⟨_,t,e2⟩
 have ew:ws.map intOf=ks:=by
  apply List.ext_getElem?
  intro i
  rw [List.getElem?_map]
  cases hv:ws[i]? with
  | some v=>obtain ⟨t,e,_⟩:=sh i v hv; rw [e]; rfl
  | none =>
   rw [List.getElem?_eq_none_iff] at hv
   rw [List.getElem?_eq_none (by omega)]
   rfl
 have hI:=ck si
 rw [ew] at hI
 have hz':ws.length<=sizeLine:=by omega
 refine wpAny_bind (wpAny_newList ?_ hz')
 have hoL:(h1.push (seqObj "list" ws.toArray 0)).get? h1.objs.size=some (seqObj "list" ws.toArray 0):=Heap.get?_push_size _ rfl
 have kL:∀ b o,s.heap.get? b=some o->(h1.push (seqObj "list" ws.toArray 0)).get? b=some o:=fun b o e=>Heap.get?_push_of_some _ (k1 b o e)
 have C:gK X.prog X.w { s with heap:=h1,toks:=tk } ws mF intOf:=eA hI
 refine wpAny_bind (wpAny_holding (wpAny_call_entry slot_list_sort ⟨_,hoL,rfl⟩ entry_list_sort (dB (key:=intOf) (O:=mF) hoL hz' (fun h2 h6 k6 => ?_) fun out pm ps=>⟨_,rfl,?_⟩) (args_list_sort _)))
 ·exact C.ok h2 _ h6 fun b o e=>k6 b o (Nat.ne_of_lt (Heap.lt_size e)) (Heap.get?_push_of_some _ e)
 ·obtain ⟨n,en⟩:=sortedHeap_at (out:=out.toArray) hoL
  have hm:∀ v ∈ out,∃ i t,v=Value.int i t:=fun v hv=>si v (pm.mem_iff.mp hv)
  have hO:=ck hm
  have pm':(out.map intOf).Perm ks:=by
   have:=pm.map intOf
   rw [ew] at this
   exact this
  have kf:∀ b o,s.heap.get? b=some o->(sortedHeap (h1.push (seqObj "list" ws.toArray 0)) h1.objs.size ws out.toArray).get? b=some o:=fun b o e=>by
   have lt:=Nat.lt_of_lt_of_le (Heap.lt_size e) z1
   rw [sortedHeap_old (Nat.ne_of_lt lt) (by rw [size_push']; exact Nat.lt_succ_of_lt lt)]
   exact kL b o e
  have fr:H h1.objs.size=none:=I.hok.fresh z1
  refine wpAny_pure ⟨_,rfl,.ref h1.objs.size,_,I.laid (t':=tk) (o := .lst ((out.map intOf).map V.int)) kf z1 ⟨?_,out,n,cO hO,en⟩,rfl,q _ _ fr pm' ?_⟩
  ·rw [List.length_map,pm'.length_eq]; omega
  ·refine List.pairwise_map.mpr (ps.imp fun {x y} le => ?_)
   have le':decide (intOf y < intOf x)=false:=le
   have:=of_decide_eq_false le'
   omega
end
end L2
namespace HT
open PySem PySem.Spec PyProof.Rows
section
variable {prog:Program} {w:World} {A:Around} {E:Value->Shared->Prop} {s:Shared} {l:Addr} {xs:Array (Int × Tok)}
end
end HT
namespace L2
open PySem PyProof.Rows
section
variable {X:Cx} {K:PySem.W.Frag}
end
open PySem PyProof.Rows
section
variable {X:Cx}
def wQ (ns ms:List Int) (j:Nat):Bool:=ns.getD j 0 == ms.getD j 0
theorem oz {ns ms:List Int} (h:ns.length=ms.length):((List.range ns.length).all fun j=>wQ ns ms j)=decide (ns=ms):=by
 rw [Bool.eq_iff_iff,decide_eq_true_iff,List.all_eq_true]
 constructor
 ·intro hh
  refine List.ext_getElem h fun j h1 h2 => ?_
  have:=hh j (List.mem_range.mpr h1)
  unfold wQ at this
  rw [List.getD_eq_getElem?_getD,List.getD_eq_getElem?_getD,List.getElem?_eq_getElem h1,List.getElem?_eq_getElem h2] at this
  exact of_decide_eq_true (by simpa using this)
 ·rintro rfl j _
  exact beq_self_eq_true _
theorem intAt {ns:List Int} {us:List Value} (r:Vals (ns.map V.int) us) {j:Nat} (h:j < us.toArray.size):∃ t,us.toArray[j] = .int (ns.getD j 0) t:=by
 have l:=r.length
 rw [List.length_map] at l
 rw [List.size_toArray] at h
 have e1:(ns.map V.int)[j]? = some (.int (ns.getD j 0)):=by
  rw [List.getElem?_map,List.getD_eq_getElem?_getD,List.getElem?_eq_getElem (by omega)]
  rfl
 obtain ⟨u,g1,q1⟩:=r.get e1
 have f1:us.toArray[j]=u:=by simp [List.getElem?_eq_some_iff] at g1; obtain ⟨_,g⟩:=g1; simpa using g
 rw [f1]
 exact q1
theorem mU {k:Nat} (hr:cA k X.A):OpR X (compareOp .NotEq) (fun x y H Q=>∃ (a b:Addr) (ns ms:List Int),x = .ref a/\y = .ref b/\SqL X.K H a (ns.map V.int)/\SqL X.K H b (ms.map V.int)/\Q (.bl (!decide (ns=ms))) H):=by
 intro pins s σ H x y v u Q I rx ry h
 obtain ⟨a,b,ns,ms,rfl,rfl,h1,h2,q⟩:=h
 cases (show v=Value.ref a from rx)
 cases (show u=Value.ref b from ry)
 obtain ⟨its,r1,⟨⟨c1,d1,da1,sl1⟩,n1,e1,k1,_,k3⟩,_⟩:=I.list h1
 obtain ⟨its2,r2,⟨⟨c2,d2,da2,sl2⟩,n2,e2,g1,_,g3⟩,_⟩:=I.list h2
 simp only at k1 k3 g1 g3
 subst k1 k3 g1 g3
 have l1:=r1.length
 have l2:=r2.length
 rw [List.length_map] at l1 l2
 have hu:=hr.un
 have hu1:X.A.units < cLine:=by omega
 by_cases hl:ns.length=ms.length
 ·refine richCompare_meets_room (op := .NotEq) ⟨_,e1,rfl⟩ ⟨_,e2,rfl⟩ F.slot_list_ne F.entry_list_ne (F.args_list_ne_2 _ _) (SeqAt.list_neAt a b its.toArray its2.toArray n1 n2 d1 d2 sl1 sl2 (by rw [List.size_toArray,List.size_toArray]; omega) (wQ ns ms)) ⟨e1,e2,?_,?_⟩ hu1
  ·intro j h1 h2
   obtain ⟨t1,g1⟩:=intAt r1 h1
   obtain ⟨t2,g2⟩:=intAt r2 h2
   rw [g1,g2]
   exact SeqAt.EqAt.int_int _ t1 _ t2
  ·have ez:its.toArray.size=ns.length:=by rw [List.size_toArray]; omega
   rw [ez,oz hl]
   exact ⟨(fun z=>nomatch z),⟨.bl _,H,I,rfl,q⟩⟩
 ·have ne:ns ≠ ms:=fun z=>hl (by rw [z])
  rw [decide_eq_false ne] at q
  refine richCompare_meets_room (op := .NotEq) ⟨_,e1,rfl⟩ ⟨_,e2,rfl⟩ F.slot_list_ne F.entry_list_ne (F.args_list_ne_2 _ _) (SeqAt.list_ne_lengthsAt a b its.toArray its2.toArray n1 n2 d1 d2 sl1 sl2 (by simp; omega)) ⟨e1,e2,?_⟩ hu1
  exact ⟨(fun z=>nomatch z),⟨.bl true,H,I,rfl,q⟩⟩
end
end L2
namespace HT
open PySem PySem.Spec PyProof.Rows
section
variable {prog:Program} {w:World} {A:Around} {R:Result->Shared->Prop} {I:Addr} {fp wr:List Addr} {n:Nat} {P:Nat->Value->Prop} {St:Nat->Heap->Prop} {kw:List (Str × Value)}
end
section
variable {prog:Program} {w:World} {A:Around} {E:Value->Shared->Prop} {s:Shared} {l:Addr} {xs:Array (Int × Tok)}
end
end HT
namespace L2
open PySem PyProof.Rows
section
variable {X:Cx} {x:Str} {id:String} {e:Expr} {es:List Expr} {kws:List Keyword} {p pos:Pos} {t tk:TA} {ks:List Str} {r:List V->List V->Hp->VK->Prop}
end
open PySem PyProof.Rows
section
variable {X:Cx}
end
open PySem PyProof.Rows
section
variable {X:Cx}
def qO (ns ms:List Int) (j:Nat):Bool:=ns.getD j 0 == ms.getD j 0
theorem sr {ns ms:List Int} (h:ns.length=ms.length):((List.range ns.length).all fun j=>qO ns ms j)=decide (ns=ms):=by
 rw [Bool.eq_iff_iff,decide_eq_true_iff,List.all_eq_true]
 constructor
 ·intro hh
  refine List.ext_getElem h fun j h1 h2 => ?_
  have:=hh j (List.mem_range.mpr h1)
  unfold qO at this
  rw [List.getD_eq_getElem?_getD,List.getD_eq_getElem?_getD,List.getElem?_eq_getElem h1,List.getElem?_eq_getElem h2] at this
  exact of_decide_eq_true (by simpa using this)
 ·rintro rfl j _
  exact beq_self_eq_true _
theorem su {ns ms:List Int}:((List.range (min ns.length ms.length)).all (qO ns ms) && ns.length == ms.length)=decide (ns=ms):=by
 by_cases h:ns.length=ms.length
 ·rw [<- h,Nat.min_self,show (ns.length == ns.length)=true from beq_self_eq_true _,Bool.and_true]
  exact sr h
 ·have ne:ns ≠ ms:=fun z=>h (by rw [z])
  rw [decide_eq_false ne,show (ns.length == ms.length)=false from by simpa using h,Bool.and_false]
theorem uO {ns:List Int} {us:List Value} (r:Vals (ns.map V.int) us) {j:Nat} (h:j < us.toArray.size):∃ t,us.toArray[j] = .int (ns.getD j 0) t:=by
 have l:=r.length
 rw [List.length_map] at l
 rw [List.size_toArray] at h
 have e1:(ns.map V.int)[j]? = some (.int (ns.getD j 0)):=by
  rw [List.getElem?_map,List.getD_eq_getElem?_getD,List.getElem?_eq_getElem (by omega)]
  rfl
 obtain ⟨u,g1,q1⟩:=r.get e1
 have f1:us.toArray[j]=u:=by simp [List.getElem?_eq_some_iff] at g1; obtain ⟨_,g⟩:=g1; simpa using g
 rw [f1]
 exact q1
theorem wR {k:Nat} (hr:cA k X.A):OpR X (compareOp .Eq) (fun x y H Q=>∃ (a b:Addr) (ns ms:List Int),x = .ref a/\y = .ref b/\SqT X.K H a (ns.map V.int)/\SqT X.K H b (ms.map V.int)/\Q (.bl (decide (ns=ms))) H):=by
 intro pins s σ H x y v u Q I rx ry h
 obtain ⟨a,b,ns,ms,rfl,rfl,h1,h2,q⟩:=h
 cases (show v=Value.ref a from rx)
 cases (show u=Value.ref b from ry)
 obtain ⟨its,r1,p1,_⟩:=I.tuple h1
 obtain ⟨its2,r2,p2,_⟩:=I.tuple h2
 have l1:=r1.length
 have l2:=r2.length
 rw [List.length_map] at l1 l2
 have hu:=hr.un
 have hu1:X.A.units < cLine:=by omega
 have R:=SeqAt.RcAt.tuples (A:=X.A) (e:=qO ns ms) (show s.heap.IsTuple a its.toArray from p1) (show s.heap.IsTuple b its2.toArray from p2) hu1 (by
  intro j h1 h2
  obtain ⟨t1,g1⟩:=uO r1 h1
  obtain ⟨t2,g2⟩:=uO r2 h2
  rw [g1,g2]
  exact SeqAt.EqAt.int_int _ t1 _ t2)
 rw [List.size_toArray,List.size_toArray, <- l1, <- l2,su] at R
 exact R _ _ _ _ ⟨.bl _,H,I,rfl,q⟩
def Wd (i:Int):Prop:=i.natAbs < 2 ^ 4000
theorem Wd.bits {i:Int} (h:Wd i):Builtin.Int.intBits i<=2 ^ 20:=by
 unfold Builtin.Int.intBits
 split
 ·exact Nat.zero_le _
 ·have:i.natAbs.log2 < 4000:=by
   rcases Nat.eq_zero_or_pos i.natAbs with h0 | hp
   ·rw [h0]; decide
   ·exact (Nat.log2_lt (by omega)).mpr h
  omega
def zG (i j:Int):Prop:=Wd i/\Wd j
theorem mV:OpR X (binaryOp .Mult) (rI zG fun i j => .int (i * j)):=opI fun _ _ _ _ _ _ _ hc q=>mul_int q (IntMulOk.of_bits hc.1.bits hc.2.bits)
end
section
variable {P:Program} {w:World} {K:PySem.W.Frag} {mg:Str->Option Value} {base:Heap}
end
end L2
namespace L2.Rev
open PySem
open Sem (wp)
section
variable {prog:Program} {w:World} {A:Around} {E:Value->Shared->Prop} {s:Shared}
theorem uP:typeLookup (.type "list_reverseiterator") "__len__" = pure none:=by rw [typeLookup_type,builtinLookup_eq_fast]; kernel_rfl
theorem jU:typeLookup (.type "list_reverseiterator") "__length_hint__" = pure (some (.builtin "list_reverseiterator.__length_hint__")):=by rw [typeLookup_type,builtinLookup_eq_fast]; kernel_rfl
end
end L2.Rev
namespace L2
open PySem PySem.Spec PyProof.Rows
section
variable {X:Cx}
theorem i5:bootBuiltins "reversed" = some (.type "reversed"):=by decide +kernel
theorem oB:∀ {xs:List V} {us:List Value},Vals xs us->Vals xs.reverse us.reverse
 | [],[],_ => .nil
 | x :: xs,u :: us,.cons h t=>by
  rw [List.reverse_cons,List.reverse_cons]
  exact (oB t).append (.cons h .nil)
end
end L2
namespace L2.Rem
open PySem PySem.SeqAt PySem.MeetsSeq
open AutoSeq1 (wpAny_loadPart')
end L2.Rem
namespace L2
open PySem PySem.Spec PyProof.Rows
section
variable {X:Cx}
theorem any_range {bs:List Bool}:((List.range bs.length).any fun i=>bs.getD i false)=bs.any id:=by
 rw [Bool.eq_iff_iff,List.any_eq_true,List.any_eq_true]
 constructor
 ·rintro ⟨i,hi,h⟩
  have lt:=List.mem_range.mp hi
  rw [List.getD_eq_getElem?_getD,List.getElem?_eq_getElem lt] at h
  exact ⟨bs[i],List.getElem_mem lt,h⟩
 ·rintro ⟨b,hb,h⟩
  obtain ⟨i,lt,e⟩:=List.getElem_of_mem hb
  refine ⟨i,List.mem_range.mpr lt,?_⟩
  rw [List.getD_eq_getElem?_getD,List.getElem?_eq_getElem lt,e]
  exact h
theorem oD (hc:X.calm=true):bu X (.builtin "any") (fun xs H Q=>∃ (p:Addr) (bs:List Bool),xs=[.ref p]/\SqL X.K H p (bs.map V.bl)/\Q (.bl (bs.any id)) H):=by
 intro pins s σ H xs us Q I r h
 obtain ⟨p,bs,rfl,hs,q⟩:=h
 obtain ⟨u,rfl,ru⟩:=vals1 r
 cases (show u=Value.ref p from ru)
 obtain ⟨its,rv,pl,hz⟩:=I.list hs
 have l:=rv.length
 rw [List.length_map] at l
 have hpl:p < s.heap.objs.size:=by obtain ⟨o,_,e,_⟩:=pl; exact Heap.lt_size e
 refine call_any_walk (wpAny_pyIter_list pl.isList ?_)
 have hd:X.A.in1.handled=none:=I.ok.hd hc
 refine ⟨s.heap.objs.size,_,_,_,_,_,_,rfl,Walks.list hd s.heap.objs.size p (Nat.ne_of_lt hpl) its.toArray,⟨⟨_,Heap.get?_push_size _ rfl,rfl,rfl⟩,?_⟩,iX rv,fun h' tk k => ?_⟩
 ·exact pl.isList.at fun o e=>Heap.get?_push_of_some _ e
 ·have e:((List.range its.toArray.size).any fun i=>bs.getD i false)=bs.any id:=by rw [List.size_toArray, <- l,any_range]
  rw [e]
  refine ⟨.bl (bs.any id),H,I.kept (t':=tk) (fun b o eb=>k b o ?_ (Heap.get?_push_of_some _ eb)),rfl,q⟩
  intro hb
  have:b=s.heap.objs.size:=by simpa using hb
  exact absurd (Heap.lt_size eb) (by rw [this]; exact Nat.lt_irrefl _)
theorem op_neTE {k:Nat} (hr:cA k X.A):OpR X (compareOp .NotEq) (fun x y H Q=>∃ a b xs ys,x = .ref a/\y = .ref b/\SqT X.K H a xs/\SqT X.K H b ys/\Paired (cZ X.K H 20) xs ys/\Q (.bl false) H):=by
 intro pins s σ H x y v u Q I rx ry h
 obtain ⟨a,b,xs,ys,rfl,rfl,h1,h2,p,q⟩:=h
 cases (show v=Value.ref a from rx)
 cases (show u=Value.ref b from ry)
 obtain ⟨its,r1,p1,_⟩:=I.tuple h1
 obtain ⟨its2,r2,p2,_⟩:=I.tuple h2
 have l1:=r1.length
 have l2:=r2.length
 have pl:=Paired.length p
 have hu:=hr.un
 have hu1:X.A.units < cLine:=by omega
 have R:=SeqAt.RcNeAt.tuples (A:=X.A) (e:=fun _=>true) (show s.heap.IsTuple a its.toArray from p1) (show s.heap.IsTuple b its2.toArray from p2) hu1 (bX p r1 r2 fun x y u v h1 h2 h3=>fK I 20 _ x y u v (by show X.A.units + 1 + _ < cLine; omega) h1 h2 h3)
 rw [List.size_toArray,List.size_toArray, <- l1, <- l2,pl,Nat.min_self,beq_self_eq_true,all_true] at R
 exact R _ _ _ _ ⟨.bl false,H,I,rfl,q⟩
theorem wU {k:Nat} (hr:cA k X.A):OpR X (compareOp .Eq) (fun x y H Q=>∃ a b xs ys,x = .ref a/\y = .ref b/\SqL X.K H a xs/\SqL X.K H b ys/\Paired (cZ X.K H 20) xs ys/\Q (.bl true) H):=by
 intro pins s σ H x y v u Q I rx ry h
 obtain ⟨a,b,xs,ys,rfl,rfl,h1,h2,p,q⟩:=h
 cases (show v=Value.ref a from rx)
 cases (show u=Value.ref b from ry)
 obtain ⟨its,r1,p1,_⟩:=I.list h1
 obtain ⟨its2,r2,p2,_⟩:=I.list h2
 have l1:=r1.length
 have l2:=r2.length
 have pl:=Paired.length p
 have hu:=hr.un
 have hu1:X.A.units < cLine:=by omega
 have R:=SeqAt.RcAt.lists (A:=X.A) (e:=fun _=>true) p1.isList p2.isList (by rw [List.size_toArray,List.size_toArray, <- l1, <- l2,pl]) hu1 (bX p r1 r2 fun x y u v h1 h2 h3=>fK I 20 _ x y u v (by show X.A.units + 1 + _ < cLine; omega) h1 h2 h3)
 rw [all_true] at R
 exact R _ _ _ _ ⟨.bl true,H,I,rfl,q⟩
end
open PySem PySem.Spec PyProof.Rows
section
variable {X:Cx}
end
open PySem PySem.Spec PyProof.Rows
section
variable {X:Cx}
theorem oE:bu X (.builtin "len") (fun xs H Q=>∃ (a:Addr) (ys:List V),xs=[.ref a]/\H a=some (bO X.w a ys)/\ys.length < 1000/\Q (.int ys.length) H):=by
 intro pins s σ H xs us Q I r h
 obtain ⟨a,ys,rfl,ha,hl,q⟩:=h
 obtain ⟨u,rfl,ru⟩:=vals1 r
 cases (show u=Value.ref a from ru)
 obtain ⟨⟨es,⟨ep,t,ho,T,_⟩,rv⟩,_⟩:=(show aY X.prog X.w H s.heap a (bO X.w a ys) from I.hok a _ ha)
 have l:=rv.length
 have l2:es.size=ys.length:=by simpa using l.symm
 refine call_len_set ho ⟨rfl,rfl,rfl⟩ rfl (by have:=T.fits; rwa [Array.size_map] at this) (by omega) ?_
 rw [l2]
 exact ⟨.int ys.length,H,I.tok _,⟨_,rfl⟩,q⟩
end
open PySem PySem.Spec PyProof.Rows
theorem Inv.sv {X:Cx} {pins:List (Addr × Obj)} {σ:St} {H:Hp} {s:Shared} {h':Heap} {t':Nat} {ch:List Addr} (I:Inv X pins σ H s) (f:∀ b ∈ ch,iz X pins H b)
  (k:∀ b ob,b ∉ ch->s.heap.get? b=some ob->h'.get? b=some ob):Inv X pins σ H { s with heap:=h',toks:=t' }:=by
 have nit:∀ b u,H b=some u->b ∉ ch:=fun b u e z=>by have:=(f b z).1; rw [this] at e; cases e
 refine I.step (g':=s.gens) (d':=s.drawn) (ch:=ch) (fun b hb => ?_) (fun b o _ _ hc e _=>k b o hc e) (fun b o _ _ hc e _=>⟨o.slots,k b o hc e⟩) (fun _ _ _ _ n=>n)
  (fun b o hc e=>⟨o,k b o hc e⟩) (fun _ _ e=>e) (fun _ _ _ e=>e) (fun b ps e=>⟨#[],by rw [e]; simp⟩) (fun m hm => ?_) (fun b u e => ?_) I.bare
 ·obtain ⟨g0,g1,g2,g3,g4,g5⟩:=f b hb
  exact ⟨g3,g1,g4,g5⟩
 ·obtain ⟨o,es,ep,ho,r⟩:=hm
  exact ⟨o,es,ep,k _ o (fun z=>(f _ z).2.1 rfl) ho,r⟩
 ·refine (I.hok b u e).stay (fun c v hc q=>k c v ?_ q) (fun _ q=>q) fun _ _ q=>q
  rcases hc with z | z
  ·rw [z]; exact nit b u e
  ·exact nit c _ z
theorem yG (n a b:Nat) (h1:a < n) (h2:b < n):ZipApart (n + 4) (n + 2) (n + 3) n (n + 1) a b :=
  ⟨fun z=>absurd (show n + 2=n + 4 from z) (by omega),fun z=>absurd (show n + 3=n + 4 from z) (by omega),fun z=>absurd (show n=n + 4 from z) (by omega),fun z=>absurd (show n + 1=n + 4 from z) (by omega),fun z=>absurd (show n + 2=n + 3 from z) (by omega),fun z=>absurd (show n + 2=n from z) (by omega),fun z=>absurd (show n + 2=n + 1 from z) (by omega),fun z=>absurd (show n + 3=n from z) (by omega),fun z=>absurd (show n + 3=n + 1 from z) (by omega),fun z=>absurd (show n=n + 1 from z) (by omega),
   fun z=>absurd (show a=n + 4 from z) (by omega),fun z=>absurd (show a=n + 3 from z) (by omega),fun z=>absurd (show a=n from z) (by omega),fun z=>absurd (show a=n + 1 from z) (by omega),fun z=>absurd (show b=n + 4 from z) (by omega),fun z=>absurd (show b=n + 3 from z) (by omega),fun z=>absurd (show b=n from z) (by omega),fun z=>absurd (show b=n + 1 from z) (by omega)⟩
theorem boot_zip:bootBuiltins "zip" = some (.type "zip"):=by decide +kernel
section
variable {X:Cx}
end
open PySem PySem.Spec PyProof.Rows
def Itd (d:Addr) (ob:Obj) (kvs:List (Key × V)) (ks:List Int):It :=
 ⟨fun i H=>H d=some (.frz ob (.dK kvs))/\∃ k,ks[i]? = some k,fun i H x H'=>H'=H/\∃ k,ks[i]? = some k/\x = .int k,fun i H=>H d=some (.frz ob (.dK kvs))/\ks.length<=i⟩
theorem sA {P:Program} {w:World} {K:PySem.W.Frag} {tg:Expr} {kvs:List (Key × V)} {ks:List Int} {vs:List (Key × Value)} {ep:Nat} {ob:Obj} {h0:Heap} (d it:Addr) (hm:h0.DictAt (bg P w) d vs ep) (ho:h0.get? d=some ob) (keys:vs.map (·.1)=ks.map Sum.inl) :
  Turn P w K tg (Itd d ob kvs ks) [it] it (fun i h=>h.IsKeyIter it d i vs.length ep) where
 mem:=by simp
 obj:=fun i h st b hb=>by
  have e:b=it:=by simpa using hb
  subst e
  obtain ⟨o,e,c,d⟩:=st
  exact ⟨o,e,fun v z=>by rw [d] at z; cases z⟩
 keep:=fun i h h' st k=>by
  obtain ⟨o,e,r⟩:=st
  exact ⟨o,k it (by simp) o e,r⟩
 item:=by
  intro X hP hw hK hc i pins s σ H E I hf st hg
  subst hP hw hK
  obtain ⟨hd,k,hk⟩:=hg
  have e1:s.heap.get? d=some ob:=(show aY X.prog X.w H s.heap d (.frz ob (.dK kvs)) from I.hok d _ hd).1
  have hm1:s.heap.DictAt (bg X.prog X.w) d vs ep:=by
   obtain ⟨o,es,h1,r⟩:=hm
   rw [ho] at h1
   cases h1
   exact ⟨ob,es,e1,r⟩
  obtain ⟨f0,f1,f2,f3,f4,f5⟩:=hf it (by simp)
  obtain ⟨kv,hx,hkv⟩:∃ kv,vs[i]? = some kv/\kv.1=Sum.inl k:=by
   have e3:(vs.map (·.1))[i]? = some (Sum.inl k):=by rw [keys,List.getElem?_map,hk]; rfl
   rw [List.getElem?_map] at e3
   cases hv:vs[i]? with
   | none=>rw [hv] at e3; cases e3
   | some kv=>rw [hv] at e3; exact ⟨kv,rfl,by injection e3⟩
  obtain ⟨k',x⟩:=kv
  have hkv':k'=Sum.inl k:=hkv
  subst hkv'
  refine wpAny_pyNext_dict_item st hm1 hx fun key h' ik st' sb => ?_
  obtain ⟨t,rfl⟩:=Value.isInt_shape (show Value.isInt k key=true from ik)
  have I1:Inv X pins σ H { s with heap:=h' }:=I.turned (t':=s.toks) (fun b o hb e=>(sb.2 b hb).trans e) f0 f1 f3 f4 f5
  obtain ⟨o,e,c,dd⟩:=id st'
  exact ⟨_,rfl,qr (s:={ s with heap:=h' }) e c dd (by decide) ⟨.int k,H,I1,⟨_,rfl⟩,⟨rfl,k,hk,rfl⟩,st',fun b hb=>(hf b hb).1⟩⟩
 done:=by
  intro X hP hw hK hc i pins s σ H E I hf st hg
  subst hP hw hK
  obtain ⟨hd,hl⟩:=hg
  have e1:s.heap.get? d=some ob:=(show aY X.prog X.w H s.heap d (.frz ob (.dK kvs)) from I.hok d _ hd).1
  have hm1:s.heap.DictAt (bg X.prog X.w) d vs ep:=by
   obtain ⟨o,es,h1,r⟩:=hm
   rw [ho] at h1
   cases h1
   exact ⟨ob,es,e1,r⟩
  obtain ⟨f0,f1,f2,f3,f4,f5⟩:=hf it (by simp)
  have lv:vs.length=ks.length:=by have:=congrArg List.length keys; simpa using this
  exact wpAny_pyNext_dict_end (I.ok.hd hc) st hm1 (List.getElem?_eq_none_iff.mpr (by omega)) fun h' eb=>⟨rfl,I.turned (t':=s.toks) (fun b o hb e=>eb b o hb e) f0 f1 f3 f4 f5⟩
 self:=fun _ _ _ _ _ st h=>wpAny_pyIter_keyiter st h
theorem Inv.freeze {X:Cx} {pins:List (Addr × Obj)} {σ:St} {H:Hp} {s:Shared} {d:Addr} {ob:Obj} {kvs:List (Key × V)} (I:Inv X pins σ H s) (hd:H d=some (.dK kvs)) (ho:s.heap.get? d=some ob):Inv X pins σ (upd H d (.frz ob (.dK kvs))) s:=by
 have tt:∀ b xs,H b=some (.tup xs)->upd H d (.frz ob (.dK kvs)) b=some (.tup xs):=fun b xs e=>by rw [aq (eN e hd (by intro z; cases z))]; exact e
 have oo:∀ b,H b=none->upd H d (.frz ob (.dK kvs)) b=none:=fun b e=>by
  rw [aq (fun z=>by rw [z,hd] at e; cases e)]; exact e
 refine I.step (g':=s.gens) (d':=s.drawn) (t':=s.toks) (h':=s.heap) (ch:=[]) (fun _ z=>nomatch z) (fun b o _ _ _ e _=>e) (fun b o _ _ _ e _=>⟨o.slots,e⟩) (fun b o _ _ n=>oo b n) (fun b o _ e=>⟨o,e⟩) tt (fun b o u e=>by rw [aq (eN e hd (by intro z; cases z))]; exact e)
  (fun b ps e=>⟨#[],by rw [aq (eN e hd (by intro z; cases z)),e]; simp⟩) (fun _ m=>m) (fun b u e => ?_) I.bare
 by_cases hb:b=d
 ·subst hb
  rw [ae] at e
  cases e
  exact ⟨ho,(show aY X.prog X.w H s.heap b (.dK kvs) from I.hok b _ hd)⟩
 ·rw [aq hb] at e
  refine (I.hok b u e).stay (fun c v _ q=>q) (fun c q => ?_) fun c xs q=>tt c xs q
  rw [aq (eN q hd (by intro z; cases z))]; exact q
def iDct (tl:TE):TI:=fun σ H R=>tl σ H fun x H1=>∃ d kvs ks,x = .ref d/\H1 d=some (.dK kvs)/\kvs.map (·.1)=ks.map Sum.inl/\∀ ob,R (Itd d ob kvs ks) (upd H1 d (.frz ob (.dK kvs)))
theorem wV {X:Cx} {tg l:Expr} {tl:TE} (hl:PE X l tl):PI X tg l (iDct tl):=by
 intro pins s σ H R I h
 refine thn (hl pins s σ H _ I h) fun v s1 ⟨x,H1,I1,r1,q1⟩ => ?_
 obtain ⟨d,kvs,ks,e,hd,ek,q⟩:=q1
 subst e
 cases r1
 obtain ⟨z,hsys,vs,rel,dd⟩:=qN I1.hok hd
 obtain ⟨ep,dd⟩:=dd.dictAt
 obtain ⟨ob,es,ho,_⟩:=id dd
 refine wpAny_pyIter_dict hsys dd ?_
 have I2:=I1.freeze hd ho
 have keys:vs.map (·.1)=ks.map Sum.inl:=by rw [mR rel,ek]
 refine ⟨s1.heap.objs.size,[s1.heap.objs.size],_,_,_,rfl,I2.kept (t':=s1.toks) fun b o e=>Heap.get?_push_of_some _ e,sA (kvs:=kvs) (ob:=ob) d _ dd ho keys,⟨_,Heap.get?_push_size _ rfl,rfl,rfl⟩,fun b hb => ?_,q ob⟩
 have e:b=s1.heap.objs.size:=by simpa using hb
 subst e
 exact I2.rA (Nat.le_refl _) (I2.hok.fresh (Nat.le_refl _))
theorem qa {d:Addr} {ob:Obj} {kvs:List (Key × V)} {ks:List Int} {k:Nat} {tc:TT} {te:TE} {τ : St} {H:Hp} {Q:VK} (Pv:Nat->List V->Hp->Prop) (h0:Pv 0 [] H) (hz:ks.length<=sizeLine)
  (hl:∀ i ys H,i<=ks.length->Pv i ys H->H d=some (.frz ob (.dK kvs))) (hs:∀ i x ys H,ks[i]? = some x->ys.length<=i->Pv i ys H->nL k tc te τ Pv i (.int x) ys H)
  (hd:∀ ys H,ys.length<=ks.length->Pv ks.length ys H->∀ l,H l=none->Q (.ref l) (upd H l (.lst ys))) :
  iV (Itd d ob kvs ks) (eO k) tc te τ Q H:=by
 refine ⟨fun i m σ ys H=>m=ks.length - i/\i<=ks.length/\(∀ x,σ.set k (some x) = τ.set k (some x))/\ys.length<=i/\Pv i ys H,⟨ks.length,by simp,Nat.zero_le _,fun _=>rfl,Nat.le_refl _,h0⟩,?_⟩
 rintro i m σ ys H ⟨rfl,hi,hτ,hy,p⟩
 have q:=hl i ys H hi p
 by_cases hlt:i < ks.length
 ·refine .inr ⟨⟨q,ks[i],by simp [hlt]⟩,fun x H' y => ?_⟩
  obtain ⟨e,n,hn,rfl⟩:=y
  subst e
  show tc (σ.set k (some _)) _ _
  rw [hτ (.int n)]
  have hσ:∀ z,(τ.set k (some (.int n))).set k (some z) = τ.set k (some z):=fun z=>by rw [List.set_set]
  refine hs i n ys _ hn hy p _ _ (fun y4 H4 p4=>⟨by omega,ks.length - (i + 1),by omega,rfl,hlt,hσ,by rw [List.length_append,List.length_singleton]; omega,p4⟩) fun H3 p3=>⟨ks.length - (i + 1),by omega,rfl,hlt,hσ,by omega,p3⟩
 ·have e:i=ks.length:=by omega
  subst e
  exact .inl ⟨⟨q,Nat.le_refl _⟩,by omega,hd ys H hy p⟩
theorem dI.kF {H:Hp} {a:Addr} {ob:Obj} {kvs:List (Key × V)} {k:Key} (e:H a=some (.frz ob (.dK kvs))):dI H a (kV k) (eS kvs k) := .inl ⟨kvs,k,.inr ⟨ob,e⟩,rfl,rfl⟩
open PySem PySem.Spec PyProof.Rows
variable {X:Cx}
open PySem PySem.Spec PyProof.Rows
section
variable {X:Cx}
def qP (K:PySem.W.Frag):R2:=fun x y H Q=>∃ a b xs ys,x = .ref a/\y = .ref b/\SqT K H a xs/\SqT K H b ys/\xs.length + ys.length<=sizeLine/\(xs=[]->Q (.ref b) H)/\(ys=[]->Q (.ref a) H)/\(xs ≠ []->ys ≠ []->∀ p,H p=none->Q (.ref p) (upd H p (.tup (xs ++ ys))))
theorem uQ:OpR X (binaryOp .Add) (qP X.K):=by
 intro pins s σ H x y v u Q I rx ry h
 obtain ⟨a,b,xs,ys,rfl,rfl,ha,hb,hz,q1,q2,q3⟩:=h
 by_cases hx:xs=[]
 ·cases rx
  cases ry
  obtain ⟨its,r1,p1,_⟩:=I.tuple ha
  obtain ⟨its2,r2,p2,_⟩:=I.tuple hb
  obtain ⟨⟨c1,d1,da1,s1⟩,o1,k1,n1,g1⟩:=id p1
  obtain ⟨⟨c2,d2,da2,s2⟩,o2,k2,n2,g2⟩:=id p2
  simp only at k1 g1 k2 g2
  subst k1 g1 k2 g2
  have e0:its=[]:=r1.jf.mpr hx
  exact concat_meets ⟨_,o1,rfl⟩ ⟨_,o2,rfl⟩ noFill_tuple_add seq_tuple_add PySem.F.slot_tuple_add PySem.F.entry_tuple_add (PySem.F.args_tuple_add_2 _ _)
   (tuple_addW0 a b its.toArray its2.toArray n1 n2 d1 d2 s1 s2 (by simp [e0])) ⟨o1,o2,⟨.ref b,H,I,rfl,q1 hx⟩⟩
 ·exact v5 pins s σ H _ _ v u Q I rx ry ⟨a,b,xs,ys,rfl,rfl,ha,hb,hx,hz,q2,fun hy=>q3 hx hy⟩
theorem qP.one {K:PySem.W.Frag} {H:Hp} {Q:VK} {a b:Addr} {xs ys:List V} (ha:H a=some (.tup xs)) (hb:H b=some (.tup ys)) (hz:xs.length + ys.length<=sizeLine) (q:∀ p H',aL H H'->H' p=some (.tup (xs ++ ys))->Q (.ref p) H'):qP K (.ref a) (.ref b) H Q:=by
 refine ⟨a,b,xs,ys,rfl,rfl,SqT.of ha,SqT.of hb,hz,fun z => ?_,fun z => ?_,fun _ _ p hp=>q p _ (af hp _) ae⟩
 ·subst z; exact q b H (aL.refl _) hb
 ·subst z; exact q a H (aL.refl _) (by rw [List.append_nil]; exact ha)
end
open PySem PySem.Spec PyProof.Rows
def ItB:Bool->Heap->Addr->Addr->Nat->Prop
 | true,h,it,l,i=>h.IsListIter it l i
 | false,h,it,l,i=>h.IsTupleIter it l i
def SB':Bool->Heap->Addr->Array Value->Prop
 | true,h,l,xs=>h.IsList l xs
 | false,h,l,xs=>h.IsTuple l xs
theorem ItB.to {b:Bool} {h h':Heap} {it l:Addr} {i:Nat} (x:ItB b h it l i) (k:∀ o,h.get? it=some o->h'.get? it=some o):ItB b h' it l i:=by
 cases b
 ·exact Heap.IsTupleIter.at (show h.IsTupleIter it l i from x) k
 ·exact Heap.IsListIter.at (show h.IsListIter it l i from x) k
theorem SB'.to {b:Bool} {h h':Heap} {l:Addr} {xs:Array Value} (x:SB' b h l xs) (k:∀ o,h.get? l=some o->h'.get? l=some o):SB' b h' l xs:=by
 cases b
 ·obtain ⟨o,e,r⟩:=(show h.IsTuple l xs from x); exact ⟨o,k o e,r⟩
 ·obtain ⟨o,e,r⟩:=(show h.IsList l xs from x); exact ⟨o,k o e,r⟩
theorem ItB.lt {b:Bool} {h:Heap} {it l:Addr} {i:Nat} (x:ItB b h it l i):it < h.objs.size:=by
 cases b
 ·obtain ⟨o,e,_⟩:=(show h.IsTupleIter it l i from x); exact Heap.lt_size e
 ·obtain ⟨o,e,_⟩:=(show h.IsListIter it l i from x); exact Heap.lt_size e
theorem ItB.obj {b:Bool} {h:Heap} {it l:Addr} {i:Nat} (x:ItB b h it l i):∃ o,h.get? it=some o/\∀ v,o.data ≠ .cell v:=by
 cases b
 ·obtain ⟨o,e,_,d⟩:=(show h.IsTupleIter it l i from x); exact ⟨o,e,fun v z=>by rw [d] at z; cases z⟩
 ·obtain ⟨o,e,_,d⟩:=(show h.IsListIter it l i from x); exact ⟨o,e,fun v z=>by rw [d] at z; cases z⟩
section
variable {prog:Program} {w:World} {A:Around} {E:Value->Shared->Prop} {s:Shared}
theorem uS {b:Bool} {it l:Addr} {i:Nat} {xs:Array Value} {x:Value} {Q:Value->Shared->Prop} (hi:ItB b s.heap it l i) (hl:SB' b s.heap l xs) (hx:xs[i]? = some x)
  (q:∀ h',ItB b h' it l (i + 1)->Heap.SameBut it s.heap h'->Q x { s with heap:=h' }):wpAny (model prog w) A (Builtin.SmallTypes.nextOf (.ref it)) Q E s:=by
 cases b
 ·exact pL hi hl hx q
 ·exact wpAny_nextOf_list_item hi hl hx q
theorem lM {b:Bool} {it l:Addr} {i:Nat} {xs:Array Value} {Q:Value->Shared->Prop} (hh:A.handled=none) (hi:ItB b s.heap it l i) (hl:SB' b s.heap l xs) (hx:xs[i]? = none)
  (q:∀ h' e,Heap.ExtBut it s.heap h'->(∃ o,h'.get? e=some o/\o.cls = .type "StopIteration")->E (.ref e) { s with heap:=h' }):wpAny (model prog w) A (Builtin.SmallTypes.nextOf (.ref it)) Q E s:=by
 cases b
 ·exact jE hh hi hl hx q
 ·exact wpAny_nextOf_list_end hh hi hl hx q
theorem sC {c d:Bool} {z TI TO i1 i2 l1 l2:Addr} {k1 k2:Nat} {xs ys:Array Value} {x y a b:Value} {Q:Value->Shared->Prop} (D:ZipApart z TI TO i1 i2 l1 l2)
  (hz:IsZip s.heap z TI TO .none) (hTI:IsPair s.heap TI (.ref i1) (.ref i2)) (hTO:IsPair s.heap TO a b)
  (j1:ItB c s.heap i1 l1 k1) (j2:ItB d s.heap i2 l2 k2) (m1:SB' c s.heap l1 xs) (m2:SB' d s.heap l2 ys) (hx:xs[k1]? = some x) (hy:ys[k2]? = some y)
  (hQ:∀ h',IsZip h' z TI TO (rawInt s.heap.objs.size)->IsPair h' TO x y->ItB c h' i1 l1 (k1 + 1)->ItB d h' i2 l2 (k2 + 1)->IsPair h' s.heap.objs.size x y->h'.objs.size=s.heap.objs.size + 1 →
   (∀ c o,c ≠ z->c ≠ TO->c ≠ i1->c ≠ i2->s.heap.get? c=some o->h'.get? c=some o)->Q (.ref s.heap.objs.size) { s with heap:=h' }) :
  wpAny (model prog w) A (Builtin.«zip.__next__» ⟨[.ref z],[]⟩) (fun fin s'=>∃ v,fin = .done (.ret v)/\Q v s') E s:=by
 show wpAny _ _ (field (.ref z) 2 >>= _) _ _ _; refine wpAny_bind (wpAny_field hz rfl (x := .bool false) rfl ?_)
 show wpAny _ _ (field (.ref z) 3 >>= _) _ _ _; refine wpAny_bind (wpAny_field hz rfl (x := .ref TI) rfl ?_)
 refine wpAny_bind (wpAny_seqItems hTI rfl ?_); show wpAny _ _ (Builtin.SmallTypes.ownedTupleIsFree (.ref z) >>= _) _ _ _
 refine wpAny_bind ?_; unfold Builtin.SmallTypes.ownedTupleIsFree
 refine wpAny_bind (wpAny_field hz rfl (x := .none) rfl (wpAny_pure ?_)); simp only [if_true]
 refine wpAny_bind (wpAny_rule ?_); refine wpAny_bind (wpAny_field hz rfl (x := .ref TO) rfl ?_)
 refine wpAny_bind (wpAny_setField_rec hz (by simp) fun g1 hz1 s1 => ?_); replace hz1:IsZip g1 z TI TO .ellipsis:=hz1
 refine wpAny_bind ?_; simp only [List.zipIdx_cons,List.zipIdx_nil,List.forIn_cons,List.forIn_nil]
 refine wpAny_bind (wpAny_bind (wpAny_onRaise ?_)); show wpAny _ _ (Builtin.SmallTypes.nextOf (.ref i1) >>= _) _ _ _
 refine wpAny_bind (uS (j1.to fun o e=>s1.extBut _ _ D.i1z e) (m1.to fun o e=>s1.extBut _ _ D.l1z e) hx fun g2 j1' s2=>wpAny_pure ?_)
 have t2:IsPair g2 TO a b:=s2.extBut _ _ D.TOi1 (s1.extBut _ _ D.TOz hTO)
 refine wpAny_bind (wpAny_seqItems t2 rfl ?_); refine wpAny_bind (wpAny_updateSeq_pair t2 fun g3 t3 s3 => ?_)
 replace t3:IsPair g3 TO x b:=t3; refine wpAny_bind (wpAny_letGo (wpAny_pure ?_))
 refine wpAny_bind (wpAny_bind (wpAny_onRaise ?_)); show wpAny _ _ (Builtin.SmallTypes.nextOf (.ref i2) >>= _) _ _ _
 refine wpAny_bind (uS (((j2.to fun o e=>s1.extBut _ _ D.i2z e).to fun o e=>s2.extBut _ _ D.i12.symm e).to fun o e=>s3.extBut _ _ D.TOi2.symm e) (((m2.to fun o e=>s1.extBut _ _ D.l2z e).to fun o e=>s2.extBut _ _ D.l2i1 e).to fun o e=>s3.extBut _ _ D.l2TO e) hy fun g4 j2' s4=>wpAny_pure ?_)
 have t4:IsPair g4 TO x b:=s4.extBut _ _ D.TOi2 t3
 refine wpAny_bind (wpAny_seqItems t4 rfl ?_); refine wpAny_bind (wpAny_updateSeq_pair t4 fun g5 t5 s5 => ?_)
 replace t5:IsPair g5 TO x y:=t5; refine wpAny_bind (wpAny_letGo (wpAny_pure (wpAny_pure ?_)))
 refine wpAny_bind (wpAny_seqItems t5 rfl ?_); refine wpAny_bind (wpAny_newTuple ?_)
 have sz:g5.objs.size=s.heap.objs.size:=by rw [s5.1,s4.1,s3.1,s2.1,s1.1]
 have z5:IsZip g5 z TI TO .ellipsis:=s5.extBut _ _ D.TOz.symm (s4.extBut _ _ D.i2z.symm (s3.extBut _ _ D.TOz.symm (s2.extBut _ _ D.i1z.symm hz1)))
 have k5:∀ c o,c ≠ z->c ≠ TO->c ≠ i1->c ≠ i2->s.heap.get? c=some o->g5.get? c=some o:=fun c o c1 c2 c3 c4 e=>s5.extBut _ _ c2 (s4.extBut _ _ c4 (s3.extBut _ _ c2 (s2.extBut _ _ c3 (s1.extBut _ _ c1 e))))
 have n1:ItB c g5 i1 l1 (k1 + 1):=((j1'.to fun o e=>s3.extBut _ _ D.TOi1.symm e).to fun o e=>s4.extBut _ _ D.i12 e).to fun o e=>s5.extBut _ _ D.TOi1.symm e
 have n2:ItB d g5 i2 l2 (k2 + 1):=j2'.to fun o e=>s5.extBut _ _ D.TOi2.symm e
 have zl:z < g5.objs.size:=Heap.lt_size z5
 show wpAny _ _ (Builtin.SmallTypes.ownedTupleHandOut (.ref z) (.ref g5.objs.size) >>= _) _ _ _; refine wpAny_bind ?_
 unfold Builtin.SmallTypes.ownedTupleHandOut
 have z6:IsZip (g5.push { cls := .type "tuple",data := .seq #[x,y] }) z TI TO .ellipsis:=Heap.get?_push_of_some _ z5
 refine wpAny_bind (wpAny_setField_rec z6 (by simp) fun g7 z7 s7 => ?_); replace z7:IsZip g7 z TI TO (rawInt g5.objs.size):=z7
 refine wpAny_setField_rec z7 (by simp) fun g8 z8 s8 => ?_; replace z8:IsZip g8 z TI TO (rawInt g5.objs.size):=z8
 have up:∀ c o,c ≠ z->g5.get? c=some o->g8.get? c=some o:=fun c o c1 e=>s8.extBut _ _ c1 (s7.extBut _ _ c1 (Heap.get?_push_of_some _ e))
 have p8:IsPair g8 g5.objs.size x y:=s8.extBut _ _ (Nat.ne_of_gt zl) (s7.extBut _ _ (Nat.ne_of_gt zl) (Heap.get?_push_size _ rfl))
 have e8:g8.objs.size=g5.objs.size + 1:=by rw [s8.1,s7.1,Heap.size_push]
 rw [sz] at z8 p8 e8
 refine wpAny_pure ⟨_,rfl,?_⟩; show Q (.ref g5.objs.size) _; rw [sz]
 exact hQ g8 z8 (up _ _ D.TOz t5) (n1.to fun o e=>up _ o D.i1z e) (n2.to fun o e=>up _ o D.i2z e) p8 e8 fun c o c1 c2 c3 c4 e=>up c o c1 (k5 c o c1 c2 c3 c4 e)
theorem uT {c d:Bool} {z TI TO i1 i2 l1 l2:Addr} {k1 k2:Nat} {xs ys:Array Value} {a b:Value} {Q:Fin->Shared->Prop} (hh:A.handled=none) (D:ZipApart z TI TO i1 i2 l1 l2)
  (hz:IsZip s.heap z TI TO .none) (hTI:IsPair s.heap TI (.ref i1) (.ref i2)) (hTO:IsPair s.heap TO a b)
  (j1:ItB c s.heap i1 l1 k1) (j2:ItB d s.heap i2 l2 k2) (m1:SB' c s.heap l1 xs) (m2:SB' d s.heap l2 ys) (hend:xs[k1]? = none\/ys[k2]? = none)
  (hE:∀ h' e,(∀ c o,c ≠ z->c ≠ TO->c ≠ i1->c ≠ i2->s.heap.get? c=some o->h'.get? c=some o)->(∃ o,h'.get? e=some o/\o.cls = .type "StopIteration")->E (.ref e) { s with heap:=h' }) :
  wpAny (model prog w) A (Builtin.«zip.__next__» ⟨[.ref z],[]⟩) Q E s:=by
 show wpAny _ _ (field (.ref z) 2 >>= _) _ _ _; refine wpAny_bind (wpAny_field hz rfl (x := .bool false) rfl ?_)
 show wpAny _ _ (field (.ref z) 3 >>= _) _ _ _; refine wpAny_bind (wpAny_field hz rfl (x := .ref TI) rfl ?_)
 refine wpAny_bind (wpAny_seqItems hTI rfl ?_); show wpAny _ _ (Builtin.SmallTypes.ownedTupleIsFree (.ref z) >>= _) _ _ _
 refine wpAny_bind ?_; unfold Builtin.SmallTypes.ownedTupleIsFree
 refine wpAny_bind (wpAny_field hz rfl (x := .none) rfl (wpAny_pure ?_)); simp only [if_true]
 refine wpAny_bind (wpAny_rule ?_); refine wpAny_bind (wpAny_field hz rfl (x := .ref TO) rfl ?_)
 refine wpAny_bind (wpAny_setField_rec hz (by simp) fun g1 hz1 s1 => ?_); replace hz1:IsZip g1 z TI TO .ellipsis:=hz1
 refine wpAny_bind ?_; simp only [List.zipIdx_cons,List.zipIdx_nil,List.forIn_cons,List.forIn_nil]
 refine wpAny_bind (wpAny_bind (wpAny_onRaise ?_)); show wpAny _ _ (Builtin.SmallTypes.nextOf (.ref i1) >>= _) _ _ _
 cases hx:xs[k1]? with
 | none =>
  refine wpAny_bind (lM hh (j1.to fun o e=>s1.extBut _ _ D.i1z e) (m1.to fun o e=>s1.extBut _ _ D.l1z e) hx fun g2 e s2 he => ?_)
  obtain ⟨oe,hoe,hce⟩:=he
  have z2:IsZip g2 z TI TO .ellipsis:=s2 _ _ D.i1z.symm hz1
  have hez:e ≠ z:=fun x=>by subst x; rw [z2] at hoe; cases hoe; simp at hce
  refine wpAny_setField_rec z2 (by simp) fun g3 _ s3=>hE g3 e (fun c o c1 _ c3 _ x=>s3.extBut _ _ c1 (s2 _ _ c3 (s1.extBut _ _ c1 x))) ⟨oe,s3.extBut _ _ hez hoe,hce⟩
 | some x =>
  have hy:ys[k2]? = none:=by rcases hend with h | h; rw [hx] at h; cases h; exact h
  refine wpAny_bind (uS (j1.to fun o e=>s1.extBut _ _ D.i1z e) (m1.to fun o e=>s1.extBut _ _ D.l1z e) hx fun g2 j1' s2=>wpAny_pure ?_)
  have t2:IsPair g2 TO a b:=s2.extBut _ _ D.TOi1 (s1.extBut _ _ D.TOz hTO)
  refine wpAny_bind (wpAny_seqItems t2 rfl ?_); refine wpAny_bind (wpAny_updateSeq_pair t2 fun g3 t3 s3 => ?_)
  refine wpAny_bind (wpAny_letGo (wpAny_pure ?_)); refine wpAny_bind (wpAny_bind (wpAny_onRaise ?_))
  show wpAny _ _ (Builtin.SmallTypes.nextOf (.ref i2) >>= _) _ _ _; refine wpAny_bind (lM hh (((j2.to fun o e=>s1.extBut _ _ D.i2z e).to fun o e=>s2.extBut _ _ D.i12.symm e).to fun o e=>s3.extBut _ _ D.TOi2.symm e) (((m2.to fun o e=>s1.extBut _ _ D.l2z e).to fun o e=>s2.extBut _ _ D.l2i1 e).to fun o e=>s3.extBut _ _ D.l2TO e) hy fun g4 e s4 he => ?_)
  obtain ⟨oe,hoe,hce⟩:=he
  have z4:IsZip g4 z TI TO .ellipsis:=s4 _ _ D.i2z.symm (s3.extBut _ _ D.TOz.symm (s2.extBut _ _ D.i1z.symm hz1))
  have hez:e ≠ z:=fun x=>by subst x; rw [z4] at hoe; cases hoe; simp at hce
  refine wpAny_setField_rec z4 (by simp) fun g5 _ s5=>hE g5 e (fun c o c1 c2 c3 c4 x=>s5.extBut _ _ c1 (s4 _ _ c4 (s3.extBut _ _ c2 (s2.extBut _ _ c3 (s1.extBut _ _ c1 x))))) ⟨oe,s5.extBut _ _ hez hoe,hce⟩
theorem oF {c d:Bool} {z TI TO i1 i2 l1 l2:Addr} {k1 k2:Nat} {xs ys:Array Value} {x y a b:Value} {Q:Option Value->Shared->Prop} (D:ZipApart z TI TO i1 i2 l1 l2)
  (hz:IsZip s.heap z TI TO .none) (hTI:IsPair s.heap TI (.ref i1) (.ref i2)) (hTO:IsPair s.heap TO a b)
  (j1:ItB c s.heap i1 l1 k1) (j2:ItB d s.heap i2 l2 k2) (m1:SB' c s.heap l1 xs) (m2:SB' d s.heap l2 ys) (hx:xs[k1]? = some x) (hy:ys[k2]? = some y)
  (hQ:∀ h',IsZip h' z TI TO (rawInt s.heap.objs.size)->IsPair h' TO x y->ItB c h' i1 l1 (k1 + 1)->ItB d h' i2 l2 (k2 + 1)->IsPair h' s.heap.objs.size x y->h'.objs.size=s.heap.objs.size + 1 →
   (∀ c o,c ≠ z->c ≠ TO->c ≠ i1->c ≠ i2->s.heap.get? c=some o->h'.get? c=some o)->Q (some (.ref s.heap.objs.size)) { s with heap:=h' }):wpAny (model prog w) A (pyNext (.ref z)) Q E s:=by
 have hT:s.TypeIs (.ref z) "zip" := ⟨_,hz,rfl⟩
 unfold pyNext; exact wpAny_bind (wpAny_attempt (wpAny_callSpecial?_slot (name:=Str.ofString "__next__") hT F.slot_zip_next (wpAny_call_entry F.slot_zip_next hT F.entry_zip_next (sC D hz hTI hTO j1 j2 m1 m2 hx hy fun h' a1 a2 a3 a4 a5 a6 a7=>wpAny_pure (hQ h' a1 a2 a3 a4 a5 a6 a7)) (F.args_zip_next_1 _))))
theorem i9 {c d:Bool} {z TI TO i1 i2 l1 l2:Addr} {k1 k2:Nat} {xs ys:Array Value} {a b:Value} {Q:Option Value->Shared->Prop} (hh:A.handled=none) (D:ZipApart z TI TO i1 i2 l1 l2)
  (hz:IsZip s.heap z TI TO .none) (hTI:IsPair s.heap TI (.ref i1) (.ref i2)) (hTO:IsPair s.heap TO a b)
  (j1:ItB c s.heap i1 l1 k1) (j2:ItB d s.heap i2 l2 k2) (m1:SB' c s.heap l1 xs) (m2:SB' d s.heap l2 ys) (hend:xs[k1]? = none\/ys[k2]? = none)
  (hQ:∀ h',(∀ c o,c ≠ z->c ≠ TO->c ≠ i1->c ≠ i2->s.heap.get? c=some o->h'.get? c=some o)->Q none { s with heap:=h' }):wpAny (model prog w) A (pyNext (.ref z)) Q E s:=by
 have hT:s.TypeIs (.ref z) "zip" := ⟨_,hz,rfl⟩
 unfold pyNext; refine wpAny_bind (wpAny_attempt (wpAny_callSpecial?_slot (name:=Str.ofString "__next__") hT F.slot_zip_next (wpAny_call_entry F.slot_zip_next hT F.entry_zip_next (uT hh D hz hTI hTO j1 j2 m1 m2 hend fun h' e hk he => ?_) (F.args_zip_next_1 _))))
 obtain ⟨o,ho,hc⟩:=he
 refine wpAny_bind (wpAny_isInstance (T := "StopIteration") (b:=true) ⟨o,ho,hc⟩ isSubtype_stop ?_); exact wpAny_pure (hQ _ hk)
def qQ:Bool->String
 | true => "list_iterator"
 | false => "tuple_iterator"
def zB1 (c:Bool) (h:Heap) (l1:Addr):Heap:=h.push { cls := .type (qQ c),data := .fields #[.ref l1,.int 0 0] }
def zB2 (c d:Bool) (h:Heap) (l1 l2:Addr):Heap:=(zB1 c h l1).push { cls := .type (qQ d),data := .fields #[.ref l2,.int 0 0] }
def zB3 (c d:Bool) (h:Heap) (l1 l2:Addr):Heap:=(zB2 c d h l1 l2).push { cls := .type "tuple",data := .seq #[.ref h.objs.size,.ref (zB1 c h l1).objs.size] }
def zB4 (c d:Bool) (h:Heap) (l1 l2:Addr):Heap:=(zB3 c d h l1 l2).push { cls := .type "tuple",data := .seq #[.none,.none] }
def zB5 (c d:Bool) (h:Heap) (l1 l2:Addr):Heap:=(zB4 c d h l1 l2).push { cls := .type "zip",data := .fields #[.none,.bool false,.bool false,.ref (zB2 c d h l1 l2).objs.size,.ref (zB3 c d h l1 l2).objs.size] }
theorem xI {c:Bool} {l:Addr} {xs:Array Value} {Q:Value->Shared->Prop} (hl:SB' c s.heap l xs) (q:Q (.ref s.heap.objs.size) { s with heap:=zB1 c s.heap l }):wpAny (model prog w) A (pyIter (.ref l)) Q E s:=by
 cases c
 ·exact wpAny_pyIter_tuple hl q
 ·exact wpAny_pyIter_list hl q
theorem uU (c d:Bool) (l1 l2:Addr) (xs ys:Array Value):Meets (Builtin.«zip.__new__» ⟨[.type "zip",.ref l1,.ref l2],[]⟩) (fun _ R s=>SB' c s.heap l1 xs/\SB' d s.heap l2 ys ∧
   R (.ok (.ret (.ref (zB4 c d s.heap l1 l2).objs.size))) { s with heap:=zB5 c d s.heap l1 l2 }) :=
 .of_wp fun prog w A R s h=>by
  obtain ⟨hp,g,dr,tk,os⟩:=s; obtain ⟨hl1,hl2,h⟩:=h
  have hsub:=sub_zip
  have m1:SB' c (Shared.heap ⟨hp,g,dr,tk,os⟩) l1 xs:=hl1
  have m2:SB' d (Shared.heap ⟨zB1 c hp l1,g,dr,tk,os⟩) l2 ys:=hl2.to fun o e=>Heap.get?_push_of_some _ e
  wp_walk using xI m1,xI m2
  exact ⟨_,rfl,h⟩
theorem sD {c d:Bool} {l1 l2:Addr} {xs ys:Array Value} {Q:Value->Shared->Prop} (m1:SB' c s.heap l1 xs) (m2:SB' d s.heap l2 ys)
  (h:∀ h',IsZip h' (s.heap.objs.size + 4) (s.heap.objs.size + 2) (s.heap.objs.size + 3) .none->IsPair h' (s.heap.objs.size + 2) (.ref s.heap.objs.size) (.ref (s.heap.objs.size + 1)) →
   IsPair h' (s.heap.objs.size + 3) .none .none->ItB c h' s.heap.objs.size l1 0->ItB d h' (s.heap.objs.size + 1) l2 0 →
   (∀ c o,s.heap.get? c=some o->h'.get? c=some o)->Q (.ref (s.heap.objs.size + 4)) { s with heap:=h' }):wpAny (model prog w) A (call (.type "zip") [.ref l1,.ref l2]) Q E s:=by
 refine callType_new F.called_zip (by decide) (F.typeCall_zip_2 _ _) (F.newCall_zip_2 _ _) (fun obj=>F.args_object_init_3 obj _ _) F.entry_zip_new (uU c d l1 l2 xs ys) ⟨m1,m2,?_⟩
 have z1:(zB1 c s.heap l1).objs.size=s.heap.objs.size + 1:=Heap.size_push ..
 have z2:(zB2 c d s.heap l1 l2).objs.size=s.heap.objs.size + 2:=(Heap.size_push ..).trans (by rw [z1])
 have z3:(zB3 c d s.heap l1 l2).objs.size=s.heap.objs.size + 3:=(Heap.size_push ..).trans (by rw [z2])
 have z4:(zB4 c d s.heap l1 l2).objs.size=s.heap.objs.size + 4:=(Heap.size_push ..).trans (by rw [z3])
 have g5:(zB5 c d s.heap l1 l2).get? (zB4 c d s.heap l1 l2).objs.size=some { cls := .type "zip",data := .fields #[.none,.bool false,.bool false,.ref (zB2 c d s.heap l1 l2).objs.size,.ref (zB3 c d s.heap l1 l2).objs.size] }:=Heap.get?_push_size _ rfl
 have g4:(zB5 c d s.heap l1 l2).get? (zB3 c d s.heap l1 l2).objs.size=some { cls := .type "tuple",data := .seq #[.none,.none] }:=Heap.get?_push_of_some _ (Heap.get?_push_size _ rfl)
 have g3:(zB5 c d s.heap l1 l2).get? (zB2 c d s.heap l1 l2).objs.size=some { cls := .type "tuple",data := .seq #[.ref s.heap.objs.size,.ref (zB1 c s.heap l1).objs.size] }:=Heap.get?_push_of_some _ (Heap.get?_push_of_some _ (Heap.get?_push_size _ rfl))
 have g2:(zB5 c d s.heap l1 l2).get? (zB1 c s.heap l1).objs.size=some { cls := .type (qQ d),data := .fields #[.ref l2,.int 0 0] }:=Heap.get?_push_of_some _ (Heap.get?_push_of_some _ (Heap.get?_push_of_some _ (Heap.get?_push_size _ rfl)))
 have g1:(zB5 c d s.heap l1 l2).get? s.heap.objs.size=some { cls := .type (qQ c),data := .fields #[.ref l1,.int 0 0] }:=Heap.get?_push_of_some _ (Heap.get?_push_of_some _ (Heap.get?_push_of_some _ (Heap.get?_push_of_some _ (Heap.get?_push_size _ rfl))))
 show _/\_
 rw [z2,z3,z4] at g5
 rw [z1,z2] at g3
 rw [z3] at g4
 rw [z1] at g2
 rw [z4]
 refine ⟨⟨_,g5,rfl⟩,h _ g5 g3 g4 ?_ ?_ fun c' o x=>Heap.get?_push_of_some _ (Heap.get?_push_of_some _ (Heap.get?_push_of_some _ (Heap.get?_push_of_some _ (Heap.get?_push_of_some _ x))))⟩
 ·cases c
  ·exact ⟨_,g1,rfl,rfl⟩
  ·exact ⟨_,g1,rfl,rfl⟩
 ·cases d
  ·exact ⟨_,g2,rfl,rfl⟩
  ·exact ⟨_,g2,rfl,rfl⟩
end
def SqB (K:PySem.W.Frag):Bool->Hp->Addr->List V->Prop
 | true,H,a,xs=>SqL K H a xs
 | false,H,a,xs=>SqT K H a xs
theorem SqB.row {X:Cx} {c:Bool} {pins:List (Addr × Obj)} {σ:St} {H:Hp} {s:Shared} (I:Inv X pins σ H s) {a:Addr} {xs:List V} (h:SqB X.K c H a xs):∃ its:List Value,Vals xs its/\SB' c s.heap a its.toArray:=by
 cases c
 ·obtain ⟨its,r,p,_⟩:=I.tuple (show SqT X.K H a xs from h); exact ⟨its,r,p⟩
 ·obtain ⟨its,r,p,_⟩:=I.list (show SqL X.K H a xs from h); exact ⟨its,r,p.isList⟩
theorem SB'.lt {c:Bool} {h:Heap} {l:Addr} {xs:Array Value} (x:SB' c h l xs):l < h.objs.size:=by
 cases c
 ·obtain ⟨o,e,_⟩:=(show h.IsTuple l xs from x); exact Heap.lt_size e
 ·obtain ⟨o,e,_⟩:=(show h.IsList l xs from x); exact Heap.lt_size e
theorem SqB.inj {X:Cx} {c:Bool} {pins:List (Addr × Obj)} {σ:St} {H:Hp} {s:Shared} (I:Inv X pins σ H s) {a:Addr} {xs ys:List V} (h:SqB X.K c H a xs) (g:SqB X.K c H a ys):xs=ys:=by
 cases c
 ·exact I.kJ h g
 ·exact I.nD h g
def ItZ (K:PySem.W.Frag) (c d:Bool) (a b:Addr):It :=
 ⟨fun i H=>∃ xs ys u v,SqB K c H a xs/\SqB K d H b ys/\xs[i]? = some u/\ys[i]? = some v,fun i H x H'=>∃ T u v,H T=none/\x = .ref T/\H'=upd H T (.tup [u,v])/\(∀ xs,SqB K c H a xs->xs[i]? = some u)/\∀ ys,SqB K d H b ys->ys[i]? = some v,fun i H=>∃ xs ys,SqB K c H a xs/\SqB K d H b ys/\(xs.length<=i\/ys.length<=i)⟩
theorem sE {P:Program} {w:World} {K:PySem.W.Frag} {elts:List Expr} {k:Nat} {pos:Pos} (c d:Bool) (a b z TI TO i1 i2:Addr) (D:ZipApart z TI TO i1 i2 a b):Turn P w K (.Tuple elts k pos) (ItZ K c d a b) [z,TI,TO,i1,i2] z (fun i h=>IsZip h z TI TO .none/\IsPair h TI (.ref i1) (.ref i2)/\(∃ x y,IsPair h TO x y)/\ItB c h i1 a i/\ItB d h i2 b i) where
 mem:=by simp
 obj:=fun i h ⟨hz,hI,⟨x,y,hO⟩,h1,h2⟩ e he=>by
  have he':e=z\/e=TI\/e=TO\/e=i1\/e=i2:=by simpa using he
  rcases he' with q | q | q | q | q
  ·subst q; exact ⟨_,hz,fun v z=>nomatch z⟩
  ·subst q; exact ⟨_,hI,fun v z=>nomatch z⟩
  ·subst q; exact ⟨_,hO,fun v z=>nomatch z⟩
  ·subst q; exact h1.obj
  ·subst q; exact h2.obj
 keep:=fun i h h' ⟨hz,hI,⟨x,y,hO⟩,h1,h2⟩ kp=>⟨kp z (by simp) _ hz,kp TI (by simp) _ hI,⟨x,y,kp TO (by simp) _ hO⟩,h1.to fun o e=>kp i1 (by simp) o e,h2.to fun o e=>kp i2 (by simp) o e⟩
 item:=fun X eP eW eK hcalm i pins s σ H E I f ⟨hz,hI,⟨x,y,hO⟩,h1,h2⟩ go=>by
  subst eP eW eK
  obtain ⟨xs,ys,u,v,ha,hb,hu,hv⟩:=go
  obtain ⟨its,r,pl⟩:=SqB.row I ha
  obtain ⟨jts,r',pl'⟩:=SqB.row I hb
  obtain ⟨u',eu,ru⟩:=r.get hu
  obtain ⟨v',ev,rv⟩:=r'.get hv
  refine oF D hz hI hO h1 h2 pl pl' (x:=u') (y:=v') (by rw [List.getElem?_toArray]; exact eu) (by rw [List.getElem?_toArray]; exact ev) fun h' o1 o2 o3 o4 o5 o6 kp => ?_
  refine ⟨_,rfl,?_⟩
  refine wpAny_letOwnedTupleGo_zip o1 fun h2' e2 sb => ?_
  have ez:z ≠ s.heap.objs.size:=Nat.ne_of_lt (Heap.lt_size hz)
  have lt:∀ e ∈ [z,TI,TO,i1,i2],e ≠ s.heap.objs.size:=fun e he=>by
   have he':e=z\/e=TI\/e=TO\/e=i1\/e=i2:=by simpa using he
   rcases he' with q | q | q | q | q
   ·rw [q]; exact ez
   ·rw [q]; exact Nat.ne_of_lt (Heap.lt_size hI)
   ·rw [q]; exact Nat.ne_of_lt (Heap.lt_size hO)
   ·rw [q]; exact Nat.ne_of_lt h1.lt
   ·rw [q]; exact Nat.ne_of_lt h2.lt
  have kp2:∀ e ob,e ∉ [z,TI,TO,i1,i2]->s.heap.get? e=some ob->h2'.get? e=some ob:=fun e ob he eb=>by
   have n1:e ≠ z:=fun q=>he (by simp [q])
   have n2:e ≠ TO:=fun q=>he (by simp [q])
   have n3:e ≠ i1:=fun q=>he (by simp [q])
   have n4:e ≠ i2:=fun q=>he (by simp [q])
   rw [sb.2 e n1]; exact kp e ob n1 n2 n3 n4 eb
  have j1:ItB c h2' i1 a (i + 1):=o3.to fun ob eb=>by rw [sb.2 i1 D.i1z]; exact eb
  have j2:ItB d h2' i2 b (i + 1):=o4.to fun ob eb=>by rw [sb.2 i2 D.i2z]; exact eb
  have jI:IsPair h2' TI (.ref i1) (.ref i2):=by
   show h2'.get? TI=_
   rw [sb.2 TI D.TIz]
   exact kp TI _ D.TIz D.TITO D.TIi1 D.TIi2 hI
  have jO:IsPair h2' TO u' v':=by
   show h2'.get? TO=_
   rw [sb.2 TO D.TOz]
   exact o2
  have tp:h2'.get? s.heap.objs.size=some { cls := .type "tuple",data := .seq #[u',v'] }:=by rw [sb.2 _ (Ne.symm ez)]; exact o5
  refine ⟨.ref s.heap.objs.size,upd H s.heap.objs.size (.tup [u,v]),I.pK (ch:=[z,TI,TO,i1,i2]) f kp2 (fun e he => ?_) (Nat.le_refl _) ?_,rfl,⟨s.heap.objs.size,u,v,I.hok.fresh (Nat.le_refl _),rfl,rfl,fun zs hy => ?_,fun zs hy => ?_⟩,⟨e2,jI,⟨_,_,jO⟩,j1,j2⟩,fun e he => ?_⟩
  ·have he':e=z\/e=TI\/e=TO\/e=i1\/e=i2:=by simpa using he
   rcases he' with q | q | q | q | q
   ·rw [q]; exact ⟨_,e2⟩
   ·rw [q]; exact ⟨_,jI⟩
   ·rw [q]; exact ⟨_,jO⟩
   ·rw [q]; obtain ⟨o,ho,_⟩:=j1.obj; exact ⟨o,ho⟩
   ·rw [q]; obtain ⟨o,ho,_⟩:=j2.obj; exact ⟨o,ho⟩
  ·refine ⟨(by show 2<=sizeLine; decide),[u',v'],.cons ru (.cons rv .nil),_,tp,⟨rfl,rfl⟩,_,rfl⟩
  ·rw [SqB.inj I hy ha]; exact hu
  ·rw [SqB.inj I hy hb]; exact hv
  ·rw [aq (lt e he)]; exact (f e he).1
 done:=fun X eP eW eK hcalm i pins s σ H E I f ⟨hz,hI,⟨x,y,hO⟩,h1,h2⟩ stop=>by
  subst eP eW eK
  obtain ⟨xs,ys,ha,hb,hl⟩:=stop
  obtain ⟨its,r,pl⟩:=SqB.row I ha
  obtain ⟨jts,r',pl'⟩:=SqB.row I hb
  have l:=r.length
  have l':=r'.length
  refine i9 (I.ok.hd hcalm) D hz hI hO h1 h2 pl pl' (hl.imp (fun _=>by rw [List.getElem?_toArray]; exact List.getElem?_eq_none_iff.mpr (by omega)) (fun _=>by rw [List.getElem?_toArray]; exact List.getElem?_eq_none_iff.mpr (by omega))) fun h' ex=>⟨rfl,?_⟩
  exact I.sv (ch:=[z,TI,TO,i1,i2]) (h':=h') (t':=s.toks) f fun e o he eb=>ex e o (fun q=>he (by simp [q])) (fun q=>he (by simp [q])) (fun q=>he (by simp [q])) (fun q=>he (by simp [q])) eb
 self:=fun A i s Q E ⟨hz,_⟩ q=>wpAny_pyIter_zip hz q
def zI (K:PySem.W.Frag) (c d:Bool) (ta:TA):TI:=fun σ H R=>ta σ H fun vs H1=>∃ a b,vs=[.ref a,.ref b]/\(∃ xs,SqB K c H1 a xs)/\(∃ ys,SqB K d H1 b ys)/\R (ItZ K c d a b) H1
theorem wW {X:Cx} (c d:Bool) {a b:Expr} {ta:TA} {p pos pos':Pos} {elts:List Expr} {k:Nat} (hg:Gl X "zip") (hm:X.mg "zip" = none) (ha:PA X [a,b] ta) (hs:starEach [a,b] X.env=[(false,eval a X.env),(false,eval b X.env)]:=by rfl) (hs2:starEach [b] X.env=[(false,eval b X.env)]:=by rfl) :
  PI X (.Tuple elts k pos') (.Call (.Name "zip" p) [a,b] [] pos) (zI X.K c d ta):=by
 intro pins s σ H R I h
 refine Call_ (fY I hg hm boot_zip (PyProof.Rows.callWith_type1 (thn (ha pos pins s σ H _ I h) fun us s1 ⟨vs,H1,I1,r1,q1⟩ => ?_) (by rw [hs,hs2]) (by rw [hs2]; rfl)))
 obtain ⟨l1,l2,e,⟨xs,hx⟩,⟨ys,hy⟩,q⟩:=q1
 subst e
 cases r1 with
 | cons r rr =>
  cases rr with
  | cons r' rr =>
   cases rr
   cases r
   cases r'
   have fp:∀ b ∈ [s1.heap.objs.size + 4,s1.heap.objs.size + 2,s1.heap.objs.size + 3,s1.heap.objs.size,s1.heap.objs.size + 1],iz X pins H1 b:=fun b hb=>by
    have ge:s1.heap.objs.size<=b:=by
     simp at hb
     omega
    exact I1.rA ge (I1.hok.fresh ge)
   obtain ⟨its,rv,pl⟩:=SqB.row I1 hx
   obtain ⟨jts,rv',pl'⟩:=SqB.row I1 hy
   have D:=yG _ _ _ pl.lt pl'.lt
   refine sD pl pl' fun h' hz hI hO h1 h2 kp => ?_
   have T:=sE (P:=X.prog) (w:=X.w) (K:=X.K) (elts:=elts) (k:=k) (pos:=pos') c d l1 l2 _ _ _ _ _ D
   refine T.self _ 0 _ _ _ ⟨hz,hI,⟨_,_,hO⟩,h1,h2⟩ ?_
   exact ⟨_,_,_,_,H1,rfl,I1.kept (t':=s1.toks) kp,T,⟨hz,hI,⟨_,_,hO⟩,h1,h2⟩,fp,q⟩
theorem zJ {K:PySem.W.Frag} {c d:Bool} {a b:Addr} {xs ys:List V} {k l:Nat} {tc:TT} {te:TE} {τ : St} {H:Hp} {Q:VK} (n:Nat) (n1:n<=xs.length) (n2:n<=ys.length) (n3:n=xs.length\/n=ys.length) (Pv:Nat->List V->Hp->Prop) (hkl:k ≠ l) (h0:Pv 0 [] H) (hz:n<=sizeLine)
  (hl:∀ i zs H,i<=n->Pv i zs H->SqB K c H a xs/\SqB K d H b ys)
  (hs:∀ i x y zs H T,xs[i]? = some x->ys[i]? = some y->zs.length<=i->H T=none->Pv i zs H->zz k l tc te τ Pv i x y zs (upd H T (.tup [x,y])))
  (hd:∀ zs H,zs.length<=n->Pv n zs H->∀ r,H r=none->Q (.ref r) (upd H r (.lst zs))):iV (ItZ K c d a b) (xE K k l) tc te τ Q H:=by
 refine ⟨fun i m σ zs H=>m=n - i/\i<=n/\(∀ a b,(σ.set k (some a)).set l (some b)=(τ.set k (some a)).set l (some b))/\zs.length<=i/\Pv i zs H,⟨n,by simp,Nat.zero_le _,fun _ _=>rfl,Nat.le_refl _,h0⟩,?_⟩
 rintro i m σ zs H ⟨rfl,hi,hτ,hy,pv⟩
 obtain ⟨q1,q2⟩:=hl i zs H hi pv
 by_cases hlt:i < n
 ·refine .inr ⟨⟨xs,ys,xs[i]'(by omega),ys[i]'(by omega),q1,q2,by simp [show i < xs.length by omega],by simp [show i < ys.length by omega]⟩,fun x H' y => ?_⟩
  obtain ⟨T,u,v,hT,ex,eH,hu,hv⟩:=y
  subst ex eH
  refine ⟨T,_,rfl,SqT.of ae,rfl,_,_,rfl,_,_,rfl,rfl,?_⟩
  rw [hτ]
  have hσ:∀ a b,((((τ.set k (some u)).set l (some v)).set k (some a)).set l (some b))=(τ.set k (some a)).set l (some b):=fun a b=>by
   rw [List.set_comm _ _ (Ne.symm hkl),List.set_set,List.set_set]
  refine hs i u v zs _ T (hu xs q1) (hv ys q2) hy hT pv _ _ (fun y4 H4 p4=>⟨by omega,n - (i + 1),by omega,rfl,hlt,hσ,by rw [List.length_append,List.length_singleton]; omega,p4⟩) fun H3 p3=>⟨n - (i + 1),by omega,rfl,hlt,hσ,by omega,p3⟩
 ·have e:i=n:=by omega
  subst e
  exact .inl ⟨⟨xs,ys,q1,q2,n3.elim (fun z => .inl (by omega)) (fun z => .inr (by omega))⟩,by omega,hd zs H hy pv⟩
end L2
namespace Srt
open PySem PyProof.Rows
section
variable {prog:Program} {w:World} {A:Around} {E:Value->Shared->Prop} {s:Shared}
end
end Srt
namespace L2
open PySem PySem.Spec PyProof.Rows
section
variable {X:Cx}
end
open PySem PySem.Spec PyProof.Rows
open PySem PySem.Spec PyProof.Rows
section
variable {X:Cx}
end
open PySem PySem.Spec PyProof.Rows
section
variable {X:Cx}
end
end L2
namespace SDct
open PySem PyProof.Rows Srt
section
variable {prog:Program} {w:World} {A:Around} {E:Value->Shared->Prop} {s:Shared} {T:String} {r d:Addr} {n:Nat} {P:Nat->Value->Prop} {OK:Heap->Prop}
end
end SDct
namespace L2
open PySem PySem.Spec PyProof.Rows Srt
section
variable {X:Cx}
end
open PySem PySem.Spec PyProof.Rows
section
variable {X:Cx}
end
open PySem PySem.Spec PyProof.Rows
section
variable {X:Cx}
end
end L2
namespace L2.RvT
open PySem PyProof.Rows
open Sem (wp)
theorem iM:Manifest.owners.lookup (String.ofList ['d', 'e', 's', 'r', 'e', 'v', 'e', 'r'].reverse)=some Manifest.sig_reversed:=by kernel_rfl
theorem slot_next:Slot "reversed" "__next__" "reversed.__next__" :=
 .of (owner := "reversed") (n := "__next__") (by rw [typeLookup_type,builtinLookup_eq_fast]; kernel_rfl) (by decide +kernel) (by decide +kernel) (by decide +kernel)
  (by first | exact .inl (by decide +kernel) | exact .inr (by decide +kernel)) (by rw [isSubtype_type]; kernel_rfl)
theorem entry_next:entryFor table "reversed.__next__" = some Builtin.«reversed.__next__» := entryFor_of_tree (by kernel_rfl)
theorem args_next (a:Value):argsOk "reversed.__next__" ⟨[a],[]⟩:=by
 unfold argsOk; rw [signature?_of (id := "reversed.__next__") (n:=['_', '_', 't', 'x', 'e', 'n', '_', '_']) (o:=['d', 'e', 's', 'r', 'e', 'v', 'e', 'r']) (by kernel_rfl) iM]; kernel_rfl
theorem lN:Slot "reversed" "__iter__" "reversed.__iter__" :=
 .of (owner := "reversed") (n := "__iter__") (by rw [typeLookup_type,builtinLookup_eq_fast]; kernel_rfl) (by decide +kernel) (by decide +kernel) (by decide +kernel)
  (by first | exact .inl (by decide +kernel) | exact .inr (by decide +kernel)) (by rw [isSubtype_type]; kernel_rfl)
theorem sF (a:Value):argsOk "reversed.__iter__" ⟨[a],[]⟩:=by
 unfold argsOk; rw [signature?_of (id := "reversed.__iter__") (n:=['_', '_', 'r', 'e', 't', 'i', '_', '_']) (o:=['d', 'e', 's', 'r', 'e', 'v', 'e', 'r']) (by kernel_rfl) iM]; kernel_rfl
theorem qb:entryFor table "reversed.__iter__" = some Builtin.«dict_keyiterator.__iter__» :=
 entryFor_alias (id' := "dict_keyiterator.__iter__") (by kernel_rfl) (by first | rfl | decide +kernel | (unfold String.splitOn; simp +decide [String.splitOnAux])) (by decide +kernel) (by kernel_rfl)
theorem yH:typeLookup (.type "tuple") "__reversed__" = pure none:=by rw [typeLookup_type,builtinLookup_eq_fast]; kernel_rfl
theorem uP:typeLookup (.type "reversed") "__len__" = pure none:=by rw [typeLookup_type,builtinLookup_eq_fast]; kernel_rfl
theorem jU:typeLookup (.type "reversed") "__length_hint__" = pure (some (.builtin "reversed.__length_hint__")):=by rw [typeLookup_type,builtinLookup_eq_fast]; kernel_rfl
theorem sub_self:isSubtype (.type "reversed") (.type "reversed")=pure true:=by rw [isSubtype_type]; kernel_rfl
theorem uV:isSubtype (.type "tuple") (.type "dict")=pure false:=by rw [isSubtype_type]; kernel_rfl
theorem sH:Slot "reversed" "__init__" "object.__init__" :=
 .of (owner := "object") (n := "__init__") (by rw [typeLookup_type,builtinLookup_eq_fast]; kernel_rfl) (by decide +kernel) (by decide +kernel) (by decide +kernel)
  (by first | exact .inl (by decide +kernel) | exact .inr (by decide +kernel)) (by rw [isSubtype_type]; kernel_rfl)
theorem called:TypeCalled "reversed" "reversed.__new__" "object.__init__" :=
 ⟨by decide +kernel,by decide +kernel,⟨_,_,PySem.F.mro_reversed⟩,madeBy_type PySem.F.mro_reversed PySem.F.lookup_reversed_new (by decide +kernel),by decide +kernel,by rw [isSubtype_type]; kernel_rfl,sH⟩
def rvO (t:Addr) (i:Int):Obj:={ cls := .type "reversed",data := .fields #[.ref t,rawInt i] }
def fS (h:Heap) (a t:Addr) (i:Int):Prop:=∃ o,h.get? a=some o/\o.cls = .type "reversed" /\ o.data = .fields #[.ref t,rawInt i]
section
variable {prog:Program} {w:World} {A:Around} {E:Value->Shared->Prop} {s:Shared}
theorem fS.typeIs {a t:Addr} {i:Int} (x:fS s.heap a t i):s.TypeIs (.ref a) "reversed" := let ⟨o,ho,hc,_⟩:=x; ⟨o,ho,hc⟩
theorem fS.at {h h':Heap} {a t:Addr} {i:Int} (x:fS h a t i) (e:∀ o,h.get? a=some o->h'.get? a=some o):fS h' a t i:=let ⟨o,ho,r⟩:=x; ⟨o,e _ ho,r⟩
theorem oG {h h':Heap} {a:Addr} {its:Array Value} (x:IsTup h a its) (e:∀ o,h.get? a=some o->h'.get? a=some o):IsTup h' a its:=let ⟨o,ho,r⟩:=x; ⟨o,e _ ho,r⟩
theorem sI (t:Addr) (its:Array Value) (hz:(its.size:Int) < 2 ^ 63) :
  Meets (Builtin.«reversed.__new__» ⟨[.type "reversed",.ref t],[]⟩) (fun _ R s=>IsTup s.heap t its/\R (.ok (.ret (.ref s.heap.objs.size))) { s with heap:=s.heap.push (rvO t ((its.size:Int) - 1)),toks:=s.toks + 1 + 1 }) :=
 .of_wp fun prog w A R s h=>by
  obtain ⟨ht,h⟩:=h
  unfold Builtin.«reversed.__new__»
  refine wpAny_bind (wpAny_of_eq (newClass_reversed _) ?_)
  try dsimp only
  refine wpAny_bind (wpAny_of_eq (a:=()) (by first | rfl | kernel_rfl) ?_)
  refine wpAny_bind (wpAny_of_eq (a:=()) (by first | rfl | kernel_rfl) ?_)
  try dsimp only
  refine wpAny_bind (wpAny_specialOf ht.typeIs yH ?_)
  try dsimp only
  refine wpAny_bind ?_
  show wpAny _ _ (isInstance (.ref t) (.type "dict") >>= _) _ _ s
  refine wpAny_bind (wpAny_isInstance (T := "tuple") (b:=false) ht.typeIs uV ?_)
  refine wpAny_ite_split (fun hab=>absurd hab (by decide)) (fun _ => ?_)
  refine wpAny_bind (wpAny_specialOf ht.typeIs PyProof.Rows.slot_tuple_getitem.lookup ?_)
  refine wpAny_ite_split (fun _=>wpAny_pure ?_) (fun hab=>absurd (by decide +kernel) hab)
  refine wpAny_ite_split (fun hab=>absurd hab (by decide)) (fun _ => ?_)
  refine wpAny_bind (len_tuple ht hz ?_)
  refine wpAny_bind (wpAny_of_eq (a:=some (its.size:Int)) rfl ?_)
  refine wpAny_bind ?_
  show wpAny _ _ (newObj (.type "reversed") (.fields #[.ref t,rawInt ((its.size:Int) - 1)])) _ _ _
  exact wpAny_newObj_type (wpAny_pure ⟨_,rfl,h⟩)
theorem uW {t:Addr} {its:Array Value} {Q:Value->Shared->Prop} (ht:IsTup s.heap t its) (hz:(its.size:Int) < 2 ^ 63)
  (h:Q (.ref s.heap.objs.size) { s with heap:=s.heap.push (rvO t ((its.size:Int) - 1)),toks:=s.toks + 1 + 1 }):wpAny (model prog w) A (call (.type "reversed") [.ref t]) Q E s:=by
 refine callType_new called (by decide) (PySem.F.typeCall_reversed_1 _) (PySem.F.newCall_reversed_1 _) (fun obj=>PySem.F.args_object_init_2 obj _) PySem.F.entry_reversed_new (sI t its hz) ⟨ht,?_⟩
 exact ⟨⟨_,Heap.get?_push_size _ rfl,rfl⟩,h⟩
theorem next_item {I t:Addr} {i:Nat} {its:Array Value} {x:Value} {Q:Option Value->Shared->Prop} (hit:fS s.heap I t (i:Int)) (ht:IsTup s.heap t its) (hx:its[i]? = some x) (hi:(i:Int) < 2 ^ 63)
  (hQ:∀ h' tk,fS h' I t ((i:Int) - 1)->Heap.SameBut I s.heap h'->Q (some x) { s with heap:=h',toks:=tk }):wpAny (model prog w) A (pyNext (.ref I)) Q E s:=by
 obtain ⟨o,ho,hc,hd⟩:=id hit
 unfold pyNext
 refine wpAny_bind (wpAny_attempt (wpAny_callSpecial?_slot (name:=Str.ofString "__next__") hit.typeIs slot_next (wpAny_call_entry slot_next hit.typeIs entry_next ?_ (args_next _))))
 unfold Builtin.«reversed.__next__»
 refine wpAny_bind (wpAny_of_eq (a:=(Value.ref I,[])) rfl ?_)
 try dsimp only
 refine wpAny_bind (wpAny_field ho hd (x := .ref t) rfl ?_)
 refine wpAny_bind (wpAny_field ho hd (x:=rawInt (i:Int)) rfl ?_)
 show wpAny _ _ (if (i:Int) < 0 then _ else _) _ _ s
 rw [if_neg (by omega)]
 show wpAny _ _ (specialOf (.ref t) "__getitem__" >>= _) _ _ s
 refine wpAny_bind (wpAny_specialOf ht.typeIs PyProof.Rows.slot_tuple_getitem.lookup ?_)
 refine wpAny_ite_split (fun hab=>absurd hab (by decide)) (fun _ => ?_)
 refine wpAny_bind (wpAny_mkInt ?_)
 refine wpAny_bind (wpAny_attempt ?_)
 refine PyProof.Rows.getItem_tuple (j:=i) ht (by omega) hi (seqIndex_of (by omega) (by have:=(Array.getElem?_eq_some_iff.mp hx).1; omega)) hx ?_
 refine wpAny_bind (wpAny_field ho hd (x:=rawInt (i:Int)) rfl ?_)
 show wpAny _ _ (setField (.ref I) 1 (rawInt ((i:Int) - 1)) >>= fun _=>ret x) _ _ _
 refine wpAny_bind (wpAny_setField ho hd (by simp) ?_)
 refine wpAny_pure ⟨x,rfl,wpAny_pure (hQ _ _ ?_ (Heap.SameBut.update ..))⟩
 exact ⟨_,Heap.get?_update_self _ ho (Obj.isFreed_of_fields (Obj.data_mapFields hd _)),(Obj.cls_mapFields ..).trans hc,by rw [Obj.data_mapFields hd]; simp⟩
theorem next_end {I t:Addr} {Q:Option Value->Shared->Prop} (hh:A.handled=none) (hit:fS s.heap I t (-1))
  (hQ:∀ h',Heap.ExtBut I s.heap h'->Q none { s with heap:=h' }):wpAny (model prog w) A (pyNext (.ref I)) Q E s:=by
 obtain ⟨o,ho,hc,hd⟩:=id hit
 unfold pyNext
 refine wpAny_bind (wpAny_attempt (wpAny_callSpecial?_slot (name:=Str.ofString "__next__") hit.typeIs slot_next (wpAny_call_entry slot_next hit.typeIs entry_next ?_ (args_next _))))
 unfold Builtin.«reversed.__next__»
 refine wpAny_bind (wpAny_of_eq (a:=(Value.ref I,[])) rfl ?_)
 try dsimp only
 refine wpAny_bind (wpAny_field ho hd (x := .ref t) rfl ?_)
 refine wpAny_bind (wpAny_field ho hd (x:=rawInt (-1)) rfl ?_)
 show wpAny _ _ (if (-1:Int) < 0 then _ else _) _ _ s
 rw [if_pos (by decide)]
 refine wpAny_bind (wpAny_rule ?_)
 refine wpAny_bind ?_
 show wpAny _ _ (setField (.ref I) 1 (rawInt (-1)) >>= fun _=>setField (.ref I) 0 .none) _ _ s
 refine wpAny_bind (wpAny_setField ho hd (by simp) ?_)
 have h1:=Heap.get?_update_self (Obj.mapFields fun fs=>fs.setIfInBounds 1 (rawInt (-1))) ho (Obj.isFreed_of_fields (Obj.data_mapFields hd _))
 refine wpAny_setField h1 (Obj.data_mapFields hd _) (by simp) ?_
 refine wpAny_bind ?_
 show wpAny _ _ (newExc (.type "StopIteration") [] >>= _) _ _ _
 refine wpAny_bind ?_
 simp only [newExc,newTuple]
 refine wpAny_bind (wpAny_newObj_type ?_ (by size_fits))
 refine wpAny_bind (m:=firstArgMember _ _) (wpAny_of_eq (a:=Value.none) (by first | rfl | (simp only [firstArgMember]; rfl)) ?_)
 refine wpAny_newObj_type ?_ (by size_fits)
 simp only [raiseNew]
 refine wpAny_bind (wpAny_handled ?_)
 first | rw [show A.in1.handled=none from hh] | rw [hh]
 refine wpAny_bind (wpAny_pure (wpAny_throw ?_))
 refine wpAny_bind (wpAny_isInstance (T := "StopIteration") (b:=true) ⟨_,Heap.get?_push_size _ rfl,rfl⟩ isSubtype_stop ?_)
 refine wpAny_pure (hQ _ ?_)
 refine Heap.ExtBut.push (Heap.ExtBut.push (fun b o hb eo => ?_) _) _
 exact (Heap.get?_update_other _ _ (Ne.symm hb)).trans ((Heap.get?_update_other _ _ (Ne.symm hb)).trans eo)
theorem qR {I t:Addr} {i:Int} {Q:Value->Shared->Prop} (hit:fS s.heap I t i) (h:Q (.ref I) s):wpAny (model prog w) A (pyIter (.ref I)) Q E s:=by
 refine wpAny_pyIter_slot hit.typeIs lN (wpAny_call_entry lN hit.typeIs qb ?_ (sF _))
 show wpAny _ _ (ret (.ref I)) _ _ s
 exact wpAny_pure ⟨_,rfl, "reversed",_,hit.typeIs,slot_next.lookup,h⟩
theorem lO:Slot "reversed" "__length_hint__" "reversed.__length_hint__" :=
 .of (owner := "reversed") (n := "__length_hint__") jU (by decide +kernel) (by decide +kernel) (by decide +kernel)
  (by first | exact .inl (by decide +kernel) | exact .inr (by decide +kernel)) sub_self
theorem qc:entryFor table "reversed.__length_hint__" = some Builtin.«reversed.__length_hint__» := entryFor_of_tree (by kernel_rfl)
theorem sJ (a:Value):argsOk "reversed.__length_hint__" ⟨[a],[]⟩:=by
 unfold argsOk; rw [signature?_of (id := "reversed.__length_hint__") (n:=['_', '_', 't', 'n', 'i', 'h', '_', 'h', 't', 'g', 'n', 'e', 'l', '_', '_']) (o:=['d', 'e', 's', 'r', 'e', 'v', 'e', 'r']) (by kernel_rfl) iM]; kernel_rfl
theorem sL {I t:Addr} {its:Array Value} {Q:Value->Shared->Prop} (hit:fS s.heap I t ((its.size:Int) - 1)) (ht:IsTup s.heap t its) (hz:(its.size:Int) < 2 ^ 63)
  (h:∀ u tk,Q (.int its.size u) { s with toks:=tk }):wpAny (model prog w) A (call (.builtin "reversed.__length_hint__") [.ref I]) Q E s:=by
 obtain ⟨o,ho,hc,hd⟩:=id hit
 refine wpAny_call_entry lO hit.typeIs qc ?_ (sJ _)
 unfold Builtin.«reversed.__length_hint__»
 refine wpAny_bind (wpAny_of_eq (a:=Value.ref I) rfl ?_)
 refine wpAny_bind (wpAny_field ho hd (x := .ref t) rfl ?_)
 refine wpAny_ite_split (fun hab=>absurd hab (show ¬ (false=true) from Bool.false_ne_true)) (fun _ => ?_)
 refine wpAny_bind (len_tuple ht hz ?_)
 refine wpAny_bind (wpAny_of_eq (a:=some (its.size:Int)) rfl ?_)
 refine wpAny_bind (wpAny_field ho hd (x:=rawInt ((its.size:Int) - 1)) rfl ?_)
 show wpAny _ _ (if (its.size:Int) < ((its.size:Int) - 1) + 1 then _ else retInt (((its.size:Int) - 1) + 1)) _ _ _
 rw [if_neg (by omega),show ((its.size:Int) - 1) + 1=its.size by omega]
 exact wpAny_bind (wpAny_mkInt (wpAny_pure ⟨_,rfl,h _ _⟩))
theorem wX {I t:Addr} {its:Array Value} {Q:Bool->Shared->Prop} (hit:fS s.heap I t ((its.size:Int) - 1)) (ht:IsTup s.heap t its) (hz:its.size<=2 ^ 24) (h:∀ b tk,Q b { s with toks:=tk }):wpAny (model prog w) A (Builtin.List.listLengthHint (.ref I)) Q E s:=by
 unfold Builtin.List.listLengthHint
 refine wpAny_bind (wpAny_specialOf hit.typeIs uP ?_)
 wp_delta
 refine wpAny_bind (wpAny_specialOf hit.typeIs jU ?_)
 generalize hid:("reversed.__length_hint__" : String)=id0
 wp_delta
 rw [show splitId id0=some ("reversed", "__length_hint__") from by subst hid; decide +kernel]
 subst hid
 refine wpAny_bind (wpAny_isInstance (T := "reversed") (b:=true) hit.typeIs sub_self ?_)
 refine wpAny_ite_split (fun hab=>absurd hab (by decide)) (fun _ => ?_)
 refine wpAny_ite_split (fun hab=>absurd hab (by decide +kernel)) (fun _ => ?_)
 refine wpAny_bind (wpAny_rule ?_)
 refine wpAny_bind (wpAny_of_eq (lO.bind _) ?_)
 refine wpAny_bind (wpAny_attempt (sL hit ht (by omega) fun u tk => ?_))
 show wpAny _ A (asInt? (.int (its.size:Int) u) >>= _) Q E _
 have ea:asInt? (Value.int (its.size:Int) u)=pure (some (its.size:Int)):=rfl
 rw [ea,pure_bind]
 generalize hn:(its.size:Int)=n
 dsimp only
 refine wpAny_ite_split (fun hab=>absurd hab ?_) (fun _ => ?_)
 ·unfold Builtin.List.listFitsIndex; simp; omega
 refine wpAny_ite_split (fun hab=>absurd hab (by omega)) (fun _ => ?_)
 refine wpAny_ite_split (fun hab=>absurd hab ?_) (fun _ => ?_)
 ·rw [L2.jB (by rw [sizeLine_eq]; omega)]; exact Bool.false_ne_true
 exact wpAny_pure (h _ _)
end
theorem walk {prog:Program} {w:World} {A:Around} (hh:A.handled=none) (I t:Addr) (hne:t ≠ I) (its:Array Value) (hz:(its.size:Int) < 2 ^ 63) :
  Walks prog w A I [I,t] [I] its.size (fun i v=>its[its.size - 1 - i]? = some v) (fun i h=>i<=its.size/\fS h I t ((its.size:Int) - 1 - (i:Int))/\IsTup h t its) where
 sub:=fun b hb=>by simp at hb; simp [hb]
 frame:=fun _ _ _ x hk=>⟨x.1,x.2.1.at fun o e=>hk I (by simp) o e,oG x.2.2 fun o e=>hk t (by simp) o e⟩
 item:=fun i s Q E hi x hQ=>by
  have e:(its.size:Int) - 1 - (i:Int)=((its.size - 1 - i:Nat):Int):=by omega
  have hit:=x.2.1
  rw [e] at hit
  have hx:its[its.size - 1 - i]? = some (its[its.size - 1 - i]'(by omega)):=Array.getElem?_eq_getElem (by omega)
  refine next_item hit x.2.2 hx (by omega) fun h' tk hit' hs' => ?_
  have e2:((its.size - 1 - i:Nat):Int) - 1=(its.size:Int) - 1 - ((i + 1:Nat):Int):=by omega
  rw [e2] at hit'
  exact hQ _ h' tk hx ⟨hi,hit',oG x.2.2 fun o eo=>(hs'.2 t hne).trans eo⟩ fun b o hb eo=>hs'.extBut b o (fun h=>hb (by simp [h])) eo
 done:=fun s Q E x hQ=>by
  have e:(its.size:Int) - 1 - (its.size:Int) = -1:=by omega
  have hit:=x.2.1
  rw [e] at hit
  exact next_end hh hit fun h' he'=>hQ h' s.toks fun b o hb eo=>he' b o (fun h=>hb (by simp [h])) eo
 self:=fun _ _ _ _ x hQ=>qR x.2.1 hQ
section
variable {prog:Program} {w:World} {A:Around} {E:Value->Shared->Prop} {s:Shared}
theorem sM {R:Result->Shared->Prop} {I t:Addr} {items:Array Value} (hh:A.handled=none) (hit:fS s.heap I t ((items.size:Int) - 1)) (hl:IsTup s.heap t items) (hne:t ≠ I) (hlen:items.size<=2 ^ 24)
  (S:Addr) (hSI:S ≠ I) (hSl:S ≠ t) (res:Value) (c₀:Nat) (hS:s.heap.get? S=some { cls := .type "list",data := .seq #[] c₀ })
  (hR:∀ h' tk acc' c',(∀ b o,b ≠ S->b ≠ I->s.heap.get? b=some o->h'.get? b=some o)->h'.get? S=some { cls := .type "list",dict:=none,data := .seq acc' c',slots := #[] } →
   ItemsOf (fun i v=>items[items.size - 1 - i]? = some v) acc' items.size->R (.ok (.ret res)) { s with heap:=h',toks:=tk }) :
  wpAny (model prog w) A.in1 (Builtin.List.listExtendWith (.ref S) (.ref I) res)
   (fun fin s'=>match fin with | .done f=>R (.ok f) s' | .again c'=>c'.quiet=true/\codeAny (model prog w) A c' R s') (fun e s'=>R (.error e) s') s:=by
 have hSf:S ∉ [I,t]:=fun hm=>by
  rcases List.mem_cons.mp hm with e | hm
  ·exact hSI e
  ·exact hSl (List.mem_singleton.mp hm)
 have W:=(walk (prog:=prog) (w:=w) (A:=A.in1) hh I t hne items (by omega)).toS
 unfold Builtin.List.listExtendWith
 refine wpAny_bind (wpAny_typeOf (T := "reversed") hit.typeIs ?_)
 have h1:Builtin.List.listSameRef (.ref S) (.ref I)=false:=by simp [Builtin.List.listSameRef,hSI]
 have h2:(Value.type "reversed" == Value.type "list")=false:=by decide +kernel
 have h3:(Value.type "reversed" == Value.type "tuple")=false:=by decide +kernel
 simp only [h1,h2,h3,Bool.or_false,Bool.false_eq_true,if_false]
 refine wpAny_bind (qR hit ?_)
 refine wpAny_bind (wpAny_holding (wX hit hl hlen fun b tk => ?_))
 refine wpAny_ite_split (fun _ => ?_) (fun _=>wpAny_pure ⟨plainId_quiet PySem.F.plain_extend_loop _,?_⟩)
 ·refine wpAny_bind (wpAny_rule ?_)
  refine wpAny_bind ?_
  show wpAny _ A.in1 (updateSeq S (·.push .none) >>= fun _=>updateSeq S (·.pop)) _ _ _
  refine wpAny_bind (wpAny_updateSeq hS rfl ?_)
  have hS₂:=Heap.get?_update_self (Obj.mapSeq (·.push Value.none)) hS rfl
  refine wpAny_updateSeq (hz:=by seq_fits) hS₂ rfl ?_
  have hS₃:=Heap.get?_update_self (Obj.mapSeq (·.pop)) hS₂ rfl
  have oth:∀ b o,b ≠ S->s.heap.get? b=some o->((s.heap.update S (Obj.mapSeq (·.push Value.none))).update S (Obj.mapSeq (·.pop))).get? b=some o :=
   fun b o hb e=>(Heap.get?_update_other _ _ (Ne.symm hb)).trans ((Heap.get?_update_other _ _ (Ne.symm hb)).trans e)
  refine wpAny_pure ⟨plainId_quiet PySem.F.plain_extend_loop _,codeAny_extend_loopS W (by rw [sizeLine_eq]; omega) S hSf res items.size 0 _ _ _ rfl (Nat.zero_le _) ⟨Nat.zero_le _,by simpa using hit.at fun o e=>oth I o (Ne.symm hSI) e,oG hl fun o e=>oth t o (Ne.symm hSl) e⟩ hS₃ (ItemsOf.nil _) fun s' acc' c' hm hS' hacc => ?_⟩
  rw [Moved.eq_with hm]
  refine hR s'.heap s'.toks acc' c' (fun b o hb hbI e=>hm.heap b o (fun hmem => ?_) (oth b o hb e)) hS' hacc
  rcases List.mem_cons.mp hmem with e' | hmem
  ·exact hb e'
  ·exact hbI (List.mem_singleton.mp hmem)
 refine codeAny_extend_loopS W (by rw [sizeLine_eq]; omega) S hSf res items.size 0 _ #[] c₀ rfl (Nat.zero_le _) ⟨Nat.zero_le _,by simpa using hit,hl⟩ hS (ItemsOf.nil _) fun s' acc' c' hm hS' hacc => ?_
 rw [Moved.eq_with hm]
 refine hR s'.heap s'.toks acc' c' (fun b o hb hbI e=>hm.heap b o (fun hmem => ?_) e) hS' hacc
 rcases List.mem_cons.mp hmem with e' | hmem
 ·exact hb e'
 ·exact hbI (List.mem_singleton.mp hmem)
theorem qd {R:List Value->Shared->Prop} {I t:Addr} {items:Array Value} (hh:A.handled=none) (hit:fS s.heap I t ((items.size:Int) - 1)) (hl:IsTup s.heap t items) (hne:t ≠ I) (hlen:items.size<=2 ^ 24)
    (h:∀ (h1:Heap) (tk:Nat) (vs:List Value),vs=items.toList.reverse->(∀ b o,b ≠ I->s.heap.get? b=some o->h1.get? b=some o)->R vs { s with heap:=h1,toks:=tk }) :
    wpAny (model prog w) A (collect (.ref I)) R E s:=by
  obtain ⟨oi,hoi,_⟩:=id hit
  obtain ⟨ol,hol,_⟩:=id hl
  unfold collect
  refine wpAny_bind (wpAny_runValue (codeAny_builtin PySem.F.entry_proto_collect ?_))
  rw [Around.under_plainId PySem.F.plain_proto_collect _]
  show wpAny _ A.in1 (newList [] >>= fun l=>again (.builtin "list.__iadd__" ⟨[l,.ref I],[]⟩)) _ _ s
  refine wpAny_bind (wpAny_newObj_type ?_)
  refine wpAny_pure ⟨plainId_quiet PySem.F.plain_list_iadd _,codeAny_builtin PySem.F.entry_list_iadd ?_⟩
  rw [Around.under_plainId PySem.F.plain_list_iadd _]
  show wpAny _ A.in1 (Builtin.List.listExtendWith (.ref s.heap.objs.size) (.ref I) (.ref s.heap.objs.size)) _ _ { s with heap:=s.heap.push { cls := .type "list",data := .seq ([]:List Value).toArray } }
  have hS0:(s.heap.push { cls := .type "list",data := .seq ([]:List Value).toArray }).get? s.heap.objs.size=some { cls := .type "list",data := .seq #[] 0 }:=Heap.get?_push_size _ rfl
  refine sM (A:=A) (R:=fun res s'=>match res with
      | .ok (.ret v)=>wpAny (model prog w) A (match v with | .ref a=>(do match (← load a).data with | .seq xs _=>pure xs.toList | _=>unsupported "internal:collect") | _=>unsupported "internal:collect") R E s'
      | .ok _=>False
      | .error e=>E e s') (s:={ s with heap:=s.heap.push { cls := .type "list",data := .seq ([]:List Value).toArray } }) hh (hit.at fun o e=>Heap.get?_push_of_some _ e) (oG hl fun o e=>Heap.get?_push_of_some _ e) hne hlen s.heap.objs.size (Ne.symm (Nat.ne_of_lt (Heap.lt_size hoi))) (Ne.symm (Nat.ne_of_lt (Heap.lt_size hol))) (.ref s.heap.objs.size) 0 hS0 fun h' tk acc' c' kk hS' it => ?_
  show wpAny _ A (load s.heap.objs.size >>= _) _ _ { s with heap:=h',toks:=tk }
  refine wpAny_bind (wpAny_load hS' ?_)
  refine wpAny_pure (h h' tk acc'.toList ?_ fun b o hb e=>kk b o (Nat.ne_of_lt (Heap.lt_size e)) hb (Heap.get?_push_of_some _ e))
  refine List.ext_getElem? fun j => ?_
  rw [Array.getElem?_toList]
  have h1:acc'.size=items.toList.length:=it.1
  by_cases hj:j < items.toList.length
  · obtain ⟨v,hv⟩:∃ v,acc'[j]? = some v:=⟨acc'[j]'(by omega),Array.getElem?_eq_getElem _⟩
    have:=it.2 j v hv
    dsimp only at this
    rw [<- Array.getElem?_toList] at this
    rw [hv,List.getElem?_reverse hj, <- this]
    rfl
  · rw [Array.getElem?_eq_none (by omega),List.getElem?_eq_none (by rw [List.length_reverse]; omega)]
theorem ja (I t:Addr) (items:Array Value) (hne:t ≠ I) (hn:items.size<=1000) :
  Meets (Builtin.«tuple.__new__» ⟨[.type "tuple",.ref I],[]⟩)
   (fun A R s=>A.handled=none/\fS s.heap I t ((items.size:Int) - 1)/\IsTup s.heap t items/\∀ (h':Heap) (tk:Nat),(∀ b o',b ≠ I->s.heap.get? b=some o'->h'.get? b=some o')->R (.ok (.ret (.ref h'.objs.size))) { s with heap:=h'.push { cls := .type "tuple",data := .seq items.toList.reverse.toArray },toks:=tk }) :=
 .of_wp fun prog w A R s h=>by
  obtain ⟨hp,g,d,tk,os⟩:=s; obtain ⟨hh,hr,ht,h⟩:=h
  have hsub:=sub_tuple_self
  have hinit:=init_tuple_lookup
  have hmh:=madeHere_tuple
  have hT:Shared.TypeIs ⟨hp,g,d,tk,os⟩ (.ref I) "reversed" := fS.typeIs (s:=⟨hp,g,d,tk,os⟩) hr
  wp_walk using wpAny_typeOf hT,qd (by simpa using hh) hr ht hne (by omega)
  rintro h' tk' vs rfl hk
  show wpAny _ _ (Builtin.Tuple.tupleExact items.toList.reverse.toArray >>= fun v=>ret v) _ _ _
  unfold Builtin.Tuple.tupleExact
  refine wpAny_bind (wpAny_newObj_type ?_ (by show items.toList.reverse.toArray.size<=sizeLine; rw [List.size_toArray,List.length_reverse,Array.length_toList]; exact small hn))
  exact wpAny_pure ⟨_,rfl,h h' tk' hk⟩
end
end L2.RvT
namespace L2
open PySem PySem.Spec PyProof.Rows
section
variable {X:Cx}
theorem sN:bootBuiltins "tuple" = some (.type "tuple"):=by decide +kernel
def wY (K:PySem.W.Frag) (te:TE):TE:=fun σ H Q=>te σ H fun x H1=>∃ l xs,x = .ref l/\SqT K H1 l xs/\xs.length<=1000/\∀ p,H1 p=none->Q (.ref p) (upd H1 p (.tup xs.reverse))
theorem sO {e:Expr} {te:TE} {p1 p2 pos1 pos2:Pos} (hh:X.A.handled=none) (hg1:Gl X "tuple") (hm1:X.mg "tuple" = none) (hg2:Gl X "reversed") (hm2:X.mg "reversed" = none) (he:PE X e te)
  (hs1:starEach [Expr.Call (.Name "reversed" p2) [e] [] pos2] X.env=(false,eval (.Call (.Name "reversed" p2) [e] [] pos2) X.env) :: starEach [] X.env:=by rfl) (hp1:(backTo pos1 (starEach [] X.env)).any (·.1)=false:=by rfl)
  (hs2:starEach [e] X.env=(false,eval e X.env) :: starEach [] X.env:=by rfl) (hp2:(backTo pos2 (starEach [] X.env)).any (·.1)=false:=by rfl) :
  PE X (.Call (.Name "tuple" p1) [.Call (.Name "reversed" p2) [e] [] pos2] [] pos1) (wY X.K te):=by
 intro pins s σ H Q I h
 refine wpAny_Call_Name_kw (fY I hg1 hm1 sN ?_ (by decide) (by decide))
 refine PyProof.Rows.callWith_type1 ?_ hs1 hp1
 rw [hs1]
 show wpAny _ _ (spliced ((false,eval (.Call (.Name "reversed" p2) [e] [] pos2) X.env) :: backTo pos1 (starEach [] X.env))) _ _ s
 refine Calls.spliced_cons ?_
 refine wpAny_Call_Name_kw (fY I hg2 hm2 i5 ?_ (by decide) (by decide))
 refine PyProof.Rows.callWith_type1 (thn ((aa he ag hs2) pos2 pins s σ H (fun vs H1=>match vs with | [x]=>∃ l xs,x = .ref l/\SqT X.K H1 l xs/\xs.length<=1000/\∀ p,H1 p=none->Q (.ref p) (upd H1 p (.tup xs.reverse)) | _=>False) I ?_) fun us s1 ⟨vs,H1,I1,r1,q1⟩ => ?_) hs2 hp2
 ·exact h
 ·match vs,q1 with
  | [x],q1 =>
  obtain ⟨t,xs,rfl,hx,h1000,q⟩:=q1
  obtain ⟨u,rfl,ru⟩:=vals1 r1
  cases (show u=Value.ref t from ru)
  obtain ⟨its,r,ht,hz⟩:=I1.tuple hx
  have ll:=r.length
  have lz:its.toArray.size=xs.length:=by rw [List.size_toArray]; exact ll.symm
  refine RvT.uW ht (by rw [lz]; omega) ?_
  refine Calls.spliced_nil ?_
  obtain ⟨ot,hot,_⟩:=id ht
  refine callType_new PySem.F.called_tuple (by decide) (PySem.F.typeCall_tuple_1 _) (PySem.F.newCall_tuple_1 _) (fun obj=>PySem.F.args_object_init_2 obj _) PySem.F.entry_tuple_new
   (RvT.ja s1.heap.objs.size t its.toArray (Nat.ne_of_lt (Heap.lt_size hot)) (by rw [lz]; exact h1000)) ⟨by simpa using hh,⟨_,Heap.get?_push_size _ rfl,rfl,rfl⟩,RvT.oG ht (fun o e=>Heap.get?_push_of_some _ e),fun h' tk k=>⟨⟨_,Heap.get?_push_size _ rfl,rfl⟩,?_⟩⟩
  have I2:Inv X pins σ H1 { s1 with heap:=h',toks:=tk }:=I1.kept fun b o e=>k b o (Nat.ne_of_lt (Heap.lt_size e)) (Heap.get?_push_of_some _ e)
  exact ⟨.ref h'.objs.size,_,I2.laid (o := .tup xs.reverse) (fun b ob q=>Heap.get?_push_of_some _ q) (Nat.le_refl _) ⟨by rw [List.length_reverse]; exact small h1000,its.reverse,oB r,dw.new _ _⟩,rfl,q _ (I2.hok.fresh (Nat.le_refl _))⟩
theorem kD (l b:Addr) (its its2:Array Value) (n:Nat) (hz:its.size + its2.size<=sizeLine) :
  Meets (Builtin.«list.extend» ⟨[.ref l,.ref b],[]⟩) (fun _ R s=>s.heap.get? l=some { cls := .type "list",dict:=none,data := .seq its n,slots := #[] }/\IsTup s.heap b its2/\R (.ok (.ret Value.none)) { s with heap:=s.heap.update l (Obj.mapSeq fun x=>x ++ its2),toks:=s.toks }) :=
 .of_wp fun prog w A R s h=>by
  obtain ⟨hl,hb,h⟩:=h
  obtain ⟨o,ho,hc,k,hd⟩:=id hb
  unfold Builtin.«list.extend»
  refine wpAny_bind (wpAny_of_eq (a:=(Value.ref l,Value.ref b)) rfl ?_)
  show wpAny _ _ (Builtin.List.listExtendWith (.ref l) (.ref b) .none) _ _ s
  unfold Builtin.List.listExtendWith
  refine wpAny_bind (wpAny_typeOf hb.typeIs ?_)
  rw [if_pos (by rw [show (Value.type "tuple" == Value.type "tuple")=true from by decide]; exact Bool.or_true _)]
  refine wpAny_bind (wpAny_listItems ho hd ?_)
  refine wpAny_bind (wpAny_listItems hl rfl ?_)
  refine wpAny_ite_split (fun hab=>absurd hab ?_) (fun _ => ?_)
  ·rw [jB hz,Bool.and_false]; exact Bool.false_ne_true
  refine wpAny_bind ?_
  show wpAny _ _ (updateSeq l (· ++ its2)) _ _ _
  exact wpAny_updateSeq hl rfl (hz:=by omega) (_hz':=by rw [Array.size_append]; omega) (wpAny_pure ⟨_,rfl,h⟩)
def uZ:V->List V->Hp->VK->Prop:=fun x vs H Q=>∃ l b xs zs,x = .ref l/\vs=[.ref b]/\H l=some (.lst xs)/\H b=some (.tup zs)/\xs.length + zs.length<=sizeLine/\Q .non (upd H l (.lst (xs ++ zs)))
theorem jV:MtM X "list.extend" uZ:=by
 intro pins s σ H x vs v us Q I rx rv h
 obtain ⟨l,b,xs,zs,rfl,rfl,hH,hB,hz,q⟩:=h
 cases rx
 obtain ⟨u,rfl,ru⟩:=rv.one
 cases ru
 obtain ⟨z,its,n,r,hl,e⟩:=I.rG hH
 obtain ⟨z2,its2,r2,t2⟩:=I.hok b _ hB
 have hl2:=r2.length
 refine call_meets F.slot_list_extend ⟨_,e,rfl⟩ F.entry_list_extend (F.args_list_extend_2 _ _)
  (kD l b its.toArray its2.toArray n (by rw [List.size_toArray,List.size_toArray]; omega)) ⟨e,t2.tup,?_⟩
 refine ⟨.non,_,I.t8 (its':=its ++ its2) hH e (by simp) (r.append r2) ?_,rfl,q⟩
 rw [List.length_append]
 omega
theorem wZ {k:Nat} (hr:cA k X.A):OpR X (compareOp .Eq) (fun x y H Q=>∃ (a b:Addr) (ns ms:List Int),x = .ref a/\y = .ref b/\SqL X.K H a (ns.map V.int)/\SqL X.K H b (ms.map V.int)/\Q (.bl (decide (ns=ms))) H):=by
 intro pins s σ H x y v u Q I rx ry h
 obtain ⟨a,b,ns,ms,rfl,rfl,h1,h2,q⟩:=h
 cases (show v=Value.ref a from rx)
 cases (show u=Value.ref b from ry)
 obtain ⟨its,r1,⟨⟨c1,d1,da1,sl1⟩,n1,e1,k1,_,k3⟩,_⟩:=I.list h1
 obtain ⟨its2,r2,⟨⟨c2,d2,da2,sl2⟩,n2,e2,g1,_,g3⟩,_⟩:=I.list h2
 simp only at k1 k3 g1 g3
 subst k1 k3 g1 g3
 have l1:=r1.length
 have l2:=r2.length
 rw [List.length_map] at l1 l2
 have hu:=hr.un
 have hu1:X.A.units < cLine:=by omega
 by_cases hl:ns.length=ms.length
 ·refine richCompare_meets_room (op := .Eq) ⟨_,e1,rfl⟩ ⟨_,e2,rfl⟩ F.slot_list_eq F.entry_list_eq (F.args_list_eq_2 _ _) (SeqAt.list_eqAt a b its.toArray its2.toArray n1 n2 d1 d2 sl1 sl2 (by rw [List.size_toArray,List.size_toArray]; omega) (wQ ns ms)) ⟨e1,e2,?_,?_⟩ hu1
  ·intro j h1 h2
   obtain ⟨t1,g1⟩:=intAt r1 h1
   obtain ⟨t2,g2⟩:=intAt r2 h2
   rw [g1,g2]
   exact SeqAt.EqAt.int_int _ t1 _ t2
  ·have ez:its.toArray.size=ns.length:=by rw [List.size_toArray]; omega
   rw [ez,oz hl]
   exact ⟨(fun z=>nomatch z),⟨.bl _,H,I,rfl,q⟩⟩
 ·have ne:ns ≠ ms:=fun z=>hl (by rw [z])
  rw [decide_eq_false ne] at q
  refine richCompare_meets_room (op := .Eq) ⟨_,e1,rfl⟩ ⟨_,e2,rfl⟩ F.slot_list_eq F.entry_list_eq (F.args_list_eq_2 _ _) (SeqAt.list_eq_lengthsAt a b its.toArray its2.toArray n1 n2 d1 d2 sl1 sl2 (by simp; omega)) ⟨e1,e2,?_⟩ hu1
  exact ⟨(fun z=>nomatch z),⟨.bl false,H,I,rfl,q⟩⟩
theorem yI {k:Nat} (hr:cA k X.A):OpR X (compareOp .Eq) (fun x y H Q=>∃ a b xs ys,x = .ref a/\y = .ref b/\SqL X.K H a xs/\SqL X.K H b ys/\((xs.length ≠ ys.length/\Q (.bl false) H)\/(Paired (cZ X.K H 20) xs ys/\Q (.bl true) H))):=by
 intro pins s σ H x y v u Q I rx ry h
 obtain ⟨a,b,xs,ys,rfl,rfl,h1,h2,h3⟩:=h
 rcases h3 with ⟨ne,q⟩ | ⟨p,q⟩
 ·cases (show v=Value.ref a from rx)
  cases (show u=Value.ref b from ry)
  obtain ⟨its,r1,⟨⟨c1,d1,da1,sl1⟩,n1,e1,k1,_,k3⟩,_⟩:=I.list h1
  obtain ⟨its2,r2,⟨⟨c2,d2,da2,sl2⟩,n2,e2,g1,_,g3⟩,_⟩:=I.list h2
  simp only at k1 k3 g1 g3
  subst k1 k3 g1 g3
  have l1:=r1.length
  have l2:=r2.length
  have hu:=hr.un
  have hu1:X.A.units < cLine:=by omega
  refine richCompare_meets_room (op := .Eq) ⟨_,e1,rfl⟩ ⟨_,e2,rfl⟩ F.slot_list_eq F.entry_list_eq (F.args_list_eq_2 _ _) (SeqAt.list_eq_lengthsAt a b its.toArray its2.toArray n1 n2 d1 d2 sl1 sl2 (by simp; omega)) ⟨e1,e2,?_⟩ hu1
  exact ⟨(fun z=>nomatch z),⟨.bl false,H,I,rfl,q⟩⟩
 ·exact wU hr pins s σ H _ _ v u Q I rx ry ⟨a,b,xs,ys,rfl,rfl,h1,h2,p,q⟩
theorem mW:SlR X (fun x lo hi H Q=>∃ a xs,x = .ref a/\H a=some (.tup xs)/\∀ p2 H2,aL H H2->H2 p2=some (.tup (eR xs lo hi))->Q (.ref p2) H2):=by
 intro pins s σ H x v vl vu lo hi sl Q I rx hs pl pu h
 obtain ⟨a,xs,rfl,ep,key⟩:=h
 refine wJ pins s σ H _ v vl vu lo hi sl Q I rx hs pl pu ⟨a,xs,rfl,SqT.of ep,fun z=>key a H (aL.refl _) ?_,fun _ p2 hp2=>key p2 _ (af hp2 _) ae⟩
 unfold eR
 rw [z.1,z.2,List.drop_zero,Nat.sub_zero,List.take_length]
 exact ep
theorem jW:OpR X (binaryOp .Add) (fun x y H Q=>∃ a b xs ys,x = .ref a/\y = .ref b/\H a=some (.tup xs)/\H b=some (.tup ys)/\xs.length + ys.length<=sizeLine/\∀ p H',aL H H'->H' p=some (.tup (xs ++ ys))->Q (.ref p) H'):=by
 intro pins s σ H x y v u Q I rx ry h
 obtain ⟨a,b,xs,ys,rfl,rfl,ha,hb,hz,q⟩:=h
 exact uQ pins s σ H _ _ v u Q I rx ry (qP.one ha hb hz q)
end
end L2
set_option maxHeartbeats 800000
namespace K45
open PySem L2
def top (i:Nat):Stmt:=PySem.Challenge.pw_ringfell_k45_partings_counted.main.body.getD i (.Pass ⟨0,0,0,0⟩)
abbrev gT:Stmt:=top 4
abbrev df:Stmt:=top 5
abbrev cD:Stmt:=top 6
abbrev cV:Stmt:=top 7
abbrev dJ:Stmt:=top 8
abbrev gU:Stmt:=top 9
abbrev bZ:Stmt:=top 10
abbrev bM:Stmt:=top 11
abbrev dg:Stmt:=top 13
abbrev cE:Stmt:=top 14
abbrev cn:Stmt:=top 15
abbrev dM:Stmt:=top 16
abbrev bB:Stmt:=top 17
abbrev jX:Stmt:=top 19
abbrev jY:Stmt:=top 20
abbrev fg:Stmt:=top 21
abbrev fh:Stmt:=top 22
abbrev gW:Stmt:=top 23
abbrev dN:Stmt:=top 24
abbrev dO:Stmt:=top 25
abbrev fP:Stmt:=top 26
abbrev gX:Stmt:=top 27
abbrev dh:Stmt:=top 28
abbrev dP:Stmt:=top 29
abbrev mX:Stmt:=top 30
structure Blt (mg:Str->Option Value):Prop where
 b_all:mg "all" = none
 b_any:mg "any" = none
 b_bool:mg "bool" = none
 b_int:mg "int" = none
 b_isinstance:mg "isinstance" = none
 b_len:mg "len" = none
 b_list:mg "list" = none
 b_max:mg "max" = none
 b_min:mg "min" = none
 b_range:mg "range" = none
 b_reversed:mg "reversed" = none
 b_set:mg "set" = none
 b_sorted:mg "sorted" = none
 b_sum:mg "sum" = none
 b_tuple:mg "tuple" = none
 b_zip:mg "zip" = none
theorem u9:bootBuiltins "all" = some (.builtin "all"):=by decide +kernel
theorem vb:bootBuiltins "any" = some (.builtin "any"):=by decide +kernel
theorem fX:bootBuiltins "isinstance" = some (.builtin "isinstance"):=by decide +kernel
theorem gj:bootBuiltins "len" = some (.builtin "len"):=by decide +kernel
theorem ji:bootBuiltins "list" = some (.type "list"):=by decide +kernel
theorem vc:bootBuiltins "max" = some (.builtin "max"):=by decide +kernel
theorem qe:bootBuiltins "min" = some (.builtin "min"):=by decide +kernel
theorem gY:bootBuiltins "range" = some (.type "range"):=by decide +kernel
theorem i5:bootBuiltins "reversed" = some (.type "reversed"):=by decide +kernel
theorem vd:bootBuiltins "set" = some (.type "set"):=by decide +kernel
theorem bq:bootBuiltins "sorted" = some (.builtin "sorted"):=by decide +kernel
theorem ve:bootBuiltins "sum" = some (.builtin "sum"):=by decide +kernel
theorem jZ:bootBuiltins "tuple" = some (.type "tuple"):=by decide +kernel
abbrev sAt:Stmt:=gT
abbrev vf:Stmt:=df
abbrev zK:Stmt:=gU
abbrev vg:Stmt:=bZ
abbrev xJ:Stmt:=bM
abbrev qS:Stmt:=cD
abbrev vh:Stmt:=dg
abbrev vi:Stmt:=cE
abbrev qT:Stmt:=jX
abbrev xK:Stmt:=jY
abbrev qU:Stmt:=fg
abbrev mY:Stmt:=fh
abbrev qf:Stmt:=gW
abbrev j0:Stmt:=dO
abbrev vj:Stmt:=gX
abbrev vk:Stmt:=dh
section
variable {P:Program} {w:World} {K:PySem.W.Frag} {mg:Str->Option Value} {base:Heap} {f:Addr} {fd:FuncData}
end
open PySem L2
structure Wb (H:Hp) (r:Addr) (m:Int) (ts:List (Addr × List Int)):Prop where
 at':∃ t,H r=some (.tup [.int m,.ref t])/\H t=some (.tup (ts.map fun u => .ref u.1))
 tup:∀ u ∈ ts,H u.1=some (.tup (u.2.map V.int))
 pr:∀ u ∈ ts,∃ a b:Int,u.2=[a,b]/\0<=a/\a<=b/\b < m
 len:ts.length<=200
theorem Wb.tp {H H':Hp} {r:Addr} {m:Int} {ts:List (Addr × List Int)} (h:Wb H r m ts) (t:Tp H H'):Wb H' r m ts :=
 let ⟨p,e1,e2⟩:=h.at'
 ⟨⟨p,t _ _ e1,t _ _ e2⟩,fun u hu=>t _ _ (h.tup u hu),h.pr,h.len⟩
theorem Wb.same {H H':Hp} {r:Addr} {m:Int} {ts:List (Addr × List Int)} (h:Wb H r m ts) (s:aL H H'):Wb H' r m ts:=h.tp s.tp
theorem item {ts:List (Addr × List Int)} {i:Nat} {x:V} (e:(ts.map fun t:Addr × List Int=>V.ref t.1)[i]? = some x):∃ u,ts[i]? = some u/\x = .ref u.1:=by
 rw [List.getElem?_map] at e
 cases z:ts[i]? with
 | none=>rw [z] at e; cases e
 | some tt=>rw [z] at e; exact ⟨tt,rfl,(Option.some.inj e).symm⟩
theorem take_snoc {α β : Type} {f : α -> β} {l:List α} {i:Nat} {x : α} (e:l[i]? = some x):(l.take (i + 1)).map f=(l.take i).map f ++ [f x]:=by
 rw [List.take_add_one,e,List.map_append]; rfl
def eQ (ns:List (List Int)) (k:Int):Int:=(ns.map fun p=>(p.count k:Int)).sum
abbrev xM:Sp:=fun vs H Q _=>∃ (r:Addr) (m k:Int) (ts:List (Addr × List Int)),vs=[.ref r,.int k]/\Wb H r m ts/\∀ H',aL H H'->Q (.int (eQ (ts.map (·.2)) k)) H'
@[irreducible] def vn:Sp:=xM
theorem j3 {vs:List V} {H:Hp} {Q:VK} {E:XK}:vn vs H Q E ↔ xM vs H Q E:=by
 delta vn
 exact Iff.rfl
def both (ps:List Int) (p:List Int):Bool:=decide (p.getD 0 0 ∈ ps) && decide (p.getD 1 0 ∈ ps)
abbrev lP:Sp:=fun vs H Q _=>∃ (r p:Addr) (m:Int) (ts:List (Addr × List Int)) (ps:List Int),vs=[.ref r,.ref p]/\Wb H r m ts/\(H p=some (.lst (ps.map V.int))\/H p=some (.tup (ps.map V.int)))/\∀ H',aL H H'->Q (.int (((ts.map (·.2)).filter (both ps)).length:Nat)) H'
@[irreducible] def cF:Sp:=lP
theorem bI {vs:List V} {H:Hp} {Q:VK} {E:XK}:cF vs H Q E ↔ lP vs H Q E:=by
 delta cF
 exact Iff.rfl
theorem cq (ps:List Int):(ps.map V.int).all gE=true:=by
 rw [List.all_map,List.all_eq_true]
 intro x _
 rfl
theorem cG (k:Int):∀ ps:List Int,inV (.int k) (ps.map V.int)=decide (k ∈ ps)
 | []=>by simp [inV]
 | p :: ps=>by
  have ih:=cG k ps
  unfold inV at ih ⊢
  rw [List.map_cons,List.any_cons,ih]
  have e:eqV (.int p) (.int k)=(p == k):=rfl
  rw [e]
  by_cases h:p=k
  ·subst h; simp
  ·rw [beq_eq_false_iff_ne.mpr h,Bool.false_or]
   apply decide_eq_decide.mpr
   rw [List.mem_cons]
   exact ⟨.inr,fun x=>x.elim (fun y=>absurd y.symm h) id⟩
section
variable {P:Program} {w:World} {K:PySem.W.Frag} {mg:Str->Option Value} {base:Heap} {f:Addr} {fd:FuncData}
theorem ndTP:(["tie", "place"]:List Str).Nodup:=by decide +kernel
theorem vo:(["tie", "places"]:List Str).Nodup:=by decide +kernel
theorem scAt:aK ["web", "place"] ["web", "place"] (ak sAt):=⟨rfl,rfl,rfl,by decide +kernel,rfl,by decide +kernel,by decide +kernel⟩
theorem okAt (F:Fun K "ties_at" "ties_at" sAt f fd) (ms:mg "sum" = none):bE P w K mg base CX0 1 f fd ["web", "place"] vn:=by
 refine F.ok scAt (fun vs H Q E h => ?_) (fun cdv A outer s H vs Q E hr h => ?_)
 ·obtain ⟨a,b,c,d,rfl,_⟩:=j3.mp h
  rfl
 obtain ⟨r,m,k,ts,rfl,W,q⟩:=j3.mp h
 obtain ⟨t,e1,e2⟩:=W.at'
 refine ⟨_,ao (aM (av (om hr.hd) rfl ms ve (aa (bF ["tie", "place"] [none,some 1] rfl (eV (aH aO (pv 0) ah (fun _ _=>rfl))) rfl (fun _ _ _ _ _=>aB (i:=0) ndTP rfl (Or.inl rfl)) (fun _ _ _ _ _=>dz)
  (fun _ _ _ _ _=>yD PySem.F.slot_tuple_count PySem.F.type_tuple_count sg (pv 0) (aa (pv 1) ag))) ag))),?_⟩
 refine ⟨_,rfl,r,_,1,_,rfl,rfl,SqT.of e1,rfl,t,rfl,⟨_,SqT.of e2⟩,bQ (xs:=ts.map fun u => .ref u.1) (fun i ys H'=>H'=H/\ys=((ts.take i).map fun u=>(u.2.count k:Int)).map V.int) ⟨rfl,rfl⟩ (by rw [List.length_map]; exact small (by have:=W.len; omega)) (fun i ys H' _ z=>by rw [z.1]; exact SqT.of e2) ?_ ?_⟩
 ·rintro i x ys H3 hx hy ⟨rfl,rfl⟩ R1 R0 r1 r0
  obtain ⟨u,eu,rfl⟩:=item hx
  have hu:=W.tup u (List.mem_of_getElem? eu)
  refine bT ⟨_,rfl,⟨_,_,rfl,hu⟩,_,rfl,u.1,u.2,k,rfl,rfl,hu,r1 _ _ ⟨rfl,?_⟩⟩
  rw [take_snoc (f:=fun u:Addr × List Int=>(u.2.count k:Int)) eu,List.map_append]
  rfl
 ·rintro ys H3 hy ⟨rfl,rfl⟩ l hl
  rw [List.length_map,List.take_of_length_le (Nat.le_refl _)]
  refine ⟨l,_,rfl,ae,?_⟩
  have:=q _ (af hl (.lst ((ts.map fun u=>(u.2.count k:Int)).map V.int)))
  unfold eQ at this
  rw [List.map_map] at this
  exact this
theorem vp:aK ["web", "places"] ["web", "places"] (ak qS):=⟨rfl,rfl,rfl,by decide +kernel,rfl,by decide +kernel,by decide +kernel⟩
theorem vq (F:Fun K "ties_within" "ties_within" qS f fd) (B:Blt mg):bE P w K mg base CX0 1 f fd ["web", "places"] cF:=by
 refine F.ok vp (fun vs H Q E h => ?_) (fun cdv A outer s H vs Q E hr h => ?_)
 ·obtain ⟨a,b,c,d,e,rfl,_⟩:=bI.mp h
  rfl
 obtain ⟨r,p,m,ts,ps,rfl,W,hp,q⟩:=bI.mp h
 obtain ⟨t,e1,e2⟩:=W.at'
 refine ⟨_,ao (aM (av aG rfl B.b_len PySem.boot_len (aa (bF ["tie", "places"] [none,some 1] rfl (eV (aH aO (pv 0) ah (fun _ _=>rfl))) rfl (fun _ _ _ _ _=>aB (i:=0) vo rfl (Or.inl rfl))
  (fun _ _ _ _ _=>iG (PW.pt (js (aF (mE (K:=K)) (aH (d9 (K:=K)) (pv 0) ah (fun _ _=>rfl)) (pv 1) rfl) (gy (aF (mE (K:=K)) (aH (d9 (K:=K)) (pv 0) ah (fun _ _=>rfl)) (pv 1) rfl)))))
  (fun _ _ _ _ _=>pv 0)) ag))),?_⟩
 have sq:∀ {H':Hp},H'=H->SqL K H' p (ps.map V.int)\/SqT K H' p (ps.map V.int):=fun e=>by
  rw [e]
  rcases hp with z | z
  ·exact .inl (SqL.of z)
  ·exact .inr (SqT.of z)
 refine ⟨_,rfl,r,_,1,_,rfl,rfl,SqT.of e1,rfl,t,rfl,⟨_,SqT.of e2⟩,bQ (xs:=ts.map fun u => .ref u.1) (fun i ys H'=>H'=H/\ys.length=(((ts.take i).map (·.2)).filter (both ps)).length) ⟨rfl,rfl⟩ (by rw [List.length_map]; exact small (by have:=W.len; omega)) (fun i ys H' _ z=>by rw [z.1]; exact SqT.of e2) ?_ ?_⟩
 ·rintro i x ys H3 hx hy ⟨rfl,ey⟩ R1 R0 r1 r0
  obtain ⟨u,eu,rfl⟩:=item hx
  have hu:=W.tup u (List.mem_of_getElem? eu)
  obtain ⟨a,b,e3,_⟩:=W.pr u (List.mem_of_getElem? eu)
  rw [e3] at hu
  have bb:both ps u.2=(decide (a ∈ ps) && decide (b ∈ ps)):=by rw [e3]; rfl
  have g1:both ps u.2=true->R1 (.ref u.1) H3:=fun ec=>by
   refine r1 _ _ ⟨rfl,?_⟩
   rw [take_snoc (f:=fun u:Addr × List Int=>u.2) eu,List.filter_append,List.length_append,List.length_append,ey,List.filter_cons_of_pos ec]
   rfl
  have g0:both ps u.2=false->R0 H3:=fun ec=>by
   refine r0 _ ⟨rfl,?_⟩
   rw [take_snoc (f:=fun u:Addr × List Int=>u.2) eu,List.filter_append,List.length_append,ey,List.filter_cons_of_neg (by rw [ec]; exact Bool.false_ne_true)]
   rfl
  refine ⟨_,rfl,u.1,_,0,_,rfl,rfl,SqT.of hu,rfl,_,rfl,p,_,rfl,sq rfl,rfl,cq ps,_,rfl,?_⟩
  show if (if false=true then _ else inV (.int a) (ps.map V.int))=true then _ else _
  rw [if_neg Bool.false_ne_true,cG]
  by_cases ha:a ∈ ps
  ·rw [decide_eq_true ha] at bb ⊢
   refine bT ⟨_,rfl,u.1,_,1,_,rfl,rfl,SqT.of hu,rfl,_,rfl,p,_,rfl,sq rfl,rfl,cq ps,_,rfl,?_⟩
   show if (if false=true then _ else inV (.int b) (ps.map V.int))=true then _ else _
   rw [if_neg Bool.false_ne_true,cG]
   by_cases hb:b ∈ ps
   ·rw [decide_eq_true hb] at bb ⊢
    exact bT ⟨_,rfl,g1 bb⟩
   ·rw [decide_eq_false hb] at bb ⊢
    exact cY (g0 bb)
  ·rw [decide_eq_false ha] at bb ⊢
   exact cY (cY (g0 bb))
 ·rintro ys H3 hy ⟨rfl,ey⟩ l hl
  rw [List.length_map,List.take_of_length_le (Nat.le_refl _)] at ey
  refine ⟨l,_,rfl,.inl (SqL.of ae),?_⟩
  rw [ey]
  exact q _ (af hl _)
theorem sP:aK ["web", "places"] ["web", "places"] (ak dN):=⟨rfl,rfl,rfl,by decide +kernel,rfl,by decide +kernel,by decide +kernel⟩
theorem sQ (F:Fun K "_law_within" "_law_within" dN f fd) (B:Blt mg):bE P w K mg base CX0 1 f fd ["web", "places"] cF:=by
 refine F.ok sP (fun vs H Q E h => ?_) (fun cdv A outer s H vs Q E hr h => ?_)
 ·obtain ⟨a,b,c,d,e,rfl,_⟩:=bI.mp h
  rfl
 obtain ⟨r,p,m,ts,ps,rfl,W,hp,q⟩:=bI.mp h
 obtain ⟨t,e1,e2⟩:=W.at'
 refine ⟨_,ao (aM (av aG rfl B.b_len PySem.boot_len (aa (bF ["tie", "places"] [none,some 1] rfl (eV (aH aO (pv 0) ah (fun _ _=>rfl))) rfl (fun _ _ _ _ _=>aB (i:=0) vo rfl (Or.inl rfl))
  (fun _ _ _ _ _=>iG (PW.pt (js (aF (mE (K:=K)) (aH (d9 (K:=K)) (pv 0) ah (fun _ _=>rfl)) (pv 1) rfl) (gy (aF (mE (K:=K)) (aH (d9 (K:=K)) (pv 0) ah (fun _ _=>rfl)) (pv 1) rfl)))))
  (fun _ _ _ _ _=>pv 0)) ag))),?_⟩
 have sq:∀ {H':Hp},H'=H->SqL K H' p (ps.map V.int)\/SqT K H' p (ps.map V.int):=fun e=>by
  rw [e]
  rcases hp with z | z
  ·exact .inl (SqL.of z)
  ·exact .inr (SqT.of z)
 refine ⟨_,rfl,r,_,1,_,rfl,rfl,SqT.of e1,rfl,t,rfl,⟨_,SqT.of e2⟩,bQ (xs:=ts.map fun u => .ref u.1) (fun i ys H'=>H'=H/\ys.length=(((ts.take i).map (·.2)).filter (both ps)).length) ⟨rfl,rfl⟩ (by rw [List.length_map]; exact small (by have:=W.len; omega)) (fun i ys H' _ z=>by rw [z.1]; exact SqT.of e2) ?_ ?_⟩
 ·rintro i x ys H3 hx hy ⟨rfl,ey⟩ R1 R0 r1 r0
  obtain ⟨u,eu,rfl⟩:=item hx
  have hu:=W.tup u (List.mem_of_getElem? eu)
  obtain ⟨a,b,e3,_⟩:=W.pr u (List.mem_of_getElem? eu)
  rw [e3] at hu
  have bb:both ps u.2=(decide (a ∈ ps) && decide (b ∈ ps)):=by rw [e3]; rfl
  have g1:both ps u.2=true->R1 (.ref u.1) H3:=fun ec=>by
   refine r1 _ _ ⟨rfl,?_⟩
   rw [take_snoc (f:=fun u:Addr × List Int=>u.2) eu,List.filter_append,List.length_append,List.length_append,ey,List.filter_cons_of_pos ec]
   rfl
  have g0:both ps u.2=false->R0 H3:=fun ec=>by
   refine r0 _ ⟨rfl,?_⟩
   rw [take_snoc (f:=fun u:Addr × List Int=>u.2) eu,List.filter_append,List.length_append,ey,List.filter_cons_of_neg (by rw [ec]; exact Bool.false_ne_true)]
   rfl
  refine ⟨_,rfl,u.1,_,0,_,rfl,rfl,SqT.of hu,rfl,_,rfl,p,_,rfl,sq rfl,rfl,cq ps,_,rfl,?_⟩
  show if (if false=true then _ else inV (.int a) (ps.map V.int))=true then _ else _
  rw [if_neg Bool.false_ne_true,cG]
  by_cases ha:a ∈ ps
  ·rw [decide_eq_true ha] at bb ⊢
   refine bT ⟨_,rfl,u.1,_,1,_,rfl,rfl,SqT.of hu,rfl,_,rfl,p,_,rfl,sq rfl,rfl,cq ps,_,rfl,?_⟩
   show if (if false=true then _ else inV (.int b) (ps.map V.int))=true then _ else _
   rw [if_neg Bool.false_ne_true,cG]
   by_cases hb:b ∈ ps
   ·rw [decide_eq_true hb] at bb ⊢
    exact bT ⟨_,rfl,g1 bb⟩
   ·rw [decide_eq_false hb] at bb ⊢
    exact cY (g0 bb)
  ·rw [decide_eq_false ha] at bb ⊢
   exact cY (cY (g0 bb))
 ·rintro ys H3 hy ⟨rfl,ey⟩ l hl
  rw [List.length_map,List.take_of_length_le (Nat.le_refl _)] at ey
  refine ⟨l,_,rfl,.inl (SqL.of ae),?_⟩
  rw [ey]
  exact q _ (af hl _)
end
def nb1 (p:List Int) (k:Int):List Int:=if p.getD 0 0=p.getD 1 0 then [] else if p.getD 0 0=k then [p.getD 1 0] else if p.getD 1 0=k then [p.getD 0 0] else []
theorem mZ {a b k x:Int}:x ∈ nb1 [a,b] k ↔ a ≠ b/\((a=k/\x=b)\/(b=k/\x=a)):=by
 show x ∈ (if a=b then [] else if a=k then [b] else if b=k then [a] else []) ↔ _
 by_cases h1:a=b
 ·rw [if_pos h1]; simp [h1]
 ·rw [if_neg h1]
  by_cases h2:a=k
  ·rw [if_pos h2,List.mem_singleton]
   exact ⟨fun e=>⟨h1,.inl ⟨h2,e⟩⟩,fun ⟨_,h⟩=>h.elim (fun z=>z.2) fun z=>absurd (h2.trans z.1.symm) h1⟩
  ·rw [if_neg h2]
   by_cases h3:b=k
   ·rw [if_pos h3,List.mem_singleton]
    exact ⟨fun e=>⟨h1,.inr ⟨h3,e⟩⟩,fun ⟨_,h⟩=>h.elim (fun z=>absurd z.1 h2) fun z=>z.2⟩
   ·rw [if_neg h3]
    exact ⟨fun h=>(by cases h),fun ⟨_,h⟩=>h.elim (fun z=>absurd z.1 h2) fun z=>absurd z.1 h3⟩
def nbs (ns:List (List Int)) (k:Int):List Int:=ns.flatMap fun p=>nb1 p k
theorem jj {ns:List (List Int)} {k x:Int}:x ∈ nbs ns k ↔ ∃ p ∈ ns,x ∈ nb1 p k:=List.mem_flatMap
theorem lQ {k:Int}:∀ {ns:List (List Int)},ns.Nodup->(∀ p ∈ ns,∃ a b:Int,p=[a,b]/\a<=b)->(nbs ns k).Nodup
 | [],_,_=>by simp [nbs]
 | p :: ns,nd,h=>by
  obtain ⟨np,nd'⟩:=List.nodup_cons.mp nd
  have ih:=lQ (k:=k) nd' fun q hq=>h q (List.mem_cons_of_mem _ hq)
  show (nb1 p k ++ nbs ns k).Nodup
  rw [List.nodup_append]
  refine ⟨?_,ih,fun x hx y hy e => ?_⟩
  ·unfold nb1; (repeat' split) <;> simp
  ·subst e
   obtain ⟨a,b,rfl,ab⟩:=h p List.mem_cons_self
   obtain ⟨q,hq,hy⟩:=jj.mp hy
   obtain ⟨c,d,rfl,cd⟩:=h q (List.mem_cons_of_mem _ hq)
   rw [mZ] at hx hy
   apply np
   obtain ⟨n1,hx⟩:=hx
   obtain ⟨n2,hy⟩:=hy
   have:a=c/\b=d:=by
    rcases hx with ⟨h1,h2⟩ | ⟨h1,h2⟩ <;> rcases hy with ⟨h3,h4⟩ | ⟨h3,h4⟩ <;> omega
   rw [this.1,this.2]
   exact hq
theorem fj {o:List Int} (h:o.Pairwise (· <= ·)) (nd:o.Nodup):o.Pairwise (· < ·):=by
 have:o.Pairwise (fun a b=>a<=b/\a ≠ b):=List.Pairwise.and h nd
 exact this.imp fun {a b} z=>by omega
theorem lS:∀ {l m:List Int},l.Pairwise (· < ·)->m.Pairwise (· < ·)->(∀ x,x ∈ l ↔ x ∈ m)->l=m
 | [],[],_,_,_=>rfl
 | [],b :: m,_,_,h=>by have:=(h b).mpr List.mem_cons_self; cases this
 | a :: l,[],_,_,h=>by have:=(h a).mp List.mem_cons_self; cases this
 | a :: l,b :: m,h1,h2,h=>by
  obtain ⟨a1,l1⟩:=List.pairwise_cons.mp h1
  obtain ⟨b1,m1⟩:=List.pairwise_cons.mp h2
  have e:a=b:=by
   rcases List.mem_cons.mp ((h a).mp List.mem_cons_self) with z | z
   ·exact z
   rcases List.mem_cons.mp ((h b).mpr List.mem_cons_self) with y | y
   ·exact y.symm
   have:=a1 b y
   have:=b1 a z
   omega
  subst e
  rw [lS l1 m1 fun x=>⟨fun hx => ?_,fun hx => ?_⟩]
  ·rcases List.mem_cons.mp ((h x).mp (List.mem_cons_of_mem _ hx)) with z | z
   ·have:=a1 x hx; omega
   ·exact z
  ·rcases List.mem_cons.mp ((h x).mpr (List.mem_cons_of_mem _ hx)) with z | z
   ·have:=b1 x hx; omega
   ·exact z
structure Rows (H2 H':Hp) (as:List Addr) (vs:List (List Int)):Prop where
 len:vs.length=as.length
 row:∀ (j:Nat) a v,as[j]? = some a->vs[j]? = some v->H' a=some (.lst (v.map V.int))
 stay:∀ b u,b ∉ as->H2 b=some u->H' b=some u
theorem Rows.push {H2 H':Hp} {as:List Addr} {vs:List (List Int)} (R:Rows H2 H' as vs) (nd:as.Nodup) {j:Nat} {a:Addr} {v:List Int} (ea:as[j]? = some a) (ev:vs[j]? = some v) (x:Int) :
  Rows H2 (upd H' a (.lst ((v.map V.int) ++ [V.int x]))) as (vs.set j (v ++ [x])):=by
 have hj:j < vs.length:=(List.getElem?_eq_some_iff.mp ev).1
 refine ⟨by rw [List.length_set]; exact R.len,fun i b u eb eu => ?_,fun b u hb e => ?_⟩
 ·by_cases h:i=j
  ·subst h
   rw [ea] at eb; cases eb
   rw [List.getElem?_set_self hj] at eu; cases eu
   rw [ae,List.map_append]; rfl
  ·rw [List.getElem?_set_ne (Ne.symm h)] at eu
   have ne:b ≠ a:=fun z=>by
    subst z
    have hi:i < as.length:=(List.getElem?_eq_some_iff.mp eb).1
    exact h ((List.getElem?_inj hi nd).mp (eb.trans ea.symm))
   rw [aq ne]
   exact R.row i b u eb eu
 ·have ne:b ≠ a:=fun z=>hb (z ▸ List.mem_of_getElem? ea)
  rw [aq ne]
  exact R.stay b u hb e
def yJ (vs:List (List Int)) (m:Nat) (ns:List (List Int)):Prop:=vs.length=m/\∀ (j:Nat) v,vs[j]? = some v->v=nbs ns (j:Int)
theorem qV (k:Int):∀ ns:List (List Int),(nbs ns k).length<=ns.length
 | []=>by simp [nbs]
 | p :: ns=>by
  show (nb1 p k ++ nbs ns k).length<=_
  have:=qV k ns
  have h1:(nb1 p k).length<=1:=by unfold nb1; (repeat' split) <;> simp
  rw [List.length_append,List.length_cons]
  omega
theorem oH (ns:List (List Int)) (p:List Int) (k:Int):nbs (ns ++ [p]) k=nbs ns k ++ nb1 p k:=by unfold nbs; simp
abbrev oI:Sp:=fun vs H Q _=>∃ (r:Addr) (m:Int) (ts:List (Addr × List Int)),vs=[.ref r]/\Wb H r m ts/\0<=m/\m<=1000/\∀ (l:Addr) (H':Hp) (os:List (Addr × List Int)),aL H H'->H' l=some (.lst (os.map fun u => .ref u.1))->os.length=m.toNat->(∀ u ∈ os,H' u.1=some (.lst (u.2.map V.int))) →
 (∀ (j:Nat) u,os[j]? = some u->u.2.Pairwise (· < ·)/\∀ x,x ∈ u.2 ↔ x ∈ nbs (ts.map (·.2)) (j:Int))->Q (.ref l) H'
@[irreducible] def gZ:Sp:=oI
theorem fk {vs:List V} {H:Hp} {Q:VK} {E:XK}:gZ vs H Q E ↔ oI vs H Q E:=by
 delta gZ
 exact Iff.rfl
theorem kE {X:Cx} {K:PySem.W.Frag} (h:X.K=K:=by rfl):bu X (.builtin "sorted") (fun xs H Q=>∃ (p:Addr) (ns:List Int),xs=[.ref p]/\(SqL K H p (ns.map V.int)\/SqT K H p (ns.map V.int))/\∀ (l:Addr) (out:List Int),H l=none->out.Perm ns->out.Pairwise (· <= ·)->Q (.ref l) (upd H l (.lst (out.map V.int)))):=by
 subst h; exact bY
section
variable {P:Program} {w:World} {K:PySem.W.Frag} {mg:Str->Option Value} {base:Heap} {f:Addr} {fd:FuncData}
theorem ndPl:(["place"]:List Str).Nodup:=by decide +kernel
theorem ndRo:(["row"]:List Str).Nodup:=by decide +kernel
theorem nc:aK ["web", "near", "tie"] ["web"] (ak vf):=⟨rfl,rfl,rfl,by decide +kernel,rfl,by decide +kernel,by decide +kernel⟩
theorem w4 (F:Fun K "near_lists" "near_lists" vf f fd) (mr:mg "range" = none) (mst:mg "set" = none) (mso:mg "sorted" = none):bE P w K mg base CX0 1 f fd ["web"] gZ:=by
 refine F.ok nc (fun vs H Q E h => ?_) (fun cdv A outer s H vs Q E hr h => ?_)
 ·obtain ⟨a,b,c,rfl,_⟩:=fk.mp h
  rfl
 obtain ⟨r,m,ts,rfl,W,m0,m1,q⟩:=fk.mp h
 obtain ⟨t,e1,e2⟩:=W.at'
 refine ⟨_,aj (gg (i:=1) ["place"] [none] rfl nc.nd rfl rfl (cj rfl mr (aa (aH aO (pv 0) ah (fun _ _=>rfl)) ag)) rfl (fun _ _ _ _ _=>aB (i:=0) ndPl rfl (Or.inl rfl)) (fun _ _ _ _ _=>dz) (fun _ _ _ _ _=>bW ag))
  (aj (bV PassesOwn.never rfl (cK (av (jQ (w:=w) rfl hr.hd) rfl mso bq (aa (aE (pZ (w:=w) rfl hr.hd hr.units) rfl mst PySem.Pv.boot_set (aa (aH aO (pv 0) ah (fun _ _=>rfl)) ag)) ag))) (aB (i:=2) nc.nd rfl (Or.inl rfl))
   (ao (bD (aF nG (aH aO (pv 2) ah (fun _ _=>rfl)) (aH aO (pv 2) ah (fun _ _=>rfl)) (aX _))
    (aj (bU (eY PySem.F.plainAttrs_list PySem.F.slot_list_append PySem.F.type_list_append cU (aH bN (pv 1) (aH aO (pv 2) ah (fun _ _=>rfl)) (fun _ _=>rfl)) (aa (aH aO (pv 2) ah (fun _ _=>rfl)) ag)))
    (ao (bU (eY PySem.F.plainAttrs_list PySem.F.slot_list_append PySem.F.type_list_append cU (aH bN (pv 1) (aH aO (pv 2) ah (fun _ _=>rfl)) (fun _ _=>rfl)) (aa (aH aO (pv 2) ah (fun _ _=>rfl)) ag))))) aU)))
  (ao (aM (bF ["row"] [none] rfl (cK (pv 1)) rfl (fun _ _ _ _ _=>aB (i:=0) ndRo rfl (Or.inl rfl)) (fun _ _ _ _ _=>dz) (fun _ _ _ _ _=>av (kE (K:=K)) rfl mso bq (aa (pv 0) ag)))))),?_⟩
 refine ⟨_,rfl,r,_,0,_,rfl,rfl,SqT.of e1,rfl,m,rfl,by omega,by omega,dt (lo:=0) (n:=m.toNat) (fun i ys H'=>aL H H'/\∃ as:List Addr,ys=as.map V.ref/\as.length=i/\as.Nodup/\∀ a ∈ as,H a=none/\H' a=some (.lst [])) ⟨aL.refl _,[],rfl,rfl,List.nodup_nil,fun a ha=>by cases ha⟩ (small (by omega)) ?_ ?_⟩
 ·rintro i ys H3 hi hy ⟨s3,as,rfl,la,nd,ha⟩ R1 R0 r1 r0
  refine bT ⟨(by show 0<=sizeLine; decide),fun p hp=>r1 _ _ ⟨s3.trans (af hp _),as ++ [p],by rw [List.map_append]; rfl,by rw [List.length_append,la]; rfl,?_,fun a m' => ?_⟩⟩
  ·rw [List.nodup_append]
   refine ⟨nd,List.nodup_cons.mpr ⟨by simp,List.nodup_nil⟩,fun x hx y hy e => ?_⟩
   rw [List.mem_singleton] at hy
   subst hy; subst e
   rw [(ha x hx).2] at hp; cases hp
  ·rcases List.mem_append.mp m' with z | z
   ·exact ⟨(ha a z).1,(af hp _) _ _ (ha a z).2⟩
   ·rw [List.mem_singleton] at z
    subst z
    refine ⟨?_,ae⟩
    cases e:H a with
    | none=>rfl
    | some o=>rw [s3 _ _ e] at hp; cases hp
 rintro ys H3 hy ⟨s3,as,rfl,la,nd,ha⟩ l hl
 have s1:=s3.trans (af hl (.lst (as.map V.ref)))
 have nl:l ∉ as:=fun z=>by rw [(ha l z).2] at hl; cases hl
 have ha1:∀ a ∈ as,upd H3 l (.lst (as.map V.ref)) a=some (.lst []):=fun a z=>(af hl _) _ _ (ha a z).2
 have hl1:upd H3 l (.lst (as.map V.ref)) l=some (.lst (as.map V.ref)):=ae
 generalize upd H3 l (.lst (as.map V.ref))=H1 at s1 ha1 hl1
 have tsl:=W.len
 refine ⟨_,rfl,r,_,1,_,rfl,rfl,SqT.of (s1 _ _ e1),rfl,t,ts,rfl,.inr (SqT.of (s1 _ _ e2)),fun u hu=>SqT.of (s1 _ _ (W.tup u hu)),by omega,fun a us hna mu ndu cov hlu => ?_⟩
 have sa:=af hna (bO w a (us.map fun t => .ref t.1))
 refine ⟨a,us,rfl,ae,fun u hu=>⟨SqT.of (sa _ _ (s1 _ _ (W.tup u (mu u hu)))),fun z => ?_⟩,by omega,fun l2 out hl2 pm ps => ?_⟩
 ·obtain ⟨x,y,e,_⟩:=W.pr u (mu u hu)
  rw [z] at e; cases e
 have s2':=sa.trans (af hl2 (.lst (out.map fun t => .ref t.1)))
 have s2:=s1.trans s2'
 have nl2:l2 ∉ as:=fun z=>by rw [sa _ _ (ha1 l2 z)] at hl2; cases hl2
 have h2l2:upd (upd H1 a (bO w a (us.map fun t => .ref t.1))) l2 (.lst (out.map fun t => .ref t.1)) l2=some (.lst (out.map fun t => .ref t.1)):=ae
 generalize upd (upd H1 a (bO w a (us.map fun t => .ref t.1))) l2 (.lst (out.map fun t => .ref t.1))=H2 at s2 s2' h2l2
 have old:∀ {b:Addr} {o:HO},H b=some o->b ∉ as:=fun {b o} e z=>by rw [(ha b z).1] at e; cases e
 refine ⟨l2,rfl,⟨_,SqL.of h2l2⟩,cz (xs:=out.map fun u => .ref u.1) (fun i σ H'=>(∃ c,σ=[some (.ref r),some (.ref l),c])/\∃ vs,Rows H2 H' as vs/\yJ vs m.toNat ((out.take i).map (·.2))) ⟨⟨_,rfl⟩,List.replicate m.toNat [],⟨by rw [List.length_replicate,la],fun j b v eb ev => ?_,fun b u _ e=>e⟩,List.length_replicate ..,fun j v ev => ?_⟩ (fun i σ H' _ z => ?_) ?_ ?_⟩
 ·rw [List.getElem?_replicate] at ev
  split at ev
  ·cases ev
   exact s2' _ _ (ha1 b (List.mem_of_getElem? eb))
  ·cases ev
 ·rw [List.getElem?_replicate] at ev
  split at ev
  ·cases ev; rfl
  ·cases ev
 ·obtain ⟨_,vs,R,_⟩:=z
  exact SqL.of (R.stay l2 _ nl2 h2l2)
 ·rintro i x σ H' hx ⟨⟨c,rfl⟩,vs,R,lv,RO⟩
  obtain ⟨u,eu,rfl⟩:=item hx
  have mts:=mu u (pm.mem_iff.mp (List.mem_of_getElem? eu))
  obtain ⟨x,y,e3,x0,xy,ym⟩:=W.pr u mts
  have hu0:=W.tup u mts
  have hu':H' u.1=some (.tup [.int x,.int y]):=by
   rw [e3] at hu0
   exact R.stay _ _ (old hu0) (s2 _ _ hu0)
  have tk:(out.take (i + 1)).map (·.2)=(out.take i).map (·.2) ++ [[x,y]]:=by rw [take_snoc (f:=fun u:Addr × List Int=>u.2) eu,e3]
  obtain ⟨xn,rfl⟩:∃ n:Nat,x=n:=⟨x.toNat,by omega⟩
  obtain ⟨yn,rfl⟩:∃ n:Nat,y=n:=⟨y.toNat,by omega⟩
  have hlst:=R.stay l _ nl (s2' _ _ hl1)
  have axn:as[xn]? = some as[xn]:=List.getElem?_eq_getElem (by omega)
  have ayn:as[yn]? = some as[yn]:=List.getElem?_eq_getElem (by omega)
  have vxn:vs[xn]? = some vs[xn]:=List.getElem?_eq_getElem (by omega)
  have vyn:vs[yn]? = some vs[yn]:=List.getElem?_eq_getElem (by omega)
  have at1:atI (as.map V.ref) (xn:Int)=some (.ref as[xn]):=jg (by rw [List.getElem?_map,axn]; rfl)
  have at2:atI (as.map V.ref) (yn:Int)=some (.ref as[yn]):=jg (by rw [List.getElem?_map,ayn]; rfl)
  have ll:∀ (j:Nat) v,vs[j]? = some v->v.length<=200:=fun j v ev=>by
   rw [RO j v ev]
   refine Nat.le_trans (qV _ _) ?_
   rw [List.length_map,List.length_take]
   have:=pm.length_eq
   omega
  refine ⟨_,rfl,u.1,_,0,_,rfl,rfl,SqT.of hu',rfl,_,rfl,u.1,_,1,_,rfl,rfl,SqT.of hu',rfl,rfl,_,rfl,?_⟩
  by_cases hxy:xn=yn
  ·subst hxy
   refine zx rfl ⟨⟨_,rfl⟩,vs,R,lv,fun j v ev => ?_⟩
   have nil:nb1 [(xn:Int),(xn:Int)] j=[]:=by unfold nb1; simp
   rw [tk,oH,nil,List.append_nil]
   exact RO j v ev
  ·have hd:decide (V.int (xn:Int)=V.int (yn:Int))=false:=decide_eq_false fun z=>hxy (by injection z with z; omega)
   rw [hd]
   have rowx:=R.row xn _ _ axn vxn
   have R1:=R.push nd axn vxn (yn:Int)
   have vyn':(vs.set xn (vs[xn] ++ [(yn:Int)]))[yn]? = some vs[yn]:=by rw [List.getElem?_set_ne hxy]; exact vyn
   have rowy:=R1.row yn _ _ ayn vyn'
   have R2:=R1.push nd ayn vyn' (xn:Int)
   have hu2:=R1.stay _ _ (old hu0) (s2 _ _ hu0)
   rw [e3] at hu2
   have hlst2:=R1.stay l _ nl (s2' _ _ hl1)
   refine bT ⟨_,rfl,_,rfl,u.1,_,0,_,rfl,rfl,SqT.of hu',rfl,l,_,(xn:Int),_,rfl,rfl,SqL.of hlst,at1,.inl ⟨rfl,_,SqL.of rowx⟩,_,rfl,u.1,_,1,_,rfl,rfl,SqT.of hu',rfl,as[xn],_,_,rfl,rfl,rowx,(by rw [List.length_map]; exact bh (by have:=ll _ _ vxn; omega)),?_⟩
   refine ⟨_,rfl,_,rfl,u.1,_,1,_,rfl,rfl,SqT.of hu2,rfl,l,_,(yn:Int),_,rfl,rfl,SqL.of hlst2,at2,.inl ⟨rfl,_,SqL.of rowy⟩,_,rfl,u.1,_,0,_,rfl,rfl,SqT.of hu2,rfl,as[yn],_,_,rfl,rfl,rowy,(by rw [List.length_map]; exact bh (by have:=ll _ _ vyn; omega)),?_⟩
   refine ⟨⟨_,rfl⟩,_,R2,by rw [List.length_set,List.length_set]; exact lv,fun j v ev => ?_⟩
   rw [tk,oH]
   by_cases jy:yn=j
   ·subst jy
    rw [List.getElem?_set_self (by rw [List.length_set]; omega)] at ev
    cases ev
    have e4:nb1 [(xn:Int),(yn:Int)] yn=[(xn:Int)]:=by
     show (if (xn:Int)=yn then [] else if (xn:Int)=yn then [(yn:Int)] else if (yn:Int)=yn then [(xn:Int)] else [])=_
     rw [if_neg (by omega),if_neg (by omega),if_pos rfl]
    rw [e4, <- RO yn _ vyn]
   ·rw [List.getElem?_set_ne jy] at ev
    by_cases jx:xn=j
    ·subst jx
     rw [List.getElem?_set_self (by omega)] at ev
     cases ev
     have e4:nb1 [(xn:Int),(yn:Int)] xn=[(yn:Int)]:=by
      show (if (xn:Int)=yn then [] else if (xn:Int)=xn then [(yn:Int)] else if (yn:Int)=xn then [(xn:Int)] else [])=_
      rw [if_neg (by omega),if_pos rfl]
     rw [e4, <- RO xn _ vxn]
    ·rw [List.getElem?_set_ne jx] at ev
     have e4:nb1 [(xn:Int),(yn:Int)] j=[]:=by
      show (if (xn:Int)=yn then [] else if (xn:Int)=j then [(yn:Int)] else if (yn:Int)=j then [(xn:Int)] else [])=_
      rw [if_neg (by omega),if_neg (by omega),if_neg (by omega)]
     rw [e4,List.append_nil]
     exact RO j v ev
 ·rintro σ H' ⟨⟨c,rfl⟩,vs,R,lv,RO⟩
  have hlst:=R.stay l _ nl (s2' _ _ hl1)
  rw [List.length_map,List.take_of_length_le (Nat.le_refl _)] at RO
  have sH':aL H H':=fun b o e=>R.stay b o (old e) (s2 _ _ e)
  have kns:(out.map (·.2)).Nodup:=((pm.map (·.2)).nodup_iff).mpr ndu
  have mns:∀ x,x ∈ out.map (·.2) ↔ x ∈ ts.map (·.2):=fun x=>by
   rw [(pm.map (·.2)).mem_iff]
   constructor
   ·intro hx
    obtain ⟨u,hu,rfl⟩:=List.mem_map.mp hx
    exact List.mem_map.mpr ⟨u,mu u hu,rfl⟩
   ·intro hx
    obtain ⟨u,hu,rfl⟩:=List.mem_map.mp hx
    exact cov u hu
  have pns:∀ p ∈ out.map (·.2),∃ a b:Int,p=[a,b]/\a<=b:=fun p hp=>by
   obtain ⟨u,hu,rfl⟩:=List.mem_map.mp ((mns p).mp hp)
   obtain ⟨a,b,e,_,ab,_⟩:=W.pr u hu
   exact ⟨a,b,e,ab⟩
  have nbm:∀ k x,x ∈ nbs (out.map (·.2)) k ↔ x ∈ nbs (ts.map (·.2)) k:=fun k x=>by
   rw [jj,jj]
   exact ⟨fun ⟨p,hp,z⟩=>⟨p,(mns p).mp hp,z⟩,fun ⟨p,hp,z⟩=>⟨p,(mns p).mpr hp,z⟩⟩
  refine ⟨_,rfl,l,rfl,⟨_,SqL.of hlst⟩,gh (xs:=as.map V.ref) (fun i ys H5=>aL H' H5/\∃ os:List (Addr × List Int),ys=(os.map fun u=>V.ref u.1)/\os.length=i/\(∀ u ∈ os,H5 u.1=some (.lst (u.2.map V.int)))/\∀ (j:Nat) u v,os[j]? = some u->vs[j]? = some v->u.2.Perm v/\u.2.Pairwise (· <= ·)) ⟨aL.refl _,[],rfl,rfl,fun u hu=>(by cases hu),fun j u v eu=>by simp at eu⟩ (by rw [List.length_map]; exact small (by omega)) (fun i ys H5 _ z=>SqL.of (z.1 _ _ hlst)) ?_ ?_⟩
  ·rintro i x ys H5 hx hy ⟨s5,os,rfl,lo,ho,po⟩ R1 R0 r1 r0
   rw [List.getElem?_map] at hx
   cases ea:as[i]? with
   | none=>rw [ea] at hx; cases hx
   | some a5 =>
    rw [ea] at hx
    cases hx
    have hi:i < as.length:=(List.getElem?_eq_some_iff.mp ea).1
    have ev:vs[i]? = some vs[i]:=List.getElem?_eq_getElem (by omega)
    have rowa:=s5 _ _ (R.row i _ _ ea ev)
    refine bT ⟨_,rfl,a5,vs[i],rfl,.inl (SqL.of rowa),fun l5 o5 hl5 pm5 ps5=>r1 _ _ ⟨s5.trans (af hl5 _),os ++ [(l5,o5)],by rw [List.map_append]; rfl,by rw [List.length_append,lo]; rfl,fun u hu => ?_,fun j u v eu ev' => ?_⟩⟩
    ·rcases List.mem_append.mp hu with z | z
     ·exact (af hl5 _) _ _ (ho u z)
     ·rw [List.mem_singleton] at z; subst z; exact ae
    ·by_cases hj:j < os.length
     ·rw [List.getElem?_append_left hj] at eu
      exact po j u v eu ev'
     ·have hj2:j=i:=by
       have:=(List.getElem?_eq_some_iff.mp eu).1
       rw [List.length_append,List.length_singleton] at this
       omega
      subst hj2
      rw [List.getElem?_append_right (by omega),show j - os.length=0 by omega] at eu
      cases eu
      rw [ev] at ev'; cases ev'
      exact ⟨pm5,ps5⟩
  ·rintro ys H5 hy ⟨s5,os,rfl,lo,ho,po⟩ l5 hl5
   rw [List.length_map] at lo
   have s6:=af hl5 (.lst (os.map fun u=>V.ref u.1))
   refine q l5 _ os (sH'.trans (s5.trans s6)) ae (by omega) (fun u hu=>s6 _ _ (ho u hu)) fun j u eu => ?_
   have hj:j < os.length:=(List.getElem?_eq_some_iff.mp eu).1
   have ev:vs[j]? = some vs[j]:=List.getElem?_eq_getElem (by omega)
   obtain ⟨p1,p2⟩:=po j u _ eu ev
   have e5:=RO j _ ev
   rw [e5] at p1
   refine ⟨fj p2 (p1.nodup_iff.mpr (lQ kns pns)),fun x => ?_⟩
   rw [p1.mem_iff]
   exact nbm _ _
end
open PySem L2
def Adj (ns:List (List Int)) (u v:Int):Prop:=v ∈ nbs ns u
inductive Con (ns:List (List Int)):Int->Int->Prop
 | refl (u:Int):Con ns u u
 | step {u v w:Int}:Con ns u v->Adj ns v w->Con ns u w
def Ok (m:Nat) (ns:List (List Int)):Prop:=∀ p ∈ ns,∃ a b:Int,p=[a,b]/\0<=a/\a<=b/\b < m
theorem hJ {m:Nat} {ns:List (List Int)} (O:Ok m ns) {u v:Int}:Adj ns u v ↔ ∃ a b:Int,[a,b] ∈ ns/\a ≠ b/\((a=u/\v=b)\/(b=u/\v=a)):=by
 unfold Adj
 rw [jj]
 constructor
 ·rintro ⟨p,hp,h⟩
  obtain ⟨a,b,rfl,_⟩:=O p hp
  exact ⟨a,b,hp,mZ.mp h⟩
 ·rintro ⟨a,b,hp,h⟩
  exact ⟨[a,b],hp,mZ.mpr h⟩
theorem vt {m:Nat} {ns:List (List Int)} (O:Ok m ns) {u v:Int} (h:Adj ns u v):Adj ns v u:=by
 rw [hJ O] at *
 obtain ⟨a,b,hp,ne,h⟩:=h
 refine ⟨a,b,hp,ne,?_⟩
 rcases h with ⟨h1,h2⟩ | ⟨h1,h2⟩
 ·exact .inr ⟨h2.symm,h1.symm⟩
 ·exact .inl ⟨h2.symm,h1.symm⟩
theorem qW {m:Nat} {ns:List (List Int)} (O:Ok m ns) {u v:Int} (h:Adj ns u v):(0<=u/\u < m)/\0<=v/\v < m:=by
 rw [hJ O] at h
 obtain ⟨a,b,hp,ne,h⟩:=h
 obtain ⟨a',b',e,h1,h2,h3⟩:=O _ hp
 injection e with e1 e2
 injection e2 with e2 _
 subst e1; subst e2
 rcases h with ⟨h4,h5⟩ | ⟨h4,h5⟩ <;> subst h4 <;> subst h5 <;> omega
theorem Con.trans {ns:List (List Int)} {u v w:Int} (h:Con ns u v) (h2:Con ns v w):Con ns u w:=by
 induction h2 with
 | refl=>exact h
 | step _ a ih=>exact .step ih a
theorem Con.one {ns:List (List Int)} {u v:Int} (h:Adj ns u v):Con ns u v := .step (.refl u) h
theorem Con.symm {m:Nat} {ns:List (List Int)} (O:Ok m ns) {u v:Int} (h:Con ns u v):Con ns v u:=by
 induction h with
 | refl=>exact .refl _
 | step _ a ih=>exact (Con.one (vt O a)).trans ih
theorem Con.rng {m:Nat} {ns:List (List Int)} (O:Ok m ns) {u v:Int} (h:Con ns u v) (hu:0<=u/\u < m):0<=v/\v < m:=by
 induction h with
 | refl=>exact hu
 | step _ a _=>exact (qW O a).2
theorem Con.closed {ns:List (List Int)} {u v:Int} (h:Con ns u v) {R:Int->Prop} (hu:R u) (hc:∀ x y,R x->Adj ns x y->R y):R v:=by
 induction h with
 | refl=>exact hu
 | step _ a ih=>exact hc _ _ ih a
theorem Con.yK {ns:List (List Int)} {u v:Int} (h:Con ns u v) {R:Int->Prop} (hu:R u) (hv:¬ R v):∃ x y,Con ns u x/\R x/\Adj ns x y/\¬ R y:=by
 induction h with
 | refl=>exact absurd hu hv
 | @step v w h a ih =>
  by_cases hr:R v
  ·exact ⟨v,w,h,hr,a,hv⟩
  ·exact ih hr
def rgI (m:Nat):List Int:=(List.range m).map fun i:Nat=>(i:Int)
theorem aZ {m:Nat} {v:Int}:v ∈ rgI m ↔ 0<=v/\v < m:=by
 unfold rgI
 rw [List.mem_map]
 constructor
 ·rintro ⟨i,hi,rfl⟩
  rw [List.mem_range] at hi
  omega
 ·intro h
  exact ⟨v.toNat,List.mem_range.mpr (by omega),by omega⟩
open Classical in
noncomputable def hU (ns:List (List Int)) (m:Nat) (u:Int):List Int:=(rgI m).filter fun v=>decide (Con ns u v)
open Classical in
theorem lT {m:Nat} {ns:List (List Int)} (O:Ok m ns) {u v:Int} (hu:0<=u/\u < m):v ∈ hU ns m u ↔ Con ns u v:=by
 unfold hU
 rw [List.mem_filter]
 constructor
 ·intro h; exact of_decide_eq_true h.2
 ·intro h
  have:=h.rng O hu
  exact ⟨aZ.mpr this,decide_eq_true h⟩
theorem gm (m:Nat):(rgI m).Pairwise (· < ·):=by
 unfold rgI
 rw [List.pairwise_map]
 exact List.pairwise_lt_range.imp fun h=>by omega
theorem j4 (ns:List (List Int)) (m:Nat) (u:Int):(hU ns m u).Pairwise (· < ·):=(gm m).filter _
def Fst (ns:List (List Int)) (u:Int):Prop:=∀ w:Int,0<=w->w < u->¬ Con ns w u
open Classical in
noncomputable def cf (ns:List (List Int)) (m i:Nat):List (List Int):=((rgI i).filter fun u=>decide (Fst ns u)).map (hU ns m)
theorem hV (ns:List (List Int)) (m i:Nat) [Decidable (Fst ns (i:Int))]:cf ns m (i + 1)=cf ns m i ++ if Fst ns (i:Int) then [hU ns m i] else []:=by
 unfold cf
 have e:rgI (i + 1)=rgI i ++ [(i:Int)]:=by unfold rgI; rw [List.range_succ,List.map_append]; rfl
 rw [e,List.filter_append,List.map_append]
 congr 1
 by_cases h:Fst ns (i:Int)
 ·rw [if_pos h]; simp [h]
 ·rw [if_neg h]; simp [h]
def gt (L:List Int) (a:Int):Int:=L.getD a.toNat 0
def lower (L:List Int) (p:List Int):List Int :=
 let x:=mnI (gt L (p.getD 0 0)) (gt L (p.getD 1 0))
 (L.set (p.getD 0 0).toNat x).set (p.getD 1 0).toNat x
theorem qg {L:List Int} {a b x:Int} (ha:0<=a/\a < L.length) (hb:0<=b):gt (L.set a.toNat x) b=if b=a then x else gt L b:=by
 unfold gt
 by_cases h:b=a
 ·subst h
  rw [if_pos rfl,List.getD_eq_getElem?_getD,List.getElem?_set_self (by omega)]; rfl
 ·rw [if_neg h,List.getD_eq_getElem?_getD,List.getElem?_set_ne (by omega), <- List.getD_eq_getElem?_getD]
theorem hW {m:Nat} {L:List Int} (hl:L.length=m) {a b v:Int} (ha:0<=a) (ab:a<=b) (bm:b < m) (hv:0<=v):gt (lower L [a,b]) v=if v=a\/v=b then mnI (gt L a) (gt L b) else gt L v:=by
 show gt ((L.set a.toNat (mnI (gt L a) (gt L b))).set b.toNat (mnI (gt L a) (gt L b))) v=_
 rw [qg (by rw [List.length_set]; omega) hv,qg (by omega) hv]
 by_cases h1:v=b
 ·rw [if_pos h1,if_pos (.inr h1)]
 ·rw [if_neg h1]
  by_cases h2:v=a
  ·rw [if_pos h2,if_pos (.inl h2)]
  ·rw [if_neg h2,if_neg (fun h=>h.elim h2 h1)]
theorem sR (L:List Int) (p:List Int):(lower L p).length=L.length:=by unfold lower; simp
structure Lab (ns:List (List Int)) (m:Nat) (L:List Int):Prop where
 len:L.length=m
 con:∀ v:Int,0<=v->v < m->0<=gt L v/\Con ns (gt L v) v/\gt L v<=v
theorem qh (a b:Int):mnI a b=a\/mnI a b=b:=by unfold mnI; split <;> simp
theorem vv (a b:Int):mnI a b<=a/\mnI a b<=b:=by unfold mnI; split <;> omega
theorem qX {m:Nat} {ns:List (List Int)} (O:Ok m ns) {a b:Int} (hp:[a,b] ∈ ns):Con ns a b:=by
 by_cases h:a=b
 ·subst h; exact .refl a
 ·exact .one ((hJ O).mpr ⟨a,b,hp,h,.inl ⟨rfl,rfl⟩⟩)
theorem Lab.lower {m:Nat} {ns:List (List Int)} (O:Ok m ns) {L:List Int} (h:Lab ns m L) {p:List Int} (hp:p ∈ ns):Lab ns m (lower L p):=by
 obtain ⟨a,b,rfl,a0,ab,bm⟩:=O p hp
 have cab:=qX O hp
 refine ⟨by rw [sR]; exact h.len,fun v v0 vm => ?_⟩
 rw [hW h.len a0 ab bm v0]
 obtain ⟨p1,p2,p3⟩:=h.con a a0 (by omega)
 obtain ⟨q1,q2,q3⟩:=h.con b (by omega) bm
 have le:=vv (gt L a) (gt L b)
 split
 ·rename_i hv
  have c1:0<=mnI (gt L a) (gt L b)/\Con ns (mnI (gt L a) (gt L b)) a/\Con ns (mnI (gt L a) (gt L b)) b:=by
   rcases qh (gt L a) (gt L b) with e | e <;> rw [e]
   ·exact ⟨p1,p2,p2.trans cab⟩
   ·exact ⟨q1,q2.trans (cab.symm O),q2⟩
  rcases hv with e | e <;> subst e
  ·exact ⟨c1.1,c1.2.1,by omega⟩
  ·exact ⟨c1.1,c1.2.2,by omega⟩
 ·exact h.con v v0 vm
theorem cH {m:Nat} {ns:List (List Int)} (O:Ok m ns) {L:List Int} (h:Lab ns m L) {c:Int} (hc:Fst ns c) (c0:0<=c) {p:List Int} (hp:p ∈ ns) {v:Int} (v0:0<=v) (vm:v < m) (e:gt L v=c):gt (lower L p) v=c:=by
 obtain ⟨a,b,rfl,a0,ab,bm⟩:=O p hp
 have cab:=qX O hp
 rw [hW h.len a0 ab bm v0]
 split
 ·rename_i hv
  obtain ⟨p1,p2,p3⟩:=h.con a a0 (by omega)
  obtain ⟨q1,q2,q3⟩:=h.con b (by omega) bm
  have le:=vv (gt L a) (gt L b)
  have ge:∀ x,0<=x->Con ns x c->c<=x:=fun x x0 hx=>by
   apply Int.not_lt.mp
   intro lt
   exact hc x x0 lt hx
  rcases hv with z | z
  ·subst z
   have:Con ns (gt L b) c:=by
    have h1:Con ns c v:=by rw [<- e]; exact p2
    exact q2.trans ((cab.symm O).trans (h1.symm O))
   have:=ge _ q1 this
   rcases qh (gt L v) (gt L b) with y | y <;> omega
  ·subst z
   have:Con ns (gt L a) c:=by
    have h1:Con ns c v:=by rw [<- e]; exact q2
    exact p2.trans (cab.trans (h1.symm O))
   have:=ge _ p1 this
   rcases qh (gt L a) (gt L v) with y | y <;> omega
 ·exact e
theorem qi {m:Nat} {ns:List (List Int)} (O:Ok m ns) {L:List Int} (h:Lab ns m L) {c:Int} (hc:Fst ns c) (c0:0<=c) {a b:Int} (hp:[a,b] ∈ ns) (e:gt L a=c\/gt L b=c):gt (lower L [a,b]) a=c/\gt (lower L [a,b]) b=c:=by
 obtain ⟨a',b',e',a0,ab,bm⟩:=O _ hp
 injection e' with e1 e2
 injection e2 with e2 _
 subst e1; subst e2
 have eq:gt (lower L [a,b]) a=gt (lower L [a,b]) b:=by
  rw [hW h.len a0 ab bm a0,hW h.len a0 ab bm (by omega),if_pos (.inl rfl),if_pos (.inr rfl)]
 rcases e with e | e
 ·have:=cH O h hc c0 hp a0 (by omega) e
  exact ⟨this,by rw [<- eq]; exact this⟩
 ·have:=cH O h hc c0 hp (by omega) bm e
  exact ⟨by rw [eq]; exact this,this⟩
theorem iN {m:Nat} {ns:List (List Int)} (O:Ok m ns):∀ (l:List (List Int)) (L:List Int),(∀ p ∈ l,p ∈ ns)->Lab ns m L->Lab ns m (l.foldl lower L)
 | [],L,_,h=>h
 | p :: l,L,hl,h=>iN O l _ (fun q hq=>hl q (List.mem_cons_of_mem _ hq)) (h.lower O (hl p List.mem_cons_self))
theorem dv {m:Nat} {ns:List (List Int)} (O:Ok m ns) {c:Int} (hc:Fst ns c) (c0:0<=c) {v:Int} (v0:0<=v) (vm:v < m):∀ (l:List (List Int)) (L:List Int),(∀ p ∈ l,p ∈ ns)->Lab ns m L->gt L v=c->gt (l.foldl lower L) v=c
 | [],L,_,_,e=>e
 | p :: l,L,hl,h,e=>dv O hc c0 v0 vm l _ (fun q hq=>hl q (List.mem_cons_of_mem _ hq)) (h.lower O (hl p List.mem_cons_self)) (cH O h hc c0 (hl p List.mem_cons_self) v0 vm e)
theorem gp {m:Nat} {ns:List (List Int)} (O:Ok m ns) {c:Int} (hc:Fst ns c) (c0:0<=c) {a b:Int}:∀ (l:List (List Int)) (L:List Int),(∀ p ∈ l,p ∈ ns)->Lab ns m L->[a,b] ∈ l->(gt L a=c\/gt L b=c)->gt (l.foldl lower L) a=c/\gt (l.foldl lower L) b=c
 | [],L,_,_,hp,_=>by cases hp
 | p :: l,L,hl,h,hp,e=>by
  obtain ⟨a',b',e',a0,ab,bm⟩:=O _ (hl _ hp)
  injection e' with e1 e2
  injection e2 with e2 _
  subst e1; subst e2
  have hl':∀ q ∈ l,q ∈ ns:=fun q hq=>hl q (List.mem_cons_of_mem _ hq)
  rcases List.mem_cons.mp hp with z | z
  ·subst z
   have:=qi O h hc c0 (hl _ List.mem_cons_self) e
   exact ⟨dv O hc c0 a0 (by omega) l _ hl' (h.lower O (hl _ List.mem_cons_self)) this.1,dv O hc c0 (by omega) bm l _ hl' (h.lower O (hl _ List.mem_cons_self)) this.2⟩
  ·refine gp O hc c0 l _ hl' (h.lower O (hl p List.mem_cons_self)) z ?_
   rcases e with e | e
   ·exact .inl (cH O h hc c0 (hl p List.mem_cons_self) a0 (by omega) e)
   ·exact .inr (cH O h hc c0 (hl p List.mem_cons_self) (by omega) bm e)
theorem lU {α : Type} {p q : α -> Bool}:∀ {l:List α},(∀ x ∈ l,p x=true->q x=true)->(∃ x ∈ l,q x=true/\p x=false)->l.countP p < l.countP q
 | [],_,h=>by obtain ⟨x,hx,_⟩:=h; cases hx
 | a :: l,hm,h=>by
  have mono:l.countP p<=l.countP q:=List.countP_mono_left fun x hx=>hm x (List.mem_cons_of_mem _ hx)
  rw [List.countP_cons,List.countP_cons]
  obtain ⟨x,hx,h1,h2⟩:=h
  rcases List.mem_cons.mp hx with z | z
  ·subst z
   rw [h1,h2]
   simp
   omega
  ·have ih:=lU (l:=l) (fun y hy=>hm y (List.mem_cons_of_mem _ hy)) ⟨x,z,h1,h2⟩
   by_cases ha:p a=true
   ·rw [ha,hm a List.mem_cons_self ha]; simp; omega
   ·rw [show p a=false by simpa using ha]
    cases q a <;> simp <;> omega
def rounds (ns:List (List Int)):Nat->List Int->List Int
 | 0,L=>L
 | r + 1,L=>ns.foldl lower (rounds ns r L)
theorem eE {m:Nat} {ns:List (List Int)} (O:Ok m ns) {L:List Int} (h:Lab ns m L):∀ r,Lab ns m (rounds ns r L)
 | 0=>h
 | r + 1=>iN O ns _ (fun p hp=>hp) (eE O h r)
def has (m:Nat) (L:List Int) (c:Int):Nat:=(rgI m).countP fun v=>decide (gt L v=c)
theorem i6 {m:Nat} {ns:List (List Int)} (O:Ok m ns) {L:List Int} (h:Lab ns m L) {c:Int} (hc:Fst ns c) (c0:0<=c) (cm:c < m) (e0:gt L c=c):∀ r,(∀ v,Con ns c v->gt (rounds ns r L) v=c)\/(r + 1<=has m (rounds ns r L) c/\gt (rounds ns r L) c=c)
 | 0=>by
  refine .inr ⟨?_,e0⟩
  show 0 + 1<=(rgI m).countP fun v=>decide (gt L v=c)
  have:0 < (rgI m).countP fun v=>decide (gt L v=c):=by
   rw [List.countP_pos_iff]
   exact ⟨c,aZ.mpr ⟨c0,cm⟩,decide_eq_true e0⟩
  omega
 | r + 1=>by
  have lab:=eE O h r
  have keep:∀ v:Int,0<=v->v < m->gt (rounds ns r L) v=c->gt (rounds ns (r + 1) L) v=c:=fun v v0 vm e=>dv O hc c0 v0 vm ns _ (fun p hp=>hp) lab e
  rcases i6 O h hc c0 cm e0 r with a | ⟨a1,a2⟩
  ·refine .inl fun v hv => ?_
   have:=hv.rng O ⟨c0,cm⟩
   exact keep v this.1 this.2 (a v hv)
  ·by_cases all:∀ v,Con ns c v->gt (rounds ns r L) v=c
   ·refine .inl fun v hv => ?_
    have:=hv.rng O ⟨c0,cm⟩
    exact keep v this.1 this.2 (all v hv)
   ·have ex:∃ v,Con ns c v/\¬ gt (rounds ns r L) v=c:=Classical.byContradiction fun z=>all fun v hv=>Classical.byContradiction fun y=>z ⟨v,hv,y⟩
    obtain ⟨v,hv,ne⟩:=ex
    obtain ⟨x,y,cx,ex,axy,ny⟩:=hv.yK (R:=fun z=>gt (rounds ns r L) z=c) a2 ne
    have ry:=(qW O axy).2
    have newy:gt (rounds ns (r + 1) L) y=c:=by
     obtain ⟨a,b,hp,_,h4⟩:=(hJ O).mp axy
     rcases h4 with ⟨h5,h6⟩ | ⟨h5,h6⟩
     ·subst h5; subst h6
      exact (gp O hc c0 ns _ (fun p hp=>hp) lab hp (.inl ex)).2
     ·subst h5; subst h6
      exact (gp O hc c0 ns _ (fun p hp=>hp) lab hp (.inr ex)).1
    refine .inr ⟨?_,keep c c0 cm a2⟩
    have lt:has m (rounds ns r L) c < has m (rounds ns (r + 1) L) c:=by
     refine lU (fun z hz e => ?_) ⟨y,aZ.mpr ry,decide_eq_true newy,decide_eq_false ny⟩
     have:=aZ.mp hz
     exact decide_eq_true (keep _ this.1 this.2 (of_decide_eq_true e))
    omega
theorem yL {m:Nat} {ns:List (List Int)} (O:Ok m ns):∀ (n:Nat) (v:Int),0<=v->v < m->v.toNat<=n->∃ c,Fst ns c/\0<=c/\c < m/\Con ns c v:=by
 intro n
 induction n with
 | zero =>
  intro v v0 vm hn
  exact ⟨v,fun w w0 lt=>by omega,v0,vm,.refl v⟩
 | succ n ih =>
  intro v v0 vm hn
  by_cases hf:Fst ns v
  ·exact ⟨v,hf,v0,vm,.refl v⟩
  ·have:∃ w,0<=w/\w < v/\Con ns w v:=Classical.byContradiction fun z=>hf fun w w0 lt hw=>z ⟨w,w0,lt,hw⟩
   obtain ⟨w,w0,lt,hw⟩:=this
   obtain ⟨c,c1,c2,c3,c4⟩:=ih w w0 (by omega) (by omega)
   exact ⟨c,c1,c2,c3,c4.trans hw⟩
theorem vw {m:Nat} {ns:List (List Int)} (O:Ok m ns) {c d:Int} (hc:Fst ns c) (hd:Fst ns d) (c0:0<=c) (d0:0<=d) (h:Con ns c d):c=d:=by
 have h1:¬ c < d:=fun lt=>hd c c0 lt h
 have h2:¬ d < c:=fun lt=>hc d d0 lt (h.symm O)
 omega
def drawn (m:Nat) (L:List Int):List (List Int):=((rgI m).filter fun f=>decide (gt L f=f)).map fun f=>(rgI m).filter fun v=>decide (gt L v=f)
def dQ (R:List Int):List (Key × V):=R.map fun k=>(Sum.inl k,V.bl true)
theorem j5 (v:Int):∀ R:List Int,eS (dQ R) (Sum.inl v)=if v ∈ R then some (.bl true) else none
 | []=>by simp [dQ,eS]
 | k :: R=>by
  have ih:=j5 v R
  unfold dQ at *
  rw [List.map_cons]
  by_cases h:k=v
  ·subst h
   rw [gP rfl,if_pos List.mem_cons_self]
  ·rw [gQ (fun e=>h (by injection e)),ih]
   by_cases hv:v ∈ R
   ·rw [if_pos hv,if_pos (List.mem_cons_of_mem _ hv)]
   ·rw [if_neg hv,if_neg (fun z=>(List.mem_cons.mp z).elim (fun y=>h y.symm) hv)]
theorem lV (v:Int) (R:List Int):(eS (dQ R) (Sum.inl v)).isSome=decide (v ∈ R):=by
 rw [j5]
 by_cases h:v ∈ R
 ·rw [if_pos h,decide_eq_true h]; rfl
 ·rw [if_neg h,decide_eq_false h]; rfl
theorem oJ {v:Int} {R:List Int} (h:v ∉ R):putK (dQ R) (Sum.inl v) (.bl true)=dQ (R ++ [v]):=by
 rw [uK _ (by rw [j5,if_neg h])]
 unfold dQ
 rw [List.map_append]
 rfl
theorem hX (R:List Int):(dQ R).length=R.length:=by unfold dQ; rw [List.length_map]
theorem sS (R:List Int):(dQ R).map (·.1)=R.map Sum.inl:=by unfold dQ; rw [List.map_map]; rfl
theorem hZ {R:List Int} {m:Nat} (nd:R.Nodup) (h:∀ v ∈ R,0<=v/\v < m):R.length<=m:=by
 have:=List.Nodup.length_le_of_subset nd (l₂:=rgI m) fun v hv=>aZ.mpr (h v hv)
 unfold rgI at this
 rw [List.length_map,List.length_range] at this
 exact this
theorem qj {R:List Int} {v:Int} (nd:R.Nodup) (h:v ∉ R):(R ++ [v]).Nodup:=by
 rw [List.nodup_append]
 exact ⟨nd,List.nodup_cons.mpr ⟨by simp,List.nodup_nil⟩,fun x hx y hy e=>h (by rw [List.mem_singleton] at hy; subst hy; subst e; exact hx)⟩
structure j6 (H:Hp) (n:Addr) (m:Nat) (ns:List (List Int)) (os:List (Addr × List Int)):Prop where
 at':H n=some (.lst (os.map fun u => .ref u.1))
 len:os.length=m
 row:∀ u ∈ os,H u.1=some (.lst (u.2.map V.int))
 is:∀ (j:Nat) u,os[j]? = some u->∀ x,x ∈ u.2 ↔ x ∈ nbs ns (j:Int)
theorem j6.same {H H':Hp} {n:Addr} {m:Nat} {ns:List (List Int)} {os:List (Addr × List Int)} (h:j6 H n m ns os) (s:aL H H'):j6 H' n m ns os:=⟨s _ _ h.at',h.len,fun u hu=>s _ _ (h.row u hu),h.is⟩
abbrev oK:Sp:=fun vs H Q _=>∃ (n:Addr) (m:Nat) (ns:List (List Int)) (os:List (Addr × List Int)) (s:Int),vs=[.ref n,.int s]/\j6 H n m ns os/\Ok m ns/\m<=400/\0<=s/\s < m/\∀ (l:Addr) (H':Hp),aL H H'->H' l=some (.lst ((hU ns m s).map V.int))->Q (.ref l) H'
@[irreducible] def h7:Sp:=oK
theorem fq {vs:List V} {H:Hp} {Q:VK} {E:XK}:h7 vs H Q E ↔ oK vs H Q E:=by
 delta h7
 exact Iff.rfl
def sT (H:Hp) (d:Addr):Nat:=match H d with | some (.dK kvs)=>kvs.length | _=>0
def sU (H:Hp) (y:Addr):Nat:=match H y with | some (.lst xs)=>xs.length | _=>0
structure RY (ns:List (List Int)) (m:Nat) (s:Int) (R Y:List Int):Prop where
 nd:R.Nodup
 st:s ∈ R
 con:∀ v ∈ R,Con ns s v
 sub:∀ v ∈ Y,v ∈ R
section
variable {P:Program} {w:World} {K:PySem.W.Frag} {mg:Str->Option Value} {base:Heap} {f:Addr} {fd:FuncData}
theorem h8:aK ["near", "start", "reached", "ready", "place", "other"] ["near", "start"] (ak vg):=⟨rfl,rfl,rfl,by decide +kernel,rfl,by decide +kernel,by decide +kernel⟩
theorem w5 (F:Fun K "reached_from" "reached_from" vg f fd) (mso:mg "sorted" = none):bE P w K mg base CX0 1 f fd ["near", "start"] h7:=by
 refine F.ok h8 (fun vs H Q E h => ?_) (fun cdv A outer s0 H vs Q E hr h => ?_)
 ·obtain ⟨a,b,c,d,e,rfl,_⟩:=fq.mp h
  rfl
 obtain ⟨n,m,ns,os,s,rfl,N,O,m9,s0',sm,q⟩:=fq.mp h
 have hu:=nJ hr
 refine ⟨_,aj (aA (i:=2) h8.nd rfl (Or.inl rfl) (wO (uN (pv 1) nB wN) rfl rfl (by simp) (by decide)))
  (aj (aA (i:=3) h8.nd rfl (Or.inl rfl) (bW (aa (pv 1) ag)))
  (aj (nE PassesOwn.never (tU (pv 3) (fun _=>rfl))
   (aj (aA (i:=4) h8.nd rfl (Or.inl rfl) (tZ PySem.F.plainAttrs_list PySem.F.slot_list_pop PySem.F.type_list_pop uc (pv 3)))
   (ao (bV PassesOwn.never rfl (cK (aH bN (pv 0) (pv 4) (fun _ _=>rfl))) (aB (i:=5) h8.nd rfl (Or.inl rfl))
    (ao (bD (mz (lL hu (pv 5) (pv 2)))
     (aj (gS hu (pv 2) (pv 5) nB rfl) (ao (bU (eY PySem.F.plainAttrs_list PySem.F.slot_list_append PySem.F.type_list_append cU (pv 3) (aa (pv 5) ag))))) aU))))))
  (ao (aM (av (mT hr.hd) rfl mso bq (aa (pv 2) ag)))))),?_⟩
 refine fun d hd=>⟨_,rfl,ae,[(Sum.inl s,.bl true)],rfl,(by show 1<=15; decide),_,rfl,(by show 1<=sizeLine; decide),fun y hy => ?_⟩
 have e1d:upd (upd H d (.dK [])) d (.dK (eD [] [(Sum.inl s,V.bl true)])) d=some (.dK (dQ [s])):=ae
 have s1:aL H (upd (upd H d (.dK [])) d (.dK (eD [] [(Sum.inl s,V.bl true)]))):=fun b o e=>by
  rw [aq (au e hd),aq (au e hd)]; exact e
 have hy0:H y=none:=by
  cases e:H y with
  | none=>rfl
  | some o=>rw [s1 _ _ e] at hy; cases hy
 have ndy:d ≠ y:=au e1d hy
 have e2d:=(af hy (.lst [.int s])) _ _ e1d
 have e2y:upd (upd (upd H d (.dK [])) d (.dK (eD [] [(Sum.inl s,V.bl true)]))) y (.lst [.int s]) y=some (.lst (([s]:List Int).map V.int)):=ae
 have s2:=s1.trans (af hy (.lst [.int s]))
 generalize upd (upd (upd H d (.dK [])) d (.dK (eD [] [(Sum.inl s,V.bl true)]))) y (.lst [.int s])=H2 at e2d e2y s2
 have rngR:∀ {R Y:List Int},RY ns m s R Y->∀ v ∈ R,0<=v/\v < m:=fun I v hv=>(I.con v hv).rng O ⟨s0',sm⟩
 dsimp only [eO,yX]
 refine nF (fun σ H'=>∃ (c4 c5:Option V) (R Y:List Int),σ=[some (.ref n),some (.int s),some (.ref d),some (.ref y),c4,c5]/\aL H H'/\H' d=some (.dK (dQ R))/\H' y=some (.lst (Y.map V.int))/\RY ns m s R Y/\2 * (m - R.length) + Y.length<=2 * m/\(∀ u ∈ R,u ∉ Y->∀ v,Adj ns u v->v ∈ R))
  (fun _ H'=>2 * (m - sT H' d) + sU H' y) ⟨none,none,[s],[s],rfl,s2,e2d,e2y,⟨List.nodup_cons.mpr ⟨by simp,List.nodup_nil⟩,List.mem_cons_self,fun v hv => ?_,fun v hv=>hv⟩,by show 2 * (m - 1) + 1<=2 * m; omega,fun u hu nu=>absurd hu nu⟩ ?_ (by rintro σ H Q Q' h ⟨v,e,k,t,q⟩; exact ⟨v,e,k,t,h _ _ q⟩)
 ·rw [List.mem_singleton] at hv; subst hv; exact .refl _
 rintro σ H' ⟨c4,c5,R,Y,rfl,s',ed,ey,I,ly,cl⟩
 refine ⟨_,rfl, !(Y.map V.int).isEmpty,.inl ⟨_,SqL.of ey,rfl⟩,?_⟩
 have mu0:2 * (m - sT H' d) + sU H' y=2 * (m - R.length) + Y.length:=by
  unfold sT sU
  rw [ed,ey]
  dsimp only
  rw [hX,List.length_map]
 rcases List.eq_nil_or_concat Y with hY | ⟨Y',p,hY⟩
 ·subst hY
  refine cY ⟨_,rfl,d,dQ R,R,rfl,ed,sS R,fun l out hl pm ps => ?_⟩
  have eo:out=hU ns m s:=lS (fj ps (pm.nodup_iff.mpr I.nd)) (j4 ns m s) fun x=>by
   rw [pm.mem_iff,lT O ⟨s0',sm⟩]
   exact ⟨I.con x,fun h=>h.closed I.st fun x y hx a=>cl x hx (by simp) y a⟩
  subst eo
  exact q l _ (s'.trans (af hl _)) ae
 ·rw [List.concat_eq_append] at hY
  subst hY
  have hne:(!(List.map V.int (Y' ++ [p])).isEmpty)=true:=by simp
  rw [hne]
  have pR:p ∈ R:=I.sub p (by simp)
  have pr:=rngR I p pR
  obtain ⟨pn,rfl⟩:∃ k:Nat,p=k:=⟨p.toNat,by omega⟩
  refine bT ⟨_,rfl,.inl ⟨rfl,_,SqL.of ey⟩,y,_,.int pn,rfl,rfl,ey,?_,?_⟩
  ·rw [List.map_append,List.length_append]; simp
  have dl:(List.map V.int (Y' ++ [(pn:Int)])).dropLast=Y'.map V.int:=by rw [List.map_append]; exact List.dropLast_concat
  rw [dl]
  have s3:aL H (upd H' y (.lst (Y'.map V.int))):=fun b o e=>by rw [aq (au e hy0)]; exact s' _ _ e
  have ed3:upd H' y (.lst (Y'.map V.int)) d=some (.dK (dQ R)):=by rw [aq ndy]; exact ed
  have ey3:upd H' y (.lst (Y'.map V.int)) y=some (.lst (Y'.map V.int)):=ae
  generalize upd H' y (.lst (Y'.map V.int))=H3 at s3 ed3 ey3
  have N3:=N.same s3
  have pl:pn < os.length:=by rw [N.len]; omega
  obtain ⟨uu,eu⟩:∃ u,os[pn]? = some u:=⟨_,List.getElem?_eq_getElem pl⟩
  have rowu:=N3.row _ (List.mem_of_getElem? eu)
  have isu:=N.is pn _ eu
  rw [List.length_append,List.length_singleton] at ly mu0
  refine ⟨_,rfl,_,rfl,n,_,(pn:Int),_,rfl,rfl,SqL.of N3.at',jg (by rw [List.getElem?_map,eu]; rfl),uu.1,rfl,⟨_,SqL.of rowu⟩,cz (xs:=uu.2.map V.int)
   (fun i σ H4=>∃ (c5:Option V) (R4 Y4:List Int),σ=[some (.ref n),some (.int s),some (.ref d),some (.ref y),some (.int pn),c5]/\aL H H4/\H4 d=some (.dK (dQ R4))/\H4 y=some (.lst (Y4.map V.int))/\RY ns m s R4 Y4/\(pn:Int) ∈ R4/\(∀ u ∈ R4,u ∉ Y4->u ≠ pn->∀ v,Adj ns u v->v ∈ R4)/\(∀ v ∈ uu.2.take i,v ∈ R4)/\R4.length<=m/\2 * (m - R4.length) + Y4.length + 1<=2 * (m - R.length) + (Y'.length + 1))
   ⟨_,R,Y',rfl,s3,ed3,ey3,⟨I.nd,I.st,I.con,fun v hv=>I.sub v (List.mem_append_left _ hv)⟩,pR,fun u hu nu ne=>cl u hu (fun z=>(List.mem_append.mp z).elim nu fun z=>ne (by simpa using z)),fun v hv=>by simp at hv,hZ I.nd (rngR I),by omega⟩ (fun i σ H4 _ z => ?_) ?_ ?_⟩
  ·obtain ⟨_,_,_,_,s4,_⟩:=z
   exact SqL.of ((N.same s4).row _ (List.mem_of_getElem? eu))
  ·rintro i x σ H4 hx ⟨c5,R4,Y4,rfl,s4,ed4,ey4,I4,p4,cl4,tk4,l4,mu4⟩
   rw [List.getElem?_map] at hx
   cases ho:uu.2[i]? with
   | none=>rw [ho] at hx; cases hx
   | some o =>
   rw [ho] at hx
   cases hx
   have tks:uu.2.take (i + 1)=uu.2.take i ++ [o]:=by rw [List.take_add_one,ho]; rfl
   have oA:Adj ns pn o:=(isu o).mp (List.mem_of_getElem? ho)
   refine ⟨_,rfl,_,rfl,d,_,rfl,dI.k (k:=Sum.inl o) ed4,_,rfl,?_⟩
   rw [lV]
   by_cases hR:o ∈ R4
   ·rw [decide_eq_true hR]
    refine cY ⟨_,R4,Y4,rfl,s4,ed4,ey4,I4,p4,cl4,fun v hv => ?_,l4,mu4⟩
    rw [tks] at hv
    rcases List.mem_append.mp hv with z | z
    ·exact tk4 v z
    ·rw [List.mem_singleton] at z; subst z; exact hR
   ·rw [decide_eq_false hR]
    have I5:RY ns m s (R4 ++ [o]) (Y4 ++ [o]):=by
     refine ⟨qj I4.nd hR,List.mem_append_left _ I4.st,fun v hv => ?_,fun v hv => ?_⟩
     ·rcases List.mem_append.mp hv with z | z
      ·exact I4.con v z
      ·rw [List.mem_singleton] at z; subst z; exact .step (I4.con _ p4) oA
     ·rcases List.mem_append.mp hv with z | z
      ·exact List.mem_append_left _ (I4.sub v z)
      ·exact List.mem_append_right _ z
    have l5:=hZ I5.nd (rngR I5)
    rw [List.length_append,List.length_singleton] at l5
    refine bT ⟨_,rfl,_,rfl,d,_,rfl,mO.k (k:=Sum.inl o) ed4 (by rw [hX]; exact bh (by omega)),?_⟩
    rw [oJ hR]
    have ey5:upd H4 d (.dK (dQ (R4 ++ [o]))) y=some (.lst (Y4.map V.int)):=by rw [aq (Ne.symm ndy)]; exact ey4
    refine ⟨_,rfl,.inl ⟨rfl,_,SqL.of ey5⟩,_,rfl,y,_,_,rfl,rfl,ey5,(by rw [List.length_map]; exact bh (by omega)),_,R4 ++ [o],Y4 ++ [o],rfl,fun b ob e => ?_,?_,?_,I5,List.mem_append_left _ p4,fun u hu nu ne v a => ?_,fun v hv => ?_,by rw [List.length_append,List.length_singleton]; exact l5,?_⟩
    ·rw [aq (au e hy0),aq (au e hd)]; exact s4 _ _ e
    ·rw [aq ndy]; exact ae
    ·rw [ae,List.map_append]; rfl
    ·rcases List.mem_append.mp hu with z | z
     ·exact List.mem_append_left _ (cl4 u z (fun y=>nu (List.mem_append_left _ y)) ne v a)
     ·exact absurd (List.mem_append_right _ z) nu
    ·rw [tks] at hv
     rcases List.mem_append.mp hv with z | z
     ·exact List.mem_append_left _ (tk4 v z)
     ·exact List.mem_append_right _ z
    ·rw [List.length_append,List.length_append,List.length_singleton]; omega
  ·rintro σ H4 ⟨c5,R4,Y4,rfl,s4,ed4,ey4,I4,p4,cl4,tk4,l4,mu4⟩
   rw [List.length_map,List.take_of_length_le (Nat.le_refl _)] at tk4
   have lr:=hZ I.nd (rngR I)
   refine ⟨⟨_,_,R4,Y4,rfl,s4,ed4,ey4,I4,?_,fun u hu nu v a => ?_⟩,?_⟩
   ·omega
   ·by_cases e:u=pn
    ·subst e
     exact tk4 v ((isu v).mpr a)
    ·exact cl4 u hu nu e v a
   ·show 2 * (m - sT H4 d) + sU H4 y < 2 * (m - sT H' d) + sU H' y
    rw [mu0]
    unfold sT sU
    rw [ed4,ey4]
    dsimp only
    rw [hX,List.length_map]
    omega
end
open PySem L2
end K45
namespace L2
open PySem PySem.Spec PyProof.Rows
section
variable {X:Cx}
theorem eF (hh:X.A.handled=none):bu X (.type "list") (fun xs H Q=>∃ (a:Addr) (n:Nat),xs=[.ref a]/\H a=some (.rng 0 n)/\n<=1000/\∀ l,H l=none->Q (.ref l) (upd H l (.lst ((List.range n).map fun i=>V.int (i:Nat))))):=by
 intro pins s σ H xs us Q I r h
 obtain ⟨a,n,rfl,ha,hn,q⟩:=h
 obtain ⟨u,rfl,ru⟩:=vals1 r
 cases (show u=Value.ref a from ru)
 obtain ⟨t,u,v,e⟩:=(show aY X.prog X.w H s.heap a (.rng 0 n) from I.hok a _ ha)
 have rs:Builtin.Range.rangeSize 0 (n:Int) 1=(n:Int):=by
  rw [rangeSize_one]
  split <;> omega
 have n24:n<=2 ^ 24:=by omega
 refine call_list_range hh e (small_one (by omega) (by omega) (by omega) (by omega)) rs n24 fun h' tk acc' c' k e' it => ?_
 have hv:∀ (i:Nat) (x:Value),acc'.toList[i]? = some x->∃ t,x=Value.int i t:=fun i x hx=>by
  rw [Array.getElem?_toList] at hx
  obtain ⟨t',e⟩:=it.2 i x hx
  exact ⟨t',by rw [e]; simp⟩
 have rv:=p5 hv
 rw [Array.length_toList,it.1] at rv
 exact ⟨.ref s.heap.objs.size,_,I.laid (o := .lst ((List.range n).map fun i=>V.int (i:Nat))) k (Nat.le_refl _) ⟨by rw [List.length_map,List.length_range]; exact small hn,acc'.toList,c',rv,by simpa using e'⟩,rfl,q _ (I.hok.fresh (Nat.le_refl _))⟩
end
end L2
namespace K45
open PySem L2
theorem Wb.ok {H:Hp} {r:Addr} {m:Nat} {ts:List (Addr × List Int)} (W:Wb H r (m:Int) ts):Ok m (ts.map (·.2)):=fun p hp=>by
 obtain ⟨u,hu,rfl⟩:=List.mem_map.mp hp
 exact W.pr u hu
abbrev qY:Sp:=fun vs H Q _=>∃ (r:Addr) (m:Nat) (ts:List (Addr × List Int)),vs=[.ref r]/\Wb H r m ts/\m<=400/\∀ (l:Addr) (H':Hp) (os:List (Addr × List Int)),aL H H'->H l=none->H' l=some (.lst (os.map fun u => .ref u.1))->(∀ u ∈ os,H' u.1=some (.tup (u.2.map V.int)))->os.map (·.2)=cf (ts.map (·.2)) m m->Q (.ref l) H'
@[irreducible] def j7:Sp:=qY
theorem gq {vs:List V} {H:Hp} {Q:VK} {E:XK}:j7 vs H Q E ↔ qY vs H Q E:=by
 delta j7
 exact Iff.rfl
theorem oM (ns:List (List Int)) (m i:Nat):(cf ns m i).length<=i:=by
 unfold cf
 rw [List.length_map]
 refine Nat.le_trans (List.length_filter_le _ _) ?_
 unfold rgI
 rw [List.length_map,List.length_range]
 exact Nat.le_refl _
section
variable {P:Program} {w:World} {K:PySem.W.Frag} {mg:Str->Option Value} {base:Heap} {f:Addr} {fd:FuncData}
theorem gr:aK ["web", "near", "seen", "parts", "place", "part", "other"] ["web"] (ak xJ):=⟨rfl,rfl,rfl,by decide +kernel,rfl,by decide +kernel,by decide +kernel⟩
theorem yM (F:Fun K "hanging_parts" "hanging_parts" xJ f fd) (B:Blt mg) (cL:Cal P w K mg base 1 "near_lists" ["web"] gZ) (cR:Cal P w K mg base 1 "reached_from" ["near", "start"] h7):bE P w K mg base CX0 2 f fd ["web"] j7:=by
 refine F.ok gr (fun vs H Q E h => ?_) (fun cdv A outer s0 H vs Q E hr h => ?_)
 ·obtain ⟨a,b,c,rfl,_⟩:=gq.mp h
  rfl
 obtain ⟨r,m,ts,rfl,W,m4,q⟩:=gq.mp h
 have O:=W.ok
 have hu:=nJ hr
 obtain ⟨t,e1,e2⟩:=W.at'
 refine ⟨_,aj (aA (i:=1) gr.nd rfl (Or.inl rfl) (aJ cL hr (by decide) rfl (aa (pv 0) ag)))
  (aj (aA (i:=2) gr.nd rfl (Or.inl rfl) oy)
  (aj (aA (i:=3) gr.nd rfl (Or.inl rfl) (bW ag))
  (aj (bV PassesOwn.never rfl (cj rfl B.b_range (aa (aH aO (pv 0) ah (fun _ _=>rfl)) ag)) (aB (i:=4) gr.nd rfl (Or.inl rfl))
   (ao (bD (mz (lL hu (pv 4) (pv 2)))
    (aj (aA (i:=5) gr.nd rfl (Or.inl rfl) (aJ cR hr (by decide) rfl (aa (pv 1) (aa (pv 4) ag))))
    (aj (bV PassesOwn.never rfl (cK (pv 5)) (aB (i:=6) gr.nd rfl (Or.inl rfl)) (ao (gS hu (pv 2) (pv 6) nB rfl)))
    (ao (bU (eY PySem.F.plainAttrs_list PySem.F.slot_list_append PySem.F.type_list_append cU (pv 3) (aa (aE bp rfl B.b_tuple PySem.Pv.boot_tuple (aa (pv 5) ag)) ag)))))) aU)))
  (ao (aM (pv 3)))))),?_⟩
 refine ⟨_,rfl,fk.mpr ⟨r,m,ts,rfl,W,by omega,by omega,fun n H1 os s1 en lo ho po => ?_⟩⟩
 have N:j6 H1 n m (ts.map (·.2)) os:=⟨en,by rw [lo]; simp,ho,fun j u eu=>(po j u eu).2⟩
 refine fun d hd=>⟨(by show 0<=sizeLine; decide),fun pl hpl => ?_⟩
 have hd0:upd H1 d (.dK []) d=some (.dK (dQ [])):=ae
 have ndp:d ≠ pl:=au hd0 hpl
 have hpl1:H1 pl=none:=by
  cases e:H1 pl with
  | none=>rfl
  | some o=>rw [(af hd (.dK [])) _ _ e] at hpl; cases hpl
 have hpl0:H pl=none:=by
  cases e:H pl with
  | none=>rfl
  | some o=>rw [s1 _ _ e] at hpl1; cases hpl1
 have e3d:=(af hpl (.lst [])) _ _ hd0
 have e3p:upd (upd H1 d (.dK [])) pl (.lst []) pl=some (.lst []):=ae
 have s3:=(af hd (.dK [])).trans (af hpl (.lst []))
 generalize upd (upd H1 d (.dK [])) pl (.lst [])=H3 at e3d e3p s3
 refine ⟨_,rfl,r,_,0,_,rfl,rfl,SqT.of (s3 _ _ (s1 _ _ e1)),rfl,m,rfl,by omega,by omega,iA (fun i σ H'=>∃ (c4 c5 c6:Option V) (S:List Int) (ps:List (Addr × List Int)),σ=[some (.ref r),some (.ref n),some (.ref d),some (.ref pl),c4,c5,c6]/\aL H1 H'/\H' d=some (.dK (dQ S))/\H' pl=some (.lst (ps.map fun u => .ref u.1))/\(∀ u ∈ ps,H' u.1=some (.tup (u.2.map V.int)))/\ps.map (·.2)=cf (ts.map (·.2)) m i/\S.Nodup/\(∀ v,v ∈ S ↔ ∃ u:Nat,u < i/\Con (ts.map (·.2)) (u:Int) v))
  ⟨_,_,_,[],[],rfl,s3,e3d,e3p,fun u hu=>(by cases hu),rfl,List.nodup_nil,fun v=>⟨fun z=>(by cases z),fun ⟨u,z,_⟩=>by omega⟩⟩ ?_ ?_⟩
 ·rintro i σ H' hi ⟨c4,c5,c6,S,ps,rfl,s',ed,ep,hp,epp,nS,mS⟩
  have hi':i < m:=by simpa using hi
  refine ⟨_,rfl,_,rfl,d,_,rfl,dI.k (k:=Sum.inl (0 + (i:Int))) ed,_,rfl,?_⟩
  rw [lV,Int.zero_add]
  by_cases hS:(i:Int) ∈ S
  ·rw [decide_eq_true hS]
   obtain ⟨u,ui,hu⟩:=(mS _).mp hS
   refine cY ⟨_,_,_,S,ps,rfl,s',ed,ep,hp,?_,nS,fun v => ?_⟩
   ·have:=Classical.propDecidable (Fst (ts.map (·.2)) (i:Int))
    rw [hV,if_neg (fun z=>z (u:Int) (by omega) (by omega) hu),List.append_nil]
    exact epp
   ·rw [mS v]
    constructor
    ·rintro ⟨x,xi,hx⟩; exact ⟨x,by omega,hx⟩
    ·rintro ⟨x,xi,hx⟩
     by_cases e:x=i
     ·subst e; exact ⟨u,ui,hu.trans hx⟩
     ·exact ⟨x,by omega,hx⟩
  ·rw [decide_eq_false hS]
   have fi:Fst (ts.map (·.2)) (i:Int):=fun x x0 xi hx=>by
    obtain ⟨xn,rfl⟩:∃ k:Nat,x=k:=⟨x.toNat,by omega⟩
    exact hS ((mS _).mpr ⟨xn,by omega,hx⟩)
   refine bT ⟨_,rfl,_,rfl,fq.mpr ⟨n,m,ts.map (·.2),os,(i:Int),rfl,N.same s',O,m4,by omega,by omega,fun pt H4 s4 ept => ?_⟩⟩
   have ed4:=s4 _ _ ed
   have ep4:=s4 _ _ ep
   have mc:∀ v,v ∈ hU (ts.map (·.2)) m (i:Int) ↔ Con (ts.map (·.2)) (i:Int) v:=fun v=>lT O (by omega)
   have rc:=j4 (ts.map (·.2)) m (i:Int)
   generalize hcc:hU (ts.map (·.2)) m (i:Int)=cc at ept mc rc
   have ndpt:d ≠ pt:=eN ed4 ept (by intro z; cases z)
   have ndcc:cc.Nodup:=rc.imp fun {a b} h=>by omega
   have dj:∀ v ∈ cc,v ∉ S:=fun v hv hs=>by
    obtain ⟨u,ui,hu⟩:=(mS v).mp hs
    exact fi (u:Int) (by omega) (by omega) (hu.trans (((mc v).mp hv).symm O))
   have rS:∀ v ∈ S,0<=v/\v < m:=fun v hv=>by
    obtain ⟨u,ui,hu⟩:=(mS v).mp hv
    exact hu.rng O (by omega)
   have rC:∀ v ∈ cc,0<=v/\v < m:=fun v hv=>((mc v).mp hv).rng O (by omega)
   have ndj:∀ j,(S ++ cc.take j).Nodup:=fun j=>by
    rw [List.nodup_append]
    exact ⟨nS,ndcc.sublist (List.take_sublist _ _),fun x hx y hy e=>dj y (List.mem_of_mem_take hy) (e ▸ hx)⟩
   have lj:∀ j,(S ++ cc.take j).length<=m:=fun j=>hZ (ndj j) fun v hv=>(List.mem_append.mp hv).elim (rS v) fun z=>rC v (List.mem_of_mem_take z)
   refine ⟨_,rfl,pt,rfl,⟨_,SqL.of ept⟩,cz (xs:=cc.map V.int) (fun j σ H5=>(∃ c6,σ=[some (.ref r),some (.ref n),some (.ref d),some (.ref pl),some (.int (i:Int)),some (.ref pt),c6])/\SB d H4 H5/\H5 d=some (.dK (dQ (S ++ cc.take j)))) ⟨⟨_,rfl⟩,SB.refl _ _,by rw [List.take_zero,List.append_nil]; exact ed4⟩ (fun j σ H5 _ z=>SqL.of (z.2.1 _ _ (Ne.symm ndpt) ept)) ?_ ?_⟩
   ·rintro j x σ H5 hx ⟨⟨c6,rfl⟩,sb5,ed5⟩
    rw [List.getElem?_map] at hx
    cases ho:cc[j]? with
    | none=>rw [ho] at hx; cases hx
    | some o =>
    rw [ho] at hx
    cases hx
    have tks:cc.take (j + 1)=cc.take j ++ [o]:=by rw [List.take_add_one,ho]; rfl
    have no:o ∉ S ++ cc.take j:=fun z=>by
     have nd1:=ndj (j + 1)
     rw [tks, <- List.append_assoc,List.nodup_append] at nd1
     exact nd1.2.2 o z o (by simp) rfl
    refine ⟨_,rfl,_,rfl,d,_,rfl,mO.k (k:=Sum.inl o) ed5 (by rw [hX]; exact bh (by have:=lj j; omega)),⟨_,rfl⟩,sb5.trans (SB.put _),?_⟩
    rw [oJ no,ae,tks,List.append_assoc]
   ·rintro σ H5 ⟨⟨c6,rfl⟩,sb5,ed5⟩
    rw [List.length_map,List.take_of_length_le (Nat.le_refl _)] at ed5
    have ep5:=sb5 _ _ (Ne.symm ndp) ep4
    have ept5:=sb5 _ _ (Ne.symm ndpt) ept
    have s5:aL H1 H5:=fun b o e=>sb5 _ _ (au e hd) (s4 _ _ (s' _ _ e))
    have hp5:∀ u ∈ ps,H5 u.1=some (.tup (u.2.map V.int)):=fun u hu=>sb5 _ _ (eN (s4 _ _ (hp u hu)) ed4 (by intro z; cases z)) (s4 _ _ (hp u hu))
    refine ⟨_,rfl,.inl ⟨rfl,_,SqL.of ep5⟩,_,rfl,pt,_,rfl,.inl ⟨SqL.of ept5,fun tt htt => ?_⟩⟩
    have s6:=af htt (.tup (cc.map V.int))
    have lps:ps.length<=i:=by
     have:=congrArg List.length epp
     rw [List.length_map] at this
     rw [this]
     exact oM _ _ _
    have ett:upd H5 tt (.tup (cc.map V.int)) tt=some (.tup (cc.map V.int)):=ae
    have ntp:∀ {b:Addr} {xs:List V},upd H5 tt (.tup (cc.map V.int)) b=some (.tup xs)->b ≠ pl:=fun e=>eN e (s6 _ _ ep5) (by intro z; cases z)
    refine ⟨pl,_,_,rfl,rfl,s6 _ _ ep5,(by rw [List.length_map]; exact bh (by omega)),_,_,_,S ++ cc,ps ++ [(tt,cc)],rfl,fun b o e => ?_,?_,?_,fun u hu => ?_,?_,by have:=ndj cc.length; rwa [List.take_of_length_le (Nat.le_refl _)] at this,fun v => ?_⟩
    ·rw [aq (au e hpl1)]; exact s6 _ _ (s5 _ _ e)
    ·rw [aq ndp]; exact s6 _ _ ed5
    ·rw [ae,List.map_append]; rfl
    ·rcases List.mem_append.mp hu with z | z
     ·have:=s6 _ _ (hp5 u z)
      rw [aq (ntp this)]; exact this
     ·rw [List.mem_singleton] at z; subst z
      rw [aq (ntp ett)]; exact ett
    ·have:=Classical.propDecidable (Fst (ts.map (·.2)) (i:Int))
     rw [hV,if_pos fi,List.map_append,epp,hcc]
     rfl
    ·rw [List.mem_append,mS v,mc v]
     constructor
     ·rintro (⟨x,xi,hx⟩ | hx)
      ·exact ⟨x,by omega,hx⟩
      ·exact ⟨i,by omega,hx⟩
     ·rintro ⟨x,xi,hx⟩
      by_cases e:x=i
      ·subst e; exact .inr hx
      ·exact .inl ⟨x,by omega,hx⟩
 ·rintro σ H' ⟨c4,c5,c6,S,ps,rfl,s',ed,ep,hp,epp,nS,mS⟩
  exact ⟨_,rfl,q pl H' ps (s1.trans s') hpl0 ep hp (by simpa using epp)⟩
end
open PySem L2
theorem bS (m:Nat):(rgI m).Nodup:=(gm m).imp fun {a b} h=>by omega
theorem sV {ns:List (List Int)} {m:Nat} [DecidablePred (Fst ns)]:(cf ns m m).length=((rgI m).filter fun u=>decide (Fst ns u)).length:=by
 unfold cf
 rw [List.length_map]
 congr 1
 refine List.filter_congr fun u _ => ?_
 rw [decide_eq_decide]
def off (ps:List Int) (p:List Int):Bool := !decide (p.getD 0 0 ∈ ps) && !decide (p.getD 1 0 ∈ ps)
abbrev vx:Sp:=fun vs H Q _=>∃ (r p:Addr) (m:Int) (ts:List (Addr × List Int)) (ps:List Int),vs=[.ref r,.ref p]/\Wb H r m ts/\(H p=some (.lst (ps.map V.int))\/H p=some (.tup (ps.map V.int))) ∧
 ∀ (z:Addr) (us:List (Addr × List Int)) (H':Hp),aL H H'->Wb H' z m us->us.map (·.2)=(ts.map (·.2)).filter (off ps)->Q (.ref z) H'
@[irreducible] def oN:Sp:=vx
theorem iO {vs:List V} {H:Hp} {Q:VK} {E:XK}:oN vs H Q E ↔ vx vs H Q E:=by
 delta oN
 exact Iff.rfl
section
variable {P:Program} {w:World} {K:PySem.W.Frag} {mg:Str->Option Value} {base:Heap} {f:Addr} {fd:FuncData}
theorem zL:aK ["web", "places"] ["web", "places"] (ak zK):=⟨rfl,rfl,rfl,by decide +kernel,rfl,by decide +kernel,by decide +kernel⟩
theorem lW {α β : Type} {g : α -> Bool} {h : α -> β} {l:List α} {i:Nat} {x : α} (e:l[i]? = some x):((l.take (i + 1)).filter g).map h=((l.take i).filter g).map h ++ if g x=true then [h x] else []:=by
 rw [List.take_add_one,e,List.filter_append,List.map_append]
 congr 1
 show (List.filter g [x]).map h=_
 by_cases c:g x=true
 ·rw [if_pos c,List.filter_cons_of_pos c]; rfl
 ·rw [if_neg c,List.filter_cons_of_neg c]; rfl
theorem zM (F:Fun K "cut_web" "cut_web" zK f fd) (B:Blt mg):bE P w K mg base CX0 1 f fd ["web", "places"] oN:=by
 refine F.ok zL (fun vs H Q E h => ?_) (fun cdv A outer s H vs Q E hr h => ?_)
 ·obtain ⟨a,b,c,d,e,rfl,_⟩:=iO.mp h
  rfl
 obtain ⟨r,p,m,ts,ps,rfl,W,hp,q⟩:=iO.mp h
 obtain ⟨t,e1,e2⟩:=W.at'
 refine ⟨_,ao (aM (dy (aa (aH aO (pv 0) ah (fun _ _=>rfl)) (aa (aE bp rfl B.b_tuple PySem.Pv.boot_tuple (aa (bF ["tie", "places"] [none,some 1] rfl (eV (aH aO (pv 0) ah (fun _ _=>rfl))) rfl (fun _ _ _ _ _=>aB (i:=0) vo rfl (Or.inl rfl))
  (fun _ _ _ _ _=>iG (PW.pt (js (aF (iH (K:=K)) (aH (d9 (K:=K)) (pv 0) ah (fun _ _=>rfl)) (pv 1) rfl) (gy (aF (iH (K:=K)) (aH (d9 (K:=K)) (pv 0) ah (fun _ _=>rfl)) (pv 1) rfl)))))
  (fun _ _ _ _ _=>pv 0)) ag)) ag)))),?_⟩
 refine ⟨_,rfl,r,_,0,_,rfl,rfl,SqT.of e1,rfl,_,rfl,r,_,1,_,rfl,rfl,SqT.of e1,rfl,t,rfl,⟨_,SqT.of e2⟩,bQ (xs:=ts.map fun u => .ref u.1) (fun i ys H'=>H'=H/\ys=((ts.take i).filter fun u=>off ps u.2).map fun u => .ref u.1) ⟨rfl,rfl⟩ (by rw [List.length_map]; exact small (by have:=W.len; omega)) (fun i ys H' _ z=>by rw [z.1]; exact SqT.of e2) ?_ ?_⟩
 ·rintro i x ys H3 hx hy ⟨rfl,ey⟩ R1 R0 r1 r0
  obtain ⟨u,eu,rfl⟩:=item hx
  have hu:=W.tup u (List.mem_of_getElem? eu)
  obtain ⟨a,b,e3,_⟩:=W.pr u (List.mem_of_getElem? eu)
  rw [e3] at hu
  have bb:off ps u.2=(!decide (a ∈ ps) && !decide (b ∈ ps)):=by rw [e3]; rfl
  have g1:off ps u.2=true->R1 (.ref u.1) H3:=fun ec=>r1 _ _ ⟨rfl,by rw [lW eu,if_pos ec,ey]⟩
  have g0:off ps u.2=false->R0 H3:=fun ec=>r0 _ ⟨rfl,by rw [lW eu,if_neg (by rw [ec]; exact Bool.false_ne_true),ey,List.append_nil]⟩
  refine ⟨_,rfl,u.1,_,0,_,rfl,rfl,SqT.of hu,rfl,_,rfl,p,_,rfl,(hp.elim (fun z => .inl (SqL.of z)) (fun z => .inr (SqT.of z))),rfl,cq ps,_,rfl,?_⟩
  show if (if true=true then !inV (.int a) (ps.map V.int) else _)=true then _ else _
  rw [if_pos rfl,cG]
  by_cases ha:a ∈ ps
  ·rw [decide_eq_true ha] at bb ⊢
   exact cY (cY (g0 bb))
  ·rw [decide_eq_false ha] at bb ⊢
   refine bT ⟨_,rfl,u.1,_,1,_,rfl,rfl,SqT.of hu,rfl,_,rfl,p,_,rfl,(hp.elim (fun z => .inl (SqL.of z)) (fun z => .inr (SqT.of z))),rfl,cq ps,_,rfl,?_⟩
   show if (if true=true then !inV (.int b) (ps.map V.int) else _)=true then _ else _
   rw [if_pos rfl,cG]
   by_cases hb:b ∈ ps
   ·rw [decide_eq_true hb] at bb ⊢
    exact cY (g0 bb)
   ·rw [decide_eq_false hb] at bb ⊢
    exact bT ⟨_,rfl,g1 bb⟩
 ·rintro ys H3 hy ⟨rfl,ey⟩ l hl
  rw [List.length_map,List.take_of_length_le (Nat.le_refl _)] at ey
  refine ⟨l,_,rfl,.inl ⟨SqL.of ae,fun l2 hl2=>⟨(by show 2<=sizeLine; decide),fun z hz => ?_⟩⟩⟩
  subst ey
  have g1:=af hl (.lst ((ts.filter fun u=>off ps u.2).map fun u=>V.ref u.1))
  have g2:=af hl2 (.tup ((ts.filter fun u=>off ps u.2).map fun u=>V.ref u.1))
  have g3:=af hz (.tup [.int m,.ref l2])
  have g:=(g1.trans g2).trans g3
  refine q z (ts.filter fun u=>off ps u.2) _ g ⟨⟨l2,ae,g3 _ _ ae⟩,fun u hu=>g _ _ (W.tup u (List.mem_filter.mp hu).1),fun u hu=>W.pr u (List.mem_filter.mp hu).1,?_⟩ ?_
  ·exact Nat.le_trans (List.length_filter_le _ _) W.len
  ·rw [List.filter_map]; rfl
end
open PySem L2
def Sub (ns:List (List Int)) (P:List Int):List (List Int):=ns.filter (both P)
theorem iP {m:Nat} {ns:List (List Int)} (O:Ok m ns) (P:List Int):Ok m (Sub ns P):=fun p hp=>O p (List.mem_filter.mp hp).1
theorem w6 {m:Nat} {ns:List (List Int)} (O:Ok m ns) {P:List Int} {a b:Int}:[a,b] ∈ Sub ns P ↔ [a,b] ∈ ns/\a ∈ P/\b ∈ P:=by
 unfold Sub
 rw [List.mem_filter]
 unfold both
 rw [Bool.and_eq_true,decide_eq_true_iff,decide_eq_true_iff]
 exact Iff.rfl
theorem qZ {m:Nat} {ns:List (List Int)} (O:Ok m ns) {P:List Int} {u v:Int} (h:Adj (Sub ns P) u v):u ∈ P/\v ∈ P:=by
 obtain ⟨a,b,hp,_,h⟩:=(hJ (iP O P)).mp h
 obtain ⟨_,ha,hb⟩:=(w6 O).mp hp
 rcases h with ⟨h1,h2⟩ | ⟨h1,h2⟩ <;> subst h1 h2
 ·exact ⟨ha,hb⟩
 ·exact ⟨hb,ha⟩
theorem vy {m:Nat} {ns:List (List Int)} (O:Ok m ns) {P:List Int} {u v:Int} (h:Con (Sub ns P) u v) (hu:u ∈ P):v ∈ P:=h.closed hu fun _ _ _ a=>(qZ O a).2
theorem xc {m:Nat} {ns:List (List Int)} (O:Ok m ns) {P:List Int} {u v:Int} (h:Con (Sub ns P) u v) (hu:u ∉ P):v=u:=h.closed (R:=fun z=>z=u) rfl fun x y e a=>by
 subst e
 exact absurd (qZ O a).1 hu
theorem xf {m:Nat} {ns:List (List Int)} (O:Ok m ns) {P:List Int} {u:Int} (hu:u ∉ P):Fst (Sub ns P) u:=fun w w0 wu c=>by
 have:=xc O (c.symm (iP O P)) hu
 omega
structure di (m:Nat) (P:List Int):Prop where
 nd:P.Nodup
 rng:∀ v ∈ P,0<=v/\v < (m:Int)
theorem cI {m:Nat} {P:List Int} (S:di m P):((rgI m).filter fun v=>decide (v ∈ P)).length=P.length:=by
 refine List.Perm.length_eq ((List.perm_ext_iff_of_nodup ((bS m).filter _) S.nd).mpr fun v => ?_)
 rw [List.mem_filter,decide_eq_true_iff,aZ]
 exact ⟨fun h=>h.2,fun h=>⟨S.rng v h,h⟩⟩
theorem eG (q p:Int->Bool):∀ l:List Int,(l.filter p).length=(l.filter fun v=>q v && p v).length + (l.filter fun v => !q v && p v).length
 | []=>rfl
 | x :: l=>by
  rw [List.filter_cons,List.filter_cons,List.filter_cons]
  have ih:=eG q p l
  cases hq:q x <;> cases hp:p x <;> simp [ih] <;> omega
theorem h9 {m:Nat} {P:List Int} (S:di m P):P.length<=m:=by
 rw [<- cI S]
 refine Nat.le_trans (List.length_filter_le _ _) ?_
 unfold rgI
 rw [List.length_map,List.length_range]
 exact Nat.le_refl _
theorem cS (m:Nat):(rgI m).length=m:=by unfold rgI; rw [List.length_map,List.length_range]
open Classical in
noncomputable def trees (ns:List (List Int)) (m:Nat) (P:List Int):Nat:=((rgI m).filter fun u=>decide (u ∈ P) && decide (Fst (Sub ns P) u)).length
open Classical in
theorem oO {m:Nat} {ns:List (List Int)} (O:Ok m ns) {P:List Int} (S:di m P):(cf (Sub ns P) m m).length + P.length=trees ns m P + m:=by
 rw [sV,eG (fun v=>decide (v ∈ P)) (fun u=>decide (Fst (Sub ns P) u)) (rgI m)]
 have e:((rgI m).filter fun v => !decide (v ∈ P) && decide (Fst (Sub ns P) v))=(rgI m).filter fun v => !decide (v ∈ P):=List.filter_congr fun v _=>by
  by_cases h:v ∈ P
  ·rw [decide_eq_true h]; rfl
  ·rw [decide_eq_false h,decide_eq_true (xf O h)]; rfl
 rw [e]
 have h1:=eG (fun v=>decide (v ∈ P)) (fun _=>true) (rgI m)
 have e1:(rgI m).filter (fun _=>true)=rgI m:=List.filter_eq_self.mpr fun _ _=>rfl
 rw [e1,cS] at h1
 simp only [Bool.and_true] at h1
 have h2:=cI S
 unfold trees
 omega
theorem yN (ns:List (List Int)) (m:Nat):Lab ns m (rgI m):=by
 have g:∀ v:Int,0<=v->v < m->gt (rgI m) v=v:=fun v h0 h1=>by
  unfold gt rgI
  rw [List.getD_eq_getElem?_getD,List.getElem?_map,List.getElem?_range (by omega)]
  show ((v.toNat:Nat):Int)=v
  omega
 refine ⟨cS m,fun v v0 vm => ?_⟩
 rw [g v v0 vm]
 exact ⟨v0,.refl v,Int.le_refl v⟩
theorem vz {m:Nat} {v:Int} (h0:0<=v) (h1:v < m):gt (rgI m) v=v:=by
 unfold gt rgI
 rw [List.getD_eq_getElem?_getD,List.getElem?_map,List.getElem?_range (by omega)]
 show ((v.toNat:Nat):Int)=v
 omega
theorem oP {m:Nat} {ns:List (List Int)} (O:Ok m ns) {P:List Int} (S:di m P) {v:Int} (hv:v ∈ P):∃ c:Int,c ∈ P/\Fst (Sub ns P) c/\Con (Sub ns P) c v/\gt (rounds (Sub ns P) P.length (rgI m)) v=c:=by
 have O':=iP O P
 obtain ⟨v0,vm⟩:=S.rng v hv
 obtain ⟨c,fc,c0,cm,cv⟩:=yL O' v.toNat v v0 vm (Nat.le_refl _)
 have cP:c ∈ P:=vy O (cv.symm O') hv
 refine ⟨c,cP,fc,cv,?_⟩
 rcases i6 O' (yN (Sub ns P) m) fc c0 cm (vz c0 cm) P.length with a | ⟨a1,_⟩
 ·exact a v cv
 ·have lab:=eE O' (yN (Sub ns P) m) P.length
  have:has m (rounds (Sub ns P) P.length (rgI m)) c<=P.length:=by
   unfold has
   rw [List.countP_eq_length_filter]
   have e:((rgI m).filter fun v=>decide (gt (rounds (Sub ns P) P.length (rgI m)) v=c))=(((rgI m).filter fun v=>decide (v ∈ P)).filter fun v=>decide (gt (rounds (Sub ns P) P.length (rgI m)) v=c)):=by
    rw [List.filter_filter]
    refine List.filter_congr fun u hu => ?_
    obtain ⟨u0,um⟩:=aZ.mp hu
    by_cases h:gt (rounds (Sub ns P) P.length (rgI m)) u=c
    ·have:=(lab.con u u0 um).2.1
     rw [h] at this
     rw [decide_eq_true h,decide_eq_true (vy O this cP)]
     rfl
    ·rw [decide_eq_false h]; rfl
   rw [e]
   refine Nat.le_trans (List.length_filter_le _ _) ?_
   rw [cI S]
   exact Nat.le_refl _
  omega
open Classical in
theorem ng {m:Nat} {ns:List (List Int)} (O:Ok m ns) {P:List Int} (S:di m P) {us:List Int} (nd:us.Nodup) (hm:∀ k,k ∈ us ↔ k ∈ P.map fun v=>gt (rounds (Sub ns P) P.length (rgI m)) v):us.length=trees ns m P:=by
 unfold trees
 refine List.Perm.length_eq ((List.perm_ext_iff_of_nodup nd ((bS m).filter _)).mpr fun x => ?_)
 rw [hm,List.mem_map,List.mem_filter,Bool.and_eq_true,decide_eq_true_iff,decide_eq_true_iff]
 constructor
 ·rintro ⟨v,hv,rfl⟩
  obtain ⟨c,cP,fc,_,e⟩:=oP O S hv
  rw [e]
  exact ⟨aZ.mpr (S.rng c cP),cP,fc⟩
 ·rintro ⟨hr,hP,hF⟩
  obtain ⟨c,cP,fc,cv,e⟩:=oP O S hP
  exact ⟨x,hP,by rw [e]; exact vw (iP O P) fc hF (S.rng c cP).1 (S.rng x hP).1 cv⟩
theorem vA {m:Nat} {ns:List (List Int)} (O:Ok m ns) {P R:List Int} (h:∀ v:Int,0<=v->v < m->(v ∈ P ↔ v ∉ R)):ns.filter (off R)=Sub ns P:=by
 unfold Sub
 refine List.filter_congr fun p hp => ?_
 obtain ⟨a,b,rfl,a0,ab,bm⟩:=O p hp
 unfold off both
 show (!decide (a ∈ R) && !decide (b ∈ R))=(decide (a ∈ P) && decide (b ∈ P))
 have h1:=h a a0 (by omega)
 have h2:=h b (by omega) bm
 by_cases x:a ∈ R <;> by_cases y:b ∈ R <;> simp [x,y,h1,h2]
def q8 (ns:List (List Int)) (m:Nat):Prop:=∀ k:Int,0<=k->k < m->eQ ns k=3
theorem vB {m:Nat} {P R:List Int} (hP:di m P) (hR:di m R) (h:∀ v:Int,0<=v->v < m->(v ∈ P ↔ v ∉ R)):P.length + R.length=m:=by
 have h1:=eG (fun v=>decide (v ∈ R)) (fun _=>true) (rgI m)
 have e1:(rgI m).filter (fun _=>true)=rgI m:=List.filter_eq_self.mpr fun _ _=>rfl
 rw [e1,cS] at h1
 simp only [Bool.and_true] at h1
 rw [cI hR] at h1
 have e2:((rgI m).filter fun v => !decide (v ∈ R))=(rgI m).filter fun v=>decide (v ∈ P):=List.filter_congr fun v hv=>by
  obtain ⟨v0,vm⟩:=aZ.mp hv
  have:=h v v0 vm
  by_cases x:v ∈ R <;> simp [x,this]
 rw [e2,cI hP] at h1
 omega
def Pot (H:Hp) (p:Addr):Prop:=∃ x y:Int,H p=some (.lst [.int x,.int y])
structure But (p:Addr) (H H':Hp):Prop where
 pot:Pot H' p
 st:∀ q o,q ≠ p->H q=some o->H' q=some o
theorem But.refl {p:Addr} {H:Hp} (h:Pot H p):But p H H:=⟨h,fun _ _ _ z=>z⟩
theorem But.trans {p:Addr} {H H1 H2:Hp} (a:But p H H1) (b:But p H1 H2):But p H H2:=⟨b.pot,fun q o n z=>b.st q o n (a.st q o n z)⟩
theorem But.same {p:Addr} {H H1 H2:Hp} (a:But p H H1) (b:aL H1 H2):But p H H2:=⟨by obtain ⟨x,y,e⟩:=a.pot; exact ⟨x,y,b _ _ e⟩,fun q o n z=>b _ _ (a.st q o n z)⟩
theorem But.put {p:Addr} {H H1:Hp} (a:But p H H1) (x y:Int):But p H (upd H1 p (.lst [.int x,.int y])):=⟨⟨x,y,ae⟩,fun q o n z=>by rw [aq n]; exact a.st q o n z⟩
theorem But.iQ {p l:Addr} {H H1:Hp} (a:But p H H1) (hl:H l=none) (np:l ≠ p) (o:HO):But p H (upd H1 l o):=⟨by obtain ⟨x,y,e⟩:=a.pot; exact ⟨x,y,by rw [aq np.symm]; exact e⟩,fun q u n z=>by rw [aq (au z hl)]; exact a.st q u n z⟩
theorem But.tup {p q:Addr} {H H1:Hp} (a:But p H H1) (h:Pot H p) {xs:List V} (t:H q=some (.tup xs)):H1 q=some (.tup xs):=a.st q _ (fun z=>by
 subst z
 obtain ⟨_,_,e⟩:=h
 rw [t] at e
 cases e) t
theorem But.wb {p r:Addr} {H H1:Hp} {m:Int} {ts:List (Addr × List Int)} (a:But p H H1) (h:Pot H p) (W:Wb H r m ts):Wb H1 r m ts:=W.tp fun _ _ e=>a.tup h e
theorem But.fresh {p:Addr} {H H':Hp} {o:HO} (h:H p=none) (b:But p (upd H p o) H'):aL H H':=fun q u e=>by
 have n:q ≠ p:=au e h
 refine b.st q u n ?_
 rw [aq n]
 exact e
@[irreducible] def j8 (K:PySem.W.Frag):Sp:=fun vs H Q _=>∃ (a:Addr) (ns:List Int) (k:Int),vs=[.ref a,.int k]/\SqL K H a (ns.map V.int)/\0<=k/\k < 100/\∀ (x y:Int) (p:Addr),H p=none->Q (.ref p) (upd H p (.lst [.int x,.int y]))
theorem gs {K:PySem.W.Frag} {vs:List V} {H:Hp} {Q:VK} {E:XK}:j8 K vs H Q E ↔ ∃ (a:Addr) (ns:List Int) (k:Int),vs=[.ref a,.int k]/\SqL K H a (ns.map V.int)/\0<=k/\k < 100/\∀ (x y:Int) (p:Addr),H p=none->Q (.ref p) (upd H p (.lst [.int x,.int y])):=by
 delta j8
 exact Iff.rfl
abbrev q9:Sp:=fun vs H Q _=>∃ (p:Addr) (m:Int),vs=[.ref p,.int m]/\Pot H p/\0 < m/\m < 1073741824/\∀ (r:Int) (H':Hp),0<=r->r < m->But p H H'->Q (.int r) H'
@[irreducible] def eI:Sp:=q9
theorem aR {vs:List V} {H:Hp} {Q:VK} {E:XK}:eI vs H Q E ↔ q9 vs H Q E:=by
 delta eI
 exact Iff.rfl
def nh:Sp:=fun vs H Q _=>∃ i:Int,vs=[.int i]/\Q (.bl true) H
abbrev lX:Sp:=fun vs H Q _=>∃ (p:Addr) (most:Int),vs=[.ref p,.int most]/\Pot H p/\0<=most/\most<=40/\∀ (b:Addr) (h:Nat) (ts:List (Addr × List Int)) (H':Hp),But p H H'->Wb H' b ((2 * h:Nat):Int) ts->2 * h<=40->q8 (ts.map (·.2)) (2 * h)->Q (.ref b) H'
@[irreducible] def fu:Sp:=lX
theorem eJ {vs:List V} {H:Hp} {Q:VK} {E:XK}:fu vs H Q E ↔ lX vs H Q E:=by
 delta fu
 exact Iff.rfl
theorem w64:Wd ((10:Int) ^ (64:Int).toNat):=by unfold Wd; decide +kernel
theorem w128:Wd ((10:Int) ^ (64:Int).toNat * (10:Int) ^ (64:Int).toNat):=by unfold Wd; decide +kernel
theorem w192:Wd ((10:Int) ^ (64:Int).toNat * (10:Int) ^ (64:Int).toNat * (10:Int) ^ (64:Int).toNat):=by unfold Wd; decide +kernel
theorem p256:(0:Int) < (10:Int) ^ (64:Int).toNat * (10:Int) ^ (64:Int).toNat * (10:Int) ^ (64:Int).toNat * (10:Int) ^ (64:Int).toNat:=by decide +kernel
section
variable {P:Program} {w:World} {K:PySem.W.Frag} {mg:Str->Option Value} {base:Heap} {f T:Addr} {fd:FuncData}
theorem j9:aK ["script", "k", "cell", "digits"] ["script", "k"] (ak qT):=⟨rfl,rfl,rfl,by decide +kernel,rfl,by decide +kernel,by decide +kernel⟩
theorem yO (F:Fun K "_law_deal" "_law_deal" qT f fd) (ml:mg "len" = none):bE P w K mg base CX0 1 f fd ["script", "k"] (j8 K):=by
 refine F.ok j9 (fun vs H Q E h => ?_) (fun cdv A outer s H vs Q E hr h => ?_)
 ·obtain ⟨a,ns,k,rfl,_⟩:=gs.mp h
  rfl
 obtain ⟨a,ns,k,rfl,hS,h0,h1,q⟩:=gs.mp h
 have TD:∃ t,PSs (kr CX0 P w K mg base ["script", "k", "cell", "digits"] "_law_deal" (ak qT) f cdv A outer s H E).nox ((aD qT).drop 2) t/\∀ (c:Int) (c3:Option V),t { nx:=fun _ H'=>Q .non H',rt:=Q } [some (.ref a),some (.int k),some (.int c),c3] H:=by
  refine ⟨_,aj (aA (i:=3) j9.nd rfl (Or.inl rfl) ah)
   (aj (bD (aF zi (pv 2) (ay gf ah ah) (aX _)) (ao (aA (i:=3) j9.nd rfl (Or.inl rfl) (ay iB (pv 2) (ay gf ah ah)))) aU)
   (ao (aM (bW (aa (pv 3) (aa (ay dY (ay jw (ay bJ (ay bJ (ay dY (pv 2) ah) (ay jw ah (pv 1))) ah) ah) ah) ag)))))),fun c c3 => ?_⟩
  refine ⟨_,rfl,_,_,rfl,rfl,⟨by decide,by decide,by decide⟩,_,_,rfl,rfl,_,rfl,bC (fun z => ?_) (fun z => ?_)⟩
  ·refine ⟨_,rfl,_,_,rfl,rfl,⟨by decide,by decide,by decide⟩,_,_,rfl,rfl,?_⟩
   refine ⟨_,rfl,_,rfl,_,_,rfl,rfl,(by show (0:Int) < _; decide),_,rfl,_,_,rfl,rfl,.inl ⟨by decide,by decide⟩,_,_,rfl,rfl,_,_,rfl,rfl,_,_,rfl,rfl,.inr ⟨by decide,by decide⟩,_,_,rfl,rfl,(by show (0:Int) < _; decide),(by show 2<=sizeLine; decide),fun p hp=>q _ _ p hp⟩
  ·refine ⟨_,rfl,_,rfl,_,_,rfl,rfl,(by show (0:Int) < _; decide),_,rfl,_,_,rfl,rfl,.inl ⟨by decide,by decide⟩,_,_,rfl,rfl,_,_,rfl,rfl,_,_,rfl,rfl,.inr ⟨by decide,by decide⟩,_,_,rfl,rfl,(by show (0:Int) < _; decide),(by show 2<=sizeLine; decide),fun p hp=>q _ _ p hp⟩
 obtain ⟨tD,pD,gD⟩:=TD
 refine ⟨_,aj (aA (i:=2) j9.nd rfl (Or.inl rfl) ah)
  (aj (bD (aF qx (pv 1) (av aG rfl ml PySem.boot_len (aa (pv 0) ag)) (aX _))
   (ao (aA (i:=2) j9.nd rfl (Or.inl rfl) (ay dY (aH bN (pv 0) (pv 1) (fun _ _=>rfl)) (ay mV (ay mV (ay mV (ay gf ah ah) (ay gf ah ah)) (ay gf ah ah)) (ay gf ah ah))))) aU) pD),?_⟩
 refine ⟨_,rfl,_,rfl,a,_,rfl,.inl hS,_,_,rfl,rfl,_,rfl,bC (fun c => ?_) (fun c=>gD _ _)⟩
 have c':k < ((ns.map V.int).length:Int):=of_decide_eq_true c
 rw [List.length_map] at c'
 obtain ⟨n,rfl⟩:∃ n:Nat,k=n:=⟨k.toNat,by omega⟩
 obtain ⟨v,hat⟩:∃ v,atI (ns.map V.int) (n:Int)=some (.int v):=⟨ns[n]'(by omega),by
  refine jg ?_
  rw [List.getElem?_map,List.getElem?_eq_getElem (show n < ns.length by omega)]
  rfl⟩
 exact ⟨_,rfl,_,rfl,a,_,n,_,rfl,rfl,hS,hat,_,_,rfl,rfl,⟨by decide,by decide,by decide⟩,_,_,rfl,rfl,⟨by decide,by decide,by decide⟩,_,_,rfl,rfl,⟨w64,w64⟩,_,_,rfl,rfl,⟨by decide,by decide,by decide⟩,_,_,rfl,rfl,⟨w128,w64⟩,
  _,_,rfl,rfl,⟨by decide,by decide,by decide⟩,_,_,rfl,rfl,⟨w192,w64⟩,_,_,rfl,rfl,p256,gD _ _⟩
theorem vC:aK ["pot", "many", "found"] ["pot", "many"] (ak xK):=⟨rfl,rfl,rfl,by decide +kernel,rfl,by decide +kernel,by decide +kernel⟩
theorem yP (F:Fun K "_law_pick" "_law_pick" xK f fd):bE P w K mg base CX0 1 f fd ["pot", "many"] eI:=by
 refine F.ok vC (fun vs H Q E h => ?_) (fun cdv A outer s H vs Q E hr h => ?_)
 ·obtain ⟨p,m,rfl,_⟩:=aR.mp h
  rfl
 obtain ⟨p,m,rfl,⟨x,y,hp⟩,h0,h1,q⟩:=aR.mp h
 refine ⟨_,aj (bD (aF zh (aH bN (pv 0) ah (fun _ _=>rfl)) ah (aX _))
   (aj (aA (i:=2) vC.nd rfl (Or.inl rfl) (ay dY (aH bN (pv 0) ah (fun _ _=>rfl)) (pv 1)))
   (aj (ju (ay fJ (aH bN (pv 0) ah (fun _ _=>rfl)) (pv 1)) (jt (pv 0) ah set_list))
   (ao (aM (pv 2))))) aU)
  (aj (ju (ay dY (ay bJ (ay jw (aH bN (pv 0) ah (fun _ _=>rfl)) ah) ah) ah) (jt (pv 0) ah set_list))
  (ao (aM (ay dY (ay fJ (ay dY (ay jw (aH bN (pv 0) ah (fun _ _=>rfl)) (aH bN (pv 0) ah (fun _ _=>rfl))) ah) ah) (pv 1))))),?_⟩
 have bt:=But.refl (p:=p) ⟨x,y,hp⟩
 refine ⟨_,rfl,p,_,0,_,rfl,rfl,SqL.of hp,rfl,_,_,rfl,rfl,_,rfl,bC (fun c => ?_) (fun c => ?_)⟩
 ·refine ⟨_,rfl,p,_,0,_,rfl,rfl,SqL.of hp,rfl,_,rfl,_,_,rfl,rfl,h0,?_⟩
  refine ⟨_,rfl,p,_,0,_,rfl,rfl,SqL.of hp,rfl,_,rfl,_,_,rfl,rfl,⟨h0,h1⟩,_,rfl,p,_,0,0,rfl,rfl,hp,rfl,?_⟩
  refine ⟨_,rfl,?_⟩
  exact q _ _ (Int.emod_nonneg _ (by omega)) (Int.emod_lt_of_pos _ h0) (bt.put _ _)
 ·refine ⟨_,rfl,p,_,1,_,rfl,rfl,SqL.of hp,rfl,_,_,rfl,rfl,.inr ⟨by decide,by decide⟩,_,_,rfl,rfl,_,_,rfl,rfl,(by show (0:Int) < _; decide),_,rfl,p,_,1,1,rfl,rfl,hp,rfl,?_⟩
  dsimp only
  have b1:=Int.emod_nonneg (y * 69621 + 12345) (b:=2147483647) (by decide)
  have b2:=Int.emod_lt_of_pos (y * 69621 + 12345) (b:=2147483647) (by decide)
  generalize (y * 69621 + 12345) % 2147483647=z at b1 b2 ⊢
  have e:([V.int x,V.int y].set 1 (V.int z))=[V.int x,V.int z]:=rfl
  rw [e]
  refine ⟨_,rfl,p,_,1,_,rfl,rfl,SqL.of ae,rfl,_,rfl,p,_,1,_,rfl,rfl,SqL.of ae,rfl,_,_,rfl,rfl,.inl ⟨by omega,by omega⟩,_,_,rfl,rfl,(by show (0:Int) < _; decide),_,_,rfl,rfl,⟨by decide,by decide⟩,_,rfl,_,_,rfl,rfl,h0,?_⟩
  exact q _ _ (Int.emod_nonneg _ (by omega)) (Int.emod_lt_of_pos _ h0) (bt.put _ _)
theorem xg:aK ["found"] ["found"] (ak vj):=⟨rfl,rfl,rfl,by decide +kernel,rfl,by decide +kernel,by decide +kernel⟩
theorem xh (F:Fun K "_law_whole" "_law_whole" vj f fd) (B:Blt mg):bE P w K mg base CX0 1 f fd ["found"] nh:=by
 refine F.ok xg (fun vs H Q E h => ?_) (fun cdv A outer s H vs Q E hr h => ?_)
 ·obtain ⟨a,rfl,_⟩:=h
  rfl
 obtain ⟨a,rfl,q⟩:=h
 refine ⟨_,ao (aM (tM (av iW rfl B.b_isinstance fX (aa (pv 0) (aa (qp (v := .ty "int") rfl B.b_int PySem.Pv.boot_int rfl) ag)))
  (tL (xU (av iW rfl B.b_isinstance fX (aa (pv 0) (aa (qp (v := .ty "bool") rfl B.b_bool PySem.Pv.boot_bool rfl) ag))))))),?_⟩
 refine ⟨_,rfl,.int a, "int",_,true,rfl,.int a,rfl,_,rfl,bT ?_⟩
 exact ⟨_,rfl,.int a, "bool",_,false,rfl,.int a,rfl,_,rfl,q⟩
end
open PySem L2
theorem cnt_cons (p:List Int) (ns:List (List Int)) (k:Int):eQ (p :: ns) k=(p.count k:Int) + eQ ns k:=by unfold eQ; rw [List.map_cons,List.sum_cons]
theorem vD (ns:List (List Int)) (p:List Int) (k:Int):eQ (ns ++ [p]) k=eQ ns k + (p.count k:Int):=by
 induction ns with
 | nil=>rw [List.nil_append,cnt_cons]; show _ + 0=0 + _; omega
 | cons q ns ih=>rw [List.cons_append,cnt_cons,cnt_cons,ih]; omega
theorem vE {ns ms:List (List Int)} (h:ns.Perm ms) (k:Int):eQ ns k=eQ ms k:=by
 induction h with
 | nil=>rfl
 | cons p _ ih=>rw [cnt_cons,cnt_cons,ih]
 | swap p q l=>rw [cnt_cons,cnt_cons,cnt_cons,cnt_cons]; omega
 | trans _ _ i1 i2=>rw [i1,i2]
theorem count_erase {k x:Int}:∀ {l:List Int} {i:Nat},l[i]? = some x->(l.count k:Int)=((l.eraseIdx i).count k:Int) + if x=k then 1 else 0
 | [],_,h=>by cases h
 | y :: l,0,h=>by
  have:y=x:=by simpa using h
  subst this
  rw [List.count_cons]
  show _=((l.count k:Nat):Int) + _
  by_cases e:y=k <;> simp [e]
 | y :: l,i + 1,h=>by
  have ih:=count_erase (k:=k) (l:=l) (i:=i) (by simpa using h)
  rw [List.count_cons]
  show _=(((y :: l.eraseIdx i).count k:Nat):Int) + _
  rw [List.count_cons]
  by_cases e:y=k <;> simp [e] at * <;> omega
theorem sW (a b k:Int):((nrm a b).count k:Int)=(if a=k then 1 else 0) + if b=k then 1 else 0:=by
 have h:∀ x y:Int,(([x,y]:List Int).count k:Int)=(if x=k then 1 else 0) + if y=k then 1 else 0:=fun x y=>by
  rw [List.count_cons,List.count_cons,List.count_nil]
  by_cases h1:x=k <;> by_cases h2:y=k <;> simp [h1,h2]
 unfold nrm mnI mxI
 rw [h]
 by_cases c:b < a
 ·have e1:(if b < a then b else a)=b:=if_pos c
  have e2:(if b > a then b else a)=a:=if_neg (by omega)
  rw [e1,e2]
  exact Int.add_comm _ _
 ·have e1:(if b < a then b else a)=a:=if_neg c
  have e2:(if b > a then b else a)=b:=by split <;> omega
  rw [e1,e2]
theorem xk {a b m:Int} (a0:0<=a) (am:a < m) (b0:0<=b) (bm:b < m):∃ x y:Int,nrm a b=[x,y]/\0<=x/\x<=y/\y < m:=by
 refine ⟨mnI a b,mxI a b,rfl,?_,?_,?_⟩ <;> (try unfold mnI) <;> (try unfold mxI) <;> (repeat' split) <;> omega
structure TI (m:Nat) (es:List Int) (us:List (Addr × List Int)):Prop where
 rng:∀ e ∈ es,0<=e/\e < (m:Int)
 ev:es.length % 2=0
 le:es.length + 2 * us.length=3 * m
 cnt:∀ k:Int,0<=k->k < m->(es.count k:Int) + eQ (us.map (·.2)) k=3
 pr:∀ u ∈ us,∃ x y:Int,u.2=[x,y]/\0<=x/\x<=y/\y < (m:Int)
theorem lY {k:Int}:∀ {l:List Int},l.Nodup->k ∈ l->l.count k=1
 | [],_,h=>by cases h
 | x :: l,nd,h=>by
  obtain ⟨n1,n2⟩:=List.nodup_cons.mp nd
  rw [List.count_cons]
  by_cases e:x=k
  ·subst e
   rw [List.count_eq_zero.mpr n1]
   simp
  ·rcases List.mem_cons.mp h with z | z
   ·exact absurd z.symm e
   ·rw [lY n2 z]
    simp [e]
theorem kG {m:Nat} {out:List Int} (p:out.Perm (List.replicate 3 (rgI m)).flatten):(∀ e ∈ out,0<=e/\e < (m:Int))/\out.length=3 * m/\∀ k:Int,0<=k->k < m->(out.count k:Int)=3:=by
 have e:(List.replicate 3 (rgI m)).flatten=rgI m ++ (rgI m ++ (rgI m ++ [])):=rfl
 rw [e] at p
 refine ⟨fun x hx => ?_,?_,fun k k0 km => ?_⟩
 ·have:=p.mem_iff.mp hx
  simp at this
  exact aZ.mp this
 ·rw [p.length_eq]
  simp [cS]
  omega
 ·have c1:(rgI m).count k=1:=lY (bS m) (aZ.mpr ⟨k0,km⟩)
  rw [p.count_eq,List.count_append,List.count_append,List.count_append,c1,List.count_nil]
  rfl
theorem vF (m:Nat):(List.replicate 3 ((rgI m).map V.int)).flatten=((List.replicate 3 (rgI m)).flatten).map V.int:=by
 show (rgI m).map V.int ++ ((rgI m).map V.int ++ ((rgI m).map V.int ++ []))=(rgI m ++ (rgI m ++ (rgI m ++ []))).map V.int
 simp
def xo (H:Hp) (y:Addr):Nat:=match H y with | some (.lst xs)=>xs.length | _=>0
section
variable {P:Program} {w:World} {K:PySem.W.Frag} {mg:Str->Option Value} {base:Heap} {f T:Addr} {fd:FuncData}
theorem fQ (m:Nat):((List.range m).map fun i=>V.int (i:Nat))=(rgI m).map V.int:=by unfold rgI; rw [List.map_map]; rfl
theorem dR:aK ["pot", "most", "many", "ends", "ties", "a", "b"] ["pot", "most"] (ak qU):=⟨rfl,rfl,rfl,by decide +kernel,rfl,by decide +kernel,by decide +kernel⟩
theorem vG (F:Fun K "_law_threes" "_law_threes" qU f fd) (B:Blt mg) (mso:mg "sorted" = none) (mx:mg "max" = none) (mn:mg "min" = none) (C:Cal P w K mg base 1 "_law_pick" ["pot", "many"] eI):bE P w K mg base CX0 2 f fd ["pot", "most"] fu:=by
 refine F.ok dR (fun vs H Q E h => ?_) (fun cdv A outer s H vs Q E hr h => ?_)
 ·obtain ⟨_,_,rfl,_⟩:=eJ.mp h
  rfl
 obtain ⟨p,most,rfl,hp,h0,h4,q⟩:=eJ.mp h
 refine ⟨_,aj (aA (i:=2) dR.nd rfl (Or.inl rfl) (ay jw ah (aJ C hr (by decide) rfl (aa (pv 0) (aa (ay bJ (ay fJ (pv 1) ah) ah) ag)))))
  (aj (aA (i:=3) dR.nd rfl (Or.inl rfl) (av bY rfl mso bq (aa (ay yi (aE (eF hr.hd) rfl B.b_list PySem.Pv.boot_list (aa (aE du rfl B.b_range gY (aa (pv 2) ag)) ag)) ah) ag)))
  (aj (aA (i:=4) dR.nd rfl (Or.inl rfl) (bW ag))
  (aj (nE PassesOwn.never (aF (mU hr) (pv 3) (bW ag) (aX _))
   (aj (aA (i:=5) dR.nd rfl (Or.inl rfl) (tZ PySem.F.plainAttrs_list PySem.F.slot_list_pop PySem.F.type_list_pop uc (pv 3)))
   (aj (aA (i:=6) dR.nd rfl (Or.inl rfl) (eY PySem.F.plainAttrs_list PySem.F.slot_list_pop PySem.F.type_list_pop ud (pv 3) (aa (aJ C hr (by decide) rfl (aa (pv 0) (aa (av aG rfl B.b_len PySem.boot_len (aa (pv 3) ag)) ag))) ag)))
   (ao (bU (eY PySem.F.plainAttrs_list PySem.F.slot_list_append PySem.F.type_list_append cU (pv 4) (aa (dy (aa (av (iD rfl) rfl mn qe (aa (pv 5) (aa (pv 6) ag))) (aa (av (kN rfl) rfl mx vc (aa (pv 5) (aa (pv 6) ag))) ag))) ag)))))))
  (ao (aM (dy (aa (pv 2) (aa (aE bp rfl B.b_tuple PySem.Pv.boot_tuple (aa (av mG rfl mso bq (aa (pv 4) ag)) ag)) ag))))))))  ,?_⟩
 refine ⟨_,rfl,_,rfl,_,_,rfl,rfl,⟨by decide,by decide⟩,_,_,rfl,rfl,aR.mpr ⟨p,most / 2 + 1,rfl,hp,by omega,by omega,fun d H1 d0 d1 b1 => ?_⟩⟩
 obtain ⟨hh,rfl⟩:∃ n:Nat,d=n:=⟨d.toNat,by omega⟩
 refine ⟨_,_,rfl,rfl,.inl ⟨by decide,by decide⟩,?_⟩
 have em:(2:Int) * (hh:Int)=((2 * hh:Nat):Int):=by omega
 dsimp only
 rw [em]
 have hm:2 * hh<=40:=by omega
 have hev:(2 * hh) % 2=0:=by omega
 have q':∀ (b:Addr) (ts:List (Addr × List Int)) (H':Hp),But p H H'->Wb H' b ((2 * hh:Nat):Int) ts->q8 (ts.map (·.2)) (2 * hh)->Q (.ref b) H':=fun b ts H' h1 h2 h3=>q b hh ts H' h1 h2 hm h3
 clear q
 generalize 2 * hh=m at hm hev q' ⊢
 refine ⟨_,rfl,(m:Int),rfl,fun a ha=>⟨a,m,rfl,ae,by omega,fun l hl => ?_⟩⟩
 rw [fQ]
 have g1:=(af ha (.rng 0 (m:Int))).trans (af hl (.lst ((rgI m).map V.int)))
 refine ⟨l,3,_,rfl,rfl,ae,by decide,by decide,?_,fun l2 hl2 => ?_⟩
 ·rw [List.length_map,cS]
  exact small (by show m * 3<=1000; omega)
 have er:(List.replicate (3:Int).toNat ((rgI m).map V.int)).flatten=((List.replicate 3 (rgI m)).flatten).map V.int:=vF m
 rw [er]
 have g2:=g1.trans (af hl2 (.lst (((List.replicate 3 (rgI m)).flatten).map V.int)))
 refine ⟨l2,_,rfl,.inl (SqL.of ae),fun le out hle po ps => ?_⟩
 obtain ⟨o1,o2,o3⟩:=kG po
 have g3:=g2.trans (af hle (.lst (out.map V.int)))
 have hle1:H1 le=none:=g2.free hle
 refine ⟨(by show 0<=sizeLine; decide),fun lt hlt => ?_⟩
 have g4:=g3.trans (af hlt (.lst []))
 have hlt1:H1 lt=none:=g3.free hlt
 have nle:le ≠ lt:=au ae hlt
 have ele:=(af hlt (.lst [])) _ _ (show upd _ le (.lst (out.map V.int)) le=some (.lst (out.map V.int)) from ae)
 have elt:upd _ lt (.lst []) lt=some (.lst []):=ae (H:=upd (upd (upd (upd H1 a (.rng 0 (m:Int))) l (.lst ((rgI m).map V.int))) l2 (.lst (((List.replicate 3 (rgI m)).flatten).map V.int))) le (.lst (out.map V.int)))
 generalize upd (upd (upd (upd (upd H1 a (.rng 0 (m:Int))) l (.lst ((rgI m).map V.int))) l2 (.lst (((List.replicate 3 (rgI m)).flatten).map V.int))) le (.lst (out.map V.int))) lt (.lst [])=H2 at g4 ele elt ⊢
 have nlep:le ≠ p:=fun z=>by
  subst z
  obtain ⟨_,_,e⟩:=b1.pot
  rw [hle1] at e
  cases e
 have nltp:lt ≠ p:=fun z=>by
  subst z
  obtain ⟨_,_,e⟩:=b1.pot
  rw [hlt1] at e
  cases e
 have hle0:H le=none:=by
  cases e:H le with
  | none=>rfl
  | some o=>rw [b1.st _ _ nlep e] at hle1; cases hle1
 have hlt0:H lt=none:=by
  cases e:H lt with
  | none=>rfl
  | some o=>rw [b1.st _ _ nltp e] at hlt1; cases hlt1
 refine nF (fun σ H'=>∃ (es:List Int) (us:List (Addr × List Int)) (c5 c6:Option V),σ=[some (.ref p),some (.int most),some (.int m),some (.ref le),some (.ref lt),c5,c6]/\But p H H'/\H' le=some (.lst (es.map V.int))/\H' lt=some (.lst (us.map fun u => .ref u.1))/\(∀ u ∈ us,H' u.1=some (.tup (u.2.map V.int)))/\TI m es us) (fun _ H'=>xo H' le)
  ⟨out,[],none,none,rfl,b1.same g4,ele,elt,(fun u hu=>by cases hu),⟨o1,by omega,by rw [o2]; rfl,fun k k0 km=>by rw [o3 k k0 km]; rfl,(fun u hu=>by cases hu)⟩⟩ ?_ ?_
 ·rintro σ H3 ⟨es,us,c5,c6,rfl,b3,e3,t3,u3,I⟩
  refine ⟨_,rfl,(by show 0<=sizeLine; decide),fun z hz => ?_⟩
  have gz:=af hz (.lst [])
  have e4:=gz _ _ e3
  have t4:=gz _ _ t3
  have u4:∀ u ∈ us,upd H3 z (.lst []) u.1=some (.tup (u.2.map V.int)):=fun u hu=>gz _ _ (u3 u hu)
  have b4:=b3.same gz
  have z4:upd H3 z (.lst []) z=some (.lst (([]:List Int).map V.int)):=ae
  have mu:xo H3 le=es.length:=by unfold xo; rw [e3]; simp
  generalize upd H3 z (.lst [])=H4 at e4 t4 u4 b4 z4
  refine ⟨le,z,es,[],rfl,rfl,SqL.of e4,SqL.of z4,_,rfl,bC (fun c => ?_) (fun c => ?_)⟩
  ·have ne:es ≠ []:=by simpa using c
   rcases List.eq_nil_or_concat es with hY | ⟨es',x,hY⟩
   ·exact absurd hY ne
   rw [List.concat_eq_append] at hY
   subst hY
   have l1:(es' ++ [x]).length=es'.length + 1:=by rw [List.length_append]; rfl
   have iv:=I.ev
   have il:=I.le
   rw [l1] at iv il
   refine ⟨_,rfl,.inl ⟨rfl,_,SqL.of e4⟩,le,_,.int x,rfl,rfl,e4,?_,?_⟩
   ·rw [List.length_map,l1,List.map_append]
    show (es'.map V.int ++ [V.int x])[es'.length + 1 - 1]? = _
    rw [Nat.add_sub_cancel,List.getElem?_append_right (by rw [List.length_map]; exact Nat.le_refl _),List.length_map,Nat.sub_self]
    rfl
   have ed:((es' ++ [x]).map V.int).dropLast=es'.map V.int:=by rw [List.map_append]; exact List.dropLast_concat
   rw [ed]
   have b5:=b4.iQ hle0 nlep (.lst (es'.map V.int))
   have e5:upd H4 le (.lst (es'.map V.int)) le=some (.lst (es'.map V.int)):=ae
   have t5:upd H4 le (.lst (es'.map V.int)) lt=some (.lst (us.map fun u => .ref u.1)):=by rw [aq nle.symm]; exact t4
   have u5:∀ u ∈ us,upd H4 le (.lst (es'.map V.int)) u.1=some (.tup (u.2.map V.int)):=fun u hu=>by
    rw [aq (eN (u4 u hu) e4 (by intro z; cases z))]
    exact u4 u hu
   generalize upd H4 le (.lst (es'.map V.int))=H5 at b5 e5 t5 u5
   refine ⟨_,rfl,.inl ⟨rfl,_,SqL.of e5⟩,_,rfl,_,rfl,le,_,rfl,.inl (SqL.of e5),aR.mpr ⟨p,_,rfl,b5.pot,by rw [List.length_map]; omega,by rw [List.length_map]; omega,fun d H6 d0 d1 b6 => ?_⟩⟩
   rw [List.length_map] at d1
   have e6:=b6.st _ _ nlep e5
   have t6:=b6.st _ _ nltp t5
   have u6:∀ u ∈ us,H6 u.1=some (.tup (u.2.map V.int)):=fun u hu=>b6.tup b5.pot (u5 u hu)
   obtain ⟨i,rfl⟩:∃ n:Nat,d=n:=⟨d.toNat,by omega⟩
   obtain ⟨y,ey⟩:∃ y,es'[i]? = some y:=⟨_,List.getElem?_eq_getElem (show i < es'.length by omega)⟩
   refine ⟨le,_,(i:Int),i,.int y,rfl,rfl,e6,by omega,by omega,?_,by rw [List.getElem?_map,ey]; rfl,?_⟩
   ·refine (mB (n:=(es'.map V.int).length) (i:=(i:Int)) (j:=i) ?_).1
    unfold ixN
    rw [if_pos (by omega),if_pos (by rw [List.length_map]; omega)]
    rfl
   have ee:(es'.map V.int).eraseIdx i=(es'.eraseIdx i).map V.int:=by
    have g:∀ (l:List Int) (n:Nat),(l.map V.int).eraseIdx n=(l.eraseIdx n).map V.int:=by
     intro l
     induction l with
     | nil=>intro n; rfl
     | cons a l ih =>
      intro n
      cases n with
      | zero=>rfl
      | succ n=>show V.int a :: _=V.int a :: _; rw [ih n]
    exact g es' i
   rw [ee]
   have b7:=(b5.trans b6).iQ hle0 nlep (.lst ((es'.eraseIdx i).map V.int))
   have e7:upd H6 le (.lst ((es'.eraseIdx i).map V.int)) le=some (.lst ((es'.eraseIdx i).map V.int)):=ae
   have t7:upd H6 le (.lst ((es'.eraseIdx i).map V.int)) lt=some (.lst (us.map fun u => .ref u.1)):=by rw [aq nle.symm]; exact t6
   have u7:∀ u ∈ us,upd H6 le (.lst ((es'.eraseIdx i).map V.int)) u.1=some (.tup (u.2.map V.int)):=fun u hu=>by
    rw [aq (eN (u6 u hu) e6 (by intro z; cases z))]
    exact u6 u hu
   generalize upd H6 le (.lst ((es'.eraseIdx i).map V.int))=H7 at b7 e7 t7 u7
   refine ⟨_,rfl,.inl ⟨rfl,_,SqL.of t7⟩,_,rfl,_,rfl,_,_,rfl,_,rfl,_,rfl,_,_,rfl,(by show 2<=sizeLine; decide),fun tn htn => ?_⟩
   have en:([V.int (if y < x then y else x),V.int (if y > x then y else x)]:List V)=(nrm x y).map V.int:=rfl
   rw [en]
   have gn:=af htn (.tup ((nrm x y).map V.int))
   refine ⟨lt,_,.ref tn,rfl,rfl,gn _ _ t7,?_,?_⟩
   ·rw [List.length_map]
    have:us.length<=100:=by omega
    exact Nat.lt_of_le_of_lt this (bh (by omega))
   have rx:=I.rng x (by simp)
   have ry:=I.rng y (by simp; exact .inl (List.mem_of_getElem? ey))
   have nlt:tn ≠ lt:=fun z=>by rw [z,t7] at htn; cases htn
   have nlE:tn ≠ le:=fun z=>by rw [z,e7] at htn; cases htn
   refine ⟨⟨es'.eraseIdx i,us ++ [(tn,nrm x y)],_,_,rfl,(b7.same gn).iQ hlt0 nltp _,?_,?_,fun u hu => ?_,⟨fun e he => ?_,?_,?_,fun k k0 km => ?_,fun u hu => ?_⟩⟩,?_⟩
   ·rw [aq nle]; exact gn _ _ e7
   ·rw [ae,List.map_append]; rfl
   ·rcases List.mem_append.mp hu with z | z
    ·rw [aq (eN (gn _ _ (u7 u z)) (gn _ _ t7) (by intro z; cases z))]
     exact gn _ _ (u7 u z)
    ·have:u=(tn,nrm x y):=by simpa using z
     subst this
     rw [aq nlt]
     exact ae
   ·exact I.rng e (by simp; exact .inl (List.mem_of_mem_eraseIdx he))
   ·rw [List.length_eraseIdx_of_lt (by omega)]; omega
   ·rw [List.length_eraseIdx_of_lt (by omega),List.length_append]
    show es'.length - 1 + 2 * (us.length + 1)=3 * m
    omega
   ·have hc:=I.cnt k k0 km
    have h1:=count_erase (k:=k) ey
    rw [List.count_append] at hc
    have h2:(([x]:List Int).count k:Int)=if x=k then 1 else 0:=by
     rw [List.count_cons,List.count_nil]
     by_cases e:x=k <;> simp [e]
    rw [List.map_append]
    show _ + eQ (us.map (·.2) ++ [nrm x y]) k=3
    rw [vD,sW]
    push_cast at hc
    omega
   ·rcases List.mem_append.mp hu with z | z
    ·exact I.pr u z
    ·have:u=(tn,nrm x y):=by simpa using z
     subst this
     exact xk rx.1 rx.2 ry.1 ry.2
   ·rw [mu,l1]
    unfold xo
    rw [aq nle,gn _ _ e7]
    show ((es'.eraseIdx i).map V.int).length < _
    rw [List.length_map,List.length_eraseIdx_of_lt (by omega)]
    omega
  ·have e0:es=[]:=by simpa using c
   subst e0
   have il:=I.le
   have nn:∀ u ∈ us,u.2 ≠ []:=fun u hu z=>by
    obtain ⟨a,b,e,_⟩:=I.pr u hu
    rw [z] at e
    cases e
   refine ⟨_,rfl,_,rfl,lt,us,rfl,.inl (SqL.of t4),fun u hu=>⟨SqT.of (u4 u hu),nn u hu⟩,fun l5 out5 hl5 po5 ps5 => ?_⟩
   have h1:=af hl5 (.lst (out5.map fun t => .ref t.1))
   refine ⟨l5,_,rfl,.inl ⟨SqL.of ae,fun l6 hl6=>⟨(by show 2<=sizeLine; decide),fun b hb => ?_⟩⟩⟩
   have h2:=af hl6 (.tup (out5.map fun t => .ref t.1))
   have h3:=af hb (.tup [.int (m:Int),.ref l6])
   have hh:=(h1.trans h2).trans h3
   refine q' b out5 _ (b4.same hh) ⟨⟨l6,ae,h3 _ _ ae⟩,fun u hu=>hh _ _ (u4 u (po5.mem_iff.mp hu)),fun u hu=>I.pr u (po5.mem_iff.mp hu),?_⟩ fun k k0 km => ?_
   ·rw [po5.length_eq]
    have:us.length<=200:=by
     have:0 + 2 * us.length=3 * m:=il
     omega
    exact this
   ·rw [vE (po5.map (·.2))]
    have:=I.cnt k k0 km
    have z:(([]:List Int).count k:Int)=0:=rfl
    omega
 ·rintro σ H' Q1 Q2 hQ ⟨v,e1,l0,r⟩
  refine ⟨v,e1,l0,fun z hz => ?_⟩
  obtain ⟨a,b,ns,ms,x1,x2,x3,x4,b2,x5,x6⟩:=r z hz
  exact ⟨a,b,ns,ms,x1,x2,x3,x4,b2,x5,hQ _ _ x6⟩
end
open PySem L2
theorem ni {K:PySem.W.Frag} {a:Addr} {xs:List V} {g:TG} {tb:TS} {D:Ends} {σ:St} {H:Hp} (Pv:Nat->St->Hp->Prop) (hp:H a=some (.lst xs)\/H a=some (.tup xs)) (h0:Pv 0 σ H) (hl:∀ i σ H',Pv i σ H'->H' a=H a)
  (hs:∀ i x σ H,xs[i]? = some x->Pv i σ H->g x σ H fun σ2 H2=>tb { D with nx:=Pv (i + 1),ct:=Pv (i + 1),bk:=D.nx } σ2 H2) (hd:∀ σ H,Pv xs.length σ H->D.nx σ H) :
  ((∃ xs,SqL K H a xs)/\zA (Itl K a) g tb D σ H)\/((∃ xs,SqT K H a xs)/\zA (Itt K a) g tb D σ H):=by
 rcases hp with hp | hp
 ·exact .inl ⟨⟨_,SqL.of hp⟩,cz Pv h0 (fun i σ H' _ z=>SqL.of ((hl i σ H' z).trans hp)) hs hd⟩
 ·exact .inr ⟨⟨_,SqT.of hp⟩,qt Pv h0 (fun i σ H' _ z=>SqT.of ((hl i σ H' z).trans hp)) hs hd⟩
def cg (P:List Int) (L:List Int):List (Key × V):=P.map fun v=>(Sum.inl v,V.int (gt L v))
theorem kg (P L:List Int):(cg P L).length=P.length:=by unfold cg; rw [List.length_map]
theorem ia (L:List Int) (a:Int):∀ P:List Int,eS (cg P L) (Sum.inl a)=if a ∈ P then some (.int (gt L a)) else none
 | []=>rfl
 | v :: P=>by
  have ih:=ia L a P
  unfold cg eS at ih ⊢
  rw [List.map_cons,List.find?_cons]
  by_cases e:v=a
  ·subst e
   simp
  ·have e':(Sum.inl v:Key) ≠ Sum.inl a:=fun z=>e (Sum.inl.inj z)
   simp only [decide_eq_false e']
   rw [ih]
   by_cases h:a ∈ P
   ·rw [if_pos h,if_pos (List.mem_cons_of_mem _ h)]
   ·rw [if_neg h,if_neg (by rw [List.mem_cons]; intro z; rcases z with z | z; exact e z.symm; exact h z)]
theorem oQ {P L:List Int} {a x:Int} (h:a ∈ P) (hr:∀ v ∈ P,0<=v/\v < (L.length:Int)):putK (cg P L) (Sum.inl a) (.int x)=cg P (L.set a.toNat x):=by
 unfold putK
 have hk:((cg P L).any fun kv=>decide (kv.1=(Sum.inl a:Key)))=true:=by
  rw [List.any_eq_true]
  exact ⟨(Sum.inl a,.int (gt L a)),List.mem_map.mpr ⟨a,h,rfl⟩,decide_eq_true rfl⟩
 rw [if_pos hk]
 unfold cg
 rw [List.map_map]
 refine List.map_congr_left fun v hv => ?_
 have ra:=hr a h
 have rv:=hr v hv
 show (if (Sum.inl v:Key)=Sum.inl a then (Sum.inl v,V.int x) else (Sum.inl v,V.int (gt L v)))=(Sum.inl v,V.int (gt (L.set a.toNat x) v))
 rw [qg ra rv.1]
 by_cases e:v=a
 ·subst e
  rw [if_pos rfl,if_pos rfl]
 ·rw [if_neg (fun z=>e (Sum.inl.inj z)),if_neg e]
theorem vH {P L:List Int} {v:Int} (h:v ∉ P) (x:Int) (e:gt L v=x):putK (cg P L) (Sum.inl v) (.int x)=cg (P ++ [v]) L:=by
 unfold putK
 have hk:¬ ((cg P L).any fun kv=>decide (kv.1=(Sum.inl v:Key)))=true:=by
  rw [List.any_eq_true]
  rintro ⟨kv,hkv,z⟩
  obtain ⟨u,hu,rfl⟩:=List.mem_map.mp hkv
  have:=of_decide_eq_true z
  exact h (Sum.inl.inj this ▸ hu)
 rw [if_neg hk]
 unfold cg
 rw [List.map_append, <- e]
 rfl
abbrev lZ:Sp:=fun vs H Q _=>∃ (x:Int) (t p:Addr) (m:Nat) (ts:List (Addr × List Int)) (R:List Int),vs=[.int x,.ref t,.ref p]/\(H t=some (.lst (ts.map fun u => .ref u.1))\/H t=some (.tup (ts.map fun u => .ref u.1)))/\(∀ u ∈ ts,H u.1=some (.tup (u.2.map V.int)))/\Ok m (ts.map (·.2))/\m<=400/\(H p=some (.lst (R.map V.int))\/H p=some (.tup (R.map V.int)))/\di m R ∧
 ∀ (d:Addr) (H':Hp),aL H H'->H d=none->H' d=some (.dK (cg R (rounds (Sub (ts.map (·.2)) R) R.length (rgI m))))->Q (.ref d) H'
@[irreducible] def dS:Sp:=lZ
theorem cT {vs:List V} {H:Hp} {Q:VK} {E:XK}:dS vs H Q E ↔ lZ vs H Q E:=by
 delta dS
 exact Iff.rfl
abbrev oR:Sp:=fun vs H Q _=>∃ (r p:Addr) (m:Nat) (ts:List (Addr × List Int)) (R:List Int),vs=[.ref r,.ref p]/\Wb H r m ts/\m<=250/\H p=some (.tup (R.map V.int))/\di m R/\∀ H',aL H H'->Q (.int (trees (ts.map (·.2)) m R:Nat)) H'
@[irreducible] def ib:Sp:=oR
theorem fv {vs:List V} {H:Hp} {Q:VK} {E:XK}:ib vs H Q E ↔ oR vs H Q E:=by
 delta ib
 exact Iff.rfl
section
variable {P:Program} {w:World} {K:PySem.W.Frag} {mg:Str->Option Value} {base:Heap} {f T:Addr} {fd:FuncData}
theorem dk:aK ["many", "ties", "places", "first", "place", "turn", "a", "b", "least"] ["many", "ties", "places"] (ak mY):=⟨rfl,rfl,rfl,by decide +kernel,rfl,by decide +kernel,by decide +kernel⟩
theorem vI (F:Fun K "_law_joined" "_law_joined" mY f fd) (B:Blt mg) (mn:mg "min" = none):bE P w K mg base CX0 1 f fd ["many", "ties", "places"] dS:=by
 refine F.ok dk (fun vs H Q E h => ?_) (fun cdv A outer s H vs Q E hr h => ?_)
 ·obtain ⟨_,_,_,_,_,_,rfl,_⟩:=cT.mp h
  rfl
 obtain ⟨x,t,p,m,ts,R,rfl,ht,htu,O,m4,hp,S,q⟩:=cT.mp h
 have hu:(kr CX0 P w K mg base ["many", "ties", "places", "first", "place", "turn", "a", "b", "least"] "_law_joined" (ak mY) f cdv A outer s H E).nox.A.units + 1 < cLine:=nJ hr
 have lR:=h9 S
 refine ⟨_,aj (aA (i:=3) dk.nd rfl (Or.inl rfl) oy)
  (aj (bV PassesOwn.never rfl (mH (pv 2)) (aB (i:=4) dk.nd rfl (Or.inl rfl)) (ao (gS hu (pv 3) (pv 4) (pv 4) rfl)))
  (aj (bV PassesOwn.never rfl (cj rfl B.b_range (aa (av aG rfl B.b_len PySem.boot_len (aa (pv 2) ag)) ag)) (aB (i:=5) dk.nd rfl (Or.inl rfl))
   (ao (bV PassesOwn.never rfl (mH (pv 1)) (tO rfl (gA (aB (i:=6) dk.nd rfl (Or.inl rfl)) (gA (aB (i:=7) dk.nd rfl (Or.inl rfl)) qq)))
    (ao (bD (PW.pt (js (mz (uM hu (pv 6) (pv 3))) (gy (mz (uM hu (pv 7) (pv 3))))))
     (aj (aA (i:=8) dk.nd rfl (Or.inl rfl) (av (iD rfl) rfl mn qe (aa (gR hu (pv 3) (pv 6) (fun _ _=>rfl)) (aa (gR hu (pv 3) (pv 7) (fun _ _=>rfl)) ag))))
     (aj (gS hu (pv 3) (pv 6) (pv 8) rfl) (ao (gS hu (pv 3) (pv 7) (pv 8) rfl)))) aU)))))
  (ao (aM (pv 3))))),?_⟩
 intro d hd
 have g0:=af hd (.dK [])
 have ed0:upd H d (.dK []) d=some (.dK (cg (R.take 0) (rgI m))):=ae
 generalize upd H d (.dK [])=H1 at g0 ed0
 refine ⟨_,rfl,p,rfl,ni (xs:=R.map V.int) (fun i σ H'=>(∃ c4 c5 c6 c7 c8,σ=[some (.int x),some (.ref t),some (.ref p),some (.ref d),c4,c5,c6,c7,c8])/\aL H H'/\H' d=some (.dK (cg (R.take i) (rgI m)))) (hp.imp (g0 _ _) (g0 _ _)) ⟨⟨_,_,_,_,_,rfl⟩,g0,ed0⟩ (fun i σ H' z=>by rcases hp with y | y <;> rw [z.2.1 _ _ y,g0 _ _ y]) ?_ ?_⟩
 ·rintro i v σ H2 hv ⟨⟨c4,c5,c6,c7,c8,rfl⟩,s2,e2⟩
  rw [List.getElem?_map] at hv
  cases ev:R[i]? with
  | none=>rw [ev] at hv; cases hv
  | some u =>
   rw [ev] at hv
   have:V.int u=v:=Option.some.inj hv
   subst this
   have li:i < R.length:=(List.getElem?_eq_some_iff.mp ev).1
   have nu:u ∉ R.take i:=fun z=>by
    obtain ⟨j,hj,ej⟩:=List.getElem_of_mem z
    rw [List.length_take] at hj
    rw [List.getElem_take] at ej
    have h1:R[i]=u:=by
     have:=List.getElem?_eq_some_iff.mp ev
     exact this.2
    have:=List.pairwise_iff_getElem.mp S.nd j i (by omega) li (by omega)
    exact this (ej.trans h1.symm)
   have ru:=S.rng u (List.mem_of_getElem? ev)
   refine ⟨_,rfl,_,rfl,_,rfl,d,_,rfl,mO.k (k:=Sum.inl u) e2 (by rw [kg]; exact Nat.lt_of_le_of_lt (List.length_take_le _ _) (bh (by omega))),⟨_,_,_,_,_,rfl⟩,fun b o e => ?_,?_⟩
   ·rw [aq (au e hd)]; exact s2 _ _ e
   ·rw [ae,vH nu u (vz ru.1 ru.2),List.take_add_one,ev]
    rfl
 rintro σ H2 ⟨⟨c4,c5,c6,c7,c8,rfl⟩,s2,e2⟩
 rw [List.length_map,List.take_of_length_le (Nat.le_refl _)] at e2
 refine ⟨_,rfl,p,_,rfl,(hp.imp (fun y=>SqL.of (s2 _ _ y)) (fun y=>SqT.of (s2 _ _ y))),((R.map V.int).length:Int),rfl,by omega,by rw [List.length_map]; omega,iA (fun k σ H'=>(∃ c4 c5 c6 c7 c8,σ=[some (.int x),some (.ref t),some (.ref p),some (.ref d),c4,c5,c6,c7,c8])/\aL H H'/\H' d=some (.dK (cg R (rounds (Sub (ts.map (·.2)) R) k (rgI m))))) ⟨⟨_,_,_,_,_,rfl⟩,s2,e2⟩ ?_ ?_⟩
 ·rintro k σ H3 hk ⟨⟨c4,c5,c6,c7,c8,rfl⟩,s3,e3⟩
  have labk:=eE (iP O R) (yN (Sub (ts.map (·.2)) R) m) k
  have e3':H3 d=some (.dK (cg R ((((ts.take 0).map (·.2)).filter (both R)).foldl lower (rounds (Sub (ts.map (·.2)) R) k (rgI m))))):=e3
  refine ⟨_,rfl,t,rfl,ni (xs:=ts.map fun u => .ref u.1) (fun j σ H4=>(∃ c4 c5 c6 c7 c8,σ=[some (.int x),some (.ref t),some (.ref p),some (.ref d),c4,c5,c6,c7,c8])/\aL H H4/\H4 d=some (.dK (cg R ((((ts.take j).map (·.2)).filter (both R)).foldl lower (rounds (Sub (ts.map (·.2)) R) k (rgI m)))))) (ht.imp (s3 _ _) (s3 _ _)) ⟨⟨_,_,_,_,_,rfl⟩,s3,e3'⟩ (fun j σ H4 z=>by rcases ht with y | y <;> rw [z.2.1 _ _ y,s3 _ _ y]) ?_ ?_⟩
  ·rintro j v σ H4 hv ⟨⟨c4,c5,c6,c7,c8,rfl⟩,s4,e4⟩
   obtain ⟨u,eu,rfl⟩:=item hv
   have mu:=List.mem_of_getElem? eu
   have hu4:=s4 _ _ (htu u mu)
   obtain ⟨a,b,e5,a0,ab,bm⟩:=O u.2 (List.mem_map_of_mem mu)
   rw [e5] at hu4
   have tk:(ts.take (j + 1)).map (·.2)=(ts.take j).map (·.2) ++ [[a,b]]:=by rw [take_snoc (f:=fun u:Addr × List Int=>u.2) eu,e5]
   have labj:Lab (Sub (ts.map (·.2)) R) m ((((ts.take j).map (·.2)).filter (both R)).foldl lower (rounds (Sub (ts.map (·.2)) R) k (rgI m))):=iN (iP O R) _ _ (fun c hc=>by
    obtain ⟨h1,h2⟩:=List.mem_filter.mp hc
    obtain ⟨y,hy,rfl⟩:=List.mem_map.mp h1
    exact List.mem_filter.mpr ⟨List.mem_map_of_mem (List.mem_of_mem_take hy),h2⟩) labk
   have fin:((((ts.take (j + 1)).map (·.2)).filter (both R)).foldl lower (rounds (Sub (ts.map (·.2)) R) k (rgI m)))=if a ∈ R/\b ∈ R then lower ((((ts.take j).map (·.2)).filter (both R)).foldl lower (rounds (Sub (ts.map (·.2)) R) k (rgI m))) [a,b] else ((((ts.take j).map (·.2)).filter (both R)).foldl lower (rounds (Sub (ts.map (·.2)) R) k (rgI m))):=by
    rw [tk,List.filter_append,List.foldl_append]
    have bb:both R [a,b]=(decide (a ∈ R) && decide (b ∈ R)):=rfl
    by_cases c:a ∈ R/\b ∈ R
    ·rw [if_pos c,List.filter_cons_of_pos (by rw [bb,decide_eq_true c.1,decide_eq_true c.2]; rfl)]
     rfl
    ·rw [if_neg c,List.filter_cons_of_neg (by rw [bb,Bool.and_eq_true,decide_eq_true_iff,decide_eq_true_iff]; exact c)]
     rfl
   generalize ((((ts.take j).map (·.2)).filter (both R)).foldl lower (rounds (Sub (ts.map (·.2)) R) k (rgI m)))=L at labj e4 fin
   refine ⟨u.1,_,rfl,SqT.of hu4,rfl,_,_,rfl,_,_,rfl,rfl,?_⟩
   have va:∀ y:Int,dI H4 d (.int y) (if y ∈ R then some (.int (gt L y)) else none):=fun y=>by
    have:=dI.k (k:=Sum.inl y) e4
    rw [ia] at this
    exact this
   refine ⟨_,rfl,_,rfl,d,_,rfl,va a,_,rfl,?_⟩
   by_cases ca:a ∈ R
   ·rw [if_pos ca]
    refine bT ⟨_,rfl,_,rfl,d,_,rfl,va b,_,rfl,?_⟩
    by_cases cb:b ∈ R
    ·rw [if_pos cb]
     have va':dI H4 d (.int a) (some (.int (gt L a))):=by have:=va a; rwa [if_pos ca] at this
     have vb':dI H4 d (.int b) (some (.int (gt L b))):=by have:=va b; rwa [if_pos cb] at this
     refine bT ⟨_,rfl,_,rfl,d,_,rfl,va',_,rfl,_,rfl,d,_,rfl,vb',_,_,rfl,?_⟩
     have em:(if gt L b < gt L a then gt L b else gt L a)=mnI (gt L a) (gt L b):=rfl
     rw [em]
     have rr:∀ v ∈ R,0<=v/\v < (L.length:Int):=fun v hv=>by rw [labj.len]; exact S.rng v hv
     have lz:(cg R L).length < sizeLine:=by rw [kg]; exact bh (by omega)
     have p1:=mO.k (v := .int (mnI (gt L a) (gt L b))) (k:=Sum.inl a) e4 lz
     rw [oQ ca rr] at p1
     refine ⟨_,rfl,_,rfl,_,rfl,d,_,rfl,p1,?_⟩
     have p2:=mO.k (v := .int (mnI (gt L a) (gt L b))) (k:=Sum.inl b) (H:=upd H4 d (.dK (cg R (L.set a.toNat (mnI (gt L a) (gt L b)))))) ae (by rw [kg]; exact bh (by omega))
     rw [oQ cb (fun v hv=>by rw [List.length_set]; exact rr v hv)] at p2
     refine ⟨_,rfl,_,rfl,_,rfl,d,_,rfl,p2,⟨_,_,_,_,_,rfl⟩,fun y o e => ?_,?_⟩
     ·rw [aq (au e hd),aq (au e hd)]; exact s4 _ _ e
     ·rw [ae,fin,if_pos ⟨ca,cb⟩]
      rfl
    ·rw [if_neg cb]
     refine cY ⟨⟨_,_,_,_,_,rfl⟩,s4,?_⟩
     rw [e4,fin,if_neg (fun z=>cb z.2)]
   ·rw [if_neg ca]
    refine cY (cY ⟨⟨_,_,_,_,_,rfl⟩,s4,?_⟩)
    rw [e4,fin,if_neg (fun z=>ca z.1)]
  ·rintro σ H4 ⟨⟨c4,c5,c6,c7,c8,rfl⟩,s4,e4⟩
   rw [List.length_map,List.take_of_length_le (Nat.le_refl _)] at e4
   exact ⟨⟨_,_,_,_,_,rfl⟩,s4,e4⟩
 ·rintro σ H3 ⟨⟨c4,c5,c6,c7,c8,rfl⟩,s3,e3⟩
  rw [Int.toNat_natCast,List.length_map] at e3
  exact ⟨_,rfl,q d H3 s3 hd e3⟩
theorem zN:(["place", "first"]:List Str).Nodup:=by decide +kernel
theorem rb:aK ["web", "places", "first"] ["web", "places"] (ak qf):=⟨rfl,rfl,rfl,by decide +kernel,rfl,by decide +kernel,by decide +kernel⟩
theorem xp (F:Fun K "_law_trees" "_law_trees" qf f fd) (B:Blt mg) (mst:mg "set" = none) (cJ:Cal P w K mg base 1 "_law_joined" ["many", "ties", "places"] dS):bE P w K mg base CX0 2 f fd ["web", "places"] ib:=by
 refine F.ok rb (fun vs H Q E h => ?_) (fun cdv A outer s H vs Q E hr h => ?_)
 ·obtain ⟨_,_,_,_,_,rfl,_⟩:=fv.mp h
  rfl
 obtain ⟨r,p,m,ts,R,rfl,W,m4,hp,S,q⟩:=fv.mp h
 have hu:(kr CX0 P w K mg base ["web", "places", "first"] "_law_trees" (ak qf) f cdv A outer s H E).nox.A.units + 1 < cLine:=nJ hr
 obtain ⟨t,e1,e2⟩:=W.at'
 have O:=W.ok
 have lR:=h9 S
 refine ⟨_,aj (aA (i:=2) rb.nd rfl (Or.inr rfl) (aJ cJ hr (by decide) rfl (aa (aH aO (pv 0) ah (fun _ _=>rfl)) (aa (aH aO (pv 0) ah (fun _ _=>rfl)) (aa (pv 1) ag)))))
  (ao (aM (av oE rfl B.b_len PySem.boot_len (aa (aE (lI hr.hd) rfl mst PySem.Pv.boot_set (aa (bF ["place", "first"] [none,some 2] rfl (eV (pv 1)) rfl (fun _ _ _ _ _=>aB (i:=0) zN rfl (Or.inl rfl)) (fun _ _ _ _ _=>dz) (fun _ _ _ _ _=>gR hu (pv 1) (pv 0) (fun _ _=>rfl))) ag)) ag)))),?_⟩
 refine ⟨_,rfl,r,_,0,_,rfl,rfl,SqT.of e1,rfl,_,rfl,r,_,1,_,rfl,rfl,SqT.of e1,rfl,_,rfl,cT.mpr ⟨m,t,p,m,ts,R,rfl,.inr e2,W.tup,O,by omega,.inr hp,S,fun d H1 s1 _ ed => ?_⟩⟩
 refine ⟨_,rfl,p,rfl,⟨_,SqT.of (s1 _ _ hp)⟩,bQ (xs:=R.map V.int) (fun i ys H'=>H'=H1/\ys=((R.take i).map fun v=>gt (rounds (Sub (ts.map (·.2)) R) R.length (rgI m)) v).map V.int) ⟨rfl,rfl⟩ (by rw [List.length_map]; exact small (by omega)) (fun i ys H' _ k=>by rw [k.1]; exact SqT.of (s1 _ _ hp)) ?_ ?_⟩
 ·rintro i v ys H' hv hy ⟨rfl,rfl⟩ R1 R0 r1 r0
  rw [List.getElem?_map] at hv
  cases ev:R[i]? with
  | none=>rw [ev] at hv; cases hv
  | some u =>
   rw [ev] at hv
   have:V.int u=v:=Option.some.inj hv
   subst this
   have va:=dI.k (k:=Sum.inl u) ed
   rw [ia,if_pos (List.mem_of_getElem? ev)] at va
   refine bT ⟨_,rfl,_,rfl,d,_,rfl,va,r1 _ _ ⟨rfl,?_⟩⟩
   rw [List.take_add_one,ev,List.map_append,List.map_append]
   rfl
 rintro ys H' hy ⟨rfl,rfl⟩ l hl
 rw [List.length_map,List.take_of_length_le (Nat.le_refl _)]
 refine ⟨l,_,rfl,.inl (SqL.of ae),by rw [List.length_map]; omega,fun a us ha hm nd lu => ?_⟩
 rw [List.length_map] at lu
 refine ⟨a,_,rfl,ae,by rw [List.length_map]; omega,?_⟩
 rw [List.length_map,ng O S nd hm]
 exact q _ ((s1.trans (af hl _)).trans (af ha _))
end
open PySem L2
def gu (m:Nat) (R:List Int):List Int:=(rgI m).filter fun v => !decide (v ∈ R)
theorem fw {m:Nat} {R:List Int} {v:Int}:v ∈ gu m R ↔ (0<=v/\v < m)/\v ∉ R:=by
 unfold gu
 rw [List.mem_filter,aZ]
 simp
theorem sZ (m:Nat) (R:List Int):di m (gu m R):=⟨(bS m).filter _,fun v hv=>(fw.mp hv).1⟩
theorem vJ {m:Nat} {R:List Int} (S:di m R):(gu m R).length + R.length=m:=vB (sZ m R) S fun v v0 vm=>by
 rw [fw]
 exact ⟨fun h=>h.2,fun h=>⟨⟨v0,vm⟩,h⟩⟩
theorem sub_congr {m:Nat} {ns:List (List Int)} (O:Ok m ns) {A B:List Int} (h:∀ v:Int,0<=v->v < m->(v ∈ A ↔ v ∈ B)):Sub ns A=Sub ns B:=by
 unfold Sub
 refine List.filter_congr fun p hp => ?_
 obtain ⟨a,b,rfl,a0,ab,bm⟩:=O p hp
 have h1:=h a a0 (by omega)
 have h2:=h b (by omega) bm
 unfold both
 show (decide (a ∈ A) && decide (b ∈ A))=(decide (a ∈ B) && decide (b ∈ B))
 by_cases x:a ∈ B <;> by_cases y:b ∈ B <;> simp [x,y,h1,h2]
theorem tf {m:Nat} {R:List Int} {v:Int} (v0:0<=v) (vm:v < m):v ∈ gu m (gu m R) ↔ v ∈ R:=by
 rw [fw,fw]
 constructor
 ·rintro ⟨_,h⟩
  exact Classical.byContradiction fun z=>h ⟨⟨v0,vm⟩,z⟩
 ·intro h
  exact ⟨⟨v0,vm⟩,fun z=>z.2 h⟩
theorem vK {m:Nat} {ns:List (List Int)} (O:Ok m ns) (R:List Int):ns.filter (off R)=Sub ns (gu m R):=vA O fun v v0 vm=>by
 rw [fw]
 exact ⟨fun h=>h.2,fun h=>⟨⟨v0,vm⟩,h⟩⟩
theorem oS {m:Nat} {ns:List (List Int)} (O:Ok m ns) (R:List Int):ns.filter (off (gu m R))=Sub ns R:=by
 rw [vK O]
 exact sub_congr O fun v v0 vm=>tf v0 vm
theorem ma (R:List Int) (i:Nat):((rgI (i + 1)).filter fun v => !decide (v ∈ R))=((rgI i).filter fun v => !decide (v ∈ R)) ++ if (i:Int) ∈ R then [] else [(i:Int)]:=by
 have e:rgI (i + 1)=rgI i ++ [(i:Int)]:=by unfold rgI; rw [List.range_succ,List.map_append]; rfl
 rw [e,List.filter_append]
 congr 1
 by_cases h:(i:Int) ∈ R
 ·rw [if_pos h,List.filter_cons_of_neg (by simp [h])]; rfl
 ·rw [if_neg h,List.filter_cons_of_pos (by simp [h])]; rfl
abbrev oT:Sp:=fun vs H Q _=>∃ (r:Addr) (m:Nat) (ts:List (Addr × List Int)),vs=[.ref r]/\Wb H r m ts/\m<=250/\q8 (ts.map (·.2)) m/\∀ H',aL H H'->Q .non H'
@[irreducible] def ic:Sp:=oT
theorem fz {vs:List V} {H:Hp} {Q:VK} {E:XK}:ic vs H Q E ↔ oT vs H Q E:=by
 delta ic
 exact Iff.rfl
abbrev oU:Sp:=fun vs H Q _=>∃ (r p:Addr) (m:Nat) (ts:List (Addr × List Int)) (R:List Int),vs=[.ref r,.ref p]/\Wb H r m ts/\m<=250/\(H p=some (.lst (R.map V.int))\/H p=some (.tup (R.map V.int)))/\di m R/\∀ H',aL H H'->Q (.int (trees (ts.map (·.2)) m R:Nat)) H'
@[irreducible] def ie:Sp:=oU
theorem fA {vs:List V} {H:Hp} {Q:VK} {E:XK}:ie vs H Q E ↔ oU vs H Q E:=by
 delta ie
 exact Iff.rfl
section
variable {P:Program} {w:World} {K:PySem.W.Frag} {mg:Str->Option Value} {base:Heap} {f T:Addr} {fd:FuncData}
theorem ndPW:(["place", "web"]:List Str).Nodup:=by decide +kernel
theorem zO:(["place", "places"]:List Str).Nodup:=by decide +kernel
theorem xq:aK ["web"] ["web"] (ak vh):=⟨rfl,rfl,rfl,by decide +kernel,rfl,by decide +kernel,by decide +kernel⟩
theorem xr (F:Fun K "look_three" "look_three" vh f fd) (B:Blt mg) (mny:mg "any" = none) (cAt:Cal P w K mg base 1 "ties_at" ["web", "place"] vn):bE P w K mg base CX0 2 f fd ["web"] ic:=by
 refine F.ok xq (fun vs H Q E h => ?_) (fun cdv A outer s H vs Q E hr h => ?_)
 ·obtain ⟨_,_,_,rfl,_⟩:=fz.mp h
  rfl
 obtain ⟨r,m,ts,rfl,W,m4,cu,q⟩:=fz.mp h
 obtain ⟨t,e1,e2⟩:=W.at'
 refine ⟨_,ao (bD (jm (av (oD rfl) rfl mny vb (aa (bF ["place", "web"] [none,some 0] rfl (cj rfl B.b_range (aa (aH aO (pv 0) ah (fun _ _=>rfl)) ag)) rfl (fun _ _ _ _ _=>aB (i:=0) ndPW rfl (Or.inl rfl)) (fun _ _ _ _ _=>dz)
  (fun _ _ _ _ _=>jb nG (aJ cAt hr (by decide) rfl (aa (pv 1) (aa (pv 0) ag))) ah (aX _))) ag))) iy aU),?_⟩
 refine ⟨_,rfl,r,_,0,_,rfl,rfl,SqT.of e1,rfl,(m:Int),rfl,by omega,by omega,dt (fun i ys H'=>aL H H'/\ys=(List.replicate i false).map V.bl) ⟨aL.refl _,rfl⟩ (small (by omega)) ?_ ?_⟩
 ·rintro i ys H3 hi hy ⟨s3,rfl⟩ R1 R0 r1 r0
  refine bT ⟨_,rfl,_,rfl,j3.mpr ⟨r,m,0 + (i:Int),ts,rfl,W.same s3,fun H4 s4=>⟨rfl,r1 _ _ ⟨s3.trans s4,?_⟩⟩⟩⟩
  have hi':(i:Int) < m:=by omega
  rw [cu (0 + (i:Int)) (by omega) (by omega),List.replicate_succ',List.map_append]
  rfl
 rintro ys H3 hy ⟨s3,rfl⟩ l hl
 have hf:∀ n:Nat,(List.replicate n false).any id=false:=by
  intro n
  induction n with
  | zero=>rfl
  | succ n ih=>rw [List.replicate_succ,List.any_cons,ih]; rfl
 refine ⟨l,_,rfl,SqL.of ae,?_⟩
 rw [hf]
 exact ⟨_,rfl,cY (q _ (s3.trans (af hl _)))⟩
theorem rd:aK ["web", "places", "others"] ["web", "places"] (ak vi):=⟨rfl,rfl,rfl,by decide +kernel,rfl,by decide +kernel,by decide +kernel⟩
theorem xt (F:Fun K "parts_among" "parts_among" vi f fd) (B:Blt mg) (cCut:Cal P w K mg base 1 "cut_web" ["web", "places"] oN) (cHang:Cal P w K mg base 2 "hanging_parts" ["web"] j7):bE P w K mg base CX0 3 f fd ["web", "places"] ie:=by
 refine F.ok rd (fun vs H Q E h => ?_) (fun cdv A outer s H vs Q E hr h => ?_)
 ·obtain ⟨_,_,_,_,_,rfl,_⟩:=fA.mp h
  rfl
 obtain ⟨r,p,m,ts,R,rfl,W,m4,hp,S,q⟩:=fA.mp h
 obtain ⟨t,e1,e2⟩:=W.at'
 have O:=W.ok
 refine ⟨_,aj (gg (i:=2) ["place", "places"] [none,some 1] rfl rd.nd rfl rfl (cj rfl B.b_range (aa (aH aO (pv 0) ah (fun _ _=>rfl)) ag)) rfl (fun _ _ _ _ _=>aB (i:=0) zO rfl (Or.inl rfl))
   (fun _ _ _ _ _=>iG (aF (iH (K:=K)) (pv 0) (pv 1) rfl)) (fun _ _ _ _ _=>pv 0))
  (ao (aM (ay iB (av aG rfl B.b_len PySem.boot_len (aa (aJ cHang hr (by decide) rfl (aa (aJ cCut hr (by decide) rfl (aa (pv 0) (aa (pv 2) ag))) ag)) ag)) (av aG rfl B.b_len PySem.boot_len (aa (pv 2) ag))))),?_⟩
 refine ⟨_,rfl,r,_,0,_,rfl,rfl,SqT.of e1,rfl,(m:Int),rfl,by omega,by omega,dt (fun i ys H'=>H'=H/\ys=((rgI i).filter fun v => !decide (v ∈ R)).map V.int) ⟨rfl,rfl⟩ (small (by omega)) ?_ ?_⟩
 ·rintro i ys H3 hi hy ⟨rfl,rfl⟩ R1 R0 r1 r0
  have e0:(0 + (i:Int))=i:=by omega
  refine ⟨_,rfl,_,rfl,p,_,rfl,(hp.elim (fun z => .inl (SqL.of z)) (fun z => .inr (SqT.of z))),rfl,cq R,_,rfl,?_⟩
  show if (if true=true then !inV (.int (0 + (i:Int))) (R.map V.int) else _)=true then _ else _
  rw [if_pos rfl,cG,e0]
  by_cases h:(i:Int) ∈ R
  ·rw [decide_eq_true h]
   refine cY (r0 _ ⟨rfl,?_⟩)
   rw [ma,if_pos h,List.append_nil]
  ·rw [decide_eq_false h]
   refine bT ⟨_,rfl,r1 _ _ ⟨rfl,?_⟩⟩
   rw [ma,if_neg h,List.map_append]
   rfl
 rintro ys H3 hy ⟨rfl,rfl⟩ l hl
 have g1:=af hl (.lst ((gu m R).map V.int))
 have el:upd H3 l (.lst ((gu m R).map V.int)) l=some (.lst ((gu m R).map V.int)):=ae
 show (_:Prop)
 have eqH:upd H3 l (.lst (((rgI (m:Int).toNat).filter fun v => !decide (v ∈ R)).map V.int))=upd H3 l (.lst ((gu m R).map V.int)):=by rw [Int.toNat_natCast]; rfl
 rw [eqH]
 generalize upd H3 l (.lst ((gu m R).map V.int))=H4 at g1 el
 refine ⟨_,rfl,_,rfl,iO.mpr ⟨r,l,m,ts,gu m R,rfl,W.same g1,.inl el,fun z us H5 s5 W5 e5 => ?_⟩⟩
 rw [oS O] at e5
 refine gq.mpr ⟨z,m,us,rfl,W5,by omega,fun lh H6 oh s6 _ eh _ ph => ?_⟩
 rw [e5] at ph
 refine ⟨lh,_,rfl,.inl (SqL.of eh),_,rfl,l,_,rfl,.inl (SqL.of (s6 _ _ (s5 _ _ el))),_,_,rfl,rfl,?_⟩
 have l1:oh.length=(cf (Sub (ts.map (·.2)) R) m m).length:=by rw [<- ph,List.length_map]
 have l2:=oO O S
 have l3:=vJ S
 have ev:(((oh.map fun u=>V.ref u.1).length:Int) - (((gu m R).map V.int).length:Int))=((trees (ts.map (·.2)) m R:Nat):Int):=by
  rw [List.length_map,List.length_map]
  omega
 dsimp only
 rw [ev]
 exact q _ ((g1.trans s5).trans s6)
end
open PySem L2
def oth (A R:List Int):List Int:=A.filter fun v => !decide (v ∈ R)
structure Parts (m:Nat) (ps:List (List Int)):Prop where
 sm:∀ A ∈ ps,di m A/\A ≠ []
 flat:ps.flatten.Perm (rgI m)
theorem vL {m:Nat} {L ds:List Int} (nd:ds.Nodup) (hm:∀ x,x ∈ ds ↔ ∃ v,(0<=v/\v < (m:Int))/\gt L v=x):Parts m (ds.map fun x=>(rgI m).filter fun v=>decide (gt L v=x)):=by
 refine ⟨fun A hA => ?_,?_⟩
 ·obtain ⟨x,hx,rfl⟩:=List.mem_map.mp hA
  refine ⟨⟨(bS m).filter _,fun v hv=>aZ.mp (List.mem_filter.mp hv).1⟩,fun z => ?_⟩
  obtain ⟨v,hv,e⟩:=(hm x).mp hx
  have:v ∈ (rgI m).filter fun v=>decide (gt L v=x):=List.mem_filter.mpr ⟨aZ.mpr hv,decide_eq_true e⟩
  rw [z] at this
  cases this
 ·refine (List.perm_ext_iff_of_nodup ?_ (bS m)).mpr fun v => ?_
  ·show List.Pairwise _ _
   rw [List.pairwise_flatten]
   refine ⟨fun A hA => ?_,?_⟩
   ·obtain ⟨x,hx,rfl⟩:=List.mem_map.mp hA
    exact (bS m).filter _
   ·rw [List.pairwise_map]
    refine List.Pairwise.imp (fun {x y} hxy u hu v hv z => ?_) nd
    have h1:=of_decide_eq_true (List.mem_filter.mp hu).2
    have h2:=of_decide_eq_true (List.mem_filter.mp hv).2
    exact hxy (by rw [<- h1, <- h2,z])
  ·rw [List.mem_flatten]
   constructor
   ·rintro ⟨A,hA,hv⟩
    obtain ⟨x,hx,rfl⟩:=List.mem_map.mp hA
    exact (List.mem_filter.mp hv).1
   ·intro hv
    exact ⟨_,List.mem_map.mpr ⟨gt L v,(hm _).mpr ⟨v,aZ.mp hv,rfl⟩,rfl⟩,List.mem_filter.mpr ⟨hv,decide_eq_true rfl⟩⟩
open PySem L2
abbrev oV:Sp:=fun vs H Q _=>∃ (p l:Addr) (us:List (Addr × List Int)),vs=[.ref p,.ref l]/\Pot H p/\H l=some (.lst (us.map fun u => .ref u.1))/\us.length<=250/\∀ (z:Addr) (os:List (Addr × List Int)) (H':Hp),But p H H'->H z=none->H' z=some (.lst (os.map fun u => .ref u.1))->os.Perm us->Q (.ref z) H'
@[irreducible] def ig:Sp:=oV
theorem fB {vs:List V} {H:Hp} {Q:VK} {E:XK}:ig vs H Q E ↔ oV vs H Q E:=by
 delta ig
 exact Iff.rfl
abbrev kh:Sp:=fun vs H Q _=>∃ (p r:Addr) (m:Nat) (ts:List (Addr × List Int)),vs=[.ref p,.ref r]/\Pot H p/\Wb H r m ts/\m<=100/\∀ (z:Addr) (us:List (Addr × List Int)) (H':Hp),But p H H'->H z=none->H' z=some (.lst (us.map fun u => .ref u.1))->(∀ u ∈ us,H' u.1=some (.tup (u.2.map V.int)))->Parts m (us.map (·.2))->Q (.ref z) H'
@[irreducible] def dU:Sp:=kh
theorem dC {vs:List V} {H:Hp} {Q:VK} {E:XK}:dU vs H Q E ↔ kh vs H Q E:=by
 delta dU
 exact Iff.rfl
theorem i7:∀ {ps:List (List Int)},(∀ A ∈ ps,A ≠ [])->ps.length<=ps.flatten.length
 | [],_=>Nat.le_refl _
 | A :: ps,h=>by
  have ih:=i7 (ps:=ps) fun B hB=>h B (List.mem_cons_of_mem _ hB)
  have:=List.length_pos_iff.mpr (h A List.mem_cons_self)
  rw [List.flatten_cons,List.length_append,List.length_cons]
  omega
def Off (l:Addr) (H H':Hp):Prop:=∀ q o,q ≠ l->H q=some o->H' q=some o
theorem But.off {p l:Addr} {H H1 H2:Hp} (a:But p H H1) (hl:H l=none) (np:l ≠ p) (b:Off l H1 H2):But p H H2:=⟨by
 obtain ⟨x,y,e⟩:=a.pot
 exact ⟨x,y,b _ _ np.symm e⟩,fun q o n z=>b _ _ (au z hl) (a.st q o n z)⟩
theorem But.new {p l:Addr} {H H1:Hp} (a:But p H H1) (h:Pot H p) (hl:H1 l=none):H l=none/\l ≠ p:=by
 have np:l ≠ p:=fun z=>by
  subst z
  obtain ⟨_,_,e⟩:=a.pot
  rw [hl] at e
  cases e
 refine ⟨?_,np⟩
 cases e:H l with
 | none=>rfl
 | some o=>rw [a.st _ _ np e] at hl; cases hl
section
variable {P:Program} {w:World} {K:PySem.W.Frag} {mg:Str->Option Value} {base:Heap} {f T:Addr} {fd:FuncData}
theorem nj:aK ["pot", "some", "found", "thing"] ["pot", "some"] (ak vk):=⟨rfl,rfl,rfl,by decide +kernel,rfl,by decide +kernel,by decide +kernel⟩
theorem xu (F:Fun K "_law_any_order" "_law_any_order" vk f fd) (B:Blt mg) (cP:Cal P w K mg base 1 "_law_pick" ["pot", "many"] eI):bE P w K mg base CX0 2 f fd ["pot", "some"] ig:=by
 refine F.ok nj (fun vs H Q E h => ?_) (fun cdv A outer s H vs Q E hr h => ?_)
 ·obtain ⟨_,_,_,rfl,_⟩:=fB.mp h
  rfl
 obtain ⟨p,l,us,rfl,pt,hl,lu,q⟩:=fB.mp h
 have nl:l ≠ p:=fun z=>by
  subst z
  obtain ⟨x,y,e⟩:=pt
  rw [hl] at e
  cases us with
  | nil=>cases e
  | cons u us=>cases e
 refine ⟨_,aj (aA (i:=2) nj.nd rfl (Or.inl rfl) (bW ag))
  (aj (bV PassesOwn.never rfl (cK (pv 1)) (aB (i:=3) nj.nd rfl (Or.inl rfl))
   (ao (bU (eY PySem.F.plainAttrs_list PySem.F.slot_list_insert PySem.F.type_list_insert kU (pv 2) (aa (aJ cP hr (by decide) rfl (aa (pv 0) (aa (ay bJ (av aG rfl B.b_len PySem.boot_len (aa (pv 2) ag)) ah) ag))) (aa (pv 3) ag))))))
  (ao (aM (pv 2)))),?_⟩
 refine ⟨(by show 0<=sizeLine; decide),fun lo hlo => ?_⟩
 have nlo:lo ≠ p:=fun z=>by
  subst z
  obtain ⟨_,_,e⟩:=pt
  rw [hlo] at e
  cases e
 have nll:lo ≠ l:=(au hl hlo).symm
 have b1:=(But.refl pt).same (af hlo (.lst []))
 have eo1:upd H lo (.lst []) lo=some (.lst (([]:List (Addr × List Int)).map fun u => .ref u.1)):=ae
 generalize upd H lo (.lst [])=H1 at b1 eo1
 refine ⟨_,rfl,l,rfl,⟨_,SqL.of (b1.st _ _ nl hl)⟩,cz (xs:=us.map fun u => .ref u.1) (fun i σ H'=>(∃ c3,σ=[some (.ref p),some (.ref l),some (.ref lo),c3])/\But p H H'/\∃ os:List (Addr × List Int),H' lo=some (.lst (os.map fun u => .ref u.1))/\os.Perm (us.take i)) ⟨⟨_,rfl⟩,b1,[],eo1,.nil⟩ (fun i σ H' _ k=>SqL.of (k.2.1.st _ _ nl hl)) ?_ ?_⟩
 ·rintro i v σ H2 hv ⟨⟨c3,rfl⟩,b2,os,eo,po⟩
  obtain ⟨u,eu,rfl⟩:=item hv
  have lo':os.length<=250:=by rw [po.length_eq]; exact Nat.le_trans (List.length_take_le' _ _) lu
  refine ⟨_,rfl,.inl ⟨rfl,_,SqL.of eo⟩,_,rfl,_,rfl,lo,_,rfl,.inl (SqL.of eo),_,_,rfl,rfl,aR.mpr ⟨p,_,rfl,b2.pot,by omega,by rw [List.length_map]; omega,fun d H3 d0 d1 b3 => ?_⟩⟩
  have eo3:=b3.st _ _ nlo eo
  refine ⟨_,rfl,lo,_,d,_,rfl,rfl,eo3,d0,by omega,by rw [List.length_map]; exact Nat.lt_of_le_of_lt (by omega:os.length<=1000) (bh (Nat.le_refl _)),⟨_,rfl⟩,(b2.trans b3).iQ hlo nlo _,os.take d.toNat ++ u :: os.drop d.toNat,?_,?_⟩
  ·rw [ae,List.map_append,List.map_cons,List.map_take,List.map_drop]
  ·rw [List.take_add_one,eu]
   refine (List.perm_middle).trans ?_
   rw [List.take_append_drop]
   refine (List.Perm.cons _ po).trans ?_
   exact (List.perm_append_comm (l₁:=[u]) (l₂:=us.take i))
 ·rintro σ H2 ⟨⟨c3,rfl⟩,b2,os,eo,po⟩
  rw [List.length_map,List.take_of_length_le (Nat.le_refl _)] at po
  exact ⟨_,rfl,q lo os H2 b2 hlo eo po⟩
end
open PySem L2
theorem rf {xs:List Int} {i:Nat} {v:V} (h:(xs.map V.int)[i]? = some v):∃ n,xs[i]? = some n/\v = .int n:=by
 rw [List.getElem?_map] at h
 cases e:xs[i]? with
 | none=>rw [e] at h; cases h
 | some n=>rw [e] at h; exact ⟨n,rfl,(Option.some.inj h).symm⟩
theorem tj (P L:List Int):(cg P L).map (·.1)=P.map Sum.inl:=by unfold cg; rw [List.map_map]; rfl
theorem vM (m:Nat):di m (rgI m):=⟨bS m,fun v hv=>aZ.mp hv⟩
theorem oW (g:Int->Bool) (i:Nat):((rgI (i + 1)).filter g).map V.int=((rgI i).filter g).map V.int ++ if g (i:Int)=true then [V.int (i:Int)] else []:=by
 have e:rgI (i + 1)=rgI i ++ [(i:Int)]:=by unfold rgI; rw [List.range_succ,List.map_append]; rfl
 rw [e,List.filter_append,List.map_append]
 congr 1
 by_cases c:g (i:Int)=true
 ·rw [if_pos c,List.filter_cons_of_pos c]; rfl
 ·rw [if_neg c,List.filter_cons_of_neg c]; rfl
section
variable {P:Program} {w:World} {K:PySem.W.Frag} {mg:Str->Option Value} {base:Heap} {f T:Addr} {fd:FuncData}
theorem zP:(["tie", "pot", "share"]:List Str).Nodup:=by decide +kernel
theorem zQ:(["place", "first", "least"]:List Str).Nodup:=by decide +kernel
theorem cW:aK ["pot", "web", "share", "some", "first", "parts", "least"] ["pot", "web"] (ak j0):=⟨rfl,rfl,rfl,by decide +kernel,rfl,by decide +kernel,by decide +kernel⟩
theorem tm (F:Fun K "_law_parting" "_law_parting" j0 f fd) (B:Blt mg) (mso:mg "sorted" = none) (mst:mg "set" = none) (cP:Cal P w K mg base 1 "_law_pick" ["pot", "many"] eI) (cJ:Cal P w K mg base 1 "_law_joined" ["many", "ties", "places"] dS):bE P w K mg base CX0 2 f fd ["pot", "web"] dU:=by
 refine F.ok cW (fun vs H Q E h => ?_) (fun cdv A outer s H vs Q E hr h => ?_)
 ·obtain ⟨_,_,_,_,rfl,_⟩:=dC.mp h
  rfl
 obtain ⟨p,r,m,ts,rfl,pt,W,m4,q⟩:=dC.mp h
 have hu:(kr CX0 P w K mg base ["pot", "web", "share", "some", "first", "parts", "least"] "_law_parting" (ak j0) f cdv A outer s H E).nox.A.units + 1 < cLine:=nJ hr
 have O:=W.ok
 refine ⟨_,aj (aA (i:=2) cW.nd rfl (Or.inr rfl) (aJ cP hr (by decide) rfl (aa (pv 0) (aa ah ag))))
  (aj (gg (i:=3) ["tie", "pot", "share"] [none,some 0,some 2] rfl cW.nd rfl rfl (eV (aH aO (pv 1) ah (fun _ _=>rfl))) rfl (fun _ _ _ _ _=>aB (i:=0) zP rfl (Or.inl rfl))
   (fun _ _ _ _ _=>iG (aF qx (aJ cP hr (by decide) rfl (aa (pv 1) (aa ah ag))) (pv 2) (aX _))) (fun _ _ _ _ _=>pv 0))
  (aj (aA (i:=4) cW.nd rfl (Or.inr rfl) (aJ cJ hr (by decide) rfl (aa (aH aO (pv 1) ah (fun _ _=>rfl)) (aa (pv 3) (aa (aE (eF hr.hd) rfl B.b_list PySem.Pv.boot_list (aa (aE du rfl B.b_range gY (aa (aH aO (pv 1) ah (fun _ _=>rfl)) ag)) ag)) ag)))))
  (aj (aA (i:=5) cW.nd rfl (Or.inl rfl) (bW ag))
  (aj (bV PassesOwn.never rfl (cK (av (de (w:=w) rfl hr.hd) rfl mso bq (aa (aE (gi (w:=w) rfl hr.hd) rfl mst PySem.Pv.boot_set (aa (bF ["place", "first"] [none,some 4] rfl (wV (pv 4)) rfl (fun _ _ _ _ _=>aB (i:=0) zN rfl (Or.inl rfl)) (fun _ _ _ _ _=>dz) (fun _ _ _ _ _=>gR hu (pv 1) (pv 0) (fun _ _=>rfl))) ag)) ag))) (aB (i:=6) cW.nd rfl (Or.inr rfl))
   (ao (bU (eY PySem.F.plainAttrs_list PySem.F.slot_list_append PySem.F.type_list_append cU (pv 5) (aa (aE bp rfl B.b_tuple PySem.Pv.boot_tuple (aa (bF ["place", "first", "least"] [none,some 4,some 6] rfl (cj rfl B.b_range (aa (aH aO (pv 1) ah (fun _ _=>rfl)) ag)) rfl (fun _ _ _ _ _=>aB (i:=0) zQ rfl (Or.inl rfl))
    (fun _ _ _ _ _=>iG (aF fU (gR hu (pv 1) (pv 0) (fun _ _=>rfl)) (pv 2) (aX _))) (fun _ _ _ _ _=>pv 0)) ag)) ag)))))
  (ao (aM (pv 5)))))))  ,?_⟩
 refine ⟨_,rfl,aR.mpr ⟨p,4,rfl,pt,by decide,by decide,fun sh H1 _ _ b1 => ?_⟩⟩
 have W1:=b1.wb pt W
 obtain ⟨t,e1,e2⟩:=W1.at'
 have lt:=W.len
 refine ⟨_,rfl,r,_,1,_,rfl,rfl,SqT.of e1,rfl,t,rfl,⟨_,SqT.of e2⟩,bQ (xs:=ts.map fun u => .ref u.1) (fun i ys H'=>But p H1 H'/\∃ ks:List (Addr × List Int),ys=(ks.map fun u => .ref u.1)/\ks.Sublist (ts.take i)) ⟨But.refl b1.pot,[],rfl,List.nil_sublist _⟩ (by rw [List.length_map]; exact small (by omega)) (fun i ys H' _ k=>SqT.of (k.1.tup b1.pot e2)) ?_ ?_⟩
 ·rintro i v ys H2 hv hy ⟨b2,ks,rfl,hk⟩ R1 R0 r1 r0
  obtain ⟨u,eu,rfl⟩:=item hv
  refine ⟨_,rfl,aR.mpr ⟨p,4,rfl,b2.pot,by decide,by decide,fun d H3 _ _ b3 => ?_⟩⟩
  have et:ts.take (i + 1)=ts.take i ++ [u]:=by rw [List.take_add_one,eu]; rfl
  refine ⟨_,rfl,_,_,rfl,rfl,_,rfl,bC (fun c => ?_) (fun c => ?_)⟩
  ·exact ⟨_,rfl,r1 _ _ ⟨b2.trans b3,ks ++ [u],by rw [List.map_append]; rfl,by rw [et]; exact hk.append (List.Sublist.refl _)⟩⟩
  ·exact r0 _ ⟨b2.trans b3,ks,rfl,by rw [et]; exact hk.trans (List.sublist_append_left _ _)⟩
 rintro ys H2 hy ⟨b2,ks,rfl,hk⟩ lk hlk
 rw [List.length_map,List.take_of_length_le (Nat.le_refl _)] at hk
 have b12:=b1.trans b2
 have gk:=af hlk (.lst (ks.map fun u => .ref u.1))
 have elk:upd H2 lk (.lst (ks.map fun u => .ref u.1)) lk=some (.lst (ks.map fun u => .ref u.1)):=ae
 have b3:=b12.same gk
 generalize upd H2 lk (.lst (ks.map fun u => .ref u.1))=H3 at gk elk b3
 have W3:=b3.wb pt W
 obtain ⟨t3,f1,f2⟩:=W3.at'
 refine ⟨_,rfl,r,_,0,_,rfl,rfl,SqT.of f1,rfl,_,rfl,_,rfl,r,_,0,_,rfl,rfl,SqT.of f1,rfl,(m:Int),rfl,fun a ha=>⟨a,m,rfl,ae,by omega,fun lr hlr => ?_⟩⟩
 rw [fQ]
 have g4:=(af ha (.rng 0 (m:Int))).trans (af hlr (.lst ((rgI m).map V.int)))
 have elr:upd (upd H3 a (.rng 0 (m:Int))) lr (.lst ((rgI m).map V.int)) lr=some (.lst ((rgI m).map V.int)):=ae
 generalize upd (upd H3 a (.rng 0 (m:Int))) lr (.lst ((rgI m).map V.int))=H4 at g4 elr
 have b4:=b3.same g4
 have W4:=b4.wb pt W
 refine cT.mpr ⟨(m:Int),lk,lr,m,ks,rgI m,rfl,.inl (g4 _ _ elk),fun u hu=>W4.tup u (hk.subset hu),fun z hz => ?_,by omega,.inl elr,vM m,fun d H5 s5 hd5 ed => ?_⟩
 ·obtain ⟨u,hu,rfl⟩:=List.mem_map.mp hz
  exact O _ (List.mem_map_of_mem (hk.subset hu))
 have b5:=b4.same s5
 obtain ⟨hd0,nd0⟩:=b4.new pt hd5
 generalize rounds (Sub (ks.map (·.2)) (rgI m)) (rgI m).length (rgI m)=L at ed
 refine ⟨(by show 0<=sizeLine; decide),fun lp hlp => ?_⟩
 obtain ⟨hlp0,nlp⟩:=b5.new pt hlp
 have g6:=af hlp (.lst [])
 have elp:upd H5 lp (.lst []) lp=some (.lst (([]:List (Addr × List Int)).map fun u => .ref u.1)):=ae
 have ed6:=g6 _ _ ed
 have b6:=b5.same g6
 generalize upd H5 lp (.lst [])=H6 at g6 elp ed6 b6
 have nld:d ≠ lp:=fun z=>by rw [z,elp] at ed6; cases ed6
 refine ⟨_,rfl,d,_,rgI m,rfl,ed6,tj _ _,fun ob => ?_⟩
 have b7:=b6.iQ hd0 nd0 (.frz ob (.dK (cg (rgI m) L)))
 have ed7:upd H6 d (.frz ob (.dK (cg (rgI m) L))) d=some (.frz ob (.dK (cg (rgI m) L))):=ae
 have elp7:upd H6 d (.frz ob (.dK (cg (rgI m) L))) lp=some (.lst (([]:List (Addr × List Int)).map fun u => .ref u.1)):=by rw [aq nld.symm]; exact elp
 generalize upd H6 d (.frz ob (.dK (cg (rgI m) L)))=H7 at b7 ed7 elp7
 have va:∀ {H':Hp},H' d=some (.frz ob (.dK (cg (rgI m) L)))->∀ v:Int,v ∈ rgI m->dI H' d (.int v) (some (.int (gt L v))):=fun e v hv=>by
  have:=dI.kF (k:=Sum.inl v) e
  rw [ia,if_pos hv] at this
  exact this
 refine qa (fun i ys H'=>H'=H7/\ys=(((rgI m).take i).map fun v=>gt L v).map V.int) ⟨rfl,rfl⟩ (by rw [cS]; exact small (by omega)) (fun i ys H' _ k=>by rw [k.1]; exact ed7) ?_ ?_
 ·rintro i v ys H' hv hy ⟨rfl,rfl⟩ R1 R0 r1 r0
  refine bT ⟨_,rfl,_,rfl,d,_,rfl,va ed7 v (List.mem_of_getElem? hv),r1 _ _ ⟨rfl,?_⟩⟩
  rw [List.take_add_one,hv,List.map_append,List.map_append]
  rfl
 rintro ys H' hy ⟨rfl,rfl⟩ l hl
 rw [List.take_of_length_le (Nat.le_refl _)]
 refine ⟨l,_,rfl,.inl (SqL.of ae),by rw [List.length_map,cS]; omega,fun sa us hsa hm nd lu => ?_⟩
 rw [List.length_map,cS] at lu
 refine ⟨sa,_,rfl,ae,by omega,fun ls out hls po ps => ?_⟩
 have g8:=((af hl (.lst (((rgI m).map fun v=>gt L v).map V.int))).trans (af hsa (bO w sa (us.map V.int)))).trans (af hls (.lst (out.map V.int)))
 have els:upd (upd (upd H' l (.lst (((rgI m).map fun v=>gt L v).map V.int))) sa (bO w sa (us.map V.int))) ls (.lst (out.map V.int)) ls=some (.lst (out.map V.int)):=ae
 have b8:=b7.same g8
 have ed8:=g8 _ _ ed7
 have elp8:=g8 _ _ elp7
 have nls:lp ≠ ls:=au (((af hl (.lst (((rgI m).map fun v=>gt L v).map V.int))).trans (af hsa (bO w sa (us.map V.int)))) _ _ elp7) hls
 have nout:out.Nodup:=po.nodup_iff.mpr nd
 have lout:out.length<=m:=by rw [po.length_eq]; exact lu
 have mout:∀ x,x ∈ out ↔ ∃ v,(0<=v/\v < (m:Int))/\gt L v=x:=fun x=>by
  rw [po.mem_iff,hm,List.mem_map]
  exact ⟨fun ⟨v,h1,h2⟩=>⟨v,aZ.mp h1,h2⟩,fun ⟨v,h1,h2⟩=>⟨v,aZ.mpr h1,h2⟩⟩
 generalize upd (upd (upd H' l (.lst (((rgI m).map fun v=>gt L v).map V.int))) sa (bO w sa (us.map V.int))) ls (.lst (out.map V.int))=H8 at els b8 ed8 elp8 ⊢
 refine ⟨ls,rfl,⟨_,SqL.of els⟩,cz (xs:=out.map V.int) (fun i σ H9=>(∃ c6,σ=[some (.ref p),some (.ref r),some (.int sh),some (.ref lk),some (.ref d),some (.ref lp),c6])/\Off lp H8 H9/\∃ vs:List (Addr × List Int),H9 lp=some (.lst (vs.map fun u => .ref u.1))/\(∀ u ∈ vs,H9 u.1=some (.tup (u.2.map V.int)))/\vs.map (·.2)=(out.take i).map fun x=>(rgI m).filter fun v=>decide (gt L v=x)) ⟨⟨_,rfl⟩,fun _ _ _ z=>z,[],elp8,(fun u hu=>by cases hu),rfl⟩ (fun i σ H9 _ k=>SqL.of (k.2.1 _ _ nls.symm els)) ?_ ?_⟩
 ·rintro i v σ H9 hv ⟨⟨c6,rfl⟩,o9,vs,ev,tv,evs⟩
  obtain ⟨x,ex,rfl⟩:=rf hv
  have W9:=(b8.off hlp0 nlp o9).wb pt W
  have ed9:=o9 _ _ nld ed8
  have lvs:vs.length<=m:=by
   have:=congrArg List.length evs
   rw [List.length_map,List.length_map] at this
   rw [this]
   exact Nat.le_trans (List.length_take_le' _ _) lout
  obtain ⟨t9,h1,h2⟩:=W9.at'
  refine ⟨_,rfl,.inl ⟨rfl,_,SqL.of ev⟩,_,rfl,r,_,0,_,rfl,rfl,SqT.of h1,rfl,(m:Int),rfl,by omega,by omega,dt (fun j ys H'=>H'=H9/\ys=((rgI j).filter fun v=>decide (gt L v=x)).map V.int) ⟨rfl,rfl⟩ (small (by omega)) ?_ ?_⟩
  ·rintro j ys H10 hj hy ⟨rfl,rfl⟩ R1 R0 r1 r0
   have e0:(0 + (j:Int))=j:=by omega
   have hj':(j:Int) < m:=by omega
   rw [e0]
   refine ⟨_,rfl,_,rfl,d,_,rfl,va ed9 (j:Int) (aZ.mpr ⟨by omega,hj'⟩),_,rfl,rfl,_,rfl,?_⟩
   by_cases c:gt L (j:Int)=x
   ·rw [decide_eq_true (show V.int (gt L (j:Int))=V.int x by rw [c])]
    exact bT ⟨_,rfl,r1 _ _ ⟨rfl,by rw [oW,if_pos (decide_eq_true c)]⟩⟩
   ·rw [decide_eq_false (show ¬ V.int (gt L (j:Int))=V.int x from fun z=>c (V.int.inj z))]
    exact cY (r0 _ ⟨rfl,by rw [oW,if_neg (by rw [decide_eq_false c]; exact Bool.false_ne_true),List.append_nil]⟩)
  rintro ys H10 hy ⟨rfl,rfl⟩ la hla
  rw [Int.toNat_natCast]
  refine ⟨la,_,rfl,.inl ⟨SqL.of ae,fun z hz => ?_⟩⟩
  have g10:=(af hla (.lst (((rgI m).filter fun v=>decide (gt L v=x)).map V.int))).trans (af hz (.tup (((rgI m).filter fun v=>decide (gt L v=x)).map V.int)))
  have ez:upd (upd H10 la (.lst (((rgI m).filter fun v=>decide (gt L v=x)).map V.int))) z (.tup (((rgI m).filter fun v=>decide (gt L v=x)).map V.int)) z=some (.tup (((rgI m).filter fun v=>decide (gt L v=x)).map V.int)):=ae
  generalize upd (upd H10 la (.lst (((rgI m).filter fun v=>decide (gt L v=x)).map V.int))) z (.tup (((rgI m).filter fun v=>decide (gt L v=x)).map V.int))=H11 at g10 ez
  have ev11:=g10 _ _ ev
  have nz:∀ u o,H11 u=some (.tup o)->u ≠ lp:=fun u o e=>eN e ev11 (by intro z; cases z)
  refine ⟨lp,_,.ref z,rfl,rfl,ev11,by rw [List.length_map]; exact Nat.lt_of_le_of_lt (by omega:vs.length<=1000) (bh (Nat.le_refl _)),⟨_,rfl⟩,fun b o nb eb => ?_,vs ++ [(z,(rgI m).filter fun v=>decide (gt L v=x))],?_,fun u hu => ?_,?_⟩
  ·rw [aq nb]
   exact g10 _ _ (o9 b o nb eb)
  ·rw [ae,List.map_append]; rfl
  ·rcases List.mem_append.mp hu with y | y
   ·rw [aq (nz _ _ (g10 _ _ (tv u y)))]
    exact g10 _ _ (tv u y)
   ·have:u=(z,(rgI m).filter fun v=>decide (gt L v=x)):=by simpa using y
    subst this
    rw [aq (nz _ _ ez)]
    exact ez
  ·rw [List.map_append,evs,List.take_add_one,ex,List.map_append]
   rfl
 ·rintro σ H9 ⟨⟨c6,rfl⟩,o9,vs,ev,tv,evs⟩
  rw [List.length_map,List.take_of_length_le (Nat.le_refl _)] at evs
  exact ⟨_,rfl,q lp vs H9 (b8.off hlp0 nlp o9) hlp0 ev tv (by rw [evs]; exact vL nout mout)⟩
end
open PySem L2
def rise (ns:List Int):Bool:=decide (ns.Pairwise (· < ·))
def adj (ns:List Int):List Bool:=List.zipWith (fun a b=>decide (a < b)) ns (ns.drop 1)
theorem xv (ns:List Int):(adj ns).length=ns.length - 1:=by
 unfold adj
 rw [List.length_zipWith,List.length_drop]; omega
theorem rg:∀ ns:List Int,(adj ns).all id=rise ns
 | []=>by unfold rise; simp [adj]
 | [a]=>by unfold rise; simp [adj]
 | a :: b :: t=>by
  have ih:=rg (b :: t)
  have e:adj (a :: b :: t)=decide (a < b) :: adj (b :: t):=rfl
  rw [e,List.all_cons,ih]
  unfold rise
  rw [Bool.eq_iff_iff,Bool.and_eq_true,decide_eq_true_iff,decide_eq_true_iff,List.pairwise_cons (l:=b :: t)]
  show decide (a < b)=true/\_ ↔ _
  rw [decide_eq_true_iff]
  constructor
  ·rintro ⟨h,p⟩
   refine ⟨fun x hx => ?_,p⟩
   rcases List.mem_cons.mp hx with rfl | hx
   ·exact h
   ·exact Int.lt_trans h ((List.pairwise_cons.mp p).1 x hx)
  ·rintro ⟨h,p⟩
   exact ⟨h b (List.mem_cons_self ..),p⟩
theorem qk (xs:List V):eR xs (some 1) none=xs.drop 1:=by
 unfold eR HT.sIx
 cases xs with
 | nil=>rfl
 | cons a l=>simp
theorem yQ {ns:List Int} {i:Nat} {x y:V} (hx:(ns.map V.int)[i]? = some x) (hy:((ns.map V.int).drop 1)[i]? = some y):∃ u v:Int,x = .int u/\y = .int v/\(adj ns)[i]? = some (decide (u < v)):=by
 rw [<- List.map_drop,List.getElem?_map] at hy
 rw [List.getElem?_map] at hx
 obtain ⟨u,eu,rfl⟩:=Option.map_eq_some_iff.mp hx
 obtain ⟨v,ev,rfl⟩:=Option.map_eq_some_iff.mp hy
 refine ⟨u,v,rfl,rfl,?_⟩
 unfold adj
 rw [List.getElem?_zipWith,eu,ev]
def inR (m:Nat) (x:Int):Bool:=decide (0<=x) && decide (x < m)
def isSet (m:Nat) (ns:List Int):Bool:=rise ns && ns.all (inR m)
abbrev rh:Sp:=fun vs H Q _=>∃ (p:Addr) (ns:List Int),vs=[.ref p]/\H p=some (.tup (ns.map V.int))/\ns.length<=500/\∀ H',aL H H'->Q (.bl (rise ns)) H'
@[irreducible] def ki:Sp:=rh
theorem gv {vs:List V} {H:Hp} {Q:VK} {E:XK}:ki vs H Q E ↔ rh vs H Q E:=by
 delta ki
 exact Iff.rfl
section
variable {P:Program} {w:World} {K:PySem.W.Frag} {mg:Str->Option Value} {base:Heap} {f T:Addr} {fd:FuncData}
theorem ql:aK ["row"] ["row"] (ak cV):=⟨rfl,rfl,rfl,by decide +kernel,rfl,by decide +kernel,by decide +kernel⟩
theorem fC:(["one", "other"]:List Str).Nodup:=by decide +kernel
theorem qm (F:Fun K "is_rising" "is_rising" cV f fd) (B:Blt mg):bE P w K mg base CX0 1 f fd ["row"] ki:=by
 refine F.ok ql (fun vs H Q E h => ?_) (fun cdv A outer s H vs Q E hr h => ?_)
 ·obtain ⟨_,_,rfl,_⟩:=gv.mp h
  rfl
 obtain ⟨p,ns,rfl,ep,l5,q⟩:=gv.mp h
 refine ⟨_,(@ao _ _ _ (@aM _ _ _ _ (av (nM rfl) rfl B.b_all u9 (@aa _ _ _ _ _ (bF ["one", "other"] [none,none] rfl (wW false false rfl B.b_zip (@aa _ _ _ _ _ (pv 0) (@aa _ _ _ _ _ (cB mW (pv 0) (cM ah) d7) ag rfl) rfl)) rfl (fun _ _ _ _ _=>(uD (K:=K) (i:=0) (j:=1) fC rfl rfl (Or.inl rfl) (Or.inl rfl))) (fun _ _ _ _ _=>dz) (fun _ _ _ _ _=>(jb qx (pv 0) (pv 1) (aX _)))) ag rfl)))),?_⟩
 have lm:(ns.map V.int).length=ns.length:=List.length_map _
 refine ⟨_,rfl,_,rfl,1,rfl,p,_,rfl,ep,fun p2 H2 s2 e2 => ?_⟩
 rw [qk] at e2
 have ep2:=s2 _ _ ep
 have ld:((ns.map V.int).drop 1).length=ns.length - 1:=by rw [List.length_drop,lm]
 refine ⟨p,p2,rfl,⟨_,SqT.of ep2⟩,⟨_,SqT.of e2⟩,zJ (ns.length - 1) (by rw [lm]; omega) (by rw [ld]; omega) (.inr ld.symm) (fun i zs H'=>aL H2 H'/\zs=((adj ns).take i).map V.bl) (by decide) ⟨aL.refl _,rfl⟩ (small (by omega)) (fun i zs H' _ k=>⟨SqT.of (k.1 _ _ ep2),SqT.of (k.1 _ _ e2)⟩) ?_ ?_⟩
 ·rintro i x y zs H' T' hx hy lz hT' ⟨s',rfl⟩ R1 R0 r1 r0
  obtain ⟨u,v,rfl,rfl,euv⟩:=yQ hx hy
  refine bT ⟨_,rfl,_,rfl,_,_,rfl,rfl,r1 _ _ ⟨s'.trans (af hT' _),?_⟩⟩
  rw [List.take_add_one,euv,List.map_append]; rfl
 ·rintro zs H' lz ⟨s',rfl⟩ c5 hc5
  rw [show (adj ns).take (ns.length - 1)=adj ns from List.take_of_length_le (by rw [xv]; exact Nat.le_refl _)]
  refine ⟨c5,_,rfl,SqL.of ae,?_⟩
  rw [rg]
  exact q _ (s2.trans (s'.trans (af hc5 _)))
end
theorem gw {m:Nat} {ns:List Int} (h:isSet m ns=true):di m ns:=by
 unfold isSet rise at h
 rw [Bool.and_eq_true,decide_eq_true_iff,List.all_eq_true] at h
 refine ⟨h.1.imp fun {a b} z=>Int.ne_of_lt z,fun v hv => ?_⟩
 have:=h.2 v hv
 unfold inR at this
 rw [Bool.and_eq_true,decide_eq_true_iff,decide_eq_true_iff] at this
 exact this
abbrev vN:Sp:=fun vs H Q _=>∃ (r p:Addr) (m:Nat) (ts:List (Addr × List Int)) (ns:List Int),vs=[.ref r,.ref p]/\Wb H r m ts/\H p=some (.tup (ns.map V.int))/\ns.length<=500/\∀ H',aL H H'->Q (.bl (isSet m ns)) H'
@[irreducible] def oX:Sp:=vN
theorem iR {vs:List V} {H:Hp} {Q:VK} {E:XK}:oX vs H Q E ↔ vN vs H Q E:=by
 delta oX
 exact Iff.rfl
section
variable {P:Program} {w:World} {K:PySem.W.Frag} {mg:Str->Option Value} {base:Heap} {f T:Addr} {fd:FuncData}
theorem tw:aK ["web", "places"] ["web", "places"] (ak dJ):=⟨rfl,rfl,rfl,by decide +kernel,rfl,by decide +kernel,by decide +kernel⟩
theorem fT:(["place", "web"]:List Str).Nodup:=by decide +kernel
theorem tE (F:Fun K "is_set_of" "is_set_of" dJ f fd) (B:Blt mg) (cIsRising:Cal P w K mg base 1 "is_rising" ["row"] ki):bE P w K mg base CX0 2 f fd ["web", "places"] oX:=by
 refine F.ok tw (fun vs H Q E h => ?_) (fun cdv A outer s H vs Q E hr h => ?_)
 ·obtain ⟨_,_,_,_,_,rfl,_⟩:=iR.mp h
  rfl
 obtain ⟨r,p,m,ts,ns,rfl,W,ep,l5,q⟩:=iR.mp h
 refine ⟨_,(@ao _ _ _ (@aM _ _ _ _ (tM (aJ cIsRising hr (by decide) rfl (@aa _ _ _ _ _ (pv 1) ag rfl)) (tL (av (nM rfl) rfl B.b_all u9 (@aa _ _ _ _ _ (bF ["place", "web"] [none,some 0] rfl (@eV _ _ _ _ (pv 1)) rfl (fun _ _ _ _ _=>(aB (i:=0) fT rfl (Or.inl rfl))) (fun _ _ _ _ _=>dz) (fun _ _ _ _ _=>(tT zg qx ah (pv 0) (@aH _ _ _ _ _ _ _ (d9 (K:=K)) (pv 1) ah (fun _ _=>rfl))))) ag rfl)))))),?_⟩
 obtain ⟨t,e1,e2⟩:=W.at'
 refine ⟨_,rfl,gv.mpr ⟨p,ns,rfl,ep,l5,fun H1 s1=>⟨_,rfl,bC (fun z => ?_) (fun z => ?_)⟩⟩⟩
 ·refine ⟨_,rfl,p,rfl,⟨_,SqT.of (s1 _ _ ep)⟩,bQ (xs:=ns.map V.int) (fun i ys H'=>H'=H1/\ys=((ns.take i).map (inR m)).map V.bl) ⟨rfl,rfl⟩ (by rw [List.length_map]; exact small (by omega)) (fun i ys H' _ h=>by rw [h.1]; exact SqT.of (s1 _ _ ep)) ?_ ?_⟩
  ·rintro i v ys H' hv hy ⟨rfl,rfl⟩ R1 R0 r1 r0
   obtain ⟨x,ex,rfl⟩:=rf hv
   refine bT ⟨_,rfl,_,_,rfl,rfl,_,rfl,bC (fun y => ?_) (fun y=>r1 _ _ ⟨rfl,?_⟩)⟩
   ·refine ⟨_,rfl,r,_,0,_,rfl,rfl,SqT.of (s1 _ _ e1),rfl,_,_,rfl,rfl,r1 _ _ ⟨rfl,?_⟩⟩
    rw [take_snoc ex,List.map_append,show inR m x=decide (x < m) by unfold inR; rw [y,Bool.true_and]]; rfl
   ·rw [take_snoc ex,List.map_append,show inR m x=false by unfold inR; rw [Bool.eq_false_iff.mpr y,Bool.false_and]]; rfl
  rintro ys H' hy ⟨eH',rfl⟩ al hal
  rw [eH'] at hal ⊢
  rw [List.length_map,show ns.take ns.length=ns from List.take_length]
  refine ⟨al,_,rfl,SqL.of ae,?_⟩
  have e:((ns.map (inR m)).all id)=isSet m ns:=by
   unfold isSet; rw [z,Bool.true_and,List.all_map]; rfl
  rw [e]
  exact q _ (s1.trans (af hal _))
 ·have e:isSet m ns=false:=by
   unfold isSet; rw [Bool.eq_false_iff.mpr z,Bool.false_and]
  rw [e] at q
  exact q _ s1
end
def wth (ns:List (List Int)) (A:List Int):Int:=1 + ((ns.filter (both A)).length:Int) + (((ns.filter (both A)).length:Int) - (A.length:Int) + 1) % 2
abbrev oY:Sp:=fun vs H Q _=>∃ (r p:Addr) (m:Int) (ts:List (Addr × List Int)) (ns:List Int),vs=[.ref r,.ref p]/\Wb H r m ts/\H p=some (.tup (ns.map V.int))/\ns.length<=500/\∀ H',aL H H'->Q (.int (wth (ts.map (·.2)) ns)) H'
@[irreducible] def ij:Sp:=oY
theorem fD {vs:List V} {H:Hp} {Q:VK} {E:XK}:ij vs H Q E ↔ oY vs H Q E:=by
 delta ij
 exact Iff.rfl
section
variable {P:Program} {w:World} {K:PySem.W.Frag} {mg:Str->Option Value} {base:Heap} {f T:Addr} {fd:FuncData}
theorem me:aK ["web", "part", "within"] ["web", "part"] (ak dM):=⟨rfl,rfl,rfl,by decide +kernel,rfl,by decide +kernel,by decide +kernel⟩
theorem tF (F:Fun K "worth_of" "worth_of" dM f fd) (B:Blt mg) (cTiesWithin:Cal P w K mg base 1 "ties_within" ["web", "places"] cF):bE P w K mg base CX0 2 f fd ["web", "part"] ij:=by
 refine F.ok me (fun vs H Q E h => ?_) (fun cdv A outer s H vs Q E hr h => ?_)
 ·obtain ⟨_,_,_,_,_,rfl,_⟩:=fD.mp h
  rfl
 obtain ⟨r,p,m,ts,ns,rfl,W,ep,l5,q⟩:=fD.mp h
 refine ⟨_,(@aj _ _ _ _ _ (@aA _ _ 2 _ _ _ _ me.nd rfl (Or.inl rfl) (aJ cTiesWithin hr (by decide) rfl (@aa _ _ _ _ _ (pv 0) (@aa _ _ _ _ _ (pv 1) ag rfl) rfl)) rfl (by first | exact .inl rfl | exact .inr rfl | assumption))
  (@aj _ _ _ _ _ (@bD _ _ _ _ _ _ _ _ (aF fU (@ay _ _ _ _ _ _ _ _ dY (@ay _ _ _ _ _ _ _ _ bJ (@ay _ _ _ _ _ _ _ _ iB (pv 2) (av aG rfl B.b_len gj (@aa _ _ _ _ _ (pv 1) ag rfl))) ah) ah) ah (aX _)) (@ao _ _ _ (@aM _ _ _ _ (@ay _ _ _ _ _ _ _ _ bJ ah (pv 2)))) aU)
  (@ao _ _ _ (@aM _ _ _ _ (@ay _ _ _ _ _ _ _ _ bJ ah (pv 2)))))),?_⟩
 refine ⟨_,rfl,_,rfl,bI.mpr ⟨r,p,m,ts,ns,rfl,W,.inr ep,fun H1 s1 => ?_⟩⟩
 have lw:(((ts.map (·.2)).filter (both ns)).length)<=200:=by
  have:=List.length_filter_le (both ns) (ts.map (·.2))
  have:=W.len
  rw [List.length_map] at *
  omega
 unfold wth at q
 generalize hw:((ts.map (·.2)).filter (both ns)).length=w at q lw
 have lm:(ns.map V.int).length=ns.length:=List.length_map _
 refine ⟨_,rfl,_,rfl,p,_,rfl,.inr (SqT.of (s1 _ _ ep)),_,_,rfl,rfl,_,_,rfl,rfl,_,_,rfl,rfl,(show (0:Int) < 2 by decide),rfl,_,rfl,bC (fun z => ?_) (fun z => ?_)⟩
 ·have z:=V.int.inj (of_decide_eq_true z)
  rw [lm] at z
  refine ⟨_,rfl,_,_,rfl,rfl,?_⟩
  have:=q H1 s1
  rw [z,show (1:Int) + (w:Int) + 1=2 + w by omega] at this
  exact this
 ·have z:¬ ((w:Int) - (ns.length:Int) + 1) % 2=1:=fun y=>z (decide_eq_true (by show V.int _=V.int _; rw [lm,y]))
  refine ⟨_,rfl,_,_,rfl,rfl,?_⟩
  have:=q H1 s1
  rw [show ((w:Int) - (ns.length:Int) + 1) % 2=0 by omega,Int.add_zero] at this
  exact this
end
noncomputable def okp (ns:List (List Int)) (m:Nat) (A:List Int):Bool:=isSet m A && decide (trees ns m A=1)
noncomputable def bP (ns:List (List Int)) (m:Nat) (ps:List (List Int)):Bool:=ps.all (okp ns m) && decide (ps.flatten.Perm (rgI m))
theorem vO {a b:List Int} (p:a.Perm b) (ha:a.Pairwise (· <= ·)) (hb:b.Pairwise (· <= ·)):a=b :=
 p.eq_of_pairwise (fun a b _ _ x y=>Int.le_antisymm x y) ha hb
theorem vP {out ms:List Int} {m:Nat} (p:out.Perm ms) (w:out.Pairwise (· <= ·)):decide (out=rgI m)=decide (ms.Perm (rgI m)):=by
 rw [Bool.eq_iff_iff,decide_eq_true_iff,decide_eq_true_iff]
 exact ⟨fun e=>e ▸ p.symm,fun h=>vO (p.trans h) w ((gm m).imp fun {a b} h=>by omega)⟩
theorem rj {ns:List (List Int)} {m:Nat} {A:List Int} (h:okp ns m A=true):A.length<=m:=h9 (gw (by
 unfold okp at h
 rw [Bool.and_eq_true] at h
 exact h.1))
theorem kj {m:Nat}:∀ {ps:List (List Int)},(∀ A ∈ ps,A.length<=m)->ps.flatten.length<=m * ps.length
 | [],_=>by simp
 | A :: ps,h=>by
  have a:=h A (List.mem_cons_self ..)
  have b:=kj (m:=m) (ps:=ps) fun B hB=>h B (List.mem_cons_of_mem _ hB)
  rw [List.flatten_cons,List.length_append,List.length_cons,Nat.mul_add]
  omega
theorem ip {ns:List (List Int)} {m:Nat} {ps:List (List Int)} {A:List Int} (h:A ∈ ps) (n:okp ns m A ≠ true):bP ns m ps=false:=by
 unfold bP
 rw [Bool.and_eq_false_iff]
 refine .inl (Bool.eq_false_iff.mpr fun z=>n ?_)
 exact List.all_eq_true.mp z A h
abbrev mf:Sp:=fun vs H Q _=>∃ (r l:Addr) (m:Nat) (ts us:List (Addr × List Int)),vs=[.ref r,.ref l]/\Wb H r m ts/\m<=250/\(H l=some (.lst (us.map fun u => .ref u.1))\/H l=some (.tup (us.map fun u => .ref u.1)))/\(∀ u ∈ us,H u.1=some (.tup (u.2.map V.int)))/\(∀ u ∈ us,u.2.length<=500)/\us.length<=500/\∀ H',aL H H'->Q (.bl (bP (ts.map (·.2)) m (us.map (·.2)))) H'
@[irreducible] def fE:Sp:=mf
theorem eL {vs:List V} {H:Hp} {Q:VK} {E:XK}:fE vs H Q E ↔ mf vs H Q E:=by
 delta fE
 exact Iff.rfl
section
variable {P:Program} {w:World} {K:PySem.W.Frag} {mg:Str->Option Value} {base:Heap} {f T:Addr} {fd:FuncData}
theorem fF:aK ["web", "parts", "met", "part"] ["web", "parts"] (ak cn):=⟨rfl,rfl,rfl,by decide +kernel,rfl,by decide +kernel,by decide +kernel⟩
theorem oZ (F:Fun K "is_parting" "is_parting" cn f fd) (B:Blt mg) (cIsSetOf:Cal P w K mg base 2 "is_set_of" ["web", "places"] oX) (cPartsAmong:Cal P w K mg base 3 "parts_among" ["web", "places"] ie):bE P w K mg base CX0 4 f fd ["web", "parts"] fE:=by
 refine F.ok fF (fun vs H Q E h => ?_) (fun cdv A outer s H vs Q E hr h => ?_)
 ·obtain ⟨_,_,_,_,_,rfl,_⟩:=eL.mp h
  rfl
 obtain ⟨r,l,m,ts,us,rfl,W,m2,el,tu,tl,lu,q⟩:=eL.mp h
 refine ⟨_,(@aj _ _ _ _ _ (@aA _ _ 2 _ _ _ _ fF.nd rfl (Or.inl rfl) (@bW _ _ _ _ ag) rfl (by first | exact .inl rfl | exact .inr rfl | assumption))
  (@aj _ _ _ _ _ (@bV _ _ _ _ _ _ _ _ PassesOwn.never rfl (mH (pv 1)) (aB (i:=3) fF.nd rfl (Or.inl rfl))
   (@aj _ _ _ _ _ (@bD _ _ _ _ _ _ _ _ (PW.pt (nC (px (jm (aJ cIsSetOf hr (by decide) rfl (@aa _ _ _ _ _ (pv 0) (@aa _ _ _ _ _ (pv 3) ag rfl) rfl)))) (jq (aF nG (aJ cPartsAmong hr (by decide) rfl (@aa _ _ _ _ _ (pv 0) (@aa _ _ _ _ _ (pv 3) ag rfl) rfl)) ah (aX _))))) (@ao _ _ _ (@aM _ _ _ _ nB)) aU)
   (@ao _ _ _ (bU (eY PySem.F.plainAttrs_list PySem.F.slot_list_extend PySem.F.type_list_extend jV (pv 2) (@aa _ _ _ _ _ (pv 3) ag rfl))))) (fun _=>rfl))
  (@ao _ _ _ (@aM _ _ _ _ (jb (wZ hr) (av bY rfl B.b_sorted bq (@aa _ _ _ _ _ (pv 2) ag rfl)) (aE (eF hr.hd) rfl B.b_list ji (@aa _ _ _ _ _ (aE du rfl B.b_range gY (@aa _ _ _ _ _ (@aH _ _ _ _ _ _ _ aO (pv 0) ah (fun _ _=>rfl)) ag rfl)) ag rfl)) (aX _)))))),?_⟩
 obtain ⟨t,e1,e2⟩:=W.at'
 refine ⟨by decide,fun c hc => ?_⟩
 have g1:=af hc (.lst [])
 have ec:upd H c (.lst []) c=some (.lst []):=ae
 generalize upd H c (.lst [])=H1 at g1 ec
 refine ⟨_,rfl,l,rfl,ni (xs:=us.map fun u => .ref u.1) (fun i σ H'=>(∃ c3,σ=[some (.ref r),some (.ref l),some (.ref c),c3])/\aL H H'/\H' c=some (.lst (((us.take i).map (·.2)).flatten.map V.int))/\∀ A ∈ (us.take i).map (·.2),okp (ts.map (·.2)) m A=true) (el.imp (g1 _ _) (g1 _ _)) ⟨⟨_,rfl⟩,g1,ec,fun A h=>by cases h⟩ (fun i σ H' z=>by rcases el with y | y <;> rw [z.2.1 _ _ y,g1 _ _ y]) ?_ ?_⟩
 ·rintro i x σ H2 hx ⟨⟨c3,rfl⟩,s2,ec2,ok2⟩
  obtain ⟨u,eu,rfl⟩:=item hx
  have mu:=List.mem_of_getElem? eu
  have mA:u.2 ∈ us.map (·.2):=List.mem_map_of_mem (f:=(·.2)) mu
  refine ⟨_,rfl,_,rfl,iR.mpr ⟨r,u.1,m,ts,u.2,rfl,W.same s2,s2 _ _ (tu u mu),tl u mu,fun H3 s3=>⟨_,rfl,bC (fun z=>bT ?_) (fun z => ?_)⟩⟩⟩
  ·have n:bP (ts.map (·.2)) m (us.map (·.2))=false:=ip mA fun y=>by
    unfold okp at y
    rw [Bool.and_eq_true] at y
    rw [y.1] at z
    cases z
   rw [n] at q
   exact q H3 (s2.trans s3)
  have hs:isSet m u.2=true:=by
   cases h:isSet m u.2
   ·rw [h] at z; exact absurd rfl z
   ·rfl
  have s23:=s2.trans s3
  refine ⟨_,rfl,_,rfl,fA.mpr ⟨r,u.1,m,ts,u.2,rfl,W.same s23,m2,.inr (s23 _ _ (tu u mu)),gw hs,fun H4 s4=>⟨rfl,_,rfl,bC (fun z => ?_) (fun z => ?_)⟩⟩⟩
  ·have n:bP (ts.map (·.2)) m (us.map (·.2))=false:=ip mA fun y=>by
    unfold okp at y
    rw [Bool.and_eq_true,decide_eq_true_iff] at y
    rw [y.2] at z
    cases z
   rw [n] at q
   exact q H4 (s23.trans s4)
  have ht:okp (ts.map (·.2)) m u.2=true:=by
   unfold okp
   rw [hs,Bool.true_and,decide_eq_true_iff]
   rw [Bool.not_eq_true,Bool.not_eq_false',decide_eq_true_iff] at z
   have:=V.int.inj z
   omega
  have s24:=s23.trans s4
  have ec4:=s4 _ _ (s3 _ _ ec2)
  have eu4:=s24 _ _ (tu u mu)
  have lf:=kj (m:=m) fun A hA=>rj (ok2 A hA)
  have lA:=rj ht
  rw [List.length_map,List.length_take] at lf
  have lf2:m * min i us.length<=250 * 500:=Nat.mul_le_mul m2 (by omega)
  refine ⟨_,rfl,.inl ⟨rfl,_,SqL.of ec4⟩,_,rfl,c,u.1,_,_,rfl,rfl,ec4,eu4,?_,⟨_,rfl⟩,fun q' o e => ?_,?_,?_⟩
  ·rw [List.length_map,List.length_map,sizeLine_eq]; omega
  ·rw [aq (au e hc)]; exact s24 _ _ e
  ·rw [ae,take_snoc eu,List.flatten_append,List.map_append]
   simp
  ·intro A hA
   rw [take_snoc eu] at hA
   rcases List.mem_append.mp hA with hA | hA
   ·exact ok2 A hA
   ·rw [List.mem_singleton.mp hA]; exact ht
 ·rintro σ H2 ⟨⟨c3,rfl⟩,s2,ec2,ok2⟩
  rw [List.length_map,List.take_length] at ec2 ok2
  refine ⟨_,rfl,c,_,rfl,.inl (SqL.of ec2),fun lo out hlo pm pw => ?_⟩
  have g3:=af hlo (.lst (out.map V.int))
  have elo:upd H2 lo (.lst (out.map V.int)) lo=some (.lst (out.map V.int)):=ae
  generalize upd H2 lo (.lst (out.map V.int))=H3 at g3 elo
  refine ⟨_,rfl,r,_,0,_,rfl,rfl,SqT.of (g3 _ _ (s2 _ _ e1)),rfl,(m:Int),rfl,fun a ha=>⟨a,m,rfl,ae,by omega,fun lr hlr => ?_⟩⟩
  rw [fQ]
  have g4:=(af ha (.rng 0 (m:Int))).trans (af hlr (.lst ((rgI m).map V.int)))
  have elr:upd (upd H3 a (.rng 0 (m:Int))) lr (.lst ((rgI m).map V.int)) lr=some (.lst ((rgI m).map V.int)):=ae
  generalize upd (upd H3 a (.rng 0 (m:Int))) lr (.lst ((rgI m).map V.int))=H4 at g4 elr
  refine ⟨lo,lr,out,rgI m,rfl,rfl,SqL.of (g4 _ _ elo),SqL.of elr,?_⟩
  have e:bP (ts.map (·.2)) m (us.map (·.2))=decide (out=rgI m):=by
   unfold bP
   rw [vP pm pw,List.all_eq_true.mpr ok2,Bool.true_and]
  rw [e] at q
  exact q H4 (s2.trans (g3.trans g4))
end
open PySem L2
noncomputable def twv (ns:List (List Int)) (m:Nat) (ps:List (List Int)):V:=if bP ns m ps=true then .int ((m:Int) / 2 + (ps.map (wth ns)).sum - (ns.length:Int)) else .non
abbrev o7:Sp:=fun vs H Q _=>∃ (r l:Addr) (m:Nat) (ts us:List (Addr × List Int)),vs=[.ref r,.ref l]/\Wb H r m ts/\m<=250/\q8 (ts.map (·.2)) m/\(H l=some (.lst (us.map fun u => .ref u.1))\/H l=some (.tup (us.map fun u => .ref u.1)))/\(∀ u ∈ us,H u.1=some (.tup (u.2.map V.int)))/\(∀ u ∈ us,u.2.length<=500)/\us.length<=500/\∀ H',aL H H'->Q (twv (ts.map (·.2)) m (us.map (·.2))) H'
@[irreducible] def iq:Sp:=o7
theorem fG {vs:List V} {H:Hp} {Q:VK} {E:XK}:iq vs H Q E ↔ o7 vs H Q E:=by
 delta iq
 exact Iff.rfl
section
variable {P:Program} {w:World} {K:PySem.W.Frag} {mg:Str->Option Value} {base:Heap} {f T:Addr} {fd:FuncData}
theorem kl:aK ["web", "parts"] ["web", "parts"] (ak bB):=⟨rfl,rfl,rfl,by decide +kernel,rfl,by decide +kernel,by decide +kernel⟩
theorem dW:(["part", "web"]:List Str).Nodup:=by decide +kernel
theorem kn (F:Fun K "parting_twice" "parting_twice" bB f fd) (B:Blt mg) (cLookThree:Cal P w K mg base 2 "look_three" ["web"] ic) (cIsParting:Cal P w K mg base 4 "is_parting" ["web", "parts"] fE) (cWorthOf:Cal P w K mg base 2 "worth_of" ["web", "part"] ij):bE P w K mg base CX0 5 f fd ["web", "parts"] iq:=by
 refine F.ok kl (fun vs H Q E h => ?_) (fun cdv A outer s H vs Q E hr h => ?_)
 ·obtain ⟨_,_,_,_,_,rfl,_⟩:=fG.mp h
  rfl
 obtain ⟨r,l,m,ts,us,rfl,W,m2,C,el,tu,tl,lu,q⟩:=fG.mp h
 refine ⟨_,(@aj _ _ _ _ _ (bU (aJ cLookThree hr (by decide) rfl (@aa _ _ _ _ _ (pv 0) ag rfl)))
  (@aj _ _ _ _ _ (@bD _ _ _ _ _ _ _ _ (px (jm (aJ cIsParting hr (by decide) rfl (@aa _ _ _ _ _ (pv 0) (@aa _ _ _ _ _ (pv 1) ag rfl) rfl)))) (@ao _ _ _ (@aM _ _ _ _ my)) aU)
  (@ao _ _ _ (@aM _ _ _ _ (@ay _ _ _ _ _ _ _ _ iB (@ay _ _ _ _ _ _ _ _ bJ (@ay _ _ _ _ _ _ _ _ fJ (@aH _ _ _ _ _ _ _ aO (pv 0) ah (fun _ _=>rfl)) ah) (av (om hr.hd) rfl B.b_sum ve (@aa _ _ _ _ _ (bF ["part", "web"] [none,some 0] rfl (mH (pv 1)) rfl (fun _ _ _ _ _=>(aB (i:=0) dW rfl (Or.inl rfl))) (fun _ _ _ _ _=>dz) (fun _ _ _ _ _=>(aJ cWorthOf hr (by decide) rfl (@aa _ _ _ _ _ (pv 1) (@aa _ _ _ _ _ (pv 0) ag rfl) rfl)))) ag rfl))) (av aG rfl B.b_len gj (@aa _ _ _ _ _ (@aH _ _ _ _ _ _ _ aO (pv 0) ah (fun _ _=>rfl)) ag rfl))))))),?_⟩
 obtain ⟨t,e1,e2⟩:=W.at'
 refine ⟨_,rfl,fz.mpr ⟨r,m,ts,rfl,W,m2,C,fun H1 s1 => ?_⟩⟩
 refine ⟨_,rfl,_,rfl,eL.mpr ⟨r,l,m,ts,us,rfl,W.same s1,m2,el.imp (s1 _ _) (s1 _ _),fun u hu=>s1 _ _ (tu u hu),tl,lu,fun H2 s2=>⟨_,rfl,bC (fun z => ?_) (fun z => ?_)⟩⟩⟩
 ·have n:twv (ts.map (·.2)) m (us.map (·.2)) = .non:=by
   unfold twv
   rw [if_neg]
   intro y; rw [y] at z; cases z
  rw [n] at q
  exact q H2 (s1.trans s2)
 have hs:bP (ts.map (·.2)) m (us.map (·.2))=true:=by
  cases h:bP (ts.map (·.2)) m (us.map (·.2))
  ·rw [h] at z; exact absurd rfl z
  ·rfl
 have v:twv (ts.map (·.2)) m (us.map (·.2)) = .int ((m:Int) / 2 + ((us.map (·.2)).map (wth (ts.map (·.2)))).sum - ((ts.map (·.2)).length:Int)):=by
  unfold twv
  rw [if_pos hs]
 rw [v] at q
 have s12:=s1.trans s2
 refine ⟨_,rfl,r,_,0,_,rfl,rfl,SqT.of (s12 _ _ e1),rfl,_,_,rfl,rfl,⟨by decide,by decide⟩,?_⟩
 refine ⟨_,rfl,l,rfl,rT (xs:=us.map fun u => .ref u.1) (fun i ys H'=>aL H2 H'/\ys=(((us.take i).map (·.2)).map (wth (ts.map (·.2)))).map V.int) (el.imp (s12 _ _) (s12 _ _)) ⟨aL.refl _,rfl⟩ (by rw [List.length_map]; exact small (by omega)) (fun i ys H' z=>by rcases el with y | y <;> rw [z.1 _ _ (s12 _ _ y),s12 _ _ y]) ?_ ?_⟩
 ·rintro i x ys H3 hx hy ⟨s3,rfl⟩ R1 R0 r1 r0
  obtain ⟨u,eu,rfl⟩:=item hx
  have mu:=List.mem_of_getElem? eu
  have s13:=s12.trans s3
  refine bT ⟨_,rfl,_,rfl,fD.mpr ⟨r,u.1,m,ts,u.2,rfl,W.same s13,s13 _ _ (tu u mu),tl u mu,fun H4 s4=>r1 _ _ ⟨s3.trans s4,?_⟩⟩⟩
  rw [take_snoc eu,List.map_append,List.map_append]; rfl
 rintro ys H3 hy ⟨s3,rfl⟩ al hal
 rw [List.length_map,List.take_length]
 have g4:=af hal (.lst ((((us.map (·.2)).map (wth (ts.map (·.2)))).map V.int)))
 have eal:upd H3 al (.lst ((((us.map (·.2)).map (wth (ts.map (·.2)))).map V.int))) al=some (.lst ((((us.map (·.2)).map (wth (ts.map (·.2)))).map V.int))):=ae
 generalize upd H3 al (.lst ((((us.map (·.2)).map (wth (ts.map (·.2)))).map V.int)))=H4 at g4 eal
 have s14:=s12.trans (s3.trans g4)
 refine ⟨al,_,rfl,eal,_,_,rfl,rfl,_,rfl,r,_,1,_,rfl,rfl,SqT.of (s14 _ _ e1),rfl,t,_,rfl,.inr (SqT.of (s14 _ _ e2)),_,_,rfl,rfl,?_⟩
 have:=q H4 s14
 rw [List.length_map] at this ⊢
 exact this
end
open PySem L2
theorem xw {A S out:List Int} (mem:∀ k,k ∈ S ↔ k ∈ A) (nd:S.Nodup) (pm:out.Perm S) (pw:out.Pairwise (· <= ·)):decide (A=out)=rise A:=by
 unfold rise
 rw [Bool.eq_iff_iff,decide_eq_true_iff,decide_eq_true_iff]
 constructor
 ·rintro rfl
  have no:A.Nodup:=pm.nodup_iff.mpr nd
  exact (List.Pairwise.and pw no).imp fun {a b} h=>by have:=h.1; have:=h.2; omega
 ·intro h
  refine vO (((List.perm_ext_iff_of_nodup (h.imp fun {a b} z=>Int.ne_of_lt z) nd).mpr fun a=>(mem a).symm).trans pm.symm) (h.imp fun {a b} z=>Int.le_of_lt z) pw
theorem xx {ns:List (List Int)} {m:Nat} {ps:List (List Int)} (p:ps.flatten.Perm (rgI m)) (r:∀ A ∈ ps,rise A=true):∀ A ∈ ps,isSet m A=true:=by
 intro A hA
 unfold isSet
 rw [r A hA,Bool.true_and,List.all_eq_true]
 intro x hx
 have:=aZ.mp (p.subset (List.mem_flatten.mpr ⟨A,hA,hx⟩))
 unfold inR
 rw [Bool.and_eq_true,decide_eq_true_iff,decide_eq_true_iff]
 exact this
theorem tG (ns:List (List Int)) (m:Nat):trees ns m []=0:=by
 unfold trees
 rw [List.length_eq_zero_iff,List.filter_eq_nil_iff]
 intro a _
 simp
theorem o8 {ns:List (List Int)} {m:Nat} {A:List Int} (h:A=[]\/rise A=false):okp ns m A ≠ true:=by
 intro y
 unfold okp isSet at y
 rw [Bool.and_eq_true,Bool.and_eq_true,decide_eq_true_iff] at y
 rcases h with rfl | h
 ·rw [tG] at y; exact absurd y.2 (by decide)
 ·rw [h] at y; exact absurd y.1.1 (by decide)
theorem jk {ns:List (List Int)} {m:Nat} {ps:List (List Int)} (h:bP ns m ps=false):twv ns m ps = .non:=by
 unfold twv
 rw [if_neg]
 rw [h]; exact Bool.false_ne_true
noncomputable def ko (ns:List (List Int)) (m:Nat) (A:List Int):Bool := !decide (V.int ((trees ns m A:Nat):Int)=V.int 1)
abbrev pf:Sp:=fun vs H Q _=>∃ (r l:Addr) (m:Nat) (ts us:List (Addr × List Int)),vs=[.ref r,.ref l]/\Wb H r m ts/\m<=250/\H l=some (.lst (us.map fun u => .ref u.1))/\(∀ u ∈ us,H u.1=some (.tup (u.2.map V.int)))/\(∀ u ∈ us,u.2.length<=250)/\us.length<=500/\∀ H',aL H H'->Q (twv (ts.map (·.2)) m (us.map (·.2))) H'
@[irreducible] def ir:Sp:=pf
theorem fH {vs:List V} {H:Hp} {Q:VK} {E:XK}:ir vs H Q E ↔ pf vs H Q E:=by
 delta ir
 exact Iff.rfl
section
variable {P:Program} {w:World} {K:PySem.W.Frag} {mg:Str->Option Value} {base:Heap} {f T:Addr} {fd:FuncData}
theorem dq:aK ["web", "parts", "seen", "part", "count", "within"] ["web", "parts"] (ak fP):=⟨rfl,rfl,rfl,by decide +kernel,rfl,by decide +kernel,by decide +kernel⟩
theorem iu:(["part", "web"]:List Str).Nodup:=by decide +kernel
theorem vQ (F:Fun K "_law_count" "_law_count" fP f fd) (B:Blt mg) (cLWithin:Cal P w K mg base 1 "_law_within" ["web", "places"] cF) (cLTrees:Cal P w K mg base 2 "_law_trees" ["web", "places"] ib):bE P w K mg base CX0 3 f fd ["web", "parts"] ir:=by
 refine F.ok dq (fun vs H Q E h => ?_) (fun cdv A outer s H vs Q E hr h => ?_)
 ·obtain ⟨_,_,_,_,_,rfl,_⟩:=fH.mp h
  rfl
 obtain ⟨r,l,m,ts,us,rfl,W,m2,el,tu,tl,lu,q⟩:=fH.mp h
 refine ⟨_,(@aj _ _ _ _ _ (@aA _ _ 2 _ _ _ _ dq.nd rfl (Or.inl rfl) (@bW _ _ _ _ ag) rfl (by first | exact .inl rfl | exact .inr rfl | assumption))
  (@aj _ _ _ _ _ (@bV _ _ _ _ _ _ _ _ PassesOwn.never rfl (@cK _ _ _ _ (pv 1)) (aB (i:=3) dq.nd rfl (Or.inl rfl))
   (@aj _ _ _ _ _ (@bD _ _ _ _ _ _ _ _ (PW.pt (nC (aF (wR hr) (pv 3) (@dy _ _ _ _ _ ag) (aX _)) (jq (aF (mU hr) (aE gG rfl B.b_list ji (@aa _ _ _ _ _ (pv 3) ag rfl)) (av (de (w:=w) rfl hr.hd) rfl B.b_sorted bq (@aa _ _ _ _ _ (aE (gi (w:=w) rfl hr.hd) rfl B.b_set vd (@aa _ _ _ _ _ (pv 3) ag rfl)) ag rfl)) (aX _))))) (@ao _ _ _ (@aM _ _ _ _ my)) aU)
   (@ao _ _ _ (bU (eY PySem.F.plainAttrs_list PySem.F.slot_list_extend PySem.F.type_list_extend jV (pv 2) (@aa _ _ _ _ _ (pv 3) ag rfl))))) (fun _=>rfl))
  (@aj _ _ _ _ _ (@bD _ _ _ _ _ _ _ _ (PW.pt (nC (aF (mU hr) (av bY rfl B.b_sorted bq (@aa _ _ _ _ _ (pv 2) ag rfl)) (aE (eF hr.hd) rfl B.b_list ji (@aa _ _ _ _ _ (aE du rfl B.b_range gY (@aa _ _ _ _ _ (@aH _ _ _ _ _ _ _ aO (pv 0) ah (fun _ _=>rfl)) ag rfl)) ag rfl)) (aX _)) (jq (jm (av (oD rfl) rfl B.b_any vb (@aa _ _ _ _ _ (bF ["part", "web"] [none,some 0] rfl (@cK _ _ _ _ (pv 1)) rfl (fun _ _ _ _ _=>(aB (i:=0) iu rfl (Or.inl rfl))) (fun _ _ _ _ _=>dz) (fun _ _ _ _ _=>(jb nG (aJ cLTrees hr (by decide) rfl (@aa _ _ _ _ _ (pv 1) (@aa _ _ _ _ _ (pv 0) ag rfl) rfl)) ah (aX _)))) ag rfl)))))) (@ao _ _ _ (@aM _ _ _ _ my)) aU)
  (@aj _ _ _ _ _ (@aA _ _ 4 _ _ _ _ dq.nd rfl (Or.inl rfl) (@ay _ _ _ _ _ _ _ _ iB (@ay _ _ _ _ _ _ _ _ fJ (@aH _ _ _ _ _ _ _ aO (pv 0) ah (fun _ _=>rfl)) ah) (av aG rfl B.b_len gj (@aa _ _ _ _ _ (@aH _ _ _ _ _ _ _ aO (pv 0) ah (fun _ _=>rfl)) ag rfl))) rfl (by first | exact .inl rfl | exact .inr rfl | assumption))
  (@aj _ _ _ _ _ (@bV _ _ _ _ _ _ _ _ PassesOwn.never rfl (@cK _ _ _ _ (pv 1)) (aB (i:=3) dq.nd rfl (Or.inl rfl))
   (@aj _ _ _ _ _ (@aA _ _ 5 _ _ _ _ dq.nd rfl (Or.inl rfl) (aJ cLWithin hr (by decide) rfl (@aa _ _ _ _ _ (pv 0) (@aa _ _ _ _ _ (pv 3) ag rfl) rfl)) rfl (by first | exact .inl rfl | exact .inr rfl | assumption))
   (@ao _ _ _ (@aA _ _ 4 _ _ _ _ dq.nd rfl (Or.inl rfl) (@ay _ _ _ _ _ _ _ _ bJ (@ay _ _ _ _ _ _ _ _ bJ (@ay _ _ _ _ _ _ _ _ bJ (pv 4) (pv 5)) ah) (@ay _ _ _ _ _ _ _ _ dY (@ay _ _ _ _ _ _ _ _ bJ (@ay _ _ _ _ _ _ _ _ iB (pv 5) (av aG rfl B.b_len gj (@aa _ _ _ _ _ (pv 3) ag rfl))) ah) ah)) rfl (by first | exact .inl rfl | exact .inr rfl | assumption)))) (fun _=>rfl))
  (@ao _ _ _ (@aM _ _ _ _ (pv 4)))))))),?_⟩
 obtain ⟨t,e1,e2⟩:=W.at'
 refine ⟨by decide,fun c hc => ?_⟩
 have g1:=af hc (.lst [])
 have ec:upd H c (.lst []) c=some (.lst []):=ae
 generalize upd H c (.lst [])=H1 at g1 ec
 refine ⟨_,rfl,l,rfl,⟨_,SqL.of (g1 _ _ el)⟩,cz (xs:=us.map fun u => .ref u.1) (fun i σ H'=>(∃ c3,σ=[some (.ref r),some (.ref l),some (.ref c),c3,none,none])/\aL H H'/\H' c=some (.lst (((us.take i).map (·.2)).flatten.map V.int))/\∀ A ∈ (us.take i).map (·.2),rise A=true) ⟨⟨_,rfl⟩,g1,ec,fun A h=>by cases h⟩ (fun i σ H' _ z=>SqL.of (z.2.1 _ _ el)) ?_ ?_⟩
 ·rintro i x σ H2 hx ⟨⟨c3,rfl⟩,s2,ec2,ok2⟩
  obtain ⟨u,eu,rfl⟩:=item hx
  have mu:=List.mem_of_getElem? eu
  have mA:u.2 ∈ us.map (·.2):=List.mem_map_of_mem (f:=(·.2)) mu
  refine ⟨_,rfl,by decide,fun z0 hz0 => ?_⟩
  have g3:=af hz0 (.tup [])
  have ez0:upd H2 z0 (.tup []) z0=some (.tup []):=ae
  generalize upd H2 z0 (.tup [])=H3 at g3 ez0
  have s3:=s2.trans g3
  have eu3:=s3 _ _ (tu u mu)
  have ul:=tl u mu
  refine ⟨u.1,z0,u.2,[],rfl,rfl,SqT.of eu3,SqT.of ez0,_,rfl,bC (fun z=>bT ?_) (fun z => ?_)⟩
  ·have n:=jk (ip mA (o8 (ns:=ts.map (·.2)) (m:=m) (.inl (of_decide_eq_true z))))
   rw [n] at q
   exact q H3 s3
  refine ⟨_,rfl,u.1,_,rfl,.inr (SqT.of eu3),fun lp hlp => ?_⟩
  have g4:=af hlp (.lst (u.2.map V.int))
  have elp:upd H3 lp (.lst (u.2.map V.int)) lp=some (.lst (u.2.map V.int)):=ae
  generalize upd H3 lp (.lst (u.2.map V.int))=H4 at g4 elp
  refine ⟨_,rfl,u.1,u.2,rfl,.inr (SqT.of (g4 _ _ eu3)),by omega,fun sa S hsa mem nd le => ?_⟩
  have g5:=af hsa (bO w sa (S.map V.int))
  have esa:upd H4 sa (bO w sa (S.map V.int)) sa=some (bO w sa (S.map V.int)):=ae
  generalize upd H4 sa (bO w sa (S.map V.int))=H5 at g5 esa
  refine ⟨sa,S,rfl,esa,by omega,fun so out hso pm pw => ?_⟩
  have g6:=af hso (.lst (out.map V.int))
  have eso:upd H5 so (.lst (out.map V.int)) so=some (.lst (out.map V.int)):=ae
  generalize upd H5 so (.lst (out.map V.int))=H6 at g6 eso
  have s6:=s3.trans (g4.trans (g5.trans g6))
  refine ⟨lp,so,u.2,out,rfl,rfl,SqL.of (g6 _ _ (g5 _ _ elp)),SqL.of eso,?_⟩
  rw [xw mem nd pm pw]
  refine ⟨_,rfl,bC (fun z => ?_) (fun z => ?_)⟩
  ·have n:=jk (ip mA (o8 (ns:=ts.map (·.2)) (m:=m) (.inr (by simpa using z))))
   rw [n] at q
   exact q H6 s6
  have hr':rise u.2=true:=by simpa using z
  have ec6:=g6 _ _ (g5 _ _ (g4 _ _ (g3 _ _ ec2)))
  have eu6:=s6 _ _ (tu u mu)
  have lf:=kj (m:=250) (ps:=(us.take i).map (·.2)) fun A hA=>by
   obtain ⟨v,hv,rfl⟩:=List.mem_map.mp hA
   exact tl v (List.mem_of_mem_take hv)
  rw [List.length_map,List.length_take] at lf
  have lf2:250 * min i us.length<=250 * 500:=Nat.mul_le_mul (Nat.le_refl _) (by omega)
  refine ⟨_,rfl,.inl ⟨rfl,_,SqL.of ec6⟩,_,rfl,c,u.1,_,_,rfl,rfl,ec6,eu6,?_,⟨_,rfl⟩,fun q' o e => ?_,?_,?_⟩
  ·rw [List.length_map,List.length_map,sizeLine_eq]; omega
  ·rw [aq (au e hc)]; exact s6 _ _ e
  ·rw [ae,take_snoc eu,List.flatten_append,List.map_append]
   simp
  ·intro A hA
   rw [take_snoc eu] at hA
   rcases List.mem_append.mp hA with hA | hA
   ·exact ok2 A hA
   ·rw [List.mem_singleton.mp hA]; exact hr'
 ·rintro σ H2 ⟨⟨c3,rfl⟩,s2,ec2,ok2⟩
  rw [List.length_map,List.take_length] at ec2 ok2
  refine ⟨_,rfl,c,_,rfl,.inl (SqL.of ec2),fun lo out hlo pm pw => ?_⟩
  have g3:=af hlo (.lst (out.map V.int))
  have elo:upd H2 lo (.lst (out.map V.int)) lo=some (.lst (out.map V.int)):=ae
  generalize upd H2 lo (.lst (out.map V.int))=H3 at g3 elo
  refine ⟨_,rfl,r,_,0,_,rfl,rfl,SqT.of (g3 _ _ (s2 _ _ e1)),rfl,(m:Int),rfl,fun a ha=>⟨a,m,rfl,ae,by omega,fun lr hlr => ?_⟩⟩
  rw [fQ]
  have g4:=(af ha (.rng 0 (m:Int))).trans (af hlr (.lst ((rgI m).map V.int)))
  have elr:upd (upd H3 a (.rng 0 (m:Int))) lr (.lst ((rgI m).map V.int)) lr=some (.lst ((rgI m).map V.int)):=ae
  generalize upd (upd H3 a (.rng 0 (m:Int))) lr (.lst ((rgI m).map V.int))=H4 at g4 elr
  refine ⟨lo,lr,out,rgI m,rfl,rfl,SqL.of (g4 _ _ elo),SqL.of elr,?_⟩
  rw [vP pm pw]
  have s4:=s2.trans (g3.trans g4)
  refine ⟨_,rfl,bC (fun z=>bT ?_) (fun z => ?_)⟩
  ·have n:twv (ts.map (·.2)) m (us.map (·.2)) = .non:=jk (by
    unfold bP
    rw [Bool.and_eq_false_iff]
    exact .inr (by simpa using z))
   rw [n] at q
   exact q H4 s4
  have pr:(us.map (·.2)).flatten.Perm (rgI m):=by simpa using z
  have os:=xx (ns:=ts.map (·.2)) pr ok2
  refine ⟨_,rfl,l,rfl,⟨_,SqL.of (s4 _ _ el)⟩,gh (xs:=us.map fun u => .ref u.1) (fun i ys H'=>aL H4 H'/\ys=(((us.take i).map (·.2)).map (ko (ts.map (·.2)) m)).map V.bl) ⟨aL.refl _,rfl⟩ (by rw [List.length_map]; exact small (by omega)) (fun i ys H' _ z=>SqL.of (z.1 _ _ (s4 _ _ el))) ?_ ?_⟩
  ·rintro i x ys H5 hx hy ⟨s5,rfl⟩ R1 R0 r1 r0
   obtain ⟨u,eu,rfl⟩:=item hx
   have mu:=List.mem_of_getElem? eu
   have s45:=s4.trans s5
   refine bT ⟨_,rfl,_,rfl,fv.mpr ⟨r,u.1,m,ts,u.2,rfl,W.same s45,m2,s45 _ _ (tu u mu),gw (os _ (List.mem_map_of_mem (f:=(·.2)) mu)),fun H6 s6=>⟨rfl,r1 _ _ ⟨s5.trans s6,?_⟩⟩⟩⟩
   rw [take_snoc eu,List.map_append,List.map_append]; rfl
  rintro ys H5 hy ⟨s5,rfl⟩ al hal
  rw [List.length_map,List.take_length]
  have g6:=af hal (.lst ((((us.map (·.2)).map (ko (ts.map (·.2)) m)).map V.bl)))
  refine ⟨al,_,rfl,SqL.of ae,_,rfl,bC (fun z => ?_) (fun z => ?_)⟩
  ·have n:twv (ts.map (·.2)) m (us.map (·.2)) = .non:=jk (by
    rw [List.any_map,List.any_eq_true] at z
    obtain ⟨A,hA,hz⟩:=z
    refine ip hA fun y => ?_
    unfold okp at y
    rw [Bool.and_eq_true,decide_eq_true_iff] at y
    simp [ko,y.2] at hz)
   rw [n] at q
   exact q _ (s4.trans (s5.trans g6))
  have hp:bP (ts.map (·.2)) m (us.map (·.2))=true:=by
   unfold bP
   rw [decide_eq_true pr,Bool.and_true,List.all_eq_true]
   intro A hA
   unfold okp
   rw [os A hA,Bool.true_and,decide_eq_true_iff]
   rw [Bool.not_eq_true,List.any_map,List.any_eq_false] at z
   have:=z A hA
   simp [ko] at this
   omega
  have v:twv (ts.map (·.2)) m (us.map (·.2)) = .int ((m:Int) / 2 + ((us.map (·.2)).map (wth (ts.map (·.2)))).sum - (ts.length:Int)):=by
   unfold twv
   rw [if_pos hp,List.length_map]
  rw [v] at q
  generalize upd H5 al (.lst ((((us.map (·.2)).map (ko (ts.map (·.2)) m)).map V.bl)))=H6 at g6
  have s6:=s4.trans (s5.trans g6)
  have ltm:(ts.map fun u=>V.ref u.1).length=ts.length:=List.length_map _
  refine ⟨_,rfl,r,_,0,_,rfl,rfl,SqT.of (s6 _ _ e1),rfl,_,_,rfl,rfl,⟨by decide,by decide⟩,_,rfl,r,_,1,_,rfl,rfl,SqT.of (s6 _ _ e1),rfl,t,_,rfl,.inr (SqT.of (s6 _ _ e2)),_,_,rfl,rfl,?_⟩
  refine ⟨_,rfl,l,rfl,⟨_,SqL.of (s6 _ _ el)⟩,cz (xs:=us.map fun u => .ref u.1) (fun i σ H'=>(∃ c3 c5,σ=[some (.ref r),some (.ref l),some (.ref c),c3,some (.int ((m:Int) / 2 - (ts.length:Int) + (((us.take i).map (·.2)).map (wth (ts.map (·.2)))).sum)),c5])/\aL H H') ⟨⟨c3,none,?_⟩,s6⟩ (fun i σ H' _ z=>SqL.of (z.2 _ _ el)) ?_ ?_⟩
  ·show [_,_,_,c3,some (V.int ((m:Int) / 2 - ((ts.map fun u=>V.ref u.1).length:Int))),none]=_
   rw [ltm]
   simp
  ·rintro i x σ H7 hx ⟨⟨c3,c5,rfl⟩,s7⟩
   obtain ⟨u,eu,rfl⟩:=item hx
   have mu:=List.mem_of_getElem? eu
   have lum:(u.2.map V.int).length=u.2.length:=List.length_map _
   refine ⟨_,rfl,_,rfl,bI.mpr ⟨r,u.1,m,ts,u.2,rfl,W.same s7,.inr (s7 _ _ (tu u mu)),fun H8 s8 => ?_⟩⟩
   refine ⟨_,rfl,_,rfl,_,_,rfl,rfl,_,_,rfl,rfl,_,rfl,_,rfl,u.1,_,rfl,.inr (SqT.of (s8 _ _ (s7 _ _ (tu u mu)))),_,_,rfl,rfl,_,_,rfl,rfl,_,_,rfl,rfl,(show (0:Int) < 2 by decide),_,_,rfl,rfl,⟨some (.ref u.1),some (.int ((((ts.map (·.2)).filter (both u.2)).length:Nat):Int)),?_⟩,s7.trans s8⟩
   have e:(((us.take (i + 1)).map (·.2)).map (wth (ts.map (·.2)))).sum=(((us.take i).map (·.2)).map (wth (ts.map (·.2)))).sum + wth (ts.map (·.2)) u.2:=by
    rw [take_snoc eu,List.map_append,List.sum_append]; simp
   rw [e,lum]
   generalize (((us.take i).map (·.2)).map (wth (ts.map (·.2)))).sum=S
   unfold wth
   generalize (((((ts.map (·.2)).filter (both u.2)).length:Nat):Int) - (u.2.length:Int) + 1) % 2=e2
   generalize ((((ts.map (·.2)).filter (both u.2)).length:Nat):Int)=e3
   show [_,_,_,_,some (V.int ((m:Int) / 2 - (ts.length:Int) + S + e3 + 1 + e2)),_]=_
   rw [show (m:Int) / 2 - (ts.length:Int) + S + e3 + 1 + e2=(m:Int) / 2 - (ts.length:Int) + (S + (1 + e3 + e2)) by omega]
  ·rintro σ H7 ⟨⟨c3,c5,rfl⟩,s7⟩
   rw [List.length_map,List.take_length]
   refine ⟨_,rfl,?_⟩
   have:=q H7 s7
   rw [show (m:Int) / 2 + ((us.map (·.2)).map (wth (ts.map (·.2)))).sum - (ts.length:Int)=(m:Int) / 2 - (ts.length:Int) + ((us.map (·.2)).map (wth (ts.map (·.2)))).sum by omega] at this
   exact this
end
open PySem L2
structure Md (p:Addr) (H H':Hp) (z:Addr) (os:List (Addr × List Int)):Prop where
 b:But p H H'
 n:H z=none
 e:H' z=some (.lst (os.map fun u => .ref u.1))
 t:∀ u ∈ os,H' u.1=some (.tup (u.2.map V.int))
 l:∀ u ∈ os,u.2.length<=250
 c:os.length<=250
theorem Md.same {p z:Addr} {H H1 H2:Hp} {os:List (Addr × List Int)} (M:Md p H H1 z os) (s:aL H1 H2):Md p H H2 z os:=⟨M.b.same s,M.n,s _ _ M.e,fun u hu=>s _ _ (M.t u hu),M.l,M.c⟩
theorem nk {p z:Addr} {H:Hp} (h:Pot H p) (n:H z=none):z ≠ p:=fun e=>by
 subst e
 obtain ⟨x,y,e⟩:=h
 rw [n] at e; cases e
theorem Md.but {p z:Addr} {H H1 H2:Hp} {os:List (Addr × List Int)} (h:Pot H p) (M:Md p H H1 z os) (b:But p H1 H2):Md p H H2 z os:=⟨M.b.trans b,M.n,b.st _ _ (nk h M.n) M.e,fun u hu=>b.tup M.b.pot (M.t u hu),M.l,M.c⟩
theorem xA {H:Hp} {q z:Addr} {xs ys zs:List V} (e:H z=some (.lst xs)) (t:H q=some (.tup ys)):upd H z (.lst zs) q=some (.tup ys):=by
 rw [aq (fun y=>by subst y; rw [e] at t; cases t)]
 exact t
theorem Md.put {p z:Addr} {H H1:Hp} {os ks:List (Addr × List Int)} (h:Pot H p) (M:Md p H H1 z os) (t:∀ u ∈ ks,H1 u.1=some (.tup (u.2.map V.int))) (l:∀ u ∈ ks,u.2.length<=250) (c:ks.length<=250):Md p H (upd H1 z (.lst (ks.map fun u => .ref u.1))) z ks :=
 ⟨M.b.iQ M.n (nk h M.n) _,M.n,ae,fun u hu=>xA M.e (t u hu),l,c⟩
theorem Md.new {p z:Addr} {H H1:Hp} {ks:List (Addr × List Int)} (b:But p H H1) (h:Pot H p) (hz:H1 z=none) (t:∀ u ∈ ks,H1 u.1=some (.tup (u.2.map V.int))) (l:∀ u ∈ ks,u.2.length<=250) (c:ks.length<=250):Md p H (upd H1 z (.lst (ks.map fun u => .ref u.1))) z ks :=
 have g:=af hz (.lst (ks.map fun u => .ref u.1))
 ⟨b.same g,(b.new h hz).1,ae,fun u hu=>g _ _ (t u hu),l,c⟩
theorem dX (os:List (Addr × List Int)) (lo hi:Option Int):∃ ks:List (Addr × List Int),eR (os.map fun u=>V.ref u.1) lo hi=ks.map (fun u=>V.ref u.1)/\(∀ u ∈ ks,u ∈ os)/\ks.length<=os.length:=by
 unfold eR
 rw [<- List.map_drop, <- List.map_take]
 refine ⟨_,rfl,fun u hu=>List.mem_of_mem_drop (List.mem_of_mem_take hu),?_⟩
 rw [List.length_take,List.length_drop]; omega
theorem pk (ns:List Int) (lo hi:Option Int):∃ ks:List Int,eR (ns.map V.int) lo hi=ks.map V.int/\ks.length<=ns.length:=by
 unfold eR
 rw [<- List.map_drop, <- List.map_take]
 refine ⟨_,rfl,?_⟩
 rw [List.length_take,List.length_drop]; omega
theorem yR {os:List (Addr × List Int)} {i:Int} (h0:0<=i) (h1:i < os.length):∃ u,u ∈ os/\ixN (os.map fun u=>V.ref u.1).length i=some i.toNat/\atI (os.map fun u=>V.ref u.1) i=some (.ref u.1):=by
 have hx:ixN (os.map fun u=>V.ref u.1).length i=some i.toNat:=by
  unfold ixN
  rw [List.length_map,if_pos h0,if_pos h1]
 have hl:i.toNat < os.length:=by omega
 refine ⟨os[i.toNat],List.getElem_mem hl,hx,?_⟩
 unfold atI
 rw [hx,Option.bind_some,List.getElem?_map,List.getElem?_eq_getElem hl]; rfl
theorem xB {os:List (Addr × List Int)} (h:os ≠ []):∃ u,u ∈ os/\atI (os.map fun u=>V.ref u.1) (-1)=some (.ref u.1):=by
 have hp:=List.length_pos_iff.mpr h
 have hl:os.length - 1 < os.length:=by omega
 refine ⟨os[os.length - 1],List.getElem_mem hl,?_⟩
 unfold atI ixN
 rw [List.length_map,if_neg (by decide),if_pos (by omega),Option.bind_some,show (-1 + (os.length:Int)).toNat=os.length - 1 by omega,List.getElem?_map,List.getElem?_eq_getElem hl]; rfl
theorem xC {m:Nat} {ps:List (List Int)} (P:Parts m ps):ps.length<=m:=by
 have:=i7 (fun A hA=>(P.sm A hA).2)
 rw [P.flat.length_eq,cS] at this
 exact this
abbrev mh:Sp:=fun vs H Q _=>∃ (p r l:Addr) (m:Nat) (ts us:List (Addr × List Int)),vs=[.ref p,.ref r,.ref l]/\Pot H p/\Wb H r m ts/\m<=100/\H l=some (.lst (us.map fun u => .ref u.1))/\(∀ u ∈ us,H u.1=some (.tup (u.2.map V.int)))/\Parts m (us.map (·.2))/\∀ z os H',Md p H H' z os->Q (.ref z) H'
@[irreducible] def fI:Sp:=mh
theorem eM {vs:List V} {H:Hp} {Q:VK} {E:XK}:fI vs H Q E ↔ mh vs H Q E:=by
 delta fI
 exact Iff.rfl
section
variable {P:Program} {w:World} {K:PySem.W.Frag} {mg:Str->Option Value} {base:Heap} {f T:Addr} {fd:FuncData}
theorem cw:aK ["pot", "web", "parts", "made", "way", "at", "part", "spot", "other"] ["pot", "web", "parts"] (ak dP):=⟨rfl,rfl,rfl,by decide +kernel,rfl,by decide +kernel,by decide +kernel⟩
theorem tH (F:Fun K "_law_spoilt" "_law_spoilt" dP f fd) (B:Blt mg) (cLAnyOrder:Cal P w K mg base 2 "_law_any_order" ["pot", "some"] ig) (cLPick:Cal P w K mg base 1 "_law_pick" ["pot", "many"] eI):bE P w K mg base CX0 3 f fd ["pot", "web", "parts"] fI:=by
 refine F.ok cw (fun vs H Q E h => ?_) (fun cdv A outer s H vs Q E hr h => ?_)
 ·obtain ⟨_,_,_,_,_,_,rfl,_⟩:=eM.mp h
  rfl
 obtain ⟨p,r,l,m,ts,us,rfl,pt,W,m1,el,tu,PP,q⟩:=eM.mp h
 refine ⟨_,(@aj _ _ _ _ _ (@aA _ _ 3 _ _ _ _ cw.nd rfl (Or.inl rfl) (aJ cLAnyOrder hr (by decide) rfl (@aa _ _ _ _ _ (pv 0) (@aa _ _ _ _ _ (pv 2) ag rfl) rfl)) rfl (by first | exact .inl rfl | exact .inr rfl | assumption))
  (@aj _ _ _ _ _ (@aA _ _ 4 _ _ _ _ cw.nd rfl (Or.inl rfl) (aJ cLPick hr (by decide) rfl (@aa _ _ _ _ _ (pv 0) (@aa _ _ _ _ _ ah ag rfl) rfl)) rfl (by first | exact .inl rfl | exact .inr rfl | assumption))
  (@aj _ _ _ _ _ (@bD _ _ _ _ _ _ _ _ (PW.pt (nC (aF (yI hr) (pv 3) (@bW _ _ _ _ ag) (aX _)) (jq (aF fU (pv 4) ah (aX _))))) (@ao _ _ _ (@aM _ _ _ _ (@ay _ _ _ _ _ _ _ _ gH (pv 3) (cB gC (@bW _ _ _ _ (@aa _ _ _ _ _ (@dy _ _ _ _ _ ag) ag rfl)) d7 (cM (@ay _ _ _ _ _ _ _ _ fJ (aJ cLPick hr (by decide) rfl (@aa _ _ _ _ _ (pv 0) (@aa _ _ _ _ _ ah ag rfl) rfl)) ah)))))) aU)
  (@aj _ _ _ _ _ (@aA _ _ 5 _ _ _ _ cw.nd rfl (Or.inl rfl) (aJ cLPick hr (by decide) rfl (@aa _ _ _ _ _ (pv 0) (@aa _ _ _ _ _ (av aG rfl B.b_len gj (@aa _ _ _ _ _ (pv 3) ag rfl)) ag rfl) rfl)) rfl (by first | exact .inl rfl | exact .inr rfl | assumption))
  (@aj _ _ _ _ _ (@aA _ _ 6 _ _ _ _ cw.nd rfl (Or.inl rfl) (@aH _ _ _ _ _ _ _ bN (pv 3) (pv 5) (fun _ _=>rfl)) rfl (by first | exact .inl rfl | exact .inr rfl | assumption))
  (@aj _ _ _ _ _ (@aA _ _ 7 _ _ _ _ cw.nd rfl (Or.inl rfl) (aJ cLPick hr (by decide) rfl (@aa _ _ _ _ _ (pv 0) (@aa _ _ _ _ _ (av aG rfl B.b_len gj (@aa _ _ _ _ _ (pv 6) ag rfl)) ag rfl) rfl)) rfl (by first | exact .inl rfl | exact .inr rfl | assumption))
  (@aj _ _ _ _ _ (@aA _ _ 8 _ _ _ _ cw.nd rfl (Or.inl rfl) (@aH _ _ _ _ _ _ _ aO (@dy _ _ _ _ _ (@aa _ _ _ _ _ (aJ cLPick hr (by decide) rfl (@aa _ _ _ _ _ (pv 0) (@aa _ _ _ _ _ (@aH _ _ _ _ _ _ _ aO (pv 1) ah (fun _ _=>rfl)) ag rfl) rfl)) (@aa _ _ _ _ _ (@aH _ _ _ _ _ _ _ aO (pv 1) ah (fun _ _=>rfl)) (@aa _ _ _ _ _ (tR pB ah) (@aa _ _ _ _ _ (@ay _ _ _ _ _ _ _ _ gf ah ah) ag rfl) rfl) rfl) rfl)) (aJ cLPick hr (by decide) rfl (@aa _ _ _ _ _ (pv 0) (@aa _ _ _ _ _ ah ag rfl) rfl)) (fun _ _=>rfl)) rfl (by first | exact .inl rfl | exact .inr rfl | assumption))
  (@aj _ _ _ _ _ (@bD _ _ _ _ _ _ _ _ (aF fU (pv 4) ah (aX _)) (@ao _ _ _ (@aM _ _ _ _ (@ay _ _ _ _ _ _ _ _ gH (cB gC (pv 3) d7 (cM (pv 5))) (cB gC (pv 3) (cM (@ay _ _ _ _ _ _ _ _ bJ (pv 5) ah)) d7)))) aU)
  (@aj _ _ _ _ _ (@bD _ _ _ _ _ _ _ _ (aF fU (pv 4) ah (aX _)) (@ao _ _ _ (@aM _ _ _ _ (@ay _ _ _ _ _ _ _ _ gH (pv 3) (@bW _ _ _ _ (@aa _ _ _ _ _ (pv 6) ag rfl))))) aU)
  (@aj _ _ _ _ _ (@bD _ _ _ _ _ _ _ _ (aF fU (pv 4) ah (aX _)) (@ao _ _ _ (@ju _ _ _ _ _ _ (@ay _ _ _ _ _ _ _ _ jW (cB mW (pv 6) d7 (cM (pv 7))) (cB mW (pv 6) (cM (@ay _ _ _ _ _ _ _ _ bJ (pv 7) ah)) d7)) (jt (pv 3) (pv 5) set_list) rfl rfl rfl)) aU)
  (@aj _ _ _ _ _ (@bD _ _ _ _ _ _ _ _ (aF fU (pv 4) ah (aX _)) (@ao _ _ _ (@ju _ _ _ _ _ _ (aE bp rfl B.b_tuple jZ (@aa _ _ _ _ _ (av bY rfl B.b_sorted bq (@aa _ _ _ _ _ (@ay _ _ _ _ _ _ _ _ jW (pv 6) (@dy _ _ _ _ _ (@aa _ _ _ _ _ (pv 8) ag rfl))) ag rfl)) ag rfl)) (jt (pv 3) (pv 5) set_list) rfl rfl rfl)) aU)
  (@aj _ _ _ _ _ (@bD _ _ _ _ _ _ _ _ (aF fU (pv 4) ah (aX _)) (@ao _ _ _ (@ju _ _ _ _ _ _ (sO hr.hd rfl B.b_tuple rfl B.b_reversed (pv 6)) (jt (pv 3) (pv 5) set_list) rfl rfl rfl)) aU)
  (@aj _ _ _ _ _ (@bD _ _ _ _ _ _ _ _ (aF fU (pv 4) ah (aX _)) (@ao _ _ _ (@aM _ _ _ _ (@ay _ _ _ _ _ _ _ _ gH (@ay _ _ _ _ _ _ _ _ gH (cB gC (pv 3) d7 (cM (pv 5))) (cB gC (pv 3) (cM (@ay _ _ _ _ _ _ _ _ bJ (pv 5) ah)) (cM (tR pB ah)))) (@bW _ _ _ _ (@aa _ _ _ _ _ (aE bp rfl B.b_tuple jZ (@aa _ _ _ _ _ (av (de (w:=w) rfl hr.hd) rfl B.b_sorted bq (@aa _ _ _ _ _ (aE (gi (w:=w) rfl hr.hd) rfl B.b_set vd (@aa _ _ _ _ _ (@ay _ _ _ _ _ _ _ _ jW (pv 6) (@aH _ _ _ _ _ _ _ bN (pv 3) (tR pB ah) (fun _ _=>rfl))) ag rfl)) ag rfl)) ag rfl)) ag rfl))))) aU)
  (@aj _ _ _ _ _ (@bD _ _ _ _ _ _ _ _ (aF fU (pv 4) ah (aX _)) (@ao _ _ _ (bU (eY PySem.F.plainAttrs_list PySem.F.slot_list_insert PySem.F.type_list_insert kU (pv 3) (@aa _ _ _ _ _ (pv 5) (@aa _ _ _ _ _ (@dy _ _ _ _ _ ag) ag rfl) rfl)))) aU)
  (@ao _ _ _ (@aM _ _ _ _ (pv 3))))))))))))))))),?_⟩
 have lu:=xC PP
 rw [List.length_map] at lu
 refine ⟨_,rfl,_,rfl,fB.mpr ⟨p,l,us,rfl,pt,el,by omega,fun z os H1 b1 hz ez pm => ?_⟩⟩
 have M1:Md p H H1 z os:=⟨b1,hz,ez,fun u hu=>b1.tup pt (tu u (pm.subset hu)),fun u hu=>by
  have:=h9 (PP.sm u.2 (List.mem_map_of_mem (f:=(·.2)) (pm.subset hu))).1
  omega,by rw [pm.length_eq]; omega⟩
 have l100:os.length<=100:=by rw [pm.length_eq]; omega
 have ne:∀ u ∈ os,u.2 ≠ []/\u.2.length<=m:=fun u hu=>by
  have:=PP.sm u.2 (List.mem_map_of_mem (f:=(·.2)) (pm.subset hu))
  exact ⟨this.2,h9 this.1⟩
 refine ⟨_,rfl,aR.mpr ⟨p,9,rfl,b1.pot,by decide,by decide,fun wy H2 w0 w9 b2 => ?_⟩⟩
 have M2:=M1.but pt b2
 refine ⟨_,rfl,by decide,fun n0 hn0 => ?_⟩
 have g3:=af hn0 (.lst [])
 have en0:upd H2 n0 (.lst []) n0=some (.lst []):=ae
 have M3:=M2.same g3
 generalize upd H2 n0 (.lst [])=H3 at g3 en0 M3
 refine ⟨z,n0,_,_,rfl,rfl,SqL.of M3.e,SqL.of en0,?_⟩
 by_cases h0:os=[]
 ·refine .inr ⟨by rw [h0]; exact .nil,_,rfl,bT (bT ?_)⟩
  refine ⟨_,rfl,by decide,fun x0 hx0 => ?_⟩
  have g4:=af hx0 (.tup [])
  have ex0:upd H3 x0 (.tup []) x0=some (.tup []):=ae
  generalize upd H3 x0 (.tup [])=H4 at g4 ex0
  refine ⟨(by show 1<=sizeLine; decide),fun y0 hy0 => ?_⟩
  have g5:=af hy0 (.lst [.ref x0])
  have ey0:upd H4 y0 (.lst [.ref x0]) y0=some (.lst [.ref x0]):=ae
  generalize upd H4 y0 (.lst [.ref x0])=H5 at g5 ey0
  have M4:=M3.same g4
  have M5:=M4.same g5
  refine ⟨_,rfl,aR.mpr ⟨p,8,rfl,M5.b.pot,by decide,by decide,fun d H6 d0 d1 b6=>⟨_,_,rfl,rfl,⟨by decide,by decide⟩,_,rfl,y0,_,rfl,SqL.of (b6.st _ _ (nk M4.b.pot hy0) ey0),fun p6 hp6 => ?_⟩⟩⟩
  obtain ⟨ks,ek,mk,lk⟩:=dX [(x0,[])] none (some (d / 7))
  have ek:eR [V.ref x0] none (some (d / 7))=ks.map (fun u=>V.ref u.1):=ek
  rw [ek]
  have M6:=M5.but pt b6
  have ex6:H6 x0=some (.tup []):=b6.tup M5.b.pot (g5 _ _ ex0)
  have g7:=af hp6 (.lst (ks.map fun u => .ref u.1))
  have ep6:upd H6 p6 (.lst (ks.map fun u => .ref u.1)) p6=some (.lst (ks.map fun u => .ref u.1)):=ae
  generalize upd H6 p6 (.lst (ks.map fun u => .ref u.1))=H7 at g7 ep6
  have M7:=M6.same g7
  have lk:ks.length<=1:=lk
  refine ⟨z,p6,_,_,rfl,rfl,SqL.of M7.e,SqL.of ep6,by rw [List.length_map,List.length_map]; exact small (by have:=M7.c; omega),fun p7 hp7 => ?_⟩
  rw [<- List.map_append]
  refine q p7 _ _ (Md.new M7.b pt hp7 (fun v hv => ?_) (fun v hv => ?_) (by rw [List.length_append]; omega))
  ·rcases List.mem_append.mp hv with hv | hv
   ·exact M7.t v hv
   ·rw [List.mem_singleton.mp (mk v hv)]; exact g7 _ _ ex6
  ·rcases List.mem_append.mp hv with hv | hv
   ·exact M7.l v hv
   ·rw [List.mem_singleton.mp (mk v hv)]; exact Nat.zero_le _
 refine .inl ⟨by rw [List.length_map]; exact fun e=>h0 (List.length_eq_zero_iff.mp e),_,rfl,cY ⟨_,rfl,rfl,_,rfl,bC (fun y => ?_) (fun y => ?_)⟩⟩
 ·refine ⟨_,rfl,by decide,fun x0 hx0 => ?_⟩
  have g4:=af hx0 (.tup [])
  have ex0:upd H3 x0 (.tup []) x0=some (.tup []):=ae
  generalize upd H3 x0 (.tup [])=H4 at g4 ex0
  refine ⟨(by show 1<=sizeLine; decide),fun y0 hy0 => ?_⟩
  have g5:=af hy0 (.lst [.ref x0])
  have ey0:upd H4 y0 (.lst [.ref x0]) y0=some (.lst [.ref x0]):=ae
  generalize upd H4 y0 (.lst [.ref x0])=H5 at g5 ey0
  have M4:=M3.same g4
  have M5:=M4.same g5
  refine ⟨_,rfl,aR.mpr ⟨p,8,rfl,M5.b.pot,by decide,by decide,fun d H6 d0 d1 b6=>⟨_,_,rfl,rfl,⟨by decide,by decide⟩,_,rfl,y0,_,rfl,SqL.of (b6.st _ _ (nk M4.b.pot hy0) ey0),fun p6 hp6 => ?_⟩⟩⟩
  obtain ⟨ks,ek,mk,lk⟩:=dX [(x0,[])] none (some (d / 7))
  have ek:eR [V.ref x0] none (some (d / 7))=ks.map (fun u=>V.ref u.1):=ek
  rw [ek]
  have M6:=M5.but pt b6
  have ex6:H6 x0=some (.tup []):=b6.tup M5.b.pot (g5 _ _ ex0)
  have g7:=af hp6 (.lst (ks.map fun u => .ref u.1))
  have ep6:upd H6 p6 (.lst (ks.map fun u => .ref u.1)) p6=some (.lst (ks.map fun u => .ref u.1)):=ae
  generalize upd H6 p6 (.lst (ks.map fun u => .ref u.1))=H7 at g7 ep6
  have M7:=M6.same g7
  have lk:ks.length<=1:=lk
  refine ⟨z,p6,_,_,rfl,rfl,SqL.of M7.e,SqL.of ep6,by rw [List.length_map,List.length_map]; exact small (by have:=M7.c; omega),fun p7 hp7 => ?_⟩
  rw [<- List.map_append]
  refine q p7 _ _ (Md.new M7.b pt hp7 (fun v hv => ?_) (fun v hv => ?_) (by rw [List.length_append]; omega))
  ·rcases List.mem_append.mp hv with hv | hv
   ·exact M7.t v hv
   ·rw [List.mem_singleton.mp (mk v hv)]; exact g7 _ _ ex6
  ·rcases List.mem_append.mp hv with hv | hv
   ·exact M7.l v hv
   ·rw [List.mem_singleton.mp (mk v hv)]; exact Nat.zero_le _
 have lp:=List.length_pos_iff.mpr h0
 have lo:(os.map fun u=>V.ref u.1).length=os.length:=List.length_map _
 have lc:=M3.c
 refine ⟨_,rfl,_,rfl,z,_,rfl,.inl (SqL.of M3.e),aR.mpr ⟨p,_,rfl,M3.b.pot,by rw [lo]; omega,by rw [lo]; omega,fun ai H4 a0 a1 b4 => ?_⟩⟩
 rw [lo] at a1
 obtain ⟨u,mu,ix,eat⟩:=yR a0 a1
 have M4:=M3.but pt b4
 have lum:(u.2.map V.int).length=u.2.length:=List.length_map _
 have nu:=ne u mu
 have pu:=List.length_pos_iff.mpr nu.1
 refine ⟨_,rfl,_,rfl,z,_,ai,.ref u.1,rfl,rfl,SqL.of M4.e,eat,?_⟩
 refine ⟨_,rfl,_,rfl,u.1,_,rfl,.inr (SqT.of (M4.t u mu)),aR.mpr ⟨p,_,rfl,M4.b.pot,by rw [lum]; omega,by rw [lum]; omega,fun sp H5 s0 s1 b5 => ?_⟩⟩
 have M5:=M4.but pt b5
 obtain ⟨t,e1,e2⟩:=(M5.b.wb pt W).at'
 refine ⟨_,rfl,_,rfl,r,_,0,_,rfl,rfl,SqT.of e1,rfl,aR.mpr ⟨p,m,rfl,M5.b.pot,by omega,by omega,fun o1 H6 _ _ b6 => ?_⟩⟩
 have M6:=M5.but pt b6
 obtain ⟨t',e1',e2'⟩:=(M6.b.wb pt W).at'
 refine ⟨_,rfl,r,_,0,_,rfl,rfl,SqT.of e1',rfl,_,rfl,_,_,rfl,rfl,⟨by decide,by decide,by decide⟩,(by show 4<=sizeLine; decide),fun tp htp => ?_⟩
 dsimp only
 have g7:=af htp (.tup [.int o1,.int m,.int (-1),.int (10 ^ (59:Int).toNat)])
 have etp:upd H6 tp (.tup [.int o1,.int m,.int (-1),.int (10 ^ (59:Int).toNat)]) tp=some (.tup [.int o1,.int m,.int (-1),.int (10 ^ (59:Int).toNat)]):=ae
 have M7:=M6.same g7
 generalize (10:Int) ^ (59:Int).toNat=big at g7 etp M7
 generalize upd H6 tp (.tup [.int o1,.int m,.int (-1),.int big])=H7 at g7 etp M7
 refine ⟨_,rfl,aR.mpr ⟨p,4,rfl,M7.b.pot,by decide,by decide,fun d H8 d0 d1 b8 => ?_⟩⟩
 have M8:=M7.but pt b8
 obtain ⟨o,eo⟩:∃ v:Int,atI [V.int o1,V.int m,V.int (-1),V.int big] d=some (.int v):=by
  rcases (show d=0\/d=1\/d=2\/d=3 by omega) with z | z | z | z <;> subst z <;> exact ⟨_,rfl⟩
 refine ⟨tp,_,d,_,rfl,rfl,SqT.of (b8.tup M7.b.pot etp),eo,?_⟩
 have eu:=M8.t u mu
 have ul:=M8.l u mu
 have c8:=M8.c
 clear b1 b2 b4 b5 b6 b8 M1 M2 M3 M4 M5 M6 M7 e1 e2 e1' e2' eo
 refine ⟨_,rfl,rfl,_,rfl,bC (fun y => ?_) (fun y1 => ?_)⟩
 ·refine ⟨_,rfl,_,rfl,_,rfl,z,_,rfl,SqL.of M8.e,fun p1 hp1 => ?_⟩
  obtain ⟨ks,ek,mk,lk⟩:=dX os none (some ai)
  rw [ek]
  have g9:=af hp1 (.lst (ks.map fun u => .ref u.1))
  have ep1:upd H8 p1 (.lst (ks.map fun u => .ref u.1)) p1=some (.lst (ks.map fun u => .ref u.1)):=ae
  have M9:=M8.same g9
  generalize upd H8 p1 (.lst (ks.map fun u => .ref u.1))=H9 at g9 ep1 M9
  refine ⟨_,rfl,_,rfl,_,_,rfl,rfl,_,rfl,z,_,rfl,SqL.of M9.e,fun p2 hp2 => ?_⟩
  obtain ⟨ls,el',ml,ll⟩:=dX os (some (ai + 1)) none
  rw [el']
  have g10:=af hp2 (.lst (ls.map fun u => .ref u.1))
  have ep2:upd H9 p2 (.lst (ls.map fun u => .ref u.1)) p2=some (.lst (ls.map fun u => .ref u.1)):=ae
  have M10:=M9.same g10
  generalize upd H9 p2 (.lst (ls.map fun u => .ref u.1))=H10 at g10 ep2 M10
  refine ⟨p1,p2,_,_,rfl,rfl,SqL.of (g10 _ _ ep1),SqL.of ep2,by rw [List.length_map,List.length_map]; exact small (by omega),fun p3 hp3 => ?_⟩
  rw [<- List.map_append]
  have mm:∀ v ∈ ks ++ ls,v ∈ os:=fun v hv=>(List.mem_append.mp hv).elim (mk v) (ml v)
  refine q p3 _ _ (Md.new M10.b pt hp3 (fun v hv=>M10.t v (mm v hv)) (fun v hv=>M10.l v (mm v hv)) ?_)
  have lka:ks.length + ls.length<=200:=by omega
  rw [List.length_append]; omega
 refine ⟨_,rfl,rfl,_,rfl,bC (fun y => ?_) (fun y2 => ?_)⟩
 ·refine ⟨_,rfl,_,rfl,(by show 1<=sizeLine; decide),fun p1 hp1 => ?_⟩
  have g9:=af hp1 (.lst [.ref u.1])
  have ep1:upd H8 p1 (.lst [.ref u.1]) p1=some (.lst ([u].map fun u => .ref u.1)):=ae
  have M9:=M8.same g9
  generalize upd H8 p1 (.lst [.ref u.1])=H9 at g9 ep1 M9
  refine ⟨z,p1,_,_,rfl,rfl,SqL.of M9.e,SqL.of ep1,by rw [List.length_map,List.length_map]; exact small (by show _ + 1<=_; omega),fun p2 hp2 => ?_⟩
  rw [<- List.map_append]
  have mm:∀ v ∈ os ++ [u],v ∈ os:=fun v hv=>(List.mem_append.mp hv).elim id fun h=>by rw [List.mem_singleton.mp h]; exact mu
  exact q p2 _ _ (Md.new M9.b pt hp2 (fun v hv=>M9.t v (mm v hv)) (fun v hv=>M9.l v (mm v hv)) (by rw [List.length_append]; show _ + 1<=_; omega))
 refine ⟨_,rfl,rfl,_,rfl,bC (fun y => ?_) (fun y3 => ?_)⟩
 ·have wv:wy=3:=V.int.inj (of_decide_eq_true y)
  refine ⟨_,rfl,_,rfl,_,rfl,u.1,_,rfl,eu,fun p1 H9 s9 e9 => ?_⟩
  obtain ⟨k1,ek1,lk1⟩:=pk u.2 none (some sp)
  rw [ek1] at e9
  refine ⟨_,rfl,_,rfl,_,_,rfl,rfl,_,rfl,u.1,_,rfl,s9 _ _ eu,fun p2 H10 s10 e10 => ?_⟩
  obtain ⟨k2,ek2,lk2⟩:=pk u.2 (some (sp + 1)) none
  rw [ek2] at e10
  refine ⟨p1,p2,_,_,rfl,rfl,s10 _ _ e9,e10,by rw [List.length_map,List.length_map]; exact small (by omega),fun p3 H11 s11 e11 => ?_⟩
  rw [<- List.map_append] at e11
  have M11:=M8.same (s9.trans (s10.trans s11))
  have l11:(k1 ++ k2).length<=250:=by
   have:=nu.2
   rw [List.length_append]; omega
  refine ⟨_,rfl,_,rfl,z,_,ai,ai.toNat,rfl,rfl,M11.e,ix,?_⟩
  rw [show (os.map fun u=>V.ref u.1).set ai.toNat (V.ref p3)=(os.set ai.toNat (p3,k1 ++ k2)).map (fun u=>V.ref u.1) by rw [List.map_set]]
  have MM:=M11.put pt (ks:=os.set ai.toNat (p3,k1 ++ k2)) (fun v hv=>(List.mem_or_eq_of_mem_set hv).elim (M11.t v) fun e=>by rw [e]; exact e11) (fun v hv=>(List.mem_or_eq_of_mem_set hv).elim (M11.l v) fun e=>by rw [e]; exact l11) (by rw [List.length_set]; exact M11.c)
  refine ⟨_,rfl,rfl,_,rfl,bC (fun y=>absurd y (by rw [wv]; decide)) (fun _ => ?_)⟩
  refine ⟨_,rfl,rfl,_,rfl,bC (fun y=>absurd y (by rw [wv]; decide)) (fun _ => ?_)⟩
  refine ⟨_,rfl,rfl,_,rfl,bC (fun y=>absurd y (by rw [wv]; decide)) (fun _ => ?_)⟩
  refine ⟨_,rfl,rfl,_,rfl,bC (fun y=>absurd y (by rw [wv]; decide)) (fun _ => ?_)⟩
  exact ⟨_,rfl,q z _ _ MM⟩
 refine ⟨_,rfl,rfl,_,rfl,bC (fun y => ?_) (fun y4 => ?_)⟩
 ·have wv:wy=4:=V.int.inj (of_decide_eq_true y)
  refine ⟨_,rfl,_,rfl,(by show 1<=sizeLine; decide),fun p1 hp1 => ?_⟩
  have g9:=af hp1 (.tup [.int o])
  have ep1:upd H8 p1 (.tup [.int o]) p1=some (.tup ([o].map V.int)):=ae
  generalize upd H8 p1 (.tup [.int o])=H9 at g9 ep1
  refine ⟨u.1,p1,_,_,rfl,rfl,g9 _ _ eu,ep1,by rw [List.length_map,List.length_map]; exact small (by show _ + 1<=_; omega),fun p2 H10 s10 e10 => ?_⟩
  rw [<- List.map_append] at e10
  refine ⟨p2,_,rfl,.inr (SqT.of e10),fun p3 out hp3 pm3 pw3 => ?_⟩
  have g11:=af hp3 (.lst (out.map V.int))
  have ep3:upd H10 p3 (.lst (out.map V.int)) p3=some (.lst (out.map V.int)):=ae
  generalize upd H10 p3 (.lst (out.map V.int))=H11 at g11 ep3
  refine ⟨p3,_,rfl,.inl ⟨SqL.of ep3,fun p4 hp4 => ?_⟩⟩
  have g12:=af hp4 (.tup (out.map V.int))
  have ep4:upd H11 p4 (.tup (out.map V.int)) p4=some (.tup (out.map V.int)):=ae
  generalize upd H11 p4 (.tup (out.map V.int))=H12 at g12 ep4
  have M12:=M8.same (g9.trans (s10.trans (g11.trans g12)))
  have l12:out.length<=250:=by
   have:=nu.2
   rw [pm3.length_eq,List.length_append]; show _ + 1<=_; omega
  refine ⟨_,rfl,_,rfl,z,_,ai,ai.toNat,rfl,rfl,M12.e,ix,?_⟩
  rw [show (os.map fun u=>V.ref u.1).set ai.toNat (V.ref p4)=(os.set ai.toNat (p4,out)).map (fun u=>V.ref u.1) by rw [List.map_set]]
  have MM:=M12.put pt (ks:=os.set ai.toNat (p4,out)) (fun v hv=>(List.mem_or_eq_of_mem_set hv).elim (M12.t v) fun e=>by rw [e]; exact ep4) (fun v hv=>(List.mem_or_eq_of_mem_set hv).elim (M12.l v) fun e=>by rw [e]; exact l12) (by rw [List.length_set]; exact M12.c)
  refine ⟨_,rfl,rfl,_,rfl,bC (fun y=>absurd y (by rw [wv]; decide)) (fun _ => ?_)⟩
  refine ⟨_,rfl,rfl,_,rfl,bC (fun y=>absurd y (by rw [wv]; decide)) (fun _ => ?_)⟩
  refine ⟨_,rfl,rfl,_,rfl,bC (fun y=>absurd y (by rw [wv]; decide)) (fun _ => ?_)⟩
  exact ⟨_,rfl,q z _ _ MM⟩
 refine ⟨_,rfl,rfl,_,rfl,bC (fun y => ?_) (fun y5 => ?_)⟩
 ·have wv:wy=5:=V.int.inj (of_decide_eq_true y)
  refine ⟨_,rfl,u.1,_,rfl,SqT.of eu,by rw [lum]; omega,fun p1 hp1 => ?_⟩
  rw [<- List.map_reverse]
  have g9:=af hp1 (.tup (u.2.reverse.map V.int))
  have ep1:upd H8 p1 (.tup (u.2.reverse.map V.int)) p1=some (.tup (u.2.reverse.map V.int)):=ae
  have M9:=M8.same g9
  generalize upd H8 p1 (.tup (u.2.reverse.map V.int))=H9 at g9 ep1 M9
  have l9:u.2.reverse.length<=250:=by rw [List.length_reverse]; exact ul
  refine ⟨_,rfl,_,rfl,z,_,ai,ai.toNat,rfl,rfl,M9.e,ix,?_⟩
  rw [show (os.map fun u=>V.ref u.1).set ai.toNat (V.ref p1)=(os.set ai.toNat (p1,u.2.reverse)).map (fun u=>V.ref u.1) by rw [List.map_set]]
  have MM:=M9.put pt (ks:=os.set ai.toNat (p1,u.2.reverse)) (fun v hv=>(List.mem_or_eq_of_mem_set hv).elim (M9.t v) fun e=>by rw [e]; exact ep1) (fun v hv=>(List.mem_or_eq_of_mem_set hv).elim (M9.l v) fun e=>by rw [e]; exact l9) (by rw [List.length_set]; exact M9.c)
  refine ⟨_,rfl,rfl,_,rfl,bC (fun y=>absurd y (by rw [wv]; decide)) (fun _ => ?_)⟩
  refine ⟨_,rfl,rfl,_,rfl,bC (fun y=>absurd y (by rw [wv]; decide)) (fun _ => ?_)⟩
  exact ⟨_,rfl,q z _ _ MM⟩
 refine ⟨_,rfl,rfl,_,rfl,bC (fun y => ?_) (fun y6 => ?_)⟩
 ·refine ⟨_,rfl,_,rfl,_,rfl,z,_,rfl,SqL.of M8.e,fun p1 hp1 => ?_⟩
  obtain ⟨ks,ek,mk,lk⟩:=dX os none (some ai)
  rw [ek]
  have g9:=af hp1 (.lst (ks.map fun u => .ref u.1))
  have ep1:upd H8 p1 (.lst (ks.map fun u => .ref u.1)) p1=some (.lst (ks.map fun u => .ref u.1)):=ae
  have M9:=M8.same g9
  generalize upd H8 p1 (.lst (ks.map fun u => .ref u.1))=H9 at g9 ep1 M9
  refine ⟨_,rfl,_,rfl,_,_,rfl,rfl,_,rfl,_,rfl,_,rfl,z,_,rfl,SqL.of M9.e,fun p2 hp2 => ?_⟩
  obtain ⟨ls,el',ml,ll⟩:=dX os (some (ai + 1)) (some (-1))
  rw [show eR (os.map fun u=>V.ref u.1) (some (ai + 1)) (some (-1))=ls.map (fun u=>V.ref u.1) from el']
  have g10:=af hp2 (.lst (ls.map fun u => .ref u.1))
  have ep2:upd H9 p2 (.lst (ls.map fun u => .ref u.1)) p2=some (.lst (ls.map fun u => .ref u.1)):=ae
  have M10:=M9.same g10
  generalize upd H9 p2 (.lst (ls.map fun u => .ref u.1))=H10 at g10 ep2 M10
  refine ⟨p1,p2,_,_,rfl,rfl,SqL.of (g10 _ _ ep1),SqL.of ep2,by rw [List.length_map,List.length_map]; exact small (by omega),fun p3 hp3 => ?_⟩
  rw [<- List.map_append]
  have g11:=af hp3 (.lst ((ks ++ ls).map fun u => .ref u.1))
  have ep3:upd H10 p3 (.lst ((ks ++ ls).map fun u => .ref u.1)) p3=some (.lst ((ks ++ ls).map fun u => .ref u.1)):=ae
  have M11:=M10.same g11
  generalize upd H10 p3 (.lst ((ks ++ ls).map fun u => .ref u.1))=H11 at g11 ep3 M11
  obtain ⟨v,mv,ev⟩:=xB h0
  have nv:=ne v mv
  refine ⟨_,rfl,_,rfl,_,rfl,z,_, -1,_,rfl,rfl,SqL.of M11.e,ev,u.1,v.1,_,_,rfl,rfl,M11.t u mu,M11.t v mv,by rw [List.length_map,List.length_map]; exact small (by omega),fun p4 H12 s12 e12 => ?_⟩
  rw [<- List.map_append] at e12
  have luv:(u.2 ++ v.2).length<=200:=by rw [List.length_append]; omega
  refine ⟨p4,_,rfl,.inr (SqT.of e12),by omega,fun sa S hsa mem nd le => ?_⟩
  have g13:=af hsa (bO w sa (S.map V.int))
  have esa:upd H12 sa (bO w sa (S.map V.int)) sa=some (bO w sa (S.map V.int)):=ae
  generalize upd H12 sa (bO w sa (S.map V.int))=H13 at g13 esa
  refine ⟨sa,S,rfl,esa,by omega,fun so out hso pmo pwo => ?_⟩
  have g14:=af hso (.lst (out.map V.int))
  have eso:upd H13 so (.lst (out.map V.int)) so=some (.lst (out.map V.int)):=ae
  generalize upd H13 so (.lst (out.map V.int))=H14 at g14 eso
  refine ⟨so,_,rfl,.inl ⟨SqL.of eso,fun tq htq => ?_⟩⟩
  have g15:=af htq (.tup (out.map V.int))
  have etq:upd H14 tq (.tup (out.map V.int)) tq=some (.tup (out.map V.int)):=ae
  generalize upd H14 tq (.tup (out.map V.int))=H15 at g15 etq
  refine ⟨(by show 1<=sizeLine; decide),fun lq hlq => ?_⟩
  have g16:=af hlq (.lst [.ref tq])
  have elq:upd H15 lq (.lst [.ref tq]) lq=some (.lst ([(tq,out)].map fun u => .ref u.1)):=ae
  have etq:=g16 _ _ etq
  generalize upd H15 lq (.lst [.ref tq])=H16 at g16 elq etq
  have s16:=s12.trans (g13.trans (g14.trans (g15.trans g16)))
  have M16:=M11.same s16
  refine ⟨p3,lq,_,_,rfl,rfl,SqL.of (s16 _ _ ep3),SqL.of elq,by rw [List.length_map,List.length_map,List.length_append]; exact small (by show _ + 1<=_; omega),fun pz hpz => ?_⟩
  rw [<- List.map_append]
  have mm:∀ v ∈ ks ++ ls,v ∈ os:=fun v hv=>(List.mem_append.mp hv).elim (mk v) (ml v)
  refine q pz _ _ (Md.new M16.b pt hpz (fun v hv => ?_) (fun v hv => ?_) (by rw [List.length_append,List.length_append]; show _ + 1<=_; omega))
  ·rcases List.mem_append.mp hv with hv | hv
   ·exact M16.t v (mm v hv)
   ·rw [List.mem_singleton.mp hv]; exact etq
  ·rcases List.mem_append.mp hv with hv | hv
   ·exact M16.l v (mm v hv)
   ·rw [List.mem_singleton.mp hv]
    show out.length<=250
    rw [pmo.length_eq]; omega
 refine ⟨_,rfl,rfl,_,rfl,bC (fun y => ?_) (fun y7 => ?_)⟩
 ·refine ⟨_,rfl,.inl ⟨rfl,_,SqL.of M8.e⟩,_,rfl,by decide,fun p1 hp1 => ?_⟩
  have g9:=af hp1 (.tup [])
  have ep1:upd H8 p1 (.tup []) p1=some (.tup (([]:List Int).map V.int)):=ae
  have M9:=M8.same g9
  generalize upd H8 p1 (.tup [])=H9 at g9 ep1 M9
  refine ⟨z,_,ai,_,rfl,rfl,M9.e,a0,by rw [lo]; omega,by rw [lo]; exact Nat.lt_of_lt_of_le (Nat.lt_succ_self _) (small (by omega)),?_⟩
  rw [show (os.map fun u=>V.ref u.1).take ai.toNat ++ V.ref p1 :: (os.map fun u=>V.ref u.1).drop ai.toNat=(os.take ai.toNat ++ (p1,[]) :: os.drop ai.toNat).map (fun u=>V.ref u.1) by rw [List.map_append,List.map_cons,List.map_take,List.map_drop]]
  have mm:∀ v ∈ os.take ai.toNat ++ (p1,[]) :: os.drop ai.toNat,v ∈ os\/v=(p1,[]):=fun v hv=>by
   rcases List.mem_append.mp hv with hv | hv
   ·exact .inl (List.mem_of_mem_take hv)
   ·rcases List.mem_cons.mp hv with hv | hv
    ·exact .inr hv
    ·exact .inl (List.mem_of_mem_drop hv)
  have MM:=M9.put pt (ks:=os.take ai.toNat ++ (p1,[]) :: os.drop ai.toNat) (fun v hv=>(mm v hv).elim (M9.t v) fun e=>by rw [e]; exact ep1) (fun v hv=>(mm v hv).elim (M9.l v) fun e=>by rw [e]; exact Nat.zero_le _) (by rw [List.length_append,List.length_cons,List.length_take,List.length_drop]; omega)
  exact ⟨_,rfl,q z _ _ MM⟩
 exact ⟨_,rfl,q z _ _ M8⟩
end
open PySem L2
def pq (K:PySem.W.Frag):Sp:=fun vs H Q _=>∃ (a:Addr) (ns:List Int),vs=[.ref a]/\SqL K H a (ns.map V.int)/\ns.length<=63/\∀ H',Q (.bl true) H'
theorem mi {K:PySem.W.Frag} {vs:List V} {H:Hp} {Q:VK} {E:XK}:pq K vs H Q E ↔ ∃ (a:Addr) (ns:List Int),vs=[.ref a]/\SqL K H a (ns.map V.int)/\ns.length<=63/\∀ H',Q (.bl true) H':=Iff.rfl
theorem at6 {i:Int} (h0:0<=i) (h1:i < 6):∃ v:Int,atI [V.int 4,V.int 8,V.int 8,V.int 20,V.int 20,V.int 40] i=some (.int v)/\0<=v/\v<=40:=by
 rcases (show i=0\/i=1\/i=2\/i=3\/i=4\/i=5 by omega) with z | z | z | z | z | z <;> subst z <;> exact ⟨_,rfl,by decide,by decide⟩
theorem mj {K:PySem.W.Frag} {H:Hp} (n:Nat):∀ {us vs:List (Addr × List Int)},us.map (·.2)=vs.map (·.2)->(∀ u ∈ us,H u.1=some (.tup (u.2.map V.int)))->(∀ u ∈ vs,H u.1=some (.tup (u.2.map V.int)))->Paired (cZ K H (n + 2)) (us.map fun u => .ref u.1) (vs.map fun u => .ref u.1)
 | [],[],_,_,_ => .nil
 | [],_ :: _,e,_,_=>by cases e
 | _ :: _,[],e,_,_=>by cases e
 | u :: us,v :: vs,e,h1,h2=>by
  rw [List.map_cons,List.map_cons] at e
  injection e with e1 e2
  have allI:∀ l:List Int,Paired (cZ K H (n + 1)) (l.map V.int) (l.map V.int):=by
   intro l
   induction l with
   | nil=>exact .nil
   | cons x l ih=>exact .cons (.inl ⟨x,rfl,rfl⟩) ih
  refine .cons (.inr (.inr ⟨u.1,v.1,_,_,rfl,rfl,.inl ⟨SqT.of (h1 u List.mem_cons_self),SqT.of (h2 v List.mem_cons_self)⟩,?_⟩)) (mj n e2 (fun x hx=>h1 x (List.mem_cons_of_mem _ hx)) fun x hx=>h2 x (List.mem_cons_of_mem _ hx))
  rw [e1]
  exact allI _
theorem tI (ns:List (List Int)) (m:Nat) (ps:List (List Int)):twv ns m ps = .non\/∃ i:Int,twv ns m ps = .int i:=by
 unfold twv
 by_cases h:bP ns m ps=true
 ·rw [if_pos h]; exact .inr ⟨_,rfl⟩
 ·rw [if_neg h]; exact .inl rfl
section
variable {P:Program} {w:World} {K:PySem.W.Frag} {mg:Str->Option Value} {base:Heap} {f T:Addr} {fd:FuncData}
theorem iw:aK ["script", "k", "pot", "web", "parts", "due", "handed", "some", "found"] ["script"] (ak mX):=⟨rfl,rfl,rfl,by decide +kernel,rfl,by decide +kernel,by decide +kernel⟩
theorem zR (F:Fun K "law" "law" mX f fd) (B:Blt mg) (cLDeal:Cal P w K mg base 1 "_law_deal" ["script", "k"] (j8 K)) (cLThrees:Cal P w K mg base 2 "_law_threes" ["pot", "most"] fu) (cLSpoilt:Cal P w K mg base 3 "_law_spoilt" ["pot", "web", "parts"] fI) (cLCount:Cal P w K mg base 3 "_law_count" ["web", "parts"] ir) (cLParting:Cal P w K mg base 2 "_law_parting" ["pot", "web"] dU) (cPartingTwice:Cal P w K mg base 5 "parting_twice" ["web", "parts"] iq) (cLPick:Cal P w K mg base 1 "_law_pick" ["pot", "many"] eI) (cLWhole:Cal P w K mg base 1 "_law_whole" ["found"] nh):bE P w K mg base CX0 6 f fd ["script"] (pq K):=by
 refine F.ok iw (fun vs H Q E h => ?_) (fun cdv A outer s H vs Q E hr h => ?_)
 ·obtain ⟨_,_,rfl,_⟩:=mi.mp h
  rfl
 obtain ⟨a,ns,rfl,hS,h63,q⟩:=mi.mp h
 refine ⟨_,(@aj _ _ _ _ _ (@bV _ _ _ _ _ _ _ _ PassesOwn.never rfl (cj rfl B.b_range (@aa _ _ _ _ _ (av (kN rfl) rfl B.b_max vc (@aa _ _ _ _ _ ah (@aa _ _ _ _ _ (av (iD rfl) rfl B.b_min qe (@aa _ _ _ _ _ (av aG rfl B.b_len gj (@aa _ _ _ _ _ (pv 0) ag rfl)) (@aa _ _ _ _ _ ah ag rfl) rfl)) ag rfl) rfl)) ag rfl)) (aB (i:=1) iw.nd rfl (Or.inl rfl))
   (@aj _ _ _ _ _ (@aA _ _ 2 _ _ _ _ iw.nd rfl (Or.inl rfl) (aJ cLDeal hr (by decide) rfl (@aa _ _ _ _ _ (pv 0) (@aa _ _ _ _ _ (pv 1) ag rfl) rfl)) rfl (by first | exact .inl rfl | exact .inr rfl | assumption))
   (@aj _ _ _ _ _ (@aA _ _ 3 _ _ _ _ iw.nd rfl (Or.inl rfl) (aJ cLThrees hr (by decide) rfl (@aa _ _ _ _ _ (pv 2) (@aa _ _ _ _ _ (@aH _ _ _ _ _ _ _ aO (@dy _ _ _ _ _ (@aa _ _ _ _ _ ah (@aa _ _ _ _ _ ah (@aa _ _ _ _ _ ah (@aa _ _ _ _ _ ah (@aa _ _ _ _ _ ah (@aa _ _ _ _ _ ah ag rfl) rfl) rfl) rfl) rfl) rfl)) (aJ cLPick hr (by decide) rfl (@aa _ _ _ _ _ (pv 2) (@aa _ _ _ _ _ ah ag rfl) rfl)) (fun _ _=>rfl)) ag rfl) rfl)) rfl (by first | exact .inl rfl | exact .inr rfl | assumption))
   (@aj _ _ _ _ _ (@aA _ _ 4 _ _ _ _ iw.nd rfl (Or.inl rfl) (aJ cLSpoilt hr (by decide) rfl (@aa _ _ _ _ _ (pv 2) (@aa _ _ _ _ _ (pv 3) (@aa _ _ _ _ _ (aJ cLParting hr (by decide) rfl (@aa _ _ _ _ _ (pv 2) (@aa _ _ _ _ _ (pv 3) ag rfl) rfl)) ag rfl) rfl) rfl)) rfl (by first | exact .inl rfl | exact .inr rfl | assumption))
   (@aj _ _ _ _ _ (@aA _ _ 5 _ _ _ _ iw.nd rfl (Or.inl rfl) (aJ cLCount hr (by decide) rfl (@aa _ _ _ _ _ (pv 3) (@aa _ _ _ _ _ (pv 4) ag rfl) rfl)) rfl (by first | exact .inl rfl | exact .inr rfl | assumption))
   (@aj _ _ _ _ _ (@aA _ _ 6 _ _ _ _ iw.nd rfl (Or.inl rfl) (aE gG rfl B.b_list ji (@aa _ _ _ _ _ (pv 4) ag rfl)) rfl (by first | exact .inl rfl | exact .inr rfl | assumption))
   (@aj _ _ _ _ _ (@bV _ _ _ _ _ _ _ _ PassesOwn.never rfl (@eV _ _ _ _ (@dy _ _ _ _ _ (@aa _ _ _ _ _ (pv 6) (@aa _ _ _ _ _ (aE bp rfl B.b_tuple jZ (@aa _ _ _ _ _ (pv 4) ag rfl)) (@aa _ _ _ _ _ (pv 6) ag rfl) rfl) rfl))) (aB (i:=7) iw.nd rfl (Or.inl rfl))
    (@aj _ _ _ _ _ (@aA _ _ 8 _ _ _ _ iw.nd rfl (Or.inl rfl) (aJ cPartingTwice hr (by decide) rfl (@aa _ _ _ _ _ (pv 3) (@aa _ _ _ _ _ (pv 7) ag rfl) rfl)) rfl (by first | exact .inl rfl | exact .inr rfl | assumption))
    (@ao _ _ _ (@bD _ _ _ _ _ _ _ _ (PW.pt (nC (aF nG (pv 8) (pv 5) (aX _)) (jq (PW.pt (js (aF vV (pv 8) my (aX _)) (gy (px (jm (aJ cLWhole hr (by decide) rfl (@aa _ _ _ _ _ (pv 8) ag rfl)))))))))) iy aU))) (fun _=>rfl))
   (@ao _ _ _ (@bD _ _ _ _ _ _ _ _ (aF (yl hr) (pv 6) (pv 4) (aX _)) iy aU)))))))) (fun _=>rfl))
  (@ao _ _ _ (@aM _ _ _ _ nB))),?_⟩
 refine ⟨_,rfl,a,_,rfl,.inl hS,_,_,rfl,_,_,rfl,?_⟩
 obtain ⟨N,hN,N0,N1⟩:∃ N:Int,(if (if (12:Int) < ((ns.map V.int).length:Int) then (12:Int) else ((ns.map V.int).length:Int)) > 1 then (if (12:Int) < ((ns.map V.int).length:Int) then (12:Int) else ((ns.map V.int).length:Int)) else 1)=N/\0<=N/\N<=63:=⟨_,rfl,by split <;> (try split) <;> omega,by rw [List.length_map]; split <;> (try split) <;> omega⟩
 rw [hN]
 refine ⟨N,rfl,by omega,by omega,iA (fun _ σ H'=>(∃ c1 c2 c3 c4 c5 c6 c7 c8,σ=[some (.ref a),c1,c2,c3,c4,c5,c6,c7,c8])/\aL H H') ⟨⟨_,_,_,_,_,_,_,_,rfl⟩,aL.refl _⟩ ?_ (fun σ H' _=>q _)⟩
 rintro k σ H0 hk ⟨⟨c1,c2,c3,c4,c5,c6,c7,c8,rfl⟩,s0⟩
 have hk':(k:Int) < 63:=by omega
 refine ⟨_,rfl,_,rfl,gs.mpr ⟨a,ns,0 + (k:Int),rfl,s0.seq hS,by omega,by omega,fun x y p hp => ?_⟩⟩
 have p0:Pot (upd H0 p (.lst [.int x,.int y])) p:=⟨x,y,ae⟩
 have b0:=But.refl p0
 have fr:∀ {H':Hp},But p (upd H0 p (.lst [.int x,.int y])) H'->aL H0 H':=fun b=>But.fresh hp b
 generalize upd H0 p (.lst [.int x,.int y])=H1 at p0 b0 fr
 refine ⟨_,rfl,(by show 6<=sizeLine; decide),fun c hc => ?_⟩
 have gc:=af hc (.tup [.int 4,.int 8,.int 8,.int 20,.int 20,.int 40])
 have b1:=b0.same gc
 have ec:upd H1 c (.tup [.int 4,.int 8,.int 8,.int 20,.int 20,.int 40]) c=some (.tup [.int 4,.int 8,.int 8,.int 20,.int 20,.int 40]):=ae
 refine ⟨_,rfl,aR.mpr ⟨p,6,rfl,b1.pot,by decide,by decide,fun d H2 d0 d1 b2 => ?_⟩⟩
 obtain ⟨v,hv,v0,v1⟩:=at6 d0 d1
 refine ⟨c,_,d,_,rfl,rfl,SqT.of (b2.tup b1.pot ec),hv,eJ.mpr ⟨p,v,rfl,b2.pot,v0,v1,fun b hh ts H3 b3 W3 hm cu => ?_⟩⟩
 obtain ⟨m,em⟩:∃ m,m=2 * hh:=⟨_,rfl⟩
 rw [<- em] at hm W3 cu
 refine ⟨_,rfl,_,rfl,_,rfl,_,rfl,dC.mpr ⟨p,b,m,ts,rfl,b3.pot,W3,by omega,fun l0 us0 H5 b5 hl0 el0 tu0 Ps0 => ?_⟩⟩
 have W5:=b5.wb b3.pot W3
 refine eM.mpr ⟨p,b,l0,m,ts,us0,rfl,b5.pot,W5,by omega,el0,tu0,Ps0,fun z os H6 M => ?_⟩
 have W6:=M.b.wb b5.pot W5
 have s06:aL H0 H6:=fr ((((b1.trans b2).trans b3).trans b5).trans M.b)
 refine ⟨_,rfl,_,rfl,fH.mpr ⟨b,z,m,ts,os,rfl,W6,by omega,M.e,M.t,M.l,by have:=M.c; omega,fun H7 s7 => ?_⟩⟩
 have M7:=M.same s7
 have W7:=W6.same s7
 clear b1 b2 b3 b5
 generalize hT:twv (ts.map (·.2)) m (os.map (·.2))=T
 refine ⟨_,rfl,z,_,rfl,.inl (SqL.of M7.e),fun hd hhd => ?_⟩
 have g8:=af hhd (.lst (os.map fun u => .ref u.1))
 have ehd:upd H7 hd (.lst (os.map fun u => .ref u.1)) hd=some (.lst (os.map fun u => .ref u.1)):=ae
 generalize upd H7 hd (.lst (os.map fun u => .ref u.1))=H8 at g8 ehd
 refine ⟨_,rfl,_,rfl,z,_,rfl,.inl ⟨SqL.of (g8 _ _ M7.e),fun tq htq => ?_⟩⟩
 have g9:=af htq (.tup (os.map fun u => .ref u.1))
 have etq:upd H8 tq (.tup (os.map fun u => .ref u.1)) tq=some (.tup (os.map fun u => .ref u.1)):=ae
 generalize upd H8 tq (.tup (os.map fun u => .ref u.1))=H9 at g9 etq
 refine ⟨_,rfl,(by show 3<=sizeLine; decide),fun t3 ht3 => ?_⟩
 have g10:=af ht3 (.tup [.ref hd,.ref tq,.ref hd])
 have et3:upd H9 t3 (.tup [.ref hd,.ref tq,.ref hd]) t3=some (.tup [.ref hd,.ref tq,.ref hd]):=ae
 generalize upd H9 t3 (.tup [.ref hd,.ref tq,.ref hd])=H10 at g10 et3
 have s10:=g8.trans (g9.trans g10)
 have M10:=M7.same s10
 have W10:=W7.same s10
 have ehd10:=g10 _ _ (g9 _ _ ehd)
 have etq10:=g10 _ _ etq
 refine ⟨t3,rfl,⟨_,SqT.of et3⟩,qt (xs:=[.ref hd,.ref tq,.ref hd]) (fun i σ H'=>(∃ c7 c8,σ=[some (.ref a),some (.int (0 + (k:Int))),some (.ref p),some (.ref b),some (.ref z),some T,some (.ref hd),c7,c8])/\aL H10 H') ⟨⟨_,_,rfl⟩,aL.refl _⟩ (fun i σ H' _ y=>SqT.of (y.2 _ _ et3)) ?_ ?_⟩
 ·rintro i x σ H11 hx ⟨⟨c7,c8,rfl⟩,s11⟩
  obtain ⟨q',ex,eq'⟩:∃ q',x = .ref q'/\(H11 q'=some (.lst (os.map fun u => .ref u.1))\/H11 q'=some (.tup (os.map fun u => .ref u.1))):=by
   match i,hx with
   | 0,hx=>exact ⟨hd,(Option.some.inj hx).symm,.inl (s11 _ _ ehd10)⟩
   | 1,hx=>exact ⟨tq,(Option.some.inj hx).symm,.inr (s11 _ _ etq10)⟩
   | 2,hx=>exact ⟨hd,(Option.some.inj hx).symm,.inl (s11 _ _ ehd10)⟩
  subst ex
  have M11:=M10.same s11
  refine ⟨_,rfl,_,rfl,fG.mpr ⟨b,q',m,ts,os,rfl,W10.same s11,by omega,cu,eq',M11.t,fun u hu=>by have:=M11.l u hu; omega,by have:=M11.c; omega,fun H12 s12 => ?_⟩⟩
  rw [hT]
  have tc:=tI (ts.map (·.2)) m (os.map (·.2))
  rw [hT] at tc
  rcases tc with e | ⟨v',e⟩
  ·subst e
   exact ⟨_,rfl,_,rfl,rfl,_,rfl,bC (fun y=>absurd y (by simp)) (fun _=>⟨_,rfl,rfl,_,rfl,bC (fun y=>absurd y (by simp)) (fun _=>cY ⟨⟨_,_,rfl⟩,s11.trans s12⟩)⟩)⟩
  ·subst e
   exact ⟨_,rfl,_,rfl,rfl,_,rfl,bC (fun y=>absurd y (by simp)) (fun _=>⟨_,rfl,rfl,_,rfl,bC (fun y=>⟨_,rfl,v',rfl,_,rfl,cY ⟨⟨_,_,rfl⟩,s11.trans s12⟩⟩) (fun y=>absurd (by simp) y)⟩)⟩
 ·rintro σ H11 ⟨⟨c7,c8,rfl⟩,s11⟩
  have M11:=M10.same s11
  refine ⟨_,rfl,_,rfl,hd,z,_,_,rfl,rfl,SqL.of (s11 _ _ ehd10),SqL.of M11.e,.inr ⟨mj 18 rfl M11.t M11.t,_,rfl,cY ?_⟩⟩
  exact ⟨⟨_,_,_,_,_,_,_,_,rfl⟩,s0.trans (s06.trans (s7.trans (s10.trans s11)))⟩
end
open PySem L2
theorem all_mk {l:PySem.W.OpenLaw} {w:World} {K:PySem.W.Frag} {h:Heap} {mg:Str->Option Value} {fa:Addr} (X:K.In h) (G:h.Ns mainGlobals mg) (hfa:mg "law" = some (.ref fa))
  {f1:Addr} {od1 an1:Option Addr} {sl1:Array (Option Value)} {oc1 kV1 dc1 pm1 cd1 ct1:Value} {f2:Addr} {od2 an2:Option Addr} {sl2:Array (Option Value)} {oc2 kV2 dc2 pm2 cd2 ct2:Value} {f3:Addr} {od3 an3:Option Addr} {sl3:Array (Option Value)} {oc3 kV3 dc3 pm3 cd3 ct3:Value} {f4:Addr} {od4 an4:Option Addr} {sl4:Array (Option Value)} {oc4 kV4 dc4 pm4 cd4 ct4:Value} {f5:Addr} {od5 an5:Option Addr} {sl5:Array (Option Value)} {oc5 kV5 dc5 pm5 cd5 ct5:Value} {f6:Addr} {od6 an6:Option Addr} {sl6:Array (Option Value)} {oc6 kV6 dc6 pm6 cd6 ct6:Value} {f7:Addr} {od7 an7:Option Addr} {sl7:Array (Option Value)} {oc7 kV7 dc7 pm7 cd7 ct7:Value} {f8:Addr} {od8 an8:Option Addr} {sl8:Array (Option Value)} {oc8 kV8 dc8 pm8 cd8 ct8:Value} {f9:Addr} {od9 an9:Option Addr} {sl9:Array (Option Value)} {oc9 kV9 dc9 pm9 cd9 ct9:Value} {f10:Addr} {od10 an10:Option Addr} {sl10:Array (Option Value)} {oc10 kV10 dc10 pm10 cd10 ct10:Value} {f11:Addr} {od11 an11:Option Addr} {sl11:Array (Option Value)} {oc11 kV11 dc11 pm11 cd11 ct11:Value} {f12:Addr} {od12 an12:Option Addr} {sl12:Array (Option Value)} {oc12 kV12 dc12 pm12 cd12 ct12:Value} {f13:Addr} {od13 an13:Option Addr} {sl13:Array (Option Value)} {oc13 kV13 dc13 pm13 cd13 ct13:Value} {f14:Addr} {od14 an14:Option Addr} {sl14:Array (Option Value)} {oc14 kV14 dc14 pm14 cd14 ct14:Value} {f15:Addr} {od15 an15:Option Addr} {sl15:Array (Option Value)} {oc15 kV15 dc15 pm15 cd15 ct15:Value} {f16:Addr} {od16 an16:Option Addr} {sl16:Array (Option Value)} {oc16 kV16 dc16 pm16 cd16 ct16:Value} {f17:Addr} {od17 an17:Option Addr} {sl17:Array (Option Value)} {oc17 kV17 dc17 pm17 cd17 ct17:Value} {f18:Addr} {od18 an18:Option Addr} {sl18:Array (Option Value)} {oc18 kV18 dc18 pm18 cd18 ct18:Value} {f19:Addr} {od19 an19:Option Addr} {sl19:Array (Option Value)} {oc19 kV19 dc19 pm19 cd19 ct19:Value} {f20:Addr} {od20 an20:Option Addr} {sl20:Array (Option Value)} {oc20 kV20 dc20 pm20 cd20 ct20:Value} {f21:Addr} {od21 an21:Option Addr} {sl21:Array (Option Value)} {oc21 kV21 dc21 pm21 cd21 ct21:Value} {f22:Addr} {od22 an22:Option Addr} {sl22:Array (Option Value)} {oc22 kV22 dc22 pm22 cd22 ct22:Value} {f23:Addr} {od23 an23:Option Addr} {sl23:Array (Option Value)} {oc23 kV23 dc23 pm23 cd23 ct23:Value} {f24:Addr} {od24 an24:Option Addr} {sl24:Array (Option Value)} {oc24 kV24 dc24 pm24 cd24 ct24:Value} {f25:Addr} {od25 an25:Option Addr} {sl25:Array (Option Value)} {oc25 kV25 dc25 pm25 cd25 ct25:Value}
  (a1:PySem.W.nsIn K mainGlobals "ties_at" = some (some (.ref f1))) (l1:K.lookup f1=some ⟨oc1,od1,.func (PySem.W.fnOf "ties_at" "ties_at" (aI gT) (aD gT) (ak gT) .none kV1 dc1 pm1 an1 cd1 ct1),sl1⟩) (c1:PySem.W.codeIn K cd1 "ties_at" = true) (k1:PySem.W.keepIn K (.ref f1)=true)
  (a2:PySem.W.nsIn K mainGlobals "near_lists" = some (some (.ref f2))) (l2:K.lookup f2=some ⟨oc2,od2,.func (PySem.W.fnOf "near_lists" "near_lists" (aI df) (aD df) (ak df) .none kV2 dc2 pm2 an2 cd2 ct2),sl2⟩) (c2:PySem.W.codeIn K cd2 "near_lists" = true) (k2:PySem.W.keepIn K (.ref f2)=true)
  (a3:PySem.W.nsIn K mainGlobals "ties_within" = some (some (.ref f3))) (l3:K.lookup f3=some ⟨oc3,od3,.func (PySem.W.fnOf "ties_within" "ties_within" (aI cD) (aD cD) (ak cD) .none kV3 dc3 pm3 an3 cd3 ct3),sl3⟩) (c3:PySem.W.codeIn K cd3 "ties_within" = true) (k3:PySem.W.keepIn K (.ref f3)=true)
  (a4:PySem.W.nsIn K mainGlobals "is_rising" = some (some (.ref f4))) (l4:K.lookup f4=some ⟨oc4,od4,.func (PySem.W.fnOf "is_rising" "is_rising" (aI cV) (aD cV) (ak cV) .none kV4 dc4 pm4 an4 cd4 ct4),sl4⟩) (c4:PySem.W.codeIn K cd4 "is_rising" = true) (k4:PySem.W.keepIn K (.ref f4)=true)
  (a5:PySem.W.nsIn K mainGlobals "is_set_of" = some (some (.ref f5))) (l5:K.lookup f5=some ⟨oc5,od5,.func (PySem.W.fnOf "is_set_of" "is_set_of" (aI dJ) (aD dJ) (ak dJ) .none kV5 dc5 pm5 an5 cd5 ct5),sl5⟩) (c5:PySem.W.codeIn K cd5 "is_set_of" = true) (k5:PySem.W.keepIn K (.ref f5)=true)
  (a6:PySem.W.nsIn K mainGlobals "cut_web" = some (some (.ref f6))) (l6:K.lookup f6=some ⟨oc6,od6,.func (PySem.W.fnOf "cut_web" "cut_web" (aI gU) (aD gU) (ak gU) .none kV6 dc6 pm6 an6 cd6 ct6),sl6⟩) (c6:PySem.W.codeIn K cd6 "cut_web" = true) (k6:PySem.W.keepIn K (.ref f6)=true)
  (a7:PySem.W.nsIn K mainGlobals "reached_from" = some (some (.ref f7))) (l7:K.lookup f7=some ⟨oc7,od7,.func (PySem.W.fnOf "reached_from" "reached_from" (aI bZ) (aD bZ) (ak bZ) .none kV7 dc7 pm7 an7 cd7 ct7),sl7⟩) (c7:PySem.W.codeIn K cd7 "reached_from" = true) (k7:PySem.W.keepIn K (.ref f7)=true)
  (a8:PySem.W.nsIn K mainGlobals "hanging_parts" = some (some (.ref f8))) (l8:K.lookup f8=some ⟨oc8,od8,.func (PySem.W.fnOf "hanging_parts" "hanging_parts" (aI bM) (aD bM) (ak bM) .none kV8 dc8 pm8 an8 cd8 ct8),sl8⟩) (c8:PySem.W.codeIn K cd8 "hanging_parts" = true) (k8:PySem.W.keepIn K (.ref f8)=true)
  (a9:PySem.W.nsIn K mainGlobals "look_three" = some (some (.ref f9))) (l9:K.lookup f9=some ⟨oc9,od9,.func (PySem.W.fnOf "look_three" "look_three" (aI dg) (aD dg) (ak dg) .none kV9 dc9 pm9 an9 cd9 ct9),sl9⟩) (c9:PySem.W.codeIn K cd9 "look_three" = true) (k9:PySem.W.keepIn K (.ref f9)=true)
  (a10:PySem.W.nsIn K mainGlobals "parts_among" = some (some (.ref f10))) (l10:K.lookup f10=some ⟨oc10,od10,.func (PySem.W.fnOf "parts_among" "parts_among" (aI cE) (aD cE) (ak cE) .none kV10 dc10 pm10 an10 cd10 ct10),sl10⟩) (c10:PySem.W.codeIn K cd10 "parts_among" = true) (k10:PySem.W.keepIn K (.ref f10)=true)
  (a11:PySem.W.nsIn K mainGlobals "is_parting" = some (some (.ref f11))) (l11:K.lookup f11=some ⟨oc11,od11,.func (PySem.W.fnOf "is_parting" "is_parting" (aI cn) (aD cn) (ak cn) .none kV11 dc11 pm11 an11 cd11 ct11),sl11⟩) (c11:PySem.W.codeIn K cd11 "is_parting" = true) (k11:PySem.W.keepIn K (.ref f11)=true)
  (a12:PySem.W.nsIn K mainGlobals "worth_of" = some (some (.ref f12))) (l12:K.lookup f12=some ⟨oc12,od12,.func (PySem.W.fnOf "worth_of" "worth_of" (aI dM) (aD dM) (ak dM) .none kV12 dc12 pm12 an12 cd12 ct12),sl12⟩) (c12:PySem.W.codeIn K cd12 "worth_of" = true) (k12:PySem.W.keepIn K (.ref f12)=true)
  (a13:PySem.W.nsIn K mainGlobals "parting_twice" = some (some (.ref f13))) (l13:K.lookup f13=some ⟨oc13,od13,.func (PySem.W.fnOf "parting_twice" "parting_twice" (aI bB) (aD bB) (ak bB) .none kV13 dc13 pm13 an13 cd13 ct13),sl13⟩) (c13:PySem.W.codeIn K cd13 "parting_twice" = true) (k13:PySem.W.keepIn K (.ref f13)=true)
  (a14:PySem.W.nsIn K mainGlobals "_law_deal" = some (some (.ref f14))) (l14:K.lookup f14=some ⟨oc14,od14,.func (PySem.W.fnOf "_law_deal" "_law_deal" (aI jX) (aD jX) (ak jX) .none kV14 dc14 pm14 an14 cd14 ct14),sl14⟩) (c14:PySem.W.codeIn K cd14 "_law_deal" = true) (k14:PySem.W.keepIn K (.ref f14)=true)
  (a15:PySem.W.nsIn K mainGlobals "_law_pick" = some (some (.ref f15))) (l15:K.lookup f15=some ⟨oc15,od15,.func (PySem.W.fnOf "_law_pick" "_law_pick" (aI jY) (aD jY) (ak jY) .none kV15 dc15 pm15 an15 cd15 ct15),sl15⟩) (c15:PySem.W.codeIn K cd15 "_law_pick" = true) (k15:PySem.W.keepIn K (.ref f15)=true)
  (a16:PySem.W.nsIn K mainGlobals "_law_threes" = some (some (.ref f16))) (l16:K.lookup f16=some ⟨oc16,od16,.func (PySem.W.fnOf "_law_threes" "_law_threes" (aI fg) (aD fg) (ak fg) .none kV16 dc16 pm16 an16 cd16 ct16),sl16⟩) (c16:PySem.W.codeIn K cd16 "_law_threes" = true) (k16:PySem.W.keepIn K (.ref f16)=true)
  (a17:PySem.W.nsIn K mainGlobals "_law_joined" = some (some (.ref f17))) (l17:K.lookup f17=some ⟨oc17,od17,.func (PySem.W.fnOf "_law_joined" "_law_joined" (aI fh) (aD fh) (ak fh) .none kV17 dc17 pm17 an17 cd17 ct17),sl17⟩) (c17:PySem.W.codeIn K cd17 "_law_joined" = true) (k17:PySem.W.keepIn K (.ref f17)=true)
  (a18:PySem.W.nsIn K mainGlobals "_law_trees" = some (some (.ref f18))) (l18:K.lookup f18=some ⟨oc18,od18,.func (PySem.W.fnOf "_law_trees" "_law_trees" (aI gW) (aD gW) (ak gW) .none kV18 dc18 pm18 an18 cd18 ct18),sl18⟩) (c18:PySem.W.codeIn K cd18 "_law_trees" = true) (k18:PySem.W.keepIn K (.ref f18)=true)
  (a19:PySem.W.nsIn K mainGlobals "_law_within" = some (some (.ref f19))) (l19:K.lookup f19=some ⟨oc19,od19,.func (PySem.W.fnOf "_law_within" "_law_within" (aI dN) (aD dN) (ak dN) .none kV19 dc19 pm19 an19 cd19 ct19),sl19⟩) (c19:PySem.W.codeIn K cd19 "_law_within" = true) (k19:PySem.W.keepIn K (.ref f19)=true)
  (a20:PySem.W.nsIn K mainGlobals "_law_parting" = some (some (.ref f20))) (l20:K.lookup f20=some ⟨oc20,od20,.func (PySem.W.fnOf "_law_parting" "_law_parting" (aI dO) (aD dO) (ak dO) .none kV20 dc20 pm20 an20 cd20 ct20),sl20⟩) (c20:PySem.W.codeIn K cd20 "_law_parting" = true) (k20:PySem.W.keepIn K (.ref f20)=true)
  (a21:PySem.W.nsIn K mainGlobals "_law_count" = some (some (.ref f21))) (l21:K.lookup f21=some ⟨oc21,od21,.func (PySem.W.fnOf "_law_count" "_law_count" (aI fP) (aD fP) (ak fP) .none kV21 dc21 pm21 an21 cd21 ct21),sl21⟩) (c21:PySem.W.codeIn K cd21 "_law_count" = true) (k21:PySem.W.keepIn K (.ref f21)=true)
  (a22:PySem.W.nsIn K mainGlobals "_law_whole" = some (some (.ref f22))) (l22:K.lookup f22=some ⟨oc22,od22,.func (PySem.W.fnOf "_law_whole" "_law_whole" (aI gX) (aD gX) (ak gX) .none kV22 dc22 pm22 an22 cd22 ct22),sl22⟩) (c22:PySem.W.codeIn K cd22 "_law_whole" = true) (k22:PySem.W.keepIn K (.ref f22)=true)
  (a23:PySem.W.nsIn K mainGlobals "_law_any_order" = some (some (.ref f23))) (l23:K.lookup f23=some ⟨oc23,od23,.func (PySem.W.fnOf "_law_any_order" "_law_any_order" (aI dh) (aD dh) (ak dh) .none kV23 dc23 pm23 an23 cd23 ct23),sl23⟩) (c23:PySem.W.codeIn K cd23 "_law_any_order" = true) (k23:PySem.W.keepIn K (.ref f23)=true)
  (a24:PySem.W.nsIn K mainGlobals "_law_spoilt" = some (some (.ref f24))) (l24:K.lookup f24=some ⟨oc24,od24,.func (PySem.W.fnOf "_law_spoilt" "_law_spoilt" (aI dP) (aD dP) (ak dP) .none kV24 dc24 pm24 an24 cd24 ct24),sl24⟩) (c24:PySem.W.codeIn K cd24 "_law_spoilt" = true) (k24:PySem.W.keepIn K (.ref f24)=true)
  (a25:PySem.W.nsIn K mainGlobals "law" = some (some (.ref f25))) (l25:K.lookup f25=some ⟨oc25,od25,.func (PySem.W.fnOf "law" "law" (aI mX) (aD mX) (ak mX) .none kV25 dc25 pm25 an25 cd25 ct25),sl25⟩) (c25:PySem.W.codeIn K cd25 "law" = true) (k25:PySem.W.keepIn K (.ref f25)=true)
  (y_all:PySem.W.nsIn K mainGlobals "all" = some none)
  (y_any:PySem.W.nsIn K mainGlobals "any" = some none)
  (y_bool:PySem.W.nsIn K mainGlobals "bool" = some none)
  (y_int:PySem.W.nsIn K mainGlobals "int" = some none)
  (y_isinstance:PySem.W.nsIn K mainGlobals "isinstance" = some none)
  (y_len:PySem.W.nsIn K mainGlobals "len" = some none)
  (y_list:PySem.W.nsIn K mainGlobals "list" = some none)
  (y_max:PySem.W.nsIn K mainGlobals "max" = some none)
  (y_min:PySem.W.nsIn K mainGlobals "min" = some none)
  (y_range:PySem.W.nsIn K mainGlobals "range" = some none)
  (y_reversed:PySem.W.nsIn K mainGlobals "reversed" = some none)
  (y_set:PySem.W.nsIn K mainGlobals "set" = some none)
  (y_sorted:PySem.W.nsIn K mainGlobals "sorted" = some none)
  (y_sum:PySem.W.nsIn K mainGlobals "sum" = some none)
  (y_tuple:PySem.W.nsIn K mainGlobals "tuple" = some none)
  (y_zip:PySem.W.nsIn K mainGlobals "zip" = some none)
  : ∃ fd:FuncData,(∀ (s:Shared) (v:Value),BindsTo s fd ⟨[v],[]⟩ [("script",v)])/\∀ base:Heap,K.In base->base.Ns mainGlobals mg->bE l.prog w K mg base CX0 6 fa fd ["script"] (pq K):=by
 have e:=hfa.symm.trans (PySem.W.mg_of X G a25)
 cases e
 have F1:=ba (st:=gT) l1 c1 k1
 have m1:=PySem.W.mg_of X G a1
 have b1:=F1.binds (ps:=["web", "place"]) fun _ _ _ _ _ _ us hl=>match us,hl with | [_,_],_=>rfl
 have F2:=ba (st:=df) l2 c2 k2
 have m2:=PySem.W.mg_of X G a2
 have b2:=F2.binds (ps:=["web"]) fun _ _ _ _ _ _ us hl=>match us,hl with | [_],_=>rfl
 have F3:=ba (st:=cD) l3 c3 k3
 have m3:=PySem.W.mg_of X G a3
 have b3:=F3.binds (ps:=["web", "places"]) fun _ _ _ _ _ _ us hl=>match us,hl with | [_,_],_=>rfl
 have F4:=ba (st:=cV) l4 c4 k4
 have m4:=PySem.W.mg_of X G a4
 have b4:=F4.binds (ps:=["row"]) fun _ _ _ _ _ _ us hl=>match us,hl with | [_],_=>rfl
 have F5:=ba (st:=dJ) l5 c5 k5
 have m5:=PySem.W.mg_of X G a5
 have b5:=F5.binds (ps:=["web", "places"]) fun _ _ _ _ _ _ us hl=>match us,hl with | [_,_],_=>rfl
 have F6:=ba (st:=gU) l6 c6 k6
 have m6:=PySem.W.mg_of X G a6
 have b6:=F6.binds (ps:=["web", "places"]) fun _ _ _ _ _ _ us hl=>match us,hl with | [_,_],_=>rfl
 have F7:=ba (st:=bZ) l7 c7 k7
 have m7:=PySem.W.mg_of X G a7
 have b7:=F7.binds (ps:=["near", "start"]) fun _ _ _ _ _ _ us hl=>match us,hl with | [_,_],_=>rfl
 have F8:=ba (st:=bM) l8 c8 k8
 have m8:=PySem.W.mg_of X G a8
 have b8:=F8.binds (ps:=["web"]) fun _ _ _ _ _ _ us hl=>match us,hl with | [_],_=>rfl
 have F9:=ba (st:=dg) l9 c9 k9
 have m9:=PySem.W.mg_of X G a9
 have b9:=F9.binds (ps:=["web"]) fun _ _ _ _ _ _ us hl=>match us,hl with | [_],_=>rfl
 have F10:=ba (st:=cE) l10 c10 k10
 have m10:=PySem.W.mg_of X G a10
 have b10:=F10.binds (ps:=["web", "places"]) fun _ _ _ _ _ _ us hl=>match us,hl with | [_,_],_=>rfl
 have F11:=ba (st:=cn) l11 c11 k11
 have m11:=PySem.W.mg_of X G a11
 have b11:=F11.binds (ps:=["web", "parts"]) fun _ _ _ _ _ _ us hl=>match us,hl with | [_,_],_=>rfl
 have F12:=ba (st:=dM) l12 c12 k12
 have m12:=PySem.W.mg_of X G a12
 have b12:=F12.binds (ps:=["web", "part"]) fun _ _ _ _ _ _ us hl=>match us,hl with | [_,_],_=>rfl
 have F13:=ba (st:=bB) l13 c13 k13
 have m13:=PySem.W.mg_of X G a13
 have b13:=F13.binds (ps:=["web", "parts"]) fun _ _ _ _ _ _ us hl=>match us,hl with | [_,_],_=>rfl
 have F14:=ba (st:=jX) l14 c14 k14
 have m14:=PySem.W.mg_of X G a14
 have b14:=F14.binds (ps:=["script", "k"]) fun _ _ _ _ _ _ us hl=>match us,hl with | [_,_],_=>rfl
 have F15:=ba (st:=jY) l15 c15 k15
 have m15:=PySem.W.mg_of X G a15
 have b15:=F15.binds (ps:=["pot", "many"]) fun _ _ _ _ _ _ us hl=>match us,hl with | [_,_],_=>rfl
 have F16:=ba (st:=fg) l16 c16 k16
 have m16:=PySem.W.mg_of X G a16
 have b16:=F16.binds (ps:=["pot", "most"]) fun _ _ _ _ _ _ us hl=>match us,hl with | [_,_],_=>rfl
 have F17:=ba (st:=fh) l17 c17 k17
 have m17:=PySem.W.mg_of X G a17
 have b17:=F17.binds (ps:=["many", "ties", "places"]) fun _ _ _ _ _ _ us hl=>match us,hl with | [_,_,_],_=>rfl
 have F18:=ba (st:=gW) l18 c18 k18
 have m18:=PySem.W.mg_of X G a18
 have b18:=F18.binds (ps:=["web", "places"]) fun _ _ _ _ _ _ us hl=>match us,hl with | [_,_],_=>rfl
 have F19:=ba (st:=dN) l19 c19 k19
 have m19:=PySem.W.mg_of X G a19
 have b19:=F19.binds (ps:=["web", "places"]) fun _ _ _ _ _ _ us hl=>match us,hl with | [_,_],_=>rfl
 have F20:=ba (st:=dO) l20 c20 k20
 have m20:=PySem.W.mg_of X G a20
 have b20:=F20.binds (ps:=["pot", "web"]) fun _ _ _ _ _ _ us hl=>match us,hl with | [_,_],_=>rfl
 have F21:=ba (st:=fP) l21 c21 k21
 have m21:=PySem.W.mg_of X G a21
 have b21:=F21.binds (ps:=["web", "parts"]) fun _ _ _ _ _ _ us hl=>match us,hl with | [_,_],_=>rfl
 have F22:=ba (st:=gX) l22 c22 k22
 have m22:=PySem.W.mg_of X G a22
 have b22:=F22.binds (ps:=["found"]) fun _ _ _ _ _ _ us hl=>match us,hl with | [_],_=>rfl
 have F23:=ba (st:=dh) l23 c23 k23
 have m23:=PySem.W.mg_of X G a23
 have b23:=F23.binds (ps:=["pot", "some"]) fun _ _ _ _ _ _ us hl=>match us,hl with | [_,_],_=>rfl
 have F24:=ba (st:=dP) l24 c24 k24
 have m24:=PySem.W.mg_of X G a24
 have b24:=F24.binds (ps:=["pot", "web", "parts"]) fun _ _ _ _ _ _ us hl=>match us,hl with | [_,_,_],_=>rfl
 have F25:=ba (st:=mX) l25 c25 k25
 have m25:=PySem.W.mg_of X G a25
 have z_all:=PySem.W.mg_none_of X G y_all
 have z_any:=PySem.W.mg_none_of X G y_any
 have z_bool:=PySem.W.mg_none_of X G y_bool
 have z_int:=PySem.W.mg_none_of X G y_int
 have z_isinstance:=PySem.W.mg_none_of X G y_isinstance
 have z_len:=PySem.W.mg_none_of X G y_len
 have z_list:=PySem.W.mg_none_of X G y_list
 have z_max:=PySem.W.mg_none_of X G y_max
 have z_min:=PySem.W.mg_none_of X G y_min
 have z_range:=PySem.W.mg_none_of X G y_range
 have z_reversed:=PySem.W.mg_none_of X G y_reversed
 have z_set:=PySem.W.mg_none_of X G y_set
 have z_sorted:=PySem.W.mg_none_of X G y_sorted
 have z_sum:=PySem.W.mg_none_of X G y_sum
 have z_tuple:=PySem.W.mg_none_of X G y_tuple
 have z_zip:=PySem.W.mg_none_of X G y_zip
 refine ⟨PySem.W.fnOf "law" "law" (aI mX) (aD mX) (ak mX) .none kV25 dc25 pm25 an25 cd25 ct25,fun s v => .of_eq rfl,fun base kb nb => ?_⟩
 have B:Blt mg:=⟨z_all,z_any,z_bool,z_int,z_isinstance,z_len,z_list,z_max,z_min,z_range,z_reversed,z_set,z_sorted,z_sum,z_tuple,z_zip⟩
 have cLDeal:Cal l.prog w K mg base 1 "_law_deal" ["script", "k"] (j8 K):=⟨_,_,yO F14 z_len,m14,k14,b14⟩
 have cLPick:Cal l.prog w K mg base 1 "_law_pick" ["pot", "many"] eI:=⟨_,_,yP F15,m15,k15,b15⟩
 have cLThrees:Cal l.prog w K mg base 2 "_law_threes" ["pot", "most"] fu:=⟨_,_,vG F16 B z_sorted z_max z_min cLPick,m16,k16,b16⟩
 have cLAnyOrder:Cal l.prog w K mg base 2 "_law_any_order" ["pot", "some"] ig:=⟨_,_,xu F23 B cLPick,m23,k23,b23⟩
 have cLSpoilt:Cal l.prog w K mg base 3 "_law_spoilt" ["pot", "web", "parts"] fI:=⟨_,_,tH F24 B cLAnyOrder cLPick,m24,k24,b24⟩
 have cLWithin:Cal l.prog w K mg base 1 "_law_within" ["web", "places"] cF:=⟨_,_,sQ F19 B,m19,k19,b19⟩
 have cLJoined:Cal l.prog w K mg base 1 "_law_joined" ["many", "ties", "places"] dS:=⟨_,_,vI F17 B z_min,m17,k17,b17⟩
 have cLTrees:Cal l.prog w K mg base 2 "_law_trees" ["web", "places"] ib:=⟨_,_,xp F18 B z_set cLJoined,m18,k18,b18⟩
 have cLCount:Cal l.prog w K mg base 3 "_law_count" ["web", "parts"] ir:=⟨_,_,vQ F21 B cLWithin cLTrees,m21,k21,b21⟩
 have cLParting:Cal l.prog w K mg base 2 "_law_parting" ["pot", "web"] dU:=⟨_,_,tm F20 B z_sorted z_set cLPick cLJoined,m20,k20,b20⟩
 have cTiesAt:Cal l.prog w K mg base 1 "ties_at" ["web", "place"] vn:=⟨_,_,okAt F1 z_sum,m1,k1,b1⟩
 have cLookThree:Cal l.prog w K mg base 2 "look_three" ["web"] ic:=⟨_,_,xr F9 B z_any cTiesAt,m9,k9,b9⟩
 have cIsRising:Cal l.prog w K mg base 1 "is_rising" ["row"] ki:=⟨_,_,qm F4 B,m4,k4,b4⟩
 have cIsSetOf:Cal l.prog w K mg base 2 "is_set_of" ["web", "places"] oX:=⟨_,_,tE F5 B cIsRising,m5,k5,b5⟩
 have cCutWeb:Cal l.prog w K mg base 1 "cut_web" ["web", "places"] oN:=⟨_,_,zM F6 B,m6,k6,b6⟩
 have cNearLists:Cal l.prog w K mg base 1 "near_lists" ["web"] gZ:=⟨_,_,w4 F2 z_range z_set z_sorted,m2,k2,b2⟩
 have cReachedFrom:Cal l.prog w K mg base 1 "reached_from" ["near", "start"] h7:=⟨_,_,w5 F7 z_sorted,m7,k7,b7⟩
 have cHangingParts:Cal l.prog w K mg base 2 "hanging_parts" ["web"] j7:=⟨_,_,yM F8 B cNearLists cReachedFrom,m8,k8,b8⟩
 have cPartsAmong:Cal l.prog w K mg base 3 "parts_among" ["web", "places"] ie:=⟨_,_,xt F10 B cCutWeb cHangingParts,m10,k10,b10⟩
 have cIsParting:Cal l.prog w K mg base 4 "is_parting" ["web", "parts"] fE:=⟨_,_,oZ F11 B cIsSetOf cPartsAmong,m11,k11,b11⟩
 have cTiesWithin:Cal l.prog w K mg base 1 "ties_within" ["web", "places"] cF:=⟨_,_,vq F3 B,m3,k3,b3⟩
 have cWorthOf:Cal l.prog w K mg base 2 "worth_of" ["web", "part"] ij:=⟨_,_,tF F12 B cTiesWithin,m12,k12,b12⟩
 have cPartingTwice:Cal l.prog w K mg base 5 "parting_twice" ["web", "parts"] iq:=⟨_,_,kn F13 B cLookThree cIsParting cWorthOf,m13,k13,b13⟩
 have cLWhole:Cal l.prog w K mg base 1 "_law_whole" ["found"] nh:=⟨_,_,xh F22 B,m22,k22,b22⟩
 exact zR F25 B cLDeal cLThrees cLSpoilt cLCount cLParting cPartingTwice cLPick cLWhole
theorem walk {l:PySem.W.OpenLaw} {q:Program} {loose:List Str} {XP:(Str->Option Value)->Heap->Prop} {YP:World->Heap->Prop} {d:DefRec} {K:Params->PySem.W.Frag} (hn:l.most=some 63) (hdf:d.params.defaults=[])
  (hY:∀ (w:World) (h:Heap),YP w h->(K w.params).In h)
  (F:∀ (w:World) (mg:Str->Option Value) (fa:Addr) (h:Heap),(K w.params).In h->h.Ns mainGlobals mg->mg d.name=some (.ref fa) →
   ∃ fd:FuncData,(∀ (s:Shared) (u:Value),BindsTo s fd ⟨[u],[]⟩ [("script",u)])/\∀ base:Heap,(K w.params).In base->base.Ns mainGlobals mg->bE l.prog w (K w.params) mg base CX0 6 fa fd ["script"] (pq (K w.params))) :
  PySem.W.WalkO q loose XP YP l.row.toRowW d [] (fun f vs=>PySem.call f vs) :=
 L2.v9 (n:=63) (k:=6) (x := "script") (CX:=fun _=>CX0) (sp:=fun w=>pq (K w.params)) hn (by decide) hdf ⟨rfl,by decide,by decide⟩ hY F (fun _ _ a ns hl _ hS=>⟨a,ns,rfl,hS,hl,fun _=>rfl⟩) fun _ _ _ _ _ z=>z
end K45
def PySem.W.Fast.tw5285873718760197062:Nat:=0
def PySem.W.Fast.tw11594949652579801917:Nat:=0
def PySem.W.Fast.tw12817202748489261213:Nat:=0
def PySem.W.Fast.tw18152796081585540427:Nat:=0
def PySem.W.Fast.tw4038374070089608317:Nat:=0
def PySem.W.Fast.tw17539135021509161792:Nat:=0
def PySem.W.Fast.tw18319833745755463950:Nat:=0
def PySem.W.Fast.tw5751983315217107694:Nat:=0
def PySem.W.Fast.tw16458031492226045686:Nat:=0
def PySem.W.Fast.tw16534045185912072212:Nat:=0
def PySem.W.Fast.tw1042122181452129149:Nat:=0
def PySem.W.Fast.tw8171137875030973747:Nat:=0
def PySem.W.Fast.tw13169655567404665919:Nat:=0
def PySem.W.Fast.tw7700953288643027707:Nat:=0
def PySem.W.Fast.tw16290770619781493550:Nat:=0
def PySem.W.Fast.tw16584850591013538827:Nat:=0
def PySem.W.Fast.tw7232555387206946059:Nat:=0
def PySem.W.Fast.tw5191417172181600936:Nat:=0
def PySem.W.Fast.tw2421988358338716539:Nat:=0
def PySem.W.Fast.tw11684015784889098250:Nat:=0
def PySem.W.Fast.tw2374777546731154179:Nat:=0
def PySem.W.Fast.tw1761793084018508622:Nat:=0
def PySem.W.Fast.tw12240503419753904778:Nat:=0
def PySem.W.Fast.tw13647537036289983182:Nat:=0
def PySem.W.Fast.tw13395877323919782369:Nat:=0
def PySem.W.Fast.tw17124743197564325879:Nat:=0
def PySem.W.Fast.tw17289358884839913164:Nat:=0
def PySem.W.Fast.tw10567411840036486203:Nat:=0
def PySem.W.Fast.tw14526802815661287904:Nat:=0
def PySem.W.Fast.tw16153648573691630809:Nat:=0
def PySem.W.Fast.tw9323238450045109929:Nat:=0
def PySem.W.Fast.tw12914630207277521563:Nat:=0
def PySem.W.Fast.tw13190824681548479425:Nat:=0
def PySem.W.Fast.tw15034977230346054865:Nat:=0
def PySem.W.Fast.tw16011022067109584576:Nat:=0
def PySem.W.Fast.tw3013209746416997833:Nat:=0
def PySem.W.Fast.tw14795280555903477479:Nat:=0
def PySem.W.Fast.tw340127850770041832:Nat:=0
def PySem.W.Fast.tw2342873311334677855:Nat:=0
def PySem.W.Fast.tw9859492388800386357:Nat:=0
def PySem.W.Fast.tw6882652490218485497:Nat:=0
def PySem.W.Fast.tw5344271844161249000:Nat:=0
def PySem.W.Fast.tw7213314939236205714:Nat:=0
def PySem.W.Fast.tw3993230312278161672:Nat:=0
def PySem.W.Fast.tw14507118354544726960:Nat:=0
def PySem.W.Fast.tw8399882648200167935:Nat:=0
def PySem.W.Fast.tw13196032492381333251:Nat:=0
def PySem.W.Fast.tw13243030185823239309:Nat:=0
def PySem.W.Fast.tw4656513253183182602:Nat:=0
def PySem.W.Fast.tw8199675585475810617:Nat:=0
def PySem.W.Fast.tw6892324816139717610:Nat:=0
def PySem.W.Fast.tw2485423970005906978:Nat:=0
def PySem.W.Fast.tw1982011329495739344:Nat:=0
def PySem.W.Fast.tw597536681205709163:Nat:=0
def PySem.W.Fast.tw16547027642260217939:Nat:=0
def PySem.W.Fast.tw9912850104151583521:Nat:=0
def PySem.W.Fast.tw11456965583599555036:Nat:=0
def PySem.W.Fast.tw11389189829210908701:Nat:=0
def PySem.W.Fast.tw13164033737038361229:Nat:=0
def PySem.W.Fast.tw18064123393613515588:Nat:=0
def PySem.W.Fast.tw16342109005801200155:Nat:=0
def PySem.W.Fast.tw12123287258233225342:Nat:=0
def PySem.W.Fast.tw501703304327513158:Nat:=0
def PySem.W.Fast.tw3691668907638902010:Nat:=0
def PySem.W.Fast.tw14050951498567175333:Nat:=0
open PySem PySem.W PyProof.Rows
set_option maxRecDepth 100000 in
set_option maxHeartbeats 0 in
theorem PySem.Challenge.cw_ringfell_k45_partings_counted_holds : PySem.Challenge.rw_ringfell_k45_partings_counted.Holds := by
 w_on; o_law; k_head; (case hw=>w_witness2)
 k_fill
 refine K45.walk (l:=PySem.Challenge.rw_ringfell_k45_partings_counted) rfl rfl (fun w h Y=>PySem.W.kIn_of Y) ?F
 case F =>
  intro w mg fa h KX G hmg
  refine' K45.all_mk KX G hmg ?a1 ?l1 ?c1 ?k1 ?a2 ?l2 ?c2 ?k2 ?a3 ?l3 ?c3 ?k3 ?a4 ?l4 ?c4 ?k4 ?a5 ?l5 ?c5 ?k5 ?a6 ?l6 ?c6 ?k6 ?a7 ?l7 ?c7 ?k7 ?a8 ?l8 ?c8 ?k8 ?a9 ?l9 ?c9 ?k9 ?a10 ?l10 ?c10 ?k10 ?a11 ?l11 ?c11 ?k11 ?a12 ?l12 ?c12 ?k12 ?a13 ?l13 ?c13 ?k13 ?a14 ?l14 ?c14 ?k14 ?a15 ?l15 ?c15 ?k15 ?a16 ?l16 ?c16 ?k16 ?a17 ?l17 ?c17 ?k17 ?a18 ?l18 ?c18 ?k18 ?a19 ?l19 ?c19 ?k19 ?a20 ?l20 ?c20 ?k20 ?a21 ?l21 ?c21 ?k21 ?a22 ?l22 ?c22 ?k22 ?a23 ?l23 ?c23 ?k23 ?a24 ?l24 ?c24 ?k24 ?a25 ?l25 ?c25 ?k25 ?y_all ?y_any ?y_bool ?y_int ?y_isinstance ?y_len ?y_list ?y_max ?y_min ?y_range ?y_reversed ?y_set ?y_sorted ?y_sum ?y_tuple ?y_zip
  (case a1=>k_is)
  (case l1=>k_is)
  (case c1=>k_is)
  (case k1=>k_is)
  (case a2=>k_is)
  (case l2=>k_is)
  (case c2=>k_is)
  (case k2=>k_is)
  (case a3=>k_is)
  (case l3=>k_is)
  (case c3=>k_is)
  (case k3=>k_is)
  (case a4=>k_is)
  (case l4=>k_is)
  (case c4=>k_is)
  (case k4=>k_is)
  (case a5=>k_is)
  (case l5=>k_is)
  (case c5=>k_is)
  (case k5=>k_is)
  (case a6=>k_is)
  (case l6=>k_is)
  (case c6=>k_is)
  (case k6=>k_is)
  (case a7=>k_is)
  (case l7=>k_is)
  (case c7=>k_is)
  (case k7=>k_is)
  (case a8=>k_is)
  (case l8=>k_is)
  (case c8=>k_is)
  (case k8=>k_is)
  (case a9=>k_is)
  (case l9=>k_is)
  (case c9=>k_is)
  (case k9=>k_is)
  (case a10=>k_is)
  (case l10=>k_is)
  (case c10=>k_is)
  (case k10=>k_is)
  (case a11=>k_is)
  (case l11=>k_is)
  (case c11=>k_is)
  (case k11=>k_is)
  (case a12=>k_is)
  (case l12=>k_is)
  (case c12=>k_is)
  (case k12=>k_is)
  (case a13=>k_is)
  (case l13=>k_is)
  (case c13=>k_is)
  (case k13=>k_is)
  (case a14=>k_is)
  (case l14=>k_is)
  (case c14=>k_is)
  (case k14=>k_is)
  (case a15=>k_is)
  (case l15=>k_is)
  (case c15=>k_is)
  (case k15=>k_is)
  (case a16=>k_is)
  (case l16=>k_is)
  (case c16=>k_is)
  (case k16=>k_is)
  (case a17=>k_is)
  (case l17=>k_is)
  (case c17=>k_is)
  (case k17=>k_is)
  (case a18=>k_is)
  (case l18=>k_is)
  (case c18=>k_is)
  (case k18=>k_is)
  (case a19=>k_is)
  (case l19=>k_is)
  (case c19=>k_is)
  (case k19=>k_is)
  (case a20=>k_is)
  (case l20=>k_is)
  (case c20=>k_is)
  (case k20=>k_is)
  (case a21=>k_is)
  (case l21=>k_is)
  (case c21=>k_is)
  (case k21=>k_is)
  (case a22=>k_is)
  (case l22=>k_is)
  (case c22=>k_is)
  (case k22=>k_is)
  (case a23=>k_is)
  (case l23=>k_is)
  (case c23=>k_is)
  (case k23=>k_is)
  (case a24=>k_is)
  (case l24=>k_is)
  (case c24=>k_is)
  (case k24=>k_is)
  (case a25=>k_is)
  (case l25=>k_is)
  (case c25=>k_is)
  (case k25=>k_is)
  (case y_all=>k_is)
  (case y_any=>k_is)
  (case y_bool=>k_is)
  (case y_int=>k_is)
  (case y_isinstance=>k_is)
  (case y_len=>k_is)
  (case y_list=>k_is)
  (case y_max=>k_is)
  (case y_min=>k_is)
  (case y_range=>k_is)
  (case y_reversed=>k_is)
  (case y_set=>k_is)
  (case y_sorted=>k_is)
  (case y_sum=>k_is)
  (case y_tuple=>k_is)
  (case y_zip=>k_is)
