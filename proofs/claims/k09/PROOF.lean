import PyProof.Rows.All
import Wide.All
import OpenK.AllK
import Wide.FinOn
import Lean
import PyProof.EqAt
import PyProof.EqKinds
import PyProof.TupleCall
import KE.KRevIter
import PyProof.ZipIter
import KE.KSortKey
import PyProof.MinMaxWalk
import PySem.Challenge.RW_ringfell_k09_least_ring
set_option Elab.async false
set_option linter.all false
set_option maxRecDepth 100000
namespace L2
open PySem PySem.Spec PyProof.Rows
abbrev Key:=Sum Int Str
def jJ:Key->Value->Bool
 | .inl k,v=>Value.isInt k v
 | .inr x,v=>Value.isStrOf x v
def keyH (w:World):Key->Int
 | .inl k=>hashInt k
 | .inr x=>hashStr w x
theorem bF:∀ {k:Key} {v:Value},jJ k v=true->(∃ i t,k=Sum.inl i/\v=Value.int i t)\/(∃ x t,k=Sum.inr x/\v=Value.str x t)
 | .inl i,v,h=>by
  obtain ⟨t,e⟩:=Value.isInt_shape (k:=i) (v:=v) h
  exact .inl ⟨i,t,rfl,e⟩
 | .inr x,v,h=>by
  obtain ⟨t,e⟩:=Value.isStrOf_shape (x:=x) (v:=v) h
  exact .inr ⟨x,t,rfl,e⟩
theorem qm (i:Int) (t:Tok):jJ (.inl i) (.int i t)=true:=by simp [jJ,Value.isInt]
theorem qo (x:Str) (t:Tok):jJ (.inr x) (.str x t)=true:=by simp [jJ,Value.isStrOf]
theorem vX (a b:Int):decide ((Sum.inl a:Key)=Sum.inl b)=(a == b):=by
 by_cases e:a=b
 ·subst e; simp
 ·have h:¬ (Sum.inl a:Key)=Sum.inl b:=fun q=>e (Sum.inl.inj q)
  rw [decide_eq_false h]
  exact (beq_eq_false_iff_ne.mpr e).symm
theorem vY (a b:Str):decide ((Sum.inr a:Key)=Sum.inr b)=decide (a=b):=by
 by_cases e:a=b
 ·subst e; simp
 ·have h:¬ (Sum.inr a:Key)=Sum.inr b:=fun q=>e (Sum.inr.inj q)
  rw [decide_eq_false h,decide_eq_false e]
theorem vZ (a:Int) (b:Str):decide ((Sum.inl a:Key)=Sum.inr b)=false:=decide_eq_false (fun q=>nomatch q)
theorem v5 (a:Str) (b:Int):decide ((Sum.inr a:Key)=Sum.inl b)=false:=decide_eq_false (fun q=>nomatch q)
def bD (prog:Program) (w:World):PySem.KeyKind prog w Key where
 is:=jJ
 hash:=keyH w
 inj:=fun v a b ha hb=>by
  rcases bF ha with ⟨i,t,rfl,rfl⟩ | ⟨x,t,rfl,rfl⟩
  ·rcases bF hb with ⟨j,u,rfl,e⟩ | ⟨y,u,rfl,e⟩
   ·injection e with e1 _; rw [e1]
   ·exact nomatch e
  ·rcases bF hb with ⟨j,u,rfl,e⟩ | ⟨y,u,rfl,e⟩
   ·exact nomatch e
   ·injection e with e1 _; rw [e1]
 byValue:=fun k v h=>by
  rcases bF h with ⟨i,t,rfl,rfl⟩ | ⟨x,t,rfl,rfl⟩ <;> rfl
 pyHash:=fun hv h=>by
  rcases bF hv with ⟨i,t,rfl,rfl⟩ | ⟨x,t,rfl,rfl⟩
  ·exact wpAny_pyHash_int h
  ·exact wpAny_pyHash_str h
 eqBool:=fun hu hv h=>by
  rcases bF hu with ⟨i,t,rfl,rfl⟩ | ⟨x,t,rfl,rfl⟩
  ·rcases bF hv with ⟨j,u,rfl,rfl⟩ | ⟨y,u,rfl,rfl⟩
   ·rw [vX] at h; exact wpAny_eqBool_int h
   ·rw [vZ] at h; exact SeqAt.EqAt.int_str i t y u _ _ _ _ h
  ·rcases bF hv with ⟨j,u,rfl,rfl⟩ | ⟨y,u,rfl,rfl⟩
   ·rw [v5] at h; exact SeqAt.EqAt.str_int x t j u _ _ _ _ h
   ·rw [vY] at h; exact wpAny_eqBool_str h
 «strs» := fun k x t v h=>by
  rcases bF h with ⟨i,u,rfl,e⟩ | ⟨y,u,rfl,e⟩
  ·exact nomatch e
  ·injection e with e1 _
   subst e1
   cases v <;> rfl
theorem mf (prog:Program) (w:World) (i:Int) (t:Tok):(bD prog w).is (.inl i) (.int i t)=true:=qm i t
theorem mh (prog:Program) (w:World) (x:Str) (t:Tok):(bD prog w).is (.inr x) (.str x t)=true:=qo x t
open PySem PySem.Spec PyProof.Rows
inductive V where
 | non | bl (b:Bool) | int (i:Int) | str (x:Str) | byt (b:Array UInt8) | flt (b:UInt64) | ref (a:Addr) | ty (n:String)
 deriving DecidableEq
def RelV:V->Value->Prop
 | .non,u=>u=Value.none
 | .bl b,u=>u=Value.bool b
 | .int i,u=>∃ t,u=Value.int i t
 | .str x,u=>∃ t,u=Value.str x t
 | .byt b,u=>∃ t,u=Value.bytes b t
 | .flt b,u=>∃ t,u=Value.float b t
 | .ref a,u=>u=Value.ref a
 | .ty n,u=>u=Value.type n
abbrev Vals:List V->List Value->Prop:=Paired RelV
theorem Vals.length {xs:List V} {us:List Value} (r:Vals xs us):xs.length=us.length:=Paired.length r
theorem Vals.get:∀ {xs:List V} {us:List Value} {i:Nat} {x:V},Vals xs us->xs[i]? = some x->∃ u,us[i]? = some u/\RelV x u
 | _,_,_,_,.nil,e=>by simp at e
 | _,_,0,_,.cons r _,e=>by simp at e; subst e; exact ⟨_,rfl,r⟩
 | _,_,i + 1,x,.cons _ t,e=>by
  obtain ⟨u,h1,h2⟩:=Vals.get (i:=i) (x:=x) t (by simpa using e)
  exact ⟨u,by simpa using h1,h2⟩
theorem Vals.set {x:V} {u:Value} (r:RelV x u):∀ {xs:List V} {us:List Value} (i:Nat),Vals xs us->Vals (xs.set i x) (us.set i u)
 | _,_,_,.nil => .nil
 | _,_,0,.cons _ t => .cons r t
 | _,_,i + 1,.cons q t => .cons q (Vals.set r i t)
theorem Vals.append:∀ {xs ys:List V} {us ws:List Value},Vals xs us->Vals ys ws->Vals (xs ++ ys) (us ++ ws)
 | _,_,_,_,.nil,s=>s
 | _,_,_,_,.cons r t,s => .cons r (Vals.append t s)
theorem Vals.take:∀ {xs:List V} {us:List Value} (n:Nat),Vals xs us->Vals (xs.take n) (us.take n)
 | _,_,0,_ => .nil
 | _,_,_ + 1,.nil => .nil
 | _,_,n + 1,.cons r t => .cons r (Vals.take n t)
theorem Vals.drop:∀ {xs:List V} {us:List Value} (n:Nat),Vals xs us->Vals (xs.drop n) (us.drop n)
 | _,_,0,r=>r
 | _,_,_ + 1,.nil => .nil
 | _,_,n + 1,.cons _ t=>Vals.drop n t
def gG:Option V->Option Value->Prop
 | some v,some u=>RelV v u
 | none,none=>True
 | _,_=>False
def KV {κ : Type}:List (κ × V)->List (κ × Value)->Prop:=Paired fun (p : κ × V) (q : κ × Value)=>p.1=q.1/\RelV p.2 q.2
def kV:Key->V
 | .inl i => .int i
 | .inr x => .str x
inductive HO where
  | lst (xs:List V)
  | tup (xs:List V)
  | dK (kvs:List (Key × V)) | dT (kvs:List (List Key × V))
  | set (S:Int->Bool) (n:Nat)
  | ins (C dx:Addr) (fs:List (Str × V))
  | own (x:Addr)
  | xd (fs:List (Str × V))
  | met (f x:Addr)
  | rng (lo hi:Int)
  | frz (o:Obj) (u:HO)
  | tbl (ps:Array Value)
  | ext (φ : Heap->Prop)
abbrev Hp:=Addr->Option HO
def upd (H:Hp) (a:Addr) (o:HO):Hp:=fun b=>if b=a then some o else H b
theorem ag {H:Hp} {a:Addr} {o:HO}:upd H a o a=some o:=by unfold upd; rw [if_pos rfl]
theorem aD {H:Hp} {a b:Addr} {o:HO} (h:b ≠ a):upd H a o b=H b:=by unfold upd; rw [if_neg h]
theorem fT {H:Hp} {a b:Addr} {o u:HO} (h:H a=some o) (h':H b=some u) (d:o ≠ u):a ≠ b:=by
 intro e; subst e; rw [h] at h'; exact d (Option.some.inj h')
theorem aB {H:Hp} {a b:Addr} {o:HO} (h:H a=some o) (h':H b=none):a ≠ b:=by
 intro e; subst e; rw [h] at h'; cases h'
def dB (h:Heap) (a:Addr) (items:Array Value):Prop:=∃ o,h.get? a=some o/\(o.cls = .type "tuple" /\ o.dict=none)/\∃ n,o.data = .seq items n
theorem dB.tup {h:Heap} {a:Addr} {items:Array Value} (x:dB h a items):IsTup h a items:=let ⟨o,e,c,n,d⟩:=x; ⟨o,e,c.1,n,d⟩
theorem dB.new (h:Heap) (items:Array Value):dB (h.push { cls := .type "tuple",data := .seq items }) h.objs.size items:=⟨_,Heap.get?_push_size _ rfl,⟨rfl,rfl⟩,_,rfl⟩
section
variable (P:Program) (w:World)
def bB (H:Hp) (h:Heap) (a:Addr):HO->Prop
 | .lst xs=>xs.length<=sizeLine/\∃ (its:List Value) (n:Nat),Vals xs its/\h.get? a=some { cls := .type "list",data := .seq its.toArray n }
 | .tup xs=>xs.length<=sizeLine/\∃ its:List Value,Vals xs its/\dB h a its.toArray
 | .dK kvs=>kvs.length<=sizeLine/\(a == sysModules)=false/\∃ vs,KV kvs vs/\h.DictOf (bD P w) a vs
 | .dT kvs=>kvs.length<=sizeLine/\(a == sysModules)=false/\∃ xs:List (List Key × Addr × Value),
   Paired (fun (p:List Key × V) (q:List Key × Addr × Value)=>p.1=q.1/\H q.2.1=some (.tup (p.1.map kV))/\RelV p.2 q.2.2) kvs xs ∧
   ∃ o es ep,h.get? a=some o/\o.ExactDict/\o.data = .dict es ep/\es.toList=xs.map (entryOfKey (tupleKind (bD P w)))/\(xs.map (·.1)).Nodup
 | .set S n=>h.SetOf (intKind P w) a S n
 | .ins C dx fs=>H dx=some (.own a)/\fs.length<=1000/\dx ≠ a/\h.get? a=some (PySem.W.instObj C dx) ∧
   ∃ mA,h.Ns1 dx mA/\(∀ f,gG (fs.lookup f) (mA f))/\PySem.Within mA (fs.map (·.1))
 | .own _=>∃ o,h.get? a=some o
 | .xd fs=>∃ mA,h.Ns1 a mA/\∀ f,gG (fs.lookup f) (mA f)
 | .rng lo hi=>∃ t u v,h.get? a=some { cls := .type "range",data := .fields #[.int lo t,.int hi u,.int 1 v] }
 | .frz o u=>h.get? a=some o/\bB H h a u
 | .tbl ps=>h.get? a=some { cls := .none,data := .fields ps }
 | .met f x=>h.get? a=some (PySem.W.methodObj (.ref f) (.ref x))
 | .ext φ => φ h/\(∃ o,h.get? a=some o)/\∀ h1 h2:Heap, φ h1->(∀ o,h1.get? a=some o->h2.get? a=some o) -> φ h2
def HOk (H:Hp) (h:Heap):Prop:=∀ a o,H a=some o->bB P w H h a o
end
section
variable {P:Program} {w:World} {H H':Hp} {h h':Heap} {a:Addr} {o:HO}
theorem bB.lt (x:bB P w H h a o):a < h.objs.size:=by
 cases o with
 | lst xs=>obtain ⟨_,_,_,_,e⟩:=x; exact Heap.lt_size e
 | tup xs=>obtain ⟨_,_,_,p⟩:=x; exact (dB.tup p).lt
 | dK kvs=>obtain ⟨_,_,_,_,o,_,_,e,_⟩:=x; exact Heap.lt_size e
 | dT kvs=>obtain ⟨_,_,_,_,o,_,_,e,_⟩:=x; exact Heap.lt_size e
 | set S n=>obtain ⟨o,_,_,_,e,_⟩:=x; exact Heap.lt_size e
 | ins C dx fs=>obtain ⟨_,_,_,e,_⟩:=x; exact Heap.lt_size e
 | own y=>obtain ⟨_,e⟩:=x; exact Heap.lt_size e
 | xd fs=>obtain ⟨_,⟨_,_,_,e,_⟩,_⟩:=x; exact Heap.lt_size e
 | rng lo hi=>obtain ⟨_,_,_,e⟩:=x; exact Heap.lt_size e
 | frz ob u=>obtain ⟨e,_⟩:=x; exact Heap.lt_size e
 | tbl ps=>exact Heap.lt_size (show h.get? a=some _ from x)
 | met f y=>exact Heap.lt_size (show h.get? a=some _ from x)
 | ext φ => obtain ⟨_,⟨_,e⟩,_⟩:=x; exact Heap.lt_size e
theorem Paired.v7 {α β : Type} {F G : α -> β -> Prop}:∀ {l₁:List α} {l₂:List β},Paired F l₁ l₂->(∀ a b,F a b->G a b)->Paired G l₁ l₂
 | _,_,.nil,_ => .nil
 | _,_,.cons r t,f => .cons (f _ _ r) (Paired.v7 t f)
theorem bB.stay (x:bB P w H h a o) (k:∀ b u,(b=a\/H b=some (.own a))->h.get? b=some u->h'.get? b=some u)
  (ho:∀ b,H b=some (.own a)->H' b=some (.own a)) (ht:∀ b xs,H b=some (.tup xs)->H' b=some (.tup xs)):bB P w H' h' a o:=by
 induction o with
 | lst xs=>obtain ⟨z,its,n,r,e⟩:=x; exact ⟨z,its,n,r,k _ _ (.inl rfl) e⟩
 | tup xs=>obtain ⟨z,its,r,ob,e,c⟩:=x; exact ⟨z,its,r,ob,k _ _ (.inl rfl) e,c⟩
 | dK kvs=>obtain ⟨z,y,vs,r,ob,es,ep,e,c⟩:=x; exact ⟨z,y,vs,r,ob,es,ep,k _ _ (.inl rfl) e,c⟩
 | dT kvs =>
  obtain ⟨z,y,xs,r,ob,es,ep,e,c⟩:=x
  exact ⟨z,y,xs,Paired.v7 r fun p q z=>⟨z.1,ht _ _ z.2.1,z.2.2⟩,ob,es,ep,k _ _ (.inl rfl) e,c⟩
 | set S n=>obtain ⟨ob,es,ep,t,e,c⟩:=x; exact ⟨ob,es,ep,t,k _ _ (.inl rfl) e,c⟩
 | ins C dx fs =>
  obtain ⟨d,z,ne,e,mA,⟨od,es,ep,e2,c⟩,r⟩:=x
  exact ⟨ho _ d,z,ne,k _ _ (.inl rfl) e,mA,⟨od,es,ep,k _ _ (.inr d) e2,c⟩,r⟩
 | own y=>obtain ⟨ob,e⟩:=x; exact ⟨ob,k _ _ (.inl rfl) e⟩
 | xd fs=>obtain ⟨mA,⟨od,es,ep,e,c⟩,r⟩:=x; exact ⟨mA,⟨od,es,ep,k _ _ (.inl rfl) e,c⟩,r⟩
 | rng lo hi=>obtain ⟨t,u,v,e⟩:=x; exact ⟨t,u,v,k _ _ (.inl rfl) e⟩
 | frz ob u ih=>obtain ⟨e,q⟩:=x; exact ⟨k _ _ (.inl rfl) e,ih q⟩
 | tbl ps =>
  have e:h.get? a=some { cls := .none,data := .fields ps }:=x
  show h'.get? a=some { cls := .none,data := .fields ps }
  exact k a _ (.inl rfl) e
 | met f y =>
  have e:h.get? a=some (PySem.W.methodObj (.ref f) (.ref y)):=x
  show h'.get? a=some (PySem.W.methodObj (.ref f) (.ref y))
  exact k a _ (.inl rfl) e
 | ext φ => obtain ⟨p,⟨o,e⟩,st⟩:=x; exact ⟨st _ _ p fun o q=>k _ _ (.inl rfl) q,⟨o,k _ _ (.inl rfl) e⟩,st⟩
theorem HOk.lt (x:HOk P w H h) (e:H a=some o):a < h.objs.size:=(x a o e).lt
theorem HOk.fresh (x:HOk P w H h) (e:h.objs.size<=a):H a=none:=by
 cases q:H a with
 | none=>rfl
 | some u=>exact absurd (Nat.lt_of_lt_of_le (x.lt q) e) (Nat.lt_irrefl _)
theorem HOk.kept (x:HOk P w H h) (k:∀ b u,h.get? b=some u->h'.get? b=some u):HOk P w H h':=fun a o e =>
 (x a o e).stay (fun b u _ q=>k b u q) (fun _ q=>q) fun _ _ q=>q
theorem HOk.laid (x:HOk P w H h) (k:∀ b u,h.get? b=some u->h'.get? b=some u) (hp:h.objs.size<=a) (new:bB P w (upd H a o) h' a o):HOk P w (upd H a o) h':=fun b u e=>by
 have hn:=x.fresh hp
 by_cases hb:b=a
 ·subst hb; rw [ag] at e; cases e; exact new
 ·rw [aD hb] at e
  exact (x b u e).stay (fun c v _ q=>k c v q) (fun c q=>by rw [aD (aB q hn)]; exact q) fun c xs q=>by rw [aD (aB q hn)]; exact q
end
def Rd (H:Hp) (a:Addr) (u:HO):Prop:=H a=some u\/∃ o,H a=some (.frz o u)
theorem Rd.ok {P:Program} {w:World} {H:Hp} {h:Heap} {a:Addr} {u:HO} (r:Rd H a u) (x:HOk P w H h):bB P w H h a u:=by
 rcases r with r | ⟨o,r⟩
 ·exact x a u r
 ·obtain ⟨_,q⟩:=x a _ r
  exact q
def Mut:Option HO->Prop
 | some (.lst _)=>True
 | some (.dK _)=>True
 | some (.dT _)=>True
 | some (.set _ _)=>True
 | some (.ins _ _ _)=>True
 | some (.ext _)=>True
 | _=>False
section
variable {P:Program} {w:World} {H:Hp} {h h':Heap} {x e:Addr} {o':HO}
theorem HOk.write (ok:HOk P w H h) (mu:Mut (H x)) (he:e=x\/H e=some (.own x)) (k:∀ b u,b ≠ e->h.get? b=some u->h'.get? b=some u) (heo:∃ u,h'.get? e=some u)
  (new:bB P w (upd H x o') h' x o'):HOk P w (upd H x o') h':=fun b u q=>by
 have nown:∀ c y,H c=some (.own y)->c ≠ x:=fun c y r z=>by subst z; rw [r] at mu; exact mu
 have ntup:∀ c xs,H c=some (.tup xs)->c ≠ x:=fun c xs r z=>by subst z; rw [r] at mu; exact mu
 by_cases hb:b=x
 ·subst hb; rw [ag] at q; cases q; exact new
 ·rw [aD hb] at q
  by_cases hbe:b=e
  ·have q':H b=some (.own x):=by
    rcases he with z | z
    ·exact absurd (hbe.trans z) hb
    ·rw [hbe]; exact z
   rw [q] at q'; cases q'
   obtain ⟨v,hv⟩:=heo
   exact ⟨v,by rw [hbe]; exact hv⟩
  ·refine (ok b u q).stay (fun c v hc r=>k c v ?_ r) (fun c r=>by rw [aD (nown c b r)]; exact r) fun c xs r=>by rw [aD (ntup c xs r)]; exact r
   rcases hc with rfl | hc
   ·exact hbe
   ·rintro rfl
    rcases he with z | z
    ·exact nown c b hc z
    ·rw [hc] at z; cases z; exact hb rfl
end
structure Un (fs ex:List Addr) (H H':Hp) (h h':Heap):Prop where
 keep:∀ b o,h.get? b=some o->H b=none->b ∉ fs->b ∉ ex->h'.get? b=some o
 slot:∀ b o,h.get? b=some o->H b=none->b ∈ fs->b ∉ ex->∃ sl,h'.get? b=some { o with slots:=sl }
 free:∀ b o,h.get? b=some o->H b=none->b ∉ ex->H' b=none
 there:∀ b o,h.get? b=some o->b ∉ ex->∃ o',h'.get? b=some o'
 tups:∀ b xs,H b=some (.tup xs)->H' b=some (.tup xs)
 frzs:∀ b o u,H b=some (.frz o u)->H' b=some (.frz o u)
 tbls:∀ b ps,H b=some (.tbl ps)->∃ more,H' b=some (.tbl (ps ++ more))
section
variable {fs fs' ex ex':List Addr} {H H1 H2:Hp} {h h1 h2 h':Heap} {a x e:Addr} {o:HO}
theorem Un.any (u:Un fs ex H H1 h h1) {b:Addr} {ob:Obj} (q:h.get? b=some ob) (n:H b=none) (hx:b ∉ ex):∃ sl,h1.get? b=some { ob with slots:=sl }:=by
 by_cases hb:b ∈ fs
 ·exact u.slot b ob q n hb hx
 ·exact ⟨ob.slots,u.keep b ob q n hb hx⟩
theorem Un.kept (k:∀ b u,h.get? b=some u->h'.get? b=some u):Un fs ex H H h h' :=
 ⟨fun b ob q _ _ _=>k b ob q,fun b ob q _ _ _=>⟨ob.slots,k b ob q⟩,fun _ _ _ n _=>n,fun b ob q _=>⟨ob,k b ob q⟩,fun _ _ q=>q,fun _ _ _ q=>q,fun _ ps q=>⟨#[],by rw [q]; simp⟩⟩
theorem Un.refl:Un fs ex H H h h:=Un.kept fun _ _ q=>q
theorem Un.laid (k:∀ b u,h.get? b=some u->h'.get? b=some u) (hp:h.objs.size<=a) (hn:H a=none):Un fs ex H (upd H a o) h h' where
 keep:=fun b u q _ _ _=>k b u q
 slot:=fun b u q _ _ _=>⟨u.slots,k b u q⟩
 free:=fun b u q n _=>by rw [aD (Nat.ne_of_lt (Nat.lt_of_lt_of_le (Heap.lt_size q) hp))]; exact n
 there:=fun b u q _=>⟨u,k b u q⟩
 tups:=fun b xs q=>by rw [aD (aB q hn)]; exact q
 frzs:=fun b u xs q=>by rw [aD (aB q hn)]; exact q
 tbls:=fun b ps q=>⟨#[],by rw [aD (aB q hn),q]; simp⟩
theorem Un.write (mu:Mut (H x)) (he:e=x\/H e=some (.own x)) (k:∀ b u,b ≠ e->h.get? b=some u->h'.get? b=some u) (heo:∃ u,h'.get? e=some u):Un fs ex H (upd H x o) h h':=by
 have hx:∀ b,H b=none->b ≠ x:=fun b n z=>by subst z; rw [n] at mu; exact mu
 have hb:∀ b,H b=none->b ≠ e:=fun b n z=>by
  subst z
  rcases he with r | r
  ·exact hx b n r
  ·rw [n] at r; cases r
 have hm:∀ b u,H b=some u->¬ Mut (some u)->b ≠ x:=fun b u q nm z=>by subst z; rw [q] at mu; exact nm mu
 refine ⟨fun b u q n _ _=>k b u (hb b n) q,fun b u q n _ _=>⟨u.slots,k b u (hb b n) q⟩,fun b u q n _=>by rw [aD (hx b n)]; exact n,fun b u q _ => ?_,
  fun b xs q=>by rw [aD (hm b _ q fun z=>z)]; exact q,fun b u xs q=>by rw [aD (hm b _ q fun z=>z)]; exact q,fun b ps q=>⟨#[],by rw [aD (hm b _ q fun z=>z),q]; simp⟩⟩
 by_cases hbe:b=e
 ·subst hbe; exact heo
 ·exact ⟨u,k b u hbe q⟩
end
def trk (h:Heap) (H:Hp):List Addr:=(List.range h.objs.size).filter fun a=>(H a).isSome
def kO (h:Heap) (H:Hp):Heap:=PySem.W.hideAll h (trk h H)
theorem qp (h:Heap) (H:Hp):(kO h H).objs.size=h.objs.size:=PySem.W.hideAll_size _ _
theorem rM {h:Heap} {H:Hp} {b:Addr} {o:Obj} (e:h.get? b=some o) (n:H b=none):(kO h H).get? b=some o :=
 PySem.W.hideAll_get _ e fun hm=>by
  have q:(H b).isSome=true:=(List.mem_filter.mp hm).2
  rw [n] at q; simp at q
theorem uj {h:Heap} {H:Hp} {b:Addr} {o:Obj} (e:(kO h H).get? b=some o):h.get? b=some o/\H b=none:=by
 have e':h.get? b=some o:=PySem.W.of_hideAll (trk h H) e
 refine ⟨e',?_⟩
 cases q:H b with
 | none=>rfl
 | some x =>
  have hm:b ∈ trk h H:=List.mem_filter.mpr ⟨List.mem_range.mpr (Heap.lt_size e'),by simp [q]⟩
  have z:(kO h H).get? b=none:=PySem.W.hideAll_none (trk h H) hm
  rw [z] at e; cases e
def um (g h:Heap) (L:Addr):List (Addr × Obj):=(List.range h.objs.size).filterMap fun a=>if a=L\/(g.get? a).isSome=true then none else (h.get? a).map fun o=>(a,o)
def rest (g h:Heap) (L d:Addr):List (Addr × Obj):=(um g h L).filter fun p=>decide (p.1 ≠ d)
open PySem PySem.Spec PyProof.Rows
structure Mod (K:PySem.W.Frag) (mg:Str->Option Value) (base:Heap):Prop where
 kin:K.In base
 glob:base.Ns mainGlobals mg
 blt:∃ mb,base.Ns builtinsNs mb/\∀ x:Str,x ≠ "__name__" -> mb x=bootBuiltins x
 nolimit:base.NoLimit
structure Cx where
 prog:Program
 w:World
 K:PySem.W.Frag
 mg:Str->Option Value
 base:Heap
 A:Around
 N:List Str
 s₀:Shared
 H₀:Hp
 env:Env
 outer:List Env
 stack:List Env
 ex:List Addr
 fn:Str->Bool
 calm:Bool
 pn:List (Addr × Obj)
 xe:Value->Shared->Prop
def frs (l:List Env):List Addr:=l.filterMap (·.frame)
abbrev Cx.fs (X:Cx):List Addr:=frs X.outer
def Vis (sc:Scope) (x:Str):Prop:=sc.names.lookup x=some .local\/sc.names.lookup x=some .cell\/sc.names.lookup x=some .free
def Loc (sc:Scope) (x:Str):Prop:=sc.names.lookup x=some .local\/sc.names.lookup x=some .cell
def Look (env:Env) (h:Heap) (m:Str->Option Value) (x:Str) (u:Value):Prop :=
 (env.kindOf x=some .local/\m x=some u)\/((env.kindOf x=some .cell\/env.kindOf x=some .free)/\∃ c,env.cells.lookup x=some c/\h.IsCell c (some u))
structure Cx.Ok (X:Cx):Prop where
 mod:Mod X.K X.mg X.base
 kind:X.env.scope.kind = .function
 glob:X.env.globals=mainGlobals
 blt:X.env.builtins=builtinsNs
 above:X.s₀.heap.objs.size<=X.env.locals
 inj:∀ x y c,X.env.cells.lookup x=some c->X.env.cells.lookup y=some c->x=y
 has:∀ x,(X.env.kindOf x=some .cell\/X.env.kindOf x=some .free)->∃ c,X.env.cells.lookup x=some c
 cab:∀ x c,X.fn x=true->X.env.cells.lookup x=some c->X.s₀.heap.objs.size<=c
 hd:X.calm=true->X.A.handled=none
 frames:X.A.frames=some X.stack
 stk:X.stack=X.outer\/(X.stack=X.env :: X.outer/\X.env.frame=some X.env.locals)
 exf:∀ b ∈ X.ex,b ≠ X.env.locals/\∀ x c,X.env.cells.lookup x=some c->c ≠ b
 bs:∀ b o,X.base.get? b=some o->X.s₀.heap.get? b=some o/\X.H₀ b=none
 bsz:X.base.objs.size<=X.s₀.heap.objs.size
 noex:∀ b o,X.base.get? b=some o->b ∉ X.ex
 exfs:∀ b ∈ X.ex,b ∉ X.fs
 funs:X.s₀.heap.FunFrames X.base X.outer
 frf:∀ b ∈ X.fs,X.H₀ b=none
structure Inv (X:Cx) (pins:List (Addr × Obj)) (σ:List (Option V)) (H:Hp) (s:Shared):Prop where
 ok:X.Ok
 os:s.os=X.s₀.os
 bare:AllBare s.gens
 base:Un X.fs X.ex X.H₀ H X.s₀.heap s.heap
 loc:∃ m,s.heap.Ns X.env.locals m/\∀ (i:Nat) (x:Str) (v:V),X.N[i]? = some x->σ[i]? = some (some v)->Vis X.env.scope x->∃ u,RelV v u/\Look X.env s.heap m x u
 cell:∀ x c,X.env.cells.lookup x=some c->∃ v,s.heap.IsCell c v
 free:H X.env.locals=none
 freeC:∀ x c,X.env.cells.lookup x=some c->H c=none
 pin:∀ p ∈ X.pn ++ pins,s.heap.get? p.1=some p.2/\H p.1=none/\p.1 ≠ X.env.locals/\p.1 ∉ X.fs/\∀ v,p.2.data ≠ .cell v
 hok:HOk X.prog X.w H s.heap
 len:σ.length=X.N.length
section
variable {X:Cx} {pins:List (Addr × Obj)} {σ:List (Option V)} {H H':Hp} {s:Shared} {h':Heap}
theorem Cx.Ok.nofr (ok:X.Ok) {b:Addr} {o:Obj} (e:X.base.get? b=some o):b ∉ X.fs:=fun hb=>by
 have:=(ok.funs.mem hb).1
 rw [e] at this; cases this
theorem Inv.bs (I:Inv X pins σ H s):∀ b o,X.base.get? b=some o->s.heap.get? b=some o/\H b=none:=fun b o e =>
 ⟨I.base.keep b o (I.ok.bs b o e).1 (I.ok.bs b o e).2 (I.ok.nofr e) (I.ok.noex b o e),I.base.free b o (I.ok.bs b o e).1 (I.ok.bs b o e).2 (I.ok.noex b o e)⟩
theorem Inv.bk (I:Inv X pins σ H s):∀ b o,X.base.get? b=some o->s.heap.get? b=some o:=fun b o e=>(I.bs b o e).1
theorem Inv.mod (I:Inv X pins σ H s):Mod X.K X.mg X.base:=I.ok.mod
theorem Inv.kIn (I:Inv X pins σ H s):X.K.In s.heap:=I.ok.mod.kin.keeps I.bk
theorem Inv.lt (I:Inv X pins σ H s):X.env.locals < s.heap.objs.size:=let ⟨_,hn,_⟩:=I.loc; hn.lt
theorem Inv.sz (I:Inv X pins σ H s):X.s₀.heap.objs.size<=s.heap.objs.size:=Nat.le_trans I.ok.above (Nat.le_of_lt I.lt)
theorem Inv.v8 (I:Inv X pins σ H s) {a:Addr} (h:s.heap.objs.size<=a):a ∉ X.fs:=fun hb=>by
 obtain ⟨_,o,ho,_⟩:=I.ok.funs.mem hb
 exact absurd (Nat.lt_of_lt_of_le (Heap.lt_size ho) (Nat.le_trans I.sz h)) (Nat.lt_irrefl _)
theorem Inv.cne (I:Inv X pins σ H s):∀ x c,X.env.cells.lookup x=some c->c ≠ X.env.locals:=fun x c e z=>by
 obtain ⟨v,o,ho,hd⟩:=I.cell x c e
 obtain ⟨m,⟨o',es,ep,ho',hd',_⟩,_⟩:=I.loc
 rw [z,ho'] at ho; cases ho; rw [hd'] at hd; cases hd
theorem Inv.funs (I:Inv X pins σ H s):s.heap.FunFrames X.base X.outer:=by
 have all:∀ (l:List Env),(∀ b ∈ frs l,b ∈ X.fs)->X.s₀.heap.FunFrames X.base l->s.heap.FunFrames X.base l:=by
  intro l
  induction l with
  | nil=>intro _ _; trivial
  | cons env r ih =>
   intro hs hl
   obtain ⟨hk,⟨L,o,hf,hn,ho,hd⟩,hr⟩:=hl
   have hL:L ∈ X.fs:=hs L (by unfold frs; rw [List.filterMap_cons,hf]; exact List.mem_cons_self)
   obtain ⟨sl,e⟩:=I.base.slot L o ho (I.ok.frf L hL) hL fun z=>I.ok.exfs L z hL
   exact ⟨hk,⟨L,_,hf,hn,e,hd⟩,ih (fun b hb=>hs b (by unfold frs; rw [List.filterMap_cons,hf]; exact List.mem_cons_of_mem _ hb)) hr⟩
 exact all X.outer (fun _ hb=>hb) I.ok.funs
theorem Inv.stack (I:Inv X pins σ H s):s.heap.FunFrames X.base X.stack:=by
 rcases I.ok.stk with e | ⟨e,hf⟩
 ·rw [e]; exact I.funs
 ·rw [e]
  obtain ⟨m,hn,_⟩:=I.loc
  refine .cons (by rw [I.ok.kind]; decide) hf hn ?_ I.funs
  exact Heap.get?_none_of_le (Nat.le_trans I.ok.bsz I.ok.above)
theorem Inv.kP (I:Inv X pins σ H s):∀ b ∈ frs X.stack,b ∈ X.env.locals :: X.fs:=fun b hb=>by
 rcases I.ok.stk with e | ⟨e,hf⟩
 ·rw [e] at hb; exact List.mem_cons_of_mem _ hb
 ·rw [e] at hb
  unfold frs at hb
  rw [List.filterMap_cons,hf] at hb
  exact hb
theorem Inv.o6 (I:Inv X pins σ H s):∀ b ∈ frs X.stack,H b=none:=fun b hb=>by
 rcases List.mem_cons.mp (I.kP b hb) with e | hb
 ·rw [e]; exact I.free
 ·obtain ⟨_,o,ho,_⟩:=I.ok.funs.mem hb
  exact I.base.free b o ho (I.ok.frf b hb) fun z=>I.ok.exfs b z hb
theorem Inv.step {g':Array GenState} {t':Nat} {d':Drawn} {ch:List Addr} (I:Inv X pins σ H s)
  (hch:∀ b ∈ ch,(b ∈ X.ex\/X.s₀.heap.objs.size<=b)/\b ≠ X.env.locals/\(∀ x c,X.env.cells.lookup x=some c->c ≠ b)/\∀ p ∈ X.pn ++ pins,p.1 ≠ b)
  (keep:∀ b o,b ≠ X.env.locals->b ∉ X.fs->b ∉ ch->s.heap.get? b=some o->H b=none->h'.get? b=some o)
  (slot:∀ b o,b ≠ X.env.locals->b ∈ X.fs->b ∉ ch->s.heap.get? b=some o->H b=none->∃ sl,h'.get? b=some { o with slots:=sl }) (free:∀ b o,b ∉ ch->s.heap.get? b=some o->H b=none->H' b=none)
  (there:∀ b o,b ∉ ch->s.heap.get? b=some o->∃ o',h'.get? b=some o')
  (tups:∀ b xs,H b=some (.tup xs)->H' b=some (.tup xs)) (frzs:∀ b o u,H b=some (.frz o u)->H' b=some (.frz o u)) (tbls:∀ b ps,H b=some (.tbl ps)->∃ more,H' b=some (.tbl (ps ++ more)))
  (ns:∀ m,s.heap.Ns X.env.locals m->h'.Ns X.env.locals m) (hok:HOk X.prog X.w H' h') (hg:AllBare g') :
  Inv X pins σ H' { s with heap:=h',gens:=g',drawn:=d',toks:=t' }:=by
 have neL:∀ b o,X.s₀.heap.get? b=some o->b ≠ X.env.locals:=fun b o e=>Nat.ne_of_lt (Nat.lt_of_lt_of_le (Heap.lt_size e) I.ok.above)
 have neC:∀ b o,X.s₀.heap.get? b=some o->b ∉ X.ex->b ∉ ch:=fun b o e hx hb=>by
  rcases (hch b hb).1 with z | z
  ·exact hx z
  ·exact absurd (Nat.lt_of_lt_of_le (Heap.lt_size e) z) (Nat.lt_irrefl _)
 have cellK:∀ x c,X.env.cells.lookup x=some c->∀ v,s.heap.IsCell c v->h'.IsCell c v:=fun x c e v ⟨o,ho,hd⟩=>by
  have nch:c ∉ ch:=fun z=>(hch c z).2.2.1 x c e rfl
  by_cases hc:c ∈ X.fs
  ·obtain ⟨sl,q⟩:=slot c o (I.cne x c e) hc nch ho (I.freeC x c e)
   exact ⟨_,q,hd⟩
  ·exact ⟨o,keep c o (I.cne x c e) hc nch ho (I.freeC x c e),hd⟩
 refine ⟨I.ok,I.os,hg,⟨fun b o e n hb hx => ?_,fun b o e n hb hx => ?_,fun b o e n hx => ?_,fun b o e hx => ?_,fun b xs e=>tups b xs (I.base.tups b xs e),fun b o xs e=>frzs b o xs (I.base.frzs b o xs e),fun b ps e => ?_⟩,?_,fun x c e => ?_,?_,fun x c e => ?_,fun p hp => ?_,hok,I.len⟩
 ·exact keep b o (neL b o e) hb (neC b o e hx) (I.base.keep b o e n hb hx) (I.base.free b o e n hx)
 ·obtain ⟨sl,e1⟩:=I.base.slot b o e n hb hx
  obtain ⟨sl',e2⟩:=slot b _ (neL b o e) hb (neC b o e hx) e1 (I.base.free b o e n hx)
  exact ⟨sl',e2⟩
 ·obtain ⟨o',e1⟩:=I.base.there b o e hx
  exact free b o' (neC b o e hx) e1 (I.base.free b o e n hx)
 ·obtain ⟨o',e1⟩:=I.base.there b o e hx
  exact there b o' (neC b o e hx) e1
 ·obtain ⟨m1,e1⟩:=I.base.tbls b ps e
  obtain ⟨m2,e2⟩:=tbls b _ e1
  exact ⟨m1 ++ m2,by rw [e2,Array.append_assoc]⟩
 ·obtain ⟨m,hn,hl⟩:=I.loc
  refine ⟨m,ns m hn,fun i x v e1 e2 e3 => ?_⟩
  obtain ⟨u,r,l⟩:=hl i x v e1 e2 e3
  refine ⟨u,r,?_⟩
  rcases l with l | ⟨k,c,e,z⟩
  ·exact .inl l
  ·exact .inr ⟨k,c,e,cellK x c e _ z⟩
 ·obtain ⟨v,z⟩:=I.cell x c e
  exact ⟨v,cellK x c e v z⟩
 ·obtain ⟨m,⟨o,_,_,ho,_⟩,_⟩:=I.loc
  exact free _ o (fun z=>(hch _ z).2.1 rfl) ho I.free
 ·obtain ⟨v,o,ho,hd⟩:=I.cell x c e
  exact free c o (fun z=>(hch c z).2.2.1 x c e rfl) ho (I.freeC x c e)
 ·obtain ⟨e,n,ne,nf,d⟩:=I.pin p hp
  have nch:p.1 ∉ ch:=fun z=>(hch p.1 z).2.2.2 p hp rfl
  exact ⟨keep p.1 p.2 ne nf nch e n,free p.1 p.2 nch e n,ne,nf,d⟩
theorem Inv.un {t':Nat} (I:Inv X pins σ H s) (u:Un X.fs [] H H' s.heap h') (hok:HOk X.prog X.w H' h'):Inv X pins σ H' { s with heap:=h',toks:=t' }:=by
 obtain ⟨m,⟨o,es,ep,ho,r⟩,_⟩:=id I.loc
 obtain ⟨sl,hL⟩:=u.any ho I.free (by simp)
 exact I.step (g':=s.gens) (d':=s.drawn) (ch:=[]) (fun _ z=>nomatch z) (fun b o _ hb _ e n=>u.keep b o e n hb (by simp)) (fun b o _ hb _ e n=>u.slot b o e n hb (by simp)) (fun b o _ e n=>u.free b o e n (by simp)) (fun b o _ e=>u.there b o e (by simp)) u.tups u.frzs u.tbls (fun m' hm=>by
  obtain ⟨o',es',ep',ho',r'⟩:=hm
  rw [ho] at ho'; cases ho'
  exact ⟨_,es',ep',hL,r'⟩) hok I.bare
theorem Inv.call {g':Array GenState} {t':Nat} {d':Drawn} {ch:List Addr} (I:Inv X pins σ H s) (u:Un (frs X.stack) ch H H' s.heap h') (hok:HOk X.prog X.w H' h') (hg:AllBare g')
  (hch:∀ b ∈ ch,(b ∈ X.ex\/X.s₀.heap.objs.size<=b)/\b ≠ X.env.locals/\(∀ x c,X.env.cells.lookup x=some c->c ≠ b)/\∀ p ∈ X.pn ++ pins,p.1 ≠ b) :
  Inv X pins σ H' { s with heap:=h',gens:=g',drawn:=d',toks:=t' }:=by
 obtain ⟨m,⟨o,es,ep,ho,r⟩,_⟩:=id I.loc
 obtain ⟨sl,hL⟩:=u.any ho I.free fun z=>(hch _ z).2.1 rfl
 exact I.step (ch:=ch) hch (fun b o hL hb hc e n=>u.keep b o e n (fun z=>(List.mem_cons.mp (I.kP b z)).elim hL hb) hc) (fun b o _ _ hc e n=>u.any e n hc) (fun b o hc e n=>u.free b o e n hc) (fun b o hc e=>u.there b o e hc) u.tups u.frzs u.tbls (fun m' hm=>by
  obtain ⟨o',es',ep',ho',r'⟩:=hm
  rw [ho] at ho'; cases ho'
  exact ⟨_,es',ep',hL,r'⟩) hok hg
theorem Inv.turned {t':Nat} {it:Addr} (I:Inv X pins σ H s) (k:∀ b o,b ≠ it->s.heap.get? b=some o->h'.get? b=some o) (hn:H it=none) (hL:it ≠ X.env.locals)
  (h1:it ∈ X.ex\/X.s₀.heap.objs.size<=it) (h2:∀ x c,X.env.cells.lookup x=some c->c ≠ it) (h3:∀ p ∈ X.pn ++ pins,p.1 ≠ it):Inv X pins σ H { s with heap:=h',toks:=t' }:=by
 have nit:∀ b u,H b=some u->b ≠ it:=fun b u e z=>by rw [z,hn] at e; cases e
 refine I.step (g':=s.gens) (d':=s.drawn) (ch:=[it]) (fun b hb => ?_) (fun b o _ _ hc e _=>k b o (fun z=>hc (by simp [z])) e) (fun b o _ _ hc e _=>⟨o.slots,k b o (fun z=>hc (by simp [z])) e⟩) (fun _ _ _ _ n=>n)
  (fun b o hc e=>⟨o,k b o (fun z=>hc (by simp [z])) e⟩) (fun _ _ e=>e) (fun _ _ _ e=>e) (fun b ps e=>⟨#[],by rw [e]; simp⟩) (fun m hm => ?_) (fun b u e => ?_) I.bare
 ·have e:b=it:=by simpa using hb
  subst e
  exact ⟨h1,hL,h2,h3⟩
 ·obtain ⟨o,es,ep,ho,r⟩:=hm
  exact ⟨o,es,ep,k _ o (Ne.symm hL) ho,r⟩
 ·refine (I.hok b u e).stay (fun c v hc q=>k c v ?_ q) (fun _ q=>q) fun _ _ q=>q
  rcases hc with z | z
  ·rw [z]; exact nit b u e
  ·exact nit c _ z
theorem Inv.tok (I:Inv X pins σ H s) (t:Nat):Inv X pins σ H { s with toks:=t }:=I.un (h':=s.heap) (t':=t) Un.refl I.hok
theorem Inv.kept {t':Nat} (I:Inv X pins σ H s) (k:∀ b u,s.heap.get? b=some u->h'.get? b=some u):Inv X pins σ H { s with heap:=h',toks:=t' }:=I.un (Un.kept k) (I.hok.kept k)
theorem Inv.laid {a:Addr} {o:HO} {t':Nat} (I:Inv X pins σ H s) (k:∀ b u,s.heap.get? b=some u->h'.get? b=some u) (hp:s.heap.objs.size<=a) (new:bB X.prog X.w (upd H a o) h' a o) :
  Inv X pins σ (upd H a o) { s with heap:=h',toks:=t' }:=I.un (Un.laid k hp (I.hok.fresh hp)) (I.hok.laid k hp new)
theorem Inv.write {x e:Addr} {o:HO} {t':Nat} (I:Inv X pins σ H s) (mu:Mut (H x)) (he:e=x\/H e=some (.own x)) (k:∀ b u,b ≠ e->s.heap.get? b=some u->h'.get? b=some u) (heo:∃ u,h'.get? e=some u)
  (new:bB X.prog X.w (upd H x o) h' x o):Inv X pins σ (upd H x o) { s with heap:=h',toks:=t' }:=I.un (Un.write mu he k heo) (I.hok.write mu he k heo new)
theorem Inv.fU {pins':List (Addr × Obj)} (I:Inv X pins σ H s) (h:∀ p ∈ pins',s.heap.get? p.1=some p.2/\H p.1=none/\p.1 ≠ X.env.locals/\p.1 ∉ X.fs/\∀ v,p.2.data ≠ .cell v):Inv X pins' σ H s :=
 ⟨I.ok,I.os,I.bare,I.base,I.loc,I.cell,I.free,I.freeC,fun p hp=>(List.mem_append.mp hp).elim (fun z=>I.pin p (List.mem_append_left _ z)) (h p),I.hok,I.len⟩
theorem mi {N:List Str} (hN:N.Nodup) {i j:Nat} {x:Str} (a:N[i]? = some x) (b:N[j]? = some x):i=j:=by
 obtain ⟨h1,e1⟩:=List.getElem?_eq_some_iff.mp a
 obtain ⟨h2,e2⟩:=List.getElem?_eq_some_iff.mp b
 exact (List.getElem_inj hN).mp (e1.trans e2.symm)
theorem qr {M:Model} {A:Around} {E:Value->Shared->Prop} {i:Nat} {x:Str} {v:V} {u:Value} {Q:Unit->Shared->Prop} (I:Inv X pins σ H s) (hN:X.N.Nodup) (hi:X.N[i]? = some x) (hx:Loc X.env.scope x) (r:RelV v u)
  (h:∀ s',Inv X pins (σ.set i (some v)) H s'->(∃ a,Heap.SameBut a s.heap s'.heap/\(a=X.env.locals\/X.env.cells.lookup x=some a))->Q () s') (hf:X.fn x=true\/X.env.scope.names.lookup x=some .local:=by first | exact .inl rfl | exact .inr rfl | assumption):wpAny M A (storeName X.env x u) Q E s:=by
 obtain ⟨m,hn,hl⟩:=id I.loc
 have hcls:(X.env.scope.kind == .class || (X.env.scope.kind == .module && X.env.locals != X.env.globals))=false:=by rw [I.ok.kind]; rfl
 have hiσ:i < σ.length:=by rw [I.len]; exact (List.getElem?_eq_some_iff.mp hi).1
 have cne:=I.cne
 have tracked:∀ {a:Addr} {h':Heap},(∃ o,s.heap.get? a=some o/\H a=none)->Heap.SameBut a s.heap h'->HOk X.prog X.w H h':=fun {a h'} ha hs b ob e=>by
  obtain ⟨_,_,hfree⟩:=ha
  refine (I.hok b ob e).stay (fun c w' hc q=>(hs.2 c ?_).trans q) (fun _ q=>q) fun _ _ q=>q
  rintro rfl
  rcases hc with rfl | hc
  ·rw [hfree] at e; cases e
  ·rw [hfree] at hc; cases hc
 rcases hx with hk | hk
 ·refine wpAny_storeName_local hk hn (fun h' hn' hs => ?_) hcls
  obtain ⟨oL,_,_,hoL,_⟩:=id hn
  refine h _ ⟨I.ok,I.os,I.bare,⟨fun b o e n hb hx => ?_,fun b o e n hb hx => ?_,I.base.free,fun b o e hx => ?_,I.base.tups,I.base.frzs,I.base.tbls⟩,⟨_,hn',fun j y v' e1 e2 e3 => ?_⟩,fun y c e => ?_,I.free,I.freeC,fun p hp => ?_,tracked ⟨oL,hoL,I.free⟩ hs,by simpa using I.len⟩ ⟨_,hs,.inl rfl⟩
  ·exact (hs.2 b (Nat.ne_of_lt (Nat.lt_of_lt_of_le (Heap.lt_size e) I.ok.above))).trans (I.base.keep b o e n hb hx)
  ·obtain ⟨sl,e1⟩:=I.base.slot b o e n hb hx
   exact ⟨sl,(hs.2 b (Nat.ne_of_lt (Nat.lt_of_lt_of_le (Heap.lt_size e) I.ok.above))).trans e1⟩
  ·obtain ⟨o',e1⟩:=I.base.there b o e hx
   exact ⟨o',(hs.2 b (Nat.ne_of_lt (Nat.lt_of_lt_of_le (Heap.lt_size e) I.ok.above))).trans e1⟩
  ·by_cases hj:j=i
   ·subst hj
    rw [hi] at e1; cases e1
    rw [List.getElem?_set_self hiσ] at e2
    cases e2
    exact ⟨u,r,.inl ⟨hk,by simp⟩⟩
   ·rw [List.getElem?_set_ne (Ne.symm hj)] at e2
    obtain ⟨u',r',q⟩:=hl j y v' e1 e2 e3
    refine ⟨u',r',?_⟩
    rcases q with ⟨k,e⟩ | ⟨k,c,e,z⟩
    ·refine .inl ⟨k,?_⟩
     have:y ≠ x:=fun e=>hj (mi hN e1 (e ▸ hi))
     simp [this,e]
    ·exact .inr ⟨k,c,e,z.sameBut hs (cne y c e)⟩
  ·obtain ⟨w',z⟩:=I.cell y c e
   exact ⟨w',z.sameBut hs (cne y c e)⟩
  ·obtain ⟨e,n,ne,nf,d⟩:=I.pin p hp
   exact ⟨(hs.2 p.1 ne).trans e,n,ne,nf,d⟩
 ·have hfn:X.fn x=true:=by
   rcases hf with z | z
   ·exact z
   ·rw [z] at hk; cases hk
  obtain ⟨c,hc⟩:=I.ok.has x (.inl hk)
  obtain ⟨w',z⟩:=I.cell x c hc
  refine wpAny_storeName_cell I.ok.kind hk hc z (fun h' hc' hs => ?_)
  obtain ⟨oc,hoc,hocd⟩:=id z
  refine h { s with heap:=h' } ⟨I.ok,I.os,I.bare,⟨fun b o e n hb hx => ?_,fun b o e n hb hx => ?_,I.base.free,fun b o e hx => ?_,I.base.tups,I.base.frzs,I.base.tbls⟩,⟨m,hn.sameBut hs (Ne.symm (cne x c hc)),fun j y v' e1 e2 e3 => ?_⟩,fun y c' e => ?_,I.free,I.freeC,fun p hp => ?_,tracked ⟨oc,hoc,I.freeC x c hc⟩ hs,by simpa using I.len⟩ ⟨c,hs,.inr hc⟩
  ·exact (hs.2 b (Nat.ne_of_lt (Nat.lt_of_lt_of_le (Heap.lt_size e) (I.ok.cab x c hfn hc)))).trans (I.base.keep b o e n hb hx)
  ·obtain ⟨sl,e1⟩:=I.base.slot b o e n hb hx
   exact ⟨sl,(hs.2 b (Nat.ne_of_lt (Nat.lt_of_lt_of_le (Heap.lt_size e) (I.ok.cab x c hfn hc)))).trans e1⟩
  ·obtain ⟨o',e1⟩:=I.base.there b o e hx
   exact ⟨o',(hs.2 b (Nat.ne_of_lt (Nat.lt_of_lt_of_le (Heap.lt_size e) (I.ok.cab x c hfn hc)))).trans e1⟩
  ·by_cases hj:j=i
   ·subst hj
    rw [hi] at e1; cases e1
    rw [List.getElem?_set_self hiσ] at e2
    cases e2
    exact ⟨u,r,.inr ⟨.inl hk,c,hc,hc'⟩⟩
   ·rw [List.getElem?_set_ne (Ne.symm hj)] at e2
    obtain ⟨u',r',q⟩:=hl j y v' e1 e2 e3
    refine ⟨u',r',?_⟩
    rcases q with q | ⟨k,c',e,z'⟩
    ·exact .inl q
    ·refine .inr ⟨k,c',e,z'.sameBut hs ?_⟩
     rintro rfl
     exact hj (mi hN e1 (I.ok.inj _ _ _ e hc ▸ hi))
  ·by_cases hcc:c'=c
   ·subst hcc; exact ⟨_,hc'⟩
   ·obtain ⟨w2,z2⟩:=I.cell y c' e
    exact ⟨w2,z2.sameBut hs hcc⟩
  ·obtain ⟨e,n,ne,nf,d⟩:=I.pin p hp
   refine ⟨(hs.2 p.1 ?_).trans e,n,ne,nf,d⟩
   intro q
   rw [q,hoc] at e
   have q':oc=p.2:=Option.some.inj e
   exact d w' (by rw [<- q']; exact hocd)
theorem mj {M:Model} {A:Around} {E:Value->Shared->Prop} {i:Nat} {x:Str} {v:V} {u:Value} {Q:Unit->Shared->Prop} (I:Inv X pins σ H s) (hN:X.N.Nodup) (hi:X.N[i]? = some x) (hx:Loc X.env.scope x) (r:RelV v u)
  (h:∀ s',Inv X pins (σ.set i (some v)) H s'->Q () s') (hf:X.fn x=true\/X.env.scope.names.lookup x=some .local:=by first | exact .inl rfl | exact .inr rfl | assumption):wpAny M A (storeName X.env x u) Q E s :=
 qr I hN hi hx r (fun s' I' _=>h s' I') hf
theorem Inv.xF {s':Shared} {ch:List Addr} (I:Inv X pins σ H s) (ho:s'.os=s.os) (u:Un (frs X.stack) ch H H' s.heap s'.heap) (hok:HOk X.prog X.w H' s'.heap) (hg:AllBare s'.gens)
  (hch:∀ b ∈ ch,(b ∈ X.ex\/X.s₀.heap.objs.size<=b)/\b ≠ X.env.locals/\(∀ x c,X.env.cells.lookup x=some c->c ≠ b)/\∀ p ∈ X.pn ++ pins,p.1 ≠ b):Inv X pins σ H' s':=by
 obtain ⟨h',g',d',t',o'⟩:=s'
 have e:o'=s.os:=ho
 subst e
 exact I.call (g':=g') (t':=t') (d':=d') u hok hg hch
end
abbrev XK:=Value->Option Addr->Hp->Prop
abbrev St:=List (Option V)
abbrev VK:=V->Hp->Prop
abbrev TE:=St->Hp->VK->Prop
abbrev TT:=St->Hp->(Bool->Hp->Prop)->Prop
abbrev TA:=St->Hp->(List V->Hp->Prop)->Prop
structure Ends where
 nx:St->Hp->Prop
 rt:VK
 bk:St->Hp->Prop:=fun _ _=>False
 ct:St->Hp->Prop:=fun _ _=>False
abbrev TS:=Ends->St->Hp->Prop
def EP (X:Cx) (pins:List (Addr × Obj)) (σ:St) (Q:VK) (u:Value) (s':Shared):Prop:=∃ v H',Inv X pins σ H' s'/\RelV v u/\Q v H'
def TP (X:Cx) (pins:List (Addr × Obj)) (σ:St) (Q:Bool->Hp->Prop) (b:Bool) (s':Shared):Prop:=∃ H',Inv X pins σ H' s'/\Q b H'
def AP (X:Cx) (pins:List (Addr × Obj)) (σ:St) (Q:List V->Hp->Prop) (us:List Value) (s':Shared):Prop:=∃ vs H',Inv X pins σ H' s'/\Vals vs us/\Q vs H'
def SP (X:Cx) (pins:List (Addr × Obj)) (D:Ends) (f:Flow) (s':Shared):Prop :=
 match f with
 | .next=>∃ σ' H',Inv X pins σ' H' s'/\D.nx σ' H'
 | .brk=>∃ σ' H',Inv X pins σ' H' s'/\D.bk σ' H'
 | .cont=>∃ σ' H',Inv X pins σ' H' s'/\D.ct σ' H'
 | .ret u=>∃ v σ' H',Inv X pins σ' H' s'/\RelV v u/\D.rt v H'
def PE (X:Cx) (e:Expr) (t:TE):Prop :=
 ∀ (pins:List (Addr × Obj)) (s:Shared) (σ:St) (H:Hp) (Q:VK),Inv X pins σ H s->t σ H Q->wpAny (model X.prog X.w) X.A (eval e X.env) (EP X pins σ Q) X.xe s
def PT (X:Cx) (e:Expr) (t:TT):Prop :=
 ∀ (pins:List (Addr × Obj)) (s:Shared) (σ:St) (H:Hp) (Q:Bool->Hp->Prop),Inv X pins σ H s->t σ H Q->wpAny (model X.prog X.w) X.A (isTrue e X.env (eval e X.env)) (TP X pins σ Q) X.xe s
def PW (X:Cx) (e:Expr) (t:TT):Prop :=
 ∀ (whole:Sem Value) (pins:List (Addr × Obj)) (s:Shared) (σ:St) (H:Hp) (Q:Bool->Hp->Prop),Inv X pins σ H s->t σ H Q->wpAny (model X.prog X.w) X.A (isTrue e X.env whole) (TP X pins σ Q) X.xe s
theorem PW.pt {X:Cx} {e:Expr} {t:TT} (h:PW X e t):PT X e t:=h _
def PA (X:Cx) (es:List Expr) (t:TA):Prop :=
 ∀ (pos:Pos) (pins:List (Addr × Obj)) (s:Shared) (σ:St) (H:Hp) (Q:List V->Hp->Prop),Inv X pins σ H s->t σ H Q->wpAny (model X.prog X.w) X.A (spliced (backTo pos (starEach es X.env))) (AP X pins σ Q) X.xe s
def PS (X:Cx) (st:Stmt) (t:TS):Prop :=
 ∀ (pins:List (Addr × Obj)) (s:Shared) (σ:St) (H:Hp) (D:Ends),Inv X pins σ H s->t D σ H->wpAny (model X.prog X.w) X.A (exec st X.env) (SP X pins D) X.xe s
def PSs (X:Cx) (st:List Stmt) (t:TS):Prop :=
 ∀ (pins:List (Addr × Obj)) (s:Shared) (σ:St) (H:Hp) (D:Ends),Inv X pins σ H s->t D σ H->wpAny (model X.prog X.w) X.A (execs st X.env) (SP X pins D) X.xe s
theorem thn {α : Type} {t:Sem α} {Q Q' : α -> Shared->Prop} {M:Model} {A:Around} {E:Value->Shared->Prop} {s:Shared} (h:wpAny M A t Q E s) (hQ:∀ a s,Q a s->Q' a s):wpAny M A t Q' E s:=wpAny_mono h hQ fun _ _ x=>x
open PySem PySem.Spec PyProof.Rows
section
variable {X:Cx}
theorem bin {a b:Expr} {ta tb:TE} (ha:PE X a ta) (hb:PE X b tb) {pins:List (Addr × Obj)} {s:Shared} {σ:St} {H:Hp} {R:V->V->Hp->Prop} (I:Inv X pins σ H s) (h:ta σ H fun x H1=>tb σ H1 fun y H2=>R x y H2)
  {α : Type} {Q : α -> Shared->Prop} {f:Value->Value->Sem α}
  (hf:∀ v u s2 x y H2,Inv X pins σ H2 s2->RelV x v->RelV y u->R x y H2->wpAny (model X.prog X.w) X.A (f v u) Q X.xe s2) :
  wpAny (model X.prog X.w) X.A (eval a X.env) (fun v s₁=>wpAny (model X.prog X.w) X.A (eval b X.env) (fun u s₂=>wpAny (model X.prog X.w) X.A (f v u) Q X.xe s₂) X.xe s₁) X.xe s:=by
 refine thn (ha pins s σ H _ I h) fun v s1 ⟨x,H1,I1,r1,q1⟩ => ?_
 refine thn (hb pins s1 σ H1 _ I1 q1) fun u s2 ⟨y,H2,I2,r2,q2⟩ => ?_
 exact hf v u s2 x y H2 I2 r1 r2 q2
def xG (i:Nat):TE:=fun σ H Q=>∃ v,σ[i]? = some (some v)/\Q v H
def tC (v:V):TE:=fun _ H Q=>Q v H
theorem v9 {i:Nat} {x:Str} {pos:Pos} (hN:X.N[i]? = some x) (hv:Vis X.env.scope x) (hd:(x == ("__debug__" : Str))=false:=by decide) (hcd:(x == ("__classdict__" : Str))=false:=by decide):PE X (.Name x pos) (xG i):=by
 intro pins s σ H Q I h
 obtain ⟨v,e,h⟩:=h
 obtain ⟨m,hn,hl⟩:=I.loc
 obtain ⟨u,r,l⟩:=hl i x v hN e hv
 have fin:EP X pins σ Q u s:=⟨v,H,I,r,h⟩
 rcases l with ⟨hk,hm⟩ | ⟨hk,c,hc,hcell⟩
 ·exact wpAny_Name (wpAny_loadName_local I.ok.kind hk hn hm fin) hd
 ·rcases hk with hk | hk
  ·exact wpAny_Name (wpAny_loadName_cell I.ok.kind hk hc hcell fin) hd
  ·exact wpAny_Name (wpAny_loadName_free I.ok.kind hk hc hcell fin hcd) hd
theorem ai {i j pos}:PE X (.Constant (.int i) j pos) (tC (.int i)):=fun _ _ _ H _ I h=>wpAny_Constant_int ⟨.int i,H,I.tok _,⟨_,rfl⟩,h⟩
theorem o7 {b j pos}:PE X (.Constant (.bool b) j pos) (tC (.bl b)):=fun _ _ _ H _ I h=>Constant_bool ⟨.bl b,H,I,rfl,h⟩
theorem fJ {j pos}:PE X (.Constant .none j pos) (tC .non):=fun _ _ _ H _ I h=>Constant_none ⟨.non,H,I,rfl,h⟩
def Gl (X:Cx) (x:Str):Prop:=X.env.kindOf x=some .globalImplicit
theorem uo {E:Value->Shared->Prop} {pins:List (Addr × Obj)} {s:Shared} {σ:St} {H:Hp} {x:Str} {u:Value} {pos:Pos} {Q:Value->Shared->Prop} (I:Inv X pins σ H s) (hg:Gl X x) (hm:X.mg x=some u) (h:Q u s)
  (hd:(x == ("__debug__" : Str))=false:=by decide):wpAny (model X.prog X.w) X.A (eval (.Name x pos) X.env) Q E s :=
 Calls.Name_function_global I.ok.kind hg (Calls.loadGlobal_global (by rw [I.ok.glob]; exact I.mod.glob.keeps I.bk) hm h) hd
theorem cI {E:Value->Shared->Prop} {pins:List (Addr × Obj)} {s:Shared} {σ:St} {H:Hp} {x:Str} {u:Value} {pos:Pos} {Q:Value->Shared->Prop} (I:Inv X pins σ H s) (hg:Gl X x) (hm:X.mg x=none) (hv:bootBuiltins x=some u) (h:Q u s)
  (hn:x ≠ "__name__" := by decide) (hd:(x == ("__debug__" : Str))=false:=by decide):wpAny (model X.prog X.w) X.A (eval (.Name x pos) X.env) Q E s:=by
 obtain ⟨mb,h1,h2⟩:=I.mod.blt
 exact Calls.Name_function_global I.ok.kind hg (Calls.loadGlobal_builtin (by rw [I.ok.glob]; exact I.mod.glob.keeps I.bk) hm (by rw [I.ok.blt]; exact h1.keeps I.bk) ((h2 x hn).trans hv) h) hd
theorem kQ {x:Str} {v:V} {u:Value} {pos:Pos} (hg:Gl X x) (hm:X.mg x=none) (hv:bootBuiltins x=some u) (r:RelV v u) (hn:x ≠ "__name__" := by decide) (hd:(x == ("__debug__" : Str))=false:=by decide):PE X (.Name x pos) (tC v) :=
 fun _ _ _ H _ I h=>cI I hg hm hv ⟨v,H,I,r,h⟩ hn hd
variable {a b:Expr} {ta tb:TE} {pos:Pos}
def PC (X:Cx) (op:CmpOp) (a b:Expr) (t:TE):Prop :=
 ∀ (pins:List (Addr × Obj)) (s:Shared) (σ:St) (H:Hp) (Q:VK),Inv X pins σ H s->t σ H Q →
  wpAny (model X.prog X.w) X.A (eval a X.env) (fun v s₁=>wpAny (model X.prog X.w) X.A (eval b X.env) (fun u s₂=>wpAny (model X.prog X.w) X.A (compareOp op v u) (EP X pins σ Q) X.xe s₂) X.xe s₁) X.xe s
theorem rN (b:Expr) {op:CmpOp} (h:op ≠ .In) (h2:op ≠ .NotIn):behindInMarks op b=false:=by
 have e1:(op == CmpOp.In)=false:=by cases op <;> first | rfl | exact absurd rfl h
 have e2:(op == CmpOp.NotIn)=false:=by cases op <;> first | rfl | exact absurd rfl h2
 cases b <;> simp [behindInMarks,e1,e2]
def tB (t:TE):TT:=fun σ H Q=>t σ H fun x H1=>∃ c,x = .bl c/\Q c H1
theorem kR {op:CmpOp} {t:TE} (h:PC X op a b t) (h1:behindInMarks op b=false:=by first | exact rN _ (by decide) (by decide) | rfl):PT X (.Compare a [op] [b] pos) (tB t):=by
 intro pins s σ H Q I hw
 refine wpAny_isTrue_Compare1 (thn (h pins s σ H _ I hw) fun v s1 h1=>thn h1 fun u s2 h2=>thn h2 fun c s3 ⟨x,H1,I1,r1,q1⟩ => ?_) h1
 obtain ⟨d,rfl,q⟩:=q1
 cases r1
 exact wpAny_truthy_bool ⟨H1,I1,q⟩
theorem kS {e:Expr} {t:TE} (h:PE X e t) (he:∀ whole,isTrue e X.env whole=(do let v ← whole; standAt e.pos; holding [v] (truthy v)):=by intro _; rfl):PT X e (tB t):=by
  intro pins s σ H Q I hw
  refine isTrue_plain (thn (h pins s σ H _ I hw) fun v s1 ⟨x,H1,I1,r1,q1⟩ => ?_) (he _)
  obtain ⟨d,rfl,q⟩:=q1
  cases r1
  exact wpAny_truthy_bool ⟨H1,I1,q⟩
variable {tA tB':TT} {rest:List Expr}
def tAnd (t u:TT):TT:=fun σ H Q=>t σ H fun c H1=>if c=true then u σ H1 Q else Q false H1
def tOr (t u:TT):TT:=fun σ H Q=>t σ H fun c H1=>if c=true then Q true H1 else u σ H1 Q
def tNot (t:TT):TT:=fun σ H Q=>t σ H fun c H1=>Q (!c) H1
theorem o8 (ha:PT X a tA):PW X (.BoolOp .And [a] pos) tA:=by
 intro wh pins s σ H Q I h
 refine isTrue_and (thn (ha pins s σ H Q I h) fun c s1 e => ?_)
 cases c with
 | true=>exact isTrue_and_nil e
 | false=>exact e
theorem kT (ha:PT X a tA):PW X (.BoolOp .Or [a] pos) tA:=by
 intro wh pins s σ H Q I h
 refine isTrue_or (thn (ha pins s σ H Q I h) fun c s1 e => ?_)
 cases c with
 | false=>exact isTrue_or_nil e
 | true=>exact e
theorem rO (ha:PT X a tA) (hb:PW X (.BoolOp .And (b :: rest) pos) tB'):PW X (.BoolOp .And (a :: b :: rest) pos) (tAnd tA tB'):=by
 intro wh pins s σ H Q I h
 refine isTrue_and (thn (ha pins s σ H _ I h) fun c s1 ⟨H1,I1,q1⟩ => ?_)
 cases c with
 | true=>exact hb wh pins s1 σ H1 Q I1 q1
 | false=>exact ⟨H1,I1,q1⟩
theorem jK (ha:PT X a tA) (hb:PW X (.BoolOp .Or (b :: rest) pos) tB'):PW X (.BoolOp .Or (a :: b :: rest) pos) (tOr tA tB'):=by
 intro wh pins s σ H Q I h
 refine isTrue_or (thn (ha pins s σ H _ I h) fun c s1 ⟨H1,I1,q1⟩ => ?_)
 cases c with
 | true=>exact ⟨H1,I1,q1⟩
 | false=>exact hb wh pins s1 σ H1 Q I1 q1
theorem kU (ha:PT X a tA):PT X (.UnaryOp .Not a pos) (tNot tA):=by
 intro pins s σ H Q I h
 exact isTrue_not (ha pins s σ H (fun c H1=>Q (!c) H1) I h)
def xH (ta tb:TE):TE:=fun σ H Q=>ta σ H fun x H1=>∃ c,x = .bl c/\if c=true then tb σ H1 Q else Q (.bl false) H1
def xI (ta:TE):TE:=fun σ H Q=>ta σ H fun x H1=>∃ c,x = .bl c/\Q (.bl (!c)) H1
theorem wa {op} {t:TE} (h:PE X a t):PE X (.BoolOp op [a] pos) t:=fun pins s σ H Q I hw=>BoolOp_one (h pins s σ H Q I hw)
theorem wb (ha:PE X a ta) (hb:PE X (.BoolOp .And (b :: rest) pos) tb):PE X (.BoolOp .And (a :: b :: rest) pos) (xH ta tb):=by
 intro pins s σ H Q I h
 refine BoolOp_and (thn (ha pins s σ H _ I h) fun v s1 ⟨x,H1,I1,r1,q1⟩ => ?_)
 obtain ⟨c,rfl,q1⟩:=q1
 cases r1
 refine wpAny_truthy_bool ?_
 cases c with
 | true=>exact hb pins s1 σ H1 Q I1 q1
 | false=>exact ⟨.bl false,H1,I1,rfl,q1⟩
theorem wc (ha:PE X a ta):PE X (.UnaryOp .Not a pos) (xI ta):=by
 intro pins s σ H Q I h
 refine UnaryOp_ (thn (ha pins s σ H _ I h) fun v s1 ⟨x,H1,I1,r1,q1⟩ => ?_)
 obtain ⟨c,rfl,q1⟩:=q1
 cases r1
 exact not_of (wpAny_truthy_bool ⟨.bl (!c),H1,I1,rfl,q1⟩)
end
open PySem PySem.Spec PyProof.Rows
def SqL (K:PySem.W.Frag) (H:Hp) (a:Addr) (xs:List V):Prop :=
 Rd H a (.lst xs) ∨
  ∃ (o:Obj) (its:Array Value) (n:Nat),K.lookup a=some o/\o.cls = .type "list" /\ o.dict=none/\o.data = .seq its n/\its.size<=sizeLine/\Vals xs its.toList
def SqT (K:PySem.W.Frag) (H:Hp) (a:Addr) (xs:List V):Prop :=
 Rd H a (.tup xs) ∨
  ∃ (o:Obj) (its:Array Value) (n:Nat),K.lookup a=some o/\o.cls = .type "tuple" /\ o.data = .seq its n/\its.size<=sizeLine/\Vals xs its.toList
def absV:Value->Option V
 | .none=>some .non
 | .bool b=>some (.bl b)
 | .int i _=>some (.int i)
 | .str x _=>some (.str x)
 | .bytes b _=>some (.byt b)
 | .float b _=>some (.flt b)
 | .ref a=>some (.ref a)
 | .type n=>some (.ty n)
 | _=>none
theorem RelV.abs {x:V} {u:Value} (r:RelV x u):absV u=some x:=by
 cases x with
 | non=>cases r; rfl
 | bl _=>cases r; rfl
 | int _=>obtain ⟨t,rfl⟩:=r; rfl
 | str _=>obtain ⟨t,rfl⟩:=r; rfl
 | byt _=>obtain ⟨t,rfl⟩:=r; rfl
 | flt _=>obtain ⟨t,rfl⟩:=r; rfl
 | ref _=>cases r; rfl
 | ty _=>cases r; rfl
theorem RelV.inj {x y:V} {u:Value} (r:RelV x u) (q:RelV y u):x=y:=Option.some.inj (r.abs.symm.trans q.abs)
theorem Vals.inj:∀ {xs ys:List V} {us:List Value},Vals xs us->Vals ys us->xs=ys
 | _,_,_,.nil,.nil=>rfl
 | _,_,_,.cons r t,.cons r' t'=>by rw [r.inj r',Vals.inj t t']
section
variable {X:Cx} {pins:List (Addr × Obj)} {σ:St} {H:Hp} {s:Shared} {a:Addr} {xs ys:List V}
theorem SqL.of {K:PySem.W.Frag} (h:H a=some (.lst xs)):SqL K H a xs := .inl (.inl h)
theorem SqT.of {K:PySem.W.Frag} (h:H a=some (.tup xs)):SqT K H a xs := .inl (.inl h)
theorem Inv.list (I:Inv X pins σ H s) (h:SqL X.K H a xs):∃ its:List Value,Vals xs its/\PlainL s.heap a its.toArray/\xs.length<=sizeLine:=by
 rcases h with h | ⟨o,its,n,hk,hc,hd,hs,hz,r⟩
 ·obtain ⟨z,its,n,r,e⟩:=h.ok I.hok
  exact ⟨its,r,⟨_,n,e,rfl,rfl,rfl⟩,z⟩
 ·refine ⟨its.toList,r,⟨o,n,I.kIn a o hk,hc,hd,by simpa using hs⟩,?_⟩
  have e:=r.length
  simp only [Array.length_toList] at e
  omega
theorem Inv.tuple (I:Inv X pins σ H s) (h:SqT X.K H a xs):∃ its:List Value,Vals xs its/\IsTup s.heap a its.toArray/\xs.length<=sizeLine:=by
 rcases h with h | ⟨o,its,n,hk,hc,hs,hz,r⟩
 ·obtain ⟨z,its,r,p⟩:=h.ok I.hok
  exact ⟨its,r,p.tup,z⟩
 ·refine ⟨its.toList,r,⟨o,I.kIn a o hk,hc,n,by simpa using hs⟩,?_⟩
  have e:=r.length
  simp only [Array.length_toList] at e
  omega
theorem Inv.rP (I:Inv X pins σ H s) (h:SqL X.K H a xs) (h':SqL X.K H a ys):xs=ys:=by
 obtain ⟨its,r,⟨o,n,e,_,_,d⟩,_⟩:=I.list h
 obtain ⟨its',r',⟨o',n',e',_,_,d'⟩,_⟩:=I.list h'
 rw [e] at e'; cases e'
 rw [d] at d'
 injection d' with d1 _
 have:its=its':=by simpa using congrArg Array.toList d1
 subst this
 exact r.inj r'
theorem Inv.jL (I:Inv X pins σ H s) (h:SqT X.K H a xs) (h':SqT X.K H a ys):xs=ys:=by
 obtain ⟨its,r,⟨o,e,_,n,d⟩,_⟩:=I.tuple h
 obtain ⟨its',r',⟨o',e',_,n',d'⟩,_⟩:=I.tuple h'
 rw [e] at e'; cases e'
 rw [d] at d'
 injection d' with d1 _
 have:its=its':=by simpa using congrArg Array.toList d1
 subst this
 exact r.inj r'
end
abbrev Cx.jv (X:Cx) (E:Value->Shared->Prop):Cx:={ X with xe:=E }
abbrev Cx.nox (X:Cx):Cx:=X.jv fun _ _=>False
theorem Cx.Ok.jv {X:Cx} (ok:X.Ok) (E:Value->Shared->Prop):(X.jv E).Ok :=
 ⟨ok.mod,ok.kind,ok.glob,ok.blt,ok.above,ok.inj,ok.has,ok.cab,ok.hd,ok.frames,ok.stk,ok.exf,ok.bs,ok.bsz,ok.noex,ok.exfs,ok.funs,ok.frf⟩
theorem Cx.Ok.eI {X:Cx} {E:Value->Shared->Prop} (ok:(X.jv E).Ok):X.Ok :=
 ⟨ok.mod,ok.kind,ok.glob,ok.blt,ok.above,ok.inj,ok.has,ok.cab,ok.hd,ok.frames,ok.stk,ok.exf,ok.bs,ok.bsz,ok.noex,ok.exfs,ok.funs,ok.frf⟩
section
variable {X:Cx} {pins:List (Addr × Obj)} {σ:St} {H:Hp} {s:Shared} {E:Value->Shared->Prop}
theorem Inv.jv (I:Inv X pins σ H s) (E:Value->Shared->Prop):Inv (X.jv E) pins σ H s:=⟨I.ok.jv E,I.os,I.bare,I.base,I.loc,I.cell,I.free,I.freeC,I.pin,I.hok,I.len⟩
theorem Inv.eI (I:Inv (X.jv E) pins σ H s):Inv X pins σ H s:=⟨I.ok.eI,I.os,I.bare,I.base,I.loc,I.cell,I.free,I.freeC,I.pin,I.hok,I.len⟩
theorem SP.eI {D:Ends} {f:Flow} {s':Shared} (h:SP (X.jv E) pins D f s'):SP X pins D f s':=by
 cases f with
 | next=>obtain ⟨σ',H',I,q⟩:=h; exact ⟨σ',H',I.eI,q⟩
 | brk=>obtain ⟨σ',H',I,q⟩:=h; exact ⟨σ',H',I.eI,q⟩
 | cont=>obtain ⟨σ',H',I,q⟩:=h; exact ⟨σ',H',I.eI,q⟩
 | ret u=>obtain ⟨v,σ',H',I,r,q⟩:=h; exact ⟨v,σ',H',I.eI,r,q⟩
theorem PSs.nox {st:List Stmt} {t:TS} (h:PSs X.nox st t):PSs X st t:=fun pins s σ H D I hw =>
 wpAny_mono (h pins s σ H D (I.jv _) hw) (fun _ _ q=>q.eI) fun _ _ z=>False.elim z
end
section
variable {X:Cx} {st:Stmt} {rest:List Stmt} {t u:TS} {e:Expr} {te:TE} {pos:Pos}
def xJ:TS:=fun D σ H=>D.nx σ H
def tSeq (t u:TS):TS:=fun D σ H=>t { D with nx:=u D } σ H
theorem ba:PSs X [] xJ:=fun _ _ σ H _ I h=>wpAny_execs_nil ⟨σ,H,I,h⟩
theorem ah (h1:PS X st t) (h2:PSs X rest u):PSs X (st :: rest) (tSeq t u):=by
 intro pins s σ H D I h
 refine wpAny_execs_cons (thn (h1 pins s σ H { D with nx:=u D } I h) fun f s1 q => ?_)
 cases f with
 | next =>
  obtain ⟨σ',H',I',q⟩:=q
  exact h2 pins s1 σ' H' D I' q
 | ret v=>exact q
 | brk=>exact q
 | cont=>exact q
theorem av (h1:PS X st t):PSs X [st] t:=by
 intro pins s σ H D I h
 refine wpAny_execs_cons (thn (h1 pins s σ H D I h) fun f s1 q => ?_)
 cases f with
 | next=>exact wpAny_execs_nil q
 | ret v=>exact q
 | brk=>exact q
 | cont=>exact q
theorem Inv.quiet {pins:List (Addr × Obj)} {σ:St} {H:Hp} {s:Shared} (I:Inv X pins σ H s):interactive X.env=false:=by simp [interactive,I.ok.kind]
def xK (te:TE):TS:=fun D σ H=>te σ H fun _ H1=>D.nx σ H1
theorem bN (he:PE X e te) (hs:swapsWith e none pos.line X.env=pure false:=by rfl):PS X (.Expr e pos) (xK te):=by
 intro pins s σ H D I h
 exact wpAny_Expr_any (thn (he pins s σ H _ I h) fun v s1 ⟨x,H1,I1,r1,q1⟩=>⟨σ,H1,I1,q1⟩) I.quiet hs
def tRet (te:TE):TS:=fun D σ H=>te σ H D.rt
theorem aU (he:PE X e te):PS X (.Return (some e) pos) (tRet te):=by
 intro pins s σ H D I h
 exact wpAny_Return_some (thn (he pins s σ H _ I h) fun v s1 ⟨x,H1,I1,r1,q1⟩=>⟨x,σ,H1,I1,r1,q1⟩)
def tIfS (c:TT) (t u:TS):TS:=fun D σ H=>c σ H fun b H1=>if b=true then t D σ H1 else u D σ H1
theorem bQ {c:Expr} {a b:List Stmt} {tc:TT} (hc:PT X c tc) (ha:PSs X a t) (hb:PSs X b u):PS X (.If c a b pos) (tIfS tc t u):=by
 intro pins s σ H D I h
 refine wpAny_If (thn (hc pins s σ H _ I h) fun d s1 ⟨H1,I1,q1⟩ => ?_)
 cases d with
 | true=>exact ha pins s1 σ H1 D I1 q1
 | false=>exact hb pins s1 σ H1 D I1 q1
def wd:TS:=fun _ _ _=>False
theorem gH {sts:List Stmt}:PSs X sts wd:=fun _ _ _ _ _ _ h=>h.elim
end
abbrev TG:=V->St->Hp->(St->Hp->Prop)->Prop
abbrev TGs:=List V->St->Hp->(St->Hp->Prop)->Prop
def PG (X:Cx) (target:Expr) (t:TG):Prop :=
 ∀ (pins:List (Addr × Obj)) (s:Shared) (σ:St) (H:Hp) (v:V) (u:Value) (Q:St->Hp->Prop),Inv X pins σ H s->RelV v u->t v σ H Q →
  wpAny (model X.prog X.w) X.A (assign target X.env u) (fun _ s'=>∃ σ' H',Inv X pins σ' H' s'/\Q σ' H') X.xe s
def PGs (X:Cx) (ts:List Expr) (t:TGs):Prop :=
 ∀ (pins:List (Addr × Obj)) (s:Shared) (σ:St) (H:Hp) (vs:List V) (us:List Value) (Q:St->Hp->Prop),Inv X pins σ H s->Vals vs us->t vs σ H Q →
  wpAny (model X.prog X.w) X.A (assignInOrder ((assignEach ts X.env).map (·.2)) us) (fun _ s'=>∃ σ' H',Inv X pins σ' H' s'/\Q σ' H') X.xe s
section
variable {X:Cx} {pos:Pos}
def hZ (i:Nat):TG:=fun v σ H Q=>Q (σ.set i (some v)) H
theorem aj {i:Nat} {x:Str} (hN:X.N.Nodup) (hi:X.N[i]? = some x) (hx:Loc X.env.scope x) (hf:X.fn x=true\/X.env.scope.names.lookup x=some .local:=by first | exact .inl rfl | exact .inr rfl | assumption):PG X (.Name x pos) (hZ i):=by
 intro pins s σ H v u Q I r h
 exact wpAny_assign_Name (mj I hN hi hx r (fun s' I'=>⟨_,H,I',h⟩) hf)
def xM:TGs:=fun vs σ H Q=>vs=[]/\Q σ H
def rQ (t:TG) (u:TGs):TGs:=fun vs σ H Q=>∃ v r,vs=v :: r/\t v σ H fun σ' H'=>u r σ' H' Q
theorem aK:PGs X [] xM:=by
 intro pins s σ H vs us Q I r h
 obtain ⟨e,h⟩:=h
 subst e
 cases r
 exact assignInOrder_nil ⟨σ,H,I,h⟩
theorem aq {e:Expr} {es:List Expr} {t:TG} {u:TGs} (h1:PG X e t) (h2:PGs X es u)
  (hs:(assignEach (e :: es) X.env).map (·.2)=assign e X.env :: (assignEach es X.env).map (·.2):=by rfl):PGs X (e :: es) (rQ t u):=by
 intro pins s σ H vs us Q I r h
 obtain ⟨v,vr,e1,h⟩:=h
 subst e1
 cases r with
 | cons r rr =>
  rw [hs]
  refine assignInOrder_cons (thn (h1 pins s σ H _ _ _ I r h) fun _ s1 ⟨σ1,H1,I1,q1⟩ => ?_)
  exact h2 pins s1 σ1 H1 _ _ Q I1 rr q1
def xN (K:PySem.W.Frag) (n:Nat) (t:TGs):TG:=fun v σ H Q=>∃ a xs,v = .ref a/\SqT K H a xs/\xs.length=n/\t xs σ H Q
theorem bh {es:List Expr} {k:Nat} {t:TGs} {n:Nat} (hc:X.calm=true) (h:PGs X es t)
  (hn:(assignEach es X.env).length=n:=by rfl) (hst:(assignEach es X.env).findIdx? (·.1)=none:=by rfl):PG X (.Tuple es k pos) (xN X.K n t):=by
 intro pins s σ H v u Q I r hw
 obtain ⟨a,xs,e1,hq,hl,hw⟩:=hw
 subst e1
 cases r
 obtain ⟨its,rv,ht,hz⟩:=I.tuple hq
 refine assign_Tuple_tuple (I.ok.hd hc) ht (by simp [hn, <- hl,rv.length]) hst fun h' hx => ?_
 have I1:Inv X pins σ H { s with heap:=h' }:=I.kept (t':=s.toks) fun b o e=>hx b o (Nat.ne_of_lt (Heap.lt_size e)) e
 exact h pins _ σ H xs _ Q I1 (by simpa using rv) hw
def we (te:TE) (g:TG):TS:=fun D σ H=>te σ H fun x H1=>g x σ H1 D.nx
theorem bo {tg e:Expr} {te:TE} {g:TG} (he:PE X e te) (hg:PG X tg g) (hs:swapsWithSole [tg] e pos.line X.env=pure false:=by rfl) (hw:swappedStores [tg] e X.env=pure none:=by rfl)
  (h1:(assignEach [tg] X.env).map (·.2)=[assign tg X.env]:=by rfl):PS X (.Assign [tg] e pos) (we te g):=by
 intro pins s σ H D I h
 refine wpAny_Assign_stores (thn (he pins s σ H _ I h) fun v s1 ⟨x,H1,I1,r1,q1⟩ => ?_) hs hw
 rw [h1]
 exact thn (hg pins s1 σ H1 x v _ I1 r1 q1) fun _ s2 q=>q
theorem aL {i:Nat} {x:Str} {e:Expr} {te:TE} {pos':Pos} (hN:X.N.Nodup) (hi:X.N[i]? = some x) (hx:Loc X.env.scope x) (he:PE X e te) (hs:swapsWith e (some (.Name x pos')) pos.line X.env=pure false:=by rfl) (hf:X.fn x=true\/X.env.scope.names.lookup x=some .local:=by first | exact .inl rfl | exact .inr rfl | assumption) :
  PS X (.Assign [.Name x pos'] e pos) (we te (hZ i)):=by
 intro pins s σ H D I h
 refine wpAny_Assign_Name (thn (he pins s σ H _ I h) fun v s1 ⟨y,H1,I1,r1,q1⟩ => ?_) hs
 exact mj I1 hN hi hx r1 (fun s2 I2=>⟨_,H1,I2,q1⟩) hf
end
section
variable {X:Cx} {pos:Pos}
def rR (c:TT) (tb:TS):TS:=fun D σ H=>∃ W:Nat->St->Hp->Prop,(∃ m,W m σ H)/\∀ m σ H,W m σ H →
 c σ H fun b H1=>if b=true then ∃ N:St->Hp->Prop,(∀ σ' H',N σ' H'->∃ m',m' < m/\W m' σ' H')/\tb { D with nx:=N,ct:=N,bk:=D.nx } σ H1 else D.nx σ H1
theorem iy {c:Expr} {body:List Stmt} {tc:TT} {tb:TS} (hp:PassesOwn (model X.prog X.w) X.A X.env X.xe) (hc:PT X c tc) (hb:PSs X body tb):PS X (.While c body [] pos) (rR tc tb):=by
 intro pins s σ H D I h
 obtain ⟨W,⟨m0,w0⟩,turn⟩:=h
 refine wpAny_While (codeAny_whileLoop (fun n s'=>∃ σ' H',Inv X pins σ' H' s'/\W n σ' H') ?_ m0 ⟨σ,H,I,w0⟩)
 rintro n s1 ⟨σ1,H1,I1,w1⟩
 refine wpAny_passesOwn hp (thn (hc pins s1 σ1 H1 _ I1 (turn n σ1 H1 w1)) fun b s2 ⟨H2,I2,q2⟩ => ?_)
 cases b with
 | true =>
  obtain ⟨N,hN,q2⟩:=q2
  rw [if_pos rfl]
  refine wpAny_passesOwn hp (thn (hb pins s2 σ1 H2 _ I2 q2) fun f s3 q3 => ?_)
  cases f with
  | next =>
   obtain ⟨σ3,H3,I3,n3⟩:=q3
   obtain ⟨m',hm,w3⟩:=hN σ3 H3 n3
   exact ⟨m',hm,σ3,H3,I3,w3⟩
  | cont =>
   obtain ⟨σ3,H3,I3,n3⟩:=q3
   obtain ⟨m',hm,w3⟩:=hN σ3 H3 n3
   exact ⟨m',hm,σ3,H3,I3,w3⟩
  | brk=>exact q3
  | ret v=>exact q3
 | false =>
  rw [if_neg Bool.false_ne_true]
  exact wpAny_execs_nil ⟨σ1,H2,I2,q2⟩
end
structure It where
 go:Nat->Hp->Prop
 yld:Nat->Hp->V->Hp->Prop
 stop:Nat->Hp->Prop
def kX (X:Cx) (pins:List (Addr × Obj)) (H:Hp) (b:Addr):Prop :=
 H b=none/\b ≠ X.env.locals/\b ∉ X.fs/\(b ∈ X.ex\/X.s₀.heap.objs.size<=b)/\(∀ x c,X.env.cells.lookup x=some c->c ≠ b)/\∀ p ∈ X.pn ++ pins,p.1 ≠ b
theorem Inv.wg {X:Cx} {pins:List (Addr × Obj)} {σ:St} {H H':Hp} {s:Shared} {b:Addr} (I:Inv X pins σ H s) (hb:s.heap.objs.size<=b) (hn:H' b=none):kX X pins H' b:=by
 refine ⟨hn,Nat.ne_of_gt (Nat.lt_of_lt_of_le I.lt hb),I.v8 hb,.inr (Nat.le_trans I.sz hb),fun x c e z => ?_,fun p hp z => ?_⟩
 ·obtain ⟨v,q⟩:=I.cell x c e
  exact absurd (Nat.lt_of_lt_of_le q.lt (by rw [z]; exact hb)) (Nat.lt_irrefl _)
 ·exact absurd (Nat.lt_of_lt_of_le (Heap.lt_size (I.pin p hp).1) (by rw [z]; exact hb)) (Nat.lt_irrefl _)
structure Turn (P:Program) (w:World) (K:PySem.W.Frag) (tg:Expr) (J:It) (fp:List Addr) (it:Addr) (tn:Nat->Heap->Prop):Prop where
 mem:it ∈ fp
 obj:∀ i h,tn i h->∀ b ∈ fp,∃ o,h.get? b=some o/\∀ v,o.data ≠ .cell v
 keep:∀ i h h',tn i h->(∀ b ∈ fp,∀ o,h.get? b=some o->h'.get? b=some o)->tn i h'
 item:∀ (X:Cx),X.prog=P->X.w=w->X.K=K->X.calm=true->∀ (i:Nat) (pins:List (Addr × Obj)) (s:Shared) (σ:St) (H:Hp) (E:Value->Shared->Prop),Inv X pins σ H s->(∀ b ∈ fp,kX X pins H b)->tn i s.heap->J.go i H →
  wpAny (model P w) X.A (pyNext (.ref it)) (fun r s1=>∃ u,r=some u ∧
   wpAny (model P w) X.A (letOwnedTupleGo tg (.ref it) u) (fun _ s2=>∃ x H',Inv X pins σ H' s2/\RelV x u/\J.yld i H x H'/\tn (i + 1) s2.heap/\∀ b ∈ fp,H' b=none) E s1) E s
 done:∀ (X:Cx),X.prog=P->X.w=w->X.K=K->X.calm=true->∀ (i:Nat) (pins:List (Addr × Obj)) (s:Shared) (σ:St) (H:Hp) (E:Value->Shared->Prop),Inv X pins σ H s->(∀ b ∈ fp,kX X pins H b)->tn i s.heap->J.stop i H →
  wpAny (model P w) X.A (pyNext (.ref it)) (fun r s1=>r=none/\Inv X pins σ H s1) E s
 self:∀ (A:Around) (i:Nat) (s:Shared) (Q:Value->Shared->Prop) (E:Value->Shared->Prop),tn i s.heap->Q (.ref it) s->wpAny (model P w) A (pyIter (.ref it)) Q E s
abbrev TI:=St->Hp->(It->Hp->Prop)->Prop
def PIE (X:Cx) (pins:List (Addr × Obj)) (σ:St) (tg:Expr) (R:It->Hp->Prop) (itv:Value) (s2:Shared):Prop :=
 ∃ (it:Addr) (fp:List Addr) (tn:Nat->Heap->Prop) (J:It) (H':Hp),itv = .ref it/\Inv X pins σ H' s2/\Turn X.prog X.w X.K tg J fp it tn/\tn 0 s2.heap/\(∀ b ∈ fp,kX X pins H' b)/\R J H'
def PI (X:Cx) (tg iter:Expr) (wi:TI):Prop :=
 ∀ (pins:List (Addr × Obj)) (s:Shared) (σ:St) (H:Hp) (R:It->Hp->Prop),Inv X pins σ H s->wi σ H R →
  wpAny (model X.prog X.w) X.A (eval iter X.env) (fun v s1=>wpAny (model X.prog X.w) X.A (pyIter v) (PIE X pins σ tg R) X.xe s1) X.xe s
theorem rS {M:Model} {A:Around} {E:Value->Shared->Prop} {s:Shared} {tg:Expr} {it:Addr} {u:Value} {o:Obj} {n:String} {vs:Array Value} {Q:Unit->Shared->Prop} (ho:s.heap.get? it=some o) (hc:o.cls = .type n) (hd:o.data = .fields vs)
    (hn:["enumerate", "zip", "dict_itemiterator", "dict_reverseitemiterator", "odict_iterator", "itertools.zip_longest", "itertools.pairwise"].contains n=false) (hQ:Q () s):wpAny M A (letOwnedTupleGo tg (.ref it) u) Q E s:=by
  unfold letOwnedTupleGo
  cases tg <;> first
    | exact wpAny_pure hQ
    | (cases u <;> first
        | exact wpAny_pure hQ
        | (refine wpAny_bind (wpAny_load ho ?_)
           rw [hc,hd]
           show wpAny M A (if (["enumerate", "zip", "dict_itemiterator", "dict_reverseitemiterator", "odict_iterator", "itertools.zip_longest", "itertools.pairwise"].contains n && vs[0]? == some (rawInt _))=true then _ else _) Q E s
           rw [if_neg (by intro h; rw [hn,Bool.false_and] at h; cases h)]
           exact wpAny_pure hQ))
def Itl (K:PySem.W.Frag) (a:Addr):It :=
 ⟨fun i H=>∃ xs x,SqL K H a xs/\xs[i]? = some x,fun i H x H'=>H'=H/\∀ xs,SqL K H a xs->xs[i]? = some x,fun i H=>∃ xs,SqL K H a xs/\xs.length<=i⟩
def Itt (K:PySem.W.Frag) (a:Addr):It :=
 ⟨fun i H=>∃ xs x,SqT K H a xs/\xs[i]? = some x,fun i H x H'=>H'=H/\∀ xs,SqT K H a xs->xs[i]? = some x,fun i H=>∃ xs,SqT K H a xs/\xs.length<=i⟩
def Itr (lo:Int) (n:Nat):It:=⟨fun i _=>i < n,fun i H x H'=>H'=H/\x = .int (lo + i),fun i _=>n<=i⟩
theorem qu {P:Program} {w:World} {K:PySem.W.Frag} {tg:Expr} (a it:Addr):Turn P w K tg (Itl K a) [it] it (fun i h=>h.IsListIter it a i) where
 mem:=by simp
 obj:=fun i h st b hb=>by
  have e:b=it:=by simpa using hb
  subst e
  obtain ⟨o,e,c,d⟩:=st
  exact ⟨o,e,fun v z=>by rw [d] at z; cases z⟩
 keep:=fun i h h' st k=>st.at fun o e=>k it (by simp) o e
 item:=by
  intro X hP hw hK hc i pins s σ H E I hf st hg
  subst hP hw hK
  obtain ⟨xs,x,hq,hx⟩:=hg
  obtain ⟨its,rv,p,hz⟩:=I.list hq
  obtain ⟨u,hu,ru⟩:=rv.get hx
  obtain ⟨f0,f1,f2,f3,f4,f5⟩:=hf it (by simp)
  refine wpAny_pyNext_list_item st p.isList (x:=u) (by simpa using hu) fun h' st' sb => ?_
  have I1:Inv X pins σ H { s with heap:=h' }:=I.turned (t':=s.toks) (fun b o hb e=>(sb.2 b hb).trans e) f0 f1 f3 f4 f5
  obtain ⟨o,e,c,d⟩:=id st'
  exact ⟨u,rfl,rS (s:={ s with heap:=h' }) e c d (by decide) ⟨x,H,I1,ru,⟨rfl,fun ys hy=>by rw [I.rP hy hq]; exact hx⟩,st',fun b hb=>(hf b hb).1⟩⟩
 done:=by
  intro X hP hw hK hc i pins s σ H E I hf st hg
  subst hP hw hK
  obtain ⟨xs,hq,hx⟩:=hg
  obtain ⟨its,rv,p,hz⟩:=I.list hq
  obtain ⟨f0,f1,f2,f3,f4,f5⟩:=hf it (by simp)
  have hl:=rv.length
  exact wpAny_pyNext_list_end (I.ok.hd hc) st p.isList (by simp; omega) fun h' eb=>⟨rfl,I.turned (t':=s.toks) (fun b o hb e=>eb b o hb e) f0 f1 f3 f4 f5⟩
 self:=fun _ _ _ _ _ st h=>wpAny_pyIter_listiter st h
theorem nX {P:Program} {w:World} {K:PySem.W.Frag} {tg:Expr} (a it:Addr):Turn P w K tg (Itt K a) [it] it (fun i h=>h.IsTupleIter it a i) where
 mem:=by simp
 obj:=fun i h st b hb=>by
  have e:b=it:=by simpa using hb
  subst e
  obtain ⟨o,e,c,d⟩:=st
  exact ⟨o,e,fun v z=>by rw [d] at z; cases z⟩
 keep:=fun i h h' st k=>st.at fun o e=>k it (by simp) o e
 item:=by
  intro X hP hw hK hc i pins s σ H E I hf st hg
  subst hP hw hK
  obtain ⟨xs,x,hq,hx⟩:=hg
  obtain ⟨its,rv,p,hz⟩:=I.tuple hq
  obtain ⟨u,hu,ru⟩:=rv.get hx
  obtain ⟨f0,f1,f2,f3,f4,f5⟩:=hf it (by simp)
  refine wpAny_pyNext_tuple_item st (show s.heap.IsTuple a its.toArray from p) (x:=u) (by simpa using hu) fun h' st' sb => ?_
  have I1:Inv X pins σ H { s with heap:=h' }:=I.turned (t':=s.toks) (fun b o hb e=>(sb.2 b hb).trans e) f0 f1 f3 f4 f5
  obtain ⟨o,e,c,d⟩:=id st'
  exact ⟨u,rfl,rS (s:={ s with heap:=h' }) e c d (by decide) ⟨x,H,I1,ru,⟨rfl,fun ys hy=>by rw [I.jL hy hq]; exact hx⟩,st',fun b hb=>(hf b hb).1⟩⟩
 done:=by
  intro X hP hw hK hc i pins s σ H E I hf st hg
  subst hP hw hK
  obtain ⟨xs,hq,hx⟩:=hg
  obtain ⟨its,rv,p,hz⟩:=I.tuple hq
  obtain ⟨f0,f1,f2,f3,f4,f5⟩:=hf it (by simp)
  have hl:=rv.length
  exact wpAny_pyNext_tuple_end (I.ok.hd hc) st (show s.heap.IsTuple a its.toArray from p) (by simp; omega) fun h' eb=>⟨rfl,I.turned (t':=s.toks) (fun b o hb e=>eb b o hb e) f0 f1 f3 f4 f5⟩
 self:=fun _ _ _ _ _ st h=>wpAny_pyIter_tupleiter st h
theorem nY {P:Program} {w:World} {K:PySem.W.Frag} {tg:Expr} (it:Addr) (lo:Int) (n:Nat):Turn P w K tg (Itr lo n) [it] it (fun i h=>IsRangeIter h it (lo + (i:Nat) * 1) ((n:Int) - (i:Nat)) 1) where
 mem:=by simp
 obj:=fun i h st b hb=>by
  have e:b=it:=by simpa using hb
  subst e
  exact ⟨_,st,fun v z=>by
   have z':Data.fields _=Data.cell v:=z
   cases z'⟩
 keep:=fun i h h' st k=>k it (by simp) _ st
 item:=by
  intro X hP hw hK hc i pins s σ H E I hf st hg
  subst hP hw hK
  obtain ⟨f0,f1,f2,f3,f4,f5⟩:=hf it (by simp)
  have W:=Walks.range (prog:=X.prog) (w:=X.w) (I.ok.hd hc) it lo 1 n
  refine W.item i s _ _ hg st fun v h' tk hv st' kk => ?_
  obtain ⟨t,rfl⟩:=hv
  have I1:Inv X pins σ H { s with heap:=h',toks:=tk }:=I.turned (fun b o hb e=>kk b o (by simpa using hb) e) f0 f1 f3 f4 f5
  refine ⟨_,rfl,rS (s:={ s with heap:=h',toks:=tk }) (n := "range_iterator") st' rfl rfl (by decide) ⟨.int (lo + i),H,I1,⟨t,?_⟩,⟨rfl,rfl⟩,st',fun b hb=>(hf b hb).1⟩⟩
  rw [Int.mul_one]
 done:=by
  intro X hP hw hK hc i pins s σ H E I hf st hg
  subst hP hw hK
  obtain ⟨f0,f1,f2,f3,f4,f5⟩:=hf it (by simp)
  exact wpAny_pyNext_range_end (I.ok.hd hc) st (by have:n<=i:=hg; omega) fun h' eb=>⟨rfl,I.turned (t':=s.toks) (fun b o hb e=>eb b o hb e) f0 f1 f3 f4 f5⟩
 self:=fun _ _ _ _ _ st h=>wpAny_pyIter_rangeiter st h
open PySem PySem.Spec PyProof.Rows
section
variable {X:Cx} {tg:Expr}
def xO (K:PySem.W.Frag) (tl:TE):TI:=fun σ H R=>tl σ H fun x H1=>∃ a,x = .ref a/\(∃ xs,SqL K H1 a xs)/\R (Itl K a) H1
def iTup (K:PySem.W.Frag) (tl:TE):TI:=fun σ H R=>tl σ H fun x H1=>∃ a,x = .ref a/\(∃ xs,SqT K H1 a xs)/\R (Itt K a) H1
theorem cw {l:Expr} {tl:TE} (hl:PE X l tl):PI X tg l (xO X.K tl):=by
 intro pins s σ H R I h
 refine thn (hl pins s σ H _ I h) fun v s1 ⟨x,H1,I1,r1,q1⟩ => ?_
 obtain ⟨a,e,⟨xs,hq⟩,q⟩:=q1
 subst e
 cases r1
 obtain ⟨its,rv,p,hz⟩:=I1.list hq
 refine wpAny_pyIter_list p.isList ?_
 refine ⟨s1.heap.objs.size,[s1.heap.objs.size],_,_,H1,rfl,I1.kept (t':=s1.toks) fun b o e=>Heap.get?_push_of_some _ e,qu a _,⟨_,Heap.get?_push_size _ rfl,rfl,rfl⟩,fun b hb => ?_,q⟩
 have e:b=s1.heap.objs.size:=by simpa using hb
 subst e
 exact I1.wg (Nat.le_refl _) (I1.hok.fresh (Nat.le_refl _))
theorem nZ {l:Expr} {tl:TE} (hl:PE X l tl):PI X tg l (iTup X.K tl):=by
 intro pins s σ H R I h
 refine thn (hl pins s σ H _ I h) fun v s1 ⟨x,H1,I1,r1,q1⟩ => ?_
 obtain ⟨a,e,⟨xs,hq⟩,q⟩:=q1
 subst e
 cases r1
 obtain ⟨its,rv,p,hz⟩:=I1.tuple hq
 refine wpAny_pyIter_tuple (show s1.heap.IsTuple a its.toArray from p) ?_
 refine ⟨s1.heap.objs.size,[s1.heap.objs.size],_,_,H1,rfl,I1.kept (t':=s1.toks) fun b o e=>Heap.get?_push_of_some _ e,nX a _,⟨_,Heap.get?_push_size _ rfl,rfl,rfl⟩,fun b hb => ?_,q⟩
 have e:b=s1.heap.objs.size:=by simpa using hb
 subst e
 exact I1.wg (Nat.le_refl _) (I1.hok.fresh (Nat.le_refl _))
theorem ml {pins:List (Addr × Obj)} {σ:St} {H:Hp} {s:Shared} {R:It->Hp->Prop} {E:Value->Shared->Prop} {lo hi:Int} {t u v:Tok} {tk:Nat} (I:Inv X pins σ H s) (h1 : -(2 ^ 62)<=lo) (h2:lo < 2 ^ 62) (h3 : -(2 ^ 62)<=hi) (h4:hi < 2 ^ 62)
  (q:R (Itr lo (hi - lo).toNat) H):wpAny (model X.prog X.w) X.A (pyIter (.ref s.heap.objs.size)) (PIE X pins σ tg R) E { s with heap:=s.heap.push { cls := .type "range",data := .fields #[.int lo t,.int hi u,.int 1 v] },toks:=tk }:=by
 refine wpAny_pyIter_range (IsRange.new ..) (small_one h1 h2 h3 h4) ?_
 have I1:Inv X pins σ H { s with heap:=s.heap.push { cls := .type "range",data := .fields #[.int lo t,.int hi u,.int 1 v] },toks:=tk }:=I.kept fun b o e=>Heap.get?_push_of_some _ e
 refine ⟨(s.heap.push { cls := .type "range",data := .fields #[.int lo t,.int hi u,.int 1 v] }).objs.size,[(s.heap.push { cls := .type "range",data := .fields #[.int lo t,.int hi u,.int 1 v] }).objs.size],_,_,H,rfl,
  I1.kept (t':=tk) fun b o e=>Heap.get?_push_of_some _ e,nY _ lo (hi - lo).toNat,?_,fun b hb => ?_,q⟩
 ·have e1:lo + ((0:Nat):Int) * 1=lo:=by simp
  have e2:(((hi - lo).toNat:Nat):Int) - ((0:Nat):Int)=Builtin.Range.rangeSize lo hi 1:=by rw [rangeSize_one]; split <;> omega
  show IsRangeIter _ _ (lo + ((0:Nat):Int) * 1) ((((hi - lo).toNat:Nat):Int) - ((0:Nat):Int)) 1
  rw [e1,e2]
  exact Heap.get?_push_size _ rfl
 ·have e:b=(s.heap.push { cls := .type "range",data := .fields #[.int lo t,.int hi u,.int 1 v] }).objs.size:=by simpa using hb
  subst e
  exact I1.wg (Nat.le_refl _) (I1.hok.fresh (Nat.le_refl _))
def xP (ta:TA):TI:=fun σ H R=>ta σ H fun vs H1=>∃ j:Int,vs=[.int j] /\ -(2 ^ 62)<=j/\j < 2 ^ 62/\R (Itr 0 j.toNat) H1
def xQ (ta:TA):TI:=fun σ H R=>ta σ H fun vs H1=>∃ i j:Int,vs=[.int i,.int j]/\(-(2 ^ 62)<=i/\i < 2 ^ 62 /\ -(2 ^ 62)<=j/\j < 2 ^ 62)/\R (Itr i (j - i).toNat) H1
theorem bI {a:Expr} {ta:TA} {p pos:Pos} (hg:Gl X "range") (hm:X.mg "range" = none) (ha:PA X [a] ta) (hs:starEach [a] X.env=[(false,eval a X.env)]:=by rfl):PI X tg (.Call (.Name "range" p) [a] [] pos) (xP ta):=by
 intro pins s σ H R I h
 refine Call_ (cI I hg hm boot_range (PyProof.Rows.callWith_type1 (thn (ha pos pins s σ H _ I h) fun us s1 ⟨vs,H1,I1,r1,q1⟩ => ?_) hs rfl))
 obtain ⟨j,e,q1,q2,q⟩:=q1
 subst e
 cases r1 with
 | cons r rr =>
  cases rr
  obtain ⟨t,rfl⟩:=r
  exact call_range_1 (ml I1 (by omega) (by omega) q1 q2 (by simpa using q))
theorem jM {a b:Expr} {ta:TA} {p pos:Pos} (hg:Gl X "range") (hm:X.mg "range" = none) (ha:PA X [a,b] ta) (hs:starEach [a,b] X.env=[(false,eval a X.env),(false,eval b X.env)]:=by rfl) (hs2:starEach [b] X.env=[(false,eval b X.env)]:=by rfl) :
  PI X tg (.Call (.Name "range" p) [a,b] [] pos) (xQ ta):=by
 intro pins s σ H R I h
 refine Call_ (cI I hg hm boot_range (PyProof.Rows.callWith_type1 (thn (ha pos pins s σ H _ I h) fun us s1 ⟨vs,H1,I1,r1,q1⟩ => ?_) (by rw [hs,hs2]) (by rw [hs2]; rfl)))
 obtain ⟨i,j,e,⟨q1,q2,q3,q4⟩,q⟩:=q1
 subst e
 cases r1 with
 | cons r rr =>
  cases rr with
  | cons r' rr =>
   cases rr
   obtain ⟨t,rfl⟩:=r
   obtain ⟨t',rfl⟩:=r'
   exact call_range_2 (ml I1 q1 q2 q3 q4 q)
def tFor (wi:TI) (g:TG) (tb:TS):TS:=fun D σ H=>wi σ H fun J H1=>∃ W:Nat->Nat->St->Hp->Prop,(∃ m,W 0 m σ H1)/\∀ i m σ H,W i m σ H →
 (J.stop i H/\D.nx σ H)\/(J.go i H/\∃ N:St->Hp->Prop,(∀ σ' H',N σ' H'->∃ m',m' < m/\W (i + 1) m' σ' H')/\∀ x H',J.yld i H x H'->g x σ H' fun σ2 H2=>tb { D with nx:=N,ct:=N,bk:=D.nx } σ2 H2)
def fK (fp:List Addr) (h:Heap):List (Addr × Obj):=fp.filterMap fun b=>(h.get? b).map fun o=>(b,o)
theorem cS {fp:List Addr} {h:Heap} {b:Addr} {o:Obj} (hb:b ∈ fp) (e:h.get? b=some o):(b,o) ∈ fK fp h:=List.mem_filterMap.mpr ⟨b,hb,by rw [e]; rfl⟩
theorem jN {fp:List Addr} {h:Heap} {p:Addr × Obj} (hp:p ∈ fK fp h):p.1 ∈ fp/\h.get? p.1=some p.2:=by
 obtain ⟨b,hb,e⟩:=List.mem_filterMap.mp hp
 cases q:h.get? b with
 | none=>rw [q] at e; cases e
 | some o =>
  rw [q] at e
  have e':(b,o)=p:=Option.some.inj e
  subst e'
  exact ⟨hb,q⟩
theorem Inv.pinned {pins:List (Addr × Obj)} {σ:St} {H:Hp} {s:Shared} {fp:List Addr} (I:Inv X pins σ H s) (hf:∀ b ∈ fp,kX X pins H b) (ho:∀ b ∈ fp,∃ o,s.heap.get? b=some o/\∀ v,o.data ≠ .cell v):Inv X (pins ++ fK fp s.heap) σ H s :=
 I.fU fun p hp=>(List.mem_append.mp hp).elim (fun z=>I.pin p (List.mem_append_right _ z)) fun z=>by
  obtain ⟨hb,e⟩:=jN z
  obtain ⟨f0,f1,f2,_⟩:=hf p.1 hb
  obtain ⟨o,e',d⟩:=ho p.1 hb
  rw [e] at e'; cases e'
  exact ⟨e,f0,f1,f2,d⟩
theorem Inv.dJ {pins pl:List (Addr × Obj)} {σ:St} {H:Hp} {s:Shared} (I:Inv X (pins ++ pl) σ H s):Inv X pins σ H s:=I.fU fun p hp=>I.pin p (List.mem_append_right _ (List.mem_append_left _ hp))
theorem cx {iter:Expr} {body:List Stmt} {wi:TI} {g:TG} {tb:TS} {pos:Pos} (hp:PassesOwn (model X.prog X.w) X.A X.env X.xe) (hc:X.calm=true) (hi:PI X tg iter wi) (hg:PG X tg g) (hb:PSs X body tb)
  (hs:∀ x,foldedSetIterable iter X.env x=pure x:=by intro _; rfl):PS X (.For tg iter body [] pos) (tFor wi g tb):=by
 intro pins s σ H D I h
 refine wpAny_For (thn (hi pins s σ H _ I h) fun v s1 h1=>thn h1 fun itv s2 h2 => ?_) hs
 obtain ⟨it,fp,tn,J,H2,e,I2,T,st2,f2,W,⟨m0,w0⟩,turn⟩:=h2
 subst e
 have stat:∀ {H':Hp},(∀ b ∈ fp,H' b=none)->∀ b ∈ fp,kX X pins H' b:=fun hn b hb=>⟨hn b hb,(f2 b hb).2⟩
 refine codeAny_forLoop_any (fun n s'=>∃ i σ' H',Inv X pins σ' H' s'/\tn i s'.heap/\(∀ b ∈ fp,H' b=none)/\W i n σ' H') ?_ m0 ⟨0,σ,H2,I2,st2,fun b hb=>(f2 b hb).1,w0⟩
 rintro n s3 ⟨i,σ3,H3,I3,st3,fr3,w3⟩
 rcases turn i n σ3 H3 w3 with ⟨stop,qn⟩ | ⟨go,N,hN,step⟩
 ·refine wpAny_passesOwn hp (thn (T.done X rfl rfl rfl hc i pins s3 σ3 H3 X.xe I3 (stat fr3) st3 stop) fun r s4 ⟨hr,I4⟩ => ?_)
  subst hr
  exact wpAny_execs_nil ⟨σ3,H3,I4,qn⟩
 ·refine wpAny_passesOwn hp (thn (T.item X rfl rfl rfl hc i pins s3 σ3 H3 X.xe I3 (stat fr3) st3 go) fun r s4 ⟨u,hr,h4⟩ => ?_)
  subst hr
  refine wpAny_passesOwn hp (thn h4 fun _ s5 ⟨x,H5,I5,r5,y5,st5,fr5⟩ => ?_)
  have I5':=I5.pinned (stat fr5) (T.obj _ _ st5)
  refine wpAny_passesOwn hp (thn (hg _ s5 σ3 H5 x u _ I5' r5 (step x H5 y5)) fun _ s6 ⟨σ6,H6,I6,q6⟩ => ?_)
  refine wpAny_passesOwn hp (thn (hb _ s6 σ6 H6 _ I6 q6) fun f s7 q7 => ?_)
  have again:∀ {σ7:St} {H7:Hp},Inv X (pins ++ fK fp s5.heap) σ7 H7 s7->N σ7 H7->∃ m,m < n/\∃ i σ' H',Inv X pins σ' H' s7/\tn i s7.heap/\(∀ b ∈ fp,H' b=none)/\W i m σ' H':=fun {σ7 H7} I7 n7=>by
   obtain ⟨m',hm,w7⟩:=hN σ7 H7 n7
   refine ⟨m',hm,i + 1,σ7,H7,I7.dJ,T.keep _ _ _ st5 fun b hb o e=>(I7.pin (b,o) (List.mem_append_right _ (List.mem_append_right _ (cS hb e)))).1,fun b hb => ?_,w7⟩
   obtain ⟨o,e,d⟩:=T.obj _ _ st5 b hb
   exact (I7.pin (b,o) (List.mem_append_right _ (List.mem_append_right _ (cS hb e)))).2.1
  cases f with
  | next=>obtain ⟨σ7,H7,I7,n7⟩:=q7; exact again I7 n7
  | cont=>obtain ⟨σ7,H7,I7,n7⟩:=q7; exact again I7 n7
  | brk=>obtain ⟨σ7,H7,I7,q7⟩:=q7; exact ⟨σ7,H7,I7.dJ,q7⟩
  | ret v=>obtain ⟨x7,σ7,H7,I7,r7,q7⟩:=q7; exact ⟨x7,σ7,H7,I7.dJ,r7,q7⟩
end
theorem fV {K:PySem.W.Frag} {a:Addr} {xs:List V} {g:TG} {tb:TS} {D:Ends} {σ:St} {H:Hp} (Pv:Nat->St->Hp->Prop) (h0:Pv 0 σ H) (hl:∀ i σ H,i<=xs.length->Pv i σ H->SqL K H a xs)
  (hs:∀ i x σ H,xs[i]? = some x->Pv i σ H->g x σ H fun σ2 H2=>tb { D with nx:=Pv (i + 1),ct:=Pv (i + 1),bk:=D.nx } σ2 H2) (hd:∀ σ H,Pv xs.length σ H->D.nx σ H) :
  ∃ W:Nat->Nat->St->Hp->Prop,(∃ m,W 0 m σ H)/\∀ i m σ H,W i m σ H →
   ((Itl K a).stop i H/\D.nx σ H)\/((Itl K a).go i H/\∃ N:St->Hp->Prop,(∀ σ' H',N σ' H'->∃ m',m' < m/\W (i + 1) m' σ' H')/\∀ x H',(Itl K a).yld i H x H'->g x σ H' fun σ2 H2=>tb { D with nx:=N,ct:=N,bk:=D.nx } σ2 H2):=by
 refine ⟨fun i m σ H=>m=xs.length - i/\i<=xs.length/\Pv i σ H,⟨xs.length,by simp,Nat.zero_le _,h0⟩,?_⟩
 rintro i m σ H ⟨rfl,hi,p⟩
 have q:=hl i σ H hi p
 by_cases hlt:i < xs.length
 ·refine .inr ⟨⟨xs,xs[i],q,by simp [hlt]⟩,Pv (i + 1),fun σ' H' p'=>⟨xs.length - (i + 1),by omega,rfl,hlt,p'⟩,fun x H' y => ?_⟩
  obtain ⟨e,y⟩:=y
  subst e
  exact hs i x σ _ (y xs q) p
 ·have e:i=xs.length:=by omega
  subst e
  exact .inl ⟨⟨xs,q,Nat.le_refl _⟩,hd σ H p⟩
theorem uq {K:PySem.W.Frag} {a:Addr} {xs:List V} {g:TG} {tb:TS} {D:Ends} {σ:St} {H:Hp} (Pv:Nat->St->Hp->Prop) (h0:Pv 0 σ H) (hl:∀ i σ H,i<=xs.length->Pv i σ H->SqT K H a xs)
  (hs:∀ i x σ H,xs[i]? = some x->Pv i σ H->g x σ H fun σ2 H2=>tb { D with nx:=Pv (i + 1),ct:=Pv (i + 1),bk:=D.nx } σ2 H2) (hd:∀ σ H,Pv xs.length σ H->D.nx σ H) :
  ∃ W:Nat->Nat->St->Hp->Prop,(∃ m,W 0 m σ H)/\∀ i m σ H,W i m σ H →
   ((Itt K a).stop i H/\D.nx σ H)\/((Itt K a).go i H/\∃ N:St->Hp->Prop,(∀ σ' H',N σ' H'->∃ m',m' < m/\W (i + 1) m' σ' H')/\∀ x H',(Itt K a).yld i H x H'->g x σ H' fun σ2 H2=>tb { D with nx:=N,ct:=N,bk:=D.nx } σ2 H2):=by
 refine ⟨fun i m σ H=>m=xs.length - i/\i<=xs.length/\Pv i σ H,⟨xs.length,by simp,Nat.zero_le _,h0⟩,?_⟩
 rintro i m σ H ⟨rfl,hi,p⟩
 have q:=hl i σ H hi p
 by_cases hlt:i < xs.length
 ·refine .inr ⟨⟨xs,xs[i],q,by simp [hlt]⟩,Pv (i + 1),fun σ' H' p'=>⟨xs.length - (i + 1),by omega,rfl,hlt,p'⟩,fun x H' y => ?_⟩
  obtain ⟨e,y⟩:=y
  subst e
  exact hs i x σ _ (y xs q) p
 ·have e:i=xs.length:=by omega
  subst e
  exact .inl ⟨⟨xs,q,Nat.le_refl _⟩,hd σ H p⟩
theorem bV {lo:Int} {n:Nat} {g:TG} {tb:TS} {D:Ends} {σ:St} {H:Hp} (Pv:Nat->St->Hp->Prop) (h0:Pv 0 σ H)
  (hs:∀ i σ H,i < n->Pv i σ H->g (.int (lo + i)) σ H fun σ2 H2=>tb { D with nx:=Pv (i + 1),ct:=Pv (i + 1),bk:=D.nx } σ2 H2) (hd:∀ σ H,Pv n σ H->D.nx σ H) :
  ∃ W:Nat->Nat->St->Hp->Prop,(∃ m,W 0 m σ H)/\∀ i m σ H,W i m σ H →
   ((Itr lo n).stop i H/\D.nx σ H)\/((Itr lo n).go i H/\∃ N:St->Hp->Prop,(∀ σ' H',N σ' H'->∃ m',m' < m/\W (i + 1) m' σ' H')/\∀ x H',(Itr lo n).yld i H x H'->g x σ H' fun σ2 H2=>tb { D with nx:=N,ct:=N,bk:=D.nx } σ2 H2):=by
 refine ⟨fun i m σ H=>m=n - i/\i<=n/\Pv i σ H,⟨n,by simp,Nat.zero_le _,h0⟩,?_⟩
 rintro i m σ H ⟨rfl,hi,p⟩
 by_cases hlt:i < n
 ·refine .inr ⟨hlt,Pv (i + 1),fun σ' H' p'=>⟨n - (i + 1),by omega,rfl,hlt,p'⟩,fun x H' y => ?_⟩
  obtain ⟨e,y⟩:=y
  subst e y
  exact hs i σ _ hlt p
 ·have e:i=n:=by omega
  subst e
  exact .inl ⟨Nat.le_refl _,hd σ H p⟩
theorem iz {c:TT} {tb:TS} {D:Ends} {σ:St} {H:Hp} (Pv:St->Hp->Prop) (μ : St->Hp->Nat) (h0:Pv σ H)
  (hs:∀ σ H,Pv σ H->c σ H fun b H1=>if b=true then tb { D with nx:=fun σ' H'=>Pv σ' H' /\ μ σ' H' < μ σ H,ct:=fun σ' H'=>Pv σ' H' /\ μ σ' H' < μ σ H,bk:=D.nx } σ H1 else D.nx σ H1)
  (mono:∀ σ H Q Q',(∀ b H1,Q b H1->Q' b H1)->c σ H Q->c σ H Q'):rR c tb D σ H:=by
 refine ⟨fun m σ H=>m = μ σ H/\Pv σ H,⟨_,rfl,h0⟩,?_⟩
 rintro m σ H ⟨rfl,p⟩
 refine mono σ H _ _ (fun b H1 q => ?_) (hs σ H p)
 cases b with
 | true=>exact ⟨_,fun σ' H' ⟨p',l⟩=>⟨_,l,rfl,p'⟩,q⟩
 | false=>exact q
open PySem PySem.Spec PyProof.Rows
abbrev R2:=V->V->Hp->VK->Prop
def OpR (X:Cx) (f:Value->Value->Sem Value) (r:R2):Prop :=
 ∀ (pins:List (Addr × Obj)) (s:Shared) (σ:St) (H:Hp) (x y:V) (v u:Value) (Q:VK),Inv X pins σ H s->RelV x v->RelV y u->r x y H Q →
  wpAny (model X.prog X.w) X.A (f v u) (EP X pins σ Q) X.xe s
def UnR (X:Cx) (f:Value->Sem Value) (r:V->Hp->VK->Prop):Prop :=
 ∀ (pins:List (Addr × Obj)) (s:Shared) (σ:St) (H:Hp) (x:V) (v:Value) (Q:VK),Inv X pins σ H s->RelV x v->r x H Q →
  wpAny (model X.prog X.w) X.A (f v) (EP X pins σ Q) X.xe s
def bJ (X:Cx) (f:Value) (r:List V->Hp->VK->Prop):Prop :=
 ∀ (pins:List (Addr × Obj)) (s:Shared) (σ:St) (H:Hp) (xs:List V) (us:List Value) (Q:VK),Inv X pins σ H s->Vals xs us->r xs H Q →
  wpAny (model X.prog X.w) X.A (call f us) (EP X pins σ Q) X.xe s
def TruR (X:Cx) (r:V->Hp->(Bool->Hp->Prop)->Prop):Prop :=
 ∀ (pins:List (Addr × Obj)) (s:Shared) (σ:St) (H:Hp) (x:V) (v:Value) (Q:Bool->Hp->Prop),Inv X pins σ H s->RelV x v->r x H Q →
  wpAny (model X.prog X.w) X.A (truthy v) (TP X pins σ Q) X.xe s
def tOp (r:R2) (ta tb:TE):TE:=fun σ H Q=>ta σ H fun x H1=>tb σ H1 fun y H2=>r x y H2 Q
def tUn (r:V->Hp->VK->Prop) (ta:TE):TE:=fun σ H Q=>ta σ H fun x H1=>r x H1 Q
def rI (C:Int->Int->Prop) (g:Int->Int->V):R2:=fun x y H Q=>∃ i j,x = .int i/\y = .int j/\C i j/\Q (g i j) H
def rI0 (g:Int->Int->V):R2:=fun x y H Q=>∃ i j,x = .int i/\y = .int j/\Q (g i j) H
def rU (g:Int->V):V->Hp->VK->Prop:=fun x H Q=>∃ i,x = .int i/\Q (g i) H
section
variable {X:Cx} {a b c:Expr} {ta tb tc:TE} {pos:Pos}
theorem wj (ha:PE X a ta) (hb:PE X b tb) {pins:List (Addr × Obj)} {s:Shared} {σ:St} {H:Hp} {R:V->V->Hp->Prop} (I:Inv X pins σ H s)
  (h:ta σ H fun x H1=>tb σ H1 fun y H2=>R x y H2) {Q:Value->Shared->Prop} {f:Value->Value->Sem Value}
  (hf:∀ v u s2 x y H2,Inv X pins σ H2 s2->RelV x v->RelV y u->R x y H2->wpAny (model X.prog X.w) X.A (f v u) Q X.xe s2) :
  wpAny (model X.prog X.w) X.A (eval a X.env) (fun v s₁=>wpAny (model X.prog X.w) X.A (eval b X.env) (fun u s₂=>wpAny (model X.prog X.w) X.A (f v u) Q X.xe s₂) X.xe s₁) X.xe s:=by
 refine thn (ha pins s σ H _ I h) fun v s1 ⟨x,H1,I1,r1,q1⟩ => ?_
 refine thn (hb pins s1 σ H1 _ I1 q1) fun u s2 ⟨y,H2,I2,r2,q2⟩ => ?_
 exact hf v u s2 x y H2 I2 r1 r2 q2
theorem aE {op:Operator} {r:R2} (ho:OpR X (binaryOp op) r) (ha:PE X a ta) (hb:PE X b tb):PE X (.BinOp a op b pos) (tOp r ta tb):=by
 intro pins s σ H Q I h
 exact wpAny_BinOp (wj ha hb I h fun v u s2 x y H2 I2 rx ry q=>ho pins s2 σ H2 x y v u Q I2 rx ry q)
theorem xR {op:UnaryOp} {r:V->Hp->VK->Prop} (ho:UnR X (unaryOp op) r) (ha:PE X a ta):PE X (.UnaryOp op a pos) (tUn r ta):=by
 intro pins s σ H Q I h
 exact UnaryOp_ (thn (ha pins s σ H _ I h) fun v s1 ⟨x,H1,I1,r1,q1⟩=>ho pins s1 σ H1 x v Q I1 r1 q1)
theorem opI {f:Value->Value->Sem Value} {C:Int->Int->Prop} {g:Int->Int->Int}
  (rule:∀ (i j:Int) (t u:Tok) (s:Shared) (Q:Value->Shared->Prop) (E:Value->Shared->Prop),C i j->Q (.int (g i j) s.toks) { s with toks:=s.toks + 1 }->wpAny (model X.prog X.w) X.A (f (.int i t) (.int j u)) Q E s) :
  OpR X f (rI C fun i j => .int (g i j)):=by
 intro pins s σ H x y v u Q I rx ry h
 obtain ⟨i,j,rfl,rfl,hc,q⟩:=h
 obtain ⟨t,rfl⟩:=rx
 obtain ⟨t',rfl⟩:=ry
 exact rule i j t t' s _ _ hc ⟨.int (g i j),H,I.tok _,⟨_,rfl⟩,q⟩
theorem xS {f:Value->Value->Sem Value} {g:Int->Int->Int}
  (rule:∀ (i j:Int) (t u:Tok) (s:Shared) (Q:Value->Shared->Prop) (E:Value->Shared->Prop),Q (.int (g i j) s.toks) { s with toks:=s.toks + 1 }->wpAny (model X.prog X.w) X.A (f (.int i t) (.int j u)) Q E s) :
  OpR X f (rI0 fun i j => .int (g i j)):=by
 intro pins s σ H x y v u Q I rx ry h
 obtain ⟨i,j,rfl,rfl,q⟩:=h
 obtain ⟨t,rfl⟩:=rx
 obtain ⟨t',rfl⟩:=ry
 exact rule i j t t' s _ _ ⟨.int (g i j),H,I.tok _,⟨_,rfl⟩,q⟩
theorem ur {f:Value->Value->Sem Value} {g:Int->Int->Bool}
  (rule:∀ (i j:Int) (t u:Tok) (s:Shared) (Q:Value->Shared->Prop) (E:Value->Shared->Prop),Q (.bool (g i j)) s->wpAny (model X.prog X.w) X.A (f (.int i t) (.int j u)) Q E s) :
  OpR X f (rI0 fun i j => .bl (g i j)):=by
 intro pins s σ H x y v u Q I rx ry h
 obtain ⟨i,j,rfl,rfl,q⟩:=h
 obtain ⟨t,rfl⟩:=rx
 obtain ⟨t',rfl⟩:=ry
 exact rule i j t t' s _ _ ⟨.bl (g i j),H,I,rfl,q⟩
def CDiv (i j:Int):Prop:=0 < j/\j < 1073741824
def CPow (i j:Int):Prop:=0<=j/\j<=1000000/\i.natAbs < 2 ^ 64
def wm (i j:Int):Prop:=(-(2 ^ 64) < i/\i < 2 ^ 64)\/(-(2 ^ 64) < j/\j < 2 ^ 64)
theorem wm.ok {i j:Int} (h:wm i j):IntMulOk i j:=by
 rcases h with ⟨h1,h2⟩ | ⟨h1,h2⟩
 ·exact .of_left (intBits_le_64 h1 h2)
 ·exact .of_right (intBits_le_64 h1 h2)
theorem bT:OpR X (binaryOp .Add) (rI0 fun i j => .int (i + j)):=xS fun _ _ _ _ _ _ _ q=>add_int q
theorem cC:OpR X (binaryOp .Sub) (rI0 fun i j => .int (i - j)):=xS fun _ _ _ _ _ _ _ q=>sub_int q
theorem cU:OpR X (binaryOp .Mult) (rI wm fun i j => .int (i * j)):=opI fun _ _ _ _ _ _ _ hc q=>mul_int q hc.ok
theorem o9:OpR X (binaryOp .FloorDiv) (rI CDiv fun i j => .int (i / j)):=opI fun i j _ _ _ _ _ hc q=>by
 have h1:(0:Int) < j:=hc.1
 have h2:j < 1073741824:=hc.2
 exact floordiv_int (by omega) (by rw [Int.fdiv_eq_ediv_of_nonneg i (by omega)]; exact q) (.inl (PyProof.noPylong_small (by omega)))
theorem cV:OpR X (binaryOp .Mod) (rI (fun _ j=>0 < j) fun i j => .int (i % j)):=opI fun i j _ _ _ _ _ hc q=>by
 have h1:(0:Int) < j:=hc
 exact mod_int' (by omega) (by rw [Int.fmod_eq_emod_of_nonneg i (by omega)]; exact q)
theorem rT:OpR X (binaryOp .Pow) (rI CPow fun i j => .int (i ^ j.toNat)):=opI fun _ _ _ _ _ _ _ hc q=>pow_int_small hc.1 hc.2.1 hc.2.2 q
theorem unI {f:Value->Sem Value} {g:Int->Int}
  (rule:∀ (i:Int) (t:Tok) (s:Shared) (Q:Value->Shared->Prop) (E:Value->Shared->Prop),Q (.int (g i) s.toks) { s with toks:=s.toks + 1 }->wpAny (model X.prog X.w) X.A (f (.int i t)) Q E s) :
  UnR X f (rU fun i => .int (g i)):=by
 intro pins s σ H x v Q I rx h
 obtain ⟨i,rfl,q⟩:=h
 obtain ⟨t,rfl⟩:=rx
 exact rule i t s _ _ ⟨.int (g i),H,I.tok _,⟨_,rfl⟩,q⟩
theorem wo:UnR X (unaryOp .USub) (rU fun i => .int (-i)):=unI fun _ _ _ _ _ q=>neg_int q
end
def xT:V->V->Bool
 | .non,.non=>true | .non,.int _=>true | .int _,.non=>true | .non,.bl _=>true | .bl _,.non=>true | .non,.str _=>true | .str _,.non=>true
 | .int _,.int _=>true | .bl _,.bl _=>true | .str _,.str _=>true | .byt _,.byt _=>true
 | .int _,.str _=>true | .str _,.int _=>true | .bl _,.str _=>true | .str _,.bl _=>true
 | _,_=>false
def rEq:R2:=fun x y H Q=>xT x y=true/\Q (.bl (decide (x=y))) H
def rNe:R2:=fun x y H Q=>xT x y=true/\Q (.bl (!decide (x=y))) H
theorem pf {i j:Int}:decide (V.int i=V.int j)=(i == j):=by
 rw [Bool.eq_iff_iff]
 simp
theorem rV {i j:Bool}:decide (V.bl i=V.bl j)=(i == j):=by
 rw [Bool.eq_iff_iff]
 simp
theorem ph {i j:Str}:decide (V.str i=V.str j)=(i == j):=by
 rw [Bool.eq_iff_iff]
 simp
theorem pk {i j:Array UInt8}:decide (V.byt i=V.byt j)=(i.toList == j.toList):=by
 rw [Bool.eq_iff_iff]
 cases i
 cases j
 simp
section
variable {X:Cx} {a b c:Expr} {ta tb tc:TE} {pos:Pos}
theorem aN {pins:List (Addr × Obj)} {σ:St} {H:Hp} {s:Shared} {Q:VK} {k k':Bool} (I:Inv X pins σ H s) (q:Q (.bl k) H) (e:k=k'):EP X pins σ Q (.bool k') s:=by
 subst e
 exact ⟨.bl k,H,I,rfl,q⟩
theorem eF:OpR X (compareOp .Eq) rEq:=by
 intro pins s σ H x y v u Q I rx ry h
 obtain ⟨hs,q⟩:=h
 cases x with
 | non =>
  cases rx
  cases y with
  | non=>cases ry; exact PySem.EqNone.eq_none_none (aN I q (by simp))
  | bl j=>cases ry; exact PySem.EqNone.eq_none_bool (aN I q (by simp))
  | int j=>obtain ⟨t',rfl⟩:=ry; exact PySem.EqNone.eq_none_int (aN I q (by simp))
  | str j=>obtain ⟨t',rfl⟩:=ry; exact PySem.EqNone.eq_none_str (aN I q (by simp))
  | _=>exact absurd (show false=true from hs) Bool.false_ne_true
 | bl i =>
  cases rx
  cases y with
  | non=>cases ry; exact PySem.EqNone.eq_bool_none (aN I q (by simp))
  | bl j=>cases ry; exact eq_bool (aN I q rV)
  | str j=>obtain ⟨t',rfl⟩:=ry; exact PySem.EqMixed.eq_bool_str (aN I q (by simp))
  | _=>exact absurd (show false=true from hs) Bool.false_ne_true
 | int i =>
  obtain ⟨t,rfl⟩:=rx
  cases y with
  | non=>cases ry; exact PySem.EqNone.eq_int_none (aN I q (by simp))
  | int j=>obtain ⟨t',rfl⟩:=ry; exact eq_int (aN I q pf)
  | str j=>obtain ⟨t',rfl⟩:=ry; exact PySem.EqMixed.eq_int_str (aN I q (by simp))
  | _=>exact absurd (show false=true from hs) Bool.false_ne_true
 | str i =>
  obtain ⟨t,rfl⟩:=rx
  cases y with
  | non=>cases ry; exact PySem.EqNone.eq_str_none (aN I q (by simp))
  | bl j=>cases ry; exact PySem.EqMixed.eq_str_bool (aN I q (by simp))
  | int j=>obtain ⟨t',rfl⟩:=ry; exact PySem.EqMixed.eq_str_int (aN I q (by simp))
  | str j=>obtain ⟨t',rfl⟩:=ry; exact eq_str (aN I q ph)
  | _=>exact absurd (show false=true from hs) Bool.false_ne_true
 | byt i =>
  obtain ⟨t,rfl⟩:=rx
  cases y with
  | byt j=>obtain ⟨t',rfl⟩:=ry; exact PySem.W.eq_bytes (aN I q pk)
  | _=>exact absurd (show false=true from hs) Bool.false_ne_true
 | _=>cases y <;> exact absurd (show false=true from hs) Bool.false_ne_true
theorem mq:OpR X (compareOp .NotEq) rNe:=by
 intro pins s σ H x y v u Q I rx ry h
 obtain ⟨hs,q⟩:=h
 cases x with
 | non =>
  cases rx
  cases y with
  | non=>cases ry; exact PySem.EqNone.ne_none_none (aN I q (by simp))
  | bl j=>cases ry; exact PySem.EqNone.ne_none_bool (aN I q (by simp))
  | int j=>obtain ⟨t',rfl⟩:=ry; exact PySem.EqNone.ne_none_int (aN I q (by simp))
  | str j=>obtain ⟨t',rfl⟩:=ry; exact PySem.EqNone.ne_none_str (aN I q (by simp))
  | _=>exact absurd (show false=true from hs) Bool.false_ne_true
 | bl i =>
  cases rx
  cases y with
  | non=>cases ry; exact PySem.EqNone.ne_bool_none (aN I q (by simp))
  | bl j=>cases ry; exact ne_bool (aN I q (congrArg not rV))
  | str j=>obtain ⟨t',rfl⟩:=ry; exact PySem.EqMixed.ne_bool_str (aN I q (by simp))
  | _=>exact absurd (show false=true from hs) Bool.false_ne_true
 | int i =>
  obtain ⟨t,rfl⟩:=rx
  cases y with
  | non=>cases ry; exact PySem.EqNone.ne_int_none (aN I q (by simp))
  | int j=>obtain ⟨t',rfl⟩:=ry; exact ne_int (aN I q (congrArg not pf))
  | str j=>obtain ⟨t',rfl⟩:=ry; exact PySem.EqMixed.ne_int_str (aN I q (by simp))
  | _=>exact absurd (show false=true from hs) Bool.false_ne_true
 | str i =>
  obtain ⟨t,rfl⟩:=rx
  cases y with
  | non=>cases ry; exact PySem.EqNone.ne_str_none (aN I q (by simp))
  | bl j=>cases ry; exact PySem.EqMixed.ne_str_bool (aN I q (by simp))
  | int j=>obtain ⟨t',rfl⟩:=ry; exact PySem.EqMixed.ne_str_int (aN I q (by simp))
  | str j=>obtain ⟨t',rfl⟩:=ry; exact ne_str (aN I q (congrArg not ph))
  | _=>exact absurd (show false=true from hs) Bool.false_ne_true
 | byt i =>
  obtain ⟨t,rfl⟩:=rx
  cases y with
  | byt j=>obtain ⟨t',rfl⟩:=ry; exact PySem.W.ne_bytes (aN I q (congrArg not pk))
  | _=>exact absurd (show false=true from hs) Bool.false_ne_true
 | _=>cases y <;> exact absurd (show false=true from hs) Bool.false_ne_true
theorem mv:OpR X (compareOp .Lt) (rI0 fun i j => .bl (decide (i < j))):=ur fun _ _ _ _ _ _ _ q=>lt_int q
theorem xU:OpR X (compareOp .LtE) (rI0 fun i j => .bl (decide (i<=j))):=ur fun _ _ _ _ _ _ _ q=>le_int q
theorem vH:OpR X (compareOp .Gt) (rI0 fun i j => .bl (decide (j < i))):=ur fun _ _ _ _ _ _ _ q=>gt_int q
theorem rW:OpR X (compareOp .GtE) (rI0 fun i j => .bl (decide (j<=i))):=ur fun _ _ _ _ _ _ _ q=>ge_int q
theorem wq:OpR X (compareOp .Is) (fun x y H Q=>y = .non/\Q (.bl (decide (x = .non))) H):=by
 intro pins s σ H x y v u Q I rx ry h
 obtain ⟨rfl,q⟩:=h
 cases ry
 refine is_none_gen (aN I q ?_)
 cases x <;> first
  | (cases rx; rfl)
  | (obtain ⟨t,rfl⟩:=rx; rfl)
theorem kY:OpR X (compareOp .IsNot) (fun x y H Q=>y = .non/\Q (.bl (!decide (x = .non))) H):=by
 intro pins s σ H x y v u Q I rx ry h
 obtain ⟨rfl,q⟩:=h
 cases ry
 refine isnot_none_gen (aN I q ?_)
 cases x <;> first
  | (cases rx; rfl)
  | (obtain ⟨t,rfl⟩:=rx; rfl)
theorem aR (b:Expr) {op:CmpOp} (h:op ≠ .In:=by decide) (h2:op ≠ .NotIn:=by decide):behindInMarks op b=false:=by
 have e1:(op == CmpOp.In)=false:=by cases op <;> first | rfl | exact absurd rfl h
 have e2:(op == CmpOp.NotIn)=false:=by cases op <;> first | rfl | exact absurd rfl h2
 cases b <;> simp [behindInMarks,e1,e2]
theorem kZ {op:CmpOp} {r:R2} (ho:OpR X (compareOp op) r) (ha:PE X a ta) (hb:PE X b tb) (hm:behindInMarks op b=false):PE X (.Compare a [op] [b] pos) (tOp r ta tb):=by
 intro pins s σ H Q I h
 exact wpAny_Compare1 (wj ha hb I h fun v u s2 x y H2 I2 rx ry q=>ho pins s2 σ H2 x y v u Q I2 rx ry q) hm
def xV (t:TE):TT:=fun σ H Q=>t σ H fun x H'=>∃ k,x = .bl k/\Q k H'
theorem aJ {op:CmpOp} {r:R2} (ho:OpR X (compareOp op) r) (ha:PE X a ta) (hb:PE X b tb) (hm:behindInMarks op b=false):PT X (.Compare a [op] [b] pos) (xV (tOp r ta tb)):=by
 intro pins s σ H Q I h
 refine wpAny_isTrue_Compare1 (thn (ha pins s σ H _ I h) fun v s1 ⟨x,H1,I1,r1,q1⟩=>thn (hb pins s1 σ H1 _ I1 q1) fun u s2 ⟨y,H2,I2,r2,q2⟩ =>
  thn (ho pins s2 σ H2 x y v u _ I2 r1 r2 q2) fun c s3 ⟨z,H3,I3,r3,k,e,q3⟩ => ?_) hm
 subst e
 cases r3
 exact wpAny_truthy_bool ⟨H3,I3,q3⟩
def wt (r r':R2) (ta tb tc:TE):TE:=fun σ H Q=>ta σ H fun x H1=>tb σ H1 fun y H2=>r x y H2 fun z H3=>∃ k,z = .bl k ∧
 (if k=true then tc σ H3 fun w' H4=>r' y w' H4 Q else Q (.bl false) H3)
theorem rX {op op':CmpOp} {r r':R2} (ho:OpR X (compareOp op) r) (ho':OpR X (compareOp op') r') (ha:PE X a ta) (hb:PE X b tb) (hc:PE X c tc)
  (hm:lastMarks [op,op'] [b,c]=false:=by with_unfolding_all rfl):PE X (.Compare a [op,op'] [b,c] pos) (wt r r' ta tb tc):=by
 intro pins s σ H Q I h
 refine Compare_chain (thn (ha pins s σ H _ I h) fun v s1 ⟨x,H1,I1,r1,q1⟩=>chain_link (thn (hb pins s1 σ H1 _ I1 q1) fun u s2 ⟨y,H2,I2,r2,q2⟩ =>
  thn (ho pins s2 σ H2 x y v u _ I2 r1 r2 q2) fun d s3 ⟨z,H3,I3,r3,k,e,q3⟩ => ?_)) hm
 subst e
 cases r3
 refine wpAny_truthy_bool ?_
 cases k with
 | false=>exact ite_ff ⟨.bl false,H3,I3,rfl,q3⟩
 | true=>exact ite_tt (chain_last (thn (hc pins s3 σ H3 _ I3 q3) fun w' s4 ⟨z',H4,I4,r4,q4⟩=>ho' pins s4 σ H4 y z' u w' Q I4 r2 r4 q4))
def xW (K:PySem.W.Frag) (x:V) (H:Hp) (k:Bool):Prop :=
 match x with
 | .non=>k=false
 | .bl b=>k=b
 | .int i=>k=(i != 0)
 | .str y=>y.length<=sizeLine/\k=((y.length:Int) != 0)
 | .byt y=>y.size<=sizeLine/\k=((y.size:Int) != 0)
 | .ref p=>(∃ xs,SqL K H p xs/\k = !xs.isEmpty)\/(∃ xs,SqT K H p xs/\k = !xs.isEmpty)\/∃ kvs,H p=some (.dK kvs)/\k = !kvs.isEmpty
 | _=>False
theorem oa {κ : Type} {kvs:List (κ × V)} {vs:List (κ × Value)} (r:KV kvs vs):(!vs.isEmpty) = !kvs.isEmpty:=by
 cases r <;> rfl
theorem iA {xs:List V} {its:List Value} (r:Vals xs its):(!its.toArray.isEmpty) = !xs.isEmpty:=by
 cases r <;> simp
theorem lb:(sizeLine:Nat) < 2 ^ 63:=by rw [sizeLine_eq]; decide
theorem wu:TruR X (fun x H Q=>∃ k,xW X.K x H k/\Q k H):=by
 intro pins s σ H x v Q I rx h
 obtain ⟨k,e,q⟩:=h
 have hl:=lb
 have hs:sizeLine=16777216:=sizeLine_eq
 cases x with
 | non =>
  cases rx
  have e':k=false:=e
  subst e'
  exact truthy_none ⟨H,I,q⟩
 | bl b =>
  cases rx
  have e':k=b:=e
  subst e'
  exact wpAny_truthy_bool ⟨H,I,q⟩
 | int i =>
  obtain ⟨t,rfl⟩:=rx
  have e':k=(i != 0):=e
  subst e'
  exact PySem.P.truthy_int ⟨H,I,q⟩
 | str y =>
  obtain ⟨t,rfl⟩:=rx
  obtain ⟨hy,e'⟩:y.length<=sizeLine/\k=((y.length:Int) != 0):=e
  subst e'
  exact PySem.P.truthy_str (by omega) ⟨H,I.tok _,q⟩
 | byt y =>
  obtain ⟨t,rfl⟩:=rx
  obtain ⟨hy,e'⟩:y.size<=sizeLine/\k=((y.size:Int) != 0):=e
  subst e'
  exact PySem.W.truthy_bytes (by omega) ⟨H,I.tok _,q⟩
 | ref p =>
  cases rx
  have e':(∃ xs,SqL X.K H p xs/\k = !xs.isEmpty)\/(∃ xs,SqT X.K H p xs/\k = !xs.isEmpty)\/∃ kvs,H p=some (.dK kvs)/\k = !kvs.isEmpty:=e
  rcases e' with ⟨xs,hx,e'⟩ | ⟨xs,hx,e'⟩ | ⟨kvs,hx,e'⟩
  ·subst e'
   obtain ⟨its,r,pl,hz⟩:=I.list hx
   have hlen:=r.length
   exact wpAny_truthy_list pl.isList (by simp only [List.size_toArray]; omega) ⟨H,I.tok _,by rw [iA r]; exact q⟩
  ·subst e'
   obtain ⟨its,r,pl,hz⟩:=I.tuple hx
   have hlen:=r.length
   exact truthy_tuple pl (by simp only [List.size_toArray]; omega) ⟨H,I.tok _,by rw [iA r]; exact q⟩
  ·subst e'
   obtain ⟨hz,hS,vs,r,m⟩:kvs.length<=sizeLine/\(p == sysModules)=false/\∃ vs,KV kvs vs/\s.heap.DictOf (bD X.prog X.w) p vs:=I.hok p _ hx
   have hlen:kvs.length=vs.length:=Paired.length r
   exact wpAny_truthy_dict hS m (by omega) ⟨H,I.tok _,by rw [oa r]; exact q⟩
 | _=>exact (show False from e).elim
theorem rY (ha:PE X a ta) (he:∀ whole,isTrue a X.env whole=(do let v ← whole; standAt a.pos; holding [v] (truthy v))) :
    PT X a (fun σ H Q=>ta σ H fun x H'=>∃ k,xW X.K x H' k/\Q k H'):=by
  intro pins s σ H Q I h
  exact isTrue_plain (thn (ha pins s σ H _ I h) fun v s1 ⟨x,H1,I1,r1,q1⟩=>wu pins s1 σ H1 x v Q I1 r1 q1) (he _)
theorem vals1 {x:V} {us:List Value} (r:Vals [x] us):∃ u,us=[u]/\RelV x u:=by
 cases r with
 | cons r1 r2=>cases r2; exact ⟨_,rfl,r1⟩
theorem vals2 {x y:V} {us:List Value} (r:Vals [x,y] us):∃ u w',us=[u,w']/\RelV x u/\RelV y w':=by
 cases r with
 | cons r1 r2 =>
  cases r2 with
  | cons r3 r4=>cases r4; exact ⟨_,_,rfl,r1,r3⟩
theorem dM (hc:X.calm=true):bJ X (.builtin "max") (fun xs H Q=>∃ i j,xs=[.int i,.int j]/\Q (.int (if j > i then j else i)) H):=by
 intro pins s σ H xs us Q I r h
 obtain ⟨i,j,rfl,q⟩:=h
 obtain ⟨u,w',rfl,⟨t,rfl⟩,⟨t',rfl⟩⟩:=vals2 r
 refine max_two_ints (I.ok.hd hc) fun h' tk k=>⟨_,H,I.kept k,?_,q⟩
 by_cases hj:j > i
 ·rw [if_pos hj,if_pos hj]; exact ⟨_,rfl⟩
 ·rw [if_neg hj,if_neg hj]; exact ⟨_,rfl⟩
theorem fg (hc:X.calm=true):bJ X (.builtin "min") (fun xs H Q=>∃ i j,xs=[.int i,.int j]/\Q (.int (if j < i then j else i)) H):=by
 intro pins s σ H xs us Q I r h
 obtain ⟨i,j,rfl,q⟩:=h
 obtain ⟨u,w',rfl,⟨t,rfl⟩,⟨t',rfl⟩⟩:=vals2 r
 refine min_two_ints (I.ok.hd hc) fun h' tk k=>⟨_,H,I.kept k,?_,q⟩
 by_cases hj:j < i
 ·rw [if_pos hj,if_pos hj]; exact ⟨_,rfl⟩
 ·rw [if_neg hj,if_neg hj]; exact ⟨_,rfl⟩
theorem jO:bJ X (.type "int") (fun xs H Q=>(∃ i,xs=[.int i]/\Q (.int i) H)\/∃ k,xs=[.bl k]/\Q (.int (if k then 1 else 0)) H):=by
 intro pins s σ H xs us Q I r h
 rcases h with ⟨i,rfl,q⟩ | ⟨k,rfl,q⟩
 ·obtain ⟨u,rfl,t,rfl⟩:=vals1 r
  exact call_int_int ⟨.int i,H,I,⟨_,rfl⟩,q⟩
 ·obtain ⟨u,rfl,r1⟩:=vals1 r
  cases r1
  exact call_int_bool ⟨.int (if k then 1 else 0),H,I.tok _,⟨_,rfl⟩,q⟩
end
open PySem PySem.Spec PyProof.Rows
structure wx (h:Heap) (x dx C:Addr) (mA:Str->Option Value):Prop where
 obj:h.get? x=some (PySem.W.instObj C dx)
 ns:h.Ns1 dx mA
 ne:dx ≠ x
theorem qv {h:Heap} {dx:Addr} {mA:Str->Option Value} (n:h.Ns1 dx mA):∃ od,h.get? dx=some od/\∀ name,PySem.W.lookIn name od=some (mA name):=by
 obtain ⟨o,es,ep,ho,hd,hk,_,hm⟩:=n
 refine ⟨o,ho,fun name => ?_⟩
 have e:=hm name
 unfold nsFind findBy at e
 rw [<- Array.find?_toList] at e
 unfold PySem.W.lookIn
 rw [hd]
 dsimp only
 split
 ·rename_i y q
  rw [q] at e
  exact congrArg some e
 ·rename_i q
  rw [q] at e
  have a:es.toList.any (·.refKey)=false:=by
   rw [List.any_eq_false]
   intro y hy
   obtain ⟨z,t,hkey⟩:=hk y (Array.mem_toList_iff.mp hy)
   simp [DictEntry.refKey,hkey]
  have a':¬ es.toList.any (·.refKey)=true:=by rw [a]; exact Bool.false_ne_true
  rw [if_neg a']
  exact congrArg some e
theorem wx.look {h:Heap} {x dx C:Addr} {mA:Str->Option Value} (I:wx h x dx C mA):∃ od,PySem.W.InstAt h x (PySem.W.instObj C dx) C (some od)/\∀ name,PySem.W.lookIn name od=some (mA name) :=
 let ⟨od,ho,hl⟩:=qv I.ns
 ⟨od,⟨I.obj,rfl,rfl,ho⟩,hl⟩
section
variable {prog:Program} {w:World} {A:Around} {E:Value->Shared->Prop} {s:Shared} {K:PySem.W.Frag} {x dx C f:Addr} {mA:Str->Option Value} {name:Str} {v:Value}
end
theorem gG.some_of {v:V} {o:Option Value} (r:gG (some v) o):∃ u,o=some u/\RelV v u:=by
 cases o with
 | none=>exact (show False from r).elim
 | some u=>exact ⟨u,rfl,r⟩
section
variable {P:Program} {w:World} {H H':Hp} {h h':Heap} {a C dx:Addr} {fs fs':List (Str × V)}
theorem uv (hok:HOk P w H h) (e:H a=some (.ins C dx fs)):∃ mA,wx h a dx C mA/\(∀ f,gG (fs.lookup f) (mA f))/\PySem.Within mA (fs.map (·.1))/\fs.length<=1000/\H dx=some (.own a):=by
 obtain ⟨d,z,ne,ob,mA,n,r,q⟩:=(show bB P w H h a (.ins C dx fs) from hok a _ e)
 exact ⟨mA,⟨ob,n,ne⟩,r,q,z,d⟩
end
structure Cls (K:PySem.W.Frag) (C:Addr):Prop where
 pg:PySem.W.plainGet K C Str.empty=true
 hd:PySem.W.hasDictIn K C=true
 po:PySem.W.plainOver K C=true
 sa:PySem.W.findIn K (.ref C) "__setattr__" = some (some (.builtin "object.__setattr__"))
theorem Cls.get {K:PySem.W.Frag} {C:Addr} (c:Cls K C) (f:Str):PySem.W.plainGet K C f=true:=c.pg
section
variable {X:Cx} {pins:List (Addr × Obj)} {σ:St} {H:Hp} {s:Shared} {a C dx:Addr} {fs:List (Str × V)} {f:Str} {v:V} {A:Around} {E:Value->Shared->Prop}
end
section
variable {X:Cx} {o e value:Expr} {f:Str} {pos pos' tpos:Pos} {ta tv:TE}
end
section
variable {X:Cx} {pins:List (Addr × Obj)} {σ:St} {H:Hp} {s:Shared} {A:Around} {E:Value->Shared->Prop} {Q:Value->Shared->Prop} {c:Value} {b:Bool}
inductive fW (K:PySem.W.Frag) (H:Hp):V->Value->Prop where
 | non:fW K H .non (.type "NoneType")
 | bl (x:Bool):fW K H (.bl x) (.type "bool")
 | int (i:Int):fW K H (.int i) (.type "int")
 | str (x:Str):fW K H (.str x) (.type "str")
 | flt (x:UInt64):fW K H (.flt x) (.type "float")
 | lst {a:Addr} {xs:List V} (e:H a=some (.lst xs)):fW K H (.ref a) (.type "list")
 | frz {a:Addr} {o:Obj} {xs:List V} (e:H a=some (.frz o (.lst xs))):fW K H (.ref a) (.type "list")
 | tup {a:Addr} {xs:List V} (e:H a=some (.tup xs)):fW K H (.ref a) (.type "tuple")
 | dK {a:Addr} {kvs:List (Key × V)} (e:H a=some (.dK kvs)):fW K H (.ref a) (.type "dict")
 | dT {a:Addr} {kvs:List (List Key × V)} (e:H a=some (.dT kvs)):fW K H (.ref a) (.type "dict")
 | ins {a C dx:Addr} {fs:List (Str × V)} (e:H a=some (.ins C dx fs)) (cl:Cls K C) (ha:PySem.W.findIn K (.ref C) "__class__" = some (some (.builtin "object.__class__")))
   (hn:PySem.W.specialIn K (.builtin "object.__class__") "__get__" = some (some (.builtin "getset_descriptor.__get__"))) (htk:PySem.W.takesIn K (.builtin "object.__class__")=some true)
   (hm:PySem.W.mroIn K C (.type "object")=some true):fW K H (.ref a) (.ref C)
theorem qw {x:V} {u t:Value} (I:Inv X pins σ H s) (rx:RelV x u) (ty:fW X.K H x t) (e:PySem.W.kitOne X.K t c=some b) (h:∀ tk,Q (.bool b) { s with toks:=tk }) :
  wpAny (model X.prog X.w) A (call (.builtin "isinstance") [u,c]) Q E s:=by
 cases ty with
 | non=>cases (show u=Value.none from rx); exact PySem.W.kia_one PySem.W.kitx_none I.kIn True.intro e (fun z=>nomatch z) h
 | bl y=>cases (show u=Value.bool y from rx); exact PySem.W.kia_one PySem.W.kitx_bool I.kIn True.intro e (fun z=>nomatch z) h
 | int i=>obtain ⟨t,q⟩:=(show ∃ t,u=Value.int i t from rx); cases q; exact PySem.W.kia_one PySem.W.kitx_int I.kIn True.intro e (fun z=>nomatch z) h
 | str y=>obtain ⟨t,q⟩:=(show ∃ t,u=Value.str y t from rx); cases q; exact PySem.W.kia_one PySem.W.kitx_str I.kIn True.intro e (fun z=>nomatch z) h
 | flt y=>obtain ⟨t,q⟩:=(show ∃ t,u=Value.float y t from rx); cases q; exact PySem.W.kia_one PySem.W.kitx_float I.kIn True.intro e (fun z=>nomatch z) h
 | @lst a xs ea =>
  cases (show u=Value.ref a from rx)
  obtain ⟨_,_,n,_,h1⟩:=(show bB X.prog X.w H s.heap a (.lst xs) from I.hok a _ ea)
  exact PySem.W.kia_one PySem.W.kitx_list I.kIn ⟨_,h1,rfl⟩ e (fun z=>nomatch z) h
 | @frz a ob xs ea =>
  cases (show u=Value.ref a from rx)
  obtain ⟨_,_,_,n,_,h1⟩:=(show bB X.prog X.w H s.heap a (.frz ob (.lst xs)) from I.hok a _ ea)
  exact PySem.W.kia_one PySem.W.kitx_list I.kIn ⟨_,h1,rfl⟩ e (fun z=>nomatch z) h
 | @tup a xs ea =>
  cases (show u=Value.ref a from rx)
  obtain ⟨_,_,_,p⟩:=(show bB X.prog X.w H s.heap a (.tup xs) from I.hok a _ ea)
  obtain ⟨o,h1,h2,_⟩:=p
  exact PySem.W.kia_one PySem.W.kitx_tuple I.kIn ⟨o,h1,h2.1⟩ e (fun z=>nomatch z) h
 | @dK a kvs ea =>
  cases (show u=Value.ref a from rx)
  obtain ⟨_,_,vs,_,p⟩:=(show bB X.prog X.w H s.heap a (.dK kvs) from I.hok a _ ea)
  obtain ⟨o,es,ep,h1,h2,_⟩:=p
  exact PySem.W.kia_one PySem.W.kitx_dict I.kIn ⟨o,h1,h2.1⟩ e (fun z=>nomatch z) h
 | @dT a kvs ea =>
  cases (show u=Value.ref a from rx)
  obtain ⟨_,_,xs,_,o,es,ep,h1,h2,_⟩:=(show bB X.prog X.w H s.heap a (.dT kvs) from I.hok a _ ea)
  exact PySem.W.kia_one PySem.W.kitx_dict I.kIn ⟨o,h1,h2.1⟩ e (fun z=>nomatch z) h
 | @ins a C dx fs ea cl ha hn htk hm =>
  cases (show u=Value.ref a from rx)
  obtain ⟨mA,O,_⟩:=uv I.hok ea
  obtain ⟨od,J,_⟩:=O.look
  exact PySem.W.kia_one (PySem.W.kitx_own (cl.get _) cl.hd ha hn htk hm) I.kIn J e (fun z=>nomatch z) h
end
open PySem PySem.Spec PyProof.Rows
structure di (k:Nat) (A:Around):Prop where
 hd:A.handled=none
 dp:A.depth + 3 * k + 5 < recursionLimit
 un:A.units + 16 * k + 200 < cLine
theorem di.mono {j k:Nat} {A:Around} (r:di k A) (h:j<=k):di j A:=⟨r.hd,by have:=r.dp; omega,by have:=r.un; omega⟩
theorem di.deeper {k:Nat} {A:Around} (r:di (k + 1) A) (env:Env):di k (A.deeper env) :=
 ⟨r.hd,by have:=r.dp; show A.depth + 1 + 3 * k + 5 < _; omega,by have:=r.un; show A.units + 3 + 16 * k + 200 < _; omega⟩
theorem di.depth {k:Nat} {A:Around} (r:di k A):A.depth < recursionLimit:=by have:=r.dp; omega
theorem di.units {k:Nat} {A:Around} (r:di k A):A.units + 64 < cLine:=by have:=r.un; omega
def xX:TA:=fun _ H Q=>Q [] H
def vI (ta:TE) (tr:TA):TA:=fun σ H Q=>ta σ H fun x H1=>tr σ H1 fun xs H2=>Q (x :: xs) H2
section
variable {X:Cx} {e:Expr} {es:List Expr} {te:TE} {t:TA} {pos:Pos}
theorem af:PA X [] xX:=fun _ _ _ _ H Q I h=>Calls.spliced_nil ⟨[],H,I,.nil,h⟩
theorem aa (ha:PE X e te) (hr:PA X es t) (hs:starEach (e :: es) X.env=(false,eval e X.env) :: starEach es X.env:=by rfl):PA X (e :: es) (vI te t):=by
 intro pos pins s σ H Q I h
 rw [hs]
 show wpAny _ _ (spliced ((false,eval e X.env) :: backTo pos (starEach es X.env))) _ _ s
 refine Calls.spliced_cons (thn (ha pins s σ H _ I h) fun u s1 ⟨x,H1,I1,r1,q1⟩ => ?_)
 exact thn (hr pos pins s1 σ H1 _ I1 q1) fun us s2 ⟨xs,H2,I2,r2,q2⟩=>⟨x :: xs,H2,I2,.cons r1 r2,q2⟩
def tTup (t:TA):TE:=fun σ H Q=>t σ H fun xs H1=>xs.length<=sizeLine/\∀ p,H1 p=none->Q (.ref p) (upd H1 p (.tup xs))
def tLst (t:TA):TE:=fun σ H Q=>t σ H fun xs H1=>xs.length<=sizeLine/\∀ p,H1 p=none->Q (.ref p) (upd H1 p (.lst xs))
theorem bO {x1} (h:PA X es t):PE X (.Tuple es x1 pos) (tTup t):=by
 intro pins s σ H Q I hq
 refine wpAny_Tuple_spliced (thn (h pos pins s σ H _ I hq) fun us s1 ⟨xs,H1,I1,r,z,q⟩=>⟨by rw [<- r.length]; exact z,?_⟩)
 have hf:H1 s1.heap.objs.size=none:=I1.hok.fresh (Nat.le_refl _)
 refine ⟨.ref s1.heap.objs.size,upd H1 s1.heap.objs.size (.tup xs),I1.laid (t':=s1.toks) (fun b u e=>Heap.get?_push_of_some _ e) (Nat.le_refl _) ?_,rfl,q _ hf⟩
 exact ⟨z,us,r,⟨_,Heap.get?_push_size _ rfl,⟨rfl,rfl⟩,_,rfl⟩⟩
theorem bY (h:PA X es t):PE X (.List es pos) (tLst t):=by
 intro pins s σ H Q I hq
 refine wpAny_List_spliced (thn (h pos pins s σ H _ I hq) fun us s1 ⟨xs,H1,I1,r,z,q⟩=>⟨by rw [<- r.length]; exact z,?_⟩)
 have hf:H1 s1.heap.objs.size=none:=I1.hok.fresh (Nat.le_refl _)
 refine ⟨.ref s1.heap.objs.size,upd H1 s1.heap.objs.size (.lst xs),I1.laid (t':=s1.toks) (fun b u e=>Heap.get?_push_of_some _ e) (Nat.le_refl _) ?_,rfl,q _ hf⟩
 exact ⟨z,us,0,r,Heap.get?_push_size _ rfl⟩
end
abbrev Sp:=List V->Hp->VK->XK->Prop
abbrev CXT:=List Env->Hp->Shared->XK->Value->Shared->Prop
structure uw (P:Program) (w:World) (K:PySem.W.Frag) (mg:Str->Option Value) (base:Heap) (A:Around) (outer:List Env) (s:Shared) (H:Hp):Prop where
 frames:A.frames=some outer
 mod:Mod K mg base
 bs:∀ b o,base.get? b=some o->s.heap.get? b=some o/\H b=none
 bsz:base.objs.size<=s.heap.objs.size
 funs:s.heap.FunFrames base outer
 frf:∀ b ∈ frs outer,H b=none
 hok:HOk P w H s.heap
 bare:AllBare s.gens
def CE (outer:List Env) (P:Program) (w:World) (H:Hp) (s:Shared) (Q:VK) (u:Value) (s':Shared):Prop :=
 ∃ v H',s'.os=s.os/\AllBare s'.gens/\Un (frs outer) [] H H' s.heap s'.heap/\HOk P w H' s'.heap/\RelV v u/\Q v H'
def CR (CX:CXT) (outer:List Env) (P:Program) (w:World) (H:Hp) (s:Shared) (Q:VK) (E:XK) (r:Result) (s':Shared):Prop :=
 match r with
 | .ok (.ret u)=>CE outer P w H s Q u s'
 | .ok _=>False
 | .error e=>CX outer H s E e s'
structure cy (P:Program) (w:World) (K:PySem.W.Frag) (mg:Str->Option Value) (base:Heap) (CX:CXT) (k:Nat) (f:Addr) (fd:FuncData) (ps:List Str) (sp:Sp):Prop where
 len:∀ vs H Q E,sp vs H Q E->vs.length=ps.length
 run:∀ (A:Around) (outer:List Env) (s:Shared) (H:Hp) (args:Args) (us:List Value) (vs:List V) (Q:VK) (E:XK),di k A->uw P w K mg base A outer s H->BindsTo s fd args (ps.zip us)->Vals vs us->sp vs H Q E →
  codeAny (model P w) A (.call (.ref f) args) (CR CX outer P w H s Q E) s
section
variable {X:Cx} {pins:List (Addr × Obj)} {σ:St} {H:Hp} {s s':Shared}
theorem Inv.env0 (I:Inv X pins σ H s):uw X.prog X.w X.K X.mg X.base X.A X.stack s H :=
 ⟨I.ok.frames,I.ok.mod,I.bs,Nat.le_trans I.ok.bsz I.sz,I.stack,I.o6,I.hok,I.bare⟩
theorem Inv.after {Q:VK} {u:Value} (I:Inv X pins σ H s) (h:CE X.stack X.prog X.w H s Q u s'):EP X pins σ Q u s':=by
 obtain ⟨v,H',os,bare,un,hok,r,q⟩:=h
 obtain ⟨hh,g,d,t,os'⟩:=s'
 obtain rfl:os'=s.os:=os
 exact ⟨v,H',I.call (h':=hh) (g':=g) (d':=d) (t':=t) (ch:=[]) un hok bare (fun b z=>absurd z (by simp)),r,q⟩
end
def vJ (sp:Sp) (dvs:List V) (E:XK) (t:TA):TE:=fun σ H Q=>t σ H fun vs H1=>sp (vs ++ dvs) H1 Q E
def Binds (K:PySem.W.Frag) (fd:FuncData) (ps:List Str) (ds:List Value):Prop :=
 ∀ (s:Shared) (us:List Value),K.In s.heap->(us ++ ds).length=ps.length->BindsTo s fd ⟨us,[]⟩ (ps.zip (us ++ ds))
theorem Binds.all {K:PySem.W.Frag} {fd:FuncData} {ps:List Str} (h:∀ us:List Value,us.length=ps.length->bindArgs fd ⟨us,[]⟩=pure (ps.zip us)):Binds K fd ps []:=fun s us _ hl=>by
 rw [List.append_nil] at hl ⊢
 exact .of_eq (h us hl)
def Passes (CX:CXT) (X:Cx) (E:XK):Prop:=∀ (pins:List (Addr × Obj)) (σ:St) (H:Hp) (s:Shared) (e:Value) (s':Shared),Inv X pins σ H s->CX X.stack H s E e s'->X.xe e s'
section
variable {X:Cx} {CX:CXT} {k:Nat} {f C:Addr} {fd:FuncData} {ps:List Str} {sp:Sp} {dvs:List V} {ds:List Value} {E:XK} {x m:Str} {p pos apos:Pos} {e o:Expr} {es:List Expr} {ta:TE} {t:TA}
theorem wz {pins:List (Addr × Obj)} {σ:St} {H:Hp} {s:Shared} {Q:VK} {us:List Value} {vs:List V} (F:cy X.prog X.w X.K X.mg X.base CX k f fd ps sp) (hr:di k X.A) (hb:Binds X.K fd ps ds) (hd:Vals dvs ds) (hx:Passes CX X E)
  (I:Inv X pins σ H s) (r:Vals vs us) (h:sp (vs ++ dvs) H Q E):wpAny (model X.prog X.w) X.A (call (.ref f) us) (EP X pins σ Q) X.xe s:=by
 have r2:Vals (vs ++ dvs) (us ++ ds):=r.append hd
 have hl:(us ++ ds).length=ps.length:=by rw [<- r2.length]; exact F.len _ _ _ _ h
 refine wpAny_call (codeAny_mono (F.run X.A X.stack s H ⟨us,[]⟩ (us ++ ds) (vs ++ dvs) Q E hr I.env0 (hb s us I.kIn hl) r2 h) fun r s' hq => ?_)
 cases r with
 | error e=>exact hx pins σ H s e s' I hq
 | ok fl =>
  cases fl with
  | ret u=>exact I.after hq
  | next=>exact False.elim hq
  | brk=>exact False.elim hq
  | cont=>exact False.elim hq
theorem ux (F:cy X.prog X.w X.K X.mg X.base CX k f fd ps sp) (hr:di k X.A) (hg:Gl X x) (hm:X.mg x=some (.ref f)) (hk:PySem.W.keepIn X.K (.ref f)=true) (hb:Binds X.K fd ps ds) (hd:Vals dvs ds) (hx:Passes CX X E)
  (ha:PA X (e :: es) t) (hdb:(x == ("__debug__" : Str))=false:=by decide) (he:starEach (e :: es) X.env=(false,eval e X.env) :: starEach es X.env:=by rfl) (hpl:(backTo pos (starEach es X.env)).any (·.1)=false:=by rfl) :
  PE X (.Call (.Name x p) (e :: es) [] pos) (vJ sp dvs E t):=by
 intro pins s σ H Q I h
 refine wpAny_Call_Name_kw (uo I hg hm ?_ hdb)
 refine PySem.W.callWith_K (h₀:=X.base) I.ok.mod.kin hk (thn (ha pos pins s σ H _ I h) fun us s1 ⟨vs,H1,I1,r,q⟩=>⟨I1.kIn,?_⟩) he hpl
 exact wz F hr hb hd hx I1 r q
end
def PK (X:Cx) (kws:List Keyword) (t:TA):Prop :=
 ∀ (pos:Pos) (pins:List (Addr × Obj)) (s:Shared) (σ:St) (H:Hp) (Q:List V->Hp->Prop),Inv X pins σ H s->t σ H Q->wpAny (model X.prog X.w) X.A (evalAll ((backToKw pos (keywordEach kws X.env)).map (·.2))) (AP X pins σ Q) X.xe s
section
variable {X:Cx} {CX:CXT} {k:Nat} {f C:Addr} {fd:FuncData} {ps ks:List Str} {sp:Sp} {E:XK} {x m:Str} {p pos apos kpos:Pos} {e o:Expr} {es:List Expr} {kws:List Keyword} {te ta:TE} {t tk:TA} {nm:Option Str}
theorem wA:PK X [] xX:=fun _ _ _ _ H Q I h=>wpAny_evalAll_nil ⟨[],H,I,.nil,h⟩
theorem uy (ha:PE X e te) (hr:PK X kws t):PK X (⟨nm,e,kpos⟩ :: kws) (vI te t):=by
  intro pos pins s σ H Q I h
  show wpAny _ _ (evalAll ((do let v ← eval e X.env; standAt pos; pure v) :: (backToKw pos (keywordEach kws X.env)).map (·.2))) _ _ s
  refine wpAny_evalAll_cons (wpAny_bind (thn (ha pins s σ H _ I h) fun u s1 ⟨x,H1,I1,r1,q1⟩=>wpAny_bind (wpAny_standAt (wpAny_pure ?_))))
  exact thn (hr pos pins s1 σ H1 _ I1 q1) fun us s2 ⟨xs,H2,I2,r2,q2⟩=>⟨x :: xs,H2,I2,.cons r1 r2,q2⟩
variable {g:List Value->List Value->List Value} {gV:List V->List V->List V}
end
structure aW (N P:List Str) (sc:Scope):Prop where
 kind:sc.kind = .function
 co:sc.isCoroutine=false
 gen:sc.isGenerator=false
 nd:N.Nodup
 pre:N.take P.length=P
 par:∀ x ∈ P,sc.names.lookup x=some .local\/sc.names.lookup x=some .cell
 nofree:∀ y ∈ sc.names,y.2 ≠ .free
theorem jP {kindOf:Str->Option NameKind} {x:Str}:∀ {binds:List (Str × Value)} {m:Str->Option Value},(∀ v,(x,v) ∉ binds)->bindL kindOf binds m x=m x
 | [],_,_=>rfl
 | (n,v) :: r,m,h=>by
  unfold bindL
  rw [jP fun w hw=>h w (List.mem_cons_of_mem _ hw)]
  split
  ·have:x ≠ n:=by rintro rfl; exact h v List.mem_cons_self
   simp [this]
  ·rfl
theorem jQ {kindOf:Str->Option NameKind} {x:Str}:∀ {binds:List (Str × Value)} {m:Str->Option Value},(∀ v,(x,v) ∉ binds)->bindC kindOf binds m x=m x
 | [],_,_=>rfl
 | (n,v) :: r,m,h=>by
  unfold bindC
  rw [jQ fun w hw=>h w (List.mem_cons_of_mem _ hw)]
  split
  ·rfl
  ·have:x ≠ n:=by rintro rfl; exact h v List.mem_cons_self
   simp [this]
theorem jR {kindOf:Str->Option NameKind} {x:Str} {v:Value}:∀ {P:List Str} {vs:List Value} {i:Nat} {m:Str->Option Value},P.Nodup->P[i]? = some x->vs[i]? = some v->kindOf x=some .local →
  bindL kindOf (P.zip vs) m x=some v
 | [],_,_,_,_,h,_,_=>by simp at h
 | _ :: _,[],_,_,_,_,h,_=>by simp at h
 | p :: P,w :: vs,0,m,nd,h1,h2,hk=>by
  simp at h1 h2; subst h1; subst h2
  show bindL kindOf ((p,w) :: P.zip vs) m p=_
  unfold bindL
  rw [jP fun v hv=>(List.nodup_cons.mp nd).1 (List.of_mem_zip hv).1,if_pos hk]
  simp
 | p :: P,w :: vs,i + 1,m,nd,h1,h2,hk=>by
  show bindL kindOf ((p,w) :: P.zip vs) m x=_
  unfold bindL
  exact jR (i:=i) (List.nodup_cons.mp nd).2 (by simpa using h1) (by simpa using h2) hk
theorem jS {kindOf:Str->Option NameKind} {x:Str} {v:Value}:∀ {P:List Str} {vs:List Value} {i:Nat} {m:Str->Option Value},P.Nodup->P[i]? = some x->vs[i]? = some v->kindOf x ≠ some .local →
  bindC kindOf (P.zip vs) m x=some v
 | [],_,_,_,_,h,_,_=>by simp at h
 | _ :: _,[],_,_,_,_,h,_=>by simp at h
 | p :: P,w :: vs,0,m,nd,h1,h2,hk=>by
  simp at h1 h2; subst h1; subst h2
  show bindC kindOf ((p,w) :: P.zip vs) m p=_
  unfold bindC
  rw [jQ fun v hv=>(List.nodup_cons.mp nd).1 (List.of_mem_zip hv).1,if_neg hk]
  simp
 | p :: P,w :: vs,i + 1,m,nd,h1,h2,hk=>by
  show bindC kindOf ((p,w) :: P.zip vs) m x=_
  unfold bindC
  exact jS (i:=i) (List.nodup_cons.mp nd).2 (by simpa using h1) (by simpa using h2) hk
def start (N:List Str) (vs:List V):St:=vs.map some ++ List.replicate (N.length - vs.length) none
def jw (CX:CXT) (P:Program) (w:World) (K:PySem.W.Frag) (mg:Str->Option Value) (base:Heap) (N:List Str) (qual:Str) (scope:Scope) (f:Addr) (cd:Value) (A:Around) (outer:List Env) (s:Shared) (H:Hp) (E:XK):Cx where
 prog:=P
 w:=w
 K:=K
 mg:=mg
 base:=base
 A:=A.deeper (envOfC qual scope s.heap.objs.size f cd)
 N:=N
 s₀:=s
 H₀:=H
 env:=envOfC qual scope s.heap.objs.size f cd
 outer:=outer
 stack:=envOfC qual scope s.heap.objs.size f cd :: outer
 ex:=[]
 calm:=true
 fn:=fun _=>true
 pn:=[]
 xe:=fun e s'=>wpAny (model P w) (A.deeper (envOfC qual scope s.heap.objs.size f cd)) (leaving (envOfC qual scope s.heap.objs.size f cd) e) (fun _ s''=>CX outer H s E e s'') (fun e' s''=>CX outer H s E e' s'') s'
theorem mw {sc:Scope} {n:Nat} {x:Str} (h:sc.names.lookup x=some .cell):∃ c,(cellsFrom n sc.names []).lookup x=some c:=by
 have q:=PySem.W.cellsFrom_some sc.names n [] (.inl h)
 exact Option.isSome_iff_exists.mp q
theorem qx {CX:CXT} {P:Program} {w:World} {K:PySem.W.Frag} {mg:Str->Option Value} {base:Heap} {N ps:List Str} {qual:Str} {scope:Scope} {f:Addr} {cd:Value} {A:Around} {outer:List Env} {s s1:Shared} {H:Hp} {E:XK} {us:List Value} {vs:List V}
  (S:aW N ps scope) (hd:A.handled=none) (e0:uw P w K mg base A outer s H) (hl:vs.length=ps.length) (r:Vals vs us)
  (x:InCallC s s.heap.objs.size (bindL (envOfC qual scope s.heap.objs.size f cd).kindOf (ps.zip us) fun _=>none) (cellsFrom (s.heap.objs.size + 1) scope.names []) (bindC (envOfC qual scope s.heap.objs.size f cd).kindOf (ps.zip us) fun _=>none) s1) :
  Inv (jw CX P w K mg base N qual scope f cd A outer s H E) [] (start N vs) H s1:=by
 have hpl:ps.length<=N.length:=by have:=congrArg List.length S.pre; rw [List.length_take] at this; omega
 obtain ⟨h1,tk,rfl,hk⟩:=x.done
 have noA:∀ b:Addr,b ∉ (jw CX P w K mg base N qual scope f cd A outer s H E).ex:=fun b z=>absurd (show b ∈ ([]:List Addr) from z) (by simp)
 refine ⟨⟨e0.mod,S.kind,rfl,rfl,Nat.le_refl _,fun y z c h1 h2 => ?_,fun y hy => ?_,fun y c _ h => ?_,fun _=>hd,Around.frames_deeper e0.frames,.inr ⟨rfl,rfl⟩,fun b z=>absurd z (noA b),e0.bs,e0.bsz,fun b _ _=>noA b,fun b z=>absurd z (noA b),e0.funs,e0.frf⟩,
  rfl,e0.bare,Un.kept hk,⟨_,x.toInCall.ns,fun i y v h1 h2 h3 => ?_⟩,fun y c h=>⟨_,x.cell y c h⟩,e0.hok.fresh (Nat.le_refl _),fun y c h => ?_,fun p hp=>absurd (show p ∈ ([]:List (Addr × Obj)) from hp) (by simp),e0.hok.kept hk,?_⟩
 ·exact name_of_addr x.apart (PySem.mem_of_lookup h1) (PySem.mem_of_lookup h2)
 ·have hy:scope.names.lookup y=some .cell\/scope.names.lookup y=some .free:=hy
  rcases hy with hy | hy
  ·exact mw hy
  ·exact absurd rfl (S.nofree _ (PySem.mem_of_lookup hy))
 ·exact Nat.le_of_lt (x.above y c (PySem.mem_of_lookup h))
 ·have hi:i < vs.length:=by
   unfold start at h2
   by_cases hi:i < vs.length
   ·exact hi
   ·rw [List.getElem?_append_right (by simpa using hi)] at h2
    rw [List.getElem?_replicate] at h2
    split at h2 <;> cases h2
  have ha:vs[i]? = some v:=by
   unfold start at h2
   rw [List.getElem?_append_left (by simpa using hi),List.getElem?_map] at h2
   cases e:vs[i]? with
   | none=>rw [e] at h2; cases h2
   | some a=>rw [e] at h2; cases h2; rfl
  obtain ⟨u,hu,rv⟩:=r.get ha
  have hp:ps[i]? = some y:=by
   rw [<- S.pre,List.getElem?_take_of_lt (by omega)]; exact h1
  have ndP:ps.Nodup:=by rw [<- S.pre]; exact S.nd.sublist (List.take_sublist _ _)
  refine ⟨u,rv,?_⟩
  rcases S.par y (List.mem_of_getElem? hp) with k | k
  ·exact .inl ⟨k,jR ndP hp hu k⟩
  ·obtain ⟨c,e⟩:=mw (n:=s.heap.objs.size + 1) k
   refine .inr ⟨.inl k,c,e,?_⟩
   have q:=x.cell y c e
   rw [jS ndP hp hu (by show scope.names.lookup y ≠ _; rw [k]; decide)] at q
   exact q
 ·exact e0.hok.fresh (Nat.le_of_lt (x.above y c (PySem.mem_of_lookup h)))
 ·unfold start
  show _=N.length
  rw [List.length_append,List.length_map,List.length_replicate]
  omega
theorem xY {CX:CXT} {P:Program} {w:World} {K:PySem.W.Frag} {mg:Str->Option Value} {base:Heap} {k:Nat} {f:Addr} {name qual:Str} {params:Arguments} {body:List Stmt} {scope:Scope} {dV kV doc pm cdv ct oc:Value} {an od:Option Addr}
  {osl:Array (Option Value)} {N ps:List Str} {sp:Sp} (lk:K.lookup f=some ⟨oc,od,.func (PySem.W.fnOf name qual params body scope dV kV doc pm an cdv ct),osl⟩) (hcd:PySem.W.codeIn K cdv qual=true) (S:aW N ps scope)
  (len:∀ vs H Q E,sp vs H Q E->vs.length=ps.length)
  (hbody:∀ (A:Around) (outer:List Env) (s:Shared) (H:Hp) (vs:List V) (Q:VK) (E:XK),di k (A.deeper (envOfC qual scope s.heap.objs.size f cdv))->sp vs H Q E →
   ∃ t,PSs (jw CX P w K mg base N qual scope f cdv A outer s H E) body t/\t { nx:=fun _ H'=>Q .non H',rt:=Q } (start N vs) H) :
  cy P w K mg base CX (k + 1) f (PySem.W.fnOf name qual params body scope dV kV doc pm an cdv ct) ps sp:=by
 refine ⟨len,fun A outer s H args us vs Q E hr e0 hb r hsp => ?_⟩
 have hl:=len _ _ _ _ hsp
 have KX:K.In s.heap:=e0.mod.kin.keeps fun b o e=>(e0.bs b o e).1
 have lim:s.heap.NoLimit:=e0.mod.nolimit.keeps fun b o e=>(e0.bs b o e).1
 have hkind:∀ y ∈ ps.zip us,scope.names.lookup y.1=some .local\/(scope.names.lookup y.1=some .cell/\((cellsFrom (s.heap.objs.size + 1) scope.names []).lookup y.1).isSome=true):=fun ⟨n,v⟩ hy=>by
  rcases S.par n (List.of_mem_zip hy).1 with q | q
  ·exact .inl q
  ·exact .inr ⟨q,PySem.W.cellsFrom_some _ _ _ (.inl q)⟩
 refine codeAny_call_function hr.depth (KX _ _ lk) rfl S.co S.gen rfl (PySem.W.codeRec_of KX hcd) (hb _ _ _ _ ?_)
 refine wpAny_newFunctionEnv_cells S.kind hkind fun env he s1 x => ?_
 subst he
 refine ⟨lim.keeps x.toInCall.keep,codeAny_func ?_⟩
 obtain ⟨t,ht,hq⟩:=hbody A outer s H vs Q E (hr.deeper _) hsp
 have I:Inv (jw CX P w K mg base N qual scope f cdv A outer s H E) [] (start N vs) H s1:=qx S hr.hd e0 hl r x
 refine wpAny_mono (ht [] s1 (start N vs) H _ I hq) (fun fl s' hs => ?_) fun e s' hs=>hs
 have fin:∀ {σ':St} {H':Hp} {v:V} {u:Value},Inv (jw CX P w K mg base N qual scope f cdv A outer s H E) [] σ' H' s'->RelV v u->Q v H'->CE outer P w H s Q u s' :=
  fun {σ' H' v u} J rv q=>⟨v,H',J.os,J.bare,J.base,J.hok,rv,q⟩
 cases fl with
 | ret u =>
  obtain ⟨v,σ',H',J,rv,q⟩:=hs
  exact fin J rv q
 | next =>
  obtain ⟨σ',H',J,q⟩:=hs
  exact fin (v:=V.non) (u:=Value.none) J rfl q
 | brk =>
  obtain ⟨_,_,_,q⟩:=hs
  exact False.elim q
 | cont =>
  obtain ⟨_,_,_,q⟩:=hs
  exact False.elim q
open PySem PySem.Spec PyProof.Rows
section
variable {X:Cx} {x:Str} {p pos:Pos} {e:Expr} {es:List Expr} {t:TA} {id T:String} {r:List V->Hp->VK->Prop}
def tCB (r:List V->Hp->VK->Prop) (t:TA):TE:=fun σ H Q=>t σ H fun vs H1=>r vs H1 Q
theorem ak (hc:bJ X (.builtin id) r) (hg:Gl X x) (hm:X.mg x=none) (hv:bootBuiltins x=some (.builtin id)) (ha:PA X (e :: es) t) (hn:x ≠ "__name__" := by decide) (hdb:(x == ("__debug__" : Str))=false:=by decide)
  (he:starEach (e :: es) X.env=(false,eval e X.env) :: starEach es X.env:=by rfl) (hpl:(backTo pos (starEach es X.env)).any (·.1)=false:=by rfl):PE X (.Call (.Name x p) (e :: es) [] pos) (tCB r t):=by
 intro pins s σ H Q I h
 refine wpAny_Call_Name_kw (cI I hg hm hv ?_ hn hdb)
 exact PyProof.Rows.callWith_builtin1 (thn (ha pos pins s σ H _ I h) fun us s1 ⟨vs,H1,I1,r1,q1⟩=>hc pins s1 σ H1 vs us Q I1 r1 q1) he hpl
theorem bj (hc:bJ X (.type T) r) (hg:Gl X x) (hm:X.mg x=none) (hv:bootBuiltins x=some (.type T)) (ha:PA X (e :: es) t) (hn:x ≠ "__name__" := by decide) (hdb:(x == ("__debug__" : Str))=false:=by decide)
  (he:starEach (e :: es) X.env=(false,eval e X.env) :: starEach es X.env:=by rfl) (hpl:(backTo pos (starEach es X.env)).any (·.1)=false:=by rfl):PE X (.Call (.Name x p) (e :: es) [] pos) (tCB r t):=by
 intro pins s σ H Q I h
 refine wpAny_Call_Name_kw (cI I hg hm hv ?_ hn hdb)
 exact PyProof.Rows.callWith_type1 (thn (ha pos pins s σ H _ I h) fun us s1 ⟨vs,H1,I1,r1,q1⟩=>hc pins s1 σ H1 vs us Q I1 r1 q1) he hpl
end
end L2
namespace HT
open PySem PyProof.Rows
def lexLt:List Int->List Int->Bool
 | [],[]=>false
 | [],_ :: _=>true
 | _ :: _,[]=>false
 | x :: xs,y :: ys=>if x=y then lexLt xs ys else decide (x < y)
theorem cD (x y:Int) (xs ys:List Int):lexLt (x :: xs) (y :: ys)=if x=y then lexLt xs ys else decide (x < y):=rfl
theorem jz:lexLt [] []=false:=rfl
theorem iB (y:Int) (ys:List Int):lexLt [] (y :: ys)=true:=rfl
theorem iC (x:Int) (xs:List Int):lexLt (x :: xs) []=false:=rfl
theorem rZ (A:Around) (s:Shared) (a:Int) (t:Tok) (c:Int) (u:Tok):∃ e,SeqAt.EqAt A s (.int a t) (.int c u) e/\(e=true ↔ a=c) :=
 ⟨(a == c),SeqAt.EqAt.int_int a t c u,by simp⟩
theorem my (A:Around) (s:Shared) (a:Int) (t:Tok) (c:Int) (u:Tok) (prog:Program) (w:World) (E:Value->Shared->Prop) (Q:Value->Shared->Prop) (h:Q (.bool (decide (a < c))) s) :
  wpAny (model prog w) A (richCompare .Lt (.int a t) (.int c u)) Q E s :=
 (PyProof.Rows.lt_int h:wpAny (model prog w) A (compareOp .Lt (.int a t) (.int c u)) Q E s)
section
open PySem.SeqAt
open PySem.AutoSeq1 (wpAny_loadPart')
open PySem.MeetsSeq PySem.MeetsSeq2 PySem.MeetsSeq3
theorem jA (l b:Addr) (items items2:Array Value) (n n2:Nat) (dd dd2:Option Addr) (sl sl2:Array (Option Value)) (ns ms:List Int) (hi:IntsAre items.toList ns) (hj:IntsAre items2.toList ms) :
  Meets (Builtin.«tuple.__lt__» ⟨[.ref l,.ref b],[]⟩)
   (fun _ R s=>s.heap.get? l=some { cls := .type "tuple",dict:=dd,data := .seq items n,slots:=sl }/\s.heap.get? b=some { cls := .type "tuple",dict:=dd2,data := .seq items2 n2,slots:=sl2 } ∧
    R (.ok (.ret (.bool (lexLt ns ms)))) s) :=
 .of_wp fun prog w A R s h=>by
  obtain ⟨hp,g,d,tk,os⟩:=s; obtain ⟨hl,hb,h⟩:=h
  have f2:=AutoSeq1.sub_tuple_tuple
  have z1:items.size=ns.length:=by rw [<- hi.length]; simp
  have z2:items2.size=ms.length:=by rw [<- hj.length]; simp
  wp_walk using wpAny_loadPart' hl,wpAny_loadPart' hb,wpAny_forIn_list _ (fun rest b s'=>b.1=none/\s'=⟨hp,g,d,tk,os⟩/\∃ (vs ws:List Value) (ns' ms':List Int),rest=vs.zip ws ∧
   IntsAre vs ns'/\IntsAre ws ms'/\ns'.length + items2.size=ms'.length + items.size/\R (.ok (.ret (.bool (lexLt ns' ms')))) ⟨hp,g,d,tk,os⟩) _
  case turn =>
   rintro ⟨y,x⟩ rest b s' ⟨hb',rfl,vs,ws,ns',ms',hz,hvi,hwi,hlen,hR⟩
   cases hvi with
   | nil=>rw [List.zip_nil_left] at hz; cases hz
   | cons a t hvi' =>
    cases hwi with
    | nil=>rw [List.zip_nil_right] at hz; cases hz
    | cons c u hwi' =>
     rw [List.zip_cons_cons] at hz
     injection hz with hyx hrest
     injection hyx with hy hx
     subst hy hx
     rw [cD] at hR
     simp only [List.length_cons] at hlen
     obtain ⟨e,he,hiff⟩:=rZ A.in1 ⟨hp,g,d,tk,os⟩ a t c u
     refine wpAny_bind (he prog w _ _ ?_)
     cases e with
     | true =>
      rw [if_pos (hiff.mp rfl)] at hR
      wp_walk
      exact ⟨rfl,rfl,_,_,_,_,hrest,hvi',hwi',by omega,hR⟩
     | false =>
      rw [if_neg (fun q=>absurd (hiff.mpr q) Bool.false_ne_true)] at hR
      have hri:=my A.in1 ⟨hp,g,d,tk,os⟩ a t c u prog w
      wp_walk using hri
      exact ⟨_,rfl,by simpa using hR⟩
  case fin =>
   rintro ⟨b1,b2⟩ s' ⟨hb',rfl,vs,ws,ns',ms',hz,hvi,hwi,hlen,hR⟩
   simp only at hb'
   subst hb'
   have hv:lexLt ns' ms'=decide (items.size < items2.size):=by
    cases hvi with
    | nil =>
     cases hwi with
     | nil =>
      simp only [List.length_nil] at hlen
      rw [jz]
      exact (decide_eq_false (by omega)).symm
     | cons c u hw =>
      simp only [List.length_nil,List.length_cons] at hlen
      rw [iB]
      exact (decide_eq_true (by omega)).symm
    | cons a t hv =>
     cases hwi with
     | nil =>
      simp only [List.length_nil,List.length_cons] at hlen
      rw [iC]
      exact (decide_eq_false (by omega)).symm
     | cons c u hw =>
      rw [List.zip_cons_cons] at hz
      cases hz
   rw [hv] at hR
   wp_walk
   exact ⟨_,rfl,by simpa [Builtin.Tuple.tupleCompareSizes] using hR⟩
  case h =>
   exact ⟨rfl,rfl,items.toList,items2.toList,ns,ms,rfl,hi,hj,by omega,h⟩
end
section
variable {prog:Program} {w:World} {A:Around} {E:Value->Shared->Prop} {s:Shared}
theorem oe {l b:Addr} {items items2:Array Value} {ns ms:List Int} {Q:Value->Shared->Prop} (hl:IsTup s.heap l items) (hb:IsTup s.heap b items2) (hi:IntsAre items.toList ns) (hj:IntsAre items2.toList ms)
  (hu:A.units < cLine) (h:Q (.bool (lexLt ns ms)) s):wpAny (model prog w) A (compareOp .Lt (.ref l) (.ref b)) Q E s:=by
 obtain ⟨⟨cls,dd,data,sl⟩,ho,hc,n,hd⟩:=id hl
 obtain ⟨⟨cls2,dd2,data2,sl2⟩,ho2,hc2,n2,hd2⟩:=id hb
 simp only at hc hd hc2 hd2
 subst hc hd hc2 hd2
 exact richCompare_meets_room (op := .Lt) ⟨_,ho,rfl⟩ ⟨_,ho2,rfl⟩ PySem.F.slot_tuple_lt PySem.F.entry_tuple_lt (PySem.F.args_tuple_lt_2 _ _) (jA l b items items2 n n2 dd dd2 sl sl2 ns ms hi hj)
  ⟨ho,ho2,show Value.bool (lexLt ns ms) ≠ Value.notImplemented/\Q (.bool (lexLt ns ms)) s from ⟨(fun x=>nomatch x),h⟩⟩ hu
theorem uz {t b:Addr} {vs ws:List Value} {Q:Value->Shared->Prop} (ht:IsTup s.heap t vs.toArray) (hb:IsTup s.heap b ws.toArray) (hv:vs ≠ [])
  (h1:ws=[]->Q (.ref t) s) (h2:ws ≠ []->Q (.ref s.heap.objs.size) { s with heap:=s.heap.push { cls := .type "tuple",data := .seq (vs ++ ws).toArray } })
  (hsz:vs.length + ws.length<=sizeLine):wpAny (model prog w) A (binaryOp .Add (.ref t) (.ref b)) Q E s:=by
 obtain ⟨⟨cls,dd,data,sl⟩,ho,hc,n,hd⟩:=id ht
 obtain ⟨⟨cls2,dd2,data2,sl2⟩,ho2,hc2,n2,hd2⟩:=id hb
 simp only at hc hd hc2 hd2
 subst hc hd hc2 hd2
 have e:vs.toArray ++ ws.toArray=(vs ++ ws).toArray:=by simp
 by_cases hw:ws=[]
 ·exact concat_meets ⟨_,ho,rfl⟩ ⟨_,ho2,rfl⟩ noFill_tuple_add seq_tuple_add PySem.F.slot_tuple_add PySem.F.entry_tuple_add (PySem.F.args_tuple_add_2 _ _)
   (tuple_addW1 t b vs.toArray ws.toArray n n2 dd dd2 sl sl2 (by simpa using hv) (by simp [hw])) ⟨ho,ho2,h1 hw⟩
 ·refine concat_meets ⟨_,ho,rfl⟩ ⟨_,ho2,rfl⟩ noFill_tuple_add seq_tuple_add PySem.F.slot_tuple_add PySem.F.entry_tuple_add (PySem.F.args_tuple_add_2 _ _)
   (tuple_addW2 t b vs.toArray ws.toArray n n2 dd dd2 sl sl2 (by simpa using hv) (by simpa using hw) (by rw [List.size_toArray,List.size_toArray]; exact hsz)) ⟨ho,ho2,?_⟩
  rw [e]
  exact h2 hw
def sIx (n d:Nat):Option Int->Nat
 | none=>d
 | some v=>if v < 0 then (v + (n:Int)).toNat else min v.toNat n
theorem wB (n d:Nat) (hd:d<=n) (o:Option Int):sIx n d o<=n:=by
 cases o with
 | none=>exact hd
 | some v =>
  show (if v < 0 then (v + (n:Int)).toNat else min v.toNat n)<=n
  by_cases hv:v < 0
  ·rw [if_pos hv]; omega
  ·rw [if_neg hv]; exact Nat.min_le_right _ _
theorem pq (v:Int) (n d:Nat):(if v < 0 then max (v + (n:Int)) 0 else min v (n:Int))=((sIx n d (some v):Nat):Int):=by
 show (if v < 0 then max (v + (n:Int)) 0 else min v (n:Int))=(((if v < 0 then (v + (n:Int)).toNat else min v.toNat n):Nat):Int)
 by_cases hv:v < 0
 ·simp only [if_pos hv]; omega
 ·simp only [if_neg hv]; omega
theorem og (lo hi:Option Int) (n:Nat):Builtin.Slice.sliceAdjust lo hi 1 (n:Int)=(((sIx n 0 lo:Nat):Int),((sIx n n hi:Nat):Int)):=by
 have h1:¬ ((1:Int) < 0):=by omega
 unfold Builtin.Slice.sliceAdjust
 simp only [h1,if_false]
 refine Prod.ext ?_ ?_
 ·cases lo with
  | none=>rfl
  | some v=>exact pq v n 0
 ·cases hi with
  | none=>rfl
  | some v=>exact pq v n n
theorem oh (i j:Nat):Builtin.Slice.slicePlaces (i:Int) (j:Int) 1=j - i:=by
 unfold Builtin.Slice.slicePlaces
 have h1:(1:Int) > 0:=by omega
 simp only [h1,if_true,Int.ediv_one]
 split <;> omega
theorem iD {v:Value} {o:Option Int} {Q:Option Int->Shared->Prop} (p:IsPart v o) (h:Q o s):wpAny (model prog w) A (Builtin.Slice.slicePartIndex v) Q E s:=by
 cases p with
 | none=>exact slicePart_none h
 | int i t=>exact slicePart_int h
theorem dO {sl:Addr} {vl vu:Value} {lo hi:Option Int} {n:Nat} {Q:Int × Int × Nat->Shared->Prop} (hs:s.heap.IsSliceOf sl vl vu .none) (pl:IsPart vl lo) (pu:IsPart vu hi)
  (h:Q (((sIx n 0 lo:Nat):Int),1,sIx n n hi - sIx n 0 lo) s):wpAny (model prog w) A (Builtin.Slice.sliceApplied (.ref sl) (pure (n:Int))) Q E s:=by
 obtain ⟨os,hos,hcs,hds⟩:=id hs
 unfold Builtin.Slice.sliceApplied Builtin.Slice.sliceFields
 refine wpAny_bind (wpAny_bind (wpAny_field hos hds (x:=vl) rfl (wpAny_bind (wpAny_field hos hds (x:=vu) rfl (wpAny_bind (wpAny_field hos hds (x := .none) rfl (wpAny_pure ?_)))))))
 refine wpAny_bind (slicePart_none ?_)
 show wpAny _ _ (if ((1:Int) == 0)=true then _ else _) _ _ s
 rw [if_neg (by decide)]
 refine wpAny_bind (iD pl (wpAny_bind (iD pu (wpAny_bind (wpAny_pure ?_)))))
 show wpAny _ _ (match Builtin.Slice.sliceAdjust lo hi 1 (n:Int) with | (lo,hi)=>pure (lo,(1:Int),Builtin.Slice.slicePlaces lo hi 1)) _ _ s
 rw [og lo hi n]
 show wpAny _ _ (pure (((sIx n 0 lo:Nat):Int),(1:Int),Builtin.Slice.slicePlaces ((sIx n 0 lo:Nat):Int) ((sIx n n hi:Nat):Int) 1)) _ _ s
 rw [oh]
 exact wpAny_pure h
theorem r6 (xs:Array Value) (i k:Nat):((List.range k).filterMap fun (m:Nat)=>xs[((i:Int) + (m:Int) * 1).toNat]?).toArray=((xs.toList.drop i).take k).toArray:=by
 have e:(fun (m:Nat)=>xs[((i:Int) + (m:Int) * 1).toNat]?)=fun m=>xs[i + m]? := by
  funext m
  have:((i:Int) + (m:Int) * 1).toNat=i + m:=by omega
  rw [this]
 rw [e]
 have:=pick_run xs i k
 rw [List.filterMap_map] at this
 have e2:((fun x=>xs[x]?) ∘ fun x=>i + x)=fun m=>xs[i + m]? := rfl
 rw [e2] at this
 rw [this]
theorem fX {t sl:Addr} {items:Array Value} {vl vu:Value} {lo hi:Option Int} {Q:Value->Shared->Prop} (ht:IsTup s.heap t items) (hs:s.heap.IsSliceOf sl vl vu .none) (pl:IsPart vl lo) (pu:IsPart vu hi)
  (hw:¬ (sIx items.size 0 lo=0/\sIx items.size items.size hi=items.size))
  (h:Q (.ref s.heap.objs.size) { s with heap:=s.heap.push { cls := .type "tuple",data := .seq ((items.toList.drop (sIx items.size 0 lo)).take (sIx items.size items.size hi - sIx items.size 0 lo)).toArray } })
  (hsz:items.size<=sizeLine):wpAny (model prog w) A (getItem (.ref t) (.ref sl)) Q E s:=by
 have htake:sizeOk (.seq ((items.toList.drop (sIx items.size 0 lo)).take (sIx items.size items.size hi - sIx items.size 0 lo)).toArray):=by
  show ((items.toList.drop (sIx items.size 0 lo)).take (sIx items.size items.size hi - sIx items.size 0 lo)).toArray.size<=sizeLine
  rw [List.size_toArray,List.length_take,List.length_drop,Array.length_toList]
  omega
 have hj:sIx items.size items.size hi<=items.size:=wB _ _ (Nat.le_refl _) hi
 obtain ⟨os,hos,hcs,hds⟩:=id hs
 have hTs:s.TypeIs (.ref sl) "slice" := ⟨os,hos,hcs⟩
 unfold getItem
 try with_reducible refine wpAny_holding ?_
 first | refine wpAny_bind (wpAny_pure ?_) | skip
 refine wpAny_bind (wpAny_sequenceKey ht.typeIs (by decide) ?_)
 refine wpAny_bind (wpAny_callSpecial?_slot (name:=Str.ofString "__getitem__") ht.typeIs PyProof.Rows.slot_tuple_getitem
  (wpAny_call_entry PyProof.Rows.slot_tuple_getitem ht.typeIs entry_tuple_getitem ?_ (args_tuple_getitem _ _)))
 show wpAny _ _ (Builtin.Tuple.tupleItemsOf (.ref t) >>= _) _ _ s
 refine wpAny_bind (tupleItemsOf_ ht ?_)
 refine wpAny_bind (wpAny_typeOf hTs ?_)
 rw [if_pos (by decide)]
 refine wpAny_bind (dO hs pl pu ?_)
 have hno:¬ ((((sIx items.size 0 lo:Nat):Int) == 0 && (1:Int) == 1 && (sIx items.size items.size hi - sIx items.size 0 lo) == items.size)=true):=by
  intro q
  rw [Bool.and_eq_true,Bool.and_eq_true] at q
  have q1:((sIx items.size 0 lo:Nat):Int)=0:=eq_of_beq q.1.1
  have q2:sIx items.size items.size hi - sIx items.size 0 lo=items.size:=eq_of_beq q.2
  exact hw ⟨by omega,by omega⟩
 show wpAny _ _ (if (((sIx items.size 0 lo:Nat):Int) == 0 && (1:Int) == 1 && (sIx items.size items.size hi - sIx items.size 0 lo) == items.size)=true then _ else _) _ _ s
 rw [if_neg hno,r6]
 first
  | exact wpAny_bind (m:=Builtin.Tuple.tupleExact _) (wpAny_newObj_type (wpAny_pure ⟨_,rfl,wpAny_pure h⟩) htake)
  | exact wpAny_bind (m:=Builtin.Tuple.tupleExact _) (wpAny_newObj_type (wpAny_bind (wpAny_pure (wpAny_pure ⟨_,rfl,wpAny_pure h⟩))) htake)
  | exact wpAny_bind (wpAny_bind (m:=Builtin.Tuple.tupleExact _) (wpAny_newObj_type (wpAny_pure (wpAny_pure ⟨_,rfl,wpAny_pure h⟩)) htake))
  | exact wpAny_bind (wpAny_bind (m:=Builtin.Tuple.tupleExact _) (wpAny_newObj_type (wpAny_pure ⟨_,rfl,wpAny_pure h⟩) htake))
end
end HT
namespace L2
open PySem PySem.Spec PyProof.Rows
abbrev TO:=St->Hp->(Option Int->Hp->Prop)->Prop
def PO (X:Cx) (e:Option Expr) (t:TO):Prop :=
 ∀ (pins:List (Addr × Obj)) (s:Shared) (σ:St) (H:Hp) (Q:Option Int->Hp->Prop),Inv X pins σ H s->t σ H Q →
  wpAny (model X.prog X.w) X.A (evalPart e X.env) (fun u s'=>∃ o H',Inv X pins σ H' s'/\IsPart u o/\Q o H') X.xe s
def uA:TO:=fun _ H Q=>Q none H
def xZ (t:TE):TO:=fun σ H Q=>t σ H fun x H1=>∃ i,x = .int i/\Q (some i) H1
theorem intsAre_of {ns:List Int}:∀ {us:List Value},Vals (ns.map V.int) us->IntsAre us ns:=by
 induction ns with
 | nil=>intro us r; rw [List.map_nil] at r; cases r; exact .nil
 | cons n ns ih =>
  intro us r
  rw [List.map_cons] at r
  cases r with
  | cons r1 r2 =>
   obtain ⟨t,e⟩:=r1
   subst e
   exact .cons n t (ih r2)
section
variable {X:Cx} {e:Expr} {te:TE} {lo hi:Option Expr} {tl th:TO} {pos p2:Pos}
theorem cK:PO X none uA:=by
 intro pins s σ H Q I h
 rw [evalPart_none]
 exact wpAny_pure ⟨none,H,I,.none,h⟩
theorem cz (h:PE X e te):PO X (some e) (xZ te):=by
 intro pins s σ H Q I hw
 rw [evalPart_some]
 refine thn (h pins s σ H _ I hw) fun u s1 ⟨x,H1,I1,r1,q1⟩ => ?_
 obtain ⟨i,rfl,q⟩:=q1
 obtain ⟨t,rfl⟩:=r1
 exact ⟨some i,H1,I1,.int i t,q⟩
def SlR (X:Cx) (r:V->Option Int->Option Int->Hp->VK->Prop):Prop :=
 ∀ (pins:List (Addr × Obj)) (s:Shared) (σ:St) (H:Hp) (x:V) (v vl vu:Value) (lo hi:Option Int) (sl:Addr) (Q:VK),Inv X pins σ H s->RelV x v->s.heap.IsSliceOf sl vl vu .none->IsPart vl lo->IsPart vu hi->r x lo hi H Q →
  ∃ T id,typeLookup (.type T) "__getitem__" = pure (some (.builtin id))/\s.TypeIs v T/\wpAny (model X.prog X.w) X.A (getItem v (.ref sl)) (EP X pins σ Q) X.xe s
def tSl (r:V->Option Int->Option Int->Hp->VK->Prop) (te:TE) (tl th:TO):TE:=fun σ H Q=>te σ H fun x H1=>tl σ H1 fun l H2=>th σ H2 fun u H3=>r x l u H3 Q
theorem cb {r:V->Option Int->Option Int->Hp->VK->Prop} (hr:SlR X r) (he:PE X e te) (hl:PO X lo tl) (hu:PO X hi th):PE X (.Subscript e (.Slice lo hi none p2) pos) (tSl r te tl th):=by
 intro pins s σ H Q I h
 refine Subscript_ (thn (he pins s σ H _ I h) fun v s1 ⟨x,H1,I1,r1,q1⟩ => ?_)
 refine wpAny_Slice (thn (hl pins s1 σ H1 _ I1 q1) fun vl s2 ⟨l,H2,I2,pl,q2⟩=>thn (hu pins s2 σ H2 _ I2 q2) fun vu s3 ⟨u,H3,I3,pu,q3⟩ => ?_)
 rw [evalPart_none]
 refine wpAny_pure ?_
 have I4:Inv X pins σ H3 { s3 with heap:=s3.heap.push { cls := .type "slice",data := .fields #[vl,vu,.none] } }:=I3.kept (t':=s3.toks) fun b ob q=>Heap.get?_push_of_some _ q
 obtain ⟨T,id,hT,ht,hg⟩:=hr pins { s3 with heap:=s3.heap.push { cls := .type "slice",data := .fields #[vl,vu,.none] } } σ H3 x v vl vu l u s3.heap.objs.size Q I4 r1 (Heap.IsSliceOf.new ..) pl pu q3
 show wpAny (model X.prog X.w) X.A (subscriptTail e (.Slice lo hi none p2) v (.ref s3.heap.objs.size)) (EP X pins σ Q) X.xe { s3 with heap:=s3.heap.push { cls := .type "slice",data := .fields #[vl,vu,.none] } }
 exact tail_any (ops:=[.ref s3.heap.objs.size,v]) ht hT hg (by with_unfolding_all rfl)
def eG (xs:List V) (lo hi:Option Int):List V:=(xs.drop (HT.sIx xs.length 0 lo)).take (HT.sIx xs.length xs.length hi - HT.sIx xs.length 0 lo)
theorem h7 (xs:List V) (lo hi:Option Int):(eG xs lo hi).length<=xs.length:=by
 unfold eG
 rw [List.length_take,List.length_drop]
 omega
def rSlT (K:PySem.W.Frag):V->Option Int->Option Int->Hp->VK->Prop:=fun x lo hi H Q=>∃ a xs,x = .ref a/\SqT K H a xs ∧
 ¬ (HT.sIx xs.length 0 lo=0/\HT.sIx xs.length xs.length hi=xs.length)/\∀ p,H p=none->Q (.ref p) (upd H p (.tup (eG xs lo hi)))
theorem wC:SlR X (rSlT X.K):=by
 intro pins s σ H x v vl vu lo hi sl Q I rx hs pl pu h
 obtain ⟨a,xs,rfl,hx,hw,q⟩:=h
 cases rx
 obtain ⟨its,r,ht,hz⟩:=I.tuple hx
 have hlen:its.toArray.size=xs.length:=by rw [List.size_toArray]; exact r.length.symm
 refine ⟨"tuple",_,PyProof.Rows.slot_tuple_getitem.lookup,ht.typeIs,?_⟩
 refine HT.fX ht hs pl pu (by rw [hlen]; exact hw) ?_ (by rw [hlen]; exact hz)
 rw [hlen]
 refine ⟨.ref s.heap.objs.size,_,I.laid (t':=s.toks) (o := .tup (eG xs lo hi)) (fun b ob q=>Heap.get?_push_of_some _ q) (Nat.le_refl _) ?_,rfl,q _ (I.hok.fresh (Nat.le_refl _))⟩
 exact ⟨Nat.le_trans (h7 xs lo hi) hz,_,(r.drop (HT.sIx xs.length 0 lo)).take (HT.sIx xs.length xs.length hi - HT.sIx xs.length 0 lo),dB.new _ _⟩
def x5 (K:PySem.W.Frag):R2:=fun x y H Q=>∃ a b xs ys,x = .ref a/\y = .ref b/\SqT K H a xs/\SqT K H b ys/\xs ≠ []/\xs.length + ys.length<=sizeLine ∧
 (ys=[]->Q (.ref a) H)/\(ys ≠ []->∀ p,H p=none->Q (.ref p) (upd H p (.tup (xs ++ ys))))
theorem Vals.ik {xs:List V} {us:List Value} (r:Vals xs us):us=[] ↔ xs=[]:=by
 cases r with
 | nil=>simp
 | cons _ _=>simp
theorem uB:OpR X (binaryOp .Add) (x5 X.K):=by
 intro pins s σ H x y v u Q I rx ry h
 obtain ⟨a,b,xs,ys,rfl,rfl,ha,hb,hx,hz,q1,q2⟩:=h
 cases rx
 cases ry
 obtain ⟨its,r1,p1,_⟩:=I.tuple ha
 obtain ⟨its2,r2,p2,_⟩:=I.tuple hb
 refine HT.uz p1 p2 (fun z=>hx (r1.ik.mp z)) (fun z=>⟨.ref a,H,I,rfl,q1 (r2.ik.mp z)⟩) (fun z => ?_) (by rw [<- r1.length, <- r2.length]; exact hz)
 refine ⟨.ref s.heap.objs.size,_,I.laid (t':=s.toks) (o := .tup (xs ++ ys)) (fun b ob q=>Heap.get?_push_of_some _ q) (Nat.le_refl _) ?_,rfl,q2 (fun w=>z (r2.ik.mpr w)) _ (I.hok.fresh (Nat.le_refl _))⟩
 exact ⟨by rw [List.length_append]; exact hz,_,r1.append r2,dB.new _ _⟩
end
open PySem PySem.Spec PyProof.Rows
def ixN (n:Nat) (i:Int):Option Nat:=if 0<=i then (if i < n then some i.toNat else none) else if -(n:Int)<=i then some (i + n).toNat else none
def atI {α : Type} (xs:List α) (i:Int):Option α := (ixN xs.length i).bind fun j=>xs[j]?
theorem uC {n:Nat} {i:Int} {j:Nat} (h:ixN n i=some j):seqIndex? i n=some j/\j < n /\ -(n:Int)<=i/\i < n:=by
 unfold ixN at h
 by_cases h0:0<=i
 ·rw [if_pos h0] at h
  by_cases h1:i < n
  ·rw [if_pos h1] at h
   have e:i.toNat=j:=Option.some.inj h
   exact ⟨by rw [seqIndex_of h0 h1,e],by omega,by omega,h1⟩
  ·rw [if_neg h1] at h; cases h
 ·rw [if_neg h0] at h
  by_cases h1 : -(n:Int)<=i
  ·rw [if_pos h1] at h
   have e:(i + n).toNat=j:=Option.some.inj h
   exact ⟨by rw [seqIndex_neg (by omega) h1,e],by omega,h1,by omega⟩
  ·rw [if_neg h1] at h; cases h
theorem px {α : Type} {xs:List α} {i:Int} {v : α} (h:atI xs i=some v):∃ j,seqIndex? i xs.length=some j/\xs[j]? = some v/\j < xs.length /\ -(xs.length:Int)<=i/\i < xs.length:=by
 unfold atI at h
 cases e:ixN xs.length i with
 | none=>rw [e] at h; cases h
 | some j =>
  rw [e] at h
  obtain ⟨h1,h2,h3,h4⟩:=uC e
  exact ⟨j,h1,h,h2,h3,h4⟩
theorem cM {α : Type} {xs:List α} {j:Nat} {v : α} (h:xs[j]? = some v):atI xs (j:Int)=some v:=by
 have hj:j < xs.length:=(List.getElem?_eq_some_iff.mp h).1
 have e:ixN xs.length (j:Int)=some j:=by
  unfold ixN
  rw [if_pos (by omega),if_pos (by omega)]; simp
 unfold atI; rw [e]; exact h
def uD (b:Expr):Prop:=∀ o i,subscripted b false o i=operate [o,i] (getItem o i)
def IxR (X:Cx) (r:R2):Prop :=
 ∀ (value slice:Expr) (pins:List (Addr × Obj)) (s:Shared) (σ:St) (H:Hp) (x y:V) (v u:Value) (Q:VK),Inv X pins σ H s->RelV x v->RelV y u->r x y H Q →
  subscripted slice false v u=operate [v,u] (getItem v u)->wpAny (model X.prog X.w) X.A (subscriptTail value slice v u) (EP X pins σ Q) X.xe s
def MtR (X:Cx) (id:String) (r:V->List V->Hp->VK->Prop):Prop :=
 ∀ (pins:List (Addr × Obj)) (s:Shared) (σ:St) (H:Hp) (x:V) (xs:List V) (v:Value) (us:List Value) (Q:VK),Inv X pins σ H s->RelV x v->Vals xs us->r x xs H Q →
  wpAny (model X.prog X.w) X.A (call (.builtin id) (v :: us)) (EP X pins σ Q) X.xe s
section
variable {X:Cx} {a b:Expr} {ta tb:TE} {pos:Pos}
theorem aQ {r:R2} (hr:IxR X r) (ha:PE X a ta) (hb:PE X b tb) (hs:uD b):PE X (.Subscript a b pos) (tOp r ta tb):=by
 intro pins s σ H Q I h
 exact Subscript_ (wj ha hb I h fun v u s2 x y H2 I2 rx ry q=>hr a b pins s2 σ H2 x y v u Q I2 rx ry q (hs _ _))
def x6 (K:PySem.W.Frag):R2:=fun x y H Q=>∃ p xs i v,x = .ref p/\y = .int i/\SqL K H p xs/\atI xs i=some v/\Q v H
def x8 (K:PySem.W.Frag):R2:=fun x y H Q=>∃ p xs i v,x = .ref p/\y = .int i/\SqT K H p xs/\atI xs i=some v/\Q v H
theorem cj:IxR X (x6 X.K):=by
 intro value slice pins s σ H x y v u Q I rx ry h hs
 obtain ⟨p,xs,i,z,rfl,rfl,hq,he,q⟩:=h
 cases rx
 obtain ⟨t,rfl⟩:=ry
 obtain ⟨its,r,pl,hz⟩:=I.list hq
 obtain ⟨j,h1,h2,h3,h4,h5⟩:=px he
 obtain ⟨w,ew,rw'⟩:=r.get h2
 have hl:=r.length
 have hn:=lb
 have fin:EP X pins σ Q w s:=⟨z,H,I,rw',q⟩
 by_cases h0:0<=i
 ·have hj:i.toNat=j:=by
   rw [seqIndex_of h0 h5] at h1
   exact Option.some.inj h1
  exact item_listR pl.isList h0 (by omega) (by rw [hj]; simpa using ew) fin hs
 ·have hj:(i + (its.toArray.size:Int)).toNat=j:=by
   rw [seqIndex_neg (by omega) h4] at h1
   rw [List.size_toArray, <- hl]
   exact Option.some.inj h1
  exact subscriptTail_builtinR (x:=w) pl.isList.typeIs slot_list_getitem.lookup
   (wpAny_getItem_list_neg (Q:=fun r s'=>r=w/\EP X pins σ Q r s') pl.isList (by omega) (by rw [List.size_toArray] <;> omega) (by omega) (by rw [hj]; simpa using ew) ⟨rfl,fin⟩) hs
theorem aV:IxR X (x8 X.K):=by
 intro value slice pins s σ H x y v u Q I rx ry h hs
 obtain ⟨p,xs,i,z,rfl,rfl,hq,he,q⟩:=h
 cases rx
 obtain ⟨t,rfl⟩:=ry
 obtain ⟨its,r,pl,hz⟩:=I.tuple hq
 obtain ⟨j,h1,h2,h3,h4,h5⟩:=px he
 obtain ⟨w,ew,rw'⟩:=r.get h2
 have hl:=r.length
 have hn:=lb
 have fin:EP X pins σ Q w s:=⟨z,H,I,rw',q⟩
 exact subscriptTail_builtinR (x:=w) pl.typeIs slot_tuple_getitem.lookup
  (getItem_tuple (j:=j) (Q:=fun r s'=>r=w/\EP X pins σ Q r s') pl (by omega) (by omega) (by rw [List.size_toArray, <- hl]; exact h1) (by simpa using ew) ⟨rfl,fin⟩) hs
theorem lh (lo hi:Option Int) (n:Nat):(sliceBounds lo hi none n).1=((HT.sIx n 0 lo:Nat):Int)/\(sliceBounds lo hi none n).2.1=((HT.sIx n n hi:Nat):Int)/\(sliceBounds lo hi none n).2.2=1:=by
 refine ⟨?_,?_,rfl⟩
 ·cases lo with
  | none=>simp [sliceBounds,HT.sIx]
  | some i =>
   simp only [sliceBounds,HT.sIx,Option.getD_none,show (1:Int) > 0 by decide,if_true]
   by_cases h:i < 0
   ·simp only [h,if_true] <;> omega
   ·simp only [h,if_false] <;> omega
 ·cases hi with
  | none=>simp [sliceBounds,HT.sIx]
  | some i =>
   simp only [sliceBounds,HT.sIx,Option.getD_none,show (1:Int) > 0 by decide,if_true]
   by_cases h:i < 0
   ·simp only [h,if_true] <;> omega
   ·simp only [h,if_false] <;> omega
theorem jB (its:List Value) (lo hi:Option Int):slicePick its.toArray lo hi none=((its.drop (HT.sIx its.length 0 lo)).take (HT.sIx its.length its.length hi - HT.sIx its.length 0 lo)).toArray:=by
 obtain ⟨h1,h2,h3⟩:=lh lo hi its.toArray.size
 unfold slicePick
 rw [h1,h2,h3]
 simp only [sliceRange_one,pick_run,List.size_toArray] <;> rfl
def rSlL (K:PySem.W.Frag):V->Option Int->Option Int->Hp->VK->Prop:=fun x lo hi H Q=>∃ a xs,x = .ref a/\SqL K H a xs/\∀ p,H p=none->Q (.ref p) (upd H p (.lst (eG xs lo hi)))
theorem pz:SlR X (rSlL X.K):=by
 intro pins s σ H x v vl vu lo hi sl Q I rx hs pl pu h
 obtain ⟨a,xs,rfl,hx,q⟩:=h
 cases rx
 obtain ⟨its,r,ht,hz⟩:=I.list hx
 have hlen:=r.length
 refine ⟨"list",_,slot_list_getitem.lookup,ht.isList.typeIs,?_⟩
 refine wpAny_getItem_list_slice ht.isList hs pl pu .none (by simp) ?_ (by rw [List.size_toArray] <;> omega)
 rw [jB, <- hlen]
 refine ⟨.ref s.heap.objs.size,_,I.laid (t':=s.toks) (o := .lst (eG xs lo hi)) (fun b ob q=>Heap.get?_push_of_some _ q) (Nat.le_refl _) ?_,rfl,q _ (I.hok.fresh (Nat.le_refl _))⟩
 exact ⟨Nat.le_trans (h7 xs lo hi) hz,_,0,(r.drop (HT.sIx xs.length 0 lo)).take (HT.sIx xs.length xs.length hi - HT.sIx xs.length 0 lo),Heap.get?_push_size _ rfl⟩
def fY:V->Bool
 | .non=>true
 | .bl _=>true
 | .int _=>true
 | .str _=>true
 | _=>false
def eqV:V->V->Bool
 | .non,.non=>true
 | .bl a,.bl b=>a == b
 | .bl a,.int b=>(if a then 1 else 0) == b
 | .int a,.bl b=>a == (if b then 1 else 0)
 | .int a,.int b=>a == b
 | .str a,.str b=>a == b
 | _,_=>false
theorem wD {A:Around} {s:Shared} {y x:V} {u v:Value} (ry:RelV y u) (rx:RelV x v) (fy:fY y=true) (fx:fY x=true):SeqAt.EqAt A s u v (eqV y x):=by
 cases y with
 | non =>
  cases ry
  cases x with
  | non=>cases rx; exact SeqAt.EqAt.same _
  | bl b=>cases rx; exact SeqAt.EqAt.none_bool b
  | int b=>obtain ⟨t,rfl⟩:=rx; exact SeqAt.EqAt.none_int b t
  | str b=>obtain ⟨t,rfl⟩:=rx; exact SeqAt.EqAt.none_str b t
  | _=>exact absurd (show false=true from fx) Bool.false_ne_true
 | bl a =>
  cases ry
  cases x with
  | non=>cases rx; exact SeqAt.EqAt.bool_none a
  | bl b=>cases rx; exact SeqAt.EqAt.bool_bool a b
  | int b=>obtain ⟨t,rfl⟩:=rx; exact SeqAt.EqAt.bool_int a b t
  | str b=>obtain ⟨t,rfl⟩:=rx; exact SeqAt.EqAt.bool_str a b t
  | _=>exact absurd (show false=true from fx) Bool.false_ne_true
 | int a =>
  obtain ⟨t',rfl⟩:=ry
  cases x with
  | non=>cases rx; exact SeqAt.EqAt.int_none a t'
  | bl b=>cases rx; exact SeqAt.EqAt.int_bool a t' b
  | int b=>obtain ⟨t,rfl⟩:=rx; exact SeqAt.EqAt.int_int a t' b t
  | str b=>obtain ⟨t,rfl⟩:=rx; exact SeqAt.EqAt.int_str a t' b t
  | _=>exact absurd (show false=true from fx) Bool.false_ne_true
 | str a =>
  obtain ⟨t',rfl⟩:=ry
  cases x with
  | non=>cases rx; exact SeqAt.EqAt.str_none a t'
  | bl b=>cases rx; exact SeqAt.EqAt.str_bool a t' b
  | int b=>obtain ⟨t,rfl⟩:=rx; exact SeqAt.EqAt.str_int a t' b t
  | str b=>obtain ⟨t,rfl⟩:=rx; exact SeqAt.EqAt.str_str a t' b t
  | _=>exact absurd (show false=true from fx) Bool.false_ne_true
 | _=>exact absurd (show false=true from fy) Bool.false_ne_true
def eqU (x:V) (u:Value):Bool:=match u with
 | .none=>eqV .non x
 | .bool b=>eqV (.bl b) x
 | .int i _=>eqV (.int i) x
 | .str z _=>eqV (.str z) x
 | _=>false
theorem r9 {x y:V} {u:Value} (r:RelV y u) (f:fY y=true):eqU x u=eqV y x:=by
 cases y with
 | non=>cases r; rfl
 | bl b=>cases r; rfl
 | int i=>obtain ⟨t,rfl⟩:=r; rfl
 | str z=>obtain ⟨t,rfl⟩:=r; rfl
 | _=>exact absurd (show false=true from f) Bool.false_ne_true
theorem lj {x:V}:∀ {xs:List V} {us:List Value},Vals xs us->xs.all fY=true->us.any (eqU x)=xs.any fun y=>eqV y x
 | _,_,.nil,_=>rfl
 | y :: xs,u :: us,.cons r t,f=>by
  rw [List.all_cons,Bool.and_eq_true] at f
  rw [List.any_cons,List.any_cons,r9 r f.1,lj t f.2]
theorem iE {A:Around} {s:Shared} {x:V} {v:Value} (rx:RelV x v) (fx:fY x=true):∀ {xs:List V} {us:List Value},Vals xs us->xs.all fY=true->∀ u ∈ us,SeqAt.EqAt A s u v (eqU x u)
 | _,_,.nil,_=>fun u hu=>by cases hu
 | y :: xs,u :: us,.cons r t,f=>fun u' hu=>by
  rw [List.all_cons,Bool.and_eq_true] at f
  rcases List.mem_cons.mp hu with rfl | hu
  ·rw [r9 r f.1]; exact wD r rx f.1 fx
  ·exact iE rx fx t f.2 u' hu
def inV (x:V) (xs:List V):Bool:=xs.any fun y=>eqV y x
def rIn (K:PySem.W.Frag) (neg:Bool):R2:=fun x y H Q=>∃ p xs,y = .ref p/\(SqL K H p xs\/SqT K H p xs)/\fY x=true/\xs.all fY=true/\Q (.bl (if neg then !inV x xs else inV x xs)) H
theorem qy:OpR X (compareOp .In) (rIn X.K false):=by
 intro pins s σ H x y v u Q I rx ry h
 obtain ⟨p,xs,rfl,hq,fx,fs,q⟩:=h
 cases ry
 rcases hq with hq | hq
 ·obtain ⟨its,r,pl,hz⟩:=I.list hq
  refine SeqAt.in_listAt (eqU x) pl.isList (fun w hw=>iE rx fx r fs w (by simpa using hw)) ⟨.bl _,H,I,rfl,?_⟩
  rw [show its.toArray.any (eqU x)=its.any (eqU x) by simp,lj r fs]
  exact q
 ·obtain ⟨its,r,pl,hz⟩:=I.tuple hq
  refine SeqAt.in_tupleAt (eqU x) pl (fun w hw=>iE rx fx r fs w (by simpa using hw)) ⟨.bl _,H,I,rfl,?_⟩
  rw [show its.toArray.any (eqU x)=its.any (eqU x) by simp,lj r fs]
  exact q
theorem aX:bJ X (.builtin "len") (fun xs H Q=>∃ p ys,xs=[.ref p]/\(SqL X.K H p ys\/SqT X.K H p ys)/\Q (.int ys.length) H):=by
 intro pins s σ H xs us Q I r h
 obtain ⟨p,ys,rfl,hq,q⟩:=h
 obtain ⟨u,rfl,rx⟩:=vals1 r
 cases rx
 have hn:=lb
 rcases hq with hq | hq
 ·obtain ⟨its,r',pl,hz⟩:=I.list hq
  have hlen:=r'.length
  exact Calls.call_len_list pl.isList (by simp only [List.size_toArray] <;> omega) ⟨.int ys.length,H,I.tok _,⟨s.toks + 1,by rw [List.size_toArray,hlen]⟩,q⟩
 ·obtain ⟨its,r',pl,hz⟩:=I.tuple hq
  have hlen:=r'.length
  exact len_tuple pl (by simp only [List.size_toArray] <;> omega) ⟨.int ys.length,H,I.tok _,⟨s.toks + 1,by rw [List.size_toArray,hlen]⟩,q⟩
theorem fZ:bJ X (.type "list") (fun xs H Q=>∃ p ys,xs=[.ref p]/\(SqL X.K H p ys\/SqT X.K H p ys)/\∀ l,H l=none->Q (.ref l) (upd H l (.lst ys))):=by
 intro pins s σ H xs us Q I r h
 obtain ⟨p,ys,rfl,hq,q⟩:=h
 obtain ⟨u,rfl,rx⟩:=vals1 r
 cases rx
 have fin:∀ (its:List Value),Vals ys its->ys.length<=sizeLine->∀ (h':Heap) (c':Nat),(∀ b o',s.heap.get? b=some o'->h'.get? b=some o') →
   h'.get? s.heap.objs.size=some { cls := .type "list",dict:=none,data := .seq its.toArray c',slots := #[] }->EP X pins σ Q (.ref s.heap.objs.size) { s with heap:=h' }:=fun its r' hz h' c' kp e =>
  ⟨.ref s.heap.objs.size,_,I.laid (t':=s.toks) kp (Nat.le_refl _) (show bB X.prog X.w _ h' _ (.lst ys) from ⟨hz,its,c',r',e⟩),rfl,q _ (I.hok.fresh (Nat.le_refl _))⟩
 rcases hq with hq | hq
 ·obtain ⟨its,r',pl,hz⟩:=I.list hq
  have hlen:=r'.length
  obtain ⟨o,ho,hc,n,hd⟩:=pl.isList
  exact call_list_seq p (.inl rfl) ho hc hd (fun h' c' kp e=>fin its r' hz h' c' kp e) (by simp only [List.size_toArray] <;> omega)
 ·obtain ⟨its,r',pl,hz⟩:=I.tuple hq
  have hlen:=r'.length
  obtain ⟨o,ho,hc,n,hd⟩:=pl
  exact call_list_seq p (.inr rfl) ho hc hd (fun h' c' kp e=>fin its r' hz h' c' kp e) (by simp only [List.size_toArray] <;> omega)
theorem bC:bJ X (.type "tuple") (fun xs H Q=>∃ p ys,xs=[.ref p]/\((SqL X.K H p ys/\∀ l,H l=none->Q (.ref l) (upd H l (.tup ys)))\/(SqT X.K H p ys/\Q (.ref p) H))):=by
 intro pins s σ H xs us Q I r h
 obtain ⟨p,ys,rfl,h⟩:=h
 obtain ⟨u,rfl,rx⟩:=vals1 r
 cases rx
 rcases h with ⟨hq,q⟩ | ⟨hq,q⟩
 ·obtain ⟨its,r',pl,hz⟩:=I.list hq
  have hlen:=r'.length
  refine call_tuple_list pl.isList (fun h' kp => ?_) (by simp only [List.size_toArray] <;> omega)
  have I1:Inv X pins σ H { s with heap:=h' }:=I.kept (t':=s.toks) kp
  have I2:Inv X pins σ (upd H h'.objs.size (.tup ys)) { s with heap:=h'.push { cls := .type "tuple",data := .seq its.toArray } } :=
   I1.laid (t':=s.toks) (fun b o e=>Heap.get?_push_of_some _ e) (Nat.le_refl _) (show bB X.prog X.w _ _ _ (.tup ys) from ⟨hz,its,r',dB.new _ _⟩)
  exact ⟨.ref h'.objs.size,_,I2,rfl,q _ (I1.hok.fresh (Nat.le_refl _))⟩
 ·obtain ⟨its,r',pl,hz⟩:=I.tuple hq
  exact call_tuple_same pl ⟨.ref p,H,I,rfl,q⟩
def tyV (K:PySem.W.Frag) (T:String) (x:V) (H:Hp):Prop:=match x with
 | .str _=>T = "str"
 | .int _=>T = "int"
 | .ref p=>(T = "list" /\ ∃ xs,SqL K H p xs)\/(T = "tuple" /\ ∃ o,K.lookup p=some o/\o.cls = .type "tuple" /\ o.dict=none) ∨
   (T = "dict" /\ ((∃ kvs,H p=some (.dK kvs))\/∃ kvs,H p=some (.dT kvs)))\/(T = "set" /\ ∃ S n,H p=some (.set S n))
 | _=>False
theorem wF {pins:List (Addr × Obj)} {σ:St} {H:Hp} {s:Shared} {T:String} {x:V} {v:Value} (I:Inv X pins σ H s) (r:RelV x v) (ty:tyV X.K T x H) :
  s.TypeIs v T/\∀ a,v = .ref a->∃ ob,s.heap.get? a=some ob/\ob.dict=none:=by
 cases x with
 | str z =>
  obtain ⟨t,rfl⟩:=r
  cases (show T = "str" from ty)
  exact ⟨typeIs_str s z t,fun _ e=>nomatch e⟩
 | int i =>
  obtain ⟨t,rfl⟩:=r
  cases (show T = "int" from ty)
  exact ⟨typeIs_int s i t,fun _ e=>nomatch e⟩
 | ref p =>
  cases r
  rcases ty with ⟨rfl,xs,hq⟩ | ⟨rfl,o,hk,hc,hd⟩ | ⟨rfl,hk⟩ | ⟨rfl,S,n,hk⟩
  ·obtain ⟨its,_,pl,_⟩:=I.list hq
   refine ⟨pl.isList.typeIs,fun a e => ?_⟩
   cases e
   obtain ⟨o,n,e,c,hd,_⟩:=pl
   exact ⟨o,e,hd⟩
  ·refine ⟨⟨o,I.kIn p o hk,hc⟩,fun a e => ?_⟩
   cases e
   exact ⟨o,I.kIn _ o hk,hd⟩
  ·have z:∃ o,s.heap.get? p=some o/\o.ExactDict:=by
    rcases hk with ⟨kvs,hk⟩ | ⟨kvs,hk⟩
    ·obtain ⟨_,_,_,_,o,_,_,e,ex,_⟩:=I.hok p _ hk
     exact ⟨o,e,ex⟩
    ·obtain ⟨_,_,_,_,o,_,_,e,ex,_⟩:=I.hok p _ hk
     exact ⟨o,e,ex⟩
   obtain ⟨o,e,ex⟩:=z
   refine ⟨⟨o,e,ex.1⟩,fun a e2 => ?_⟩
   cases e2
   exact ⟨o,e,ex.2.1⟩
  ·obtain ⟨o,_,_,_,e,ex,_⟩:=I.hok p _ hk
   refine ⟨⟨o,e,ex.1⟩,fun a e2 => ?_⟩
   cases e2
   exact ⟨o,e,ex.2.1⟩
 | _=>exact False.elim ty
def tBM (K:PySem.W.Frag) (T:String) (r:V->List V->Hp->VK->Prop) (to:TE) (t:TA):TE:=fun σ H Q=>to σ H fun x H1=>tyV K T x H1/\t σ H1 fun xs H2=>r x xs H2 Q
variable {o e:Expr} {es:List Expr} {to:TE} {t:TA} {name:Str} {apos cpos:Pos} {T id:String} {r:V->List V->Hp->VK->Prop}
theorem cW (pa:PlainAttrs T) (slot:Slot T name id) (hty:typeOf (.builtin id)=pure (.type "method_descriptor")) (hm:MtR X id r) (ho:PE X o to) (ha:PA X (e :: es) t)
  (hbase:attributeBase o name X.env (eval o X.env)=eval o X.env:=by rfl)
  (hfew:((backTo cpos (starEach (e :: es) X.env)).all (fun x => !x.1) && (backToKw cpos (keywordEach [] X.env)).all (fun x=>x.1.isSome)
   && decide ((e :: es).length + ([]:List Keyword).length + (if ([]:List Keyword).isEmpty then 0 else 1) < 30))=true:=by rfl)
  (hline:(apos.endLine == cpos.line)=true:=by rfl) (hs:starEach (e :: es) X.env=(false,eval e X.env) :: starEach es X.env:=by rfl) (hplain:(backTo cpos (starEach es X.env)).any (·.1)=false:=by rfl) :
  PE X (.Call (.Attribute o name apos) (e :: es) [] cpos) (tBM X.K T r to t):=by
 intro pins s σ H Q I h
 refine wpAny_Call_method_late hbase hfew hline rfl (thn (ho pins s σ H _ I h) fun v s1 ⟨x,H1,I1,r1,ty,q1⟩ => ?_)
 obtain ⟨h1,h2⟩:=wF I1 r1 ty
 refine ⟨T,id,pa,slot,hty,h1,h2,?_⟩
 have hA:=ha cpos pins s1 σ H1 _ I1 q1
 rw [hs] at hA ⊢
 refine Calls.callWith_builtin (by show (false || (backTo cpos (starEach es X.env)).any (·.1))=false; rw [hplain] <;> rfl) (Calls.evalArgs_plain ?_)
 exact thn hA fun us s2 ⟨vs,H2,I2,r2,q2⟩=>hm pins s2 σ H2 x vs v us Q I2 r1 r2 q2
end
open PySem PySem.Spec PyProof.Rows
def MtM (X:Cx) (id:String) (r:V->List V->Hp->VK->Prop):Prop :=
 ∀ (pins:List (Addr × Obj)) (s:Shared) (σ:St) (H:Hp) (x:V) (xs:List V) (v:Value) (us:List Value) (Q:VK),Inv X pins σ H s->RelV x v->Vals xs us->r x xs H Q →
  wpAny (model X.prog X.w) X.A (call (.builtin id) (v :: us)) (EP X pins σ Q) X.xe s
theorem Vals.one:∀ {x:V} {us:List Value},Vals [x] us->∃ u,us=[u]/\RelV x u
 | _,_,.cons r .nil=>⟨_,rfl,r⟩
theorem Vals.eraseIdx:∀ {xs:List V} {us:List Value} (i:Nat),Vals xs us->Vals (xs.eraseIdx i) (us.eraseIdx i)
 | _,_,_,.nil => .nil
 | _,_,0,.cons _ t=>t
 | _,_,i + 1,.cons r t => .cons r (Vals.eraseIdx i t)
theorem Vals.rep {xs:List V} {us:List Value} (h:Vals xs us):∀ k:Nat,Vals (List.replicate k xs).flatten (List.replicate k us).flatten
 | 0 => .nil
 | k + 1=>by
  rw [List.replicate_succ,List.replicate_succ,List.flatten_cons,List.flatten_cons]
  exact Vals.append h (Vals.rep h k)
theorem jT {α : Type}:∀ (l:List α) (i:Nat),(l.eraseIdx i).length<=l.length
 | [],_=>Nat.le_refl _
 | _ :: _,0=>Nat.le_succ _
 | _ :: r,i + 1=>Nat.succ_le_succ (jT r i)
theorem foldl_rep (its:List Value):∀ (k:Nat) (acc:List Value),
  List.foldl (fun x1 x2=>x1 ++ x2) acc.toArray (List.replicate k its.toArray)=(acc ++ (List.replicate k its).flatten).toArray
 | 0,acc=>by simp
 | k + 1,acc=>by
  have e:acc.toArray ++ its.toArray=(acc ++ its).toArray:=by simp
  have e2:(acc ++ its) ++ (List.replicate k its).flatten=acc ++ (List.replicate (k + 1) its).flatten:=by
   rw [List.replicate_succ,List.flatten_cons,List.append_assoc]
  rw [<- e2, <- foldl_rep its k (acc ++ its), <- e,List.replicate_succ,List.foldl_cons]
section
variable {X:Cx} {pins:List (Addr × Obj)} {σ:St} {H:Hp} {s:Shared} {l b:Addr} {xs ys zs:List V}
theorem Inv.wG {its its':List Value} {n:Nat} {f:Array Value->Array Value} {t':Nat} (I:Inv X pins σ H s) (hH:H l=some (.lst xs))
  (e:s.heap.get? l=some { cls := .type "list",data := .seq its.toArray n }) (hf:f its.toArray=its'.toArray) (hv:Vals ys its') (hz:ys.length<=sizeLine) :
  Inv X pins σ (upd H l (.lst ys)) { s with heap:=s.heap.update l (Obj.mapSeq f),toks:=t' }:=by
 have q:=PySem.IsL.update e f
 rw [hf] at q
 refine I.write (x:=l) (e:=l) (by rw [hH]; exact trivial) (.inl rfl) (fun b' u hb hu=>(Heap.get?_update_other s.heap (Obj.mapSeq f) (Ne.symm hb)).trans hu) ⟨_,q⟩ ?_
 exact ⟨hz,its',_,hv,q⟩
theorem Inv.x9 {its:List Value} {t':Nat} (I:Inv X pins σ H s) (hv:Vals ys its) (hz:ys.length<=sizeLine) :
  Inv X pins σ (upd H s.heap.objs.size (.lst ys)) { s with heap:=s.heap.push { cls := .type "list",data := .seq its.toArray },toks:=t' } :=
 I.laid (fun _ _ q=>Heap.get?_push_of_some _ q) (Nat.le_refl _) ⟨hz,its,0,hv,Heap.get?_push_size _ rfl⟩
theorem Inv.fresh (I:Inv X pins σ H s):H s.heap.objs.size=none:=I.hok.fresh (Nat.le_refl _)
theorem Inv.sd (I:Inv X pins σ H s) (hH:H l=some (.lst xs)):xs.length<=sizeLine/\∃ (its:List Value) (n:Nat),Vals xs its/\xs.length=its.length/\s.heap.get? l=some { cls := .type "list",data := .seq its.toArray n }:=by
 obtain ⟨z,its,n,r,e⟩:=I.hok l _ hH
 exact ⟨z,its,n,r,r.length,e⟩
theorem iF {n:Nat} (h:n<=sizeLine):Builtin.List.listTooLong n=false:=by
 unfold Builtin.List.listTooLong
 exact decide_eq_false (by omega)
end
section
variable {X:Cx}
def uE:V->List V->Hp->VK->Prop:=fun x vs H Q=>∃ l xs y,x = .ref l/\vs=[y]/\H l=some (.lst xs)/\xs.length < sizeLine/\Q .non (upd H l (.lst (xs ++ [y])))
theorem bK:MtM X "list.append" uE:=by
 intro pins s σ H x vs v us Q I rx rv h
 obtain ⟨l,xs,y,rfl,rfl,hH,hz,q⟩:=h
 cases rx
 obtain ⟨u,rfl,ru⟩:=rv.one
 obtain ⟨z,its,n,r,hl,e⟩:=I.sd hH
 refine call_meets F.slot_list_append ⟨_,e,rfl⟩ F.entry_list_append (F.args_list_append_2 _ _) (PySem.list_append l its.toArray n u (by rw [List.size_toArray]; omega)) ⟨e,?_⟩
 refine ⟨.non,_,I.wG (its':=its ++ [u]) hH e (by simp) (r.append (.cons ru .nil)) ?_,rfl,q⟩
 rw [List.length_append,List.length_singleton]
 omega
def uF:V->List V->Hp->VK->Prop:=fun x vs H Q=>∃ l b xs zs,x = .ref l/\vs=[.ref b]/\H l=some (.lst xs)/\H b=some (.lst zs)/\xs.length + zs.length<=sizeLine/\Q .non (upd H l (.lst (xs ++ zs)))
theorem jU:MtM X "list.extend" uF:=by
 intro pins s σ H x vs v us Q I rx rv h
 obtain ⟨l,b,xs,zs,rfl,rfl,hH,hB,hz,q⟩:=h
 cases rx
 obtain ⟨u,rfl,ru⟩:=rv.one
 cases ru
 obtain ⟨z,its,n,r,hl,e⟩:=I.sd hH
 obtain ⟨z2,its2,n2,r2,hl2,e2⟩:=I.sd hB
 have hsz:its.toArray.size + its2.toArray.size<=sizeLine:=by rw [List.size_toArray,List.size_toArray]; omega
 have hlong:¬ (!its.toArray.isEmpty && Builtin.List.listTooLong (its.toArray.size + its2.toArray.size))=true:=by
  rw [iF hsz,Bool.and_false]
  exact Bool.false_ne_true
 refine call_meets F.slot_list_extend ⟨_,e,rfl⟩ F.entry_list_extend (F.args_list_extend_2 _ _)
  (AutoSeq1.list_extend_list_list_0 l its.toArray n b its2.toArray n2 hlong (by rw [List.size_toArray]; omega) (by omega)) ⟨e,e2,?_⟩
 refine ⟨.non,_,I.wG (its':=its ++ its2) hH e (by simp) (r.append r2) ?_,rfl,q⟩
 rw [List.length_append]
 omega
def wH:V->List V->Hp->VK->Prop:=fun x vs H Q=>∃ l xs i k y,x = .ref l/\vs=[.int i]/\H l=some (.lst xs) /\ -(2 ^ 63)<=i/\i < 2 ^ 63/\seqIndex? i xs.length=some k/\xs[k]? = some y/\Q y (upd H l (.lst (xs.eraseIdx k)))
theorem mz:MtM X "list.pop" wH:=by
 intro pins s σ H x vs v us Q I rx rv h
 obtain ⟨l,xs,i,k,y,rfl,rfl,hH,h1,h2,hk,hy,q⟩:=h
 cases rx
 obtain ⟨u,rfl,ru⟩:=rv.one
 obtain ⟨t,rfl⟩:=ru
 obtain ⟨z,its,n,r,hl,e⟩:=I.sd hH
 obtain ⟨w,hw,rw'⟩:=r.get hy
 refine call_meets F.slot_list_pop ⟨_,e,rfl⟩ F.entry_list_pop (F.args_list_pop_2 _ _)
  (MeetsSeq.list_pop_at l its.toArray n i t k w (fitsIndex_both h1 h2) (by rw [List.size_toArray, <- hl]; exact hk) (by rw [<- Array.getElem?_toList]; exact hw) (by rw [List.size_toArray]; omega)) ⟨e,?_⟩
 refine ⟨y,_,I.wG (its':=its.eraseIdx k) hH e ?_ (r.eraseIdx k) ?_,rw',q⟩
 ·show its.toArray.eraseIdxIfInBounds k=(its.eraseIdx k).toArray
  rw [List.eraseIdxIfInBounds_toArray]
 ·have:=jT xs k
  omega
def rRep:R2:=fun x y H Q=>∃ l k xs,x = .ref l/\y = .int k/\H l=some (.lst xs) /\ -(2 ^ 63)<=k/\k < 2 ^ 63/\xs.length * k.toNat<=sizeLine ∧
 ∀ p,H p=none->Q (.ref p) (upd H p (.lst (List.replicate k.toNat xs).flatten))
theorem len_rep {α : Type} (xs:List α) (k:Nat):(List.replicate k xs).flatten.length=k * xs.length:=by
 induction k with
 | zero=>simp
 | succ k ih=>rw [List.replicate_succ,List.flatten_cons,List.length_append,ih,Nat.succ_mul,Nat.add_comm]
theorem wI:OpR X (binaryOp .Mult) rRep:=by
 intro pins s σ H x y v u Q I rx ry h
 obtain ⟨l,k,xs,rfl,rfl,hH,h1,h2,hz,q⟩:=h
 cases rx
 obtain ⟨t,rfl⟩:=ry
 obtain ⟨z,its,n,r,hl,e⟩:=I.sd hH
 have hlen:its.toArray.size * k.toNat<=sizeLine:=by rw [List.size_toArray, <- hl]; exact hz
 have hcap:¬ its.toArray.size * k.toNat > (2 ^ 63 - 1) / 8:=by
  have:(sizeLine:Nat)<=(2 ^ 63 - 1) / 8:=by decide
  omega
 have hfit:¬ (!Builtin.List.listFitsIndex k)=true:=by
  rw [fitsIndex_both h1 h2]
  exact Bool.false_ne_true
 have hlong:¬ Builtin.List.listTooLong (its.toArray.size * k.toNat)=true:=by
  rw [iF hlen]
  exact Bool.false_ne_true
 have hnew:List.foldl (fun x1 x2=>x1 ++ x2) #[] (List.replicate (if its.toArray.isEmpty=true then 0 else k.toNat) its.toArray)=(List.replicate k.toNat its).flatten.toArray:=by
  have f0:∀ m:Nat,List.foldl (fun x1 x2=>x1 ++ x2) #[] (List.replicate m its.toArray)=(List.replicate m its).flatten.toArray:=fun m=>by
   have:=foldl_rep its m []
   rw [List.nil_append] at this
   exact this
  rw [f0]
  cases its with
  | nil=>simp
  | cons a r'=>rw [if_neg (by simp)]
 refine wpAny_binaryOp_repeat_ref (T := "list") (U := "int") (by decide) ⟨_,e,rfl⟩ (fun s'=>typeIs_int s' k t) noFill_list_mul F.fills_int_mul F.slot_int_rmul repeat_list F.slot_int_index.lookup
  (call_meets F.slot_int_rmul (typeIs_int s k t) F.entry_int_rmul (F.args_int_rmul_2 _ _) (int___rmul___int_list k t l its.toArray n)
   ⟨e,rfl,⟨_,e,rfl⟩,call_meets F.slot_list_mul ⟨_,e,rfl⟩ F.entry_list_mul (F.args_list_mul_2 _ _) (AutoListH.list___mul___list_int_3 l its.toArray n k t hfit hcap hlong) ⟨e,?_⟩⟩)
 rw [hnew]
 exact ⟨.ref _,_,I.x9 (t':=s.toks) (r.rep k.toNat) (by rw [len_rep,Nat.mul_comm]; exact hz),rfl,q _ I.fresh⟩
end
section
variable {prog:Program} {w:World} {A:Around} {E:Value->Shared->Prop} {s:Shared}
end
section
variable {X:Cx}
end
end L2
namespace Att
open PySem PySem.W PySem.Calls PyProof.Rows
theorem ig {P:Params} {h:Heap}:∀ (ns:List Int) (vs:List Value),WellAll P h vs (ns.map WData.int)->IntsAre vs ns:=by
 intro ns
 induction ns with
 | nil =>
  intro vs w
  rw [List.map_nil] at w
  cases w
  exact .nil
 | cons n ns ih =>
  intro vs w
  rw [List.map_cons] at w
  cases w with
  | cons a b =>
   cases a
   exact .cons _ _ (ih _ b)
theorem qz {l:OpenLaw} {n:Nat} (hn:l.most=some n) {P:Params} {h:Heap} {args:List WData} {vals:List Value}
  (hpre:l.row.toRowW.claim.pre args=true) (hwl:WellAll P h vals args) :
  ∃ a vs ns,vals=[Value.ref a]/\args=[WData.list (ns.map WData.int)]/\h.get? a=some { cls := .type "list",data := .seq vs.toArray }/\IntsAre vs ns/\ns.length<=n:=by
 have hsh:WShape.hasAll [] args [.list .int]=true:=(pre_splitW hpre).1
 have hc:l.pre.holds [] { args:=args }=true:=(pre_splitW hpre).2
 obtain ⟨d,r,rfl,h1,h2⟩:=hasAllW_cons hsh
 obtain rfl:=hasAllW_nil h2
 obtain ⟨xs,rfl,h3⟩:=hasW_list h1
 obtain ⟨ns,rfl⟩:=items_int h3
 have hlen:ns.length<=n:=by
  unfold OpenLaw.pre at hc
  have h4:(WTm.not (.lt (.lit (.int (n:Int))) (.len (.arg 0)))).holds [] { args:=[.list (ns.map .int)] }=true:=by
   have h4:=(holds_andW hc).1
   rw [hn] at h4
   exact h4
  have h5:=condW_of h4 (w_not (w_lt w_lit (w_len_list (w_arg rfl))))
  rw [List.length_map] at h5
  refine Nat.le_of_not_lt fun q => ?_
  have q':(n:Int) < ((ns.length:Nat):Int):=by omega
  first
   | (rw [decide_eq_true q'] at h5; exact absurd h5 (by decide))
   | (simp at h5; omega)
 cases hwl with
 | cons w1 w2 =>
  cases w2
  cases w1 with
  | list ho hall=>exact ⟨_,_,ns,rfl,rfl,ho,ig ns _ hall,hlen⟩
theorem qA (l:OpenLaw) (args:List WData):l.row.toRowW.claim.post args (.bool true) args=true :=
 postW_of (r:=l.row.toRowW) (X:=(true == true))
  (show WShape.has [] (.bool true) .bool=true by first | rfl | decide | simp [WShape.has,WShape.arms,WShape.armsAll])
  (show (WTm.eq .res (.lit (.bool true))).value [] { args:=args,res:=some (.bool true),after:=args }=some (.bool (true == true)) from w_eq_bool (w_res rfl) w_lit) rfl
theorem mB {l:OpenLaw} {n:Nat} {q:Program} {loose:List Str} {XP:(Str->Option Value)->Heap->Prop} {YP:World->Heap->Prop} {d:DefRec}
  (hn:l.most=some n) (hdf:d.params.defaults=[])
  (call:∀ (w:World) (s₀ s₁:Shared) (mg mb:Str->Option Value) (fa:Addr) (o:Obj) (pm cd doc:Value) (a:Addr) (vs:List Value) (ns:List Int),
   Ground q loose [] XP w s₀ mg mb s₁.heap->YP w s₁.heap →
   s₁.heap.get? fa=some o->o.data = .func (docDef d.name d.params d.body d.scope pm cd doc)->s₁.heap.CodeRec cd d.name->mg d.name=some (.ref fa) →
   s₁.heap.get? a=some { cls := .type "list",data := .seq vs.toArray }->IntsAre vs ns->ns.length<=n->s₁.gens = #[] →
   codeAny (model l.prog w) callerA (.call (.ref fa) ⟨[.ref a],[]⟩) (fun r s'=>r = .ok (.ret (.bool true))/\OldK s₁.heap s'.heap/\s'.os=s₁.os/\AllBare s'.gens) s₁) :
  WalkO q loose XP YP l.row.toRowW d [] (fun f vs=>PySem.call f vs):=by
 intro w s₀ s₁ mg mb G Y fa o pm cd doc dV kV ho hd hcd hD hmg hg args vals as hpre hlay hrd hwl hlo
 obtain rfl:dV = .none:=Dflts.none hD hdf
 obtain rfl:kV = .none:=Dflts.noKw hD
 obtain ⟨a,vs,ns,rfl,rfl,hobj,hints,hlen⟩:=qz hn hpre hwl
 refine enter_call (codeAny_mono (call w s₀ s₁ mg mb fa o pm cd doc a vs ns G Y ho (fd_plain hd) hcd hmg hobj hints hlen hg) fun r s' hq => ?_)
 obtain ⟨rfl,h2,h3,h4⟩:=hq
 exact ⟨.inl ⟨.bool true,.bool true,[],rfl,fun _=>rfl,.bool true,qA l _,fun _=>⟨List.Pairwise.nil,fun _ hm=>(nomatch hm)⟩⟩,h2,h3,h4⟩
section
variable {prog:Program} {w:World} {A:Around} {E:Value->Shared->Prop} {s:Shared} {K:Frag}
def ledger (h:Heap) (L d:Addr):List (Addr × Obj):=(List.range h.objs.size).filterMap fun a=>if a=L\/a=d then none else (h.get? a).map fun o=>(a,o)
end
end Att
namespace L2
open PySem PySem.Spec PyProof.Rows
theorem gI:∀ {vs:List Value} {ns:List Int},IntsAre vs ns->Vals (ns.map V.int) vs
 | _,_,.nil => .nil
 | _,_,.cons n t h => .cons ⟨t,rfl⟩ (gI h)
def wJ (H:Hp):Prop:=∀ b,H b=none\/∃ o xs,H b=some (.frz o (.lst xs))
theorem sf {P:Program} {w:World} {K:PySem.W.Frag} {mg mb:Str->Option Value} {CX:CXT} {k:Nat} {fa a:Addr} {fd:FuncData} {x:Str} {sp:Sp} {s₁:Shared} {vs:List Value} {ns:List Int}
  (KX:K.In s₁.heap) (hns:s₁.heap.Ns mainGlobals mg) (hb:s₁.heap.Ns builtinsNs mb) (hbb:∀ x:Str,x ≠ "__name__" -> mb x=bootBuiltins x) (hlim:s₁.heap.NoLimit) (hg:s₁.gens = #[])
  (ha:s₁.heap.get? a=some { cls := .type "list",data := .seq vs.toArray }) (hi:IntsAre vs ns) (hl:ns.length<=sizeLine) (hr:di k callerA)
  (F:∀ base:Heap,K.In base->base.Ns mainGlobals mg->cy P w K mg base CX k fa fd [x] sp) (hbind:∀ (s:Shared) (u:Value),BindsTo s fd ⟨[u],[]⟩ [(x,u)])
  (hsp:∀ H:Hp,wJ H->SqL K H a (ns.map V.int)->sp [.ref a] H (fun v _=>v = .bl true) fun _ _ _=>False)
  (hCX:∀ H e s',CX [] H s₁ (fun _ _ _=>False) e s'->False) :
  codeAny (model P w) callerA (.call (.ref fa) ⟨[.ref a],[]⟩) (fun r s'=>r = .ok (.ret (.bool true))/\OldK s₁.heap s'.heap/\s'.os=s₁.os/\AllBare s'.gens) s₁:=by
 have rv:=gI hi
 have lenV:=hi.length
 have core:∀ H:Hp,wJ H->SqL K H a (ns.map V.int)->HOk P w H s₁.heap->(∀ b,H b ≠ none->b=a)->(H a ≠ none->K.lookup a=none) →
   codeAny (model P w) callerA (.call (.ref fa) ⟨[.ref a],[]⟩) (fun r s'=>r = .ok (.ret (.bool true))/\OldK s₁.heap s'.heap/\s'.os=s₁.os/\AllBare s'.gens) s₁:=by
  intro H hO hS hok hA hK
  have base_of:∀ {b:Addr} {o:Obj},s₁.heap.get? b=some o->H b=none->(kO s₁.heap H).get? b=some o:=fun e n=>rM e n
  have noA:∀ {b:Addr} {o:Obj} {es:Array DictEntry} {ep:Nat},s₁.heap.get? b=some o->o.data = .dict es ep->H b=none:=fun {b o es ep} e d=>by
   cases q:H b with
   | none=>rfl
   | some u =>
    have e':b=a:=hA b (by rw [q]; simp)
    subst e'
    rw [ha] at e; cases e
    have d':Data.seq vs.toArray _=Data.dict es ep:=d
    cases d'
  have nsK:∀ {b:Addr} {m:Str->Option Value},s₁.heap.Ns b m->(kO s₁.heap H).Ns b m:=fun {b m} ⟨o,es,ep,e,d,r⟩=>⟨o,es,ep,base_of e (noA e d),d,r⟩
  have hKb:K.In (kO s₁.heap H):=fun b o e=>base_of (KX b o e) (by
   cases q:H b with
   | none=>rfl
   | some u =>
    have e':b=a:=hA b (by rw [q]; simp)
    subst e'
    rw [hK (by rw [q]; simp)] at e; cases e)
  have hM:Mod K mg (kO s₁.heap H):=⟨hKb,nsK hns,⟨mb,nsK hb,hbb⟩,let ⟨mc,h1,h2⟩:=hlim; ⟨mc,nsK h1,h2⟩⟩
  have e0:uw P w K mg (kO s₁.heap H) callerA [] s₁ H:=⟨rfl,hM,fun b o e=>uj e,Nat.le_of_eq (qp _ _),trivial,fun b hb=>absurd (show b ∈ ([]:List Addr) from hb) (by simp),hok,.of_eq hg⟩
  refine codeAny_mono ((F _ hKb (nsK hns)).run callerA [] s₁ H ⟨[.ref a],[]⟩ [.ref a] [.ref a] _ _ hr e0 (hbind s₁ (.ref a)) (.cons rfl .nil) (hsp H hO hS)) fun r s' h => ?_
  cases r with
  | error e=>exact (hCX H e s' h).elim
  | ok fl =>
   cases fl with
   | next=>exact False.elim h
   | brk=>exact False.elim h
   | cont=>exact False.elim h
   | ret u =>
    obtain ⟨v,H',os,bare,un,hok',r',q⟩:=h
    have q':v = .bl true:=q
    subst q'
    obtain rfl:u=Value.bool true:=r'
    refine ⟨rfl,OldK.of_keep fun b o e => ?_,os,bare⟩
    cases q:H b with
    | none=>exact un.keep b o e q (by intro z; exact absurd (show b ∈ ([]:List Addr) from z) (by simp)) (by simp)
    | some u =>
     rcases hO b with z | ⟨ob,xs,z⟩
     ·rw [q] at z; cases z
     ·have z2:=un.frzs b ob _ z
      obtain ⟨e1,_⟩:=hok b _ z
      obtain ⟨e2,_⟩:=hok' b _ z2
      rw [e] at e1; cases e1
      exact e2
 cases hk:K.lookup a with
 | some o =>
  have e:=KX a o hk
  rw [ha] at e
  cases e
  refine core (fun _=>none) (fun _ => .inl rfl) (.inr ⟨_,vs.toArray,_,hk,rfl,rfl,rfl,by rw [List.size_toArray,lenV]; exact hl,by simpa using rv⟩) (fun b u z=>by have z':(none:Option HO)=some u:=z; cases z') (fun b z=>absurd rfl z) fun z=>absurd rfl z
 | none =>
  refine core (fun b=>if b=a then some (.frz { cls := .type "list",data := .seq vs.toArray } (.lst (ns.map V.int))) else none) (fun b => ?_) (.inl (.inr ⟨{ cls := .type "list",data := .seq vs.toArray },if_pos rfl⟩)) (fun b u z => ?_) (fun b z => ?_) fun _=>hk
  ·by_cases hb:b=a
   ·exact .inr ⟨_,_,if_pos hb⟩
   ·exact .inl (if_neg hb)
  ·by_cases hb:b=a
   ·have z':=(if_pos hb).symm.trans z
    cases z'
    subst hb
    exact ⟨ha,by rw [List.length_map]; exact hl,vs,_,rv,ha⟩
   ·have z':=(if_neg hb).symm.trans z
    cases z'
  ·by_cases hb:b=a
   ·exact hb
   ·exact absurd (if_neg hb) z
open PySem PySem.Spec PyProof.Rows
theorem uG {l:PySem.W.OpenLaw} {n k:Nat} {q:Program} {loose:List Str} {XP:(Str->Option Value)->Heap->Prop} {YP:World->Heap->Prop} {d:DefRec} {K:Params->PySem.W.Frag} {CX:World->CXT} {sp:World->Sp} {x:Str}
  (hn:l.most=some n) (hn2:n<=sizeLine) (hdf:d.params.defaults=[]) (hr:di k callerA)
  (hY:∀ (w:World) (h:Heap),YP w h->(K w.params).In h)
  (F:∀ (w:World) (mg:Str->Option Value) (fa:Addr) (h:Heap),(K w.params).In h->h.Ns mainGlobals mg->mg d.name=some (.ref fa) →
   ∃ fd:FuncData,(∀ (s:Shared) (u:Value),BindsTo s fd ⟨[u],[]⟩ [(x,u)]) ∧
    ∀ base:Heap,(K w.params).In base->base.Ns mainGlobals mg->cy l.prog w (K w.params) mg base (CX w) k fa fd [x] (sp w))
  (hsp:∀ (w:World) (H:Hp) (a:Addr) (ns:List Int),ns.length<=n->wJ H->SqL (K w.params) H a (ns.map V.int)->sp w [.ref a] H (fun v _=>v = .bl true) fun _ _ _=>False)
  (hCX:∀ (w:World) (H:Hp) (s:Shared) (e:Value) (s':Shared),CX w [] H s (fun _ _ _=>False) e s'->False) :
  PySem.W.WalkO q loose XP YP l.row.toRowW d [] (fun f vs=>PySem.call f vs):=by
 refine Att.mB hn hdf fun w s₀ s₁ mg mb fa o pm cd doc a vs ns G Y ho hd hcd hmg hobj hints hlen hg => ?_
 have KX:=hY w _ Y
 obtain ⟨fd,hb,hF⟩:=F w mg fa _ KX G.T.g hmg
 exact sf KX G.T.g G.T.b G.T.builtins G.T.nolimit hg hobj hints (Nat.le_trans hlen hn2) hr hF hb (fun H hO hS=>hsp w H a ns hlen hO hS) fun H e s'=>hCX w H s₁ e s'
open PySem PySem.Spec PyProof.Rows
def aP (s:Stmt):Arguments:=match s with
 | .FunctionDef _ a _ _ _ _ _ _ _ _=>a
 | _=>{ posonlyargs:=[],args:=[],vararg:=none,kwonlyargs:=[],kw_defaults:=[],kwarg:=none,defaults:=[] }
def aH (s:Stmt):List Stmt:=match s with
 | .FunctionDef _ _ b _ _ _ _ _ _ _=>b
 | _=>[]
def au (s:Stmt):Scope:=match s with
 | .FunctionDef _ _ _ _ _ _ sc _ _ _=>sc
 | _=>{ kind := .function,names:=[],isGenerator:=false,isCoroutine:=false }
abbrev CX0:CXT:=fun _ _ _ _ _ _=>False
abbrev E0:XK:=fun _ _ _=>False
theorem yb {X:Cx}:Passes CX0 X E0:=fun _ _ _ _ _ _ _ h=>h.elim
structure Fun (K:PySem.W.Frag) (x qual:Str) (st:Stmt) (f:Addr) (fd:FuncData):Prop where
 ex:∃ (oc:Value) (od:Option Addr) (kV doc pm:Value) (an:Option Addr) (cdv ct:Value) (osl:Array (Option Value)),
  fd=PySem.W.fnOf x qual (aP st) (aH st) (au st) .none kV doc pm an cdv ct/\K.lookup f=some ⟨oc,od,.func fd,osl⟩/\PySem.W.codeIn K cdv qual=true
 kp:PySem.W.keepIn K (.ref f)=true
section
variable {P:Program} {w:World} {K:PySem.W.Frag} {mg:Str->Option Value} {base:Heap}
theorem Fun.ok {x qual:Str} {st:Stmt} {f:Addr} {fd:FuncData} {N ps:List Str} {k:Nat} {sp:Sp} (F:Fun K x qual st f fd) (S:aW N ps (au st)) (len:∀ vs H Q E,sp vs H Q E->vs.length=ps.length)
  (hbody:∀ (cdv:Value) (A:Around) (outer:List Env) (s:Shared) (H:Hp) (vs:List V) (Q:VK) (E:XK),di k (A.deeper (envOfC qual (au st) s.heap.objs.size f cdv))->sp vs H Q E →
   ∃ t,PSs (jw CX0 P w K mg base N qual (au st) f cdv A outer s H E).nox (aH st) t/\t { nx:=fun _ H'=>Q .non H',rt:=Q } (start N vs) H):cy P w K mg base CX0 (k + 1) f fd ps sp:=by
 obtain ⟨oc,od,kV,doc,pm,an,cdv,ct,osl,rfl,lk,hcd⟩:=F.ex
 refine xY lk hcd S len fun A outer s H vs Q E hr hsp => ?_
 obtain ⟨t,h,q⟩:=hbody cdv A outer s H vs Q E hr hsp
 exact ⟨t,h.nox,q⟩
theorem Fun.binds {x qual:Str} {st:Stmt} {f:Addr} {fd:FuncData} {ps:List Str} (F:Fun K x qual st f fd)
  (h:∀ (kV doc pm:Value) (an:Option Addr) (cdv ct:Value) (us:List Value),us.length=ps.length->bindArgs (PySem.W.fnOf x qual (aP st) (aH st) (au st) .none kV doc pm an cdv ct) ⟨us,[]⟩=pure (ps.zip us)):Binds K fd ps []:=by
 obtain ⟨oc,od,kV,doc,pm,an,cdv,ct,osl,rfl,lk,hcd⟩:=F.ex
 exact .all (h kV doc pm an cdv ct)
theorem bL {x qual:Str} {st:Stmt} {f:Addr} {oc:Value} {od an:Option Addr} {osl:Array (Option Value)} {kV doc pm cdv ct:Value} (l:K.lookup f=some ⟨oc,od,.func (PySem.W.fnOf x qual (aP st) (aH st) (au st) .none kV doc pm an cdv ct),osl⟩)
  (c:PySem.W.codeIn K cdv qual=true) (k:PySem.W.keepIn K (.ref f)=true):Fun K x qual st f (PySem.W.fnOf x qual (aP st) (aH st) (au st) .none kV doc pm an cdv ct):=⟨⟨oc,od,kV,doc,pm,an,cdv,ct,osl,rfl,l,c⟩,k⟩
end
theorem vK {A:Around} {k:Nat} (hr:di k A):A.units + 1 < cLine:=Nat.lt_of_le_of_lt (Nat.add_le_add_left (by decide:1<=64) _) hr.units
theorem bW {n:Nat} (h:n<=1000):n < sizeLine:=Nat.lt_of_le_of_lt h (by decide)
section
variable {X:Cx}
theorem pv (i:Nat) {x:Str} {pos:Pos} (hN:X.N[i]? = some x:=by rfl) (hv:Vis X.env.scope x:=by first | exact Or.inl rfl | exact Or.inr (Or.inl rfl) | exact Or.inr (Or.inr rfl)) (hd:(x == ("__debug__" : Str))=false:=by decide)
  (hcd:(x == ("__classdict__" : Str))=false:=by decide):PE X (.Name x pos) (xG i):=v9 hN hv hd hcd
end
theorem dj {A B:Prop} (h:B):if false=true then A else B:=by
 rw [if_neg Bool.false_ne_true]
 exact h
theorem cB {A B:Prop} (h:A):if true=true then A else B:=by
 rw [if_pos rfl]
 exact h
theorem gc {c A B:Prop} [Decidable c] (h1:c->A) (h2:¬ c->B):if c then A else B:=by
 by_cases h:c
 ·rw [if_pos h]
  exact h1 h
 ·rw [if_neg h]
  exact h2 h
theorem pC {c A B:Prop} [Decidable c] (hc:c) (h:B):if (!decide c)=true then A else B:=by
 rw [decide_eq_true hc]
 exact dj h
def aA (H H':Hp):Prop:=∀ b o,H b=some o->H' b=some o
theorem aA.refl (H:Hp):aA H H:=fun _ _ h=>h
theorem aA.trans {H H1 H2:Hp} (a:aA H H1) (b:aA H1 H2):aA H H2:=fun c o h=>b c o (a c o h)
theorem aA.free {H H':Hp} (e:aA H H') {l:Addr} (h:H' l=Option.none):H l=Option.none:=by
 cases q:H l with
 | none=>rfl
 | some o =>
  rw [e l o q] at h
  cases h
theorem aA.seq {K:PySem.W.Frag} {H H':Hp} {a:Addr} {xs:List V} (e:aA H H') (h:SqL K H a xs):SqL K H' a xs:=by
 rcases h with (h | ⟨o,h⟩) | h
 ·exact .inl (.inl (e _ _ h))
 ·exact .inl (.inr ⟨o,e _ _ h⟩)
 ·exact .inr h
end L2
set_option maxHeartbeats 4000000
namespace L2
open PySem PySem.Spec PyProof.Rows
def mC (on:List (Str × NameKind)) (N:List Str) (sc:Scope) (N':List Str) (ix:List (Option Nat)):Bool :=
 decide (sc.kind = .function) &&
 sc.names.all (fun y=>match y.2 with
  | .local=>decide (sc.names.lookup y.1=some .local)
  | .cell=>false
  | .free=>decide (on.lookup y.1=some .cell) || decide (on.lookup y.1=some .free)
  | _=>true) &&
 decide (ix.length=N'.length) &&
 (ix.zip N').all (fun p=>match p.1 with
  | none=>true
  | some j=>decide (N[j]? = some p.2) && decide (sc.names.lookup p.2=some .free))
theorem h8 {ns:List (Str × NameKind)} {y:Str} {k:NameKind} (h:ns.lookup y=some k):(y,k) ∈ ns:=PySem.mem_of_lookup h
structure iG (on:List (Str × NameKind)) (N:List Str) (sc:Scope) (N':List Str) (ix:List (Option Nat)):Prop where
 kind:sc.kind = .function
 locs:∀ y ∈ sc.names,y.2 = .local->sc.names.lookup y.1=some .local
 nocell:∀ y ∈ sc.names,y.2 ≠ .cell
 frees:∀ y ∈ sc.names,y.2 = .free->on.lookup y.1=some .cell\/on.lookup y.1=some .free
 len:ix.length=N'.length
 slot:∀ (i j:Nat) (y:Str),ix[i]? = some (some j)->N'[i]? = some y->N[j]? = some y/\sc.names.lookup y=some .free
theorem iG.of {on:List (Str × NameKind)} {N:List Str} {sc:Scope} {N':List Str} {ix:List (Option Nat)} (h:mC on N sc N' ix=true):iG on N sc N' ix:=by
 unfold mC at h
 rw [Bool.and_eq_true,Bool.and_eq_true,Bool.and_eq_true] at h
 obtain ⟨⟨⟨h1,h2⟩,h3⟩,h4⟩:=h
 rw [List.all_eq_true] at h2 h4
 refine ⟨of_decide_eq_true h1,fun y hy e => ?_,fun y hy e => ?_,fun y hy e => ?_,of_decide_eq_true h3,fun i j y e1 e2 => ?_⟩
 ·have q:=h2 y hy
  rw [e] at q
  exact of_decide_eq_true q
 ·have q:=h2 y hy
  rw [e] at q
  cases q
 ·have q:=h2 y hy
  rw [e] at q
  exact ((Bool.or_eq_true _ _).mp q).imp of_decide_eq_true of_decide_eq_true
 ·have q:=h4 (some j,y) (List.mem_of_getElem? (i:=i) (by rw [List.getElem?_zip_eq_some]; exact ⟨e1,e2⟩))
  dsimp only at q
  rw [Bool.and_eq_true] at q
  exact ⟨of_decide_eq_true q.1,of_decide_eq_true q.2⟩
theorem h9 {α β : Type} (f : α -> β -> β) (b : α -> β -> Sem (ForInStep β)):∀ (l:List α) (c : β),(∀ x ∈ l,∀ d,b x d=pure (.yield (f x d)))->forIn l c b=pure (l.foldl (fun d x=>f x d) c)
 | [],c,_=>rfl
 | x :: l,c,h=>by
  rw [List.forIn_cons,h x List.mem_cons_self,pure_bind]
  exact h9 f b l (f x c) fun y hy=>h y (List.mem_cons_of_mem _ hy)
def aO (env:Env) (l:List (Str × NameKind)) (c:List (Str × Addr)):List (Str × Addr) :=
 l.foldl (fun d y=>if y.2 = .free then (y.1,(env.cells.lookup y.1).getD 0) :: d else d) c
theorem oj {sc:Scope} {env:Env} (h:∀ y ∈ sc.names,y.2 = .free->∃ c,env.cells.lookup y.1=some c):closureFor sc env=pure (aO env sc.names []):=by
 simp only [closureFor]
 unfold aO
 rw [h9 (fun y d=>if y.2 = .free then (y.1,(env.cells.lookup y.1).getD 0) :: d else d)]
 ·rfl
 ·rintro ⟨n,k⟩ hy d
  by_cases hk:k = .free
  ·subst hk
   obtain ⟨c,e⟩:=h _ hy rfl
   have e':env.cells.lookup n=some c:=e
   simp only [beq_self_eq_true,if_true,cellOf,e',Option.getD_some]
   rfl
  ·have hb:(k == NameKind.free)=false:=by simpa using hk
   simp only [hb,Bool.false_eq_true,if_false,hk]
theorem cN {env:Env} {y:Str} {c:Addr}:∀ (l:List (Str × NameKind)) (d:List (Str × Addr)),(∀ z ∈ l,z.2 = .free->∃ c,env.cells.lookup z.1=some c)->(aO env l d).lookup y=some c →
  d.lookup y=some c\/env.cells.lookup y=some c
 | [],d,_,h => .inl h
 | (n,k) :: l,d,hf,h=>by
  have h':(aO env l (if k = .free then (n,(env.cells.lookup n).getD 0) :: d else d)).lookup y=some c:=h
  have ih:=cN l _ (fun z hz=>hf z (List.mem_cons_of_mem _ hz)) h'
  by_cases hk:k = .free
  ·subst hk
   rw [if_pos rfl] at ih
   rcases ih with q | q
   ·rw [List.lookup_cons] at q
    cases hx:(y == n) with
    | true =>
     rw [hx] at q
     obtain ⟨c',e⟩:=hf (n,.free) List.mem_cons_self rfl
     have e':env.cells.lookup n=some c':=e
     have q':some ((env.cells.lookup n).getD 0)=some c:=q
     rw [e'] at q'
     have en:y=n:=eq_of_beq hx
     rw [en,e']
     exact .inr q'
    | false =>
     rw [hx] at q
     exact .inl q
   ·exact .inr q
  ·rw [if_neg hk] at ih
   exact ih
theorem dY {env:Env} {y:Str}:∀ (l:List (Str × NameKind)) (d:List (Str × Addr)),((y,NameKind.free) ∈ l\/∃ c,d.lookup y=some c)->∃ c,(aO env l d).lookup y=some c
 | [],d,h=>by
  rcases h with h | h
  ·cases h
  ·exact h
 | (n,k) :: l,d,h=>by
  show ∃ c,(aO env l (if k = .free then (n,(env.cells.lookup n).getD 0) :: d else d)).lookup y=some c
  refine dY l _ ?_
  have old:(∃ c,d.lookup y=some c)->∃ c,(if k = .free then (n,(env.cells.lookup n).getD 0) :: d else d).lookup y=some c:=fun ⟨c,e⟩=>by
   by_cases hk:k = .free
   ·rw [if_pos hk,List.lookup_cons]
    cases hx:(y == n) with
    | true=>exact ⟨_,rfl⟩
    | false=>exact ⟨c,e⟩
   ·rw [if_neg hk]; exact ⟨c,e⟩
  rcases h with h | h
  ·rcases List.mem_cons.mp h with q | q
   ·cases q
    rw [if_pos rfl,List.lookup_cons,beq_self_eq_true]
    exact .inr ⟨_,rfl⟩
   ·exact .inl q
  ·exact .inr (old h)
theorem iH {c:Str->NameKind->Bool} {y:Str}:∀ l:List (Str × NameKind),(l.map fun z=>if c z.1 z.2=true then (z.1,NameKind.cell) else (z.1,z.2)).lookup y=(l.lookup y).map fun k=>if c y k=true then NameKind.cell else k
 | []=>rfl
 | (n,k) :: l=>by
  have ih:=iH (c:=c) (y:=y) l
  rw [List.map_cons]
  have e:(if c n k=true then (n,NameKind.cell) else (n,k))=(n,if c n k=true then NameKind.cell else k):=by split <;> rfl
  show List.lookup y ((if c n k=true then (n,NameKind.cell) else (n,k)) :: _)=_
  rw [e,List.lookup_cons,List.lookup_cons]
  cases hx:(y == n) with
  | true =>
   have en:y=n:=eq_of_beq hx
   subst en
   rfl
  | false=>exact ih
def blk (X:Cx) (sc:Scope) (cl:List (Str × Addr)) (C:Addr) (N':List Str) (s:Shared) (H:Hp) (fp:List Addr):Cx :=
 { X with N:=N',s₀:=s,H₀:=H,env:=compEnvC sc cl C X.env,outer:=X.stack,ex:=fp,fn:=fun _=>false,pn:=[],xe:=fun _ _=>False }
def PF (X:Cx) (ifs:List Expr) (t:TT):Prop :=
  ∀ (pins:List (Addr × Obj)) (s:Shared) (σ:St) (H:Hp) (Q:Bool->Hp->Prop),Inv X pins σ H s->t σ H Q →
    wpAny (model X.prog X.w) X.A (forIn ifs true fun c r=>if r=true then do let ok ← isTrue c X.env (eval c X.env); pure (ForInStep.yield ok) else pure (ForInStep.yield r)) (TP X pins σ Q) X.xe s
theorem cX {X:Cx}:PF X [] (fun _ H Q=>Q true H):=fun _ _ _ H _ I h=>wpAny_tests_nil ⟨H,I,h⟩
theorem sg {X:Cx} {c:Expr} {t:TT} (h:PT X c t):PF X [c] t:=fun pins s σ H Q I q=>wpAny_tests_one (h pins s σ H Q I q)
def inner (ix:List (Option Nat)) (σ:St):St:=ix.map fun o=>match o with | none=>none | some j=>(σ[j]?).join
def mD (J:It) (g:TG) (tc:TT) (te:TE) (τ : St) (Q:VK) (H1:Hp):Prop:=∃ W:Nat->Nat->St->List V->Hp->Prop,(∃ m,W 0 m τ [] H1)/\∀ i m τ ys H,W i m τ ys H →
 (J.stop i H/\ys.length<=sizeLine/\∀ l,H l=none->Q (.ref l) (upd H l (.lst ys))) ∨
 (J.go i H/\∀ x H',J.yld i H x H'->g x τ H' fun τ2 H2=>tc τ2 H2 fun b H3=>if b=true then te τ2 H3 fun y H4=>ys.length < sizeLine/\∃ m',m' < m/\W (i + 1) m' τ2 (ys ++ [y]) H4 else ∃ m',m' < m/\W (i + 1) m' τ2 ys H3)
def si (ix:List (Option Nat)) (wi:TI) (g:TG) (tc:TT) (te:TE):TE:=fun σ H Q=>wi σ H fun J H1=>mD J g tc te (inner ix σ) Q H1
section
variable {X:Cx} {sc:Scope} {N':List Str} {ix:List (Option Nat)} {pins:List (Addr × Obj)} {σ:St} {H:Hp} {s:Shared}
theorem wK (I:Inv X pins σ H s) (K:iG X.env.scope.names X.N sc N' ix) {C:Addr} {fp:List Addr} (hC:s.heap.objs.size<=C) (f:∀ b ∈ fp,kX X pins H b) (fl:∀ b ∈ fp,b < s.heap.objs.size) :
  (blk X sc (aO X.env sc.names []) C N' s H fp).Ok:=by
 have hcl:∀ y ∈ sc.names,y.2 = .free->∃ c,X.env.cells.lookup y.1=some c:=fun y hy e=>I.ok.has y.1 (K.frees y hy e)
 have up:∀ y c,(aO X.env sc.names []).lookup y=some c->X.env.cells.lookup y=some c:=fun y c e=>by
  rcases cN sc.names [] hcl e with q | q
  ·cases q
  ·exact q
 have nfs:∀ b ∈ fp,b ∉ frs X.stack:=fun b hb z=>by
  rcases List.mem_cons.mp (I.kP b z) with q | q
  ·exact (f b hb).2.1 q
  ·exact (f b hb).2.2.1 q
 refine ⟨I.ok.mod,K.kind,I.ok.glob,I.ok.blt,hC,fun y z c h1 h2=>I.ok.inj y z c (up _ _ h1) (up _ _ h2),fun y hy => ?_,(fun y c h=>nomatch h),I.ok.hd,I.ok.frames,.inl rfl,fun b hb => ?_,fun b o e=>I.bs b o e,Nat.le_trans I.ok.bsz I.sz,fun b o e hb => ?_,nfs,I.stack,I.o6⟩
 ·have hy':(relabel sc X.env).names.lookup y=some .cell\/(relabel sc X.env).names.lookup y=some .free:=hy
  have em:=iH (c:=fun n k=>k == .free && X.env.scope.kind == .function && X.env.kindOf n == some .cell) (y:=y) sc.names
  have em':(relabel sc X.env).names.lookup y=_:=em
  rw [em'] at hy'
  cases hq:sc.names.lookup y with
  | none=>rw [hq] at hy'; rcases hy' with q | q <;> cases q
  | some k =>
   have km:=h8 hq
   have hk:k = .free:=by
    rw [hq] at hy'
    simp only [Option.map_some,Option.some.injEq] at hy'
    by_cases hc:(k == .free && X.env.scope.kind == .function && X.env.kindOf y == some .cell)=true
    ·rw [Bool.and_eq_true,Bool.and_eq_true] at hc
     exact by simpa using hc.1.1
    ·rw [if_neg hc] at hy'
     rcases hy' with q | q
     ·exact absurd q (K.nocell _ km)
     ·exact q
   subst hk
   exact dY sc.names [] (.inl km)
 ·exact ⟨Nat.ne_of_lt (Nat.lt_of_lt_of_le (fl b hb) hC),fun y c e=>(f b hb).2.2.2.2.1 y c (up y c e)⟩
 ·rcases (f b hb).2.2.2.1 with q | q
  ·exact I.ok.noex b o e q
  ·exact absurd (Nat.lt_of_lt_of_le (Heap.lt_size e) (Nat.le_trans I.ok.bsz q)) (Nat.lt_irrefl _)
theorem uH (I:Inv X pins σ H s) (K:iG X.env.scope.names X.N sc N' ix) {C:Addr} {fp:List Addr} (hC:s.heap.objs.size<=C) (f:∀ b ∈ fp,kX X pins H b) (fl:∀ b ∈ fp,b < s.heap.objs.size)
  {h1:Heap} {t:Nat} {m:Str->Option Value} (k:∀ b o,s.heap.get? b=some o->h1.get? b=some o) (ns:h1.Ns C m) :
  Inv (blk X sc (aO X.env sc.names []) C N' s H fp) [] (inner ix σ) H { s with heap:=h1,toks:=t }:=by
 have hcl:∀ y ∈ sc.names,y.2 = .free->∃ c,X.env.cells.lookup y.1=some c:=fun y hy e=>I.ok.has y.1 (K.frees y hy e)
 have up:∀ y c,(aO X.env sc.names []).lookup y=some c->X.env.cells.lookup y=some c:=fun y c e=>by
  rcases cN sc.names [] hcl e with q | q
  ·cases q
  ·exact q
 refine ⟨wK I K hC f fl,rfl,I.bare,Un.kept k,⟨m,ns,fun i y v e1 e2 e3 => ?_⟩,fun y c e => ?_,I.hok.fresh hC,fun y c e=>I.freeC y c (up y c e),(fun p hp=>nomatch hp),I.hok.kept k,?_⟩
 ·have e2':(ix.map fun o=>match o with | none=>none | some j=>(σ[j]?).join)[i]? = some (some v):=e2
  rw [List.getElem?_map] at e2'
  cases hi:ix[i]? with
  | none=>rw [hi] at e2'; cases e2'
  | some o =>
   cases o with
   | none=>rw [hi] at e2'; cases e2'
   | some j =>
    rw [hi] at e2'
    have e4:(σ[j]?).join=some v:=Option.some.inj e2'
    have e5:σ[j]? = some (some v):=by
     cases hj:σ[j]? with
     | none=>rw [hj] at e4; cases e4
     | some z=>rw [hj] at e4; rw [show z=some v from e4]
    obtain ⟨n1,n2⟩:=K.slot i j y hi e1
    have mem:=h8 n2
    have kc:X.env.kindOf y=some .cell\/X.env.kindOf y=some .free:=K.frees _ mem rfl
    obtain ⟨m',_,hl⟩:=I.loc
    obtain ⟨u,r,l⟩:=hl j y v n1 e5 (.inr kc)
    refine ⟨u,r,?_⟩
    rcases l with ⟨q,_⟩ | ⟨_,c,q,z⟩
    ·rcases kc with kc | kc <;> (rw [kc] at q; cases q)
    ·obtain ⟨c',hc'⟩:=dY (env:=X.env) (y:=y) sc.names [] (.inl mem)
     have:=up y c' hc'
     rw [q] at this
     cases this
     refine .inr ⟨?_,c,hc',z.keeps k⟩
     have em:=iH (c:=fun n k=>k == .free && X.env.scope.kind == .function && X.env.kindOf n == some .cell) (y:=y) sc.names
     have em':(relabel sc X.env).names.lookup y=_:=em
     rcases kc with kc | kc
     ·left
      show (relabel sc X.env).names.lookup y=some .cell
      rw [em',n2]
      simp only [Option.map_some,kc,I.ok.kind]
      rfl
     ·right
      show (relabel sc X.env).names.lookup y=some .free
      rw [em',n2]
      simp only [Option.map_some,kc,I.ok.kind]
      rfl
 ·obtain ⟨v,z⟩:=I.cell y c (up y c e)
  exact ⟨v,z.keeps k⟩
 ·show (ix.map _).length=N'.length
  rw [List.length_map]
  exact K.len
end
open PySem PySem.Spec PyProof.Rows
theorem om {prog:Program} {w:World} {A:Around} {R:Result->Shared->Prop} {s:Shared} {elt target iter:Expr} {ifs:List Expr} {sc:Scope} {pos:Pos} {it acc:Value} {env:Env} (J:Nat->Shared->Prop)
    (turn:∀ n s,J n s->wpAny (model prog w) A (pyNext it) (fun r s1=>match r with
      | none=>R (.ok .next) s1
      | some v=>wpAny (model prog w) A (letOwnedTupleGo target it v) (fun _ s2=>wpAny (model prog w) A (assign target env v) (fun _ s3 =>
          wpAny (model prog w) A (forIn ifs true fun c r=>if r=true then do let ok ← isTrue c env (eval c env); pure (ForInStep.yield ok) else pure (ForInStep.yield r)) (fun ok s4 =>
            if ok=true then wpAny (model prog w) A (eval elt env) (fun x s5=>wpAny (model prog w) A (call (.builtin "list.append") [acc,x]) (fun _ s6=>∃ m,m < n/\J m s6) (fun _ _=>False) s5) (fun _ _=>False) s4
            else ∃ m,m < n/\J m s4) (fun _ _=>False) s3) (fun _ _=>False) s2) (fun _ _=>False) s1) (fun _ _=>False) s)
    (n:Nat) (h:J n s):codeAny (model prog w) A (.compLoop (.ListComp elt [⟨target,iter,ifs,0⟩] sc pos) 0 it acc env) R s:=by
  refine codeAny_loop rfl J (fun k t q => ?_) n h
  show wpAny _ A (Sem.onRaise (compTurn (.ListComp elt [⟨target,iter,ifs,0⟩] sc pos) 0 it acc env) (fun x=>do noteFrame x env; theTreesLotGoes x)) _ _ t
  refine wpAny_noted ?_
  rw [compTurn_list]
  have no:∀ {E:Value->Shared->Prop} (x:Value) (t:Shared),False->E x t:=fun _ _ z=>z.elim
  refine wpAny_bind (wpAny_standAt (wpAny_bind (wpAny_mono (turn k t q) (fun r s1 h1 => ?_) no)))
  cases r with
  | none=>exact wpAny_pure h1
  | some v =>
    refine wpAny_bind (wpAny_mono h1 (fun _ s2 h2=>wpAny_bind (wpAny_mono h2 (fun _ s3 h3=>wpAny_bind (wpAny_mono h3 (fun ok s4 h4 => ?_) no)) no)) no)
    cases ok with
    | false=>exact wpAny_pure ⟨rfl,h4⟩
    | true=>exact wpAny_bind (wpAny_bind (wpAny_mono h4 (fun x s5 h5=>wpAny_bind (wpAny_mono h5 (fun _ s6 h6=>wpAny_pure (wpAny_pure ⟨rfl,h6⟩)) no)) no))
section
variable {X:Cx}
def uI (X:Cx) (pins:List (Addr × Obj)) (σ:St) (Q:VK) (use:Option (Value->Sem Unit)) (Q2:Value->Shared->Prop):Prop :=
 ∀ (s4:Shared) (H3:Hp) (acc C:Addr) (ys:List V) (oC:Obj),Inv X (pins ++ [(C,oC)]) σ (upd H3 acc (.lst ys)) s4->(∃ m,s4.heap.Ns C m)->X.s₀.heap.objs.size<=C->(∀ x c,X.env.cells.lookup x=some c->c ≠ C)->(∀ p ∈ X.pn ++ pins,p.1 ≠ C)->Q (.ref acc) (upd H3 acc (.lst ys)) →
  compPost (model X.prog X.w) X.A X.xe use Q2 (.ref acc) C (.ok .next) s4
theorem jV {elt target iter:Expr} {ifs:List Expr} {sc:Scope} {pos ps:Pos} {wi:TI} {g:TG} {tc:TT} {te:TE} {N':List Str} {ix:List (Option Nat)} {use:Option (Value->Sem Unit)} {Q2:Value->Shared->Prop}
  {pins:List (Addr × Obj)} {s:Shared} {σ:St} {H:Hp} {Q:VK}
  (hcalm:X.calm=true) (hi:PI X target iter wi) (hk:mC X.env.scope.names X.N sc N' ix=true)
  (hg:∀ cl C s H fp,PG (blk X sc cl C N' s H fp) target g) (hc:∀ cl C s H fp,PF (blk X sc cl C N' s H fp) ifs tc) (he:∀ cl C s H fp,PE (blk X sc cl C N' s H fp) elt te)
  (hs:∀ x,foldedSetIterable iter X.env x=pure x) (fin:uI X pins σ Q use Q2) (I:Inv X pins σ H s) (h:si ix wi g tc te σ H Q) :
  wpAny (model X.prog X.w) X.A (comprehension (.ListComp elt [⟨target,iter,ifs,0⟩] sc pos) sc X.env ps (newList []) false (eval iter X.env) use) Q2 X.xe s:=by
 have K:=iG.of hk
 have hcl:∀ y ∈ sc.names,y.2 = .free->∃ c,X.env.cells.lookup y.1=some c:=fun y hy e=>I.ok.has y.1 (K.frees y hy e)
 refine wpAny_comprehension_free rfl hs (oj hcl) K.kind K.locs (thn (hi pins s σ H _ I h) fun v s1 h1=>thn h1 fun itv s2 h2 => ?_)
 obtain ⟨it,fp,tn,J,H2,e,I2,T,st2,f2,W,⟨m0,w0⟩,turn⟩:=h2
 subst e
 refine wpAny_newObj_type (wpAny_newFunctionEnv K.nocell (by intro y hy; simp at hy) (fun h1 ns1 sb1 => ?_) K.kind)
 dsimp only at ns1 sb1 ⊢
 generalize hP:s2.heap.push { cls := .type "list",dict:=none,data := .seq ([]:List Value).toArray }=G at ns1 sb1 ⊢
 have sG:G.objs.size=s2.heap.objs.size + 1:=by rw [<- hP,Heap.size_push]
 have fl:∀ b ∈ fp,b < s2.heap.objs.size:=fun b hb=>by
  obtain ⟨o,e,_⟩:=T.obj _ _ st2 b hb
  exact Heap.lt_size e
 have hC:s2.heap.objs.size<=G.objs.size:=by rw [sG]; exact Nat.le_succ _
 have aC:s2.heap.objs.size ≠ G.objs.size:=by rw [sG]; exact Nat.ne_of_lt (Nat.lt_succ_self _)
 have old:∀ b o,s2.heap.get? b=some o->h1.get? b=some o:=fun b o e=>by
  have lt:=Heap.lt_size e
  have ne:b ≠ G.objs.size:=Nat.ne_of_lt (Nat.lt_of_lt_of_le lt hC)
  rw [sb1.2 b ne]
  exact Heap.get?_push_of_some _ (hP ▸ Heap.get?_push_of_some _ e)
 have accO:h1.PlainList s2.heap.objs.size #[]:=⟨_,by
  rw [sb1.2 _ aC]
  exact Heap.get?_push_of_some _ (hP ▸ Heap.get?_push_size _ rfl)⟩
 have IB:=uH (t:=s2.toks + ([]:List (Str × Value)).length) I2 K hC f2 fl old ns1
 have up:∀ y c,(aO X.env sc.names []).lookup y=some c->X.env.cells.lookup y=some c:=fun y c e=>by
  rcases cN sc.names [] hcl e with q | q
  ·cases q
  ·exact q
 have accNotCell:∀ y c,(aO X.env sc.names []).lookup y=some c->c ≠ s2.heap.objs.size:=fun y c e z=>by
  obtain ⟨v,q⟩:=I2.cell y c (up y c e)
  exact absurd q.lt (by rw [z]; exact Nat.lt_irrefl _)
 have accFs:s2.heap.objs.size ∉ frs X.stack:=fun z=>by
  rcases List.mem_cons.mp (I2.kP _ z) with q | q
  ·exact absurd I2.lt (by rw [<- q]; exact Nat.lt_irrefl _)
  ·exact I2.v8 (Nat.le_refl _) q
 have accFp:s2.heap.objs.size ∉ fp:=fun z=>absurd (fl _ z) (Nat.lt_irrefl _)
 have stat:∀ {H':Hp} {ob:Obj},(∀ b ∈ fp,H' b=none)->∀ b ∈ fp,kX (blk X sc (aO X.env sc.names []) G.objs.size N' s2 H2 fp) [(s2.heap.objs.size,ob)] H' b:=fun {H' ob} hn b hb=>by
  refine ⟨hn b hb,Nat.ne_of_lt (Nat.lt_of_lt_of_le (fl b hb) hC),IB.ok.exfs b hb,.inl hb,fun y c e=>(f2 b hb).2.2.2.2.1 y c (up y c e),fun p hp z => ?_⟩
  have ep:p=(s2.heap.objs.size,ob):=by simpa [blk] using hp
  subst ep
  exact accFp (by rw [show s2.heap.objs.size=b from z]; exact hb)
 have accPin:∀ {pl:List (Addr × Obj)} {σ':St} {H':Hp} {s':Shared} {its:Array Value} {n:Nat},Inv (blk X sc (aO X.env sc.names []) G.objs.size N' s2 H2 fp) pl σ' H' s'->s'.heap.get? s2.heap.objs.size=some { cls := .type "list",data := .seq its n } →
   H' s2.heap.objs.size=none->Inv (blk X sc (aO X.env sc.names []) G.objs.size N' s2 H2 fp) [(s2.heap.objs.size,{ cls := .type "list",data := .seq its n })] σ' H' s':=fun {pl σ' H' s' its n} J' e nn=>J'.fU fun p hp=>by
  have ep:p=(s2.heap.objs.size,({ cls := .type "list",data := .seq its n }:Obj)):=by simpa [blk] using hp
  subst ep
  exact ⟨e,nn,aC,accFs,fun v z=>nomatch z⟩
 have loop:codeAny (model X.prog X.w) X.A (.compLoop (.ListComp elt [⟨target,iter,ifs,0⟩] sc pos) 0 (.ref it) (.ref s2.heap.objs.size) (compEnvC sc (aO X.env sc.names []) G.objs.size X.env))
   (compPost (model X.prog X.w) X.A X.xe use Q2 (.ref s2.heap.objs.size) G.objs.size) { s2 with heap:=h1,toks:=s2.toks + ([]:List (Str × Value)).length }:=by
  refine om (fun n s'=>∃ i ys its nn σ' H',Inv (blk X sc (aO X.env sc.names []) G.objs.size N' s2 H2 fp) [(s2.heap.objs.size,{ cls := .type "list",data := .seq its nn })] σ' H' s'/\Vals ys its.toList/\tn i s'.heap/\(∀ b ∈ fp,H' b=none)/\W i n σ' ys H')
   (fun n s3 h3 => ?_) m0 ?_
  ·obtain ⟨i,ys,its,nn,σ3,H3,I3,r3,st3,fr3,w3⟩:=h3
   obtain ⟨e3,a3,_,_,_⟩:=I3.pin (s2.heap.objs.size,{ cls := .type "list",data := .seq its nn }) (by simp [blk])
   rcases turn i n σ3 ys H3 w3 with ⟨stop,zl,q3⟩ | ⟨go,step⟩
   ·refine thn (T.done (blk X sc (aO X.env sc.names []) G.objs.size N' s2 H2 fp) rfl rfl rfl hcalm i _ s3 σ3 H3 _ I3 (stat fr3) st3 stop) fun r s4 ⟨hr,I4⟩ => ?_
    subst hr
    obtain ⟨e4,a4,_,_,_⟩:=I4.pin (s2.heap.objs.size,{ cls := .type "list",data := .seq its nn }) (by simp [blk])
    obtain ⟨m4,n4,_⟩:=I4.loc
    obtain ⟨oC,es4,ep4,c4,d4,r4⟩:=id n4
    have ltA:∀ b o,s2.heap.get? b=some o->b ≠ s2.heap.objs.size:=fun b o e=>Nat.ne_of_lt (Heap.lt_size e)
    have B:=I4.base
    have hok:HOk X.prog X.w (upd H3 s2.heap.objs.size (.lst ys)) s4.heap:=fun b o e=>by
     by_cases hb:b=s2.heap.objs.size
     ·subst hb
      rw [ag] at e
      cases e
      exact ⟨zl,its.toList,nn,r3,e4⟩
     ·rw [aD hb] at e
      refine (I4.hok b o e).stay (fun c u hc q=>q) (fun c q => ?_) (fun c xs q => ?_)
      ·rw [aD (aB q a4)]; exact q
      ·rw [aD (aB q a4)]; exact q
    have I5:Inv X pins σ (upd H3 s2.heap.objs.size (.lst ys)) s4:=by
     refine I2.xF (ch:=fp) I4.os ⟨fun b o e n hb hx=>B.keep b o e n hb hx,fun b o e n hb hx=>B.slot b o e n hb hx,fun b o e n hx => ?_,fun b o e hx=>B.there b o e hx,fun b xs e => ?_,fun b o u e => ?_,fun b ps e => ?_⟩ hok I4.bare (fun b hb => ?_)
     ·rw [aD (ltA b o e)]; exact B.free b o e n hx
     ·have q:=B.tups b xs e
      rw [aD (aB q a4)]; exact q
     ·have q:=B.frzs b o u e
      rw [aD (aB q a4)]; exact q
     ·obtain ⟨more,q⟩:=B.tbls b ps e
      exact ⟨more,by rw [aD (aB q a4)]; exact q⟩
     ·obtain ⟨g0,g1,g2,g3,g4,g5⟩:=f2 b hb
      exact ⟨g3,g1,g4,g5⟩
    have cL:G.objs.size ≠ X.env.locals:=Nat.ne_of_gt (Nat.lt_of_lt_of_le I2.lt hC)
    have I6:Inv X (pins ++ [(G.objs.size,oC)]) σ (upd H3 s2.heap.objs.size (.lst ys)) s4:=I5.fU fun p hp=>by
     rcases List.mem_append.mp hp with q | q
     ·exact I5.pin p (List.mem_append_right _ q)
     ·have ep:p=(G.objs.size,oC):=by simpa using q
      subst ep
      exact ⟨c4,by rw [aD (Ne.symm aC)]; exact I4.free,cL,I2.v8 hC,fun v z=>by rw [d4] at z; cases z⟩
    refine fin s4 H3 s2.heap.objs.size G.objs.size ys oC I6 ⟨m4,n4⟩ (Nat.le_trans I2.sz hC) (fun y c e z => ?_) (fun p hp z => ?_) (q3 _ a4)
    ·obtain ⟨v,q⟩:=I2.cell y c e
     exact absurd (Nat.lt_of_lt_of_le q.lt hC) (by rw [z]; exact Nat.lt_irrefl _)
    ·exact absurd (Nat.lt_of_lt_of_le (Heap.lt_size (I2.pin p hp).1) hC) (by rw [z]; exact Nat.lt_irrefl _)
   ·refine thn (T.item (blk X sc (aO X.env sc.names []) G.objs.size N' s2 H2 fp) rfl rfl rfl hcalm i _ s3 σ3 H3 _ I3 (stat fr3) st3 go) fun r s4 ⟨u,hr,h4⟩ => ?_
    subst hr
    refine thn h4 fun _ s5 ⟨x,H5,I5,r5,y5,st5,fr5⟩ => ?_
    have I5':=I5.pinned (stat fr5) (T.obj _ _ st5)
    refine thn (hg _ _ _ _ _ _ s5 σ3 H5 x u _ I5' r5 (step x H5 y5)) fun _ s6 ⟨σ6,H6,I6,q6⟩ => ?_
    refine thn (hc _ _ _ _ _ _ s6 σ6 H6 _ I6 q6) fun ok s7 ⟨H7,I7,q7⟩ => ?_
    have back:∀ {σ7:St} {H7:Hp} {s7:Shared},Inv (blk X sc (aO X.env sc.names []) G.objs.size N' s2 H2 fp) ([(s2.heap.objs.size,{ cls := .type "list",data := .seq its nn })] ++ fK fp s5.heap) σ7 H7 s7->tn (i + 1) s7.heap/\∀ b ∈ fp,H7 b=none:=fun J7 =>
     ⟨T.keep _ _ _ st5 fun b hb o e=>(J7.pin (b,o) (List.mem_append_right _ (List.mem_append_right _ (cS hb e)))).1,fun b hb=>by
      obtain ⟨o,e,d⟩:=T.obj _ _ st5 b hb
      exact (J7.pin (b,o) (List.mem_append_right _ (List.mem_append_right _ (cS hb e)))).2.1⟩
    cases ok with
    | false =>
     rw [if_neg (by decide)] at q7
     obtain ⟨m',lm,w7⟩:=q7
     show ∃ m,m < n/\_
     exact ⟨m',lm,i + 1,ys,its,nn,σ6,H7,I7.dJ,r3,(back I7).1,(back I7).2,w7⟩
    | true =>
     rw [if_pos rfl] at q7
     refine thn (he _ _ _ _ _ _ s7 σ6 H7 _ I7 q7) fun z s8 ⟨y,H8,I8,r8,lz,m',lm,w8⟩ => ?_
     obtain ⟨e8,a8,_,_,_⟩:=I8.pin (s2.heap.objs.size,{ cls := .type "list",data := .seq its nn }) (by simp [blk])
     have sz:its.size<=sizeLine:=by
      have l:ys.length=its.size:=r3.length.trans Array.length_toList
      rw [<- l]
      exact Nat.le_of_lt lz
     refine wpAny_list_append_plain ⟨nn,e8⟩ (fun h' pl' sb' => ?_) sz
     obtain ⟨n9,e9⟩:=pl'
     have I8p:Inv (blk X sc (aO X.env sc.names []) G.objs.size N' s2 H2 fp) (fK fp s5.heap) σ6 H8 s8:=I8.fU fun p hp=>I8.pin p (List.mem_append_right _ (List.mem_append_right _ hp))
     have I9:=I8p.turned (it:=s2.heap.objs.size) (h':=h') (t':=s8.toks) (fun b o ne e=>by rw [sb'.2 b ne]; exact e) a8 aC (.inr (Nat.le_refl _)) (fun y c e=>accNotCell y c e) (fun p hp z=>by
      have hp':p ∈ fK fp s5.heap:=by simpa [blk] using hp
      exact accFp (by rw [<- z]; exact (jN hp').1))
     have b9:tn (i + 1) h'/\∀ b ∈ fp,H8 b=none :=
      ⟨T.keep _ _ _ st5 fun b hb o e=>(I9.pin (b,o) (List.mem_append_right _ (cS hb e))).1,(back I8).2⟩
     exact ⟨m',lm,i + 1,ys ++ [y],its.push z,n9,σ6,H8,accPin I9 e9 a8,by rw [Array.toList_push]; exact r3.append (.cons r8 .nil),b9.1,b9.2,w8⟩
  ·obtain ⟨n0,e0⟩:=accO
   exact ⟨0,[], #[],n0,_,H2,accPin IB e0 (I2.hok.fresh (Nat.le_refl _)),.nil,T.keep _ _ _ st2 fun b hb o e=>old b o e,fun b hb=>(f2 b hb).1,w0⟩
 exact codeAny_compStart_list loop (T.self _ 0 _ _ _ (T.keep _ _ _ st2 fun b hb o e=>old b o e) loop)
theorem dr {elt target iter:Expr} {ifs:List Expr} {sc:Scope} {pos:Pos} {wi:TI} {g:TG} {tc:TT} {te:TE} (N':List Str) (ix:List (Option Nat))
  (hcalm:X.calm=true) (hi:PI X target iter wi) (hk:mC X.env.scope.names X.N sc N' ix=true)
  (hg:∀ cl C s H fp,PG (blk X sc cl C N' s H fp) target g) (hc:∀ cl C s H fp,PF (blk X sc cl C N' s H fp) ifs tc) (he:∀ cl C s H fp,PE (blk X sc cl C N' s H fp) elt te)
  (hs:∀ x,foldedSetIterable iter X.env x=pure x:=by intro _; rfl):PE X (.ListComp elt [⟨target,iter,ifs,0⟩] sc pos) (si ix wi g tc te):=by
 intro pins s σ H Q I h
 rw [eval_ListComp]
 refine jV hcalm hi hk hg hc he hs (fun s4 H3 acc C ys oC I4 ns hC hc hp q => ?_) I h
 obtain ⟨m,ns⟩:=ns
 refine ⟨m,ns,fun h' sb=>⟨.ref acc,_,?_,rfl,q⟩⟩
 obtain ⟨_,n0,n1,n2,_⟩:=I4.pin (C,oC) (by simp)
 exact (I4.dJ).turned (it:=C) (h':=h') (t':=s4.toks) (fun b o ne e=>by rw [sb.2 b ne]; exact e) n0 n1 (.inr hC) hc hp
theorem cY {elt target iter:Expr} {ifs:List Expr} {sc:Scope} {pos pos' spos:Pos} {wi:TI} {g:TG} {tc:TT} {te:TE} {i:Nat} {x:Str} (N':List Str) (ix:List (Option Nat))
    (hcalm:X.calm=true) (hN:X.N.Nodup) (hx:X.N[i]? = some x) (hl:X.env.scope.names.lookup x=some .local)
    (hi:PI X target iter wi) (hk:mC X.env.scope.names X.N sc N' ix=true)
    (hg:∀ cl C s H fp,PG (blk X sc cl C N' s H fp) target g) (hc:∀ cl C s H fp,PF (blk X sc cl C N' s H fp) ifs tc) (he:∀ cl C s H fp,PE (blk X sc cl C N' s H fp) elt te)
    (hsw:swapsWith (.ListComp elt [⟨target,iter,ifs,0⟩] sc pos) (some (.Name x pos')) spos.line X.env=pure true:=by rfl)
    (hs:∀ x,foldedSetIterable iter X.env x=pure x:=by intro _; rfl):PS X (.Assign [.Name x pos'] (.ListComp elt [⟨target,iter,ifs,0⟩] sc pos) spos) (we (si ix wi g tc te) (hZ i)):=by
  intro pins s σ H D I h
  rw [exec_Assign_Name_used _ _ _ _ hsw]
  refine wpAny_bind (wpAny_standAt (wpAny_bind ?_))
  show wpAny _ X.A (do let _ ← comprehension (.ListComp elt [⟨target,iter,ifs,0⟩] sc pos) sc X.env _ (newList []) false (eval iter X.env) (some (assign (.Name x pos') X.env))) _ _ s
  refine wpAny_bind (wpAny_mono (jV (Q:=fun v H1=>D.nx (σ.set i (some v)) H1) (Q2:=fun _ s'=>SP X pins D .next s') hcalm hi hk hg hc he hs (fun s4 H3 acc C ys oC I4 ns hC hc hp q => ?_) I h) (fun _ s' q=>wpAny_pure (wpAny_pure q)) fun _ _ e=>e)
  obtain ⟨m,ns⟩:=ns
  obtain ⟨e0,n0,n1,n2,_⟩:=I4.pin (C,oC) (by simp)
  show wpAny _ X.A (assign (.Name x pos') X.env (.ref acc)) _ _ s4
  refine thn ((aj (i:=i) hN hx (.inl hl) (.inr hl)) (pins ++ [(C,oC)]) s4 σ _ (.ref acc) (.ref acc) _ I4 rfl q) fun _ s5 ⟨σ5,H5,I5,q5⟩ => ?_
  obtain ⟨e5,k0,k1,k2,_⟩:=I5.pin (C,oC) (by simp)
  obtain ⟨o',es',ep',c',r'⟩:=ns
  have e':=e0.symm.trans c'
  cases e'
  refine ⟨m,⟨_,es',ep',e5,r'⟩,fun h' sb=>⟨σ5,H5,?_,q5⟩⟩
  exact (I5.dJ).turned (it:=C) (h':=h') (t':=s5.toks) (fun b o ne e=>by rw [sb.2 b ne]; exact e) k0 k1 (.inr hC) hc hp
end
open PySem PySem.Spec PyProof.Rows
section
variable {X:Cx} {sc:Scope} {N':List Str} {ix:List (Option Nat)} {pins:List (Addr × Obj)} {σ:St} {H:Hp} {s:Shared}
end
section
variable {X:Cx}
end
open PySem PySem.Spec PyProof.Rows
section
variable {X:Cx}
theorem lq {j:Int} (h0:0 < j) (h:j < 2 ^ 200):j.natAbs.log2 < 9000:=by
 have h1:j.natAbs < 2 ^ 200:=by omega
 have h2:j.natAbs.log2 < 200:=(Nat.log2_lt (by omega)).mpr h1
 omega
def yc (_ j:Int):Prop:=0 < j/\j < 2 ^ 200
theorem az:bJ X (.builtin "divmod") (fun xs H Q=>∃ i j,xs=[.int i,.int j]/\yc i j/\∀ p,H p=none->Q (.ref p) (upd H p (.tup [.int (i / j),.int (i % j)]))):=by
 intro pins s σ H xs us Q I r h
 obtain ⟨i,j,rfl,⟨h1,h2⟩,q⟩:=h
 obtain ⟨u,w',rfl,⟨t,rfl⟩,⟨t',rfl⟩⟩:=vals2 r
 refine divmod_int (by omega) ?_ (.inl (PyProof.noPylong_of_log2 (lq h1 h2)))
 rw [Int.fdiv_eq_ediv_of_nonneg i (by omega),Int.fmod_eq_emod_of_nonneg i (by omega)]
 refine ⟨.ref s.heap.objs.size,_,?_,rfl,q _ I.fresh⟩
 refine I.laid (fun b o e=>Heap.get?_push_of_some _ e) (Nat.le_refl _) ⟨by simp only [List.length_cons,List.length_nil]; rw [sizeLine_eq]; decide,[.int (i / j) s.toks,.int (i % j) (s.toks + 1)],.cons ⟨_,rfl⟩ (.cons ⟨_,rfl⟩ .nil),?_⟩
 exact ⟨_,Heap.get?_push_size s.heap rfl,⟨rfl,rfl⟩,0,rfl⟩
def yd (K:PySem.W.Frag):R2:=fun x y H Q=>∃ l b xs zs,x = .ref l/\y = .ref b/\SqL K H l xs/\SqL K H b zs/\xs.length + zs.length<=sizeLine/\∀ p,H p=none->Q (.ref p) (upd H p (.lst (xs ++ zs)))
theorem ly:OpR X (binaryOp .Add) (yd X.K):=by
 intro pins s σ H x y v u Q I rx ry h
 obtain ⟨l,b,xs,zs,rfl,rfl,hH,hB,hz,q⟩:=h
 cases rx
 cases ry
 obtain ⟨its,r,e,z⟩:=I.list hH
 obtain ⟨its2,r2,e2,z2⟩:=I.list hB
 obtain ⟨⟨c1,d1,da1,sl1⟩,n,e,k1,k2,k3⟩:=e
 obtain ⟨⟨c2,d2,da2,sl2⟩,n2,e2,g1,g2,g3⟩:=e2
 simp only at k1 k3 g1 g3
 subst k1 k3 g1 g3
 have l1:=r.length
 have l2:=r2.length
 have ea:its.toArray ++ its2.toArray=(its ++ its2).toArray:=by simp
 refine concat_meets ⟨_,e,rfl⟩ ⟨_,e2,rfl⟩ noFill_list_add seq_list_add PySem.F.slot_list_add PySem.F.entry_list_add
  (PySem.F.args_list_add_2 _ _) (list_addW l b its.toArray its2.toArray n n2 d1 d2 sl1 sl2 (by rw [List.size_toArray,List.size_toArray]; omega)) ⟨e,e2,?_⟩
 rw [ea]
 exact ⟨.ref _,_,I.x9 (t':=s.toks) (r.append r2) (by rw [List.length_append]; omega),rfl,q _ I.fresh⟩
theorem ia:bJ X (.builtin "isinstance") (fun xs H Q=>∃ x T t b,xs=[x,.ty T]/\fW X.K H x t/\PySem.W.kitOne X.K t (.type T)=some b/\Q (.bl b) H):=by
 intro pins s σ H xs us Q I r h
 obtain ⟨x,T,t,b,rfl,ty,e,q⟩:=h
 obtain ⟨u,w',rfl,ru,rw'⟩:=vals2 r
 cases (show w'=Value.type T from rw')
 exact qw I ru ty e fun tk=>⟨.bl b,H,I.tok tk,rfl,q⟩
end
def sj (k:Nat) (tc:TT) (te:TE) (τ : St) (Pv:Nat->List V->Hp->Prop) (i:Nat) (x:V) (ys:List V) (H:Hp):Prop :=
 ∀ (R1:V->Hp->Prop) (R0:Hp->Prop),(∀ y H4,Pv (i + 1) (ys ++ [y]) H4->R1 y H4)->(∀ H3,Pv (i + 1) ys H3->R0 H3)->tc (τ.set k (some x)) H fun b H3=>if b=true then te (τ.set k (some x)) H3 R1 else R0 H3
theorem cZ {K:PySem.W.Frag} {a:Addr} {xs:List V} {k:Nat} {tc:TT} {te:TE} {τ : St} {H:Hp} {Q:VK} (Pv:Nat->List V->Hp->Prop) (h0:Pv 0 [] H) (hz:xs.length<=sizeLine)
  (hl:∀ i ys H,i<=xs.length->Pv i ys H->SqL K H a xs) (hs:∀ i x ys H,xs[i]? = some x->ys.length<=i->Pv i ys H->sj k tc te τ Pv i x ys H)
  (hd:∀ ys H,ys.length<=xs.length->Pv xs.length ys H->∀ l,H l=none->Q (.ref l) (upd H l (.lst ys))) :
  mD (Itl K a) (hZ k) tc te τ Q H:=by
 refine ⟨fun i m σ ys H=>m=xs.length - i/\i<=xs.length/\(∀ x,σ.set k (some x) = τ.set k (some x))/\ys.length<=i/\Pv i ys H,⟨xs.length,by simp,Nat.zero_le _,fun _=>rfl,Nat.le_refl _,h0⟩,?_⟩
 rintro i m σ ys H ⟨rfl,hi,hτ,hy,p⟩
 have q:=hl i ys H hi p
 by_cases hlt:i < xs.length
 ·refine .inr ⟨⟨xs,xs[i],q,by simp [hlt]⟩,fun x H' y => ?_⟩
  obtain ⟨e,y⟩:=y
  subst e
  show tc (σ.set k (some x)) _ _
  rw [hτ x]
  have hσ:∀ z,(τ.set k (some x)).set k (some z) = τ.set k (some z):=fun z=>by rw [List.set_set]
  refine hs i x ys _ (y xs q) hy p _ _ (fun y4 H4 p4=>⟨by omega,xs.length - (i + 1),by omega,rfl,hlt,hσ,by rw [List.length_append,List.length_singleton]; omega,p4⟩) fun H3 p3=>⟨xs.length - (i + 1),by omega,rfl,hlt,hσ,by omega,p3⟩
 ·have e:i=xs.length:=by omega
  subst e
  exact .inl ⟨⟨xs,q,Nat.le_refl _⟩,by omega,hd ys H hy p⟩
theorem jW {K:PySem.W.Frag} {a:Addr} {xs:List V} {k:Nat} {tc:TT} {te:TE} {τ : St} {H:Hp} {Q:VK} (Pv:Nat->List V->Hp->Prop) (h0:Pv 0 [] H) (hz:xs.length<=sizeLine)
  (hl:∀ i ys H,i<=xs.length->Pv i ys H->SqT K H a xs) (hs:∀ i x ys H,xs[i]? = some x->ys.length<=i->Pv i ys H->sj k tc te τ Pv i x ys H)
  (hd:∀ ys H,ys.length<=xs.length->Pv xs.length ys H->∀ l,H l=none->Q (.ref l) (upd H l (.lst ys))) :
  mD (Itt K a) (hZ k) tc te τ Q H:=by
 refine ⟨fun i m σ ys H=>m=xs.length - i/\i<=xs.length/\(∀ x,σ.set k (some x) = τ.set k (some x))/\ys.length<=i/\Pv i ys H,⟨xs.length,by simp,Nat.zero_le _,fun _=>rfl,Nat.le_refl _,h0⟩,?_⟩
 rintro i m σ ys H ⟨rfl,hi,hτ,hy,p⟩
 have q:=hl i ys H hi p
 by_cases hlt:i < xs.length
 ·refine .inr ⟨⟨xs,xs[i],q,by simp [hlt]⟩,fun x H' y => ?_⟩
  obtain ⟨e,y⟩:=y
  subst e
  show tc (σ.set k (some x)) _ _
  rw [hτ x]
  have hσ:∀ z,(τ.set k (some x)).set k (some z) = τ.set k (some z):=fun z=>by rw [List.set_set]
  refine hs i x ys _ (y xs q) hy p _ _ (fun y4 H4 p4=>⟨by omega,xs.length - (i + 1),by omega,rfl,hlt,hσ,by rw [List.length_append,List.length_singleton]; omega,p4⟩) fun H3 p3=>⟨xs.length - (i + 1),by omega,rfl,hlt,hσ,by omega,p3⟩
 ·have e:i=xs.length:=by omega
  subst e
  exact .inl ⟨⟨xs,q,Nat.le_refl _⟩,by omega,hd ys H hy p⟩
theorem dt {lo:Int} {n:Nat} {k:Nat} {tc:TT} {te:TE} {τ : St} {H:Hp} {Q:VK} (Pv:Nat->List V->Hp->Prop) (h0:Pv 0 [] H) (hz:n<=sizeLine)
  (hs:∀ i ys H,i < n->ys.length<=i->Pv i ys H->sj k tc te τ Pv i (.int (lo + i)) ys H)
  (hd:∀ ys H,ys.length<=n->Pv n ys H->∀ l,H l=none->Q (.ref l) (upd H l (.lst ys))) :
  mD (Itr lo n) (hZ k) tc te τ Q H:=by
 refine ⟨fun i m σ ys H=>m=n - i/\i<=n/\(∀ x,σ.set k (some x) = τ.set k (some x))/\ys.length<=i/\Pv i ys H,⟨n,by simp,Nat.zero_le _,fun _=>rfl,Nat.le_refl _,h0⟩,?_⟩
 rintro i m σ ys H ⟨rfl,hi,hτ,hy,p⟩
 by_cases hlt:i < n
 ·refine .inr ⟨hlt,fun x H' y => ?_⟩
  obtain ⟨e,y⟩:=y
  subst e y
  show tc (σ.set k (some (.int (lo + i)))) _ _
  rw [hτ]
  have hσ:∀ z,(τ.set k (some (.int (lo + i)))).set k (some z) = τ.set k (some z):=fun z=>by rw [List.set_set]
  refine hs i ys _ hlt hy p _ _ (fun y4 H4 p4=>⟨by omega,n - (i + 1),by omega,rfl,hlt,hσ,by rw [List.length_append,List.length_singleton]; omega,p4⟩) fun H3 p3=>⟨n - (i + 1),by omega,rfl,hlt,hσ,by omega,p3⟩
 ·have e:i=n:=by omega
  subst e
  exact .inl ⟨Nat.le_refl _,by omega,hd ys H hy p⟩
structure Cal (P:Program) (w:World) (K:PySem.W.Frag) (mg:Str->Option Value) (base:Heap) (k:Nat) (x:Str) (ps:List Str) (sp:Sp):Prop where
 ex:∃ f fd,cy P w K mg base CX0 k f fd ps sp/\mg x=some (.ref f)/\PySem.W.keepIn K (.ref f)=true/\Binds K fd ps []
theorem bM {X:Cx} {j k:Nat} {x:Str} {ps:List Str} {sp:Sp} {e:Expr} {es:List Expr} {t:TA} {p pos:Pos} (C:Cal X.prog X.w X.K X.mg X.base k x ps sp) (hr:di j X.A) (hj:k<=j) (hg:Gl X x) (ha:PA X (e :: es) t)
  (hdb:(x == ("__debug__" : Str))=false:=by decide) (he:starEach (e :: es) X.env=(false,eval e X.env) :: starEach es X.env:=by rfl) (hpl:(backTo pos (starEach es X.env)).any (·.1)=false:=by rfl) :
  PE X (.Call (.Name x p) (e :: es) [] pos) (vJ sp [] E0 t):=by
 obtain ⟨f,fd,F,m,kp,b⟩:=C.ex
 exact ux F (hr.mono hj) hg m kp b .nil yb ha hdb he hpl
theorem ae {H:Hp} {p:Addr} (h:H p=none) (o:HO):aA H (upd H p o):=fun b u q=>by rw [aD (aB q h)]; exact q
theorem small {n:Nat} (h:n<=1000):n<=sizeLine:=Nat.le_of_lt (bW h)
open PySem PySem.Spec PyProof.Rows
section
variable {X:Cx}
theorem mE {its:List Value} {bs:List Bool} (h:Vals (bs.map V.bl) its) {prog:Program} {w:World} {A:Around}:TruthOf prog w A (fun i v=>its.toArray[i]? = some v) (fun i=>bs.getD i false):=by
 intro i v s Q E hv q
 have l:=h.length
 rw [List.length_map] at l
 have hi:i < its.length:=by
  rw [List.getElem?_toArray] at hv
  exact (List.getElem?_eq_some_iff.mp hv).1
 have e:(bs.map V.bl)[i]? = some (.bl (bs.getD i false)):=by
  rw [List.getElem?_map,List.getD_eq_getElem?_getD,List.getElem?_eq_getElem (by omega)]
  rfl
 obtain ⟨u,e1,e2⟩:=h.get e
 rw [List.getElem?_toArray,e1] at hv
 have ev:u=v:=Option.some.inj hv
 subst ev
 cases (show u=Value.bool _ from e2)
 exact wpAny_truthy_bool q
theorem all_range (bs:List Bool):((List.range bs.length).all fun i=>bs.getD i false)=bs.all id:=by
 rw [Bool.eq_iff_iff,List.all_eq_true,List.all_eq_true]
 constructor
 ·intro h x hx
  obtain ⟨i,e⟩:=List.mem_iff_getElem?.mp hx
  have hi:i < bs.length:=(List.getElem?_eq_some_iff.mp e).1
  have q:=h i (List.mem_range.mpr hi)
  rw [List.getD_eq_getElem?_getD,e] at q
  exact q
 ·intro h i hi
  have hi':=List.mem_range.mp hi
  rw [List.getD_eq_getElem?_getD,List.getElem?_eq_getElem hi']
  exact h _ (List.getElem_mem hi')
theorem mF (hc:X.calm=true):bJ X (.builtin "all") (fun xs H Q=>∃ (p:Addr) (bs:List Bool),xs=[.ref p]/\SqL X.K H p (bs.map V.bl)/\Q (.bl (bs.all id)) H):=by
 intro pins s σ H xs us Q I r h
 obtain ⟨p,bs,rfl,hs,q⟩:=h
 obtain ⟨u,rfl,ru⟩:=vals1 r
 cases (show u=Value.ref p from ru)
 obtain ⟨its,rv,pl,hz⟩:=I.list hs
 have l:=rv.length
 rw [List.length_map] at l
 have hpl:p < s.heap.objs.size:=by obtain ⟨o,_,e,_⟩:=pl; exact Heap.lt_size e
 refine call_all_walk (wpAny_pyIter_list pl.isList ?_)
 have hd:X.A.in1.handled=none:=I.ok.hd hc
 refine ⟨s.heap.objs.size,_,_,_,_,_,_,rfl,Walks.list hd s.heap.objs.size p (Nat.ne_of_lt hpl) its.toArray,⟨⟨_,Heap.get?_push_size _ rfl,rfl,rfl⟩,?_⟩,mE rv,fun h' tk k => ?_⟩
 ·exact pl.isList.at fun o e=>Heap.get?_push_of_some _ e
 ·have e:((List.range its.toArray.size).all fun i=>bs.getD i false)=bs.all id:=by rw [List.size_toArray, <- l,all_range]
  rw [e]
  refine ⟨.bl (bs.all id),H,I.kept (t':=tk) (fun b o eb=>k b o ?_ (Heap.get?_push_of_some _ eb)),rfl,q⟩
  intro hb
  have:b=s.heap.objs.size:=by simpa using hb
  exact absurd (Heap.lt_size eb) (by rw [this]; exact Nat.lt_irrefl _)
end
open PySem PySem.Spec PyProof.Rows
def vL (K:PySem.W.Frag) (k l:Nat):TG:=xN K 2 (rQ (hZ k) (rQ (hZ l) xM))
def ye (k l:Nat) (tc:TT) (te:TE) (τ : St) (Pv:Nat->List V->Hp->Prop) (i:Nat) (a b:V) (ys:List V) (H:Hp):Prop :=
 ∀ (R1:V->Hp->Prop) (R0:Hp->Prop),(∀ y H4,Pv (i + 1) (ys ++ [y]) H4->R1 y H4)->(∀ H3,Pv (i + 1) ys H3->R0 H3)->tc ((τ.set k (some a)).set l (some b)) H fun c H3=>if c=true then te ((τ.set k (some a)).set l (some b)) H3 R1 else R0 H3
theorem iI {K:PySem.W.Frag} {p:Addr} {ts:List (Addr × V × V)} {k l:Nat} {tc:TT} {te:TE} {τ : St} {H:Hp} {Q:VK} (Pv:Nat->List V->Hp->Prop) (hkl:k ≠ l) (h0:Pv 0 [] H) (hz:ts.length<=sizeLine)
  (hl:∀ i ys H,i<=ts.length->Pv i ys H->SqL K H p (ts.map fun t => .ref t.1)/\∀ t ∈ ts,SqT K H t.1 [t.2.1,t.2.2])
  (hs:∀ i t ys H,ts[i]? = some t->ys.length<=i->Pv i ys H->ye k l tc te τ Pv i t.2.1 t.2.2 ys H)
  (hd:∀ ys H,ys.length<=ts.length->Pv ts.length ys H->∀ r,H r=none->Q (.ref r) (upd H r (.lst ys))):mD (Itl K p) (vL K k l) tc te τ Q H:=by
 refine ⟨fun i m σ ys H=>m=ts.length - i/\i<=ts.length/\(∀ a b,(σ.set k (some a)).set l (some b)=(τ.set k (some a)).set l (some b))/\ys.length<=i/\Pv i ys H,⟨ts.length,by simp,Nat.zero_le _,fun _ _=>rfl,Nat.le_refl _,h0⟩,?_⟩
 rintro i m σ ys H ⟨rfl,hi,hτ,hy,pv⟩
 obtain ⟨q,qt⟩:=hl i ys H hi pv
 have ln:(ts.map fun t:Addr × V × V=>V.ref t.1).length=ts.length:=List.length_map _
 by_cases hlt:i < ts.length
 ·have et:ts[i]? = some ts[i]:=List.getElem?_eq_getElem hlt
  have em:(ts.map fun t:Addr × V × V=>V.ref t.1)[i]? = some (.ref ts[i].1):=by rw [List.getElem?_map,et]; rfl
  refine .inr ⟨⟨_,_,q,em⟩,fun x H' y => ?_⟩
  obtain ⟨e,y⟩:=y
  subst e
  have ex:=y _ q
  rw [em] at ex
  cases ex
  have st:=qt ts[i] (List.getElem_mem hlt)
  refine ⟨ts[i].1,_,rfl,st,rfl,_,_,rfl,_,_,rfl,rfl,?_⟩
  rw [hτ]
  have hσ:∀ a b,((((τ.set k (some ts[i].2.1)).set l (some ts[i].2.2)).set k (some a)).set l (some b))=(τ.set k (some a)).set l (some b):=fun a b=>by
   rw [List.set_comm _ _ (Ne.symm hkl),List.set_set,List.set_set]
  refine hs i ts[i] ys _ et hy pv _ _ (fun y4 H4 p4=>⟨by omega,ts.length - (i + 1),by omega,rfl,hlt,hσ,by rw [List.length_append,List.length_singleton]; omega,p4⟩) fun H3 p3=>⟨ts.length - (i + 1),by omega,rfl,hlt,hσ,by omega,p3⟩
 ·have e:i=ts.length:=by omega
  subst e
  exact .inl ⟨⟨_,q,by rw [ln]; exact Nat.le_refl _⟩,by omega,hd ys H hy pv⟩
open PySem PySem.Spec PyProof.Rows
section
variable {X:Cx} {K:PySem.W.Frag}
theorem sk (h:X.K=K:=by rfl):IxR X (x6 K):=by subst h; exact cj
theorem uJ (h:X.K=K:=by rfl):IxR X (x8 K):=by subst h; exact aV
end
open PySem PySem.Spec PyProof.Rows
open PySem PySem.Spec PyProof.Rows
open PySem.AutoSeq1 (wpAny_loadPart')
section
variable {prog:Program} {w:World} {A:Around} {E:Value->Shared->Prop} {s:Shared}
end
open PySem PySem.Spec PyProof.Rows
section
variable {X:Cx}
end
end L2
namespace Srt
open PySem PyProof.Rows
def gal:Bool->Keyed->Array Keyed->Nat->Nat->Nat->StateT SortSt Sem (Option Nat):=sortPriv% PySem.Builtin.gallop
def mLo:Array Keyed->Array Keyed->StateT SortSt Sem (Array Keyed):=sortPriv% PySem.Builtin.mergeLo
def mHi:Array Keyed->Array Keyed->StateT SortSt Sem (Array Keyed):=sortPriv% PySem.Builtin.mergeHi
def mAt:Nat->StateT SortSt Sem Bool:=sortPriv% PySem.Builtin.mergeAt
def vM:StateT SortSt Sem Unit:=sortPriv% PySem.Builtin.sortRuns
def wL:Nat->Nat->StateT SortSt Sem (Option Nat):=sortPriv% PySem.Builtin.countRun
def so:Nat->Nat->Nat->StateT SortSt Sem Bool:=sortPriv% PySem.Builtin.binarySort
theorem wM (lf:Bool) (ky:Keyed) (ar:Array Keyed) (bs n ht:Nat):gal lf ky ar bs n ht=(do
    let far (i:Nat):StateT SortSt Sem (Option Bool):=do
      let z ← elem' ar (bs + i)
      if lf then lt' z ky else return (← lt' ky z).map (!·)
    let mut la:=0; let mut of:=1
    let mut lo:=0; let mut hi:=0
    let some rt ← far ht | return none
    if rt then
      let mx:=n - ht
      for _ in [0:n] do
        if of ≥ mx then break
        let some mo ← far (ht + of)
          | return none
        if !mo then break
        la:=of; of:=2 * of + 1
      lo:=ht + la + 1; hi:=ht + min of mx
    else
      let mx:=ht + 1
      for _ in [0:n] do
        if of ≥ mx then break
        let some fd ← far (ht - of)
          | return none
        if fd then break
        la:=of; of:=2 * of + 1
      lo:=ht + 1 - min of mx; hi:=ht - la
    for _ in [0:n] do
      if lo ≥ hi then break
      let md:=lo + (hi - lo) / 2
      let some mo ← far md | return none
      if mo then lo:=md + 1 else hi:=md
    return some hi):=rfl
section
variable {prog:Program} {w:World} {A:Around} {E:Value->Shared->Prop} {s:Shared}
theorem sq {lf:Bool} {ky:Keyed} {ar:Array Keyed} {bs n ht:Nat} {st:SortSt} {Q:Option Nat->SortSt->Prop} (p:Nat->Bool)
    (hf:∀ i,i < n->∀ (Q:Option Bool->SortSt->Prop),Q (some (p i)) st->wpS (model prog w) A E s (do let z ← elem' ar (bs + i); if lf then lt' z ky else return (← lt' ky z).map (!·)) Q st)
    (hp:∀ i j,i<=j->j < n->p j=true->p i=true) (hh:ht < n)
    (h:∀ k,k<=n->(∀ i,i < k->p i=true)->(∀ i,k<=i->i < n->p i=false)->Q (some k) st):wpS (model prog w) A E s (gal lf ky ar bs n ht) Q st:=by
  rw [wM]
  dsimp only
  refine wpS_bind (hf ht hh _ ?_)
  dsimp only
  cases hr:p ht with
  | true =>
    rw [if_pos rfl]
    refine wpS_bind (wpS_mono (wpS_forRange (I:=fun x c st'=>st=st'/\∃ la of,c=(none,la,of)/\la < of/\x + 1<=of/\ht + la < n/\p (ht + la)=true)
      (Q:=fun c st'=>st=st'/\∃ la of,c=(none,la,of)/\la < of/\ht + la < n/\p (ht + la)=true/\(n - ht<=of\/(ht + of < n/\p (ht + of)=false))) ?step ?fin ⟨rfl,0,1,rfl,by omega,by omega,by omega,by simpa using hr⟩) ?post)
    case fin =>
      rintro c st' ⟨rfl,la,of,rfl,b1,b2,b3,b4⟩
      exact ⟨rfl,la,of,rfl,b1,b3,b4,.inl (by omega)⟩
    case step =>
      rintro x c st' _ hx ⟨rfl,la,of,rfl,b1,b2,b3,b4⟩
      dsimp only
      by_cases hge:of ≥ n - ht
      · rw [if_pos hge]
        exact wpS_pure ⟨rfl,la,of,rfl,b1,b3,b4,.inl hge⟩
      · rw [if_neg hge]
        refine wpS_bind (hf _ (by omega) _ ?_)
        dsimp only
        cases hm:p (ht + of) with
        | true =>
          simp only [Bool.not_true,Bool.false_eq_true,if_false]
          exact wpS_pure ⟨rfl,of,2 * of + 1,rfl,by omega,by omega,by omega,hm⟩
        | false =>
          simp only [Bool.not_false,if_true]
          exact wpS_pure ⟨rfl,la,of,rfl,b1,b3,b4,.inr ⟨by omega,hm⟩⟩
    case post =>
      rintro c st' ⟨rfl,la,of,rfl,b1,b3,b4,b5⟩
      have h1:(ht + la + 1)<=(ht + min of (n - ht)):=by omega
      have h2:(ht + min of (n - ht))<=n:=by omega
      have h3:∀ i,i < (ht + la + 1)->p i=true:=fun i hi=>hp i (ht + la) (by omega) b3 b4
      have h4:∀ i,(ht + min of (n - ht))<=i->i < n->p i=false:=fun i hi hn=>by
        rcases b5 with b5 | ⟨b5,b6⟩
        · omega
        · cases hpi:p i with
          | false=>rfl
          | true=>rw [hp (ht + of) i (by omega) hn hpi] at b6; cases b6
      dsimp only
      refine wpS_bind (wpS_mono (wpS_forRange (I:=fun x c st'=>st=st'/\∃ lo hi,c=(none,lo,hi)/\lo<=hi/\hi<=n/\hi - lo<=n - x/\(∀ i,i < lo->p i=true)/\(∀ i,hi<=i->i < n->p i=false))
        (Q:=fun c st'=>st=st'/\∃ k,c=(none,k,k)/\k<=n/\(∀ i,i < k->p i=true)/\(∀ i,k<=i->i < n->p i=false)) ?step ?fin ⟨rfl,(ht + la + 1),(ht + min of (n - ht)),rfl,h1,h2,by omega,h3,h4⟩) ?post)
      case fin =>
        rintro c st' ⟨rfl,lo,hi,rfl,a1,a2,a3,a4,a5⟩
        have e:lo=hi:=by omega
        subst e
        exact ⟨rfl,lo,rfl,a2,a4,a5⟩
      case post =>
        rintro c st' ⟨rfl,k,rfl,a2,a4,a5⟩
        exact wpS_pure (h k a2 a4 a5)
      case step =>
        rintro x c st' _ hx ⟨rfl,lo,hi,rfl,a1,a2,a3,a4,a5⟩
        dsimp only
        by_cases hge:lo ≥ hi
        · rw [if_pos hge]
          have e:lo=hi:=by omega
          subst e
          exact wpS_pure ⟨rfl,lo,rfl,a2,a4,a5⟩
        · rw [if_neg hge]
          refine wpS_bind (hf _ (by omega) _ ?_)
          dsimp only
          cases hm:p (lo + (hi - lo) / 2) with
          | true =>
            rw [if_pos rfl]
            exact wpS_pure ⟨rfl,_,_,rfl,by omega,a2,by omega,fun i hi'=>hp i _ (by omega) (by omega) hm,a5⟩
          | false =>
            rw [if_neg (by simp)]
            refine wpS_pure ⟨rfl,_,_,rfl,by omega,by omega,by omega,a4,fun i hi' hn => ?_⟩
            cases hpi:p i with
            | false=>rfl
            | true=>rw [hp _ i hi' hn hpi] at hm; cases hm
  | false =>
    rw [if_neg (by simp)]
    refine wpS_bind (wpS_mono (wpS_forRange (I:=fun x c st'=>st=st'/\∃ la of,c=(none,la,of)/\la < of/\x + 1<=of/\la<=ht/\p (ht - la)=false)
      (Q:=fun c st'=>st=st'/\∃ la of,c=(none,la,of)/\la < of/\la<=ht/\p (ht - la)=false/\(ht + 1<=of\/(of<=ht/\p (ht - of)=true))) ?step ?fin ⟨rfl,0,1,rfl,by omega,by omega,by omega,by simpa using hr⟩) ?post)
    case fin =>
      rintro c st' ⟨rfl,la,of,rfl,b1,b2,b3,b4⟩
      exact ⟨rfl,la,of,rfl,b1,b3,b4,.inl (by omega)⟩
    case step =>
      rintro x c st' _ hx ⟨rfl,la,of,rfl,b1,b2,b3,b4⟩
      dsimp only
      by_cases hge:of ≥ ht + 1
      · rw [if_pos hge]
        exact wpS_pure ⟨rfl,la,of,rfl,b1,b3,b4,.inl hge⟩
      · rw [if_neg hge]
        refine wpS_bind (hf _ (by omega) _ ?_)
        dsimp only
        cases hm:p (ht - of) with
        | true =>
          rw [if_pos rfl]
          exact wpS_pure ⟨rfl,la,of,rfl,b1,b3,b4,.inr ⟨by omega,hm⟩⟩
        | false =>
          rw [if_neg (by simp)]
          exact wpS_pure ⟨rfl,of,2 * of + 1,rfl,by omega,by omega,by omega,hm⟩
    case post =>
      rintro c st' ⟨rfl,la,of,rfl,b1,b3,b4,b5⟩
      have h1:(ht + 1 - min of (ht + 1))<=(ht - la):=by omega
      have h2:(ht - la)<=n:=by omega
      have h3:∀ i,i < (ht + 1 - min of (ht + 1))->p i=true:=fun i hi=>by
        rcases b5 with b5 | ⟨b5,b6⟩
        · omega
        · exact hp i (ht - of) (by omega) (by omega) b6
      have h4:∀ i,(ht - la)<=i->i < n->p i=false:=fun i hi hn=>by
        cases hpi:p i with
        | false=>rfl
        | true=>rw [hp (ht - la) i hi hn hpi] at b4; cases b4
      dsimp only
      refine wpS_bind (wpS_mono (wpS_forRange (I:=fun x c st'=>st=st'/\∃ lo hi,c=(none,lo,hi)/\lo<=hi/\hi<=n/\hi - lo<=n - x/\(∀ i,i < lo->p i=true)/\(∀ i,hi<=i->i < n->p i=false))
        (Q:=fun c st'=>st=st'/\∃ k,c=(none,k,k)/\k<=n/\(∀ i,i < k->p i=true)/\(∀ i,k<=i->i < n->p i=false)) ?step ?fin ⟨rfl,(ht + 1 - min of (ht + 1)),(ht - la),rfl,h1,h2,by omega,h3,h4⟩) ?post)
      case fin =>
        rintro c st' ⟨rfl,lo,hi,rfl,a1,a2,a3,a4,a5⟩
        have e:lo=hi:=by omega
        subst e
        exact ⟨rfl,lo,rfl,a2,a4,a5⟩
      case post =>
        rintro c st' ⟨rfl,k,rfl,a2,a4,a5⟩
        exact wpS_pure (h k a2 a4 a5)
      case step =>
        rintro x c st' _ hx ⟨rfl,lo,hi,rfl,a1,a2,a3,a4,a5⟩
        dsimp only
        by_cases hge:lo ≥ hi
        · rw [if_pos hge]
          have e:lo=hi:=by omega
          subst e
          exact wpS_pure ⟨rfl,lo,rfl,a2,a4,a5⟩
        · rw [if_neg hge]
          refine wpS_bind (hf _ (by omega) _ ?_)
          dsimp only
          cases hm:p (lo + (hi - lo) / 2) with
          | true =>
            rw [if_pos rfl]
            exact wpS_pure ⟨rfl,_,_,rfl,by omega,a2,by omega,fun i hi'=>hp i _ (by omega) (by omega) hm,a5⟩
          | false =>
            rw [if_neg (by simp)]
            refine wpS_pure ⟨rfl,_,_,rfl,by omega,by omega,by omega,a4,fun i hi' hn => ?_⟩
            cases hpi:p i with
            | false=>rfl
            | true=>rw [hp _ i hi' hn hpi] at hm; cases hm
end
open PySem PyProof.Rows
structure Cmp (prog:Program) (w:World) (A:Around) (s:Shared) (O:KeyOrd) (key:Keyed->O.α) (U:Keyed->Prop) (κ : SortKind):Prop where
 lt:∀ (E:Value->Shared->Prop) (st:SortSt) (x y:Keyed) (Q:Option Bool->SortSt->Prop),kindOf st = κ -> U x->U y->Q (some (O.blt (key x) (key y))) st->wpS (model prog w) A E s (lt' x y) Q st
section
variable {prog:Program} {w:World} {A:Around} {E:Value->Shared->Prop} {s:Shared} {O:KeyOrd} {key:Keyed->O.α} {U:Keyed->Prop} {κ : SortKind}
theorem aT {ar:Array Keyed} {i:Nat} {z:Keyed} {st:SortSt} {Q:Keyed->SortSt->Prop} (h:ar[i]? = some z) (hq:Q z st):wpS (model prog w) A E s (elem' ar i) Q st:=by
 rw [elem'_eq,h]
 exact wpS_pure hq
theorem wN (C:Cmp prog w A s O key U κ) {ky:Keyed} {ar:Array Keyed} {bs n ht:Nat} {st:SortSt} {Q:Option Nat->SortSt->Prop} (g:Nat->Keyed) (hk:kindOf st = κ) (uk:U ky)
  (hg:∀ i,i < n->ar[bs + i]? = some (g i)) (hu:∀ i,i < n->U (g i)) (hs:∀ i j,i<=j->j < n->O.kle (key (g i)) (key (g j))) (hh:ht < n)
  (h:∀ k,k<=n->(∀ i,i < k->O.kle (key (g i)) (key ky))->(∀ i,k<=i->i < n->O.klt (key ky) (key (g i)))->Q (some k) st):wpS (model prog w) A E s (gal false ky ar bs n ht) Q st:=by
 refine sq (fun i => !O.blt (key ky) (key (g i))) (fun i hi R hr => ?_) (fun i j hij hj hp => ?_) hh (fun k hk' h1 h2=>h k hk' (fun i hi => ?_) fun i hi hn => ?_)
 ·refine wpS_bind (aT (hg i hi) ?_)
  rw [if_neg (by simp)]
  exact wpS_bind (C.lt _ st ky (g i) _ hk uk (hu i hi) (wpS_pure hr))
 ·have a1:O.blt (key ky) (key (g j))=false:=by simpa using hp
  have a2:O.kle (key (g i)) (key ky):=KeyOrd.kle_trans (hs i j hij hj) a1
  have a3:O.blt (key ky) (key (g i))=false:=a2
  simp [a3]
 ·have a1:=h1 i hi
  exact (by simpa using a1:O.blt (key ky) (key (g i))=false)
 ·have a1:=h2 i hi hn
  exact (by simpa using a1:O.blt (key ky) (key (g i))=true)
theorem wO (C:Cmp prog w A s O key U κ) {ky:Keyed} {ar:Array Keyed} {bs n ht:Nat} {st:SortSt} {Q:Option Nat->SortSt->Prop} (g:Nat->Keyed) (hk:kindOf st = κ) (uk:U ky)
  (hg:∀ i,i < n->ar[bs + i]? = some (g i)) (hu:∀ i,i < n->U (g i)) (hs:∀ i j,i<=j->j < n->O.kle (key (g i)) (key (g j))) (hh:ht < n)
  (h:∀ k,k<=n->(∀ i,i < k->O.klt (key (g i)) (key ky))->(∀ i,k<=i->i < n->O.kle (key ky) (key (g i)))->Q (some k) st):wpS (model prog w) A E s (gal true ky ar bs n ht) Q st:=by
 refine sq (fun i=>O.blt (key (g i)) (key ky)) (fun i hi R hr => ?_) (fun i j hij hj hp => ?_) hh (fun k hk' h1 h2=>h k hk' (fun i hi=>h1 i hi) fun i hi hn=>h2 i hi hn)
 ·refine wpS_bind (aT (hg i hi) ?_)
  rw [if_pos rfl]
  exact C.lt _ st (g i) ky _ hk (hu i hi) uk hr
 ·exact KeyOrd.klt_of_kle_of_klt (hs i j hij hj) hp
end
open PySem PyProof.Rows
section
variable {O:KeyOrd} (key:Keyed->O.α)
def Le (p q:Keyed):Prop:=O.kle (key p) (key q)
structure MW (a b o:Array Keyed) (x y:Nat):Prop where
 hx:x<=a.size
 hy:y<=b.size
 perm:(o.toList ++ (a.toList.drop x ++ b.toList.drop y)).Perm (a.toList ++ b.toList)
 sorted:o.toList.Pairwise (Le key)
 below:∀ p ∈ o.toList,∀ z ∈ a.toList.drop x ++ b.toList.drop y,Le key p z
def dC (a b r:Array Keyed):Prop:=r.toList.Perm (a.toList ++ b.toList)/\r.toList.Pairwise (Le key)
variable {key}
theorem MW.fin {a b o:Array Keyed} {x y:Nat} (m:MW key a b o x y) {t:List Keyed} {r:Array Keyed} (hr:r.toList=o.toList ++ t) (ht:t.Perm (a.toList.drop x ++ b.toList.drop y)) (hs:t.Pairwise (Le key)):dC key a b r:=by
 unfold dC
 rw [hr]
 exact ⟨(List.Perm.append_left _ ht).trans m.perm,List.pairwise_append.mpr ⟨m.sorted,hs,fun p hp q hq=>m.below p hp q (ht.mem_iff.mp hq)⟩⟩
theorem MW.take {a b o:Array Keyed} {x y x' y':Nat} (m:MW key a b o x y) {t:List Keyed} {r:Array Keyed} (hr:r.toList=o.toList ++ t) (hx:x'<=a.size) (hy:y'<=b.size)
  (ht:(t ++ (a.toList.drop x' ++ b.toList.drop y')).Perm (a.toList.drop x ++ b.toList.drop y)) (hs:t.Pairwise (Le key)) (hb:∀ p ∈ t,∀ z ∈ a.toList.drop x' ++ b.toList.drop y',Le key p z):MW key a b r x' y':=by
 have sub:∀ z,z ∈ t\/z ∈ a.toList.drop x' ++ b.toList.drop y'->z ∈ a.toList.drop x ++ b.toList.drop y:=fun z hz=>ht.mem_iff.mp (List.mem_append.mpr hz)
 refine ⟨hx,hy,?_,?_,?_⟩
 ·rw [hr,List.append_assoc]
  exact (List.Perm.append_left _ ht).trans m.perm
 ·rw [hr]
  exact List.pairwise_append.mpr ⟨m.sorted,hs,fun p hp q hq=>m.below p hp q (sub q (.inl hq))⟩
 ·rw [hr]
  intro p hp z hz
  rcases List.mem_append.mp hp with h | h
  ·exact m.below p h z (sub z (.inr hz))
  ·exact hb p h z hz
theorem drop_cons {α : Type} {l:List α} {i:Nat} {z : α} (h:l[i]? = some z):l.drop i=z :: l.drop (i + 1):=by
 obtain ⟨hi,e⟩:=List.getElem?_eq_some_iff.mp h
 rw [List.drop_eq_getElem_cons hi,e]
theorem drop_take {α : Type} (l:List α) (i k:Nat):l.drop i=(l.drop i).take k ++ l.drop (i + k):=by
 rw [<- List.drop_drop,List.take_append_drop]
theorem aF {a:Array Keyed} {i:Nat} {z:Keyed} (h:a[i]? = some z):a.toList[i]? = some z:=by rw [Array.getElem?_toList]; exact h
theorem MW.ib {a b o:Array Keyed} {x y:Nat} {z:Keyed} (m:MW key a b o x y) (h:a[x]? = some z) (ha:a.toList.Pairwise (Le key)) (hb:∀ t ∈ b.toList.drop y,Le key z t):MW key a b (o.push z) (x + 1) y:=by
 have e:=drop_cons (aF h)
 have hx:x < a.size:=(Array.getElem?_eq_some_iff.mp h).1
 have pa:(z :: a.toList.drop (x + 1)).Pairwise (Le key):=by rw [<- e]; exact ha.sublist (List.drop_sublist _ _)
 refine m.take (t:=[z]) (by rw [Array.toList_push]) hx m.hy (by rw [e]; exact List.Perm.refl _) (List.pairwise_singleton _ _) fun p hp t ht => ?_
 have ep:p=z:=by simpa using hp
 subst ep
 rcases List.mem_append.mp ht with q | q
 ·exact (List.pairwise_cons.mp pa).1 t q
 ·exact hb t q
theorem MW.jX {a b o:Array Keyed} {x y:Nat} {z:Keyed} (m:MW key a b o x y) (h:b[y]? = some z) (hb:b.toList.Pairwise (Le key)) (ha:∀ t ∈ a.toList.drop x,Le key z t):MW key a b (o.push z) x (y + 1):=by
 have e:=drop_cons (aF h)
 have hy:y < b.size:=(Array.getElem?_eq_some_iff.mp h).1
 have pb:(z :: b.toList.drop (y + 1)).Pairwise (Le key):=by rw [<- e]; exact hb.sublist (List.drop_sublist _ _)
 refine m.take (t:=[z]) (by rw [Array.toList_push]) m.hx hy (by rw [e,List.singleton_append]; exact List.perm_middle.symm) (List.pairwise_singleton _ _) fun p hp t ht => ?_
 have ep:p=z:=by simpa using hp
 subst ep
 rcases List.mem_append.mp ht with q | q
 ·exact ha t q
 ·exact (List.pairwise_cons.mp pb).1 t q
theorem ext_toList (a:Array Keyed) (x k:Nat):(a.extract x (x + k)).toList=(a.toList.drop x).take k:=by
 rw [Array.toList_extract,List.extract_eq_take_drop,Nat.add_sub_cancel_left]
theorem fh (a:Array Keyed) (x:Nat):(a.extract x a.size).toList=a.toList.drop x:=by
 rw [Array.toList_extract,List.extract_eq_take_drop]
 exact List.take_of_length_le (by rw [List.length_drop,Array.length_toList]; exact Nat.le_refl _)
theorem aG {l:List Keyed} (h:l.Pairwise (Le key)) {i j:Nat} {p q:Keyed} (hi:l[i]? = some p) (hj:l[j]? = some q) (hij:i<=j):Le key p q:=by
 by_cases e:i=j
 ·subst e
  rw [hi] at hj
  cases hj
  exact KeyOrd.kle_refl _
 ·obtain ⟨h1,e1⟩:=List.getElem?_eq_some_iff.mp hi
  obtain ⟨h2,e2⟩:=List.getElem?_eq_some_iff.mp hj
  have:=List.pairwise_iff_getElem.mp h i j h1 h2 (by omega)
  rw [e1,e2] at this
  exact this
theorem aS {l:List Keyed} {i:Nat} {t:Keyed} (h:t ∈ l.drop i):∃ j,i<=j/\l[j]? = some t:=by
 obtain ⟨n,e⟩:=List.mem_iff_getElem?.mp h
 rw [List.getElem?_drop] at e
 exact ⟨i + n,by omega,e⟩
theorem ic {l:List Keyed} {i k:Nat} {t:Keyed} (h:t ∈ (l.drop i).take k):∃ j,j < k/\l[i + j]? = some t:=by
 obtain ⟨n,e⟩:=List.mem_iff_getElem?.mp h
 rw [List.getElem?_take] at e
 split at e
 ·rw [List.getElem?_drop] at e
  exact ⟨n,by omega,e⟩
 ·cases e
theorem MW.sr {a b o:Array Keyed} {x y k:Nat} (m:MW key a b o x y) (hk:x + k<=a.size) (ha:a.toList.Pairwise (Le key)) (hb:∀ j p,j < k->a.toList[x + j]? = some p->∀ t ∈ b.toList.drop y,Le key p t):MW key a b (o ++ a.extract x (x + k)) (x + k) y:=by
 refine m.take (t:=(a.toList.drop x).take k) (by rw [Array.toList_append,ext_toList]) hk m.hy ?_ ?_ fun p hp t ht => ?_
 ·rw [<- List.append_assoc, <- drop_take]
 ·exact ha.sublist ((List.take_sublist _ _).trans (List.drop_sublist _ _))
 ·obtain ⟨j,hj,e⟩:=ic hp
  rcases List.mem_append.mp ht with q | q
  ·obtain ⟨i,hi,e2⟩:=aS q
   exact aG ha e e2 (by omega)
  ·exact hb j p hj e t q
theorem MW.su {a b o:Array Keyed} {x y k:Nat} (m:MW key a b o x y) (hk:y + k<=b.size) (hb:b.toList.Pairwise (Le key)) (ha:∀ j p,j < k->b.toList[y + j]? = some p->∀ t ∈ a.toList.drop x,Le key p t):MW key a b (o ++ b.extract y (y + k)) x (y + k):=by
 refine m.take (t:=(b.toList.drop y).take k) (by rw [Array.toList_append,ext_toList]) m.hx hk ?_ ?_ fun p hp t ht => ?_
 ·rw [drop_take b.toList y k]
  have e:((b.toList.drop y).take k ++ b.toList.drop (y + k)).take k=(b.toList.drop y).take k:=by rw [<- drop_take]
  rw [e]
  refine (List.perm_append_comm_assoc _ _ _)
 ·exact hb.sublist ((List.take_sublist _ _).trans (List.drop_sublist _ _))
 ·obtain ⟨j,hj,e⟩:=ic hp
  rcases List.mem_append.mp ht with q | q
  ·exact ha j p hj e t q
  ·obtain ⟨i,hi,e2⟩:=aS q
   exact aG hb e e2 (by omega)
theorem MW.qB {a b o:Array Keyed} {x y:Nat} (m:MW key a b o x y) (ha:a.toList.Pairwise (Le key)) (hy:y=b.size):dC key a b (o ++ a.extract x a.size ++ b.extract y b.size):=by
 subst hy
 have e:b.toList.drop b.size=[]:=List.drop_eq_nil_of_le (by rw [Array.length_toList]; exact Nat.le_refl _)
 refine m.fin (t:=a.toList.drop x) (by rw [Array.toList_append,Array.toList_append,fh,fh,e,List.append_nil]) (by rw [e,List.append_nil]) (ha.sublist (List.drop_sublist _ _))
theorem MW.qC {a b o:Array Keyed} {x y:Nat} (m:MW key a b o x y) (hb:b.toList.Pairwise (Le key)) (hx:x=a.size):dC key a b (o ++ a.extract x a.size ++ b.extract y b.size):=by
 subst hx
 have e:a.toList.drop a.size=[]:=List.drop_eq_nil_of_le (by rw [Array.length_toList]; exact Nat.le_refl _)
 refine m.fin (t:=b.toList.drop y) (by rw [Array.toList_append,Array.toList_append,fh,fh,e,List.append_nil]) (by rw [e,List.nil_append]) (hb.sublist (List.drop_sublist _ _))
theorem MW.last {a b o:Array Keyed} {x y:Nat} (m:MW key a b o x y) (ha:a.toList.Pairwise (Le key)) (hb:b.toList.Pairwise (Le key)) (hx:x + 1=a.size) (hl:∀ p q,p ∈ b.toList->a[a.size - 1]? = some q->Le key p q):dC key a b (o ++ b.extract y b.size ++ a.extract x a.size):=by
 refine m.fin (t:=b.toList.drop y ++ a.toList.drop x) (by rw [Array.toList_append,Array.toList_append,fh,fh,List.append_assoc]) List.perm_append_comm ?_
 refine List.pairwise_append.mpr ⟨hb.sublist (List.drop_sublist _ _),ha.sublist (List.drop_sublist _ _),fun p hp q hq=>hl p q (List.mem_of_mem_drop hp) ?_⟩
 obtain ⟨i,hi,e⟩:=aS hq
 rw [Array.getElem?_toList] at e
 have hi2:i < a.size:=(Array.getElem?_eq_some_iff.mp e).1
 rw [show a.size - 1=i by omega]
 exact e
theorem MW.size {a b o:Array Keyed} {x y:Nat} (m:MW key a b o x y):o.size + (a.size - x) + (b.size - y)=a.size + b.size:=by
 have e:=m.perm.length_eq
 simp only [List.length_append,List.length_drop,Array.length_toList] at e
 omega
end
structure Sm (st st':SortSt):Prop where
 k:kindOf st'=kindOf st
 a:arrOf st'=arrOf st
 p:pendingOf st'=pendingOf st
 f:failedOf st'=failedOf st
theorem Sm.refl (st:SortSt):Sm st st:=⟨rfl,rfl,rfl,rfl⟩
theorem Sm.mg {st st':SortSt} (h:Sm st st') (n:Nat):Sm st (SortSt.mk' (kindOf st') (arrOf st') (pendingOf st') n (failedOf st')):=⟨h.k,h.a,h.p,h.f⟩
open PySem PyProof.Rows
section
variable {prog:Program} {w:World} {A:Around} {E:Value->Shared->Prop} {s:Shared} {O:KeyOrd} {key:Keyed->O.α} {U:Keyed->Prop} {κ : SortKind}
theorem aY {a:Array Keyed} {i:Nat} (h:i < a.size):∃ z,a[i]? = some z:=⟨a[i],by simp [h]⟩
theorem bP {a:Array Keyed} {i:Nat} {z:Keyed} (h:a[i]? = some z):z ∈ a.toList:=List.mem_iff_getElem?.mpr ⟨i,by rw [Array.getElem?_toList]; exact h⟩
theorem ltq {x n:Nat} (h:x<=n) (c:¬ (x == n)=true):x < n:=Nat.lt_of_le_of_ne h fun z=>c (beq_iff_eq.mpr z)
abbrev LoC:=Option (Array Keyed) × Array Keyed × Nat × Nat × Nat × Nat × Nat
def uK (a b o:Array Keyed) (x y mg ac bc:Nat):StateT SortSt Sem (ForInStep LoC):=do
  let z ← elem' a x
  if (x + 1 + 1 == a.size)=true then pure (.done (some (o.push z ++ b.extract y b.size ++ a.extract (x + 1) a.size),o.push z,x + 1,y,mg,ac,bc))
  else if (decide (ac < 7) && decide (bc < 7))=true then pure (.done (none,o.push z,x + 1,y,mg,ac,bc))
  else pure (.yield (none,o.push z,x + 1,y,mg,ac,bc))
def uL (a b o:Array Keyed) (x y mg ac bc:Nat):StateT SortSt Sem (ForInStep LoC):=do
  let z ← elem' b y
  if (y + 1 == b.size)=true then pure (.done (some (o.push z ++ a.extract x a.size ++ b.extract (y + 1) b.size),o.push z,x,y + 1,mg,ac,bc))
  else do
    let z2 ← elem' a x
    let __x ← gal true z2 b (y + 1) (b.size - (y + 1)) 0
    match __x with
    | some k =>
      if k > 0 then
        if (y + 1 + k == b.size)=true then pure (.done (some (o.push z ++ b.extract (y + 1) (y + 1 + k) ++ a.extract x a.size ++ b.extract (y + 1 + k) b.size),o.push z ++ b.extract (y + 1) (y + 1 + k),x,y + 1 + k,mg,ac,k))
        else uK a b (o.push z ++ b.extract (y + 1) (y + 1 + k)) x (y + 1 + k) mg ac k
      else uK a b (o.push z) x (y + 1) mg ac k
    | _=>pure (.done (some (o.push z ++ a.extract x a.size ++ b.extract (y + 1) b.size),o.push z,x,y + 1,mg,ac,bc))
def qD (a b p:Array Keyed) (x y ac bc mg:Nat):StateT SortSt Sem (ForInStep LoC):=do
  modify (fun s=>SortSt.mk' (kindOf s) (arrOf s) (pendingOf s) mg (failedOf s))
  let z ← elem' b y
  let __x ← gal false z a x (a.size - x) 0
  match __x with
  | some k =>
    if k > 0 then
      if (x + k + 1 == a.size)=true then pure (.done (some (p ++ a.extract x (x + k) ++ b.extract y b.size ++ a.extract (x + k) a.size),p ++ a.extract x (x + k),x + k,y,mg,k,bc))
      else if (x + k == a.size)=true then pure (.done (some (p ++ a.extract x (x + k) ++ a.extract (x + k) a.size ++ b.extract y b.size),p ++ a.extract x (x + k),x + k,y,mg,k,bc))
      else uL a b (p ++ a.extract x (x + k)) (x + k) y mg k bc
    else uL a b p x y mg k bc
  | _=>pure (.done (some (p ++ a.extract x a.size ++ b.extract y b.size),p,x,y,mg,ac,bc))
def LoQ (key:Keyed->O.α) (a b:Array Keyed) (st:SortSt) (n:Nat) (r:ForInStep LoC) (st':SortSt):Prop:=match r with
 | .done c=>Sm st st'/\((∃ r p x y mg ac bc,c=(some r,p,x,y,mg,ac,bc)/\dC key a b r)\/∃ p x y mg ac bc,c=(none,p,x,y,mg,ac,bc)/\MW key a b p x y/\x + 1 < a.size/\y < b.size/\n<=p.size)
 | .yield c=>Sm st st'/\∃ p x y mg ac bc,c=(none,p,x,y,mg,ac,bc)/\MW key a b p x y/\x + 1 < a.size/\y < b.size/\n<=p.size
theorem LoQ.out {a b:Array Keyed} {st st':SortSt} {n:Nat} {r:Array Keyed} {c:Array Keyed × Nat × Nat × Nat × Nat × Nat} (sm:Sm st st') (f:dC key a b r):LoQ key a b st n (.done (some r,c)) st':=by
 obtain ⟨p,x,y,mg,ac,bc⟩:=c
 exact ⟨sm,.inl ⟨_,_,_,_,_,_,_,rfl,f⟩⟩
theorem pD {a b:Array Keyed} {st st':SortSt} (ha:a.toList.Pairwise (Le key)) (hb:b.toList.Pairwise (Le key)) (hl:∀ p q,p ∈ b.toList->a[a.size - 1]? = some q->Le key p q)
  {o:Array Keyed} {x y mg ac bc n:Nat} {za:Keyed} (sm:Sm st st') (ea:a[x]? = some za) (m4:MW key a b (o.push za) (x + 1) y) (hx:x + 1 < a.size) (hy:y < b.size) (hn:n<=o.size):wpS (model prog w) A E s (uK a b o x y mg ac bc) (LoQ key a b st n) st':=by
 unfold uK
 refine wpS_bind (aT ea ?_)
 by_cases d5:(x + 1 + 1 == a.size)=true
 ·rw [if_pos d5]
  exact wpS_pure (LoQ.out sm (m4.last ha hb (beq_iff_eq.mp d5) hl))
 rw [if_neg d5]
 have hx2:x + 1 + 1 < a.size:=ltq hx d5
 have hn':n<=(o.push za).size:=by rw [Array.size_push]; exact Nat.le_succ_of_le hn
 split
 ·exact wpS_pure ⟨sm,.inr ⟨_,_,_,_,_,_,rfl,m4,hx2,hy,hn'⟩⟩
 ·exact wpS_pure ⟨sm,_,_,_,_,_,_,rfl,m4,hx2,hy,hn'⟩
theorem pE (C:Cmp prog w A s O key U κ) {a b:Array Keyed} {st st':SortSt} (hκ : kindOf st = κ) (ua:∀ p ∈ a.toList,U p) (ub:∀ p ∈ b.toList,U p)
  (ha:a.toList.Pairwise (Le key)) (hb:b.toList.Pairwise (Le key)) (hl:∀ p q,p ∈ b.toList->a[a.size - 1]? = some q->Le key p q)
  {o:Array Keyed} {x y mg ac bc n:Nat} {zb:Keyed} (sm:Sm st st') (eb:b[y]? = some zb) (mk:MW key a b o x y) (bl:∀ t ∈ a.toList.drop x,Le key zb t) (hx1:x + 1 < a.size) (hy:y < b.size) (hn:n<=o.size):wpS (model prog w) A E s (uL a b o x y mg ac bc) (LoQ key a b st n) st':=by
 unfold uL
 refine wpS_bind (aT eb ?_)
 have m2:=mk.jX eb hb bl
 by_cases d3:(y + 1 == b.size)=true
 ·rw [if_pos d3]
  exact wpS_pure (LoQ.out sm (m2.qB ha (beq_iff_eq.mp d3)))
 rw [if_neg d3]
 have hy1:y + 1 < b.size:=ltq hy d3
 have hxa:x < a.size:=Nat.lt_of_succ_lt hx1
 obtain ⟨za,ea⟩:=aY hxa
 refine wpS_bind (aT ea ?_)
 refine wpS_bind (wO C (fun i=>(b[y + 1 + i]?).getD za) (sm.k.trans hκ) (ua _ (bP ea)) (fun i hi => ?_) (fun i hi => ?_) (fun i j hij hj => ?_) (Nat.sub_pos_of_lt hy1) fun k1 hk1 g1 g2 => ?_)
 ·obtain ⟨z,e⟩:=aY (show y + 1 + i < b.size by omega)
  rw [e]; rfl
 ·obtain ⟨z,e⟩:=aY (show y + 1 + i < b.size by omega)
  rw [e]; exact ub _ (bP e)
 ·obtain ⟨z,e⟩:=aY (show y + 1 + i < b.size by omega)
  obtain ⟨z',e'⟩:=aY (show y + 1 + j < b.size by omega)
  rw [e,e']; exact aG hb (aF e) (aF e') (Nat.add_le_add_left hij _)
 dsimp only at g1 g2 ⊢
 have tb:∀ j q,j < k1->b.toList[y + 1 + j]? = some q->∀ t ∈ a.toList.drop x,Le key q t:=fun j q hj e t ht=>by
  have z:=g1 j hj
  rw [Array.getElem?_toList] at e
  rw [e] at z
  obtain ⟨n,hn,e2⟩:=aS ht
  exact KeyOrd.kle_trans (KeyOrd.kle_of_klt z) (aG ha (aF ea) e2 hn)
 have hk1':y + 1 + k1<=b.size:=by omega
 have m3:=m2.su (k:=k1) hk1' hb tb
 have bl2:∀ t ∈ b.toList.drop (y + 1 + k1),Le key za t:=fun t ht=>by
  obtain ⟨n,hn,e2⟩:=aS ht
  rw [Array.getElem?_toList] at e2
  have hn2:n < b.size:=(Array.getElem?_eq_some_iff.mp e2).1
  have z:=g2 (n - (y + 1)) (by omega) (by omega)
  rw [show y + 1 + (n - (y + 1))=n by omega,e2] at z
  exact z
 have hn1:n<=(o.push zb).size:=by rw [Array.size_push]; exact Nat.le_succ_of_le hn
 by_cases k2:k1 > 0
 ·rw [if_pos k2]
  by_cases d4:(y + 1 + k1 == b.size)=true
  ·rw [if_pos d4]
   exact wpS_pure (LoQ.out sm (m3.qB ha (beq_iff_eq.mp d4)))
  rw [if_neg d4]
  exact pD ha hb hl sm ea (m3.ib ea ha bl2) hx1 (ltq hk1' d4) (Nat.le_trans hn1 (by rw [Array.size_append]; exact Nat.le_add_right _ _))
 ·rw [if_neg k2]
  obtain rfl:k1=0:=Nat.eq_zero_of_not_pos k2
  exact pD ha hb hl sm ea (m2.ib ea ha bl2) hx1 hy1 hn1
theorem pF (C:Cmp prog w A s O key U κ) {a b:Array Keyed} {st st':SortSt} (hκ : kindOf st = κ) (ua:∀ p ∈ a.toList,U p) (ub:∀ p ∈ b.toList,U p)
  (ha:a.toList.Pairwise (Le key)) (hb:b.toList.Pairwise (Le key)) (hl:∀ p q,p ∈ b.toList->a[a.size - 1]? = some q->Le key p q)
  {p:Array Keyed} {x y ac bc n:Nat} (mg:Nat) (sm:Sm st st') (m:MW key a b p x y) (hx:x + 1 < a.size) (hy:y < b.size) (hn:n<=p.size):wpS (model prog w) A E s (qD a b p x y ac bc mg) (LoQ key a b st n) st':=by
 unfold qD
 obtain ⟨zb,eb⟩:=aY hy
 refine wpS_bind (wpS_modify ?_)
 refine wpS_bind (aT eb ?_)
 refine wpS_bind (wN C (fun i=>(a[x + i]?).getD zb) ((sm.mg _).k.trans hκ) (ub _ (bP eb)) (fun i hi => ?_) (fun i hi => ?_) (fun i j hij hj => ?_) (Nat.sub_pos_of_lt (Nat.lt_of_succ_lt hx)) fun k hk h1 h2 => ?_)
 ·obtain ⟨z,e⟩:=aY (show x + i < a.size by omega)
  rw [e]; rfl
 ·obtain ⟨z,e⟩:=aY (show x + i < a.size by omega)
  rw [e]; exact ua _ (bP e)
 ·obtain ⟨z,e⟩:=aY (show x + i < a.size by omega)
  obtain ⟨z',e'⟩:=aY (show x + j < a.size by omega)
  rw [e,e']; exact aG ha (aF e) (aF e') (Nat.add_le_add_left hij _)
 dsimp only at h1 h2 ⊢
 have ta:∀ j q,j < k->a.toList[x + j]? = some q->∀ t ∈ b.toList.drop y,Le key q t:=fun j q hj e t ht=>by
  have z:=h1 j hj
  rw [Array.getElem?_toList] at e
  rw [e] at z
  obtain ⟨n,hn,e2⟩:=aS ht
  exact KeyOrd.kle_trans (show O.kle (key q) (key zb) from z) (aG hb (aF eb) e2 hn)
 have hk':x + k<=a.size:=by omega
 have mk:=m.sr (k:=k) hk' ha ta
 have bl:∀ t ∈ a.toList.drop (x + k),Le key zb t:=fun t ht=>by
  obtain ⟨n,hn,e2⟩:=aS ht
  rw [Array.getElem?_toList] at e2
  have hn2:n < a.size:=(Array.getElem?_eq_some_iff.mp e2).1
  have z:=h2 (n - x) (by omega) (by omega)
  rw [show x + (n - x)=n by omega,e2] at z
  exact KeyOrd.kle_of_klt z
 by_cases k0:k > 0
 ·rw [if_pos k0]
  by_cases d1:(x + k + 1 == a.size)=true
  ·rw [if_pos d1]
   exact wpS_pure (LoQ.out (sm.mg _) (mk.last ha hb (beq_iff_eq.mp d1) hl))
  rw [if_neg d1]
  by_cases d2:(x + k == a.size)=true
  ·rw [if_pos d2]
   exact wpS_pure (LoQ.out (sm.mg _) (mk.qC hb (beq_iff_eq.mp d2)))
  rw [if_neg d2]
  exact pE C hκ ua ub ha hb hl (sm.mg _) eb mk bl (ltq (ltq hk' d2) d1) hy (Nat.le_trans hn (by rw [Array.size_append]; exact Nat.le_add_right _ _))
 ·rw [if_neg k0]
  obtain rfl:k=0:=Nat.eq_zero_of_not_pos k0
  exact pE C hκ ua ub ha hb hl (sm.mg _) eb m bl hx hy hn
theorem uM (C:Cmp prog w A s O key U κ) {a b:Array Keyed} {st st':SortSt} (hκ : kindOf st = κ) (ua:∀ p ∈ a.toList,U p) (ub:∀ p ∈ b.toList,U p)
  (ha:a.toList.Pairwise (Le key)) (hb:b.toList.Pairwise (Le key)) (hl:∀ p q,p ∈ b.toList->a[a.size - 1]? = some q->Le key p q)
  {p:Array Keyed} {x y ac bc n mg:Nat} (sm:Sm st st') (m:MW key a b p x y) (hx:x + 1 < a.size) (hy:y < b.size) (hn:n<=p.size):wpS (model prog w) A E s (if mg > 1 then qD a b p x y ac bc (mg - 1) else qD a b p x y ac bc mg) (LoQ key a b st n) st':=by
 split
 ·exact pF C hκ ua ub ha hb hl (mg - 1) sm m hx hy hn
 ·exact pF C hκ ua ub ha hb hl mg sm m hx hy hn
abbrev LoD:=Option (Array Keyed) × Array Keyed × Nat × Nat × Nat × Nat
abbrev LoE:=Option (Array Keyed) × Array Keyed × Nat × Nat × Nat
def sv (a b:Array Keyed) (mg:Nat) (c:LoD):StateT SortSt Sem (ForInStep LoD):=do
  let u ← elem' b c.2.2.2.1
  let v ← elem' a c.2.2.1
  let __x ← lt' u v
  match __x with
  | some bw =>
    if bw=true then do
      let z ← elem' b c.2.2.2.1
      if (c.2.2.2.1 + 1 == b.size)=true then pure (.done (some (c.2.1.push z ++ a.extract c.2.2.1 a.size ++ b.extract (c.2.2.2.1 + 1) b.size),c.2.1.push z,c.2.2.1,c.2.2.2.1 + 1,0,c.2.2.2.2.2 + 1))
      else if c.2.2.2.2.2 + 1 ≥ mg then pure (.done (none,c.2.1.push z,c.2.2.1,c.2.2.2.1 + 1,0,c.2.2.2.2.2 + 1))
      else pure (.yield (none,c.2.1.push z,c.2.2.1,c.2.2.2.1 + 1,0,c.2.2.2.2.2 + 1))
    else do
      let z ← elem' a c.2.2.1
      if (c.2.2.1 + 1 + 1 == a.size)=true then pure (.done (some (c.2.1.push z ++ b.extract c.2.2.2.1 b.size ++ a.extract (c.2.2.1 + 1) a.size),c.2.1.push z,c.2.2.1 + 1,c.2.2.2.1,c.2.2.2.2.1 + 1,0))
      else if c.2.2.2.2.1 + 1 ≥ mg then pure (.done (none,c.2.1.push z,c.2.2.1 + 1,c.2.2.2.1,c.2.2.2.2.1 + 1,0))
      else pure (.yield (none,c.2.1.push z,c.2.2.1 + 1,c.2.2.2.1,c.2.2.2.2.1 + 1,0))
  | _=>pure (.done (some (c.2.1 ++ a.extract c.2.2.1 a.size ++ b.extract c.2.2.2.1 b.size),c.2.1,c.2.2.1,c.2.2.2.1,c.2.2.2.2.1,c.2.2.2.2.2))
def wQ (a b:Array Keyed) (c:LoC):StateT SortSt Sem (ForInStep LoC) :=
 if c.2.2.2.2.1 > 1 then qD a b c.2.1 c.2.2.1 c.2.2.2.1 c.2.2.2.2.2.1 c.2.2.2.2.2.2 (c.2.2.2.2.1 - 1) else qD a b c.2.1 c.2.2.1 c.2.2.2.1 c.2.2.2.2.2.1 c.2.2.2.2.2.2 c.2.2.2.2.1
def oq (a b:Array Keyed) (c:LoE):StateT SortSt Sem (ForInStep LoE):=do
  let d ← forIn [0:a.size + b.size] ((none,c.2.1,c.2.2.1,c.2.2.2.1,0,0):LoD) fun _ d=>sv a b c.2.2.2.2 d
  match d.1 with
  | some r=>pure (.done (some r,d.2.1,d.2.2.1,d.2.2.2.1,c.2.2.2.2))
  | none=>do
    rule "list.sort.gallop"
    let e ← forIn [0:a.size + b.size] ((none,d.2.1,d.2.2.1,d.2.2.2.1,c.2.2.2.2 + 1,d.2.2.2.2.1,d.2.2.2.2.2):LoC) fun _ e=>wQ a b e
    match e.1 with
    | some r=>pure (.done (some r,e.2.1,e.2.2.1,e.2.2.2.1,e.2.2.2.2.1))
    | none=>do
      modify (fun s=>SortSt.mk' (kindOf s) (arrOf s) (pendingOf s) (e.2.2.2.2.1 + 1) (failedOf s))
      pure (.yield (none,e.2.1,e.2.2.1,e.2.2.2.1,e.2.2.2.2.1 + 1))
theorem uN (a b:Array Keyed):mLo a b=(do
    rule "list.sort.merge-lo"
    let z ← elem' b 0
    if (1 == b.size)=true then pure (#[z] ++ a.extract 0 a.size ++ b.extract 1 b.size)
    else if (0 + 1 == a.size)=true then pure (#[z] ++ b.extract 1 b.size ++ a.extract 0 a.size)
    else do
      let g ← get
      let c ← forIn [0:a.size + b.size] ((none, #[z],0,1,gallopOf g):LoE) fun _ c=>oq a b c
      match c.1 with
      | some r=>pure r
      | none=>unsupported "internal:list.sort.merge-bound"):=by
  kernel_rfl
def LdI (key:Keyed->O.α) (a b:Array Keyed) (st:SortSt) (n:Nat) (c:LoD) (st':SortSt):Prop:=Sm st st'/\∃ o' x y ac bc,c=(none,o',x,y,ac,bc)/\MW key a b o' x y/\x + 1 < a.size/\y < b.size/\n<=o'.size
def LdQ (key:Keyed->O.α) (a b:Array Keyed) (st:SortSt) (n:Nat) (c:LoD) (st':SortSt):Prop:=Sm st st'/\((∃ r o x y ac bc,c=(some r,o,x,y,ac,bc)/\dC key a b r)\/∃ o' x y ac bc,c=(none,o',x,y,ac,bc)/\MW key a b o' x y/\x + 1 < a.size/\y < b.size/\n<=o'.size)
theorem sC (C:Cmp prog w A s O key U κ) {a b:Array Keyed} {st st':SortSt} (hκ : kindOf st = κ) (ua:∀ p ∈ a.toList,U p) (ub:∀ p ∈ b.toList,U p)
  (ha:a.toList.Pairwise (Le key)) (hb:b.toList.Pairwise (Le key)) (hl:∀ p q,p ∈ b.toList->a[a.size - 1]? = some q->Le key p q)
  {mg n m':Nat} {c:LoD} (I:LdI key a b st n c st') (hm:m'<=n + 1) {Q:ForInStep LoD->SortSt->Prop} (h:∀ r st',(match r with | .done c'=>LdQ key a b st (n + 1) c' st' | .yield c'=>LdI key a b st m' c' st')->Q r st'):wpS (model prog w) A E s (sv a b mg c) Q st':=by
 obtain ⟨sm2,o',x,y,ac,bc,rfl,m,hx,hy,hz⟩:=I
 unfold sv
 obtain ⟨za,ea⟩:=aY (Nat.lt_of_succ_lt hx)
 obtain ⟨zb,eb⟩:=aY hy
 refine wpS_bind (aT eb (wpS_bind (aT ea (wpS_bind (C.lt _ st' zb za _ (sm2.k.trans hκ) (ub _ (bP eb)) (ua _ (bP ea)) ?_)))))
 dsimp only
 have sz:∀ z,n + 1<=(o'.push z).size:=fun z=>by rw [Array.size_push]; exact Nat.succ_le_succ hz
 cases hlt:O.blt (key zb) (key za) with
 | true =>
  rw [if_pos rfl]
  refine wpS_bind (aT eb ?_)
  have m1:=m.jX eb hb fun t ht=>by
   obtain ⟨n,hn,e⟩:=aS ht
   exact KeyOrd.kle_trans (KeyOrd.kle_of_klt hlt) (aG ha (aF ea) e hn)
  by_cases c3:(y + 1 == b.size)=true
  ·rw [if_pos c3]
   exact wpS_pure (h _ _ ⟨sm2,.inl ⟨_,_,_,_,_,_,rfl,m1.qB ha (beq_iff_eq.mp c3)⟩⟩)
  ·rw [if_neg c3]
   have c3':=ltq hy c3
   split
   ·exact wpS_pure (h _ _ ⟨sm2,.inr ⟨_,_,_,_,_,rfl,m1,hx,c3',sz _⟩⟩)
   ·exact wpS_pure (h _ _ ⟨sm2,_,_,_,_,_,rfl,m1,hx,c3',Nat.le_trans hm (sz _)⟩)
 | false =>
  rw [if_neg Bool.false_ne_true]
  refine wpS_bind (aT ea ?_)
  have m1:=m.ib ea ha fun t ht=>by
   obtain ⟨n,hn,e⟩:=aS ht
   exact KeyOrd.kle_trans (show O.kle (key za) (key zb) from hlt) (aG hb (aF eb) e hn)
  by_cases c3:(x + 1 + 1 == a.size)=true
  ·rw [if_pos c3]
   exact wpS_pure (h _ _ ⟨sm2,.inl ⟨_,_,_,_,_,_,rfl,m1.last ha hb (beq_iff_eq.mp c3) hl⟩⟩)
  ·rw [if_neg c3]
   have c3':=ltq hx c3
   split
   ·exact wpS_pure (h _ _ ⟨sm2,.inr ⟨_,_,_,_,_,rfl,m1,c3',hy,sz _⟩⟩)
   ·exact wpS_pure (h _ _ ⟨sm2,_,_,_,_,_,rfl,m1,c3',hy,Nat.le_trans hm (sz _)⟩)
def LeI (key:Keyed->O.α) (a b:Array Keyed) (st:SortSt) (n:Nat) (c:LoE) (st':SortSt):Prop:=Sm st st'/\∃ o x y mg,c=(none,o,x,y,mg)/\MW key a b o x y/\x + 1 < a.size/\y < b.size/\n + 1<=o.size
def LeQ (key:Keyed->O.α) (a b:Array Keyed) (st:SortSt) (c:LoE) (st':SortSt):Prop:=Sm st st'/\((∃ r o x y mg,c=(some r,o,x,y,mg)/\dC key a b r)\/∃ o x y mg,c=(none,o,x,y,mg)/\MW key a b o x y/\x + 1 < a.size/\y < b.size/\a.size + b.size + 1<=o.size)
theorem qE (C:Cmp prog w A s O key U κ) {a b:Array Keyed} {st st':SortSt} (hκ : kindOf st = κ) (ua:∀ p ∈ a.toList,U p) (ub:∀ p ∈ b.toList,U p)
  (ha:a.toList.Pairwise (Le key)) (hb:b.toList.Pairwise (Le key)) (na:0 < a.size) (hl:∀ p q,p ∈ b.toList->a[a.size - 1]? = some q->Le key p q)
  {n:Nat} {c:LoE} (I:LeI key a b st n c st'):wpS (model prog w) A E s (oq a b c) (fun r st'=>match r with | .done c'=>LeQ key a b st c' st' | .yield c'=>LeI key a b st (n + 1) c' st') st':=by
 obtain ⟨sm1,o,x,y,mg,rfl,m,hx,hy,hz⟩:=I
 unfold oq
 have q1:1<=a.size + b.size:=Nat.le_trans na (Nat.le_add_right _ _)
 refine wpS_bind (wpS_mono (wpS_forRange (I:=fun j c st'=>LdI key a b st (o.size + min j 1) c st') (Q:=LdQ key a b st (o.size + 1)) (fun j c st2 _ hj J=>sC (n:=o.size + min j 1) (m':=o.size + min (j + 1) 1) C hκ ua ub ha hb hl J (by omega) fun r st' k => ?_) (fun c st' J => ?_) ⟨sm1,o,x,y,0,0,rfl,m,hx,hy,Nat.le_refl _⟩) ?_)
 ·cases r with
  | done c'=>exact k.imp id fun z=>z.imp id fun ⟨o',x,y,ac,bc,e,m,hx,hy,hz⟩=>⟨o',x,y,ac,bc,e,m,hx,hy,by omega⟩
  | yield c'=>exact k
 ·obtain ⟨sm,o',x,y,ac,bc,e,m,hx,hy,hz⟩:=J
  exact ⟨sm,.inr ⟨o',x,y,ac,bc,e,m,hx,hy,by omega⟩⟩
 rintro c st2 ⟨sm2,⟨r,o',x,y,ac,bc,rfl,fr⟩ | ⟨o',x,y,ac,bc,rfl,m,hx,hy,hz2⟩⟩
 ·exact wpS_pure ⟨sm2,.inl ⟨_,_,_,_,_,rfl,fr⟩⟩
 dsimp only
 refine wpS_bind (wpS_lift (wpAny_rule ⟨rfl,?_⟩))
 refine wpS_bind (wpS_mono (wpS_forRange (I:=fun _ c st'=>LoQ key a b st o'.size (.yield c) st') (Q:=fun c st'=>LoQ key a b st o'.size (.done c) st') (fun j c st3 _ hj J => ?_) (fun c st' J=>⟨J.1,.inr J.2⟩) ⟨sm2,o',x,y,_,ac,bc,rfl,m,hx,hy,Nat.le_refl _⟩) ?_)
 ·obtain ⟨sm3,p,x,y,mg,ac,bc,rfl,m,hx,hy,hz3⟩:=J
  refine wpS_mono (uM C hκ ua ub ha hb hl sm3 m hx hy hz3) ?_
  intro r st' h
  cases r <;> exact h
 rintro c st3 ⟨sm3,⟨r,p,x,y,mg,ac,bc,rfl,fr⟩ | ⟨p,x,y,mg,ac,bc,rfl,m,hx,hy,hz3⟩⟩
 ·exact wpS_pure ⟨sm3,.inl ⟨_,_,_,_,_,rfl,fr⟩⟩
 ·dsimp only
  exact wpS_bind (wpS_modify (wpS_pure ⟨sm3.mg _,p,x,y,_,rfl,m,hx,hy,by omega⟩))
theorem wR (C:Cmp prog w A s O key U κ) {a b:Array Keyed} {st:SortSt} {Q:Array Keyed->SortSt->Prop} (hκ : kindOf st = κ) (ua:∀ p ∈ a.toList,U p) (ub:∀ p ∈ b.toList,U p)
  (ha:a.toList.Pairwise (Le key)) (hb:b.toList.Pairwise (Le key)) (na:0 < a.size) (nb:0 < b.size) (h0:∀ p q,b[0]? = some p->a[0]? = some q->Le key p q) (hl:∀ p q,p ∈ b.toList->a[a.size - 1]? = some q->Le key p q)
  (h:∀ r st',Sm st st'->dC key a b r->Q r st'):wpS (model prog w) A E s (mLo a b) Q st:=by
 rw [uN]
 refine wpS_bind (wpS_lift (wpAny_rule ⟨rfl,?_⟩))
 obtain ⟨b0,eb0⟩:=aY nb
 obtain ⟨a0,ea0⟩:=aY na
 have a0le:∀ t ∈ a.toList,Le key a0 t:=fun t ht=>by
  obtain ⟨i,e⟩:=List.mem_iff_getElem?.mp ht
  exact aG ha (aF ea0) e (Nat.zero_le _)
 have m0:MW key a b #[] 0 0:=⟨Nat.zero_le _,Nat.zero_le _,List.Perm.refl _,List.Pairwise.nil,fun p hp=>by cases hp⟩
 have m1:MW key a b #[b0] 0 1:=m0.jX eb0 hb fun t ht=>KeyOrd.kle_trans (h0 _ _ eb0 ea0) (a0le t ht)
 refine wpS_bind (aT eb0 ?_)
 by_cases c1:(1 == b.size)=true
 ·rw [if_pos c1]
  exact wpS_pure (h _ st (Sm.refl st) (m1.qB ha (beq_iff_eq.mp c1)))
 rw [if_neg c1]
 by_cases c2:(0 + 1 == a.size)=true
 ·rw [if_pos c2]
  exact wpS_pure (h _ st (Sm.refl st) (m1.last ha hb (beq_iff_eq.mp c2) hl))
 rw [if_neg c2]
 refine wpS_bind (wpS_get ?_)
 refine wpS_bind (wpS_mono (wpS_forRange (I:=fun i c st'=>LeI key a b st i c st') (Q:=LeQ key a b st) (fun i c st1 _ _ J=>wpS_mono (qE C hκ ua ub ha hb na hl J) fun r st' h=>by cases r <;> exact h) (fun c st' J => ?_) ⟨Sm.refl st,_,_,_,_,rfl,m1,ltq na c2,ltq nb c1,Nat.le_refl _⟩) ?_)
 ·obtain ⟨sm,o,x,y,mg,e,m,hx,hy,hz⟩:=J
  exact ⟨sm,.inr ⟨o,x,y,mg,e,m,hx,hy,by omega⟩⟩
 rintro c st' ⟨sm,⟨r,o,x,y,mg,rfl,fr⟩ | ⟨o,x,y,mg,rfl,m,hx,hy,hz⟩⟩
 ·exact wpS_pure (h r st' sm fr)
 ·have:=m.size
  omega
end
open PySem PyProof.Rows
section
variable {O:KeyOrd} (key:Keyed->O.α)
structure MV (a b o:Array Keyed) (x y:Nat):Prop where
 hx:x<=a.size
 hy:y<=b.size
 perm:((a.toList.take x ++ b.toList.take y) ++ o.toList.reverse).Perm (a.toList ++ b.toList)
 sorted:o.toList.reverse.Pairwise (Le key)
 above:∀ p ∈ a.toList.take x ++ b.toList.take y,∀ q ∈ o.toList.reverse,Le key p q
variable {key}
theorem MV.fin {a b o:Array Keyed} {x y:Nat} (m:MV key a b o x y) {t:List Keyed} {r:Array Keyed} (hr:r.toList=t ++ o.toList.reverse) (ht:t.Perm (a.toList.take x ++ b.toList.take y)) (hs:t.Pairwise (Le key)):dC key a b r:=by
 unfold dC
 rw [hr]
 exact ⟨(List.Perm.append_right _ ht).trans m.perm,List.pairwise_append.mpr ⟨hs,m.sorted,fun p hp q hq=>m.above p (ht.mem_iff.mp hp) q hq⟩⟩
theorem MV.take {a b o:Array Keyed} {x y x' y':Nat} (m:MV key a b o x y) {t:List Keyed} {r:Array Keyed} (hr:r.toList.reverse=t ++ o.toList.reverse) (hx:x'<=a.size) (hy:y'<=b.size)
  (ht:((a.toList.take x' ++ b.toList.take y') ++ t).Perm (a.toList.take x ++ b.toList.take y)) (hs:t.Pairwise (Le key)) (hb:∀ p ∈ a.toList.take x' ++ b.toList.take y',∀ q ∈ t,Le key p q):MV key a b r x' y':=by
 have sub:∀ z,z ∈ a.toList.take x' ++ b.toList.take y'\/z ∈ t->z ∈ a.toList.take x ++ b.toList.take y:=fun z hz=>ht.mem_iff.mp (List.mem_append.mpr hz)
 refine ⟨hx,hy,?_,?_,?_⟩
 ·rw [hr, <- List.append_assoc]
  exact (List.Perm.append_right _ ht).trans m.perm
 ·rw [hr]
  exact List.pairwise_append.mpr ⟨hs,m.sorted,fun p hp q hq=>m.above p (sub p (.inr hp)) q hq⟩
 ·rw [hr]
  intro p hp z hz
  rcases List.mem_append.mp hz with h | h
  ·exact hb p hp z h
  ·exact m.above p (sub p (.inl hp)) z h
theorem aZ {l:List Keyed} {k:Nat} {t:Keyed} (h:t ∈ l.take k):∃ j,j < k/\l[j]? = some t:=by
 obtain ⟨n,e⟩:=List.mem_iff_getElem?.mp h
 rw [List.getElem?_take] at e
 split at e
 ·exact ⟨n,by omega,e⟩
 ·cases e
theorem jY {l:List Keyed} {x:Nat} {z:Keyed} (hx:1<=x) (h:l[x - 1]? = some z):l.take x=l.take (x - 1) ++ [z]:=by
 obtain ⟨n,rfl⟩:∃ n,x=n + 1:=⟨x - 1,by omega⟩
 rw [Nat.add_sub_cancel] at h ⊢
 rw [List.take_add_one,h]
 rfl
theorem pG (a:Array Keyed) (c x:Nat) (hx:x<=a.size):(a.extract c x).toList=(a.toList.take x).drop c:=by
 rw [Array.toList_extract,List.extract_eq_take_drop,List.drop_take]
theorem fi (a:Array Keyed) (x:Nat):(a.extract 0 x).toList=a.toList.take x:=by
 rw [Array.toList_extract,List.extract_eq_take_drop,List.drop_zero,Nat.sub_zero]
theorem MV.ib {a b o:Array Keyed} {x y:Nat} {z:Keyed} (m:MV key a b o x y) (h1:1<=x) (h:a[x - 1]? = some z) (ha:a.toList.Pairwise (Le key)) (hb:∀ t ∈ b.toList.take y,Le key t z):MV key a b (o.push z) (x - 1) y:=by
 have e:=jY h1 (aF h)
 refine m.take (t:=[z]) (by rw [Array.toList_push,List.reverse_append]; rfl) (by have:=m.hx; omega) m.hy ?_ (List.pairwise_singleton _ _) fun p hp q hq => ?_
 ·rw [e,List.append_assoc,List.append_assoc]
  exact List.Perm.append_left _ List.perm_append_comm
 ·have eq:q=z:=by simpa using hq
  subst eq
  rcases List.mem_append.mp hp with r | r
  ·obtain ⟨j,hj,e2⟩:=aZ r
   exact aG ha e2 (aF h) (by omega)
  ·exact hb p r
theorem MV.jX {a b o:Array Keyed} {x y:Nat} {z:Keyed} (m:MV key a b o x y) (h1:1<=y) (h:b[y - 1]? = some z) (hb:b.toList.Pairwise (Le key)) (ha:∀ t ∈ a.toList.take x,Le key t z):MV key a b (o.push z) x (y - 1):=by
 have e:=jY h1 (aF h)
 refine m.take (t:=[z]) (by rw [Array.toList_push,List.reverse_append]; rfl) m.hx (by have:=m.hy; omega) ?_ (List.pairwise_singleton _ _) fun p hp q hq => ?_
 ·rw [e,List.append_assoc]
 ·have eq:q=z:=by simpa using hq
  subst eq
  rcases List.mem_append.mp hp with r | r
  ·exact ha p r
  ·obtain ⟨j,hj,e2⟩:=aZ r
   exact aG hb e2 (aF h) (by omega)
theorem pH (l:List Keyed) {c x:Nat} (h:c<=x):l.take x=l.take c ++ (l.take x).drop c:=by
 have e:(l.take x).take c=l.take c:=by rw [List.take_take,Nat.min_eq_left h]
 rw [<- e,List.take_append_drop]
theorem iJ {l:List Keyed} {c x:Nat} {t:Keyed} (h:t ∈ (l.take x).drop c):∃ j,c<=j/\j < x/\l[j]? = some t:=by
 obtain ⟨j,hj,e⟩:=aS h
 rw [List.getElem?_take] at e
 split at e
 ·exact ⟨j,hj,by omega,e⟩
 ·cases e
theorem MV.sr {a b o:Array Keyed} {x y c:Nat} (m:MV key a b o x y) (hc:c<=x) (ha:a.toList.Pairwise (Le key)) (hb:∀ j p,c<=j->j < x->a.toList[j]? = some p->∀ t ∈ b.toList.take y,Le key t p):MV key a b (o ++ (a.extract c x).reverse) c y:=by
 refine m.take (t:=(a.toList.take x).drop c) (by rw [Array.toList_append,List.reverse_append,Array.toList_reverse,List.reverse_reverse,pG _ _ _ m.hx]) (Nat.le_trans hc m.hx) m.hy ?_ ?_ fun p hp q hq => ?_
 ·refine List.Perm.trans ?_ (List.Perm.append_right _ (List.Perm.of_eq (pH a.toList hc).symm))
  rw [List.append_assoc,List.append_assoc]
  exact List.Perm.append_left _ List.perm_append_comm
 ·exact ha.sublist ((List.drop_sublist _ _).trans (List.take_sublist _ _))
 ·obtain ⟨j,h1,h2,e⟩:=iJ hq
  rcases List.mem_append.mp hp with r | r
  ·obtain ⟨i,hi,e2⟩:=aZ r
   exact aG ha e2 e (by omega)
  ·exact hb j q h1 h2 e p r
theorem MV.su {a b o:Array Keyed} {x y c:Nat} (m:MV key a b o x y) (hc:c<=y) (hb:b.toList.Pairwise (Le key)) (ha:∀ j p,c<=j->j < y->b.toList[j]? = some p->∀ t ∈ a.toList.take x,Le key t p):MV key a b (o ++ (b.extract c y).reverse) x c:=by
 refine m.take (t:=(b.toList.take y).drop c) (by rw [Array.toList_append,List.reverse_append,Array.toList_reverse,List.reverse_reverse,pG _ _ _ m.hy]) m.hx (Nat.le_trans hc m.hy) ?_ ?_ fun p hp q hq => ?_
 ·rw [List.append_assoc, <- pH b.toList hc]
 ·exact hb.sublist ((List.drop_sublist _ _).trans (List.take_sublist _ _))
 ·obtain ⟨j,h1,h2,e⟩:=iJ hq
  rcases List.mem_append.mp hp with r | r
  ·exact ha j q h1 h2 e p r
  ·obtain ⟨i,hi,e2⟩:=aZ r
   exact aG hb e2 e (by omega)
theorem MV.qC {a b o:Array Keyed} {x y:Nat} (m:MV key a b o x y) (hb:b.toList.Pairwise (Le key)) (hx:x=0):dC key a b (a.extract 0 x ++ b.extract 0 y ++ o.reverse):=by
 subst hx
 refine m.fin (t:=b.toList.take y) (by rw [Array.toList_append,Array.toList_append,fi,fi,Array.toList_reverse,List.take_zero,List.nil_append]) (by rw [List.take_zero,List.nil_append]) (hb.sublist (List.take_sublist _ _))
theorem MV.qB {a b o:Array Keyed} {x y:Nat} (m:MV key a b o x y) (ha:a.toList.Pairwise (Le key)) (hy:y=0):dC key a b (a.extract 0 x ++ b.extract 0 y ++ o.reverse):=by
 subst hy
 refine m.fin (t:=a.toList.take x) (by rw [Array.toList_append,Array.toList_append,fi,fi,Array.toList_reverse,List.take_zero,List.append_nil]) (by rw [List.take_zero,List.append_nil]) (ha.sublist (List.take_sublist _ _))
theorem MV.first {a b o:Array Keyed} {x y:Nat} (m:MV key a b o x y) (ha:a.toList.Pairwise (Le key)) (hb:b.toList.Pairwise (Le key)) (hy:y=1) (hl:∀ p q,b[0]? = some p->q ∈ a.toList->Le key p q):dC key a b (b.extract 0 y ++ a.extract 0 x ++ o.reverse):=by
 refine m.fin (t:=b.toList.take y ++ a.toList.take x) (by rw [Array.toList_append,Array.toList_append,fi,fi,Array.toList_reverse]) List.perm_append_comm ?_
 refine List.pairwise_append.mpr ⟨hb.sublist (List.take_sublist _ _),ha.sublist (List.take_sublist _ _),fun p hp q hq=>hl p q ?_ (List.mem_of_mem_take hq)⟩
 obtain ⟨i,hi,e⟩:=aZ hp
 rw [Array.getElem?_toList] at e
 rw [show i=0 by omega] at e
 exact e
theorem MV.size {a b o:Array Keyed} {x y:Nat} (m:MV key a b o x y):o.size + x + y=a.size + b.size:=by
 have e:=m.perm.length_eq
 have h1:=m.hx
 have h2:=m.hy
 simp only [List.length_append,List.length_take,Array.length_toList,List.length_reverse] at e
 omega
end
open PySem PyProof.Rows
section
variable {prog:Program} {w:World} {A:Around} {E:Value->Shared->Prop} {s:Shared} {O:KeyOrd} {key:Keyed->O.α} {U:Keyed->Prop} {κ : SortKind}
abbrev HiC:=Option (Array Keyed) × Nat × Nat × Array Keyed × Nat × Nat × Nat
def uO (a b:Array Keyed) (x y:Nat) (o:Array Keyed) (mg ac bc:Nat):StateT SortSt Sem (ForInStep HiC):=do
  let z ← elem' a (x - 1)
  if (x - 1 == 0)=true then pure (.done (some (a.extract 0 (x - 1) ++ b.extract 0 y ++ (o.push z).reverse),x - 1,y,o.push z,mg,ac,bc))
  else if (decide (ac < 7) && decide (bc < 7))=true then pure (.done (none,x - 1,y,o.push z,mg,ac,bc))
  else pure (.yield (none,x - 1,y,o.push z,mg,ac,bc))
def uP (a b:Array Keyed) (x y:Nat) (o:Array Keyed) (mg ac bc:Nat):StateT SortSt Sem (ForInStep HiC):=do
  let z ← elem' b (y - 1)
  if (y - 1 == 1)=true then pure (.done (some (b.extract 0 (y - 1) ++ a.extract 0 x ++ (o.push z).reverse),x,y - 1,o.push z,mg,ac,bc))
  else do
    let z2 ← elem' a (x - 1)
    let __x ← gal true z2 b 0 (y - 1) (y - 1 - 1)
    match __x with
    | some c =>
      if y - 1 - c > 0 then
        if (c == 1)=true then pure (.done (some (b.extract 0 c ++ a.extract 0 x ++ (o.push z ++ (b.extract c (y - 1)).reverse).reverse),x,c,o.push z ++ (b.extract c (y - 1)).reverse,mg,ac,y - 1 - c))
        else if (c == 0)=true then pure (.done (some (a.extract 0 x ++ b.extract 0 c ++ (o.push z ++ (b.extract c (y - 1)).reverse).reverse),x,c,o.push z ++ (b.extract c (y - 1)).reverse,mg,ac,y - 1 - c))
        else uO a b x c (o.push z ++ (b.extract c (y - 1)).reverse) mg ac (y - 1 - c)
      else uO a b x (y - 1) (o.push z) mg ac (y - 1 - c)
    | _=>pure (.done (some (a.extract 0 x ++ b.extract 0 (y - 1) ++ (o.push z).reverse),x,y - 1,o.push z,mg,ac,bc))
def qF (a b:Array Keyed) (x y:Nat) (p:Array Keyed) (ac bc mg:Nat):StateT SortSt Sem (ForInStep HiC):=do
  modify (fun s=>SortSt.mk' (kindOf s) (arrOf s) (pendingOf s) mg (failedOf s))
  let z ← elem' b (y - 1)
  let __x ← gal false z a 0 x (x - 1)
  match __x with
  | some c =>
    if x - c > 0 then
      if (c == 0)=true then pure (.done (some (a.extract 0 c ++ b.extract 0 y ++ (p ++ (a.extract c x).reverse).reverse),c,y,p ++ (a.extract c x).reverse,mg,x - c,bc))
      else uP a b c y (p ++ (a.extract c x).reverse) mg (x - c) bc
    else uP a b x y p mg (x - c) bc
  | _=>pure (.done (some (a.extract 0 x ++ b.extract 0 y ++ p.reverse),x,y,p,mg,ac,bc))
def HiQ (key:Keyed->O.α) (a b:Array Keyed) (st:SortSt) (n:Nat) (r:ForInStep HiC) (st':SortSt):Prop:=match r with
 | .done c=>Sm st st'/\((∃ r x y p mg ac bc,c=(some r,x,y,p,mg,ac,bc)/\dC key a b r)\/∃ x y p mg ac bc,c=(none,x,y,p,mg,ac,bc)/\MV key a b p x y/\1<=x/\2<=y/\n<=p.size)
 | .yield c=>Sm st st'/\∃ x y p mg ac bc,c=(none,x,y,p,mg,ac,bc)/\MV key a b p x y/\1<=x/\2<=y/\n<=p.size
theorem HiQ.out {a b:Array Keyed} {st st':SortSt} {n:Nat} {r:Array Keyed} {c:Nat × Nat × Array Keyed × Nat × Nat × Nat} (sm:Sm st st') (f:dC key a b r):HiQ key a b st n (.done (some r,c)) st':=by
 obtain ⟨p,x,y,mg,ac,bc⟩:=c
 exact ⟨sm,.inl ⟨_,_,_,_,_,_,_,rfl,f⟩⟩
theorem sD {x:Nat} (c:¬ (x == 0)=true):1<=x:=Nat.pos_of_ne_zero fun z=>c (beq_iff_eq.mpr z)
theorem uQ {y:Nat} (h:1<=y) (c:¬ (y == 1)=true):2<=y:=Nat.lt_of_le_of_ne h fun z=>c (beq_iff_eq.mpr z.symm)
theorem pI {a b:Array Keyed} {st st':SortSt} (hb:b.toList.Pairwise (Le key))
  {o:Array Keyed} {x y mg ac bc n:Nat} {za:Keyed} (sm:Sm st st') (ea:a[x - 1]? = some za) (m4:MV key a b (o.push za) (x - 1) y) (hy:2<=y) (hn:n<=o.size):wpS (model prog w) A E s (uO a b x y o mg ac bc) (HiQ key a b st n) st':=by
 unfold uO
 refine wpS_bind (aT ea ?_)
 by_cases d5:(x - 1 == 0)=true
 ·rw [if_pos d5]
  exact wpS_pure (HiQ.out sm (m4.qC hb (beq_iff_eq.mp d5)))
 rw [if_neg d5]
 have hx2:=sD d5
 have hn':n<=(o.push za).size:=by rw [Array.size_push]; exact Nat.le_succ_of_le hn
 split
 ·exact wpS_pure ⟨sm,.inr ⟨_,_,_,_,_,_,rfl,m4,hx2,hy,hn'⟩⟩
 ·exact wpS_pure ⟨sm,_,_,_,_,_,_,rfl,m4,hx2,hy,hn'⟩
theorem pJ (C:Cmp prog w A s O key U κ) {a b:Array Keyed} {st st':SortSt} (hκ : kindOf st = κ) (ua:∀ p ∈ a.toList,U p) (ub:∀ p ∈ b.toList,U p)
  (ha:a.toList.Pairwise (Le key)) (hb:b.toList.Pairwise (Le key)) (h0:∀ p q,b[0]? = some p->q ∈ a.toList->Le key p q)
  {o:Array Keyed} {x y mg ac bc n:Nat} {zb:Keyed} (sm:Sm st st') (eb:b[y - 1]? = some zb) (mk:MV key a b o x y) (bl:∀ t ∈ a.toList.take x,Le key t zb) (hx1:1<=x) (hy:2<=y) (hn:n<=o.size):wpS (model prog w) A E s (uP a b x y o mg ac bc) (HiQ key a b st n) st':=by
 unfold uP
 refine wpS_bind (aT eb ?_)
 have m2:=mk.jX (Nat.le_of_succ_le hy) eb hb bl
 have y1:1<=y - 1:=Nat.le_sub_one_of_lt hy
 have bx1:=mk.hx
 have by1:=mk.hy
 by_cases d3:(y - 1 == 1)=true
 ·rw [if_pos d3]
  exact wpS_pure (HiQ.out sm (m2.first ha hb (beq_iff_eq.mp d3) h0))
 rw [if_neg d3]
 have hy1:=uQ y1 d3
 obtain ⟨za,ea⟩:=aY (show x - 1 < a.size by omega)
 refine wpS_bind (aT ea ?_)
 refine wpS_bind (wO C (fun i=>(b[i]?).getD za) (sm.k.trans hκ) (ua _ (bP ea)) (fun i hi => ?_) (fun i hi => ?_) (fun i j hij hj => ?_) (Nat.sub_one_lt_of_lt y1) fun c2 hc2 g1 g2 => ?_)
 ·obtain ⟨z,e⟩:=aY (show i < b.size by omega)
  rw [Nat.zero_add,e]; rfl
 ·obtain ⟨z,e⟩:=aY (show i < b.size by omega)
  rw [e]; exact ub _ (bP e)
 ·obtain ⟨z,e⟩:=aY (show i < b.size by omega)
  obtain ⟨z',e'⟩:=aY (show j < b.size by omega)
  rw [e,e']; exact aG hb (aF e) (aF e') hij
 dsimp only at g1 g2 ⊢
 have tb:∀ j q,c2<=j->j < y - 1->b.toList[j]? = some q->∀ t ∈ a.toList.take x,Le key t q:=fun j q hj hj2 e t ht=>by
  have z:=g2 j hj hj2
  rw [Array.getElem?_toList] at e
  rw [e] at z
  obtain ⟨n,hn,e2⟩:=aZ ht
  exact KeyOrd.kle_trans (aG ha e2 (aF ea) (Nat.le_sub_one_of_lt hn)) z
 have m3:=m2.su hc2 hb tb
 have bl2:∀ t ∈ b.toList.take c2,Le key t za:=fun t ht=>by
  obtain ⟨n,hn,e2⟩:=aZ ht
  rw [Array.getElem?_toList] at e2
  have z:=g1 n hn
  rw [e2] at z
  exact KeyOrd.kle_of_klt z
 have hn1:n<=(o.push zb).size:=by rw [Array.size_push]; exact Nat.le_succ_of_le hn
 by_cases k2:y - 1 - c2 > 0
 ·rw [if_pos k2]
  by_cases d4:(c2 == 1)=true
  ·rw [if_pos d4]
   exact wpS_pure (HiQ.out sm (m3.first ha hb (beq_iff_eq.mp d4) h0))
  rw [if_neg d4]
  by_cases d6:(c2 == 0)=true
  ·rw [if_pos d6]
   exact wpS_pure (HiQ.out sm (m3.qB ha (beq_iff_eq.mp d6)))
  rw [if_neg d6]
  exact pI hb sm ea (m3.ib hx1 ea ha bl2) (uQ (sD d6) d4) (Nat.le_trans hn1 (by rw [Array.size_append]; exact Nat.le_add_right _ _))
 ·rw [if_neg k2]
  have ec2:c2=y - 1:=Nat.le_antisymm hc2 (Nat.le_of_sub_eq_zero (Nat.eq_zero_of_not_pos k2))
  rw [ec2] at bl2
  exact pI hb sm ea (m2.ib hx1 ea ha bl2) hy1 hn1
theorem pK (C:Cmp prog w A s O key U κ) {a b:Array Keyed} {st st':SortSt} (hκ : kindOf st = κ) (ua:∀ p ∈ a.toList,U p) (ub:∀ p ∈ b.toList,U p)
  (ha:a.toList.Pairwise (Le key)) (hb:b.toList.Pairwise (Le key)) (h0:∀ p q,b[0]? = some p->q ∈ a.toList->Le key p q)
  {p:Array Keyed} {x y ac bc n:Nat} (mg:Nat) (sm:Sm st st') (m:MV key a b p x y) (hx:1<=x) (hy:2<=y) (hn:n<=p.size):wpS (model prog w) A E s (qF a b x y p ac bc mg) (HiQ key a b st n) st':=by
 unfold qF
 have bx:=m.hx
 have by':=m.hy
 obtain ⟨zb,eb⟩:=aY (show y - 1 < b.size by omega)
 refine wpS_bind (wpS_modify ?_)
 refine wpS_bind (aT eb ?_)
 refine wpS_bind (wN C (fun i=>(a[i]?).getD zb) ((sm.mg _).k.trans hκ) (ub _ (bP eb)) (fun i hi => ?_) (fun i hi => ?_) (fun i j hij hj => ?_) (Nat.sub_one_lt_of_lt hx) fun c hc h1 h2 => ?_)
 ·obtain ⟨z,e⟩:=aY (Nat.lt_of_lt_of_le hi bx)
  rw [Nat.zero_add,e]; rfl
 ·obtain ⟨z,e⟩:=aY (Nat.lt_of_lt_of_le hi bx)
  rw [e]; exact ua _ (bP e)
 ·obtain ⟨z,e⟩:=aY (show i < a.size by omega)
  obtain ⟨z',e'⟩:=aY (show j < a.size by omega)
  rw [e,e']; exact aG ha (aF e) (aF e') hij
 dsimp only at h1 h2 ⊢
 have ta:∀ j q,c<=j->j < x->a.toList[j]? = some q->∀ t ∈ b.toList.take y,Le key t q:=fun j q hj hj2 e t ht=>by
  have z:=h2 j hj hj2
  rw [Array.getElem?_toList] at e
  rw [e] at z
  obtain ⟨n,hn,e2⟩:=aZ ht
  exact KeyOrd.kle_trans (aG hb e2 (aF eb) (Nat.le_sub_one_of_lt hn)) (KeyOrd.kle_of_klt z)
 have mk:=m.sr hc ha ta
 have bl:∀ t ∈ a.toList.take c,Le key t zb:=fun t ht=>by
  obtain ⟨n,hn,e2⟩:=aZ ht
  rw [Array.getElem?_toList] at e2
  have z:=h1 n hn
  rw [e2] at z
  exact z
 by_cases k0:x - c > 0
 ·rw [if_pos k0]
  by_cases d1:(c == 0)=true
  ·rw [if_pos d1]
   exact wpS_pure (HiQ.out (sm.mg _) (mk.qC hb (beq_iff_eq.mp d1)))
  rw [if_neg d1]
  exact pJ C hκ ua ub ha hb h0 (sm.mg _) eb mk bl (sD d1) hy (Nat.le_trans hn (by rw [Array.size_append]; exact Nat.le_add_right _ _))
 ·rw [if_neg k0]
  have ec:c=x:=Nat.le_antisymm hc (Nat.le_of_sub_eq_zero (Nat.eq_zero_of_not_pos k0))
  rw [ec] at bl
  exact pJ C hκ ua ub ha hb h0 (sm.mg _) eb m bl hx hy hn
theorem uS (C:Cmp prog w A s O key U κ) {a b:Array Keyed} {st st':SortSt} (hκ : kindOf st = κ) (ua:∀ p ∈ a.toList,U p) (ub:∀ p ∈ b.toList,U p)
  (ha:a.toList.Pairwise (Le key)) (hb:b.toList.Pairwise (Le key)) (h0:∀ p q,b[0]? = some p->q ∈ a.toList->Le key p q)
  {p:Array Keyed} {x y ac bc n mg:Nat} (sm:Sm st st') (m:MV key a b p x y) (hx:1<=x) (hy:2<=y) (hn:n<=p.size):wpS (model prog w) A E s (if mg > 1 then qF a b x y p ac bc (mg - 1) else qF a b x y p ac bc mg) (HiQ key a b st n) st':=by
 split
 ·exact pK C hκ ua ub ha hb h0 (mg - 1) sm m hx hy hn
 ·exact pK C hκ ua ub ha hb h0 mg sm m hx hy hn
abbrev HiD:=Option (Array Keyed) × Nat × Nat × Array Keyed × Nat × Nat
abbrev HiE:=Option (Array Keyed) × Nat × Nat × Array Keyed × Nat
def sE (a b:Array Keyed) (mg:Nat) (c:HiD):StateT SortSt Sem (ForInStep HiD):=do
  let u ← elem' b (c.2.2.1 - 1)
  let v ← elem' a (c.2.1 - 1)
  let __x ← lt' u v
  match __x with
  | some aw =>
    if aw=true then do
      let z ← elem' a (c.2.1 - 1)
      if (c.2.1 - 1 == 0)=true then pure (.done (some (a.extract 0 (c.2.1 - 1) ++ b.extract 0 c.2.2.1 ++ (c.2.2.2.1.push z).reverse),c.2.1 - 1,c.2.2.1,c.2.2.2.1.push z,c.2.2.2.2.1 + 1,0))
      else if c.2.2.2.2.1 + 1 ≥ mg then pure (.done (none,c.2.1 - 1,c.2.2.1,c.2.2.2.1.push z,c.2.2.2.2.1 + 1,0))
      else pure (.yield (none,c.2.1 - 1,c.2.2.1,c.2.2.2.1.push z,c.2.2.2.2.1 + 1,0))
    else do
      let z ← elem' b (c.2.2.1 - 1)
      if (c.2.2.1 - 1 == 1)=true then pure (.done (some (b.extract 0 (c.2.2.1 - 1) ++ a.extract 0 c.2.1 ++ (c.2.2.2.1.push z).reverse),c.2.1,c.2.2.1 - 1,c.2.2.2.1.push z,0,c.2.2.2.2.2 + 1))
      else if c.2.2.2.2.2 + 1 ≥ mg then pure (.done (none,c.2.1,c.2.2.1 - 1,c.2.2.2.1.push z,0,c.2.2.2.2.2 + 1))
      else pure (.yield (none,c.2.1,c.2.2.1 - 1,c.2.2.2.1.push z,0,c.2.2.2.2.2 + 1))
  | _=>pure (.done (some (a.extract 0 c.2.1 ++ b.extract 0 c.2.2.1 ++ c.2.2.2.1.reverse),c.2.1,c.2.2.1,c.2.2.2.1,c.2.2.2.2.1,c.2.2.2.2.2))
def wU (a b:Array Keyed) (c:HiC):StateT SortSt Sem (ForInStep HiC) :=
 if c.2.2.2.2.1 > 1 then qF a b c.2.1 c.2.2.1 c.2.2.2.1 c.2.2.2.2.2.1 c.2.2.2.2.2.2 (c.2.2.2.2.1 - 1) else qF a b c.2.1 c.2.2.1 c.2.2.2.1 c.2.2.2.2.2.1 c.2.2.2.2.2.2 c.2.2.2.2.1
def ou (a b:Array Keyed) (c:HiE):StateT SortSt Sem (ForInStep HiE):=do
  let d ← forIn [0:a.size + b.size] ((none,c.2.1,c.2.2.1,c.2.2.2.1,0,0):HiD) fun _ d=>sE a b c.2.2.2.2 d
  match d.1 with
  | some r=>pure (.done (some r,d.2.1,d.2.2.1,d.2.2.2.1,c.2.2.2.2))
  | none=>do
    rule "list.sort.gallop"
    let e ← forIn [0:a.size + b.size] ((none,d.2.1,d.2.2.1,d.2.2.2.1,c.2.2.2.2 + 1,d.2.2.2.2.1,d.2.2.2.2.2):HiC) fun _ e=>wU a b e
    match e.1 with
    | some r=>pure (.done (some r,e.2.1,e.2.2.1,e.2.2.2.1,e.2.2.2.2.1))
    | none=>do
      modify (fun s=>SortSt.mk' (kindOf s) (arrOf s) (pendingOf s) (e.2.2.2.2.1 + 1) (failedOf s))
      pure (.yield (none,e.2.1,e.2.2.1,e.2.2.2.1,e.2.2.2.2.1 + 1))
theorem uT (a b:Array Keyed):mHi a b=(do
    rule "list.sort.merge-hi"
    let z ← elem' a (a.size - 1)
    if (a.size - 1 == 0)=true then pure (a.extract 0 (a.size - 1) ++ b.extract 0 b.size ++ (#[z]:Array Keyed).reverse)
    else if (b.size == 1)=true then pure (b.extract 0 b.size ++ a.extract 0 (a.size - 1) ++ (#[z]:Array Keyed).reverse)
    else do
      let g ← get
      let c ← forIn [0:a.size + b.size] ((none,a.size - 1,b.size, #[z],gallopOf g):HiE) fun _ c=>ou a b c
      match c.1 with
      | some r=>pure r
      | none=>unsupported "internal:list.sort.merge-bound"):=by
  kernel_rfl
def HdI (key:Keyed->O.α) (a b:Array Keyed) (st:SortSt) (n:Nat) (c:HiD) (st':SortSt):Prop:=Sm st st'/\∃ x y o' ac bc,c=(none,x,y,o',ac,bc)/\MV key a b o' x y/\1<=x/\2<=y/\n<=o'.size
def HdQ (key:Keyed->O.α) (a b:Array Keyed) (st:SortSt) (n:Nat) (c:HiD) (st':SortSt):Prop:=Sm st st'/\((∃ r x y o ac bc,c=(some r,x,y,o,ac,bc)/\dC key a b r)\/∃ x y o' ac bc,c=(none,x,y,o',ac,bc)/\MV key a b o' x y/\1<=x/\2<=y/\n<=o'.size)
theorem sF (C:Cmp prog w A s O key U κ) {a b:Array Keyed} {st st':SortSt} (hκ : kindOf st = κ) (ua:∀ p ∈ a.toList,U p) (ub:∀ p ∈ b.toList,U p)
  (ha:a.toList.Pairwise (Le key)) (hb:b.toList.Pairwise (Le key)) (h0:∀ p q,b[0]? = some p->q ∈ a.toList->Le key p q)
  {mg n m':Nat} {c:HiD} (I:HdI key a b st n c st') (hm:m'<=n + 1) {Q:ForInStep HiD->SortSt->Prop} (h:∀ r st',(match r with | .done c'=>HdQ key a b st (n + 1) c' st' | .yield c'=>HdI key a b st m' c' st')->Q r st'):wpS (model prog w) A E s (sE a b mg c) Q st':=by
 obtain ⟨sm2,x,y,o',ac,bc,rfl,m,hx,hy,hz⟩:=I
 unfold sE
 have bx:=m.hx
 have by':=m.hy
 obtain ⟨za,ea⟩:=aY (show x - 1 < a.size by omega)
 obtain ⟨zb,eb⟩:=aY (show y - 1 < b.size by omega)
 refine wpS_bind (aT eb (wpS_bind (aT ea (wpS_bind (C.lt _ st' zb za _ (sm2.k.trans hκ) (ub _ (bP eb)) (ua _ (bP ea)) ?_)))))
 dsimp only
 have sz:∀ z,n + 1<=(o'.push z).size:=fun z=>by rw [Array.size_push]; exact Nat.succ_le_succ hz
 cases hlt:O.blt (key zb) (key za) with
 | true =>
  rw [if_pos rfl]
  refine wpS_bind (aT ea ?_)
  have m1:=m.ib hx ea ha fun t ht=>by
   obtain ⟨n,hn,e⟩:=aZ ht
   exact KeyOrd.kle_trans (aG hb e (aF eb) (Nat.le_sub_one_of_lt hn)) (KeyOrd.kle_of_klt hlt)
  by_cases c3:(x - 1 == 0)=true
  ·rw [if_pos c3]
   exact wpS_pure (h _ _ ⟨sm2,.inl ⟨_,_,_,_,_,_,rfl,m1.qC hb (beq_iff_eq.mp c3)⟩⟩)
  ·rw [if_neg c3]
   have c3':=sD c3
   split
   ·exact wpS_pure (h _ _ ⟨sm2,.inr ⟨_,_,_,_,_,rfl,m1,c3',hy,sz _⟩⟩)
   ·exact wpS_pure (h _ _ ⟨sm2,_,_,_,_,_,rfl,m1,c3',hy,Nat.le_trans hm (sz _)⟩)
 | false =>
  rw [if_neg Bool.false_ne_true]
  refine wpS_bind (aT eb ?_)
  have m1:=m.jX (Nat.le_of_succ_le hy) eb hb fun t ht=>by
   obtain ⟨n,hn,e⟩:=aZ ht
   exact KeyOrd.kle_trans (aG ha e (aF ea) (Nat.le_sub_one_of_lt hn)) (show O.kle (key za) (key zb) from hlt)
  by_cases c3:(y - 1 == 1)=true
  ·rw [if_pos c3]
   exact wpS_pure (h _ _ ⟨sm2,.inl ⟨_,_,_,_,_,_,rfl,m1.first ha hb (beq_iff_eq.mp c3) h0⟩⟩)
  ·rw [if_neg c3]
   have c3':=uQ (Nat.le_sub_one_of_lt hy) c3
   split
   ·exact wpS_pure (h _ _ ⟨sm2,.inr ⟨_,_,_,_,_,rfl,m1,hx,c3',sz _⟩⟩)
   ·exact wpS_pure (h _ _ ⟨sm2,_,_,_,_,_,rfl,m1,hx,c3',Nat.le_trans hm (sz _)⟩)
def HeI (key:Keyed->O.α) (a b:Array Keyed) (st:SortSt) (n:Nat) (c:HiE) (st':SortSt):Prop:=Sm st st'/\∃ x y o mg,c=(none,x,y,o,mg)/\MV key a b o x y/\1<=x/\2<=y/\n + 1<=o.size
def HeQ (key:Keyed->O.α) (a b:Array Keyed) (st:SortSt) (c:HiE) (st':SortSt):Prop:=Sm st st'/\((∃ r x y o mg,c=(some r,x,y,o,mg)/\dC key a b r)\/∃ x y o mg,c=(none,x,y,o,mg)/\MV key a b o x y/\1<=x/\2<=y/\a.size + b.size + 1<=o.size)
theorem qG (C:Cmp prog w A s O key U κ) {a b:Array Keyed} {st st':SortSt} (hκ : kindOf st = κ) (ua:∀ p ∈ a.toList,U p) (ub:∀ p ∈ b.toList,U p)
  (ha:a.toList.Pairwise (Le key)) (hb:b.toList.Pairwise (Le key)) (h0:∀ p q,b[0]? = some p->q ∈ a.toList->Le key p q) (na:0 < a.size)
  {n:Nat} {c:HiE} (I:HeI key a b st n c st'):wpS (model prog w) A E s (ou a b c) (fun r st'=>match r with | .done c'=>HeQ key a b st c' st' | .yield c'=>HeI key a b st (n + 1) c' st') st':=by
 obtain ⟨sm1,x,y,o,mg,rfl,m,hx,hy,hz⟩:=I
 unfold ou
 have q1:1<=a.size + b.size:=Nat.le_trans na (Nat.le_add_right _ _)
 refine wpS_bind (wpS_mono (wpS_forRange (I:=fun j c st'=>HdI key a b st (o.size + min j 1) c st') (Q:=HdQ key a b st (o.size + 1)) (fun j c st2 _ hj J=>sF (n:=o.size + min j 1) (m':=o.size + min (j + 1) 1) C hκ ua ub ha hb h0 J (by omega) fun r st' k => ?_) (fun c st' J => ?_) ⟨sm1,x,y,o,0,0,rfl,m,hx,hy,Nat.le_refl _⟩) ?_)
 ·cases r with
  | done c'=>exact k.imp id fun z=>z.imp id fun ⟨x,y,o',ac,bc,e,m,hx,hy,hz⟩=>⟨x,y,o',ac,bc,e,m,hx,hy,by omega⟩
  | yield c'=>exact k
 ·obtain ⟨sm,x,y,o',ac,bc,e,m,hx,hy,hz⟩:=J
  exact ⟨sm,.inr ⟨x,y,o',ac,bc,e,m,hx,hy,by omega⟩⟩
 rintro c st2 ⟨sm2,⟨r,x,y,o',ac,bc,rfl,fr⟩ | ⟨x,y,o',ac,bc,rfl,m,hx,hy,hz2⟩⟩
 ·exact wpS_pure ⟨sm2,.inl ⟨_,_,_,_,_,rfl,fr⟩⟩
 dsimp only
 refine wpS_bind (wpS_lift (wpAny_rule ⟨rfl,?_⟩))
 refine wpS_bind (wpS_mono (wpS_forRange (I:=fun _ c st'=>HiQ key a b st o'.size (.yield c) st') (Q:=fun c st'=>HiQ key a b st o'.size (.done c) st') (fun j c st3 _ hj J => ?_) (fun c st' J=>⟨J.1,.inr J.2⟩) ⟨sm2,x,y,o',_,ac,bc,rfl,m,hx,hy,Nat.le_refl _⟩) ?_)
 ·obtain ⟨sm3,x,y,p,mg,ac,bc,rfl,m,hx,hy,hz3⟩:=J
  refine wpS_mono (uS C hκ ua ub ha hb h0 sm3 m hx hy hz3) ?_
  intro r st' h
  cases r <;> exact h
 rintro c st3 ⟨sm3,⟨r,x,y,p,mg,ac,bc,rfl,fr⟩ | ⟨x,y,p,mg,ac,bc,rfl,m,hx,hy,hz3⟩⟩
 ·exact wpS_pure ⟨sm3,.inl ⟨_,_,_,_,_,rfl,fr⟩⟩
 ·dsimp only
  exact wpS_bind (wpS_modify (wpS_pure ⟨sm3.mg _,x,y,p,_,rfl,m,hx,hy,by omega⟩))
theorem wV (C:Cmp prog w A s O key U κ) {a b:Array Keyed} {st:SortSt} {Q:Array Keyed->SortSt->Prop} (hκ : kindOf st = κ) (ua:∀ p ∈ a.toList,U p) (ub:∀ p ∈ b.toList,U p)
  (ha:a.toList.Pairwise (Le key)) (hb:b.toList.Pairwise (Le key)) (na:0 < a.size) (nb:0 < b.size) (h0:∀ p q,b[0]? = some p->q ∈ a.toList->Le key p q) (hl:∀ p q,p ∈ b.toList->a[a.size - 1]? = some q->Le key p q)
  (h:∀ r st',Sm st st'->dC key a b r->Q r st'):wpS (model prog w) A E s (mHi a b) Q st:=by
 rw [uT]
 refine wpS_bind (wpS_lift (wpAny_rule ⟨rfl,?_⟩))
 obtain ⟨a0,ea0⟩:=aY (Nat.sub_one_lt_of_lt na)
 have m0:MV key a b #[] a.size b.size:=by
  refine ⟨Nat.le_refl _,Nat.le_refl _,?_,List.Pairwise.nil,fun p _ q hq=>by cases hq⟩
  rw [List.take_of_length_le (by rw [Array.length_toList]; exact Nat.le_refl _),List.take_of_length_le (by rw [Array.length_toList]; exact Nat.le_refl _)]
  show (a.toList ++ b.toList ++ []).Perm _
  rw [List.append_nil]
 have m1:MV key a b #[a0] (a.size - 1) b.size:=m0.ib na ea0 ha fun t ht=>hl t a0 (List.mem_of_mem_take ht) ea0
 refine wpS_bind (aT ea0 ?_)
 by_cases c1:(a.size - 1 == 0)=true
 ·rw [if_pos c1]
  exact wpS_pure (h _ st (Sm.refl st) (m1.qC hb (beq_iff_eq.mp c1)))
 rw [if_neg c1]
 by_cases c2:(b.size == 1)=true
 ·rw [if_pos c2]
  exact wpS_pure (h _ st (Sm.refl st) (m1.first ha hb (beq_iff_eq.mp c2) h0))
 rw [if_neg c2]
 refine wpS_bind (wpS_get ?_)
 refine wpS_bind (wpS_mono (wpS_forRange (I:=fun i c st'=>HeI key a b st i c st') (Q:=HeQ key a b st) (fun i c st1 _ _ J=>wpS_mono (qG C hκ ua ub ha hb h0 na J) fun r st' h=>by cases r <;> exact h) (fun c st' J => ?_) ⟨Sm.refl st,_,_,_,_,rfl,m1,sD c1,uQ nb c2,Nat.le_refl _⟩) ?_)
 ·obtain ⟨sm,x,y,o,mg,e,m,hx,hy,hz⟩:=J
  exact ⟨sm,.inr ⟨x,y,o,mg,e,m,hx,hy,by omega⟩⟩
 rintro c st' ⟨sm,⟨r,x,y,o,mg,rfl,fr⟩ | ⟨x,y,o,mg,rfl,m,hx,hy,hz⟩⟩
 ·exact wpS_pure (h r st' sm fr)
 ·have:=m.size
  omega
end
open PySem PyProof.Rows
theorem wW (i:Nat):mAt i=(do
    let s ← get
    let (some (sa,na,pw),some (sb,nb,_)):=((pendingOf s)[i]?,(pendingOf s)[i + 1]?) | unsupported "internal:list.sort.pending"
    set (SortSt.mk' (kindOf s) (arrOf s) (((pendingOf s).setIfInBounds i (sa,na + nb,pw)).eraseIdxIfInBounds (i + 1)) (gallopOf s) (failedOf s))
    let some k ← gal false (← elem' (arrOf s) sb) (arrOf s) sa na 0 | return false
    let (sa,na):=(sa + k,na - k)
    if na == 0 then return true
    let some nb ← gal true (← elem' (arrOf s) (sa + na - 1)) (arrOf s) sb nb (nb - 1) | return false
    if nb == 0 then return true
    let x:=(arrOf s).extract sa sb
    let y:=(arrOf s).extract sb (sb + nb)
    let mm ← if na<=nb then mLo x y else mHi x y
    modify fun s=>setArr s (mm.toList.zipIdx.foldl (fun a (p,j)=>a.setIfInBounds (sa + j) p) (arrOf s))
    return (failedOf (← get)).isNone):=rfl
theorem gf {α : Type} (p r:List α) (k:Nat):(p ++ r).drop (p.length + k)=r.drop k:=by
 rw [<- List.drop_drop,List.drop_left]
theorem ow {α : Type} (p r:List α) (k:Nat):(p ++ r)[p.length + k]? = r[k]? := by
 rw [List.getElem?_append_right (by omega),Nat.add_sub_cancel_left]
theorem vN {α : Type} (p a r:List α) {k:Nat} (h:k < a.length):(p ++ (a ++ r))[p.length + k]? = a[k]? := by
 rw [ow,List.getElem?_append_left h]
theorem written (l:List Keyed):∀ (c n:Nat) (a:Array Keyed),c + n + l.length<=a.size->((l.zipIdx n).foldl (fun (a:Array Keyed) (pj:Keyed × Nat)=>a.setIfInBounds (c + pj.2) pj.1) a).toList=a.toList.take (c + n) ++ l ++ a.toList.drop (c + n + l.length):=by
 induction l with
 | nil=>intro c n a _; simp
 | cons z l ih =>
  intro c n a h
  rw [List.length_cons] at h
  rw [List.zipIdx_cons,List.foldl_cons,ih c (n + 1) _ (by rw [Array.size_setIfInBounds]; omega)]
  have e:(a.setIfInBounds (c + n) z).toList=a.toList.set (c + n) z:=Array.toList_setIfInBounds ..
  rw [e]
  have lt:c + n < a.toList.length:=by rw [Array.length_toList]; omega
  have t1:(a.toList.set (c + n) z).take (c + (n + 1))=a.toList.take (c + n) ++ [z]:=by
   rw [show c + (n + 1)=c + n + 1 by omega,List.take_add_one,List.take_set_of_le (Nat.le_refl _),List.getElem?_set_self lt]
   rfl
  have t2:(a.toList.set (c + n) z).drop (c + (n + 1) + l.length)=a.toList.drop (c + n + (l.length + 1)):=by
   rw [List.drop_set_of_lt (by omega),show c + (n + 1) + l.length=c + n + (l.length + 1) by omega]
  rw [t1,t2,List.length_cons]
  simp
section
variable {prog:Program} {w:World} {A:Around} {E:Value->Shared->Prop} {s:Shared} {O:KeyOrd} {key:Keyed->O.α} {U:Keyed->Prop} {κ : SortKind}
theorem wX (C:Cmp prog w A s O key U κ) {i pw pw2:Nat} {st:SortSt} {Q:Bool->SortSt->Prop} {P X Y S:List Keyed} (hκ : kindOf st = κ) (hf:failedOf st=none)
    (ha:(arrOf st).toList=P ++ (X ++ (Y ++ S))) (hu:∀ p ∈ (arrOf st).toList,U p) (h1:(pendingOf st)[i]? = some (P.length,X.length,pw)) (h2:(pendingOf st)[i + 1]? = some (P.length + X.length,Y.length,pw2))
    (nx:0 < X.length) (ny:0 < Y.length) (sx:X.Pairwise (Le key)) (sy:Y.Pairwise (Le key))
    (h:∀ st' M,M.Perm (X ++ Y)->M.Pairwise (Le key)->(arrOf st').toList=P ++ (M ++ S)->pendingOf st'=((pendingOf st).setIfInBounds i (P.length,X.length + Y.length,pw)).eraseIdxIfInBounds (i + 1)->kindOf st' = κ -> failedOf st'=none->Q true st') :
    wpS (model prog w) A E s (mAt i) Q st:=by
  rw [wW]
  refine wpS_bind (wpS_get ?_)
  rw [h1,h2]
  dsimp only
  refine wpS_bind (show wpS (model prog w) A E s (modify fun _=>SortSt.mk' (kindOf st) (arrOf st) (((pendingOf st).setIfInBounds i (P.length,X.length + Y.length,pw)).eraseIdxIfInBounds (i + 1)) (gallopOf st) (failedOf st)) _ st from wpS_modify ?_)
  generalize hst1:SortSt.mk' (kindOf st) (arrOf st) (((pendingOf st).setIfInBounds i (P.length,X.length + Y.length,pw)).eraseIdxIfInBounds (i + 1)) (gallopOf st) (failedOf st)=st1
  have k1:kindOf st1 = κ := by rw [<- hst1]; exact hκ
  have a1:arrOf st1=arrOf st:=by rw [<- hst1]
  have p1:pendingOf st1=((pendingOf st).setIfInBounds i (P.length,X.length + Y.length,pw)).eraseIdxIfInBounds (i + 1):=by rw [<- hst1]
  have f1:failedOf st1=none:=by rw [<- hst1]; exact hf
  have sz:(arrOf st).size=P.length + X.length + Y.length + S.length:=by
    rw [<- Array.length_toList,ha]; simp only [List.length_append]; omega
  have atX:∀ j,j < X.length->(arrOf st)[P.length + j]? = X[j]? := fun j hj=>by
    rw [<- Array.getElem?_toList,ha,vN _ _ _ hj]
  have atY:∀ j,j < Y.length->(arrOf st)[P.length + X.length + j]? = Y[j]? := fun j hj=>by
    rw [<- Array.getElem?_toList,ha, <- List.append_assoc,show P.length + X.length + j=(P ++ X).length + j by rw [List.length_append],vN _ _ _ hj]
  have uX:∀ p ∈ X,U p:=fun p hp=>hu p (by rw [ha]; simp [hp])
  have uY:∀ p ∈ Y,U p:=fun p hp=>hu p (by rw [ha]; simp [hp])
  have xget:∀ j,j < X.length->∃ z,X[j]? = some z:=fun j hj=>⟨X[j],by simp [hj]⟩
  have yget:∀ j,j < Y.length->∃ z,Y[j]? = some z:=fun j hj=>⟨Y[j],by simp [hj]⟩
  obtain ⟨y0,ey0⟩:=yget 0 ny
  have plain:(∀ p ∈ X,∀ q ∈ Y,Le key p q)->Q true st1:=fun hle=>h st1 (X ++ Y) (List.Perm.refl _) (List.pairwise_append.mpr ⟨sx,sy,hle⟩) (by rw [a1,ha,List.append_assoc]) p1 k1 f1
  refine wpS_bind (aT (z:=y0) (by rw [show P.length + X.length=P.length + X.length + 0 by omega,atY 0 ny]; exact ey0) ?_)
  refine wpS_bind (wN C (fun j=>(X[j]?).getD y0) k1 (uY _ (List.mem_of_getElem? ey0)) (fun j hj => ?_) (fun j hj => ?_) (fun i j hij hj => ?_) nx fun k hk g1 g2 => ?_)
  · obtain ⟨z,e⟩:=xget j hj
    rw [atX j hj,e]; rfl
  · obtain ⟨z,e⟩:=xget j hj
    rw [e]; exact uX _ (List.mem_of_getElem? e)
  · obtain ⟨z,e⟩:=xget i (by omega)
    obtain ⟨z',e'⟩:=xget j hj
    rw [e,e']; exact aG sx e e' hij
  dsimp only at g1 g2 ⊢
  have y0le:∀ q ∈ Y,Le key y0 q:=fun q hq=>by
    obtain ⟨n,e⟩:=List.mem_iff_getElem?.mp hq
    exact aG sy ey0 e (Nat.zero_le _)
  by_cases c1:(X.length - k == 0)=true
  · rw [if_pos c1]
    refine wpS_pure (plain fun p hp q hq => ?_)
    obtain ⟨n,e⟩:=List.mem_iff_getElem?.mp hp
    have hn:n < X.length:=(List.getElem?_eq_some_iff.mp e).1
    have z:=g1 n (by have:=beq_iff_eq.mp c1; omega)
    rw [e] at z
    exact KeyOrd.kle_trans z (y0le q hq)
  rw [if_neg c1]
  have kx:k < X.length:=by have:X.length - k ≠ 0:=fun z=>c1 (beq_iff_eq.mpr z); omega
  obtain ⟨xl,exl⟩:=xget (X.length - 1) (by omega)
  have xlle:∀ p ∈ X,Le key p xl:=fun p hp=>by
    obtain ⟨n,e⟩:=List.mem_iff_getElem?.mp hp
    have hn:n < X.length:=(List.getElem?_eq_some_iff.mp e).1
    exact aG sx e exl (by omega)
  refine wpS_bind (aT (z:=xl) (by rw [show P.length + k + (X.length - k) - 1=P.length + (X.length - 1) by omega,atX _ (by omega)]; exact exl) ?_)
  refine wpS_bind (wO C (fun j=>(Y[j]?).getD xl) k1 (uX _ (List.mem_of_getElem? exl)) (fun j hj => ?_) (fun j hj => ?_) (fun i j hij hj => ?_) (by omega) fun m hm e1 e2 => ?_)
  · obtain ⟨z,e⟩:=yget j hj
    rw [atY j hj,e]; rfl
  · obtain ⟨z,e⟩:=yget j hj
    rw [e]; exact uY _ (List.mem_of_getElem? e)
  · obtain ⟨z,e⟩:=yget i (by omega)
    obtain ⟨z',e'⟩:=yget j hj
    rw [e,e']; exact aG sy e e' hij
  dsimp only at e1 e2 ⊢
  by_cases c2:(m == 0)=true
  · rw [if_pos c2]
    refine wpS_pure (plain fun p hp q hq => ?_)
    obtain ⟨n,e⟩:=List.mem_iff_getElem?.mp hq
    have hn:n < Y.length:=(List.getElem?_eq_some_iff.mp e).1
    have z:=e2 n (by have:=beq_iff_eq.mp c2; omega) hn
    rw [e] at z
    exact KeyOrd.kle_trans (xlle p hp) z
  rw [if_neg c2]
  have m0:0 < m:=by have:m ≠ 0:=fun z=>c2 (beq_iff_eq.mpr z); omega
  have ex:((arrOf st).extract (P.length + k) (P.length + X.length)).toList=X.drop k:=by
    rw [Array.toList_extract,List.extract_eq_take_drop,ha,gf,List.drop_append_of_le_length (by omega)]
    rw [List.take_left' (by rw [List.length_drop]; omega)]
  have ey:((arrOf st).extract (P.length + X.length) (P.length + X.length + m)).toList=Y.take m:=by
    have e:=gf (P ++ X) (Y ++ S) 0
    rw [List.length_append,Nat.add_zero,List.drop_zero,List.append_assoc] at e
    rw [Array.toList_extract,List.extract_eq_take_drop,ha,e,Nat.add_sub_cancel_left,List.take_append_of_le_length hm]
  have sX:((arrOf st).extract (P.length + k) (P.length + X.length)).size=X.length - k:=by rw [<- Array.length_toList,ex,List.length_drop]
  have sY:((arrOf st).extract (P.length + X.length) (P.length + X.length + m)).size=m:=by rw [<- Array.length_toList,ey,List.length_take]; omega
  generalize (arrOf st).extract (P.length + k) (P.length + X.length)=xa at ex sX ⊢
  generalize (arrOf st).extract (P.length + X.length) (P.length + X.length + m)=ya at ey sY ⊢
  have xa0:∀ q ∈ xa.toList,Le key y0 q:=fun q hq=>by
    rw [ex] at hq
    obtain ⟨n,hn,e⟩:=aS hq
    have hn2:n < X.length:=(List.getElem?_eq_some_iff.mp e).1
    have z:=g2 n hn hn2
    rw [e] at z
    exact KeyOrd.kle_of_klt z
  have yaL:∀ p ∈ ya.toList,Le key p xl:=fun p hp=>by
    rw [ey] at hp
    obtain ⟨n,hn,e⟩:=aZ hp
    have z:=e1 n hn
    rw [e] at z
    exact KeyOrd.kle_of_klt z
  have first:∀ p q,ya[0]? = some p->q ∈ xa.toList->Le key p q:=fun p q hp hq=>by
    rw [<- Array.getElem?_toList,ey,List.getElem?_take,if_pos m0,ey0] at hp
    cases hp
    exact xa0 q hq
  have lst:∀ p q,p ∈ ya.toList->xa[xa.size - 1]? = some q->Le key p q:=fun p q hp hq=>by
    rw [<- Array.getElem?_toList,ex,List.getElem?_drop,sX,show k + (X.length - k - 1)=X.length - 1 by omega,exl] at hq
    cases hq
    exact yaL p hp
  have sxa:xa.toList.Pairwise (Le key):=by rw [ex]; exact sx.sublist (List.drop_sublist _ _)
  have sya:ya.toList.Pairwise (Le key):=by rw [ey]; exact sy.sublist (List.take_sublist _ _)
  have uxa:∀ p ∈ xa.toList,U p:=fun p hp=>by rw [ex] at hp; exact uX p (List.mem_of_mem_drop hp)
  have uya:∀ p ∈ ya.toList,U p:=fun p hp=>by rw [ey] at hp; exact uY p (List.mem_of_mem_take hp)
  have post:∀ r st',Sm st1 st'->dC key xa ya r->wpS (model prog w) A E s (do modify fun s=>setArr s (r.toList.zipIdx.foldl (fun a (p,j)=>a.setIfInBounds (P.length + k + j) p) (arrOf s)); return (failedOf (← get)).isNone) Q st':=by
    rintro r st' sm ⟨fp,fs⟩
    refine wpS_bind (wpS_modify (wpS_bind (wpS_get (wpS_pure ?_))))
    have rl:r.toList.length=X.length - k + m:=by rw [fp.length_eq,List.length_append,Array.length_toList,Array.length_toList,sX,sY]
    have wr:=written r.toList (P.length + k) 0 (arrOf st') (by rw [sm.a,a1,sz,rl]; omega)
    have e:(failedOf (setArr st' (r.toList.zipIdx.foldl (fun a (p,j)=>a.setIfInBounds (P.length + k + j) p) (arrOf st')))).isNone=true:=by
      show (failedOf st').isNone=true
      rw [sm.f,f1]; rfl
    rw [e]
    have t1:(P ++ (X ++ (Y ++ S))).take (P.length + k + 0)=P ++ X.take k:=by
      rw [Nat.add_zero,List.take_append,List.take_of_length_le (by omega),Nat.add_sub_cancel_left,List.take_append_of_le_length (by omega)]
    have t2:(P ++ (X ++ (Y ++ S))).drop (P.length + k + 0 + r.toList.length)=Y.drop m ++ S:=by
      rw [rl,show P.length + k + 0 + (X.length - k + m)=P.length + (X.length + m) by omega,gf,gf,List.drop_append_of_le_length hm]
    have perm:(X.take k ++ (r.toList ++ Y.drop m)).Perm (X ++ Y):=by
      rw [ex,ey] at fp
      have q:(X.take k ++ (r.toList ++ Y.drop m)).Perm (X.take k ++ ((X.drop k ++ Y.take m) ++ Y.drop m)):=List.Perm.append_left _ (List.Perm.append_right _ fp)
      have e3:X.take k ++ ((X.drop k ++ Y.take m) ++ Y.drop m)=X ++ Y:=by
        rw [List.append_assoc (X.drop k),List.take_append_drop, <- List.append_assoc,List.take_append_drop]
      rw [e3] at q
      exact q
    have inr:∀ z ∈ r.toList,z ∈ X.drop k\/z ∈ Y.take m:=fun z hz=>by
      have q:=fp.mem_iff.mp hz
      rw [ex,ey] at q
      exact List.mem_append.mp q
    refine h _ (X.take k ++ (r.toList ++ Y.drop m)) perm ?_ ?_ ?_ (sm.k.trans k1) (sm.f.trans f1)
    · refine List.pairwise_append.mpr ⟨sx.sublist (List.take_sublist _ _),List.pairwise_append.mpr ⟨fs,sy.sublist (List.drop_sublist _ _),fun p hp q hq => ?_⟩,fun p hp q hq => ?_⟩
      · obtain ⟨n,hn,en⟩:=aS hq
        have hn2:n < Y.length:=(List.getElem?_eq_some_iff.mp en).1
        rcases inr p hp with z | z
        · have g:=e2 n hn hn2
          rw [en] at g
          exact KeyOrd.kle_trans (xlle p (List.mem_of_mem_drop z)) g
        · obtain ⟨j,hj,ej⟩:=aZ z
          exact aG sy ej en (by omega)
      · obtain ⟨n,hn,en⟩:=aZ hp
        have g:=g1 n hn
        rw [en] at g
        rcases List.mem_append.mp hq with z | z
        · rcases inr q z with z | z
          · obtain ⟨j,hj,ej⟩:=aS z
            exact aG sx en ej (by omega)
          · exact KeyOrd.kle_trans g (y0le q (List.mem_of_mem_take z))
        · exact KeyOrd.kle_trans g (y0le q (List.mem_of_mem_drop z))
    · show (r.toList.zipIdx.foldl (fun a (p,j)=>a.setIfInBounds (P.length + k + j) p) (arrOf st')).toList=_
      rw [wr,sm.a,a1,ha,t1,t2]
      simp only [List.append_assoc]
    · show pendingOf st'=_
      rw [sm.p,p1]
  by_cases c3:X.length - k<=m
  · rw [if_pos c3]
    exact wpS_bind (wR C k1 uxa uya sxa sya (by omega) (by omega) (fun p q hp hq=>first p q hp (bP hq)) lst fun r st' sm fr=>post r st' sm fr)
  · rw [if_neg c3]
    exact wpS_bind (wV C k1 uxa uya sxa sya (by omega) (by omega) first lst fun r st' sm fr=>post r st' sm fr)
end
open PySem PyProof.Rows
theorem uU (lo m:Nat):wL lo m=(do
    let mut n:=1
    for _ in [1:m] do
      let some sm ← ltAt' (lo + n) (lo + n - 1)
        | return none
      if sm then break
      n:=n + 1
    if n == m then return some n
    if n > 1 then
      let some ro ← ltAt' lo (lo + n - 1)
        | return none
      if ro then return some n
      reverseSlice' lo (lo + n)
    rule "list.sort.descending-run"
    n:=n + 1
    let mut q:=0
    for _ in [n:m] do
      let some sm ← ltAt' (lo + n) (lo + n - 1)
        | return none
      if sm then
        if q > 0 then reverseSlice' (lo + n - (q + 1)) (lo + n)
        q:=0
      else
        let some lg ← ltAt' (lo + n - 1) (lo + n)
          | return none
        if lg then break
        q:=q + 1
      n:=n + 1
    if q > 0 then reverseSlice' (lo + n - (q + 1)) (lo + n)
    reverseSlice' lo (lo + n)
    for _ in [n:m] do
      let some sm ← ltAt' (lo + n) (lo + n - 1)
        | return none
      if sm then break
      n:=n + 1
    return some n):=rfl
theorem sH (lo n ok:Nat):so lo n ok=(do
    for k in [max ok 1:n] do
      let mut l:=0; let mut r:=k
      for _ in [0:k] do
        if l ≥ r then break
        let m:=(l + r) / 2
        let some le ← ltAt' (lo + k) (lo + m)
          | return false
        if le then r:=m else l:=m + 1
      moveDown' (lo + k) (lo + l)
    return true):=rfl
section
variable {O:KeyOrd} (key:Keyed->O.α)
def kk (xs:Array Keyed) (i:Nat):O.α := key ((xs[i]?).getD (Value.none,Value.none))
def Up (xs:Array Keyed) (lo n:Nat):Prop:=∀ i j,lo<=i->i<=j->j < lo + n->O.kle (kk key xs i) (kk key xs j)
def Down (xs:Array Keyed) (lo n:Nat):Prop:=∀ i j,lo<=i->i<=j->j < lo + n->O.kle (kk key xs j) (kk key xs i)
variable {key}
theorem gg {xs ys:Array Keyed} {i j:Nat} (h:xs[i]? = ys[j]?):kk key xs i=kk key ys j:=by unfold kk; rw [h]
theorem jZ {xs:Array Keyed} {i j:Nat} (hj:j<=xs.size) (k:Nat):kk key (mirror xs i j ((j - i) / 2)) k=if i<=k/\k < j then kk key xs (i + j - 1 - k) else kk key xs k:=by
 have e:=getElem?_mirror_all (i:=i) hj k
 by_cases h:i<=k/\k < j
 ·rw [if_pos h] at e ⊢; exact gg e
 ·rw [if_neg h] at e ⊢; exact gg e
theorem d7 {xs:Array Keyed} {i j:Nat} (hj:j<=xs.size) (he:∀ k,i<=k->k < j->kk key xs k=kk key xs (j - 1)) (k:Nat):kk key (mirror xs i j ((j - i) / 2)) k=kk key xs k:=by
 rw [jZ hj]
 split
 ·rw [he _ (by omega) (by omega),he k (by omega) (by omega)]
 ·rfl
end
structure SA (lo:Nat) (st st':SortSt):Prop where
 perm:(arrOf st').Perm (arrOf st)
 pre:∀ k,k < lo->(arrOf st')[k]? = (arrOf st)[k]?
 k:kindOf st'=kindOf st
 p:pendingOf st'=pendingOf st
 f:failedOf st'=failedOf st
theorem SA.refl (lo:Nat) (st:SortSt):SA lo st st:=⟨Array.Perm.refl _,fun _ _=>rfl,rfl,rfl,rfl⟩
theorem SA.size {lo:Nat} {st st':SortSt} (h:SA lo st st'):(arrOf st').size=(arrOf st).size:=h.perm.size_eq
theorem SA.mirror {lo:Nat} {st st':SortSt} (h:SA lo st st') {i j:Nat} (hi:lo<=i) (hj:j<=(arrOf st').size):SA lo st (setArr st' (mirror (arrOf st') i j ((j - i) / 2))) :=
 ⟨(mirror_perm _ _ _ _).trans h.perm,fun k hk=>by
  show (PyProof.Rows.mirror (arrOf st') i j ((j - i) / 2))[k]? = _
  rw [getElem?_mirror_all hj,if_neg (by omega)]
  exact h.pre k hk,h.k,h.p,h.f⟩
theorem SA.mem {lo:Nat} {st st':SortSt} (h:SA lo st st') {p:Keyed} (hp:p ∈ (arrOf st').toList):p ∈ (arrOf st).toList:=(Array.perm_iff_toList_perm.mp h.perm).mem_iff.mp hp
section
variable {prog:Program} {w:World} {A:Around} {E:Value->Shared->Prop} {s:Shared} {O:KeyOrd} {key:Keyed->O.α} {U:Keyed->Prop} {κ : SortKind}
theorem fj (C:Cmp prog w A s O key U κ) {st:SortSt} {i j:Nat} {Q:Option Bool->SortSt->Prop} (hκ : kindOf st = κ) (hu:∀ p ∈ (arrOf st).toList,U p) (hi:i < (arrOf st).size) (hj:j < (arrOf st).size)
  (h:Q (some (O.blt (kk key (arrOf st) i) (kk key (arrOf st) j))) st):wpS (model prog w) A E s (ltAt' i j) Q st:=by
 rw [ltAt'_eq]
 refine wpS_bind (wpS_get ?_)
 obtain ⟨x,ex⟩:=aY hi
 obtain ⟨y,ey⟩:=aY hj
 dsimp only
 refine wpS_bind (aT ex (wpS_bind (aT ey (C.lt _ st x y _ hκ (hu _ (bP ex)) (hu _ (bP ey)) ?_))))
 unfold kk at h
 rw [ex,ey] at h
 exact h
theorem uV (C:Cmp prog w A s O key U κ) {st:SortSt} {lo m:Nat} {Q:Option Nat->SortSt->Prop} (hκ : kindOf st = κ) (hu:∀ p ∈ (arrOf st).toList,U p) (hm:1<=m) (hz:lo + m=(arrOf st).size)
  (h:∀ n st',1<=n->n<=m->SA lo st st'->Up key (arrOf st') lo n->Q (some n) st'):wpS (model prog w) A E s (wL lo m) Q st:=by
 rw [uU]
 dsimp only
 refine wpS_bind (wpS_mono (wpS_forRange (I:=fun x c st'=>st=st'/\c=(none,x)/\Up key (arrOf st) lo x)
  (Q:=fun c st'=>st=st'/\∃ n,c=(none,n)/\1<=n/\n<=m/\Up key (arrOf st) lo n/\(n < m->O.klt (kk key (arrOf st) (lo + n)) (kk key (arrOf st) (lo + n - 1)))) ?step ?fin ⟨rfl,rfl,fun i j h1 h2 h3=>by rw [show i=j by omega]; exact KeyOrd.kle_refl _⟩) ?post)
 case fin =>
  rintro c st' ⟨rfl,rfl,up⟩
  exact ⟨rfl,_,rfl,by omega,by omega,by rw [show max 1 m=m by omega] at up ⊢; exact up,by omega⟩
 case step =>
  rintro x c st' h1 h2 ⟨rfl,rfl,up⟩
  dsimp only
  refine wpS_bind (fj C hκ hu (by omega) (by omega) ?_)
  dsimp only
  cases hb:O.blt (kk key (arrOf st) (lo + x)) (kk key (arrOf st) (lo + x - 1)) with
  | true =>
   rw [if_pos rfl]
   exact wpS_pure ⟨rfl,x,rfl,h1,by omega,up,fun _=>hb⟩
  | false =>
   rw [if_neg (by simp)]
   refine wpS_pure ⟨rfl,rfl,fun i j k1 k2 k3 => ?_⟩
   by_cases hj:j=lo + x
   ·by_cases hi:i=j
    ·rw [hi]; exact KeyOrd.kle_refl _
    ·rw [hj]
     exact KeyOrd.kle_trans (up i (lo + x - 1) k1 (by omega) (by omega)) hb
   ·exact up i j k1 k2 (by omega)
 case post =>
  rintro c st' ⟨rfl,n,rfl,n1,n2,up,br⟩
  dsimp only
  by_cases c1:(n == m)=true
  ·rw [if_pos c1]
   exact wpS_pure (h n st n1 n2 (SA.refl _ _) up)
  rw [if_neg c1]
  have nm:n < m:=by have:n ≠ m:=fun z=>c1 (beq_iff_eq.mpr z); omega
  have br:=br nm
  by_cases c2:n > 1
  case' pos =>
   rw [if_pos c2]
   refine wpS_bind (fj C hκ hu (by omega) (by omega) ?_)
   dsimp only
   cases hro:O.blt (kk key (arrOf st) lo) (kk key (arrOf st) (lo + n - 1))
   case' true =>
    rw [if_pos rfl]
    exact wpS_pure (h n st n1 n2 (SA.refl _ _) up)
   rw [if_neg (by simp)]
   have eqs:∀ k,lo<=k->k < lo + n->kk key (arrOf st) k=kk key (arrOf st) (lo + n - 1):=fun k k1 k2 =>
    KeyOrd.kle_antisymm (up k (lo + n - 1) k1 (by omega) (by omega)) (KeyOrd.kle_trans (show O.kle (kk key (arrOf st) (lo + n - 1)) (kk key (arrOf st) lo) from hro) (up lo k (Nat.le_refl _) k1 k2))
   rw [reverseSlice'_eq]
   refine wpS_bind (wpS_modify ?_)
   have sa:=(SA.refl lo st).mirror (i:=lo) (j:=lo + n) (Nat.le_refl _) (by omega)
   have ke:=d7 (key:=key) (xs:=arrOf st) (i:=lo) (j:=lo + n) (by omega) eqs
   have ka:∀ k,kk key (arrOf (setArr st (mirror (arrOf st) lo (lo + n) ((lo + n - lo) / 2)))) k=kk key (arrOf st) k:=ke
   generalize setArr st (mirror (arrOf st) lo (lo + n) ((lo + n - lo) / 2))=st1 at sa ka ⊢
   clear ke
  case' neg =>
   rw [if_neg c2]
   have eqs:∀ k,lo<=k->k < lo + n->kk key (arrOf st) k=kk key (arrOf st) (lo + n - 1):=fun k k1 k2=>by rw [show k=lo + n - 1 by omega]
   obtain ⟨st1,e1⟩:∃ st1,st1=st:=⟨_,rfl⟩
   have sa:SA lo st st1:=by rw [e1]; exact SA.refl _ _
   have ka:∀ k,kk key (arrOf st1) k=kk key (arrOf st) k:=fun k=>by rw [e1]
   rw [<- e1]
   clear e1
  all_goals
   refine wpS_bind (wpS_lift (wpAny_rule ⟨rfl,?_⟩))
   have dn:Down key (arrOf st1) lo (n + 1):=fun i j k1 k2 k3=>by
    rw [ka,ka]
    by_cases hj:j=lo + n
    ·by_cases hi:i=j
     ·rw [hi]; exact KeyOrd.kle_refl _
     ·rw [hj,eqs i k1 (by omega)]
      exact KeyOrd.kle_of_klt br
    ·rw [eqs i k1 (by omega),eqs j (by omega) (by omega)]
     exact KeyOrd.kle_refl _
   clear eqs up br ka
   refine wpS_bind (wpS_mono (wpS_forRange (I:=fun x c st'=>∃ q,c=(none,x,q)/\x<=m/\SA lo st st'/\Down key (arrOf st') lo x/\q + 1<=x/\∀ k,lo + x - (q + 1)<=k->k < lo + x->kk key (arrOf st') k=kk key (arrOf st') (lo + x - 1))
    (Q:=fun c st'=>∃ x q,c=(none,x,q)/\1<=x/\x<=m/\SA lo st st'/\Down key (arrOf st') lo x/\q + 1<=x/\∀ k,lo + x - (q + 1)<=k->k < lo + x->kk key (arrOf st') k=kk key (arrOf st') (lo + x - 1)) ?step ?fin
    ⟨0,rfl,by omega,sa,dn,by omega,fun k k1 k2=>by rw [show k=lo + (n + 1) - 1 by omega]⟩) ?post)
   case fin =>
    rintro c st' ⟨q,rfl,xm,sa,dn,hq,he⟩
    exact ⟨_,q,rfl,by omega,xm,sa,dn,hq,he⟩
   case step =>
    rintro x c st2 h1 h2 ⟨q,rfl,xm,sa2,dn2,hq,he⟩
    dsimp only
    have sz:=sa2.size
    have u2:∀ p ∈ (arrOf st2).toList,U p:=fun p hp=>hu p (sa2.mem hp)
    refine wpS_bind (fj C (sa2.k.trans hκ) u2 (by omega) (by omega) ?_)
    dsimp only
    cases hb:O.blt (kk key (arrOf st2) (lo + x)) (kk key (arrOf st2) (lo + x - 1)) with
    | true =>
     rw [if_pos rfl]
     have dn3:Down key (arrOf st2) lo (x + 1):=fun i j k1 k2 k3=>by
      by_cases hj:j=lo + x
      ·by_cases hi:i=j
       ·rw [hi]; exact KeyOrd.kle_refl _
       ·rw [hj]; exact KeyOrd.kle_trans (KeyOrd.kle_of_klt hb) (dn2 i (lo + x - 1) k1 (by omega) (by omega))
      ·exact dn2 i j k1 k2 (by omega)
     by_cases q0:q > 0
     ·rw [if_pos q0,reverseSlice'_eq]
      refine wpS_bind (wpS_modify (wpS_pure ?_))
      have ke:=d7 (key:=key) (xs:=arrOf st2) (i:=lo + x - (q + 1)) (j:=lo + x) (by omega) he
      refine ⟨0,rfl,by omega,sa2.mirror (by omega) (by omega),fun i j k1 k2 k3 => ?_,by omega,fun k k1 k2=>by rw [show k=lo + (x + 1) - 1 by omega]⟩
      show O.kle (kk key (mirror (arrOf st2) (lo + x - (q + 1)) (lo + x) ((lo + x - (lo + x - (q + 1))) / 2)) j) (kk key (mirror (arrOf st2) (lo + x - (q + 1)) (lo + x) ((lo + x - (lo + x - (q + 1))) / 2)) i)
      rw [ke,ke]
      exact dn3 i j k1 k2 k3
     ·rw [if_neg q0]
      exact wpS_pure ⟨0,rfl,by omega,sa2,dn3,by omega,fun k k1 k2=>by rw [show k=lo + (x + 1) - 1 by omega]⟩
    | false =>
     rw [if_neg (by simp)]
     refine wpS_bind (fj C (sa2.k.trans hκ) u2 (by omega) (by omega) ?_)
     dsimp only
     cases hb2:O.blt (kk key (arrOf st2) (lo + x - 1)) (kk key (arrOf st2) (lo + x)) with
     | true =>
      rw [if_pos rfl]
      exact wpS_pure ⟨x,q,rfl,by omega,xm,sa2,dn2,hq,he⟩
     | false =>
      rw [if_neg (by simp)]
      have eq:=KeyOrd.kle_antisymm (show O.kle (kk key (arrOf st2) (lo + x)) (kk key (arrOf st2) (lo + x - 1)) from hb2) hb
      refine wpS_pure ⟨q + 1,rfl,by omega,sa2,fun i j k1 k2 k3 => ?_,by omega,fun k k1 k2 => ?_⟩
      ·by_cases hj:j=lo + x
       ·by_cases hi:i=j
        ·rw [hi]; exact KeyOrd.kle_refl _
        ·rw [hj,eq]; exact dn2 i (lo + x - 1) k1 (by omega) (by omega)
       ·exact dn2 i j k1 k2 (by omega)
      ·rw [show lo + (x + 1) - 1=lo + x by omega,eq]
       by_cases hk:k=lo + x
       ·rw [hk,eq]
       ·exact he k (by omega) (by omega)
   case post =>
    rintro c st2 ⟨x,q,rfl,x1,xm,sa2,dn2,hq,he⟩
    dsimp only
    have sz:=sa2.size
    by_cases q0:q > 0
    case' pos =>
     rw [if_pos q0,reverseSlice'_eq]
     refine wpS_bind (wpS_modify ?_)
     have ke:=d7 (key:=key) (xs:=arrOf st2) (i:=lo + x - (q + 1)) (j:=lo + x) (by omega) he
     have sa3:=sa2.mirror (i:=lo + x - (q + 1)) (j:=lo + x) (by omega) (by omega)
     have dn3:Down key (arrOf (setArr st2 (mirror (arrOf st2) (lo + x - (q + 1)) (lo + x) ((lo + x - (lo + x - (q + 1))) / 2)))) lo x:=fun i j k1 k2 k3=>by
      show O.kle (kk key (mirror (arrOf st2) (lo + x - (q + 1)) (lo + x) ((lo + x - (lo + x - (q + 1))) / 2)) j) (kk key (mirror (arrOf st2) (lo + x - (q + 1)) (lo + x) ((lo + x - (lo + x - (q + 1))) / 2)) i)
      rw [ke,ke]
      exact dn2 i j k1 k2 k3
     generalize setArr st2 (mirror (arrOf st2) (lo + x - (q + 1)) (lo + x) ((lo + x - (lo + x - (q + 1))) / 2))=st3 at sa3 dn3 ⊢
     clear ke
    case' neg =>
     rw [if_neg q0]
     obtain ⟨st3,e3⟩:∃ st3,st3=st2:=⟨_,rfl⟩
     have sa3:SA lo st st3:=by rw [e3]; exact sa2
     have dn3:Down key (arrOf st3) lo x:=by rw [e3]; exact dn2
     rw [<- e3]
     clear e3
    all_goals
     rw [reverseSlice'_eq]
     refine wpS_bind (wpS_modify ?_)
     have sz3:=sa3.size
     have sa4:=sa3.mirror (i:=lo) (j:=lo + x) (Nat.le_refl _) (by omega)
     have km:=jZ (key:=key) (xs:=arrOf st3) (i:=lo) (j:=lo + x) (by omega)
     have up4:Up key (arrOf (setArr st3 (mirror (arrOf st3) lo (lo + x) ((lo + x - lo) / 2)))) lo x:=fun i j k1 k2 k3=>by
      show O.kle (kk key (mirror (arrOf st3) lo (lo + x) ((lo + x - lo) / 2)) i) (kk key (mirror (arrOf st3) lo (lo + x) ((lo + x - lo) / 2)) j)
      rw [km,km,if_pos ⟨by omega,by omega⟩,if_pos ⟨by omega,by omega⟩]
      exact dn3 _ _ (by omega) (by omega) (by omega)
     generalize setArr st3 (mirror (arrOf st3) lo (lo + x) ((lo + x - lo) / 2))=st4 at sa4 up4 ⊢
     clear km
     have u4:∀ p ∈ (arrOf st4).toList,U p:=fun p hp=>hu p (sa4.mem hp)
     have sz4:=sa4.size
     refine wpS_bind (wpS_mono (wpS_forRange (I:=fun z c st'=>st4=st'/\c=(none,z)/\z<=m/\Up key (arrOf st4) lo z)
      (Q:=fun c st'=>st4=st'/\∃ z,c=(none,z)/\1<=z/\z<=m/\Up key (arrOf st4) lo z) ?step ?fin ⟨rfl,rfl,xm,up4⟩) ?post)
     case fin =>
      rintro c st' ⟨rfl,rfl,zm,up⟩
      exact ⟨rfl,_,rfl,by omega,zm,up⟩
     case post =>
      rintro c st' ⟨rfl,z,rfl,z1,zm,up⟩
      exact wpS_pure (h z st4 z1 zm sa4 up)
     case step =>
      rintro z c st' h1 h2 ⟨rfl,rfl,zm,up⟩
      dsimp only
      refine wpS_bind (fj C (sa4.k.trans hκ) u4 (by omega) (by omega) ?_)
      dsimp only
      cases hb:O.blt (kk key (arrOf st4) (lo + z)) (kk key (arrOf st4) (lo + z - 1)) with
      | true =>
       rw [if_pos rfl]
       exact wpS_pure ⟨rfl,z,rfl,by omega,zm,up⟩
      | false =>
       rw [if_neg (by simp)]
       refine wpS_pure ⟨rfl,rfl,by omega,fun i j k1 k2 k3 => ?_⟩
       by_cases hj:j=lo + z
       ·by_cases hi:i=j
        ·rw [hi]; exact KeyOrd.kle_refl _
        ·rw [hj]; exact KeyOrd.kle_trans (up i (lo + z - 1) k1 (by omega) (by omega)) hb
       ·exact up i j k1 k2 (by omega)
theorem j4 {xs:Array Keyed} {src d:Nat} (hs:src < xs.size) (hd:d<=src) (k:Nat) :
  kk key (bubble xs src d) k=if k=src - d then kk key xs src else if src - d < k/\k<=src then kk key xs (k - 1) else kk key xs k:=by
 have e:=getElem?_bubble hs d hd k
 by_cases h1:k=src - d
 ·rw [if_pos h1] at e ⊢; exact gg e
 ·rw [if_neg h1] at e ⊢
  by_cases h2:src - d < k/\k<=src
  ·rw [if_pos h2] at e ⊢; exact gg e
  ·rw [if_neg h2] at e ⊢; exact gg e
theorem SA.bubble {lo:Nat} {st st':SortSt} (h:SA lo st st') {src d:Nat} (hs:src < (arrOf st').size) (hd:lo + d<=src):SA lo st (setArr st' (bubble (arrOf st') src d)) :=
 ⟨(bubble_perm _ _ _).trans h.perm,fun k hk=>by
  show (PyProof.Rows.bubble (arrOf st') src d)[k]? = _
  rw [getElem?_bubble hs d (by omega),if_neg (by omega),if_neg (by omega)]
  exact h.pre k hk,h.k,h.p,h.f⟩
theorem sI (C:Cmp prog w A s O key U κ) {st:SortSt} {lo n ok:Nat} {Q:Bool->SortSt->Prop} (hκ : kindOf st = κ) (hu:∀ p ∈ (arrOf st).toList,U p) (hn:lo + n<=(arrOf st).size) (hok:ok<=n) (up:Up key (arrOf st) lo ok)
  (h:∀ st',SA lo st st'->Up key (arrOf st') lo n->Q true st'):wpS (model prog w) A E s (so lo n ok) Q st:=by
 rw [sH]
 dsimp only
 refine wpS_bind (wpS_mono (wpS_forRange (I:=fun x c st'=>c=(none,())/\SA lo st st'/\Up key (arrOf st') lo (min x n)) (Q:=fun c st'=>c=(none,())/\SA lo st st'/\Up key (arrOf st') lo n) ?step ?fin ⟨rfl,SA.refl _ _,fun i j k1 k2 k3 => ?_⟩) ?post)
 case post =>
  rintro c st' ⟨rfl,sa,up⟩
  exact wpS_pure (h st' sa up)
 case fin =>
  rintro c st' ⟨rfl,sa,up⟩
  refine ⟨rfl,sa,?_⟩
  rw [show min (max (max ok 1) n) n=n by omega] at up
  exact up
 case step =>
  rintro k c st1 h1 h2 ⟨rfl,sa1,up1⟩
  rw [show min k n=k by omega] at up1
  have sz:=sa1.size
  have u1:∀ p ∈ (arrOf st1).toList,U p:=fun p hp=>hu p (sa1.mem hp)
  refine wpS_bind (wpS_mono (wpS_forRange (I:=fun x c st'=>st1=st'/\∃ l r,c=(none,l,r)/\l<=r/\r<=k/\r - l<=k - x/\(∀ i,i < l->O.kle (kk key (arrOf st1) (lo + i)) (kk key (arrOf st1) (lo + k)))/\(∀ i,r<=i->i < k->O.klt (kk key (arrOf st1) (lo + k)) (kk key (arrOf st1) (lo + i))))
   (Q:=fun c st'=>st1=st'/\∃ l r,c=(none,l,r)/\l<=k/\(∀ i,i < l->O.kle (kk key (arrOf st1) (lo + i)) (kk key (arrOf st1) (lo + k)))/\(∀ i,l<=i->i < k->O.klt (kk key (arrOf st1) (lo + k)) (kk key (arrOf st1) (lo + i)))) ?istep ?ifin ⟨rfl,0,k,rfl,by omega,by omega,by omega,fun i hi=>by omega,fun i a1 a2=>by omega⟩) ?ipost)
  case ifin =>
   rintro c st' ⟨rfl,l,r,rfl,b1,b2,b3,b4,b5⟩
   have e:l=r:=by omega
   subst e
   exact ⟨rfl,l,l,rfl,b2,b4,b5⟩
  case istep =>
   rintro x c st' _ hx ⟨rfl,l,r,rfl,b1,b2,b3,b4,b5⟩
   dsimp only
   by_cases hge:l ≥ r
   ·rw [if_pos hge]
    have e:l=r:=by omega
    subst e
    exact wpS_pure ⟨rfl,l,l,rfl,b2,b4,b5⟩
   ·rw [if_neg hge]
    refine wpS_bind (fj C (sa1.k.trans hκ) u1 (by omega) (by omega) ?_)
    dsimp only
    cases hb:O.blt (kk key (arrOf st1) (lo + k)) (kk key (arrOf st1) (lo + (l + r) / 2)) with
    | true =>
     rw [if_pos rfl]
     exact wpS_pure ⟨rfl,l,(l + r) / 2,rfl,by omega,by omega,by omega,b4,fun i a1 a2=>KeyOrd.klt_of_klt_of_kle hb (up1 _ _ (by omega) (by omega) (by omega))⟩
    | false =>
     rw [if_neg (by simp)]
     exact wpS_pure ⟨rfl,(l + r) / 2 + 1,r,rfl,by omega,by omega,by omega,fun i a1=>KeyOrd.kle_trans (up1 (lo + i) (lo + (l + r) / 2) (by omega) (by omega) (by omega)) hb,b5⟩
  case ipost =>
   rintro c st' ⟨rfl,l,r,rfl,b2,b4,b5⟩
   dsimp only
   rw [moveDown'_eq]
   have e:lo + k - (lo + l)=k - l:=by omega
   refine wpS_bind (wpS_modify (wpS_pure ⟨rfl,?_,?_⟩))
   ·rw [e]
    exact sa1.bubble (by omega) (by omega)
   ·rw [show min (k + 1) n=k + 1 by omega]
    intro i j k1 k2 k3
    show O.kle (kk key (bubble (arrOf st1) (lo + k) (lo + k - (lo + l))) i) (kk key (bubble (arrOf st1) (lo + k) (lo + k - (lo + l))) j)
    have lt:lo + k < (arrOf st1).size:=by omega
    rw [e,j4 lt (by omega),j4 lt (by omega),show lo + k - (k - l)=lo + l by omega]
    have b4':∀ z,lo<=z->z < lo + l->O.kle (kk key (arrOf st1) z) (kk key (arrOf st1) (lo + k)):=fun z z1 z2=>by
     have:=b4 (z - lo) (by omega)
     rw [show lo + (z - lo)=z by omega] at this
     exact this
    have b5':∀ z,lo + l<=z->z < lo + k->O.kle (kk key (arrOf st1) (lo + k)) (kk key (arrOf st1) z):=fun z z1 z2=>by
     have:=b5 (z - lo) (by omega) (by omega)
     rw [show lo + (z - lo)=z by omega] at this
     exact KeyOrd.kle_of_klt this
    repeat' split
    all_goals first
     | (exfalso; omega)
     | exact KeyOrd.kle_refl _
     | exact b4' _ (by omega) (by omega)
     | exact b5' _ (by omega) (by omega)
     | exact up1 _ _ (by omega) (by omega) (by omega)
 ·by_cases h1:ok=0
  ·rw [show i=j by omega]; exact KeyOrd.kle_refl _
  ·exact up i j k1 k2 (by omega)
end
open PySem PyProof.Rows
def pwr:Nat->Nat->Nat->Nat->Nat:=sortPriv% PySem.Builtin.power
def mrn:Nat->Nat->Nat->Nat:=sortPriv% PySem.Builtin.minRun
theorem sJ:vM=(do
    let sz:=(arrOf (← get)).size
    let mr:=mrn sz sz 0
    let mut lo:=0
    for _ in [0:sz] do
      if lo ≥ sz then break
      let some fd ← wL lo (sz - lo)
        | return
      let mut n:=fd
      if n < mr then
        rule "list.sort.binary-insertion"
        let fo:=min (sz - lo) mr
        if !(← so lo fo n) then return
        n:=fo
      if let some (s1,n1,_):=(pendingOf (← get)).back? then
        let pw:=pwr sz (2 * s1 + n1) (2 * s1 + n1 + n1 + n) sz
        for _ in [0:sz] do
          let p:=pendingOf (← get)
          let some (_,_,old):=(if p.size > 1 then p[p.size - 2]? else none)
            | break
          if old<=pw then break
          if !(← mAt (p.size - 2)) then return
        modify fun s=>SortSt.mk' (kindOf s) (arrOf s) ((pendingOf s).modify ((pendingOf s).size - 1) fun (st,len,_)=>(st,len,pw)) (gallopOf s) (failedOf s)
      modify fun s=>SortSt.mk' (kindOf s) (arrOf s) ((pendingOf s).push (lo,n,0)) (gallopOf s) (failedOf s)
      lo:=lo + n
    for _ in [0:sz] do
      let p:=pendingOf (← get)
      if p.size<=1 then break
      let i:=p.size - 2
      let bf:=if i > 0 then p[i - 1]?.map (·.2.1) else none
      let i:=if bf.any (· < (p[i + 1]?.elim 0 (·.2.1))) then i - 1 else i
      if !(← mAt i) then return):=rfl
def Mt:Nat->List (List Keyed)->List (Nat × Nat × Nat)->Prop
 | _,[],[]=>True
 | off,r :: rs,p :: ps=>p.1=off/\p.2.1=r.length/\Mt (off + r.length) rs ps
 | _,_,_=>False
theorem Mt.length:∀ {off:Nat} {rs:List (List Keyed)} {ps:List (Nat × Nat × Nat)},Mt off rs ps->ps.length=rs.length
 | _,[],[],_=>rfl
 | _,_ :: _,_ :: _,h=>by rw [List.length_cons,List.length_cons,Mt.length h.2.2]
theorem Mt.append:∀ {off:Nat} {rs ts:List (List Keyed)} {ps us:List (Nat × Nat × Nat)},Mt off rs ps->Mt (off + rs.flatten.length) ts us->Mt off (rs ++ ts) (ps ++ us)
 | _,[],_,[],_,_,h=>by simpa using h
 | off,r :: rs,ts,p :: ps,us,h,h'=>by
  refine ⟨h.1,h.2.1,Mt.append h.2.2 ?_⟩
  rw [List.flatten_cons,List.length_append, <- Nat.add_assoc] at h'
  exact h'
theorem Mt.split:∀ {off:Nat} {rs:List (List Keyed)} {ps:List (Nat × Nat × Nat)} (i:Nat),Mt off rs ps->i + 1 < ps.length →
  ∃ R1 X Y R2 L1 w1 w2 L2,rs=R1 ++ X :: Y :: R2/\ps=L1 ++ (off + R1.flatten.length,X.length,w1) :: (off + R1.flatten.length + X.length,Y.length,w2) :: L2/\L1.length=i/\Mt off R1 L1/\Mt (off + R1.flatten.length + X.length + Y.length) R2 L2
 | off,r :: r2 :: rs,p :: p2 :: ps,0,h,_=>by
  obtain ⟨a,b,w1⟩:=p
  obtain ⟨c,d,w2⟩:=p2
  obtain ⟨h1,h2,h3,h4,h5⟩:=h
  dsimp only at h1 h2 h3 h4
  subst h1 h2 h3 h4
  exact ⟨[],r,r2,rs,[],w1,w2,ps,rfl,rfl,rfl,trivial,h5⟩
 | off,r :: rs,p :: ps,i + 1,h,hl=>by
  rw [List.length_cons] at hl
  obtain ⟨R1,X,Y,R2,L1,w1,w2,L2,e1,e2,e3,m1,m2⟩:=Mt.split i h.2.2 (by omega)
  have ea:off + (r :: R1).flatten.length=off + r.length + R1.flatten.length:=by rw [List.flatten_cons,List.length_append]; omega
  refine ⟨r :: R1,X,Y,R2,p :: L1,w1,w2,L2,by rw [e1]; rfl,?_,by rw [List.length_cons,e3],⟨h.1,h.2.1,m1⟩,?_⟩
  ·rw [ea,e2]; rfl
  ·rw [ea]; exact m2
 | off,[],[],i,_,hl=>by simp at hl
 | off,[_],[_],0,_,hl=>by simp at hl
theorem Mt.modify (f:Nat × Nat × Nat->Nat × Nat × Nat) (hf:∀ p,(f p).1=p.1/\(f p).2.1=p.2.1):∀ {off:Nat} {rs:List (List Keyed)} {ps:List (Nat × Nat × Nat)} (i:Nat),Mt off rs ps->Mt off rs (ps.modify i f)
 | _,[],[],i,_=>by cases i <;> exact trivial
 | off,r :: rs,p :: ps,0,h=>⟨(hf p).1.trans h.1,(hf p).2.trans h.2.1,h.2.2⟩
 | off,r :: rs,p :: ps,i + 1,h=>⟨h.1,h.2.1,Mt.modify f hf i h.2.2⟩
theorem qH {α : Type} (l:List α) (a b c : α) (r:List α):((l ++ a :: b :: r).set l.length c).eraseIdx (l.length + 1)=l ++ c :: r:=by
 induction l with
 | nil=>rfl
 | cons x l ih=>simp only [List.cons_append,List.length_cons,List.set_cons_succ,List.eraseIdx_cons_succ,ih]
section
variable {O:KeyOrd} (key:Keyed->O.α) (U:Keyed->Prop) (κ : SortKind)
structure Rn (a0:List Keyed) (lo:Nat) (st:SortSt):Prop where
 ex:∃ runs rest,(arrOf st).toList=runs.flatten ++ rest/\runs.flatten.length=lo/\(∀ r ∈ runs,r.Pairwise (Le key)/\0 < r.length)/\Mt 0 runs (pendingOf st).toList
 perm:(arrOf st).toList.Perm a0
 k:kindOf st = κ
 f:failedOf st=none
end
section
variable {prog:Program} {w:World} {A:Around} {E:Value->Shared->Prop} {s:Shared} {O:KeyOrd} {key:Keyed->O.α} {U:Keyed->Prop} {κ : SortKind}
theorem mG (C:Cmp prog w A s O key U κ) {a0:List Keyed} {lo i:Nat} {st:SortSt} {Q:Bool->SortSt->Prop} (hu:∀ p ∈ a0,U p) (R:Rn key κ a0 lo st) (hi:i + 1 < (pendingOf st).size)
  (h:∀ st',Rn key κ a0 lo st'->(pendingOf st').size + 1=(pendingOf st).size->(arrOf st').toList.drop lo=(arrOf st).toList.drop lo->Q true st'):wpS (model prog w) A E s (mAt i) Q st:=by
 obtain ⟨runs,rest,ea,el,er,em⟩:=R.ex
 obtain ⟨R1,X,Y,R2,L1,w1,w2,L2,e1,e2,e3,m1,m2⟩:=Mt.split i em (by rw [Array.length_toList]; exact hi)
 subst e1
 rw [Nat.zero_add] at e2 m2
 have hx:=er X (by simp)
 have hy:=er Y (by simp)
 have ga:(pendingOf st)[i]? = some (R1.flatten.length,X.length,w1):=by
  rw [<- Array.getElem?_toList,e2, <- e3,show L1.length=L1.length + 0 by omega,ow]; rfl
 have gb:(pendingOf st)[i + 1]? = some (R1.flatten.length + X.length,Y.length,w2):=by
  rw [<- Array.getElem?_toList,e2, <- e3,ow]; rfl
 refine wX C (P:=R1.flatten) (X:=X) (Y:=Y) (S:=R2.flatten ++ rest) R.k R.f (by rw [ea]; simp) (fun p hp=>hu p (R.perm.mem_iff.mp hp)) ga gb hx.2 hy.2 hx.1 hy.1 fun st' M pm sm ar pd kd fl => ?_
 have lm:M.length=X.length + Y.length:=by rw [pm.length_eq,List.length_append]
 have ep:(pendingOf st').toList=L1 ++ (R1.flatten.length,X.length + Y.length,w1) :: L2:=by
  rw [pd,Array.toList_eraseIdxIfInBounds,Array.toList_setIfInBounds,e2, <- e3]
  exact qH _ _ _ _ _
 refine h st' ⟨⟨R1 ++ M :: R2,rest,?_,?_,fun r hr => ?_,?_⟩,?_,kd,fl⟩ ?_ ?_
 ·rw [ar]; simp
 ·rw [<- el]; simp [lm]; omega
 ·rcases List.mem_append.mp hr with q | q
  ·exact er r (by simp [q])
  ·rcases List.mem_cons.mp q with q | q
   ·rw [q]; exact ⟨sm,by have:=hx.2; omega⟩
   ·exact er r (by simp [q])
 ·rw [ep]
  refine Mt.append m1 ⟨by rw [Nat.zero_add],lm.symm,?_⟩
  rw [Nat.zero_add,lm, <- Nat.add_assoc]
  exact m2
 ·rw [ar]
  refine List.Perm.trans ?_ R.perm
  rw [ea,show (R1 ++ X :: Y :: R2).flatten ++ rest=R1.flatten ++ ((X ++ Y) ++ (R2.flatten ++ rest)) by simp]
  exact List.Perm.append_left _ (List.Perm.append_right _ pm)
 ·rw [<- Array.length_toList, <- Array.length_toList,ep,e2]
  simp only [List.length_append,List.length_cons]
  omega
 ·have l1:(R1 ++ M :: R2).flatten.length=lo:=by rw [<- el]; simp [lm]; omega
  have q1:(arrOf st').toList=(R1 ++ M :: R2).flatten ++ rest:=by rw [ar]; simp
  rw [q1,ea, <- l1,List.drop_left,l1, <- el,List.drop_left]
theorem Rn.sa {a0:List Keyed} {lo:Nat} {st st':SortSt} (R:Rn key κ a0 lo st) (sa:SA lo st st'):Rn key κ a0 lo st':=by
 obtain ⟨runs,rest,ea,el,er,em⟩:=R.ex
 have et:(arrOf st').toList.take lo=runs.flatten:=by
  have e1:(arrOf st').toList.take lo=(arrOf st).toList.take lo:=by
   refine List.ext_getElem? fun i => ?_
   rw [List.getElem?_take,List.getElem?_take]
   split
   ·rw [Array.getElem?_toList,Array.getElem?_toList]; exact sa.pre i (by assumption)
   ·rfl
  rw [e1,ea, <- el,List.take_left]
 refine ⟨⟨runs,(arrOf st').toList.drop lo,by rw [<- et,List.take_append_drop],el,er,by rw [sa.p]; exact em⟩,(Array.perm_iff_toList_perm.mp sa.perm).trans R.perm,sa.k.trans R.k,sa.f.trans R.f⟩
theorem qI {xs:Array Keyed} {lo n:Nat} (h:Up key xs lo n):((xs.toList.drop lo).take n).Pairwise (Le key):=by
 refine List.pairwise_iff_getElem.mpr fun i j hi hj hij => ?_
 have get:∀ k (hk:k < ((xs.toList.drop lo).take n).length),key ((xs.toList.drop lo).take n)[k]=kk key xs (lo + k)/\k < n:=fun k hk=>by
  have hk':=hk
  rw [List.length_take] at hk'
  refine ⟨?_,by omega⟩
  have e:((xs.toList.drop lo).take n)[k]? = xs[lo + k]? := by
   rw [List.getElem?_take,if_pos (by omega),List.getElem?_drop,Array.getElem?_toList]
  rw [List.getElem?_eq_getElem hk] at e
  unfold kk
  rw [<- e]; rfl
 obtain ⟨e1,l1⟩:=get i hi
 obtain ⟨e2,l2⟩:=get j hj
 show O.kle (key _) (key _)
 rw [e1,e2]
 exact h _ _ (by omega) (by omega) (by omega)
theorem Rn.push {a0:List Keyed} {lo n:Nat} {st:SortSt} (R:Rn key κ a0 lo st) (hn:0 < n) (hz:lo + n<=(arrOf st).size) (hs:(((arrOf st).toList.drop lo).take n).Pairwise (Le key)) :
  Rn key κ a0 (lo + n) (SortSt.mk' (kindOf st) (arrOf st) ((pendingOf st).push (lo,n,0)) (gallopOf st) (failedOf st)):=by
 obtain ⟨runs,rest,ea,el,er,em⟩:=R.ex
 have ed:(arrOf st).toList.drop lo=rest:=by rw [ea, <- el,List.drop_left]
 rw [ed] at hs
 have lr:n<=rest.length:=by
  have:=congrArg List.length ea
  rw [Array.length_toList,List.length_append,el] at this
  omega
 have lt:(rest.take n).length=n:=by rw [List.length_take]; omega
 refine ⟨⟨runs ++ [rest.take n],rest.drop n,?_,?_,fun r hr => ?_,?_⟩,R.perm,R.k,R.f⟩
 ·show (arrOf st).toList=_
  rw [ea]; simp
 ·simp [lt,el]
 ·rcases List.mem_append.mp hr with q | q
  ·exact er r q
  ·have e:r=rest.take n:=by simpa using q
   rw [e]; exact ⟨hs,by omega⟩
 ·show Mt 0 _ ((pendingOf st).push (lo,n,0)).toList
  rw [Array.toList_push]
  exact Mt.append em ⟨by show lo=_; omega,lt.symm,trivial⟩
theorem Rn.mod {a0:List Keyed} {lo:Nat} {st:SortSt} (R:Rn key κ a0 lo st) (i:Nat) (f:Nat × Nat × Nat->Nat × Nat × Nat) (hf:∀ p,(f p).1=p.1/\(f p).2.1=p.2.1):Rn key κ a0 lo (SortSt.mk' (kindOf st) (arrOf st) ((pendingOf st).modify i f) (gallopOf st) (failedOf st)):=by
 obtain ⟨runs,rest,ea,el,er,em⟩:=R.ex
 refine ⟨⟨runs,rest,ea,el,er,?_⟩,R.perm,R.k,R.f⟩
 show Mt 0 runs ((pendingOf st).modify i f).toList
 rw [Array.toList_modify]
 exact Mt.modify f hf i em
theorem wY {c:Prop} [Decidable c] {n:Nat} (h:1 < n):(if c then n - 2 - 1 else n - 2) + 1 < n:=by split <;> omega
theorem j5:∀ {runs:List (List Keyed)},(∀ r ∈ runs,0 < r.length)->runs.length<=runs.flatten.length
 | [],_=>Nat.le_refl _
 | r :: rs,h=>by
  have h1:=h r List.mem_cons_self
  have h2:=j5 fun q hq=>h q (List.mem_cons_of_mem _ hq)
  rw [List.flatten_cons,List.length_append,List.length_cons]
  omega
theorem sL (C:Cmp prog w A s O key U κ) {a0:List Keyed} {st:SortSt} {Q:Unit->SortSt->Prop} (hu:∀ p ∈ a0,U p) (ha:(arrOf st).toList=a0) (hp:pendingOf st = #[]) (hk:kindOf st = κ) (hf:failedOf st=none) (h1:1<=a0.length)
  (h:∀ st',(arrOf st').toList.Perm a0->(arrOf st').toList.Pairwise (Le key)->failedOf st'=none->Q () st'):wpS (model prog w) A E s vM Q st:=by
 rw [sJ]
 refine wpS_bind (wpS_get ?_)
 dsimp only
 have sz0:(arrOf st).size=a0.length:=by rw [<- Array.length_toList,ha]
 have szR:∀ {lo:Nat} {st':SortSt},Rn key κ a0 lo st'->(arrOf st').size=(arrOf st).size:=fun R=>by rw [<- Array.length_toList,R.perm.length_eq,sz0]
 have uR:∀ {lo:Nat} {st':SortSt},Rn key κ a0 lo st'->∀ p ∈ (arrOf st').toList,U p:=fun R p hp=>hu p (R.perm.mem_iff.mp hp)
 have R0:Rn key κ a0 0 st:=⟨⟨[],a0,by rw [ha]; rfl,rfl,fun r hr=>(by cases hr),by rw [hp]; exact trivial⟩,by rw [ha],hk,hf⟩
 refine wpS_bind (wpS_mono (wpS_forRange (I:=fun x c st'=>∃ lo,c=(none,lo)/\x<=lo/\lo<=(arrOf st).size/\Rn key κ a0 lo st') (Q:=fun c st'=>c=(none,(arrOf st).size)/\Rn key κ a0 (arrOf st).size st') ?step ?fin ⟨0,rfl,Nat.le_refl _,Nat.zero_le _,R0⟩) ?post)
 case fin =>
  rintro c st' ⟨lo,rfl,l1,l2,R⟩
  obtain rfl:lo=(arrOf st).size:=by omega
  exact ⟨rfl,R⟩
 case post =>
  rintro c st1 ⟨rfl,R⟩
  dsimp only
  have p0:(pendingOf st1).size<=(arrOf st).size:=by
   obtain ⟨runs,rest,ea,el,er,em⟩:=R.ex
   have q:=em.length
   rw [Array.length_toList] at q
   have:=j5 fun r hr=>(er r hr).2
   omega
  refine wpS_bind (wpS_mono (wpS_forRange (I:=fun x c st'=>c=(none,())/\Rn key κ a0 (arrOf st).size st'/\((pendingOf st').size<=1\/(pendingOf st').size + x<=(arrOf st).size)) (Q:=fun c st'=>c=(none,())/\Rn key κ a0 (arrOf st).size st'/\(pendingOf st').size<=1) ?stepB ?finB ⟨rfl,R,.inr (by omega)⟩) ?postB)
  case finB =>
   rintro c st' ⟨rfl,R,q⟩
   exact ⟨rfl,R,by omega⟩
  case stepB =>
   rintro x c st' _ hx ⟨rfl,R,q⟩
   refine wpS_bind (wpS_get ?_)
   by_cases c1:(pendingOf st').size<=1
   ·rw [if_pos c1]
    exact wpS_pure ⟨rfl,R,c1⟩
   rw [if_neg c1]
   refine wpS_bind (mG C hu R (wY (by omega)) fun st2 R2 s2 _ => ?_)
   simp only [Bool.not_true,Bool.false_eq_true,if_false]
   exact wpS_pure ⟨rfl,R2,by omega⟩
  case postB =>
   rintro c st' ⟨rfl,R,q⟩
   obtain ⟨runs,rest,ea,el,er,em⟩:=R.ex
   have lm:=em.length
   rw [Array.length_toList] at lm
   have lr:=congrArg List.length ea
   rw [Array.length_toList,szR R,List.length_append,el] at lr
   have er0:rest=[]:=List.length_eq_zero_iff.mp (by omega)
   subst er0
   rw [List.append_nil] at ea
   match runs,er,lm,el,ea with
   | [],_,_,el,_=>simp at el; omega
   | [r],er,_,_,ea =>
    have e:(arrOf st').toList=r:=by rw [ea]; simp
    exact wpS_pure (h st' R.perm (by rw [e]; exact (er r (by simp)).1) R.f)
   | _ :: _ :: _,_,lm,_,_=>simp at lm; omega
 case step =>
  rintro x c st1 _ hx ⟨lo,rfl,l1,l2,R⟩
  dsimp only
  by_cases cl:lo ≥ (arrOf st).size
  ·rw [if_pos cl]
   obtain rfl:lo=(arrOf st).size:=by omega
   exact wpS_pure ⟨rfl,R⟩
  rw [if_neg cl]
  have s1:=szR R
  refine wpS_bind (uV C R.k (uR R) (by omega) (by omega) fun n st2 n1 n2 sa2 up2 => ?_)
  dsimp only
  have R2:=R.sa sa2
  have s2:=szR R2
  by_cases cm:n < mrn (arrOf st).size (arrOf st).size 0
  case' pos =>
   rw [if_pos cm]
   refine wpS_bind (wpS_lift (wpAny_rule ⟨rfl,?_⟩))
   obtain ⟨fo,e⟩:∃ fo,fo=min ((arrOf st).size - lo) (mrn (arrOf st).size (arrOf st).size 0):=⟨_,rfl⟩
   rw [<- e]
   refine wpS_bind (sI C R2.k (uR R2) (by omega) (by omega) up2 fun st3 sa3 up3 => ?_)
   simp only [Bool.not_true,Bool.false_eq_true,if_false]
   have R3:=R2.sa sa3
   have f0:0 < fo:=by omega
   have f1:lo + fo<=(arrOf st).size:=by omega
  case' neg =>
   rw [if_neg cm]
   obtain ⟨fo,e⟩:∃ fo,fo=n:=⟨_,rfl⟩
   subst e
   obtain ⟨st3,e3⟩:∃ st3,st3=st2:=⟨_,rfl⟩
   subst e3
   have R3:=R2
   have up3:=up2
   have f0:0 < fo:=n1
   have f1:lo + fo<=(arrOf st).size:=by omega
  all_goals
   have srt:=qI up3
   have s3:=szR R3
   refine wpS_bind (wpS_get ?_)
   cases hbk:(pendingOf st3).back? with
   | none =>
    dsimp only
    exact wpS_bind (wpS_modify (wpS_pure ⟨lo + fo,rfl,by omega,f1,R3.push f0 (by omega) srt⟩))
   | some t =>
    obtain ⟨t1,t2,t3⟩:=t
    dsimp only
    refine wpS_bind (wpS_mono (wpS_forRange (I:=fun _ c st'=>c=(none,())/\Rn key κ a0 lo st'/\(arrOf st').toList.drop lo=(arrOf st3).toList.drop lo) (Q:=fun c st'=>c=(none,())/\Rn key κ a0 lo st'/\(arrOf st').toList.drop lo=(arrOf st3).toList.drop lo) ?stepC ?finC ⟨rfl,R3,rfl⟩) ?postC)
    case finC=>exact fun c st' q=>q
    case stepC =>
     rintro z c st4 _ _ ⟨rfl,R4,d4⟩
     refine wpS_bind (wpS_get ?_)
     by_cases p1:(pendingOf st4).size > 1
     ·rw [if_pos p1]
      have lt:(pendingOf st4).size - 2 < (pendingOf st4).size:=by omega
      have e:(pendingOf st4)[(pendingOf st4).size - 2]? = some (pendingOf st4)[(pendingOf st4).size - 2]:=by simp [lt]
      rw [e]
      dsimp only
      split
      ·exact wpS_pure ⟨rfl,R4,d4⟩
      ·refine wpS_bind (mG C hu R4 (by omega) fun st5 R5 _ d5 => ?_)
       simp only [Bool.not_true,Bool.false_eq_true,if_false]
       exact wpS_pure ⟨rfl,R5,d5.trans d4⟩
     ·rw [if_neg p1]
      exact wpS_pure ⟨rfl,R4,d4⟩
    case postC =>
     rintro c st4 ⟨rfl,R4,d4⟩
     dsimp only
     have s4:=szR R4
     refine wpS_bind (wpS_modify (wpS_bind (wpS_modify (wpS_pure ⟨lo + fo,rfl,by omega,f1,?_⟩))))
     refine Rn.push ?_ f0 ?_ ?_
     ·refine Rn.mod R4 _ _ ?_
      exact fun p=>⟨rfl,rfl⟩
     ·show lo + fo<=(arrOf st4).size
      omega
     ·show (((arrOf st4).toList.drop lo).take fo).Pairwise (Le key)
      rw [d4]
      exact srt
end
open PySem PyProof.Rows
structure il (prog:Program) (w:World) (s:Shared) (vs:List Value) (O:KeyOrd) (key:Value->O.α):Prop where
 ok:2<=vs.length->∀ (A:Around) (h6:Heap),(∀ b o,s.heap.get? b=some o->h6.get? b=some o)->∃ κ,(∀ (Q:SortKind->Shared->Prop) (E:Value->Shared->Prop),Q κ { s with heap:=h6 }->wpAny (model prog w) A (keyKind' vs.toArray) Q E { s with heap:=h6 }) ∧
  Cmp prog w A { s with heap:=h6 } O (fun p=>key p.1) (fun p=>p.1=p.2/\p.1 ∈ vs) κ
section
variable {prog:Program} {w:World} {A:Around} {E:Value->Shared->Prop} {s:Shared} {O:KeyOrd} {key:Value->O.α}
theorem zs:∀ vs:List Value,(vs.zip vs).map (·.2)=vs
 | []=>rfl
 | v :: vs=>by rw [List.zip_cons_cons,List.map_cons,zs vs]
theorem mJ {l:List Keyed} {vs:List Value} (h:l.Perm (vs.zip vs)):(l.map (·.2)).Perm vs/\∀ p ∈ l,p.1=p.2/\p.1 ∈ vs:=by
 have e:=zs vs
 refine ⟨by have:=h.map (·.2); rw [e] at this; exact this,fun p hp => ?_⟩
 have m:=h.mem_iff.mp hp
 obtain ⟨i,hi⟩:=List.mem_iff_getElem?.mp m
 rw [List.getElem?_zip_eq_some] at hi
 have e1:=hi.1.symm.trans hi.2
 exact ⟨Option.some.inj e1,List.mem_of_getElem? hi.1⟩
theorem fF {a:Addr} {vs:List Value} {n:Nat} {P:Fin->Shared->Prop} (ho:s.heap.get? a=some (seqObj "list" vs.toArray n)) (hz:vs.length<=sizeLine)
    (hc:2<=vs.length->∀ h6,(∀ b o,b ≠ a->s.heap.get? b=some o->h6.get? b=some o)->∃ κ,(∀ (Q:SortKind->Shared->Prop) (E:Value->Shared->Prop),Q κ { s with heap:=h6 }->wpAny (model prog w) A (keyKind' vs.toArray) Q E { s with heap:=h6 }) ∧
      Cmp prog w A { s with heap:=h6 } O (fun p=>key p.1) (fun p=>p.1=p.2/\p.1 ∈ vs) κ)
    (h:∀ out:List Value,out.Perm vs->out.Pairwise (fun x y=>O.kle (key x) (key y))->P (.done (.ret .none)) { s with heap:=sortedHeap s.heap a vs out.toArray }):wpAny (model prog w) A (Builtin.«list.sort» ⟨[.ref a],[]⟩) P E s:=by
  rw [list_sort_plain]
  have ha:a < s.heap.objs.size:=Heap.lt_size ho
  refine wpAny_bind (listItems_at ho rfl ?_)
  refine wpAny_bind (listUpdate_at ho rfl ?_ (by rw [List.size_toArray]; exact hz) (Nat.zero_le _))
  obtain ⟨e1,ho1⟩:∃ e1,(s.heap.update a (Obj.mapSeq fun _ => #[])).get? a=some (seqObj "list" #[] e1):=⟨_,get?_update_seq ho (fun _ => #[])⟩
  refine wpAny_bind (seqEpoch_at ho1 rfl (wpAny_bind (wpAny_newTuple ?_ (by exact hz))))
  refine wpAny_bind (wpAny_newList ?_ (Nat.zero_le _))
  refine wpAny_holding ?_
  generalize hH:((s.heap.update a (Obj.mapSeq fun _ => #[])).push (seqObj "tuple" vs.toArray 0)).push (seqObj "list" #[] 0)=h6
  have kp:∀ b o,b ≠ a->s.heap.get? b=some o->h6.get? b=some o:=fun b o nb e=>by
    rw [<- hH]
    refine Heap.get?_push_of_some _ (Heap.get?_push_of_some _ ?_)
    rw [Heap.get?_update_ne _ _ _ _ nb]
    exact e
  have ho6:h6.get? a=some (seqObj "list" #[] e1):=by
    rw [<- hH]
    exact Heap.get?_push_of_some _ (Heap.get?_push_of_some _ ho1)
  have eH:∀ out:List Value,sortedHeap s.heap a vs out.toArray=h6.update a (Obj.mapSeq fun _=>out.toArray):=fun out=>by rw [<- hH]; rfl
  have go:∀ st':SortSt,(arrOf st').toList.Perm (vs.zip vs)->(arrOf st').toList.Pairwise (fun p q=>O.kle (key p.1) (key q.1))->failedOf st'=none →
      wpAny (model prog w) A (do
        let sorted:=(arrOf st').map (·.2)
        let touched:=(← seqEpoch a) != e1
        Builtin.List.listUpdate (.ref a) fun _=>sorted
        if let some e:=failedOf st' then rule "list.sort.comparison-raised"; throw e
        if touched then rule "list.sort.modified"; raiseError "ValueError" "list modified during sort"
        ret .none) P E { s with heap:=h6 }:=by
    intro st' pm ps hf
    obtain ⟨z1,z2⟩:=mJ pm
    have em:(arrOf st').map (·.2)=((arrOf st').toList.map (·.2)).toArray:=by
      apply Array.toList_inj.mp
      rw [Array.toList_map]
    dsimp only
    refine wpAny_bind (seqEpoch_at ho6 rfl ?_)
    refine wpAny_bind (listUpdate_at ho6 rfl ?_ (Nat.zero_le _) (by rw [Array.size_map, <- Array.length_toList,pm.length_eq,List.length_zip,Nat.min_self]; omega))
    rw [hf]
    simp only [bne_self_eq_false,Bool.false_eq_true,if_false]
    refine wpAny_pure ?_
    rw [em, <- eH]
    refine h _ z1 (List.pairwise_map.mpr (ps.imp_of_mem fun {p q} hp hq le => ?_))
    rw [<- (z2 p hp).1, <- (z2 q hq).1]
    exact le
  by_cases h2:vs.toArray.size < 2
  · rw [if_pos h2,if_pos h2]
    refine wpAny_bind (wpAny_pure ?_)
    dsimp only
    rw [StateT.run_pure]
    refine wpAny_bind (wpAny_pure ?_)
    refine go (SortSt.mk' general' (vs.toArray.zip vs.toArray) #[] 7 none) (by show (vs.toArray.zip vs.toArray).toList.Perm _; simp) ?_ rfl
    rw [List.size_toArray] at h2
    have et:(vs.toArray.zip vs.toArray).toList=vs.zip vs:=by simp
    show (vs.toArray.zip vs.toArray).toList.Pairwise (fun (p q:Keyed)=>O.kle (key p.1) (key q.1))
    rw [et]
    have short:∀ us:List Value,us.length < 2->(us.zip us).Pairwise (fun (p q:Keyed)=>O.kle (key p.1) (key q.1)):=fun us hu=>by
      match us,hu with
      | [],_=>exact List.Pairwise.nil
      | [v],_=>exact List.pairwise_singleton _ _
      | _ :: _ :: _,hu=>simp only [List.length_cons] at hu; omega
    exact short vs h2
  · rw [if_neg h2,if_neg h2]
    rw [List.size_toArray] at h2
    obtain ⟨κ,k1,C⟩:=hc (by omega) h6 kp
    refine wpAny_bind (k1 _ _ ?_)
    have et:(vs.toArray.zip vs.toArray).toList=vs.zip vs:=by simp
    refine wpAny_bind (wpAny_mono (sL C (E:=E) (a0:=vs.zip vs) (st:=SortSt.mk' κ (vs.toArray.zip vs.toArray) #[] 7 none)
      (Q:=fun _ st'=>(arrOf st').toList.Perm (vs.zip vs)/\(arrOf st').toList.Pairwise (Le fun (p:Keyed)=>key p.1)/\failedOf st'=none)
      (mJ (List.Perm.refl _)).2 et rfl rfl rfl (by rw [List.length_zip,Nat.min_self]; omega) fun st' a1 a2 a3=>⟨a1,a2,a3⟩) ?_ fun _ _ e=>e)
    rintro ⟨⟨⟩,st'⟩ s' ⟨rfl,hp,hs,hf⟩
    exact go st' hp hs hf
def mK (prog:Program) (w:World) (s:Shared) (v:Value) (vs:List Value):Prop :=
 ∀ (A:Around) (E:Value->Shared->Prop) (R:List Value->Shared->Prop),(∀ h1,(∀ b o,s.heap.get? b=some o->h1.get? b=some o)->s.heap.objs.size<=h1.objs.size->R vs { s with heap:=h1 })->wpAny (model prog w) A (collect v) R E s
theorem iK {v:Value} {vs:List Value} {Q:Value->Shared->Prop} (hv:mK prog w s v vs) (hz:vs.length<=sizeLine) (C:il prog w s vs O key)
  (h:∀ (h':Heap) (p:Addr) (out:List Value) (n:Nat),(∀ b o,s.heap.get? b=some o->h'.get? b=some o)->s.heap.objs.size<=p->h'.get? p=some (seqObj "list" out.toArray n)->out.Perm vs->out.Pairwise (fun x y=>O.kle (key x) (key y))->Q (.ref p) { s with heap:=h' }) :
  wpAny (model prog w) A (call (.builtin "sorted") [v]) Q E s:=by
 refine Calls.call_function_entry kind_sorted plain_sorted entry_sorted (args_sorted1 _) ?_
 unfold Builtin.«sorted»
 refine wpAny_bind (m:=checkCount "sorted" 1 1 _) (wpAny_pure ?_)
 refine wpAny_bind (hv _ _ _ fun h1 k1 z1=>wpAny_bind (wpAny_newList ?_ hz))
 have hoL:(h1.push (seqObj "list" vs.toArray 0)).get? h1.objs.size=some (seqObj "list" vs.toArray 0):=Heap.get?_push_size _ rfl
 have kL:∀ b o,s.heap.get? b=some o->(h1.push (seqObj "list" vs.toArray 0)).get? b=some o:=fun b o e=>Heap.get?_push_of_some _ (k1 b o e)
 refine wpAny_bind (wpAny_holding (wpAny_call_entry slot_list_sort ⟨_,hoL,rfl⟩ entry_list_sort (fF (key:=key) (O:=O) hoL hz (fun h2 h6 k6 => ?_) fun out pm ps=>⟨_,rfl,?_⟩) (args_list_sort _)))
 ·exact C.ok h2 _ h6 fun b o e=>k6 b o (Nat.ne_of_lt (Nat.lt_of_lt_of_le (Heap.lt_size e) z1)) (kL b o e)
 ·obtain ⟨n,en⟩:=sortedHeap_at (out:=out.toArray) hoL
  refine wpAny_pure ⟨_,rfl,h _ _ out n (fun b o e => ?_) z1 en pm ps⟩
  have lt:=Nat.lt_of_lt_of_le (Heap.lt_size e) z1
  rw [sortedHeap_old (Nat.ne_of_lt lt) (by rw [size_push']; exact Nat.lt_succ_of_lt lt)]
  exact kL b o e
theorem gh {l:Addr} {o:Obj} {vs:List Value} {n:Nat} (ho:s.heap.get? l=some o) (hc:o.cls = .type "list" \/ o.cls = .type "tuple") (hd:o.data = .seq vs.toArray n) (hz:vs.length<=sizeLine):mK prog w s (.ref l) vs:=by
  intro A E R h
  unfold collect
  refine wpAny_bind (wpAny_runValue (codeAny_builtin entry_proto_collect' ?_))
  show wpAny _ _ (do again (.builtin "list.__iadd__" ⟨[<- newList [],.ref l],[]⟩)) _ _ s
  refine wpAny_bind (wpAny_newList (wpAny_pure ⟨Code.quiet_builtin _ (by decide +kernel),codeAny_builtin entry_list_iadd' ?_⟩))
  show wpAny _ _ (Builtin.List.listExtendWith (.ref s.heap.objs.size) (.ref l) (.ref s.heap.objs.size)) _ _ { s with heap:=s.heap.push (seqObj "list" #[] 0) }
  unfold Builtin.List.listExtendWith
  have ho':(s.heap.push (seqObj "list" #[] 0)).get? l=some o:=Heap.get?_push_of_some _ ho
  have cond:∀ T,o.cls = .type T->(T = "list" \/ T = "tuple")->wpAny (model prog w) A (typeOf (.ref l)) (fun t s'=>t = .type T/\s'={ s with heap:=s.heap.push (seqObj "list" #[] 0) }) E { s with heap:=s.heap.push (seqObj "list" #[] 0) }:=fun T e _=>wpAny_typeOf (T:=T) ⟨o,ho',e⟩ ⟨rfl,rfl⟩
  obtain ⟨T,eT,hT⟩:∃ T,o.cls = .type T/\(T = "list" \/ T = "tuple"):=by
    rcases hc with hc | hc
    · exact ⟨_,hc,.inl rfl⟩
    · exact ⟨_,hc,.inr rfl⟩
  refine wpAny_bind (wpAny_typeOf (T:=T) ⟨o,ho',eT⟩ ?_)
  rw [if_pos (by rcases hT with rfl | rfl <;> simp)]
  refine wpAny_bind (listItems_at ho' hd ?_)
  refine wpAny_bind (listItems_at (xs := #[]) (n:=0) (Heap.get?_push_size _ rfl) rfl ?_)
  rw [if_neg (by simp)]
  refine wpAny_bind (listUpdate_at (xs := #[]) (n:=0) (Heap.get?_push_size _ rfl) rfl ?_ (Nat.zero_le _) (by show (#[] ++ vs.toArray).size<=sizeLine + 1; simp only [Array.size_append,List.size_toArray,List.length_nil]; omega))
  refine wpAny_pure ?_
  show wpAny (model prog w) A (do
      let o ← load s.heap.objs.size
      match o.data with
      | .seq xs _=>pure xs.toList
      | _=>unsupported "internal:collect") R E { s with heap:=(s.heap.push (seqObj "list" #[] 0)).update s.heap.objs.size (Obj.mapSeq (· ++ vs.toArray)) }
  refine wpAny_bind (wpAny_load (get?_update_seq (Heap.get?_push_size _ rfl) _) ?_)
  show wpAny _ _ (pure ((#[]:Array Value) ++ vs.toArray).toList) R E _
  rw [show ((#[]:Array Value) ++ vs.toArray).toList=vs by simp]
  refine wpAny_pure (h _ (fun b ob e => ?_) ?_)
  · rw [Heap.get?_update_ne _ _ _ _ (Nat.ne_of_lt (Heap.lt_size e))]
    exact Heap.get?_push_of_some _ e
  · rw [Heap.size_update,size_push']
    exact Nat.le_succ _
end
open PySem PyProof.Rows
def wZ:KeyOrd where
 α := Int
 blt:=fun a b=>decide (a < b)
 irrefl:=fun a=>by simp
 trans:=fun a b c h1 h2=>by simp at *; omega
 negTrans:=fun a b c h=>by simp at *; omega
 total:=fun a b h1 h2=>by simp at *; omega
theorem lex_irrefl:∀ a,HT.lexLt a a=false
 | []=>rfl
 | x :: xs=>by rw [HT.cD,if_pos rfl]; exact lex_irrefl xs
theorem lex_trans:∀ a b c,HT.lexLt a b=true->HT.lexLt b c=true->HT.lexLt a c=true
 | [],[],_,h,_=>by cases h
 | [],_ :: _,[],_,h=>by cases h
 | [],_ :: _,_ :: _,_,_=>rfl
 | _ :: _,[],_,h,_=>by cases h
 | _ :: _,_ :: _,[],_,h=>by cases h
 | x :: xs,y :: ys,z :: zs,h1,h2=>by
  rw [HT.cD] at *
  by_cases e1:x=y
  ·subst e1
   rw [if_pos rfl] at h1
   by_cases e2:x=z
   ·rw [if_pos e2] at h2 ⊢
    exact lex_trans xs ys zs h1 h2
   ·rw [if_neg e2] at h2 ⊢
    exact h2
  ·rw [if_neg e1] at h1
   have l1:=of_decide_eq_true h1
   by_cases e2:y=z
   ·subst e2
    rw [if_neg e1]
    exact h1
   ·rw [if_neg e2] at h2
    have l2:=of_decide_eq_true h2
    rw [if_neg (by omega)]
    exact decide_eq_true (by omega)
theorem fk:∀ a b,HT.lexLt a b=false->HT.lexLt b a=false->a=b
 | [],[],_,_=>rfl
 | [],_ :: _,h,_=>by cases h
 | _ :: _,[],_,h=>by cases h
 | x :: xs,y :: ys,h1,h2=>by
  rw [HT.cD] at *
  by_cases e:x=y
  ·subst e
   rw [if_pos rfl] at h1 h2
   rw [fk xs ys h1 h2]
  ·rw [if_neg e] at h1
   rw [if_neg (Ne.symm e)] at h2
   have a1:=of_decide_eq_false h1
   have a2:=of_decide_eq_false h2
   omega
theorem uW (a b c:List Int) (h:HT.lexLt a c=true):HT.lexLt a b=true\/HT.lexLt b c=true:=by
 cases h1:HT.lexLt a b with
 | true=>exact .inl rfl
 | false =>
  right
  cases h2:HT.lexLt b a with
  | true=>exact lex_trans b a c h2 h
  | false=>rw [<- fk a b h1 h2]; exact h
def lexOrd:KeyOrd where
 α := List Int
 blt:=HT.lexLt
 irrefl:=lex_irrefl
 trans:=lex_trans
 negTrans:=uW
 total:=fk
def intOf:Value->Int
 | .int i _=>i
 | _=>0
section
variable {prog:Program} {w:World} {A:Around} {E:Value->Shared->Prop} {s:Shared}
theorem gj:∀ {vs:List Value} {ns:List Int},IntsAre vs ns->∀ v ∈ vs,∃ i t,v = .int i t
 | _,_,.nil,v,h=>by cases h
 | _,_,.cons n t r,v,h=>by
  rcases List.mem_cons.mp h with e | e
  ·exact ⟨n,t,e⟩
  ·exact gj r v e
theorem lA {vs:List Value} {ns:List Int} (hI:IntsAre vs ns):il prog w s vs wZ intOf:=by
 refine ⟨fun h2 A h6 _=>⟨oneType',fun Q E q => ?_,⟨fun E st x y Q hk hx hy q => ?_⟩⟩⟩
 ·match vs,h2,hI with
  | v1 :: v2 :: rest,_,hI =>
   rw [keyKind_ints hI]
   exact wpAny_pure q
  | [],h2,_=>simp at h2
  | [_],h2,_=>simp at h2
 ·obtain ⟨i,t,e1⟩:=gj hI _ hx.2
  obtain ⟨j,u,e2⟩:=gj hI _ hy.2
  rw [lt'_eq]
  refine wpS_bind (wpS_get ?_)
  rw [hk,keyLt'_oneType,e1,e2]
  refine wpS_bind (wpS_lift (wpAny_attempt (oneLt_int ⟨rfl,?_⟩)))
  refine wpS_pure ?_
  have q':Q (some (decide (intOf x.1 < intOf y.1))) st:=q
  rw [e1,e2] at q'
  exact q'
def cG (h:Heap) (v:Value):List Int:=match v with
 | .ref p=>match h.get? p with
  | some o=>match o.data with
   | .seq xs _=>xs.toList.map intOf
   | _=>[]
  | none=>[]
 | _=>[]
def da (h:Heap) (v:Value) (ns:List Int):Prop:=∃ p o xs n,v = .ref p/\h.get? p=some o/\o.cls = .type "tuple" /\ o.data = .seq xs n/\IntsAre xs.toList ns
theorem ints_map:∀ {vs:List Value} {ns:List Int},IntsAre vs ns->vs.map intOf=ns
 | _,_,.nil=>rfl
 | _,_,.cons n t r=>by rw [List.map_cons,ints_map r]; rfl
theorem da.ints {h:Heap} {v:Value} {ns:List Int} (x:da h v ns):cG h v=ns:=by
 obtain ⟨p,o,xs,n,rfl,e,_,d,r⟩:=x
 unfold cG
 dsimp only
 rw [e]
 dsimp only
 rw [d]
 exact ints_map r
theorem da.keeps {h h':Heap} {v:Value} {ns:List Int} (x:da h v ns) (k:∀ b o,h.get? b=some o->h'.get? b=some o):da h' v ns:=by
 obtain ⟨p,o,xs,n,rfl,e,r⟩:=x
 exact ⟨p,o,xs,n,rfl,k _ _ e,r⟩
theorem mL {fin:Bool} {Q:Bool->Shared->Prop}:∀ {us ws:List Value} {ns ms:List Int} (i:Nat),IntsAre us ns->IntsAre ws ms->(fin=true ↔ (decide (ns.length < ms.length)=true))->Q (HT.lexLt ns ms) s →
  PySem.W.KatLex prog w A true fin Q (us.zip ws) i s
 | _,_,_,_,i,.nil,.nil,hf,q=>by
  refine PySem.W.kat_nil ?_
  have e:fin=false:=by cases fin with
   | false=>rfl
   | true=>have:=hf.mp rfl; simp at this
  rw [e]; exact q
 | _,_,_,_,i,.nil,.cons _ _ _,hf,q=>by
  refine PySem.W.kat_nil ?_
  have e:fin=true:=hf.mpr (by simp)
  rw [e]; exact q
 | _,_,_,_,i,.cons _ _ _,.nil,hf,q=>by
  refine PySem.W.kat_nil ?_
  have e:fin=false:=by cases fin with
   | false=>rfl
   | true=>have:=hf.mp rfl; simp at this
  rw [e]; exact q
 | _,_,_,_,i,.cons (ns:=ns) a t r,.cons (ns:=ms) c u r',hf,q=>by
  rw [List.zip_cons_cons]
  refine PySem.W.kat_cons (wpAny_eqBool_int ?_)
  rw [HT.cD] at q
  by_cases e:a=c
  ·rw [if_pos e] at q
   rw [beq_iff_eq.mpr e]
   exact PySem.W.kat_yes (mL (i + 1) r r' (by rw [hf]; simp) q)
  ·rw [if_neg e] at q
   rw [beq_eq_false_iff_ne.mpr e]
   refine PySem.W.kat_no ?_
   by_cases i0:(true && i == 0)=true
   ·rw [i0]
    exact oneLt_int q
   ·rw [Bool.eq_false_iff.mpr i0,oneLt'_eq]
    simp only [Bool.false_eq_true,if_false]
    refine wpAny_bind (HT.my _ _ a t c u prog w _ _ ?_)
    exact wpAny_truthy_bool q
theorem iL {h:Heap}:∀ {vs:List Value},(∀ v ∈ vs,∃ ns,da h v ns/\ns ≠ [])->∃ fs,PySem.W.KatTups h vs fs/\fs.length=vs.length/\∀ f ∈ fs,∃ i t,f = .int i t
 | [],_=>⟨[],trivial,rfl,fun f hf=>by cases hf⟩
 | v :: vs,hv=>by
  obtain ⟨fs,t,l,hf⟩:=iL fun u hu=>hv u (List.mem_cons_of_mem _ hu)
  obtain ⟨ns,⟨p,o,xs,n,rfl,e,c,d,r⟩,ne⟩:=hv v List.mem_cons_self
  have hx:∃ i t,xs[0]? = some (.int i t):=by
   rw [<- Array.getElem?_toList]
   generalize xs.toList=l at r
   cases r with
   | nil=>exact absurd rfl ne
   | cons i t r=>exact ⟨i,t,rfl⟩
  obtain ⟨i,t',hx⟩:=hx
  exact ⟨.int i t' :: fs,PySem.W.KatTups.cons e c d hx t,by rw [List.length_cons,List.length_cons,l],fun f hf'=>by
   rcases List.mem_cons.mp hf' with q | q
   ·exact ⟨i,t',q⟩
   ·exact hf f q⟩
theorem gk {vs:List Value} (hv:∀ v ∈ vs,∃ ns,da s.heap v ns/\ns ≠ []):il prog w s vs lexOrd (cG s.heap):=by
 refine ⟨fun h2 A h6 k6=>⟨tuples' true,fun Q E q => ?_,⟨fun E st x y Q hk hx hy q => ?_⟩⟩⟩
 ·obtain ⟨fs,t,l,hf⟩:=iL (h:=h6) (vs:=vs) fun v hv'=>by
   obtain ⟨ns,i,ne⟩:=hv v hv'
   exact ⟨ns,i.keeps k6,ne⟩
  refine PySem.W.kat_kind (T := .type "int") t (by omega) (fun f hf' => ?_) rfl q
  obtain ⟨i,t',rfl⟩:=hf f hf'
  exact PySem.W.Looks.of_pure rfl
 ·obtain ⟨ns,i1,_⟩:=hv _ hx.2
  obtain ⟨ms,i2,_⟩:=hv _ hy.2
  have q':Q (some (HT.lexLt (cG s.heap x.1) (cG s.heap y.1))) st:=q
  rw [i1.ints,i2.ints] at q'
  obtain ⟨p1,o1,xs1,n1,e1,g1,c1,d1,r1⟩:=i1.keeps k6
  obtain ⟨p2,o2,xs2,n2,e2,g2,c2,d2,r2⟩:=i2.keeps k6
  rw [lt'_eq]
  refine wpS_bind (wpS_get ?_)
  rw [hk,e1,e2]
  have l1:=r1.length
  have l2:=r2.length
  refine wpS_bind (wpS_lift (wpAny_attempt (PySem.W.kat_lt g1 d1 g2 d2 (mL 0 r1 r2 ?_ ⟨rfl,?_⟩))))
  ·rw [<- l1, <- l2,Array.length_toList,Array.length_toList]
  ·exact wpS_pure q'
end
end Srt
namespace L2
open PySem PySem.Spec PyProof.Rows
theorem iM {α β : Type} {f : α -> β}:∀ {l:List β} {m:List α},l.Perm (m.map f)->∃ m':List α,m'.Perm m/\l=m'.map f:=by
 intro l m h
 generalize hk:m.map f=k at h
 induction h generalizing m with
 | nil =>
  have:m=[]:=List.map_eq_nil_iff.mp hk
  exact ⟨[],by rw [this],rfl⟩
 | cons x _ ih =>
  match m,hk with
  | y :: m,hk =>
   rw [List.map_cons] at hk
   injection hk with h1 h2
   obtain ⟨m',p,e⟩:=ih h2
   exact ⟨y :: m',p.cons y,by rw [List.map_cons, <- e,h1]⟩
  | [],hk=>cases hk
 | swap x y l =>
  match m,hk with
  | a :: b :: m,hk =>
   rw [List.map_cons,List.map_cons] at hk
   injection hk with h1 h2
   injection h2 with h2 h3
   exact ⟨b :: a :: m,List.Perm.swap a b m,by rw [List.map_cons,List.map_cons,h1,h2,h3]⟩
  | [],hk=>cases hk
  | [_],hk=>simp at hk
 | trans _ _ ih1 ih2 =>
  obtain ⟨m',p,e⟩:=ih2 hk
  obtain ⟨m'',p',e'⟩:=ih1 e.symm
  exact ⟨m'',p'.trans p,e'⟩
theorem cA:∀ {ns:List Int} {us:List Value},Vals (ns.map V.int) us->IntsAre us ns:=fun r=>intsAre_of r
theorem gm:∀ {us:List Value} {ns:List Int},IntsAre us ns->Vals (ns.map V.int) us:=fun r=>gI r
theorem gJ:∀ {us:List Value},(∀ u ∈ us,∃ i t,u=Value.int i t)->IntsAre us (us.map Srt.intOf)
 | [],_ => .nil
 | u :: us,h=>by
  obtain ⟨i,t,e⟩:=h u List.mem_cons_self
  subst e
  exact .cons i t (gJ fun v hv=>h v (List.mem_cons_of_mem _ hv))
theorem dP:∀ {α : Type} {f : α -> Addr} {ps:List α} {us:List Value},Vals (ps.map fun x=>V.ref (f x)) us->us=ps.map fun x=>Value.ref (f x)
 | _,_,[],_,r=>by cases r; rfl
 | _,f,p :: ps,_,r=>by
  cases r with
  | cons h t=>rw [List.map_cons, <- dP t,show _=Value.ref (f p) from h]
theorem fq {α : Type} {f : α -> Addr}:∀ {ps:List α},Vals (ps.map fun x=>V.ref (f x)) (ps.map fun x=>Value.ref (f x))
 | [] => .nil
 | p :: ps => .cons rfl fq
section
variable {X:Cx}
theorem Inv.mN {pins:List (Addr × Obj)} {σ:St} {H:Hp} {s:Shared} {p:Addr} {ys:List V} (I:Inv X pins σ H s) (h:SqL X.K H p ys\/SqT X.K H p ys) :
  ∃ (its:List Value) (o:Obj) (n:Nat),Vals ys its/\s.heap.get? p=some o/\(o.cls = .type "list" \/ o.cls = .type "tuple")/\o.data = .seq its.toArray n/\ys.length<=sizeLine:=by
 rcases h with h | h
 ·obtain ⟨its,r,⟨o,n,e,c,_,d⟩,z⟩:=I.list h
  exact ⟨its,o,n,r,e,.inl c,d,z⟩
 ·obtain ⟨its,r,⟨o,e,c,n,d⟩,z⟩:=I.tuple h
  exact ⟨its,o,n,r,e,.inr c,d,z⟩
theorem Inv.newList {pins:List (Addr × Obj)} {σ:St} {H:Hp} {s:Shared} {h':Heap} {p:Addr} {ys:List V} {its:List Value} {n:Nat} (I:Inv X pins σ H s) (k:∀ b o,s.heap.get? b=some o->h'.get? b=some o) (hp:s.heap.objs.size<=p)
  (e:h'.get? p=some { cls := .type "list",data := .seq its.toArray n }) (r:Vals ys its) (hz:ys.length<=sizeLine):Inv X pins σ (upd H p (.lst ys)) { s with heap:=h' } :=
 I.laid (t':=s.toks) k hp ⟨hz,its,n,r,e⟩
theorem lB:bJ X (.builtin "sorted") (fun xs H Q=>∃ (p:Addr) (ns:List Int),xs=[.ref p]/\(SqL X.K H p (ns.map V.int)\/SqT X.K H p (ns.map V.int))/\∀ (l:Addr) (out:List Int),H l=none->out.Perm ns->out.Pairwise (· <= ·)->Q (.ref l) (upd H l (.lst (out.map V.int)))):=by
 intro pins s σ H xs us Q I r h
 obtain ⟨p,ns,rfl,hs,q⟩:=h
 obtain ⟨u,rfl,ru⟩:=vals1 r
 cases (show u=Value.ref p from ru)
 obtain ⟨its,o,n,rv,e,c,d,z⟩:=I.mN hs
 have hI:=cA rv
 have lz:its.length<=sizeLine:=by rw [<- rv.length]; exact z
 refine Srt.iK (Srt.gh e c d lz) lz (Srt.lA hI) fun h' l out m k hl el pm ps => ?_
 have hm:∀ v ∈ out,∃ i t,v=Value.int i t:=fun v hv=>Srt.gj hI v (pm.mem_iff.mp hv)
 have hO:=gJ hm
 have pm':(out.map Srt.intOf).Perm ns:=by
  have:=pm.map Srt.intOf
  rw [Srt.ints_map hI] at this
  exact this
 refine ⟨.ref l,_,I.newList k hl el (gm hO) (by rw [List.length_map,pm'.length_eq, <- List.length_map (f:=V.int)]; exact z),rfl,q l _ (I.hok.fresh hl) pm' ?_⟩
 refine List.pairwise_map.mpr (ps.imp fun {x y} le => ?_)
 have le':decide (Srt.intOf y < Srt.intOf x)=false:=le
 have:=of_decide_eq_false le'
 omega
theorem d8:bJ X (.builtin "sorted") (fun xs H Q=>∃ (p:Addr) (ts:List (Addr × List Int)),xs=[.ref p]/\(SqL X.K H p (ts.map fun t => .ref t.1)\/SqT X.K H p (ts.map fun t => .ref t.1))/\(∀ t ∈ ts,SqT X.K H t.1 (t.2.map V.int)/\t.2 ≠ []) ∧
  ∀ (l:Addr) (out:List (Addr × List Int)),H l=none->out.Perm ts->out.Pairwise (fun a b=>HT.lexLt b.2 a.2=false)->Q (.ref l) (upd H l (.lst (out.map fun t => .ref t.1)))):=by
 intro pins s σ H xs us Q I r h
 obtain ⟨p,ts,rfl,hs,ht,q⟩:=h
 obtain ⟨u,rfl,ru⟩:=vals1 r
 cases (show u=Value.ref p from ru)
 obtain ⟨its,o,n,rv,e,c,d,z⟩:=I.mN hs
 have ei:=dP rv
 have lz:its.length<=sizeLine:=by rw [<- rv.length]; exact z
 have tup:∀ t ∈ ts,Srt.da s.heap (Value.ref t.1) t.2:=fun t hm=>by
  obtain ⟨jts,jr,⟨jo,je,jc,jn,jd⟩,_⟩:=I.tuple (ht t hm).1
  exact ⟨t.1,jo,_,jn,rfl,je,jc,jd,by simpa using cA jr⟩
 have hv:∀ v ∈ its,∃ ns,Srt.da s.heap v ns/\ns ≠ []:=fun v hv=>by
  rw [ei] at hv
  obtain ⟨t,hm,rfl⟩:=List.mem_map.mp hv
  exact ⟨t.2,tup t hm,(ht t hm).2⟩
 refine Srt.iK (Srt.gh e c d lz) lz (Srt.gk hv) fun h' l out m k hl el pm ps => ?_
 rw [ei] at pm
 obtain ⟨out',pm',rfl⟩:=iM pm
 refine ⟨.ref l,_,I.newList k hl el fq (by rw [List.length_map,pm'.length_eq, <- List.length_map (f:=fun t:Addr × List Int=>V.ref t.1)]; exact z),rfl,q l _ (I.hok.fresh hl) pm' ?_⟩
 refine (List.pairwise_map.mp ps).imp_of_mem fun {a b} ha hb le => ?_
 have le':HT.lexLt (Srt.cG s.heap (Value.ref b.1)) (Srt.cG s.heap (Value.ref a.1))=false:=le
 rw [(tup a (pm'.mem_iff.mp ha)).ints,(tup b (pm'.mem_iff.mp hb)).ints] at le'
 exact le'
end
open PySem PySem.Spec PyProof.Rows
def Tp (H H':Hp):Prop:=∀ b xs,H b=some (.tup xs)->H' b=some (.tup xs)
theorem aA.tp {H H':Hp} (a:aA H H'):Tp H H':=fun c u h=>a c _ h
def mnI (a b:Int):Int:=if b < a then b else a
def mxI (a b:Int):Int:=if b > a then b else a
def nrm (a b:Int):List Int:=[mnI a b,mxI a b]
theorem cc (a b:Int):nrm a b=nrm b a:=by
 have h1:mnI a b=mnI b a:=by unfold mnI; split <;> split <;> omega
 have h2:mxI a b=mxI b a:=by unfold mxI; split <;> split <;> omega
 unfold nrm
 rw [h1,h2]
open PySem PySem.Spec PyProof.Rows
section
variable {X:Cx} {tg:Expr}
end
theorem mO {X:Cx} {K:PySem.W.Frag} {x y:Str} {i j k:Nat} {p p' pos:Pos} (hN:X.N.Nodup) (hi:X.N[i]? = some x) (hj:X.N[j]? = some y) (hx:Loc X.env.scope x) (hy:Loc X.env.scope y) (hc:X.calm=true:=by rfl) (h:X.K=K:=by rfl)
  (hf:X.fn x=true\/X.env.scope.names.lookup x=some .local:=by first | exact .inl rfl | exact .inr rfl) (hg:X.fn y=true\/X.env.scope.names.lookup y=some .local:=by first | exact .inl rfl | exact .inr rfl):PG X (.Tuple [.Name x p,.Name y p'] k pos) (vL K i j):=by
 subst h
 exact bh hc (aq (aj hN hi hx hf) (aq (aj hN hj hy hg) aK))
end L2
namespace STab
open PySem PySem.SetTable
def lC (xs:Array Nat):Prop:=∀ i j a b:Nat,xs[i]? = some a->xs[j]? = some b->i < j->a < b
theorem sM {xs:Array Nat} (R:lC xs) (j:Nat):∀ (fuel lo hi:Nat),lo<=hi->hi<=xs.size->hi - lo<=fuel →
  (∀ i a,i < lo->xs[i]? = some a->a < j)->(∀ i a,hi<=i->xs[i]? = some a->j<=a) →
  below.go xs j fuel lo hi<=xs.size/\(∀ i a,xs[i]? = some a->(i < below.go xs j fuel lo hi ↔ a < j)):=by
 intro fuel
 induction fuel with
 | zero =>
  intro lo hi h1 h2 h3 h4 h5
  unfold below.go
  refine ⟨by omega,fun i a e=>⟨fun q=>h4 i a q e,fun q => ?_⟩⟩
  apply Nat.lt_of_not_le
  intro q2
  have:=h5 i a (by omega) e
  omega
 | succ fuel ih =>
  intro lo hi h1 h2 h3 h4 h5
  unfold below.go
  by_cases hl:lo < hi
  ·rw [if_pos hl]
   dsimp only
   have hm:(lo + hi) / 2 < xs.size:=by omega
   have em:xs[(lo + hi) / 2]? = some xs[(lo + hi) / 2]:=Array.getElem?_eq_getElem hm
   have eg:xs.getD ((lo + hi) / 2) j=xs[(lo + hi) / 2]:=by simp [Array.getD,hm]
   rw [eg]
   by_cases hc:xs[(lo + hi) / 2] < j
   ·rw [if_pos hc]
    refine ih _ _ (by omega) h2 (by omega) (fun i a q e => ?_) h5
    by_cases q2:i=(lo + hi) / 2
    ·rw [q2,em] at e; cases e; exact hc
    ·exact Nat.lt_trans (R i _ _ _ e em (by omega)) hc
   ·rw [if_neg hc]
    refine ih _ _ (by omega) (by omega) (by omega) h4 (fun i a q e => ?_)
    by_cases q2:i=(lo + hi) / 2
    ·rw [q2,em] at e; cases e; omega
    ·have:=R _ i _ _ em e (by omega)
     omega
  ·rw [if_neg hl]
   refine ⟨by omega,fun i a e=>⟨fun q=>h4 i a q e,fun q => ?_⟩⟩
   apply Nat.lt_of_not_le
   intro q2
   have:=h5 i a (by omega) e
   omega
theorem dc {xs:Array Nat} (R:lC xs) (j:Nat):below xs j<=xs.size/\∀ i a,xs[i]? = some a->(i < below xs j ↔ a < j) :=
 sM R j _ _ _ (Nat.zero_le _) (Nat.le_refl _) (by omega) (fun i a h=>by omega) fun i a h e=>by
  rw [Array.getElem?_eq_none (by omega)] at e; cases e
theorem below_at {xs:Array Nat} (R:lC xs) {i j:Nat} (h:xs[i]? = some j):below xs j=i:=by
 obtain ⟨h1,h2⟩:=dc R j
 have hi:i < xs.size:=by
  apply Nat.lt_of_not_le; intro q; rw [Array.getElem?_eq_none q] at h; cases h
 have a1:¬ i < below xs j:=fun q=>by have:=(h2 i j h).mp q; omega
 apply Nat.le_antisymm (by omega)
 apply Nat.le_of_not_lt
 intro q
 have e:=Array.getElem?_eq_getElem (xs:=xs) (i:=below xs j) (by omega)
 have l1:=R _ _ _ _ e h q
 have:=(h2 _ _ e).mpr l1
 omega
theorem ox {xs:Array Nat} (R:lC xs) {i j:Nat} (h:xs[i]? = some j):below xs (j + 1)=i + 1:=by
 obtain ⟨h1,h2⟩:=dc R (j + 1)
 have a1:i < below xs (j + 1):=(h2 i j h).mpr (by omega)
 apply Nat.le_antisymm _ a1
 apply Nat.le_of_not_lt
 intro q
 have hk:i + 1 < xs.size:=by omega
 have e:=Array.getElem?_eq_getElem (xs:=xs) hk
 have l1:=R _ _ _ _ h e (by omega)
 have:=(h2 _ _ e).mp q
 omega
theorem oy {xs:Array Nat} (R:lC xs):below xs 0=0:=by
 obtain ⟨h1,h2⟩:=dc R 0
 apply Nat.le_antisymm _ (Nat.zero_le _)
 apply Nat.le_of_not_lt
 intro q
 have:=(h2 0 _ (Array.getElem?_eq_getElem (by omega))).mp q
 omega
theorem bR {α : Type} (xs:Array α) (p:Nat) (x : α):(insertAt xs p x).toList=xs.toList.take p ++ x :: xs.toList.drop p:=by
 unfold insertAt
 simp
 rw [List.take_of_length_le (by simp)]
theorem bX {α : Type} (xs:Array α) {p:Nat} (hp:p<=xs.size) (x : α) (i:Nat) :
  (insertAt xs p x)[i]? = if i < p then xs[i]? else if i=p then some x else xs[i - 1]? := by
 rw [<- Array.getElem?_toList,bR]
 have hl:(xs.toList.take p).length=p:=by rw [List.length_take,Array.length_toList]; omega
 by_cases h1:i < p
 ·rw [if_pos h1,List.getElem?_append_left (by omega),List.getElem?_take,if_pos h1,Array.getElem?_toList]
 ·rw [if_neg h1,List.getElem?_append_right (by omega),hl]
  by_cases h2:i=p
  ·rw [if_pos h2,h2,Nat.sub_self]; rfl
  ·rw [if_neg h2]
   obtain ⟨d,hd⟩:∃ d,i - p=d + 1:=⟨i - p - 1,by omega⟩
   rw [hd,List.getElem?_cons_succ,List.getElem?_drop,Array.getElem?_toList]
   congr 1; omega
theorem cf {α : Type} (xs:Array α) (p:Nat) (x : α):(insertAt xs p x).size=xs.size + 1:=by
 rw [<- Array.length_toList,bR,List.length_append,List.length_cons,List.length_take,List.length_drop,Array.length_toList]
 omega
theorem insertAt_perm {α : Type} (xs:Array α) (p:Nat) (x : α):(insertAt xs p x).toList.Perm (x :: xs.toList):=by
 rw [bR]
 exact List.perm_middle.trans (by rw [List.take_append_drop])
theorem d9 {α β : Type} (xs:Array α) (p:Nat) (x : α) (f : α -> β):(insertAt xs p x).map f=insertAt (xs.map f) p (f x):=by
 apply Array.toList_inj.mp
 rw [Array.toList_map,bR,bR,Array.toList_map,List.map_append,List.map_cons,List.map_take,List.map_drop]
theorem jD {xs:Array Nat} (R:lC xs) {j:Nat} (hj:∀ i:Nat,xs[i]? ≠ some j):lC (insertAt xs (below xs j) j):=by
 obtain ⟨h1,h2⟩:=dc R j
 intro a b x y ea eb hab
 rw [bX _ h1] at ea eb
 by_cases a1:a < below xs j
 ·rw [if_pos a1] at ea
  have:=(h2 _ _ ea).mp a1
  by_cases b1:b < below xs j
  ·rw [if_pos b1] at eb; exact R _ _ _ _ ea eb hab
  ·rw [if_neg b1] at eb
   by_cases b2:b=below xs j
   ·rw [if_pos b2] at eb; cases eb; exact this
   ·rw [if_neg b2] at eb
    exact R _ _ _ _ ea eb (by omega)
 ·rw [if_neg a1] at ea
  rw [if_neg (by omega),if_neg (by omega)] at eb
  have l1:¬ y < j:=fun q=>by have:=(h2 _ _ eb).mpr q; omega
  by_cases a2:a=below xs j
  ·rw [if_pos a2] at ea; cases ea
   have:y ≠ j:=fun q=>hj _ (q ▸ eb)
   omega
  ·rw [if_neg a2] at ea
   exact R _ _ _ _ ea eb (by omega)
def occ (t:SetTable) (j:Nat):Prop:=∃ i:Nat,t.place[i]? = some j
theorem gK {t:SetTable} (R:lC t.place) {i j:Nat} (h:t.place[i]? = some j):t.slot j = .live i:=by
 unfold SetTable.slot
 dsimp only
 rw [below_at R h,h]
 simp
theorem oz {t:SetTable} (D:t.dummies = #[]) {j:Nat} (h:¬ occ t j):t.slot j = .empty:=by
 unfold SetTable.slot
 dsimp only
 have h1:(t.place[below t.place j]? == some j)=false:=by
  rw [beq_eq_false_iff_ne]; exact fun q=>h ⟨_,q⟩
 rw [h1,D]
 simp [has]
def adv (mask:Nat) (p:Probe):Probe :=
 if p.more > 0 then { p with j:=p.j + 1,more:=p.more - 1 } else
 let (i,perturb):=leap mask p.i p.perturb
 { p with j:=i,more:=runEnd mask i - i,i,perturb }
def cH (mask i perturb:Nat):Probe:={ j:=i,more:=runEnd mask i - i,i,perturb,dummy:=none }
def start (mask:Nat) (h:Int):Probe:=cH mask (bits h % (mask + 1)) (bits h)
inductive Way (oc:Nat->Prop) (mask:Nat):Nat->Probe->Probe->Prop
 | here (p:Probe):Way oc mask 0 p p
 | step {n:Nat} {p q:Probe}:oc p.j->Way oc mask n (adv mask p) q->Way oc mask (n + 1) p q
theorem Way.mono {oc oc':Nat->Prop} {mask n:Nat} {p q:Probe} (m:∀ j,oc j->oc' j) (h:Way oc mask n p q):Way oc' mask n p q:=by
 induction h with
 | here p=>exact .here p
 | step a _ ih=>exact .step (m _ a) ih
theorem Way.dummy {oc:Nat->Prop} {mask n:Nat} {p q:Probe} (h:Way oc mask n p q):q.dummy=p.dummy:=by
 induction h with
 | here p=>rfl
 | @step n p q _ _ ih =>
  rw [ih]; unfold adv; split <;> rfl
theorem w4 {mask:Nat} {p:Probe} (h:p.j + p.more<=mask):(adv mask p).j + (adv mask p).more<=mask:=by
 unfold adv
 split
 ·dsimp only; omega
 ·dsimp only [leap]
  have:(p.i * 5 + 1 + p.perturb / 32) % (mask + 1) < mask + 1:=Nat.mod_lt _ (Nat.succ_pos mask)
  unfold runEnd
  split <;> omega
theorem mP (mask:Nat) (h:Int):(start mask h).j + (start mask h).more<=mask:=by
 unfold start cH
 dsimp only
 have:bits h % (mask + 1) < mask + 1:=Nat.mod_lt _ (Nat.succ_pos mask)
 unfold runEnd
 split <;> omega
theorem Way.le {oc:Nat->Prop} {mask n:Nat} {p q:Probe} (h:Way oc mask n p q):p.j + p.more<=mask->q.j<=mask:=by
 induction h with
 | here p=>intro; omega
 | step _ _ ih=>intro h; exact ih (w4 h)
def lD (mask:Nat):Nat->Probe->Probe
 | 0,p=>p
 | n + 1,p=>lD mask n (adv mask p)
theorem mQ (mask:Nat):∀ (a b:Nat) (p:Probe),lD mask (a + b) p=lD mask b (lD mask a p)
 | 0,b,p=>by rw [Nat.zero_add]; rfl
 | a + 1,b,p=>by rw [show a + 1 + b=(a + b) + 1 by omega]; exact mQ mask a b (adv mask p)
theorem qJ (oc:Nat->Prop) (mask:Nat):∀ (n:Nat) (p:Probe),¬ oc (lD mask n p).j->∃ k q,k<=n/\Way oc mask k p q/\¬ oc q.j:=by
 intro n
 induction n with
 | zero=>intro p h; exact ⟨0,p,Nat.le_refl _,.here p,h⟩
 | succ n ih =>
  intro p h
  by_cases hp:oc p.j
  ·obtain ⟨k,q,a,b,c⟩:=ih (adv mask p) h
   exact ⟨k + 1,q,by omega,.step hp b,c⟩
  ·exact ⟨0,p,Nat.zero_le _,.here p,hp⟩
theorem uZ (mask:Nat):∀ (m:Nat) (p:Probe),p.more=m->p.dummy=none->lD mask (m + 1) p=cH mask (leap mask p.i p.perturb).1 (leap mask p.i p.perturb).2:=by
 intro m
 induction m with
 | zero =>
  intro p h d
  show adv mask p=_
  unfold adv
  rw [if_neg (by omega)]
  obtain ⟨j,mo,i,pe,dm⟩:=p
  cases d
  rfl
 | succ m ih =>
  intro p h d
  show lD mask (m + 1) (adv mask p)=_
  have e:adv mask p={ p with j:=p.j + 1,more:=p.more - 1 }:=by unfold adv; rw [if_pos (by omega)]
  rw [e]
  exact ih _ (by dsimp only; omega) d
def cp (mask:Nat):Nat->Nat × Nat->Nat × Nat
 | 0,x=>x
 | k + 1,x=>cp mask k (leap mask x.1 x.2)
theorem j6 (mask:Nat):∀ (a b:Nat) (x:Nat × Nat),cp mask (a + b) x=cp mask b (cp mask a x)
 | 0,b,x=>by rw [Nat.zero_add]; rfl
 | a + 1,b,x=>by rw [show a + 1 + b=(a + b) + 1 by omega]; exact j6 mask a b _
theorem more_le (mask i:Nat):runEnd mask i - i<=9:=by unfold runEnd; split <;> omega
theorem oA (mask:Nat):∀ (k i pe:Nat),∃ n,n<=10 * k/\lD mask n (cH mask i pe)=cH mask (cp mask k (i,pe)).1 (cp mask k (i,pe)).2:=by
 intro k
 induction k with
 | zero=>intro i pe; exact ⟨0,by omega,rfl⟩
 | succ k ih =>
  intro i pe
  obtain ⟨n,h1,h2⟩:=ih (leap mask i pe).1 (leap mask i pe).2
  refine ⟨(runEnd mask i - i + 1) + n,by have:=more_le mask i; omega,?_⟩
  rw [mQ,uZ mask (runEnd mask i - i) (cH mask i pe) rfl rfl]
  exact h2
theorem fG (mask:Nat):∀ (k i pe:Nat),(cp mask k (i,pe)).2=pe / 32 ^ k
 | 0,i,pe=>by simp [cp]
 | k + 1,i,pe=>by
  show (cp mask k (leap mask i pe)).2=_
  rw [show leap mask i pe=((leap mask i pe).1,pe / 32) from rfl,fG mask k,Nat.div_div_eq_div_mul,Nat.pow_succ,Nat.mul_comm 32]
theorem mR (mask:Nat):∀ (k i pe:Nat),i<=mask->(cp mask k (i,pe)).1<=mask
 | 0,i,pe,h=>h
 | k + 1,i,pe,h=>by
  show (cp mask k (leap mask i pe)).1<=mask
  rw [show leap mask i pe=((leap mask i pe).1,pe / 32) from rfl]
  exact mR mask k _ _ (Nat.le_of_lt_succ (Nat.mod_lt _ (Nat.succ_pos mask)))
def ste (m i:Nat):Nat:=(i * 5 + 1) % m
def its (m:Nat):Nat->Nat->Nat
 | 0,i=>i
 | n + 1,i=>its m n (ste m i)
theorem ip (m:Nat):∀ (a b i:Nat),its m (a + b) i=its m b (its m a i)
 | 0,b,i=>by rw [Nat.zero_add]; rfl
 | a + 1,b,i=>by rw [show a + 1 + b=(a + b) + 1 by omega]; exact ip m a b _
def orb (m:Nat):Nat->Nat->List Nat
 | 0,_=>[]
 | n + 1,i=>i :: orb m n (ste m i)
theorem lE (m:Nat):∀ (n i j:Nat),j ∈ orb m n i->∃ r,r < n/\its m r i=j
 | 0,i,j,h=>by cases h
 | n + 1,i,j,h=>by
  rcases List.mem_cons.mp h with h | h
  ·exact ⟨0,by omega,h.symm⟩
  ·obtain ⟨r,a,b⟩:=lE m n _ _ h
   exact ⟨r + 1,by omega,b⟩
def whole (m:Nat):Bool:=((List.range m).all fun j=>(orb m m 0).contains j) && (its m m 0 == 0)
theorem qK {m:Nat} (h:whole m=true) {i j:Nat} (hi:i < m) (hj:j < m):∃ r,r < m/\its m r i=j:=by
 unfold whole at h
 rw [Bool.and_eq_true,List.all_eq_true,beq_iff_eq] at h
 obtain ⟨h1,h2⟩:=h
 obtain ⟨a,a1,a2⟩:=lE m m 0 i (List.contains_iff_mem.mp (h1 i (List.mem_range.mpr hi)))
 obtain ⟨b,b1,b2⟩:=lE m m 0 j (List.contains_iff_mem.mp (h1 j (List.mem_range.mpr hj)))
 by_cases hab:a<=b
 ·refine ⟨b - a,by omega,?_⟩
  rw [<- a2, <- ip,show a + (b - a)=b by omega]
  exact b2
 ·refine ⟨m + b - a,by omega,?_⟩
  rw [<- a2, <- ip,show a + (m + b - a)=m + b by omega,ip,h2]
  exact b2
theorem w5:whole 8=true:=by decide +kernel
theorem u3:whole 32=true:=by decide +kernel
theorem sO:whole 128=true:=by decide +kernel
theorem sP:whole 512=true:=by decide +kernel
def Msk (mask:Nat):Prop:=mask=7\/mask=31\/mask=127\/mask=511
theorem Msk.whole {mask:Nat} (h:Msk mask):whole (mask + 1)=true:=by
 rcases h with rfl | rfl | rfl | rfl
 ·exact w5
 ·exact u3
 ·exact sO
 ·exact sP
theorem j7 (mask:Nat):∀ (r i:Nat),cp mask r (i,0)=(its (mask + 1) r i,0)
 | 0,i=>rfl
 | r + 1,i=>by
  show cp mask r (leap mask i 0)=_
  rw [show leap mask i 0=(ste (mask + 1) i,0) from rfl,j7 mask r]; rfl
theorem u5 (h:Int):bits h < 2 ^ 64:=by
 unfold bits
 have h1:=Int.emod_lt_of_pos h (show (0:Int) < 2 ^ 64 by decide)
 have h0:=Int.emod_nonneg h (show (2 ^ 64:Int) ≠ 0 by decide)
 have:((2 ^ 64:Nat):Int)=2 ^ 64:=by decide
 omega
theorem iN {mask:Nat} (hm:Msk mask) {h:Int} {j:Nat} (hj:j<=mask):∃ k,k < turns mask/\(cp mask k (bits h % (mask + 1),bits h)).1=j:=by
 have p0:(cp mask 13 (bits h % (mask + 1),bits h)).2=0:=by
  rw [fG]
  exact Nat.div_eq_of_lt (Nat.lt_of_lt_of_le (u5 h) (by decide))
 have i0:=mR mask 13 (bits h % (mask + 1)) (bits h) (Nat.le_of_lt_succ (Nat.mod_lt _ (Nat.succ_pos mask)))
 obtain ⟨r,r1,r2⟩:=qK hm.whole (i:=(cp mask 13 (bits h % (mask + 1),bits h)).1) (j:=j) (by omega) (by omega)
 refine ⟨13 + r,by unfold turns; omega,?_⟩
 rw [j6,show cp mask 13 (bits h % (mask + 1),bits h)=((cp mask 13 (bits h % (mask + 1),bits h)).1,0) from Prod.ext rfl p0,j7]
 exact r2
theorem sQ {mask:Nat} (hm:Msk mask) (oc:Nat->Prop) (h:Int) {j:Nat} (hj:j<=mask) (he:¬ oc j):∃ n q,n < 10 * turns mask/\Way oc mask n (start mask h) q/\¬ oc q.j/\q.j<=mask/\q.dummy=none:=by
 obtain ⟨k,k1,k2⟩:=iN hm (h:=h) hj
 obtain ⟨n,n1,n2⟩:=oA mask k (bits h % (mask + 1)) (bits h)
 obtain ⟨n',q,a,b,c⟩:=qJ oc mask n (start mask h) (by
  show ¬ oc (lD mask n (cH mask _ _)).j
  rw [n2]
  show ¬ oc (cp mask k (bits h % (mask + 1),bits h)).1
  rw [k2]
  exact he)
 exact ⟨n',q,by omega,b,c,b.le (mP mask h),b.dummy⟩
theorem j8 {mask n:Nat} (oc:Nat->Prop) (f:Nat->Nat) (hf:∀ j,j<=mask->oc j->f j < n) (inj:∀ i j,i<=mask->j<=mask->oc i->oc j->f i=f j->i=j) (hn:n<=mask):∃ j,j<=mask/\¬ oc j:=by
 by_cases q:∃ j,j<=mask/\¬ oc j
 ·exact q
 ·exfalso
  have all:∀ j,j<=mask->oc j:=fun j hj=>by
   by_cases o:oc j
   ·exact o
   ·exact absurd ⟨j,hj,o⟩ q
  have nd:((List.range (mask + 1)).map f).Nodup:=by
   unfold List.Nodup
   rw [List.pairwise_map]
   refine List.Pairwise.imp_of_mem (fun {a b} ha hb hab e=>hab (inj a b ?_ ?_ (all _ ?_) (all _ ?_) e)) (List.nodup_range)
   all_goals (rw [List.mem_range] at ha hb; omega)
  have:=List.Nodup.length_le_of_subset nd (l₂:=List.range n) (fun x hx=>by
   obtain ⟨j,hj,e⟩:=List.mem_map.mp hx
   rw [List.mem_range] at hj ⊢
   rw [<- e]
   exact hf j (by omega) (all j (by omega)))
  rw [List.length_map,List.length_range,List.length_range] at this
  omega
open PySem PySem.SetTable
structure Tab (t:SetTable) (hs:Array Int):Prop where
 dm:t.dummies = #[]
 rise:lC t.place
 size:t.place.size=hs.size
 le:∀ i j:Nat,t.place[i]? = some j->j<=t.mask
 msk:Msk t.mask
 fit:hs.size<=t.mask
 reach:∀ (i j:Nat) (h:Int),t.place[i]? = some j->hs[i]? = some h->∃ n q,Way (occ t) t.mask n (start t.mask h) q/\q.j=j
theorem dQ {α : Type} {xs:Array α} {i:Nat} {a : α} (h:xs[i]? = some a):i < xs.size:=by
 apply Nat.lt_of_not_le; intro q; rw [Array.getElem?_eq_none q] at h; cases h
theorem Tab.fill {t:SetTable} {hs:Array Int} (T:Tab t hs):t.fill=hs.size:=by
 unfold SetTable.fill; rw [T.dm,T.size]; rfl
theorem Tab.fits {t:SetTable} {hs:Array Int} (T:Tab t hs):t.fits hs.size=true:=by
 unfold SetTable.fits
 rw [T.fill,T.size]
 simp [T.fit]
theorem Tab.ends {t:SetTable} {hs:Array Int} (T:Tab t hs) (h:Int):∃ n q,n < 10 * turns t.mask/\Way (occ t) t.mask n (start t.mask h) q/\¬ occ t q.j/\q.j<=t.mask/\q.dummy=none:=by
 obtain ⟨j,hj,he⟩:=j8 (mask:=t.mask) (n:=hs.size) (occ t) (fun j=>below t.place j)
  (fun j _ ⟨i,e⟩=>by show below t.place j < hs.size; rw [below_at T.rise e, <- T.size]; exact dQ e)
  (fun i j _ _ ⟨a,ea⟩ ⟨b,eb⟩ e=>by
   have e':below t.place i=below t.place j:=e
   rw [below_at T.rise ea,below_at T.rise eb] at e'
   subst e'
   exact Option.some.inj (ea.symm.trans eb)) T.fit
 exact sQ T.msk (occ t) h hj he
theorem sR {t:SetTable} {hs:Array Int} (T:Tab t hs) {H:Nat->Int} {h:Int}:∀ (n:Nat) (p q:Probe) (fuel:Nat),Way (occ t) t.mask n p q->¬ occ t q.j->n < fuel->p.dummy=none →
  (SetTable.probe.go t H h fuel p=some (.empty q.j none)/\∀ k r i,Way (occ t) t.mask k p r->t.place[i]? = some r.j->H i ≠ h) ∨
  (∃ k r i,k < n/\Way (occ t) t.mask k p r/\t.place[i]? = some r.j/\H i=h/\SetTable.probe.go t H h fuel p=some (.candidate r.j i (adv t.mask r))/\Way (occ t) t.mask (n - k - 1) (adv t.mask r) q/\(adv t.mask r).dummy=none
   /\ ∀ k' r' i',k' < k->Way (occ t) t.mask k' p r'->t.place[i']? = some r'.j->H i' ≠ h):=by
 intro n
 induction n with
 | zero =>
  intro p q fuel W he hf hd
  cases W
  obtain ⟨fuel,rfl⟩:∃ f,fuel=f + 1:=⟨fuel - 1,by omega⟩
  refine .inl ⟨?_,fun k r i Wr er => ?_⟩
  ·unfold SetTable.probe.go
   rw [oz T.dm he]
   dsimp only
   rw [hd]
  ·cases Wr with
   | here=>exact absurd ⟨i,er⟩ he
   | step a _=>exact absurd a he
 | succ n ih =>
  intro p q fuel W he hf hd
  obtain ⟨fuel,rfl⟩:∃ f,fuel=f + 1:=⟨fuel - 1,by omega⟩
  cases W with
  | step a W =>
   obtain ⟨i,ei⟩:=a
   have hd':(adv t.mask p).dummy=none:=by rw [<- hd]; unfold adv; split <;> rfl
   by_cases hh:H i=h
   ·refine .inr ⟨0,p,i,by omega,.here p,ei,hh,?_,W,hd',fun k' r' i' hk=>by omega⟩
    unfold SetTable.probe.go
    rw [gK T.rise ei]
    dsimp only
    rw [if_pos (by rw [hh]; exact beq_self_eq_true h)]
    rfl
   ·have e0:SetTable.probe.go t H h (fuel + 1) p=SetTable.probe.go t H h fuel (adv t.mask p):=by
     conv=>lhs; unfold SetTable.probe.go
     rw [gK T.rise ei]
     dsimp only
     rw [if_neg (by rw [beq_iff_eq]; exact hh)]
     rfl
    rcases ih (adv t.mask p) q fuel W he (by omega) hd' with ⟨r1,r2⟩ | ⟨k,r,i',k1,w1,e1,h1,g1,w2,d2,no⟩
    ·refine .inl ⟨e0.trans r1,fun k r j Wr er => ?_⟩
     cases Wr with
     | here =>
      obtain rfl:i=j:=by
       have x:=below_at T.rise ei
       have y:=below_at T.rise er
       exact x.symm.trans y
      exact hh
     | step _ Wr=>exact r2 _ _ _ Wr er
    ·refine .inr ⟨k + 1,r,i',by omega,.step ⟨i,ei⟩ w1,e1,h1,e0.trans g1,by rw [show n + 1 - (k + 1) - 1=n - k - 1 by omega]; exact w2,d2,fun k' r' j hk Wr er => ?_⟩
     cases Wr with
     | here =>
      obtain rfl:i=j:=by
       have x:=below_at T.rise ei
       have y:=below_at T.rise er
       exact x.symm.trans y
      exact hh
     | step _ Wr=>exact no _ _ _ (by omega) Wr er
theorem mS {t:SetTable} {hs:Array Int} (T:Tab t hs) {H:Nat->Int} {h:Int} {n:Nat} {p q:Probe} (W:Way (occ t) t.mask n p q) (he:¬ occ t q.j) (hn:n < 10 * turns t.mask) (hd:p.dummy=none) :
  (t.probe H h p=some (.empty q.j none)/\∀ k r i,Way (occ t) t.mask k p r->t.place[i]? = some r.j->H i ≠ h) ∨
  (∃ k r i,k < n/\Way (occ t) t.mask k p r/\t.place[i]? = some r.j/\H i=h/\t.probe H h p=some (.candidate r.j i (adv t.mask r))/\Way (occ t) t.mask (n - k - 1) (adv t.mask r) q/\(adv t.mask r).dummy=none
   /\ ∀ k' r' i',k' < k->Way (occ t) t.mask k' p r'->t.place[i']? = some r'.j->H i' ≠ h) :=
 sR T n p q _ W he hn hd
theorem Tab.sS {t:SetTable} {hs:Array Int} (T:Tab t hs) (j:Nat):t.put j=({ t with place:=insertAt t.place (below t.place j) j },below t.place j):=by
 unfold SetTable.put
 dsimp only
 have:has t.dummies j=false:=by rw [T.dm]; simp [has]
 rw [this]
 rfl
theorem Tab.put {t:SetTable} {hs:Array Int} (T:Tab t hs) {h:Int} {n:Nat} {q:Probe} (W:Way (occ t) t.mask n (start t.mask h) q) (he:¬ occ t q.j) (hq:q.j<=t.mask) (hf:hs.size + 1<=t.mask) :
  Tab { t with place:=insertAt t.place (below t.place q.j) q.j } (insertAt hs (below t.place q.j) h):=by
 have hp:=(dc T.rise q.j).1
 have hp':below t.place q.j<=hs.size:=by rw [<- T.size]; exact hp
 have up:∀ j,occ t j->occ { t with place:=insertAt t.place (below t.place q.j) q.j } j:=by
  rintro j ⟨i,e⟩
  by_cases l:i < below t.place q.j
  ·exact ⟨i,by show (insertAt _ _ _)[i]? = _; rw [bX _ hp,if_pos l]; exact e⟩
  ·exact ⟨i + 1,by show (insertAt _ _ _)[i + 1]? = _; rw [bX _ hp,if_neg (by omega),if_neg (by omega)]; exact e⟩
 refine ⟨T.dm,jD T.rise fun i e=>he ⟨i,e⟩,?_,fun i j e => ?_,T.msk,by rw [cf]; exact hf,fun i j h' e eh => ?_⟩
 ·show (insertAt _ _ _).size=_
  rw [cf,cf,T.size]
 ·have e':(insertAt t.place (below t.place q.j) q.j)[i]? = some j:=e
  rw [bX _ hp] at e'
  split at e'
  ·exact T.le _ _ e'
  ·split at e'
   ·cases e'; exact hq
   ·exact T.le _ _ e'
 ·have e':(insertAt t.place (below t.place q.j) q.j)[i]? = some j:=e
  rw [bX _ hp] at e'
  rw [bX _ hp'] at eh
  by_cases l1:i < below t.place q.j
  ·rw [if_pos l1] at e' eh
   obtain ⟨n',q',w,eq⟩:=T.reach _ _ _ e' eh
   exact ⟨n',q',w.mono up,eq⟩
  ·rw [if_neg l1] at e' eh
   by_cases l2:i=below t.place q.j
   ·rw [if_pos l2] at e' eh
    cases e'; cases eh
    exact ⟨n,q,W.mono up,rfl⟩
   ·rw [if_neg l2] at e' eh
    obtain ⟨n',q',w,eq⟩:=T.reach _ _ _ e' eh
    exact ⟨n',q',w.mono up,eq⟩
def ocw (owner:Array (Option Nat)) (j:Nat):Prop:=∃ k,owner[j]? = some (some k)
theorem Way.trans {oc:Nat->Prop} {mask n m:Nat} {p q r:Probe} (h:Way oc mask n p q) (h2:Way oc mask m q r):∃ k,Way oc mask k p r:=by
 induction h with
 | here=>exact ⟨m,h2⟩
 | step a _ ih=>obtain ⟨k,w⟩:=ih h2; exact ⟨k + 1,.step a w⟩
theorem lG (oc:Nat->Prop) (mask:Nat):∀ (k:Nat) (p:Probe),k<=p.more->(∀ k',k' < k->oc (p.j + k'))->Way oc mask k p { p with j:=p.j + k,more:=p.more - k }
 | 0,p,_,_ => .here p
 | k + 1,p,h,ho=>by
  have e:adv mask p={ p with j:=p.j + 1,more:=p.more - 1 }:=by unfold adv; rw [if_pos (by omega)]
  refine .step (ho 0 (by omega)) ?_
  rw [e]
  have:=lG oc mask k { p with j:=p.j + 1,more:=p.more - 1 } (by dsimp only; omega) fun k' hk=>by
   have:=ho (k' + 1) (by omega)
   rw [show p.j + (k' + 1)=p.j + 1 + k' by omega] at this
   exact this
  dsimp only at this
  rw [show p.j + 1 + k=p.j + (k + 1) by omega,show p.more - 1 - k=p.more - (k + 1) by omega] at this
  exact this
theorem eJ {owner:Array (Option Nat)} {mask j:Nat} (hs:owner.size=mask + 1) (hj:j<=mask):(owner.getD j (some 0)).isNone=true ↔ ¬ ocw owner j:=by
 have hl:j < owner.size:=by omega
 have e:owner[j]? = some owner[j]:=Array.getElem?_eq_getElem hl
 rw [show owner.getD j (some 0)=owner[j] by simp [Array.getD,hl]]
 unfold ocw
 rw [e]
 cases owner[j] with
 | none=>simp
 | some k=>simp
theorem j9 {mask i:Nat} (h:i<=mask):runEnd mask i<=mask/\i<=runEnd mask i:=by
 unfold runEnd; split <;> omega
theorem qL {mask:Nat} {owner:Array (Option Nat)} (hs:owner.size=mask + 1):∀ (fuel i pe j:Nat),i<=mask->SetTable.layClean.free mask owner fuel i pe=some j →
  ¬ ocw owner j/\∃ n q,Way (ocw owner) mask n (cH mask i pe) q/\q.j=j:=by
 intro fuel
 induction fuel with
 | zero=>intro i pe j hi h; unfold SetTable.layClean.free at h; cases h
 | succ fuel ih =>
  intro i pe j hi h
  unfold SetTable.layClean.free at h
  obtain ⟨r1,r2⟩:=j9 hi
  have no:∀ k,k < runEnd mask i + 1 - i->((owner.getD (i + k) (some 0)).isNone=false)->ocw owner (i + k):=fun k hk e=>by
   by_cases o:ocw owner (i + k)
   ·exact o
   ·rw [(eJ hs (by omega)).mpr o] at e; cases e
  cases hf:(List.range (runEnd mask i + 1 - i)).find? fun k=>(owner.getD (i + k) (some 0)).isNone with
  | some k =>
   rw [hf] at h
   dsimp only at h
   cases h
   rw [List.find?_range_eq_some] at hf
   obtain ⟨f1,f2,f3⟩:=hf
   rw [List.mem_range] at f2
   refine ⟨(eJ hs (by omega)).mp f1,k,_,lG (ocw owner) mask k (cH mask i pe) (by show k<=runEnd mask i - i; omega) fun k' hk => ?_,rfl⟩
   refine no k' (by omega) ?_
   have:=f3 k' hk
   simpa using this
  | none =>
   rw [hf] at h
   dsimp only at h
   rw [List.find?_range_eq_none] at hf
   have all:∀ k,k < runEnd mask i + 1 - i->ocw owner (i + k):=fun k hk=>no k hk (by simpa using hf k hk)
   obtain ⟨g1,n,q,w,eq⟩:=ih _ _ _ (Nat.le_of_lt_succ (Nat.mod_lt _ (Nat.succ_pos mask))) h
   refine ⟨g1,?_⟩
   have w0:=lG (ocw owner) mask (runEnd mask i - i) (cH mask i pe) (Nat.le_refl _) fun k' hk=>all k' (by omega)
   have w1:Way (ocw owner) mask (n + 1) { (cH mask i pe) with j:=(cH mask i pe).j + (runEnd mask i - i),more:=(cH mask i pe).more - (runEnd mask i - i) } q:=by
    refine .step (all (runEnd mask i - i) (by omega)) ?_
    have e:adv mask { (cH mask i pe) with j:=(cH mask i pe).j + (runEnd mask i - i),more:=(cH mask i pe).more - (runEnd mask i - i) }=cH mask (leap mask i pe).1 (leap mask i pe).2:=by
     unfold adv
     rw [if_neg (by show ¬ (runEnd mask i - i - (runEnd mask i - i)) > 0; omega)]
     rfl
    rw [e]
    exact w
   obtain ⟨k,w2⟩:=w0.trans w1
   exact ⟨k,q,w2,eq⟩
theorem qM {mask:Nat} {owner:Array (Option Nat)} (hs:owner.size=mask + 1):∀ (fuel i pe k:Nat),i<=mask->k < fuel->¬ ocw owner (cp mask k (i,pe)).1->∃ j,SetTable.layClean.free mask owner fuel i pe=some j:=by
 intro fuel
 induction fuel with
 | zero=>intro i pe k _ h; omega
 | succ fuel ih =>
  intro i pe k hi hk he
  unfold SetTable.layClean.free
  obtain ⟨r1,r2⟩:=j9 hi
  cases hf:(List.range (runEnd mask i + 1 - i)).find? fun k=>(owner.getD (i + k) (some 0)).isNone with
  | some k=>exact ⟨_,rfl⟩
  | none =>
   dsimp only
   rw [List.find?_range_eq_none] at hf
   cases k with
   | zero =>
    have h0:=hf 0 (by omega)
    have:(owner.getD (i + 0) (some 0)).isNone=true:=(eJ hs (by omega)).mpr he
    rw [this] at h0
    cases h0
   | succ k=>exact ih _ _ k (Nat.le_of_lt_succ (Nat.mod_lt _ (Nat.succ_pos mask))) (by omega) he
structure Own (mask:Nat) (owner:Array (Option Nat)) (hs:List Int):Prop where
 size:owner.size=mask + 1
 cov:∀ (k:Nat) (h:Int),hs[k]? = some h->∃ j n q,owner[j]? = some (some k)/\Way (ocw owner) mask n (start mask h) q/\q.j=j
 bnd:∀ j k:Nat,owner[j]? = some (some k)->k < hs.length
 inj:∀ i j k:Nat,owner[i]? = some (some k)->owner[j]? = some (some k)->i=j
theorem Own.step {mask:Nat} (hm:Msk mask) {owner:Array (Option Nat)} {hs:List Int} (O:Own mask owner hs) (h:Int) (hl:hs.length<=mask) :
  ∃ j,SetTable.layClean.free mask owner (turns mask) (bits h % (mask + 1)) (bits h)=some j/\Own mask (owner.setIfInBounds j (some hs.length)) (hs ++ [h]):=by
 obtain ⟨e,he,hne⟩:=j8 (mask:=mask) (n:=hs.length) (ocw owner) (fun j=>(owner.getD j none).getD 0)
  (fun j _ ⟨k,ek⟩=>by
   have:=dQ ek
   show (owner.getD j none).getD 0 < _
   rw [show owner.getD j none=some k by rw [Array.getD_eq_getD_getElem?,ek]; rfl]
   exact O.bnd j k ek)
  (fun i j _ _ ⟨a,ea⟩ ⟨b,eb⟩ q=>by
   have q':(owner.getD i none).getD 0=(owner.getD j none).getD 0:=q
   rw [show owner.getD i none=some a by rw [Array.getD_eq_getD_getElem?,ea]; rfl,show owner.getD j none=some b by rw [Array.getD_eq_getD_getElem?,eb]; rfl] at q'
   have q'':a=b:=q'
   subst q''
   exact O.inj i j a ea eb) hl
 have i0:bits h % (mask + 1)<=mask:=Nat.le_of_lt_succ (Nat.mod_lt _ (Nat.succ_pos mask))
 obtain ⟨k,k1,k2⟩:=iN hm (h:=h) he
 obtain ⟨j,hj⟩:=qM O.size (turns mask) _ _ k i0 k1 (by rw [k2]; exact hne)
 obtain ⟨hno,n,q,w,eq⟩:=qL O.size _ _ _ _ i0 hj
 have hjm:j<=mask:=by rw [<- eq]; exact w.le (mP mask h)
 have hjs:j < owner.size:=by rw [O.size]; omega
 have ej:owner[j]? = some none:=by
  rw [Array.getElem?_eq_getElem hjs]
  cases ho:owner[j] with
  | none=>rfl
  | some k=>exact absurd ⟨k,by rw [Array.getElem?_eq_getElem hjs,ho]⟩ hno
 have get:∀ i:Nat,(owner.setIfInBounds j (some hs.length))[i]? = if i=j then some (some hs.length) else owner[i]? := fun i=>by
  rw [Array.getElem?_setIfInBounds]
  by_cases q:j=i
  ·rw [if_pos q,if_pos q.symm,if_pos hjs]
  ·rw [if_neg q,if_neg (Ne.symm q)]
 have up:∀ i,ocw owner i->ocw (owner.setIfInBounds j (some hs.length)) i:=by
  rintro i ⟨k,ek⟩
  refine ⟨k,?_⟩
  rw [get,if_neg (fun q=>by rw [q,ej] at ek; cases ek)]
  exact ek
 refine ⟨j,hj,by rw [Array.size_setIfInBounds]; exact O.size,fun k h' eh => ?_,fun i k ek => ?_,fun i i' k ei ei' => ?_⟩
 ·by_cases lk:k < hs.length
  ·rw [List.getElem?_append_left lk] at eh
   obtain ⟨j',n',q',a,b,c⟩:=O.cov k h' eh
   refine ⟨j',n',q',?_,b.mono up,c⟩
   rw [get,if_neg (fun q=>by rw [q,ej] at a; cases a)]
   exact a
  ·rw [List.getElem?_append_right (by omega)] at eh
   have:k - hs.length=0:=by
    cases hk:k - hs.length with
    | zero=>rfl
    | succ m=>rw [hk] at eh; cases eh
   rw [this] at eh
   cases eh
   obtain rfl:k=hs.length:=by omega
   exact ⟨j,n,q,by rw [get,if_pos rfl],w.mono up,eq⟩
 ·rw [List.length_append,List.length_singleton]
  rw [get] at ek
  split at ek
  ·cases ek; omega
  ·have:=O.bnd _ _ ek; omega
 ·rw [get] at ei ei'
  by_cases q1:i=j
  ·by_cases q2:i'=j
   ·rw [q1,q2]
   ·rw [if_pos q1] at ei; rw [if_neg q2] at ei'
    cases ei
    have:=O.bnd _ _ ei'; omega
  ·rw [if_neg q1] at ei
   by_cases q2:i'=j
   ·rw [if_pos q2] at ei'
    cases ei'
    have:=O.bnd _ _ ei; omega
   ·rw [if_neg q2] at ei'
    exact O.inj _ _ _ ei ei'
theorem mW {mask:Nat} (hm:Msk mask):∀ (l:List Int) (owner:Array (Option Nat)) (hs:List Int),Own mask owner hs->hs.length + l.length<=mask + 1 →
    ∃ owner',l.foldl (fun acc h=>do
      let (owner,k) ← acc
      let j ← SetTable.layClean.free mask owner (turns mask) (bits h % (mask + 1)) (bits h)
      pure (owner.setIfInBounds j (some k),k + 1)) (some (owner,hs.length))=some (owner',hs.length + l.length)/\Own mask owner' (hs ++ l)
  | [],owner,hs,O,_=>⟨owner,rfl,by rw [List.append_nil]; exact O⟩
  | h :: l,owner,hs,O,hl=>by
    rw [List.length_cons] at hl
    obtain ⟨j,hj,O'⟩:=O.step hm h (by omega)
    obtain ⟨owner',e,O''⟩:=mW hm l _ _ O' (by rw [List.length_append,List.length_singleton]; omega)
    refine ⟨owner',?_,by rw [List.append_assoc] at O''; exact O''⟩
    rw [List.foldl_cons]
    have:(do
      let (owner,k) ← some (owner,hs.length)
      let j ← SetTable.layClean.free mask owner (turns mask) (bits h % (mask + 1)) (bits h)
      pure (owner.setIfInBounds j (some k),k + 1):Option (Array (Option Nat) × Nat))=some (owner.setIfInBounds j (some hs.length),(hs ++ [h]).length):=by
      show (SetTable.layClean.free mask owner (turns mask) (bits h % (mask + 1)) (bits h)).bind _=_
      rw [hj,List.length_append]
      rfl
    rw [this,e]
    rw [List.length_append,List.length_singleton,List.length_cons]
    congr 2
    omega
theorem mX {mask:Nat} (hm:Msk mask) (hs:Array Int) (hl:hs.size<=mask + 1):∃ owner,SetTable.layClean mask hs=some owner/\Own mask owner hs.toList:=by
  have O0:Own mask (Array.replicate (mask + 1) none) []:=by
    refine ⟨by simp,fun k h e=>by simp at e,fun j k e => ?_,fun i j k e => ?_⟩
    · rw [Array.getElem?_replicate] at e; split at e <;> cases e
    · rw [Array.getElem?_replicate] at e; split at e <;> cases e
  obtain ⟨owner,e,O⟩:=mW hm hs.toList _ [] O0 (by rw [List.length_nil,Array.length_toList]; omega)
  refine ⟨owner,?_,by rw [List.nil_append] at O; exact O⟩
  unfold SetTable.layClean
  rw [<- Array.foldl_toList]
  have e':hs.toList.foldl (fun acc h=>do
      let (owner,k) ← acc
      let j ← SetTable.layClean.free mask owner (turns mask) (bits h % (mask + 1)) (bits h)
      pure (owner.setIfInBounds j (some k),k + 1)) (some (Array.replicate (mask + 1) none,0))=some (owner,0 + hs.toList.length):=e
  rw [e']
  rfl
theorem filterMap_get {α β : Type} {f : α -> Option β}:∀ (l:List α),(∀ x ∈ l,(f x).isSome=true)->∀ i:Nat,(l.filterMap f)[i]? = l[i]?.bind f
 | [],_,i=>by simp
 | x :: l,h,i=>by
  obtain ⟨y,hy⟩:=Option.isSome_iff_exists.mp (h x List.mem_cons_self)
  rw [List.filterMap_cons_some hy]
  cases i with
  | zero=>simp [hy]
  | succ i =>
   rw [List.getElem?_cons_succ,List.getElem?_cons_succ]
   exact filterMap_get l (fun z hz=>h z (List.mem_cons_of_mem _ hz)) i
theorem u6 {mask:Nat} (hm:Msk mask) (finger moves:Nat) (led plain:Bool) (es:Array (Int × Value)) (hl:es.size<=mask) :
  ∃ t order,SetTable.laid mask finger moves led plain (es.map (·.1))=some (t,order)/\order.toList.Perm (List.range es.size)/\Tab t ((order.filterMap (es[·]?)).map (·.1))/\(order.filterMap (es[·]?)).toList.Perm es.toList/\t.led=led/\t.plain=plain/\t.mask=mask:=by
 obtain ⟨owner,e,O⟩:=mX hm (es.map (·.1)) (by rw [Array.size_map]; omega)
 refine ⟨_,_,by unfold SetTable.laid; rw [e]; rfl,?_⟩
 generalize hlive:((List.range (mask + 1)).filterMap fun j=>(owner.getD j none).map (j, ·))=live
 have mem:∀ j k,(j,k) ∈ live ↔ owner[j]? = some (some k):=fun j k=>by
  rw [<- hlive,List.mem_filterMap]
  constructor
  ·rintro ⟨a,ha,ea⟩
   rw [Array.getD_eq_getD_getElem?] at ea
   cases ho:owner[a]? with
   | none=>rw [ho] at ea; cases ea
   | some x =>
    rw [ho] at ea
    cases x with
    | none=>cases ea
    | some k'=>cases ea; exact ho
  ·intro ho
   refine ⟨j,?_,?_⟩
   ·rw [List.mem_range, <- O.size]; exact dQ ho
   ·rw [Array.getD_eq_getD_getElem?,ho]; rfl
 have pw:live.Pairwise (fun a b=>a.1 < b.1):=by
  rw [<- hlive,List.pairwise_filterMap]
  refine List.Pairwise.imp (fun {a b} hab x hx y hy => ?_) List.pairwise_lt_range
  have hx':x.1=a:=by cases ho:owner.getD a none with
   | none=>rw [ho] at hx; cases hx
   | some k=>rw [ho] at hx; cases hx; rfl
  have hy':y.1=b:=by cases ho:owner.getD b none with
   | none=>rw [ho] at hy; cases hy
   | some k=>rw [ho] at hy; cases hy; rfl
  rw [hx',hy']; exact hab
 have nd:(live.map (·.2)).Nodup:=by
  unfold List.Nodup
  rw [List.pairwise_map]
  refine List.Pairwise.imp_of_mem (fun {a b} ha hb hab q => ?_) pw
  have:=O.inj a.1 b.1 a.2 ((mem _ _).mp ha) (by rw [q]; exact (mem _ _).mp hb)
  omega
 have hlen:(es.map (·.1)).toList.length=es.size:=by rw [Array.length_toList,Array.size_map]
 have perm:(live.map (·.2)).Perm (List.range es.size):=by
  rw [List.perm_ext_iff_of_nodup nd List.nodup_range]
  intro k
  rw [List.mem_range,List.mem_map]
  constructor
  ·rintro ⟨⟨j,k'⟩,hm',rfl⟩
   have:=O.bnd _ _ ((mem _ _).mp hm')
   rw [hlen] at this
   exact this
  ·intro hk
   obtain ⟨j,_,_,ej,_⟩:=O.cov k _ (List.getElem?_eq_getElem (by rw [hlen]; exact hk))
   exact ⟨(j,k),(mem _ _).mpr ej,rfl⟩
 have all:∀ x ∈ live.map (·.2),(es[x]?).isSome=true:=fun x hx=>by
  have:=(perm.mem_iff).mp hx
  rw [List.mem_range] at this
  rw [Array.getElem?_eq_getElem this]; rfl
 have tl:(live.map (·.2)).toArray.toList=live.map (·.2):=rfl
 have ll:live.length=es.size:=by have:=perm.length_eq; rw [List.length_map,List.length_range] at this; exact this
 have fm:((live.map (·.2)).toArray.filterMap (es[·]?)).toList=(live.map (·.2)).filterMap (es[·]?):=by simp
 have fl:((live.map (·.2)).filterMap (es[·]?)).Perm es.toList:=by
  have p1:=perm.filterMap (es[·]?)
  have:(List.range es.size).filterMap (es[·]?)=es.toList:=by
   apply List.ext_getElem?
   intro i
   rw [filterMap_get _ (fun x hx=>by rw [List.mem_range] at hx; rw [Array.getElem?_eq_getElem hx]; rfl)]
   by_cases hi:i < es.size
   ·rw [List.getElem?_range hi,Array.getElem?_toList]; rfl
   ·rw [List.getElem?_eq_none (by rw [List.length_range]; omega),List.getElem?_eq_none (by rw [Array.length_toList]; omega)]; rfl
  rw [this] at p1
  exact p1
 refine ⟨perm,?_,by rw [fm]; exact fl,rfl,rfl,rfl⟩
 have sz:(((live.map (·.2)).toArray.filterMap (es[·]?)).map (·.1)).size=es.size:=by
  rw [Array.size_map, <- Array.length_toList,fm,fl.length_eq,Array.length_toList]
 have occ_of:∀ j,ocw owner j->occ { mask:=mask,place:=(live.map (·.1)).toArray,dummies := #[],finger:=finger,led:=led,moves:=moves,plain:=plain } j:=by
  rintro j ⟨k,ek⟩
  obtain ⟨i,hi,ei⟩:=List.getElem_of_mem ((mem j k).mpr ek)
  refine ⟨i,?_⟩
  show (live.map (·.1)).toArray[i]? = some j
  rw [List.getElem?_toArray,List.getElem?_map,List.getElem?_eq_getElem hi,ei]
  rfl
 refine ⟨rfl,fun i j a b ea eb hij => ?_,?_,fun i j ej => ?_,hm,by rw [sz]; exact hl,fun i j h ej eh => ?_⟩
 ·have ea':(live.map (·.1)).toArray[i]? = some a:=ea
  have eb':(live.map (·.1)).toArray[j]? = some b:=eb
  rw [List.getElem?_toArray] at ea' eb'
  have pw':(live.map (·.1)).Pairwise (· < ·):=by rw [List.pairwise_map]; exact pw
  obtain ⟨hi,xi⟩:=List.getElem?_eq_some_iff.mp ea'
  obtain ⟨hj,xj⟩:=List.getElem?_eq_some_iff.mp eb'
  rw [<- xi, <- xj]
  exact List.pairwise_iff_getElem.mp pw' i j hi hj hij
 ·show (live.map (·.1)).toArray.size=_
  rw [sz,List.size_toArray,List.length_map,ll]
 ·have ej':(live.map (·.1)).toArray[i]? = some j:=ej
  rw [List.getElem?_toArray,List.getElem?_map] at ej'
  cases hx:live[i]? with
  | none=>rw [hx] at ej'; cases ej'
  | some x =>
   rw [hx] at ej'
   cases ej'
   have:=dQ ((mem x.1 x.2).mp (List.mem_of_getElem? hx))
   show x.1<=mask
   rw [O.size] at this
   omega
 ·have ej':(live.map (·.1)).toArray[i]? = some j:=ej
  rw [List.getElem?_toArray,List.getElem?_map] at ej'
  cases hx:live[i]? with
  | none=>rw [hx] at ej'; cases ej'
  | some x =>
   rw [hx] at ej'
   cases ej'
   have ho:=(mem x.1 x.2).mp (List.mem_of_getElem? hx)
   have hk:=O.bnd _ _ ho
   rw [Array.getElem?_map, <- Array.getElem?_toList,fm,filterMap_get _ all,List.getElem?_map,hx] at eh
   have eh':(es[x.2]?).map (·.1)=some h:=eh
   obtain ⟨j',n,q,a,b,c⟩:=O.cov x.2 h (by rw [Array.toList_map,List.getElem?_map,Array.getElem?_toList]; exact eh')
   obtain rfl:=O.inj _ _ _ ho a
   exact ⟨n,q,b.mono occ_of,c⟩
open PySem PySem.SetTable PyProof.Rows
section
variable {prog:Program} {w:World} {A:Around} {E:Value->Shared->Prop} {s:Shared}
abbrev TK (prog:Program) (w:World):=IsTupleKey (prog:=prog) (w:=w) (intKind prog w)
def cg (prog:Program) (w:World) (ks:List Int):Int:=tupleKeyHash (intKind prog w) ks
def aM (es:Array (Int × Value)) (ep:Nat) (t:SetTable):Obj:={ cls := .type "set",dict:=none,data := .set es ep t }
def ElT (prog:Program) (w:World) (h:Heap) (e:Int × Value) (ks:List Int):Prop:=∃ b,e=(cg prog w ks,.ref b)/\TK prog w h ks b
theorem lH (d:Nat) {v:Value} (h:carriedByValue v=true):ofAClassStatement d v=pure false:=by
 cases v with
 | ref a=>simp [carriedByValue] at h
 | _=>cases d <;> rfl
theorem gn {ks:List Int} {b:Addr} {Q:Bool->Shared->Prop} (hk:TK prog w s.heap ks b) (h:Q false s):wpAny (model prog w) A (ofAClassStatement 8 (.ref b)) Q E s:=by
 have hT:=hk.typeIs
 obtain ⟨o,items,n,ho,_,hd,hi⟩:=hk
 unfold ofAClassStatement
 refine wpAny_bind (wpAny_typeOf hT ?_)
 dsimp only
 rw [if_pos (by decide)]
 refine wpAny_bind (wpAny_pure ?_)
 simp only [Bool.not_true,Bool.false_eq_true,if_false]
 refine wpAny_bind (wpAny_seqItems ho hd ?_)
 dsimp only
 refine wpAny_bind ?_
 rw [<- Array.forIn_toList]
 refine wpAny_forIn_list _ (fun rest r s'=>r.1=none/\s'=s/\∀ v ∈ rest,carriedByValue v=true) _ ?_ ?_ _ _ ⟨rfl,rfl,hi.byValue⟩
 ·rintro v rest r s' ⟨hr,rfl,hall⟩
  rw [lH _ (hall v List.mem_cons_self)]
  refine wpAny_bind (wpAny_pure ?_)
  simp only [Bool.false_eq_true,if_false]
  exact wpAny_pure ⟨rfl,rfl,fun u hu'=>hall u (List.mem_cons_of_mem _ hu')⟩
 ·rintro ⟨r1,r2⟩ s' ⟨hr,rfl,_⟩
  simp only at hr
  subst hr
  exact wpAny_pure h
theorem w6 {ks:List Int} {b:Addr} {vs:List Value} {Q:Bool->Shared->Prop} (hk:TK prog w s.heap ks b) (hv:∀ v ∈ vs,∃ ks' b',v = .ref b'/\TK prog w s.heap ks' b') (h:Q false s) :
  wpAny (model prog w) A (searchCouldBeSeen (.ref b) vs) Q E s:=by
 unfold searchCouldBeSeen
 refine wpAny_bind ?_
 refine wpAny_forIn_list _ (fun rest r s'=>r.1=none/\s'=s/\∀ v ∈ rest,∃ ks' b',v = .ref b'/\TK prog w s.heap ks' b') _ ?_ ?_ _ _ ⟨rfl,rfl,hv⟩
 ·rintro v rest r s' ⟨hr,rfl,hall⟩
  obtain ⟨ks',b',rfl,hk'⟩:=hall v List.mem_cons_self
  have go:∀ u ∈ rest,∃ ks' b',u = .ref b'/\TK prog w s'.heap ks' b':=fun u hu'=>hall u (List.mem_cons_of_mem _ hu')
  dsimp only
  split
  ·exact wpAny_pure ⟨rfl,rfl,go⟩
  ·refine wpAny_bind (wpAny_eqIsQuiet_tuple hk ?_)
   simp only [Bool.not_true,Bool.false_eq_true,if_false]
   refine wpAny_bind (wpAny_eqIsQuiet_tuple hk' ?_)
   simp only [Bool.not_true,Bool.false_eq_true,if_false]
   refine wpAny_bind (gn hk ?_)
   simp only [Bool.false_eq_true,if_false]
   refine wpAny_bind (gn hk' ?_)
   simp only [Bool.false_eq_true,if_false]
   exact wpAny_pure ⟨rfl,rfl,go⟩
 ·rintro ⟨r1,r2⟩ s' ⟨hr,rfl,_⟩
  simp only at hr
  subst hr
  exact wpAny_pure h
theorem u7 {m:Nat} (h:Msk m):(m % 2 == 0)=false:=by rcases h with rfl | rfl | rfl | rfl <;> rfl
theorem bG {a:Addr} {es:Array (Int × Value)} {ep:Nat} {t:SetTable} {Q:(Array (Int × Value) × Nat × SetTable)->Shared->Prop} (ho:s.heap.get? a=some (aM es ep t)) (T:Tab t (es.map (·.1))) (h:Q (es,ep,t) s) :
  wpAny (model prog w) A (setState a) Q E s:=wpAny_setState_of ho rfl (by have:=T.fits; rwa [Array.size_map] at this) h
theorem oB (es:Array (Int × Value)) (i:Nat) (e:Int × Value) (h:es[i]? = some e):(es.map (·.1))[i]? = some e.1:=by rw [Array.getElem?_map,h]; rfl
theorem Way.split {oc:Nat->Prop} {mask k:Nat} {p r:Probe} (h:Way oc mask k p r):∀ {k':Nat} {r':Probe},Way oc mask k' p r'->k<=k'->Way oc mask (k' - k) r r':=by
 induction h with
 | here p=>intro k' r' h2 _; exact h2
 | @step n p q a _ ih =>
  intro k' r' h2 l
  cases h2 with
  | here=>omega
  | @step m _ _ _ h2=>rw [show m + 1 - (n + 1)=m - n by omega]; exact ih h2 (by omega)
theorem oD {a b:Addr} {es:Array (Int × Value)} {ep:Nat} {t:SetTable} {ks:List Int} {Q:SetFound->Shared->Prop} (hu:A.units < cLine) (ho:s.heap.get? a=some (aM es ep t)) (T:Tab t (es.map (·.1)))
    (els:∀ e ∈ es,∃ ks',ElT prog w s.heap e ks') (hk:TK prog w s.heap ks b) {q:Probe} (he:¬ occ t q.j) :
    ∀ (fuel n:Nat) (st:Option Probe) (p:Probe),st.getD (start t.mask (cg prog w ks))=p->Way (occ t) t.mask n p q->n < fuel->n < 10 * turns t.mask->p.dummy=none →
      ((∃ (k:Nat) (r:Probe) (i:Nat) (e:Int × Value),Way (occ t) t.mask k p r/\t.place[i]? = some r.j/\es[i]? = some e/\ElT prog w s.heap e ks)->Q (.there none) s) →
      ((¬ ∃ (k:Nat) (r:Probe) (i:Nat) (e:Int × Value),Way (occ t) t.mask k p r/\t.place[i]? = some r.j/\es[i]? = some e/\ElT prog w s.heap e ks)->Q (.free q.j false) s) →
      wpAny (model prog w) A (setSearchFrom a (.ref b) (cg prog w ks) true fuel st) Q E s:=by
  intro fuel
  induction fuel with
  | zero=>intro n st p _ _ h; omega
  | succ fuel ih =>
    intro n st p hst W hn hn2 hd hit mis
    unfold setSearchFrom
    refine wpAny_bind (bG ho T ?_)
    dsimp only
    rw [show t.gaveWay=false from u7 T.msk]
    simp only [Bool.false_eq_true,if_false]
    rw [show st.getD (t.probeStart (cg prog w ks))=p from hst]
    rcases mS T (H:=fun i=>(es[i]?.map (·.1)).getD 0) (h:=cg prog w ks) W he hn2 hd with ⟨g,no⟩ | ⟨k,r,i,k1,w1,e1,h1,g,w2,d2,no⟩
    · erw [g]
      dsimp only
      refine wpAny_pure (mis ?_)
      rintro ⟨k,r,i,e,wr,er,ee,eb,rfl,_⟩
      refine no k r i wr er ?_
      show (es[i]?.map (·.1)).getD 0=_
      rw [ee]
      rfl
    · erw [g]
      dsimp only
      have hi:i < es.size:=by have:=dQ e1; rw [T.size,Array.size_map] at this; exact this
      have ee:es[i]? = some es[i]:=Array.getElem?_eq_getElem hi
      obtain ⟨ks',b',eq,hk'⟩:=els es[i] (Array.getElem_mem hi)
      rw [eq] at ee
      have hh:cg prog w ks'=cg prog w ks:=by
        have h1':(es[i]?.map (·.1)).getD 0=cg prog w ks:=h1
        rw [ee] at h1'
        exact h1'
      have tail:wpAny (model prog w) A (do
          let equal ← holding [Value.ref b'] (eqBool (.ref b') (.ref b))
          let (es',_,t') ← setState a
          if (true && equal)=true then return .there none
          let some same:=t'.sameMemory t.moves t.mask | unsupported "set.changed-during-lookup:is-the-new-block-at-the-old-address"
          let still ← match (if same then t'.slot r.j else .empty) with
            | .live i'=>match es'[i']? with
              | some (_,y')=>do pure (if ← isSame y' (.ref b') then some i' else none)
              | none=>pure none
            | _=>pure none
          match still with
          | none=>rule "set.search.anew"; setSearchFrom a (.ref b) (cg prog w ks) true fuel none
          | some i'=>if equal then return .there (some i') else setSearchFrom a (.ref b) (cg prog w ks) true fuel (some (adv t.mask r))) Q E s:=by
        refine wpAny_bind (wpAny_holding (wpAny_eqBool_tuple hu hk' hk ?_))
        refine wpAny_bind (bG ho T ?_)
        dsimp only
        by_cases hks:ks'=ks
        · subst hks
          rw [decide_eq_true rfl]
          simp only [Bool.and_self,if_true]
          exact wpAny_pure (hit ⟨k,r,i,_,w1,e1,ee,b',rfl,hk'⟩)
        · rw [decide_eq_false hks]
          simp only [Bool.and_false,Bool.false_eq_true,if_false]
          rw [show t.sameMemory t.moves t.mask=some true by unfold SetTable.sameMemory; simp]
          dsimp only
          simp only [if_true]
          rw [gK T.rise e1]
          dsimp only
          rw [ee]
          dsimp only
          refine wpAny_bind (wpAny_isSame_ref_self (wpAny_bind (wpAny_pure ?_)))
          simp only [if_true]
          refine ih (n - k - 1) _ _ rfl w2 (by omega) (by omega) d2 (fun x=>hit ?_) fun x=>mis fun y=>x ?_
          · obtain ⟨k',r',i',e',a1,a2,a3,a4⟩:=x
            obtain ⟨k'',w''⟩:=w1.trans (.step ⟨i,e1⟩ a1)
            exact ⟨k'',r',i',e',w'',a2,a3,a4⟩
          · obtain ⟨k',r',i',e',a1,a2,a3,a4⟩:=y
            have hx:(es[i']?.map (·.1)).getD 0=cg prog w ks:=by
              obtain ⟨bb,rfl,_⟩:=a4
              rw [a3]; rfl
            by_cases lt:k' < k
            · exact absurd hx (no k' r' i' lt a1 a2)
            · have w3:=w1.split a1 (by omega)
              cases hd3:k' - k with
              | zero =>
                rw [hd3] at w3
                cases w3
                obtain rfl:i=i':=(below_at T.rise e1).symm.trans (below_at T.rise a2)
                obtain ⟨bb,rfl,hbb⟩:=a4
                rw [ee] at a3
                injection a3 with a3
                injection a3 with a31 a32
                injection a32 with a32
                subst a32
                exact absurd (hk'.inj hbb) hks
              | succ m =>
                rw [hd3] at w3
                cases w3 with
                | step _ w3=>exact ⟨m,r',i',e',w3,a2,a3,a4⟩
      cases hl:t.led with
      | true =>
        simp only [Bool.not_true,Bool.false_eq_true,if_false]
        rw [ee]
        exact tail
      | false =>
        simp only [Bool.not_false,if_true]
        refine wpAny_bind (w6 hk (fun v hv => ?_) ?_)
        · obtain ⟨e',he',rfl⟩:=List.mem_map.mp hv
          obtain ⟨ks2,b2,e2,hk2⟩:=els e' (Array.mem_of_mem_filter (Array.mem_toList_iff.mp he'))
          exact ⟨ks2,b2,by rw [e2],hk2⟩
        · simp only [Bool.false_eq_true,if_false]
          rw [ee]
          exact tail
end
open PySem PySem.SetTable PyProof.Rows
section
variable {prog:Program} {w:World} {A:Around} {E:Value->Shared->Prop} {s:Shared}
def cO (w:World) (h:Heap) (a:Addr) (es:Array (Int × Value)):Prop :=
 ∃ ep t,h.get? a=some (aM es ep t)/\Tab t (es.map (·.1))/\es.size * 5 < t.mask * 3/\t.led = !w.params.followText "set-order" /\ t.plain=true
theorem cO.at {h h':Heap} {a:Addr} {es:Array (Int × Value)} (x:cO w h a es) (e:∀ o,h.get? a=some o->h'.get? a=some o):cO w h' a es :=
 let ⟨ep,t,ho,r⟩:=x; ⟨ep,t,e _ ho,r⟩
theorem mY {m n:Nat} (hm:Msk m) (h1:n * 5 < m * 3) (h2:(n + 1) * 5 ≥ m * 3) (h3:n < 300):Msk (sizeAbove (grown (n + 1)) - 1)/\n + 1<=sizeAbove (grown (n + 1)) - 1/\(n + 1) * 5 < (sizeAbove (grown (n + 1)) - 1) * 3/\sizeAbove (grown (n + 1))<=512:=by
 have c:n=4\/n=18\/n=76:=by
  rcases hm with rfl | rfl | rfl | rfl <;> omega
 unfold Msk
 rcases c with rfl | rfl | rfl <;> decide
theorem kg:512<=sizeLine:=by rw [sizeLine_eq]; omega
theorem gp {a:Addr} {es es':Array (Int × Value)} {ep:Nat} {t t':SetTable} {Q:Unit->Shared->Prop} (ho:s.heap.get? a=some (aM es ep t)) (hz:es'.size<=512)
  (h:∀ h',Heap.SameBut a s.heap h'->h'.get? a=some (aM es' (ep + 1) t')->Q () { s with heap:=h' }):wpAny (model prog w) A (storeSet a es' t') Q E s:=by
 refine wpAny_storeSet_of (o:=aM es ep t) ho rfl ?_ (Nat.le_trans hz kg)
 refine h _ (Heap.SameBut.update s.heap a _) ?_
 have:=Heap.get?_update_self (Obj.putSet es' t') ho (by rw [putSet_of es' t' (o:=aM es ep t) rfl]; rfl)
 rw [putSet_of es' t' (o:=aM es ep t) rfl] at this
 exact this
theorem Tab.tooFull {t:SetTable} {hs:Array Int} (T:Tab t hs):t.tooFull=decide (hs.size * 5 ≥ t.mask * 3):=by
 unfold SetTable.tooFull; rw [T.fill]
theorem kh {t:SetTable} {es:Array (Int × Value)} (T:Tab t (es.map (·.1))) {n:Nat} (hn:es.size=n + 1) (h1:n * 5 < t.mask * 3) (h2:(n + 1) * 5 ≥ t.mask * 3) (h3:n < 300) :
  ∃ t' order,t.relaid (es.map (·.1)) (grown (n + 1))=some (t',order)/\order.toList.Perm (List.range es.size)/\Tab t' ((order.filterMap (es[·]?)).map (·.1))/\(order.filterMap (es[·]?)).toList.Perm es.toList/\t'.led=t.led/\t'.plain=t.plain/\(n + 1) * 5 < t'.mask * 3:=by
 obtain ⟨k1,k2,k3,k4⟩:=mY T.msk h1 h2 h3
 obtain ⟨t',order,e,pm,T',pe,l,p,m⟩:=u6 k1 t.finger (t.movedTo (sizeAbove (grown (n + 1)) - 1)) t.led t.plain es (by omega)
 exact ⟨t',order,e,pm,T',pe,l,p,by rw [m]; exact k3⟩
theorem oE {ks:List Int} {b:Addr} {Q:Bool->Shared->Prop} (hk:TK prog w s.heap ks b) (h:Q true s):wpAny (model prog w) A (hashByValue 8 (.ref b)) Q E s:=by
 have hT:=hk.typeIs
 obtain ⟨o,items,n,ho,_,hd,hi⟩:=hk
 unfold hashByValue
 refine wpAny_bind (wpAny_specialOf hT F.slot_tuple_hash.lookup ?_)
 dsimp only
 refine wpAny_bind (wpAny_seqItems ho hd ?_)
 refine wpAny_bind ?_
 show wpAny _ _ (forIn items _ _) _ _ s
 rw [<- Array.forIn_toList]
 have hall0:∀ v ∈ items.toList,∃ k t,v = .int k t:=by
  clear hd ho
  generalize items.toList=l at hi
  induction hi with
  | nil=>intro v hv; cases hv
  | cons h1 _ ih =>
   intro v hv
   rcases List.mem_cons.mp hv with rfl | hv
   ·obtain ⟨t,e⟩:=Value.isInt_shape h1; exact ⟨_,t,e⟩
   ·exact ih v hv
 refine wpAny_forIn_list _ (fun rest r s'=>r.1=none/\s'=s/\∀ v ∈ rest,∃ k t,v=Value.int k t) _ ?_ ?_ _ _ ⟨rfl,rfl,hall0⟩
 ·rintro v rest r s' ⟨hr,rfl,hall⟩
  obtain ⟨k,t,rfl⟩:=hall v List.mem_cons_self
  rw [show hashByValue 7 (.int k t)=pure true from rfl]
  refine wpAny_bind (wpAny_pure ?_)
  simp only [Bool.not_true,Bool.false_eq_true,if_false]
  exact wpAny_pure ⟨rfl,rfl,fun u hu'=>hall u (List.mem_cons_of_mem _ hu')⟩
 ·rintro ⟨r1,r2⟩ s' ⟨hr,rfl,_⟩
  simp only at hr
  subst hr
  exact wpAny_pure h
theorem u9 {a b:Addr} {es:Array (Int × Value)} {ks:List Int} {Q:Bool->Shared->Prop} (hu:A.units < cLine) (I:cO w s.heap a es) (els:∀ e ∈ es,∃ ks',ElT prog w s.heap e ks') (hk:TK prog w s.heap ks b) (hz:es.size < 300)
  (hin:(∃ e ∈ es,ElT prog w s.heap e ks)->Q false s)
  (hnew:(¬ ∃ e ∈ es,ElT prog w s.heap e ks)->∀ h' es',Heap.SameBut a s.heap h'->cO w h' a es'->es'.toList.Perm ((cg prog w ks,.ref b) :: es.toList)->Q true { s with heap:=h' }) :
  wpAny (model prog w) A (setAddHashed a (.ref b) (cg prog w ks)) Q E s:=by
 obtain ⟨ep,t,ho,T,rm,hl,hp⟩:=I
 unfold setAddHashed setAddHashedIn
 refine wpAny_holding (wpAny_bind (bG ho T ?_))
 dsimp only
 rw [show byScan (.ref b) es=false from rfl]
 simp only [Bool.false_eq_true,if_false]
 obtain ⟨n,q,hn,W,he,hq,hd⟩:=T.ends (cg prog w ks)
 have hn':n < 100000:=by
  have:t.mask<=511:=by rcases T.msk with e | e | e | e <;> omega
  unfold turns at hn
  omega
 unfold setSearch
 refine wpAny_bind (oD hu ho T els hk he 100000 n none _ rfl W hn' hn rfl (fun x => ?_) fun x => ?_)
 ·obtain ⟨k,r,i,e,_,_,ee,el⟩:=x
  exact wpAny_pure (hin ⟨e,Array.mem_of_getElem? ee,el⟩)
 ·have nx:¬ ∃ e ∈ es,ElT prog w s.heap e ks:=by
   rintro ⟨e,he',el⟩
   obtain ⟨i,hi,ei⟩:=Array.getElem_of_mem he'
   have ee:es[i]? = some e:=by rw [Array.getElem?_eq_getElem hi,ei]
   have hpl:i < t.place.size:=by rw [T.size,Array.size_map]; exact hi
   obtain ⟨bb,rfl,hbb⟩:=el
   obtain ⟨k,r,w1,er⟩:=T.reach i _ _ (Array.getElem?_eq_getElem hpl) (oB es i _ ee)
   exact x ⟨k,r,i,_,w1,by rw [er]; exact Array.getElem?_eq_getElem hpl,ee,bb,rfl,hbb⟩
  dsimp only
  refine wpAny_bind (bG ho T ?_)
  dsimp only
  rw [T.sS]
  dsimp only
  rw [hp]
  simp only [if_true]
  have hz':(es.map (·.1)).size + 1<=t.mask:=by
   rw [Array.size_map]; have:=T.fit; rw [Array.size_map] at this
   rcases T.msk with e | e | e | e <;> rw [e] at rm ⊢ <;> omega
  have T':=T.put W he hq hz'
  rw [<- d9 es (below t.place q.j) (cg prog w ks,Value.ref b) (·.1),hp] at T'
  have sz:(insertAt es (below t.place q.j) (cg prog w ks,Value.ref b)).size=es.size + 1:=cf _ _ _
  refine wpAny_bind (oE hk ?_)
  simp only [if_true]
  refine wpAny_bind (gp ho (by rw [sz]; omega) fun h1 sb1 ho1 => ?_)
  have pm1:=insertAt_perm es (below t.place q.j) (cg prog w ks,Value.ref b)
  rw [T'.tooFull,Array.size_map,sz]
  by_cases full:(es.size + 1) * 5 ≥ t.mask * 3
  ·rw [if_pos (by simpa using full)]
   unfold setRelay
   obtain ⟨t2,order,e2,pm2,T2,pe2,l2,p2,rm2⟩:=kh T' sz (n:=es.size) (by simpa using rm) full hz
   obtain ⟨_,_,_,sa⟩:=mY T.msk rm full hz
   refine wpAny_bind (wpAny_bind (bG (s:={ s with heap:=h1 }) ho1 T' ?_))
   dsimp only
   rw [if_neg (Nat.not_lt.mpr (Nat.le_trans sa kg))]
   rw [e2]
   have z2:(order.filterMap ((insertAt es (below t.place q.j) (cg prog w ks,Value.ref b))[·]?)).size=es.size + 1:=by
    rw [<- Array.length_toList,pe2.length_eq,Array.length_toList,sz]
   refine wpAny_bind ?_
   show wpAny _ _ (if ((order.filterMap ((insertAt es (below t.place q.j) (cg prog w ks,Value.ref b))[·]?)).size != (insertAt es (below t.place q.j) (cg prog w ks,Value.ref b)).size)=true then _ else _) _ _ _
   rw [if_neg (by rw [z2,sz]; simp)]
   refine wpAny_pure ?_
   dsimp only
   refine gp (s:={ s with heap:=h1 }) ho1 (by rw [z2]; omega) fun h2 sb2 ho2 => ?_
   refine wpAny_pure (hnew nx h2 _ (sb1.trans sb2) ⟨_,_,ho2,T2,by rw [z2]; exact rm2,by rw [l2]; exact hl,by rw [p2]⟩ (pe2.trans pm1))
  ·rw [if_neg (by simpa using full)]
   refine wpAny_pure (hnew nx h1 _ sb1 ⟨_,_,ho1,T',?_,hl,rfl⟩ pm1)
   rw [sz]
   exact Nat.lt_of_not_le full
end
open PySem PySem.SetTable PyProof.Rows
section
variable {prog:Program} {w:World} {A:Around} {E:Value->Shared->Prop} {s:Shared}
def ElI (e:Int × Value) (k:Int):Prop:=∃ t,e=(hashInt k,Value.int k t)
theorem qN {es:Array (Int × Value)} (els:∀ e ∈ es,∃ k,ElI e k):ElemsOf (intKind prog w) es.toList:=by
 intro e he
 obtain ⟨k,t,rfl⟩:=els e (Array.mem_toList_iff.mp he)
 exact ⟨⟨k,intKind_is _ _ _ _,rfl⟩,rfl⟩
theorem qO {t:SetTable} {es:Array (Int × Value)} (T:Tab t (es.map (·.1))) (h:Int) (x:Value) {n:Nat} {q:Probe} (hn:n < 10 * turns t.mask) (W:Way (occ t) t.mask n (start t.mask h) q) (he:¬ occ t q.j) (hq:q.j<=t.mask) (hz:es.size + 1<=t.mask) :
  layNew t es h x=(insertAt es (below t.place q.j) (h,x),{ t with place:=insertAt t.place (below t.place q.j) q.j },false,false):=by
 have hf:t.freeSlot h=some (q.j,false):=by
  unfold SetTable.freeSlot
  rcases mS T (H:=fun _=>h + 1) (h:=h) W he hn rfl with ⟨g,_⟩ | ⟨_,_,i,_,_,_,h1,_⟩
  ·rw [show t.probe (fun _=>h + 1) h (t.probeStart h)=some (.empty q.j none) from g]
   rfl
  ·have:h + 1=h:=h1
   omega
 have T':=T.put W he hq (by rw [Array.size_map]; exact hz)
 rw [<- d9 es (below t.place q.j) (h,x) (·.1)] at T'
 have ft:=T'.fits
 rw [Array.size_map] at ft
 unfold layNew
 rw [hf]
 dsimp only
 rw [T.sS]
 dsimp only
 unfold SetTable.orStandIn
 rw [if_pos ft,ft]
 rfl
theorem mZ {t:SetTable} {es:Array (Int × Value)} {n:Nat} {t':SetTable} {order:Array Nat} (e:t.relaid (es.map (·.1)) n=some (t',order)) (pm:order.toList.Perm (List.range es.size)) (T':Tab t' ((order.filterMap (es[·]?)).map (·.1))) :
  relayAll t es n=(order.filterMap (es[·]?),t',false):=by
 unfold relayAll
 rw [e]
 dsimp only
 have c:coversAll order es.size=true:=by unfold coversAll; rw [List.isPerm_iff]; exact pm
 have f:=T'.fits
 rw [Array.size_map] at f
 rw [c,f]
 rfl
theorem add_int {a:Addr} {es:Array (Int × Value)} {k:Int} {tok:Tok} {Q:Bool->Shared->Prop} (I:cO w s.heap a es) (els:∀ e ∈ es,∃ k',ElI e k') (hz:es.size < 300)
  (hin:(∃ e ∈ es,ElI e k)->Q false s)
  (hnew:(¬ ∃ e ∈ es,ElI e k)->∀ h' es',Heap.SameBut a s.heap h'->cO w h' a es'->es'.toList.Perm ((hashInt k,.int k tok) :: es.toList)->Q true { s with heap:=h' }) :
  wpAny (model prog w) A (setAddHashed a (.int k tok) (hashInt k)) Q E s:=by
 obtain ⟨ep,t,ho,T,rm,hl,hp⟩:=I
 have hel:=qN (prog:=prog) (w:=w) els
 have hb:es.size < scanBound:=by unfold scanBound; omega
 have hf:t.fits es.size=true:=by have:=T.fits; rwa [Array.size_map] at this
 unfold setAddHashed setAddHashedIn
 refine wpAny_holding (wpAny_bind (bG ho T ?_))
 dsimp only
 rw [byScan_of (knd:=intKind prog w) rfl hb hel]
 simp only [↓reduceIte]
 unfold setAddByScan
 refine wpAny_bind ?_
 refine wpAny_bind (wpAny_rule ?_)
 refine wpAny_bind (wpAny_setScan_of (knd:=intKind prog w) (k:=k) (intKind_is _ _ _ _) ho rfl hf hel ?_)
 cases hr:List.findIdx? (fun e=>(intKind prog w).is k e.2) es.toList with
 | some j =>
  dsimp only
  obtain ⟨hj,hpj,_⟩:=List.findIdx?_eq_some_iff_getElem.mp hr
  refine wpAny_pure (wpAny_pure (hin ⟨es.toList[j],Array.mem_toList_iff.mp (List.getElem_mem hj),?_⟩))
  obtain ⟨k',t',e'⟩:=els es.toList[j] (Array.mem_toList_iff.mp (List.getElem_mem hj))
  obtain ⟨u,e2⟩:=Value.isInt_shape hpj
  rw [e'] at e2
  cases e2
  exact ⟨_,e'⟩
 | none =>
  dsimp only
  have nx:¬ ∃ e ∈ es,ElI e k:=by
   rintro ⟨e,he,t',rfl⟩
   have:=List.findIdx?_eq_none_iff.mp hr _ (Array.mem_toList_iff.mpr he)
   rw [intKind_is] at this
   cases this
  have hgw:∀ (b:Bool) {s₁:Shared} {Q':Unit->Shared->Prop},Q' () s₁->wpAny (model prog w) A (match b with | true=>rule "set.scan.the-table-gave-way" | false=>pure ()) Q' E s₁ :=
   fun b s₁ Q' hq=>by cases b <;> first | exact wpAny_pure hq | exact wpAny_rule hq
  obtain ⟨n,q,hn,W,he,hq,hd⟩:=T.ends (hashInt k)
  have hz':es.size + 1<=t.mask:=by
   rcases T.msk with e | e | e | e <;> rw [e] at rm ⊢ <;> omega
  rw [qO T (hashInt k) (.int k tok) hn W he hq hz']
  dsimp only
  refine wpAny_bind (wpAny_pure (a:=()) ?_)
  have T':=T.put W he hq (by rw [Array.size_map]; exact hz')
  rw [<- d9 es (below t.place q.j) (hashInt k,Value.int k tok) (·.1),hp] at T'
  rw [hp]
  simp only [↓reduceIte]
  refine wpAny_bind ?_
  rw [show hashByValue 8 (.int k tok)=pure true from rfl]
  refine wpAny_pure ?_
  simp only [↓reduceIte]
  have sz:(insertAt es (below t.place q.j) (hashInt k,Value.int k tok)).size=es.size + 1:=cf _ _ _
  refine wpAny_bind (gp ho (by rw [sz]; omega) fun h1 sb1 ho1 => ?_)
  have pm1:=insertAt_perm es (below t.place q.j) (hashInt k,Value.int k tok)
  rw [T'.tooFull,Array.size_map,sz]
  by_cases full:(es.size + 1) * 5 ≥ t.mask * 3
  ·rw [if_pos (by simpa using full)]
   obtain ⟨t2,order,e2,pm2,T2,pe2,l2,p2,rm2⟩:=kh T' sz (n:=es.size) (by simpa using rm) full hz
   rw [mZ e2 pm2 T2]
   dsimp only
   have z2:(order.filterMap ((insertAt es (below t.place q.j) (hashInt k,Value.int k tok))[·]?)).size=es.size + 1:=by
    rw [<- Array.length_toList,pe2.length_eq,Array.length_toList,sz]
   refine wpAny_bind (wpAny_pure (a:=()) ?_)
   refine wpAny_bind (gp (s:={ s with heap:=h1 }) ho1 (by rw [z2]; omega) fun h2 sb2 ho2 => ?_)
   refine wpAny_pure (wpAny_pure (hnew nx h2 _ (sb1.trans sb2) ⟨_,_,ho2,T2,by rw [z2]; exact rm2,by rw [l2]; exact hl,by rw [p2]⟩ (pe2.trans pm1)))
  ·rw [if_neg (by simpa using full)]
   refine wpAny_pure (wpAny_pure (hnew nx h1 _ sb1 ⟨_,_,ho1,T',?_,hl,rfl⟩ pm1))
   rw [sz]
   exact Nat.lt_of_not_le full
end
open PySem PySem.SetTable PyProof.Rows PySem.Spec
def TS (h h':Heap):Prop:=∀ b o,o.cls = .type "tuple" -> h.get? b=some o->h'.get? b=some o
structure Kd (prog:Program) (w:World) (κ : Type) where
 El:Heap->Value -> κ -> Prop
 hash : κ -> Int
 room:Around->Prop
 keeps:∀ {h h':Heap} {v:Value} {k : κ},El h v k->TS h h'->El h' v k
 inj:∀ {h:Heap} {v:Value} {k k' : κ},El h v k->El h v k'->k=k'
 add:∀ {A:Around} {E:Value->Shared->Prop} {s:Shared} {a:Addr} {es:Array (Int × Value)} {v:Value} {k : κ} {Q:Bool->Shared->Prop},room A->cO w s.heap a es->(∀ e ∈ es,∃ k',e.1=hash k'/\El s.heap e.2 k')->El s.heap v k->es.size < 300 →
  ((∃ e ∈ es,El s.heap e.2 k)->∀ tk,s.toks<=tk->Q false { s with toks:=tk }) →
  ((¬ ∃ e ∈ es,El s.heap e.2 k)->∀ h' es' tk,s.toks<=tk->Heap.SameBut a s.heap h'->cO w h' a es'->es'.toList.Perm ((hash k,v) :: es.toList)->Q true { s with heap:=h',toks:=tk }) →
  wpAny (model prog w) A (setAdd a v) Q E s
theorem TK.keep {prog:Program} {w:World} {h h':Heap} {ks:List Int} {b:Addr} (x:TK prog w h ks b) (t:TS h h'):TK prog w h' ks b :=
 let ⟨o,items,n,ho,hc,r⟩:=x; ⟨o,items,n,t b o hc ho,hc,r⟩
def ie (prog:Program) (w:World):Kd prog w (List Int) where
 El:=fun h v ks=>∃ b,v = .ref b/\TK prog w h ks b
 hash:=cg prog w
 room:=fun A=>A.units < cLine
 keeps:=fun ⟨b,e,x⟩ t=>⟨b,e,x.keep t⟩
 inj:=fun ⟨b,e,x⟩ ⟨b',e',x'⟩=>by
  rw [e] at e'; injection e' with e'; subst e'; exact x.inj x'
 add:=by
  intro A E s a es v k Q hu I els hv hz hin hnew
  obtain ⟨b,rfl,hk⟩:=hv
  unfold setAdd
  refine wpAny_holding (wpAny_bind (wpAny_pyHash_tuple hu hk ?_))
  have els':∀ e ∈ es,∃ ks',ElT prog w s.heap e ks':=fun e he=>by
   obtain ⟨k',e1,b',e2,x⟩:=els e he
   exact ⟨k',b',Prod.ext e1 e2,x⟩
  have conv:∀ e ∈ es,(ElT prog w s.heap e k ↔ ∃ b,e.2 = .ref b/\TK prog w s.heap k b):=fun e he=>by
   constructor
   ·rintro ⟨b',rfl,x⟩; exact ⟨b',rfl,x⟩
   ·rintro ⟨b',e2,x⟩
    obtain ⟨k',e1,b2,e3,x2⟩:=els e he
    rw [e2] at e3; injection e3 with e3; subst e3
    obtain rfl:=x.inj x2
    exact ⟨b',Prod.ext e1 e2,x⟩
  refine u9 (s:={ s with toks:=s.toks + (k.length + 1) }) hu I els' hk hz (fun x=>hin ?_ _ (Nat.le_add_right _ _)) fun x h' es' sb I' pm=>hnew ?_ h' es' _ (Nat.le_add_right _ _) sb I' pm
  ·obtain ⟨e,he,x⟩:=x; exact ⟨e,he,(conv e he).mp x⟩
  ·rintro ⟨e,he,y⟩; exact x ⟨e,he,(conv e he).mpr y⟩
def pL (prog:Program) (w:World):Kd prog w Int where
 El:=fun _ v k=>∃ t,v = .int k t
 hash:=hashInt
 room:=fun _=>True
 keeps:=fun x _=>x
 inj:=fun ⟨t,e⟩ ⟨t',e'⟩=>by rw [e] at e'; injection e'
 add:=by
  intro A E s a es v k Q _ I els hv hz hin hnew
  obtain ⟨t,rfl⟩:=hv
  unfold setAdd
  refine wpAny_holding (wpAny_bind ((intKind prog w).pyHash (k:=k) (intKind_is _ _ _ _) ?_))
  have els':∀ e ∈ es,∃ k',ElI e k':=fun e he=>by
   obtain ⟨k',e1,t',e2⟩:=els e he
   exact ⟨k',t',Prod.ext e1 e2⟩
  have conv:∀ e ∈ es,(ElI e k ↔ ∃ t,e.2=Value.int k t):=fun e he=>by
   constructor
   ·rintro ⟨t',rfl⟩; exact ⟨t',rfl⟩
   ·rintro ⟨t',e2⟩
    obtain ⟨k',e1,t2,e3⟩:=els e he
    rw [e2] at e3; injection e3 with e3 e4; subst e3
    exact ⟨t',Prod.ext e1 e2⟩
  refine add_int (s:={ s with toks:=s.toks + 1 }) I els' hz (fun x=>hin ?_ _ (Nat.le_succ _)) fun x h' es' sb I' pm=>hnew ?_ h' es' _ (Nat.le_succ _) sb I' pm
  ·obtain ⟨e,he,x⟩:=x; exact ⟨e,he,(conv e he).mp x⟩
  ·rintro ⟨e,he,y⟩; exact x ⟨e,he,(conv e he).mpr y⟩
section
variable {prog:Program} {w:World} {κ : Type} (kd:Kd prog w κ)
structure Good (h:Heap) (es:Array (Int × Value)) (l:List κ):Prop where
 el:∀ e ∈ es,∃ k,k ∈ l/\e.1=kd.hash k/\kd.El h e.2 k
 all:∀ k ∈ l,∃ e ∈ es,kd.El h e.2 k
 dis:es.toList.Pairwise (fun e e'=>∀ k,kd.El h e.2 k->¬ kd.El h e'.2 k)
 len:es.size<=l.length
variable {kd}
theorem Good.keeps {h h':Heap} {es:Array (Int × Value)} {l:List κ} (G:Good kd h es l) (t:TS h h'):Good kd h' es l:=by
 refine ⟨fun e he => ?_,fun k hk => ?_,?_,G.len⟩
 ·obtain ⟨k,a,b,c⟩:=G.el e he; exact ⟨k,a,b,kd.keeps c t⟩
 ·obtain ⟨e,a,b⟩:=G.all k hk; exact ⟨e,a,kd.keeps b t⟩
 ·refine List.Pairwise.imp_of_mem (fun {e e'} he he' x k y z => ?_) G.dis
  obtain ⟨k1,_,_,c1⟩:=G.el e (Array.mem_toList_iff.mp he)
  obtain ⟨k2,_,_,c2⟩:=G.el e' (Array.mem_toList_iff.mp he')
  obtain rfl:=kd.inj y (kd.keeps c1 t)
  obtain rfl:=kd.inj z (kd.keeps c2 t)
  exact x _ c1 c2
theorem Good.nil (h:Heap):Good kd h #[] []:=⟨fun e he=>(by simp at he),fun k hk=>(by cases hk),(by simp),Nat.le_refl _⟩
theorem Good.same {h:Heap} {es:Array (Int × Value)} {l:List κ} (G:Good kd h es l) {k : κ} (x:∃ e ∈ es,kd.El h e.2 k):Good kd h es (l ++ [k]):=by
 refine ⟨fun e he => ?_,fun k' hk => ?_,G.dis,by rw [List.length_append]; have:=G.len; omega⟩
 ·obtain ⟨k,a,b⟩:=G.el e he; exact ⟨k,List.mem_append_left _ a,b⟩
 ·rcases List.mem_append.mp hk with hk | hk
  ·exact G.all k' hk
  ·rw [List.mem_singleton] at hk; subst hk; exact x
theorem Good.more {h:Heap} {es es':Array (Int × Value)} {l:List κ} (G:Good kd h es l) {k : κ} {v:Value} (hv:kd.El h v k) (x:¬ ∃ e ∈ es,kd.El h e.2 k) (pm:es'.toList.Perm ((kd.hash k,v) :: es.toList)):Good kd h es' (l ++ [k]):=by
 have mem:∀ e,e ∈ es' ↔ e=(kd.hash k,v)\/e ∈ es:=fun e=>by
  rw [<- Array.mem_toList_iff,pm.mem_iff,List.mem_cons,Array.mem_toList_iff]
 refine ⟨fun e he => ?_,fun k' hk => ?_,?_,?_⟩
 ·rcases (mem e).mp he with rfl | he
  ·exact ⟨k,List.mem_append_right _ (List.mem_singleton.mpr rfl),rfl,hv⟩
  ·obtain ⟨k,a,b⟩:=G.el e he; exact ⟨k,List.mem_append_left _ a,b⟩
 ·rcases List.mem_append.mp hk with hk | hk
  ·obtain ⟨e,a,b⟩:=G.all k' hk; exact ⟨e,(mem e).mpr (.inr a),b⟩
  ·rw [List.mem_singleton] at hk; subst hk; exact ⟨_,(mem _).mpr (.inl rfl),hv⟩
 ·rw [pm.pairwise_iff (fun {a b} z k y1 y2=>z k y2 y1)]
  refine List.Pairwise.cons (fun e he k' y1 y2 => ?_) G.dis
  obtain rfl:=kd.inj y1 hv
  exact x ⟨e,Array.mem_toList_iff.mp he,y2⟩
 ·have:=pm.length_eq
  rw [List.length_cons,Array.length_toList,Array.length_toList] at this
  rw [List.length_append,List.length_singleton]
  have:=G.len
  omega
end
section
variable {prog:Program} {w:World} {A:Around} {R:Result->Shared->Prop} {I:Addr} {fp:List Addr} {G:Array GenState->Array GenState->Prop} {n:Nat} {P:Nat->Value->Prop} {St:Nat->Shared->Prop} {κ : Type} {kd:Kd prog w κ}
theorem nc (W:WalksS prog w A.in1 I fp [I] G n P St) (hrm:kd.room A.in1) (hI:∀ i s,St i s->∃ o,s.heap.get? I=some o/\o.cls ≠ .type "tuple") (S:Addr) (hSf:S ∉ fp) (hIf:I ∈ fp) (ks:List κ) (hn:n=ks.length) (hb:n < 300) :
  ∀ (k i:Nat) (s:Shared) (es:Array (Int × Value)),n - i=k->i<=n->St i s->(∀ j v,P j v->∃ q,ks[j]? = some q/\kd.El s.heap v q) →
   cO w s.heap S es->Good kd s.heap es (ks.take i) →
   (∀ s' es',Moved [S,I] G s s'->cO w s'.heap S es'->Good kd s'.heap es' ks->R (.ok (.ret .none)) s') →
   codeAny (model prog w) A (.builtin "set.update.loop" ⟨[.ref S,.ref I],[]⟩) R s:=by
 have hSI:S ≠ I:=fun e=>hSf (e ▸ hIf)
 have ts:∀ i s s',St i s->Moved [I] G s s'->TS s.heap s'.heap:=fun i s s' hst hm b o hc e=>by
  refine hm.heap b o (fun hb => ?_) e
  rw [List.mem_singleton] at hb
  obtain ⟨o',e',c'⟩:=hI i s hst
  rw [hb,e'] at e; cases e; exact c' hc
 intro k
 induction k with
 | zero =>
  intro i s es hk hi hst hv hS hG hR
  have hin:i=n:=by omega
  subst hin
  refine codeAny_builtin F.entry_set_update_loop ?_
  rw [Around.under_plainId F.plain_set_update_loop _]
  show wpAny _ A.in1 (pyNext (.ref I) >>= _) _ _ s
  refine wpAny_bind (W.done s _ _ hst fun s' hm => ?_)
  show wpAny _ A.in1 (ret Value.none) _ _ s'
  rw [List.take_of_length_le (by omega)] at hG
  exact wpAny_pure (hR s' es (hm.mono fun b hb=>by rw [List.mem_singleton] at hb; simp [hb]) (hS.at fun o e=>hm.heap S o (by rw [List.mem_singleton]; exact hSI) e) (hG.keeps (ts _ _ _ hst hm)))
 | succ k ih =>
  intro i s es hk hi hst hv hS hG hR
  have hlt:i < n:=by omega
  refine codeAny_builtin F.entry_set_update_loop ?_
  rw [Around.under_plainId F.plain_set_update_loop _]
  show wpAny _ A.in1 (pyNext (.ref I) >>= _) _ _ s
  refine wpAny_bind (W.item i s _ _ hlt hst fun v s' hP hst' hm => ?_)
  have t0:=ts _ _ _ hst hm
  obtain ⟨q,eq,hq⟩:=hv i v hP
  have hS':cO w s'.heap S es:=hS.at fun o e=>hm.heap S o (by rw [List.mem_singleton]; exact hSI) e
  have hG':=hG.keeps t0
  have tk:ks.take (i + 1)=ks.take i ++ [q]:=by rw [List.take_succ,eq]; rfl
  show wpAny _ A.in1 (holding [v] (setAdd S v) >>= _) _ _ s'
  have hm2:Moved [S,I] G s s':=hm.mono fun b hb=>by rw [List.mem_singleton] at hb; simp [hb]
  refine wpAny_bind (wpAny_holding (kd.add hrm hS' (fun e he => ?_) (kd.keeps hq t0) ?_ (fun x tk' htk => ?_) fun x h' es' tk' htk sb I' pm => ?_))
  ·obtain ⟨k',_,a,b⟩:=hG'.el e he; exact ⟨k',a,b⟩
  ·have:=hG'.len; rw [List.length_take] at this; omega
  ·refine wpAny_pure ⟨plainId_quiet F.plain_set_update_loop _,ih (i + 1) _ es (by omega) hlt (W.frame _ s' _ _ hst' htk fun b _ o e=>e) (fun j v' p => ?_) hS' (by rw [tk]; exact hG'.same x) fun s'' es'' hm'' a b => ?_⟩
   ·obtain ⟨q',a,b⟩:=hv j v' p; exact ⟨q',a,kd.keeps b t0⟩
   ·exact hR s'' es'' (Moved.trans W.gtrans (hm2.then_heap htk fun b o _ e=>e) hm'') a b
  ·have t1:TS s'.heap h':=fun b o hc e=>by
    rw [sb.2 b (fun hb=>by
     obtain ⟨ep,t,ho,_⟩:=hS'
     rw [hb,ho] at e; cases e; simp [aM] at hc)]
    exact e
   refine wpAny_pure ⟨plainId_quiet F.plain_set_update_loop _,ih (i + 1) _ es' (by omega) hlt (W.frame _ s' _ _ hst' htk fun b hb o e => ?_) (fun j v' p => ?_) I' (by rw [tk]; exact (hG'.more (kd.keeps hq t0) x pm).keeps t1) fun s'' es'' hm'' a b => ?_⟩
   ·rw [sb.2 b (fun h:b=S=>hSf (h ▸ hb))]; exact e
   ·obtain ⟨q',a,b⟩:=hv j v' p; exact ⟨q',a,kd.keeps (kd.keeps b t0) t1⟩
   ·refine hR s'' es'' (Moved.trans W.gtrans (hm2.then_heap htk fun b o hb e => ?_) hm'') a b
    rw [sb.2 b (fun h:b=S=>hb (by rw [h]; exact List.mem_cons_self))]; exact e
end
section
variable {prog:Program} {w:World} {A:Around} {E:Value->Shared->Prop} {s:Shared}
theorem pM (a:Value) {Q₁:Value->Shared->Prop}
    (h:Q₁ (.ref s.heap.objs.size) { s with heap:=s.heap.push (aM #[] 0 (.fresh 0 0 (!w.params.followText "set-order"))) }) :
    codeAny (model prog w) A (.call (.builtin "set.__new__") ⟨[.type "set",a],[]⟩) (wants Q₁ E) s:=by
  refine codeAny_of_tree ?_
  show wpAny _ A.in1 (do checkBuiltinCall "set.__new__" ⟨[.type "set",a],[]⟩; again (.builtin "set.__new__" ⟨[.type "set",a],[]⟩)) _ _ s
  refine wpAny_bind (wpAny_of_eq (PySem.F.newCall_set_1 a) (wpAny_pure ⟨plainId_quiet F.plain_set_new _,codeAny_builtin F.entry_set_new ?_⟩))
  rw [Around.under_plainId F.plain_set_new _]
  unfold Builtin.«set.__new__» Builtin.Frozenset.newClass
  have hsub:=sub_set_self
  obtain ⟨hp,g,d,tk,os⟩:=s
  dsimp only
  wp_walk
  refine wpAny_askSetting (wpAny_pure ?_)
  dsimp only
  simp only [newObj]
  refine wpAny_bind (wpAny_alloc (wpAny_pure ?_))
  exact wpAny_pure h
theorem qP (led:Bool):Tab (.fresh 0 0 led) #[]:=by
 refine ⟨rfl,fun i j a b e => ?_,rfl,fun i j e => ?_,.inl rfl,Nat.zero_le _,fun i j h e => ?_⟩ <;> (simp [SetTable.fresh] at e)
theorem iO {h:Heap} {a:Addr} (ho:h.get? a=some (aM #[] 0 (.fresh 0 0 (!w.params.followText "set-order")))):cO w h a #[] :=
 ⟨0,_,ho,(by rw [Array.map_empty]; exact qP _),(by show 0 * 5 < 7 * 3; decide),rfl,rfl⟩
theorem sub_tuple_set:isSubtype (.type "tuple") (.type "set")=pure false:=by rw [isSubtype_type]; kernel_rfl
theorem sub_tuple_frozenset:isSubtype (.type "tuple") (.type "frozenset")=pure false:=by rw [isSubtype_type]; kernel_rfl
end
open PySem PySem.SetTable PyProof.Rows PySem.Spec
section
variable {prog:Program} {w:World} {A:Around} {E:Value->Shared->Prop} {s:Shared}
set_option maxHeartbeats 3200000 in
theorem eK {κ : Type} {kd:Kd prog w κ} {l:Addr} {items:Array Value} {ks:List κ} {Q:Value->Shared->Prop}
  (hh:A.handled=none) (hrm:kd.room A.in1.in1.in1) (hl:s.heap.IsTuple l items) (hz:items.size=ks.length) (hi:∀ (i:Nat) v,items[i]? = some v->∃ q,ks[i]? = some q/\kd.El s.heap v q) (hb:items.size < 300)
  (h:∀ (h':Heap) (es:Array (Int × Value)) (tk:Nat),s.toks<=tk->cO w h' s.heap.objs.size es->Good kd h' es ks →
   (∀ b o,s.heap.get? b=some o->h'.get? b=some o)->Q (.ref s.heap.objs.size) { s with heap:=h',toks:=tk }) :
  wpAny (model prog w) A (call (.type "set") [.ref l]) Q E s:=by
 obtain ⟨c,tl,hmro⟩:=F.called_set.mro
 have hmade:=F.called_set.made
 have hsub:=F.called_set.sub
 refine wpAny_call (codeAny_of_tree ?_)
 show wpAny _ _ (callAny (.type "set") _) _ _ _
 refine wpAny_pure ⟨Code.quiet_builtin _ (by decide +kernel),codeAny_builtin F.entry_type_call ?_⟩
 rw [Around.under_plain (weight_type_call_type "set" [.ref l] []) rfl]
 have h1:=F.called_set.notType
 have h2:=F.called_set.canCreate
 have hct:=PySem.F.typeCall_set_1 (.ref l)
 repeat (any_goals (first | assumption | wp_step))
 have gd:(s.heap.push (aM #[] 0 (.fresh 0 0 (!w.params.followText "set-order")))).objs.size=s.heap.objs.size + 1:=Heap.size_push _ _
 refine codeAny_mono (pM (w:=w) (.ref l) (E:=E) (Q₁:=fun obj s₁=>obj = .ref s.heap.objs.size/\s₁={ s with heap:=s.heap.push (aM #[] 0 (.fresh 0 0 (!w.params.followText "set-order"))) }) ⟨rfl,rfl⟩) fun r s₁ hr => ?_
 cases r with
 | error e=>exact hr
 | ok fl =>
  cases fl with
  | ret obj =>
   obtain ⟨rfl,rfl⟩:=hr
   generalize hled:(!w.params.followText "set-order")=led at gd ⊢
   have hS:(s.heap.push (aM #[] 0 (.fresh 0 0 led))).get? s.heap.objs.size=some (aM #[] 0 (.fresh 0 0 led)):=Heap.get?_push_size _ rfl
   have hT:Shared.TypeIs { s with heap:=s.heap.push (aM #[] 0 (.fresh 0 0 led)) } (.ref s.heap.objs.size) "set" := ⟨_,hS,rfl⟩
   have hli:=F.called_set.init.lookup
   have hbi:=F.called_set.init.bind (.ref s.heap.objs.size)
   repeat (any_goals (first | assumption | wp_step))
   refine codeAny_mono (codeAny_call_builtin (R:=wants (fun r s₂=>r = .none/\∃ h' es tk,s₂={ s with heap:=h',toks:=tk }/\s.toks<=tk ∧
     cO w h' s.heap.objs.size es/\Good kd h' es ks ∧
     (∀ b o,s.heap.get? b=some o->h'.get? b=some o)) E) F.called_set.init.plain F.entry_set_init (check_set_init_1 hT ?_)) fun r₂ s₂ hr₂ => ?_
   ·obtain ⟨ol,hol,hcl,nl,hdl⟩:=id hl
    obtain ⟨ocls,odict,odata,oslots⟩:=ol
    simp only at hcl hdl
    subst hcl; subst hdl
    have hol':(s.heap.push (aM #[] 0 (.fresh 0 0 led))).get? l=some { cls := .type "tuple",dict:=odict,data := .seq items nl,slots:=oslots }:=Heap.get?_push_of_some _ hol
    have hsls:=sub_tuple_set
    have hslf:=sub_tuple_frozenset
    have hne:(Value.type "tuple" == Value.type "dict")=false:=by decide
    have hl1:(s.heap.push (aM #[] 0 (.fresh 0 0 led))).IsTuple l items:=⟨_,hol',rfl,nl,rfl⟩
    unfold Builtin.«set.__init__» noKeywords Builtin.Frozenset.updateFrom
    generalize hPI:pyIter=PI
    wp_walk
    subst hPI
    refine wpAny_pyIter_tuple hl1 ?_
    refine wpAny_bind (wpAny_runValue ?_)
    have hlS:l < s.heap.objs.size:=Heap.lt_size hol
    have hh3:A.in1.in1.in1.handled=none:=by simp [hh]
    have hneI:l ≠ (s.heap.push (aM #[] 0 (.fresh 0 0 led))).objs.size:=by
     rw [gd]; exact Nat.ne_of_lt (Nat.lt_succ_of_lt hlS)
    have hSf:s.heap.objs.size ∉ [(s.heap.push (aM #[] 0 (.fresh 0 0 led))).objs.size,l]:=by
     rw [gd]; simp only [List.mem_cons,List.mem_singleton,List.not_mem_nil,or_false,not_or]
     exact ⟨Nat.ne_of_lt (Nat.lt_succ_self _),Nat.ne_of_gt hlS⟩
    refine nc (kd:=kd) ((Walks.tuple hh3 _ l hneI items).toS) hrm (fun i s' st => ?hI) s.heap.objs.size hSf List.mem_cons_self ks hz hb (items.size - 0) 0 _ #[] (by omega) (Nat.zero_le _)
     ⟨⟨_,Heap.get?_push_size _ rfl,rfl,rfl⟩,(hl1.push _)⟩ ?hv (by subst hled; exact iO (Heap.get?_push_of_some _ hS)) (Good.nil _) ?hR
    case hI =>
     obtain ⟨o,ho,hc,_⟩:=st.1
     exact ⟨o,ho,by rw [hc]; decide⟩
    case hv =>
     intro j v hv
     obtain ⟨q,e,x⟩:=hi j v hv
     exact ⟨q,e,kd.keeps x fun b o _ e=>Heap.get?_push_of_some _ (Heap.get?_push_of_some _ e)⟩
    case hR =>
     intro s' es' hm hS' hG'
     obtain ⟨h',g',d',tk',os'⟩:=s'
     have eg:g'=s.gens:=hm.gens
     have ed:d'=s.drawn:=hm.drawn
     have eo:os'=s.os:=hm.os
     subst eg; subst ed; subst eo
     show wpAny _ _ _ _ _ _
     refine wpAny_pure ?_
     show wpAny _ _ (ret Value.none) _ _ _
     refine wpAny_pure ⟨rfl,h',es',tk',rfl,hm.toks,hS',hG',fun b o e => ?_⟩
     have hbb:=Heap.lt_size e
     have hb1:b ≠ s.heap.objs.size:=Nat.ne_of_lt hbb
     have hb2:b ≠ (s.heap.push (aM #[] 0 (.fresh 0 0 led))).objs.size:=by
      rw [gd]; exact Nat.ne_of_lt (Nat.lt_succ_of_lt hbb)
     exact hm.heap b o (by simp only [List.mem_cons,List.mem_singleton,List.not_mem_nil,or_false,not_or]; exact ⟨hb1,hb2⟩) (Heap.get?_push_of_some _ (Heap.get?_push_of_some _ e))
   ·cases r₂ with
    | error e=>exact hr₂
    | ok fl₂ =>
     cases fl₂ with
     | ret r =>
      obtain ⟨rfl,h',es,tk,rfl,htk,hS',hG',hk'⟩:=hr₂
      repeat (any_goals (first | assumption | wp_step))
      exact h _ _ _ htk hS' hG' hk'
     | _=>exact hr₂.elim
  | _=>exact hr.elim
end
open PySem PySem.SetTable PyProof.Rows PySem.Spec
section
variable {prog:Program} {w:World} {A:Around} {E:Value->Shared->Prop} {s:Shared}
set_option maxHeartbeats 3200000 in
theorem call_set_list {κ : Type} {kd:Kd prog w κ} {l:Addr} {items:Array Value} {ks:List κ} {Q:Value->Shared->Prop}
  (hh:A.handled=none) (hrm:kd.room A.in1.in1.in1) (hl:s.heap.IsList l items) (hz:items.size=ks.length) (hi:∀ (i:Nat) v,items[i]? = some v->∃ q,ks[i]? = some q/\kd.El s.heap v q) (hb:items.size < 300)
  (h:∀ (h':Heap) (es:Array (Int × Value)) (tk:Nat),s.toks<=tk->cO w h' s.heap.objs.size es->Good kd h' es ks →
   (∀ b o,s.heap.get? b=some o->h'.get? b=some o)->Q (.ref s.heap.objs.size) { s with heap:=h',toks:=tk }) :
  wpAny (model prog w) A (call (.type "set") [.ref l]) Q E s:=by
 obtain ⟨c,tl,hmro⟩:=F.called_set.mro
 have hmade:=F.called_set.made
 have hsub:=F.called_set.sub
 refine wpAny_call (codeAny_of_tree ?_)
 show wpAny _ _ (callAny (.type "set") _) _ _ _
 refine wpAny_pure ⟨Code.quiet_builtin _ (by decide +kernel),codeAny_builtin F.entry_type_call ?_⟩
 rw [Around.under_plain (weight_type_call_type "set" [.ref l] []) rfl]
 have h1:=F.called_set.notType
 have h2:=F.called_set.canCreate
 have hct:=PySem.F.typeCall_set_1 (.ref l)
 repeat (any_goals (first | assumption | wp_step))
 have gd:(s.heap.push (aM #[] 0 (.fresh 0 0 (!w.params.followText "set-order")))).objs.size=s.heap.objs.size + 1:=Heap.size_push _ _
 refine codeAny_mono (pM (w:=w) (.ref l) (E:=E) (Q₁:=fun obj s₁=>obj = .ref s.heap.objs.size/\s₁={ s with heap:=s.heap.push (aM #[] 0 (.fresh 0 0 (!w.params.followText "set-order"))) }) ⟨rfl,rfl⟩) fun r s₁ hr => ?_
 cases r with
 | error e=>exact hr
 | ok fl =>
  cases fl with
  | ret obj =>
   obtain ⟨rfl,rfl⟩:=hr
   generalize hled:(!w.params.followText "set-order")=led at gd ⊢
   have hS:(s.heap.push (aM #[] 0 (.fresh 0 0 led))).get? s.heap.objs.size=some (aM #[] 0 (.fresh 0 0 led)):=Heap.get?_push_size _ rfl
   have hT:Shared.TypeIs { s with heap:=s.heap.push (aM #[] 0 (.fresh 0 0 led)) } (.ref s.heap.objs.size) "set" := ⟨_,hS,rfl⟩
   have hli:=F.called_set.init.lookup
   have hbi:=F.called_set.init.bind (.ref s.heap.objs.size)
   repeat (any_goals (first | assumption | wp_step))
   refine codeAny_mono (codeAny_call_builtin (R:=wants (fun r s₂=>r = .none/\∃ h' es tk,s₂={ s with heap:=h',toks:=tk }/\s.toks<=tk ∧
     cO w h' s.heap.objs.size es/\Good kd h' es ks ∧
     (∀ b o,s.heap.get? b=some o->h'.get? b=some o)) E) F.called_set.init.plain F.entry_set_init (check_set_init_1 hT ?_)) fun r₂ s₂ hr₂ => ?_
   ·obtain ⟨ol,hol,hcl,nl,hdl⟩:=id hl
    obtain ⟨ocls,odict,odata,oslots⟩:=ol
    simp only at hcl hdl
    subst hcl; subst hdl
    have hol':(s.heap.push (aM #[] 0 (.fresh 0 0 led))).get? l=some { cls := .type "list",dict:=odict,data := .seq items nl,slots:=oslots }:=Heap.get?_push_of_some _ hol
    have hsls:=PySem.F.sub_list_set
    have hslf:=PySem.F.sub_list_frozenset
    have hne:(Value.type "list" == Value.type "dict")=false:=by decide
    have hl1:(s.heap.push (aM #[] 0 (.fresh 0 0 led))).IsList l items:=⟨_,hol',rfl,nl,rfl⟩
    unfold Builtin.«set.__init__» noKeywords Builtin.Frozenset.updateFrom
    generalize hPI:pyIter=PI
    wp_walk
    subst hPI
    refine wpAny_pyIter_list hl1 ?_
    refine wpAny_bind (wpAny_runValue ?_)
    have hlS:l < s.heap.objs.size:=Heap.lt_size hol
    have hh3:A.in1.in1.in1.handled=none:=by simp [hh]
    have hneI:l ≠ (s.heap.push (aM #[] 0 (.fresh 0 0 led))).objs.size:=by
     rw [gd]; exact Nat.ne_of_lt (Nat.lt_succ_of_lt hlS)
    have hSf:s.heap.objs.size ∉ [(s.heap.push (aM #[] 0 (.fresh 0 0 led))).objs.size,l]:=by
     rw [gd]; simp only [List.mem_cons,List.mem_singleton,List.not_mem_nil,or_false,not_or]
     exact ⟨Nat.ne_of_lt (Nat.lt_succ_self _),Nat.ne_of_gt hlS⟩
    refine nc (kd:=kd) ((Walks.list hh3 _ l hneI items).toS) hrm (fun i s' st => ?hI) s.heap.objs.size hSf List.mem_cons_self ks hz hb (items.size - 0) 0 _ #[] (by omega) (Nat.zero_le _)
     ⟨⟨_,Heap.get?_push_size _ rfl,rfl,rfl⟩,(hl1.push _)⟩ ?hv (by subst hled; exact iO (Heap.get?_push_of_some _ hS)) (Good.nil _) ?hR
    case hI =>
     obtain ⟨o,ho,hc,_⟩:=st.1
     exact ⟨o,ho,by rw [hc]; decide⟩
    case hv =>
     intro j v hv
     obtain ⟨q,e,x⟩:=hi j v hv
     exact ⟨q,e,kd.keeps x fun b o _ e=>Heap.get?_push_of_some _ (Heap.get?_push_of_some _ e)⟩
    case hR =>
     intro s' es' hm hS' hG'
     obtain ⟨h',g',d',tk',os'⟩:=s'
     have eg:g'=s.gens:=hm.gens
     have ed:d'=s.drawn:=hm.drawn
     have eo:os'=s.os:=hm.os
     subst eg; subst ed; subst eo
     show wpAny _ _ _ _ _ _
     refine wpAny_pure ?_
     show wpAny _ _ (ret Value.none) _ _ _
     refine wpAny_pure ⟨rfl,h',es',tk',rfl,hm.toks,hS',hG',fun b o e => ?_⟩
     have hbb:=Heap.lt_size e
     have hb1:b ≠ s.heap.objs.size:=Nat.ne_of_lt hbb
     have hb2:b ≠ (s.heap.push (aM #[] 0 (.fresh 0 0 led))).objs.size:=by
      rw [gd]; exact Nat.ne_of_lt (Nat.lt_succ_of_lt hbb)
     exact hm.heap b o (by simp only [List.mem_cons,List.mem_singleton,List.not_mem_nil,or_false,not_or]; exact ⟨hb1,hb2⟩) (Heap.get?_push_of_some _ (Heap.get?_push_of_some _ e))
   ·cases r₂ with
    | error e=>exact hr₂
    | ok fl₂ =>
     cases fl₂ with
     | ret r =>
      obtain ⟨rfl,h',es,tk,rfl,htk,hS',hG',hk'⟩:=hr₂
      repeat (any_goals (first | assumption | wp_step))
      exact h _ _ _ htk hS' hG' hk'
     | _=>exact hr₂.elim
  | _=>exact hr.elim
end
open PySem PySem.SetTable PyProof.Rows
namespace F9
theorem eA:Slot "set_iterator" "__next__" "set_iterator.__next__" :=
 .of (owner := "set_iterator") (n := "__next__") (by rw [typeLookup_type,builtinLookup_eq_fast]; kernel_rfl) (by decide +kernel) (by decide +kernel) (by decide +kernel)
  (by first | exact .inl (by decide +kernel) | exact .inr (by decide +kernel)) (by rw [isSubtype_type]; kernel_rfl)
theorem jE:entryFor table "set_iterator.__next__" = some Builtin.«set_iterator.__next__» := entryFor_of_tree (by kernel_rfl)
theorem lI (a:Value):argsOk "set_iterator.__next__" ⟨[a],[]⟩:=by
 unfold argsOk; kernel_rfl
theorem iP:entryFor table "set.__iter__" = some Builtin.«frozenset.__iter__» :=
 entryFor_alias (id' := "frozenset.__iter__") (by kernel_rfl) rfl (by decide +kernel) (by kernel_rfl)
end F9
theorem iQ {α : Type}:∀ (l:List α) (i:Nat) (x : α),l[i]? = some x->(x :: l.eraseIdx i).Perm l
 | [],i,x,h=>by simp at h
 | y :: l,0,x,h=>by simp at h; subst h; exact List.Perm.refl _
 | y :: l,i + 1,x,h=>by
  rw [List.getElem?_cons_succ] at h
  rw [List.eraseIdx_cons_succ]
  exact (List.Perm.swap y x _).trans (List.Perm.cons y (iQ l i x h))
theorem pN {α : Type} (next:Nat->Nat):∀ (fuel k:Nat) (left:List α) (out:Array α),left.length=fuel->(pickOrder.go next fuel k left out).toList.Perm (out.toList ++ left)
 | 0,k,left,out,h=>by
  have:left=[]:=List.length_eq_zero_iff.mp h
  subst this
  unfold pickOrder.go
  rw [List.append_nil]
 | fuel + 1,k,left,out,h=>by
  unfold pickOrder.go
  have hl:next k % left.length < left.length:=Nat.mod_lt _ (by omega)
  have e:=List.getElem?_eq_getElem hl
  rw [e]
  dsimp only
  have ih:=pN next fuel (k + 1) (left.eraseIdx (next k % left.length)) (out.push left[next k % left.length]) (by rw [List.length_eraseIdx,if_pos hl]; omega)
  refine ih.trans ?_
  rw [Array.toList_push,List.append_assoc]
  exact List.Perm.append_left _ (iQ _ _ _ e)
theorem qQ {α : Type} (next:Nat->Nat) (xs:Array α):(pickOrder next xs).toList.Perm xs.toList:=by
 unfold pickOrder
 have:=pN next xs.size 0 xs.toList #[] (by simp)
 simpa using this
section
variable {prog:Program} {w:World} {A:Around} {E:Value->Shared->Prop} {s:Shared}
def walkVals (w:World) (a:Addr) (es:Array (Int × Value)) (ep:Nat):List Value :=
 if w.params.followText "set-order" = true then (pickOrder (w.params.setOrder a ep) es).toList.map (·.2) else es.toList.map (·.2)
theorem ki (w:World) (a:Addr) (es:Array (Int × Value)) (ep:Nat):(walkVals w a es ep).Perm (es.toList.map (·.2)):=by
 unfold walkVals
 split
 ·exact (qQ _ _).map _
 ·exact List.Perm.refl _
theorem gL {Q:Bool->Shared->Prop} (h:Q (w.params.followText "set-order") s):wpAny (model prog w) A setsByText Q E s:=by
 unfold setsByText
 exact wpAny_bind (wpAny_askSetting (wpAny_pure h))
theorem oF {a:Addr} {es:Array (Int × Value)} {ep:Nat} {t:SetTable} {Q:Option (Value × Nat)->Shared->Prop} (ho:s.heap.get? a=some (aM es ep t)) (T:Tab t (es.map (·.1))) (hl:t.led = !w.params.followText "set-order") (hp:t.plain=true) {slot i:Nat}
  (hs:w.params.followText "set-order" = false->below t.place slot=i)
  (hy:∀ x slot',(walkVals w a es ep)[i]? = some x->(w.params.followText "set-order" = false->below t.place slot'=i + 1)->Q (some (x,slot')) s)
  (hn:(walkVals w a es ep)[i]? = none->Q none s):wpAny (model prog w) A (setNext a slot i ep) Q E s:=by
 unfold setNext
 refine wpAny_bind (bG ho T ?_)
 dsimp only
 refine wpAny_bind (gL ?_)
 cases hb:w.params.followText "set-order" with
 | true =>
  rw [hb] at hs hy
  simp only [bne_self_eq_false,Bool.false_eq_true,if_true,if_false]
  refine wpAny_bind ?_
  unfold setWalk
  refine wpAny_bind (bG ho T ?_)
  dsimp only
  refine wpAny_bind (gL ?_)
  rw [hb]
  simp only [if_true]
  refine wpAny_bind (wpAny_askSetting (wpAny_pure ?_))
  refine wpAny_pure ?_
  have ew:(walkVals w a es ep)[i]? = ((pickOrder (w.params.setOrder a ep) es)[i]?).map (·.2):=by
   unfold walkVals
   rw [if_pos hb,List.getElem?_map,Array.getElem?_toList]
  show Q (((pickOrder (w.params.setOrder a ep) es)[i]?).map fun e=>(e.2,slot)) s
  cases hx:(pickOrder (w.params.setOrder a ep) es)[i]? with
  | none=>rw [hx] at ew; exact hn ew
  | some e=>rw [hx] at ew; exact hy _ _ ew (fun q=>by cases q)
 | false =>
  have hs':=hs hb
  simp only [Bool.false_eq_true,if_false]
  have ew:(walkVals w a es ep)[i]? = (es[i]?).map (·.2):=by
   unfold walkVals
   rw [if_neg (by rw [hb]; exact Bool.false_ne_true),List.getElem?_map,Array.getElem?_toList]
  show wpAny _ _ (if (!t.plain && decide (es.size > 1))=true then _ else _) _ _ _
  rw [hp]
  simp only [Bool.not_true,Bool.false_and,Bool.false_eq_true,if_false]
  refine wpAny_bind ?_
  show wpAny _ _ (if (!t.led && !es.isEmpty)=true then _ else _) _ _ _
  rw [hl,hb]
  simp only [Bool.not_false,Bool.not_true,Bool.false_and,Bool.false_eq_true,if_false]
  refine wpAny_pure ?_
  rw [hs']
  by_cases hi:i < es.size
  ·have ee:es[i]? = some es[i]:=Array.getElem?_eq_getElem hi
   have hpl:i < t.place.size:=by rw [T.size,Array.size_map]; exact hi
   have ep':t.place[i]? = some t.place[i]:=Array.getElem?_eq_getElem hpl
   rw [ee,ep']
   rw [ee] at ew
   exact wpAny_pure (hy _ _ ew fun _=>ox T.rise ep')
  ·have ee:es[i]? = none:=Array.getElem?_eq_none (by omega)
   rw [ee]
   rw [ee] at ew
   exact wpAny_pure (hn ew)
def gM (h:Heap) (it a:Addr) (slot i n ep:Nat):Prop:=h.get? it=some { cls := .type "set_iterator",data := .fields #[.int slot 0,.int i 0,.ref a,.int n 0,.int ep 0] }
theorem gM.typeIs {it a:Addr} {slot i n ep:Nat} (x:gM s.heap it a slot i n ep):s.TypeIs (.ref it) "set_iterator" := ⟨_,x,rfl⟩
end
open PySem PySem.SetTable PyProof.Rows
section
variable {prog:Program} {w:World} {A:Around} {E:Value->Shared->Prop} {s:Shared}
structure oG (w:World) (h:Heap) (it a:Addr) (es:Array (Int × Value)) (ep i:Nat):Prop where
 st:∃ t slot,h.get? a=some (aM es ep t)/\Tab t (es.map (·.1))/\t.led=(!w.params.followText "set-order")/\t.plain=true/\(w.params.followText "set-order" = false->below t.place slot=i)/\gM h it a slot i es.size ep
theorem pO {it a:Addr} {es:Array (Int × Value)} {ep i:Nat} {Q:Option Value->Shared->Prop} (hh:A.handled=none) (hne:it ≠ a) (O:oG w s.heap it a es ep i)
  (hy:∀ x h',(walkVals w a es ep)[i]? = some x->oG w h' it a es ep (i + 1)->Heap.SameBut it s.heap h'->Q (some x) { s with heap:=h' })
  (hn:(walkVals w a es ep)[i]? = none->∀ h',Heap.ExtBut it s.heap h'->Q none { s with heap:=h' }) :
  wpAny (model prog w) A (pyNext (.ref it)) Q E s:=by
 obtain ⟨t,slot,ho,T,hl,hp,hs,hit⟩:=O.st
 have hf:t.fits es.size=true:=by have:=T.fits; rwa [Array.size_map] at this
 unfold pyNext
 refine wpAny_bind (wpAny_attempt (wpAny_callSpecial?_slot (name:=Str.ofString "__next__") hit.typeIs F9.eA
  (wpAny_call_entry F9.eA hit.typeIs F9.jE ?_ (F9.lI _))))
 show wpAny _ _ (fieldsOf (.ref it) >>= _) _ _ s
 refine wpAny_bind (wpAny_fieldsOf hit rfl ?_)
 show wpAny _ _ (setEntries a >>= _) _ _ s
 refine wpAny_bind (wpAny_setEntries_of ho rfl hf ?_)
 rw [if_neg (by simp)]
 show wpAny _ _ (setNext a ((slot:Int).toNat) ((i:Int).toNat) ((ep:Int).toNat) >>= _) _ _ s
 rw [Int.toNat_natCast,Int.toNat_natCast,Int.toNat_natCast]
 refine wpAny_bind (oF ho T hl hp hs (fun x slot' ex hs' => ?_) fun ex => ?_)
 ·dsimp only
  refine wpAny_bind (wpAny_setField_rec hit (by simp) fun h1 e1 sb1 => ?_)
  refine wpAny_bind (wpAny_setField_rec e1 (by simp) fun h2 e2 sb2 => ?_)
  refine wpAny_pure ⟨x,rfl,wpAny_pure (hy x h2 ex ⟨t,slot',?_,T,hl,hp,hs',?_⟩ (sb1.trans sb2))⟩
  ·rw [(sb1.trans sb2).2 a (Ne.symm hne)]; exact ho
  ·unfold gM
   rw [e2]
   simp [rawInt]
 ·dsimp only
  refine wpAny_bind (wpAny_setField_rec hit (by simp) fun h1 e1 sb1 => ?_)
  show wpAny _ _ (newExc (.type "StopIteration") [] >>= _) _ _ _
  refine wpAny_bind ?_
  simp only [newExc,newTuple]
  refine wpAny_bind (wpAny_newObj_type ?_ (by size_fits))
  refine wpAny_bind (m:=firstArgMember _ _) (wpAny_of_eq (a:=Value.none) (by first | rfl | (simp only [firstArgMember]; rfl)) ?_)
  refine wpAny_newObj_type ?_ (by size_fits)
  simp only [raiseNew]
  refine wpAny_bind (wpAny_handled ?_)
  first | rw [show A.in1.handled=none from hh] | rw [hh]
  refine wpAny_bind (wpAny_pure (wpAny_throw ?_))
  refine wpAny_bind (wpAny_isInstance (T := "StopIteration") (b:=true) ⟨_,Heap.get?_push_size _ rfl,rfl⟩ isSubtype_stop ?_)
  exact wpAny_pure (hn ex _ ((sb1.extBut.push _).push _))
theorem ng {it a S:Addr} {es:Array (Int × Value)} {ep:Nat} {res:Value} {R:Result->Shared->Prop} (hh:A.in1.handled=none) (hne:it ≠ a) (hSI:S ≠ it) (hSa:S ≠ a) (hz:es.size < 300) :
  ∀ (k i:Nat) (h:Heap) (acc:Array Value) (c:Nat),es.size - i=k->i<=es.size->oG w h it a es ep i->h.get? S=some { cls := .type "list",dict:=none,data := .seq acc c,slots := #[] }->acc.toList=(walkVals w a es ep).take i →
  (∀ h' acc' c',(∀ b o,b ≠ S->b ≠ it->h.get? b=some o->h'.get? b=some o)->h'.get? S=some { cls := .type "list",dict:=none,data := .seq acc' c',slots := #[] }->acc'.toList=walkVals w a es ep->R (.ok (.ret res)) { s with heap:=h' }) →
  codeAny (model prog w) A (.builtin "list.extend.loop" ⟨[.ref S,.ref it,res],[]⟩) R { s with heap:=h }:=by
 have lw:(walkVals w a es ep).length=es.size:=by rw [(ki w a es ep).length_eq,List.length_map,Array.length_toList]
 have zl:300<=sizeLine:=by rw [sizeLine_eq]; omega
 intro k
 induction k with
 | zero =>
  intro i h acc c hk hi O hS ha hR
  have hin:i=es.size:=by omega
  subst hin
  refine codeAny_builtin F.entry_extend_loop ?_
  rw [Around.under_plainId F.plain_extend_loop _]
  show wpAny _ A.in1 (pyNext (.ref it) >>= _) _ _ { s with heap:=h }
  refine wpAny_bind (pO hh hne O (fun x h' ex => ?_) fun ex h' xb => ?_)
  ·rw [List.getElem?_eq_none (by omega)] at ex; cases ex
  ·refine wpAny_pure (hR h' acc c (fun b o _ hb e=>xb b o hb e) (xb S _ hSI hS) ?_)
   rw [ha,List.take_of_length_le (by omega)]
 | succ k ih =>
  intro i h acc c hk hi O hS ha hR
  have hlt:i < es.size:=by omega
  refine codeAny_builtin F.entry_extend_loop ?_
  rw [Around.under_plainId F.plain_extend_loop _]
  show wpAny _ A.in1 (pyNext (.ref it) >>= _) _ _ { s with heap:=h }
  refine wpAny_bind (pO hh hne O (fun x h' ex O' sb => ?_) fun ex => ?_)
  ·have hS':h'.get? S=some { cls := .type "list",dict:=none,data := .seq acc c,slots := #[] }:=by rw [sb.2 S hSI]; exact hS
   have hal:acc.size=i:=by rw [<- Array.length_toList,ha,List.length_take]; omega
   show wpAny _ A.in1 (updateSeq S (·.push x) >>= _) _ _ _
   refine wpAny_bind ?_
   refine wpAny_updateSeq (s:={ s with heap:=h' }) hS' rfl (wpAny_pure ⟨plainId_quiet F.plain_extend_loop _,ih (i + 1) _ (acc.push x) _ (by omega) hlt ?_ (Heap.get?_update_self _ hS' rfl) ?_ fun h'' acc' c' kk hS'' ha' => ?_⟩)
    (by rw [hal]; omega) (by show (acc.push x).size<=sizeLine + 1; rw [Array.size_push,hal]; omega)
   ·obtain ⟨t,slot,ho,T,hl,hp,hs,hit⟩:=O'.st
    exact ⟨t,slot,(Heap.get?_update_other _ _ hSa).trans ho,T,hl,hp,hs,(Heap.get?_update_other _ _ hSI).trans hit⟩
   ·rw [Array.toList_push,ha,List.take_succ,ex]; rfl
   ·refine hR h'' acc' c' (fun b o hb hb2 e=>kk b o hb hb2 ?_) hS'' ha'
    refine (Heap.get?_update_other _ _ (Ne.symm hb)).trans ?_
    rw [sb.2 b hb2]; exact e
  ·rw [List.getElem?_eq_getElem (by omega)] at ex; cases ex
theorem nh {a:Addr} {es:Array (Int × Value)} {R:List Value->Shared->Prop} (hh:A.handled=none) (I:cO w s.heap a es) (hz:es.size < 300)
  (h:∀ h1 vs,vs.Perm (es.toList.map (·.2))->(∀ b o,s.heap.get? b=some o->h1.get? b=some o)->s.heap.objs.size<=h1.objs.size->R vs { s with heap:=h1 }) :
  wpAny (model prog w) A (collect (.ref a)) R E s:=by
 obtain ⟨ep,t,ho,T,rm,hl,hp⟩:=I
 have hf:t.fits es.size=true:=by have:=T.fits; rwa [Array.size_map] at this
 have hlt:=Heap.lt_size ho
 unfold collect
 refine wpAny_bind (wpAny_runValue (codeAny_builtin F.entry_proto_collect ?_))
 rw [Around.under_plainId F.plain_proto_collect _]
 show wpAny _ A.in1 (newList [] >>= fun l=>again (.builtin "list.__iadd__" ⟨[l,.ref a],[]⟩)) _ _ s
 refine wpAny_bind (wpAny_newObj_type ?_)
 refine wpAny_pure ⟨plainId_quiet F.plain_list_iadd _,codeAny_builtin F.entry_list_iadd ?_⟩
 rw [Around.under_plainId F.plain_list_iadd _]
 show wpAny _ A.in1 (Builtin.List.listExtendWith (.ref s.heap.objs.size) (.ref a) (.ref s.heap.objs.size)) _ _ _
 unfold Builtin.List.listExtendWith
 have hSa:s.heap.objs.size ≠ a:=Nat.ne_of_gt hlt
 have z1:(s.heap.push { cls := .type "list",data := .seq ([]:List Value).toArray }).objs.size=s.heap.objs.size + 1:=Heap.size_push _ _
 have ho1:(s.heap.push { cls := .type "list",data := .seq ([]:List Value).toArray }).get? a=some (aM es ep t):=Heap.get?_push_of_some _ ho
 have hT1:Shared.TypeIs { s with heap:=s.heap.push { cls := .type "list",data := .seq ([]:List Value).toArray } } (.ref a) "set" := ⟨_,ho1,rfl⟩
 refine wpAny_bind (wpAny_typeOf hT1 ?_)
 have h1:Builtin.List.listSameRef (.ref s.heap.objs.size) (.ref a)=false:=by simp [Builtin.List.listSameRef,hSa]
 have h2:(Value.type "set" == Value.type "list")=false:=by decide
 have h3:(Value.type "set" == Value.type "tuple")=false:=by decide
 simp only [h1,h2,h3,Bool.or_false,Bool.false_eq_true,if_false]
 refine wpAny_bind (wpAny_pyIter_slot hT1 F.slot_set_iter (wpAny_call_entry F.slot_set_iter hT1 F9.iP ?_ (F.args_set_iter_1 _)))
 unfold Builtin.«frozenset.__iter__» Builtin.Frozenset.slot0 slotArgs
 simp only [List.isEmpty_nil,Bool.not_true,Bool.false_eq_true, ↓reduceIte,bind_assoc,List.length_nil,bne_self_eq_false]
 unfold Builtin.Frozenset.addrOf Builtin.Frozenset.sizeOf
 refine wpAny_bind (wpAny_pure ?_)
 try dsimp only
 refine wpAny_bind (wpAny_pure ?_)
 refine wpAny_bind (wpAny_bind (wpAny_setEntries_of ho1 rfl hf (wpAny_pure ?_)))
 refine wpAny_bind ?_
 unfold setDrawn
 refine wpAny_bind (bG ho1 T ?_)
 dsimp only
 refine wpAny_bind (gL ?_)
 show wpAny _ _ (pure (!w.params.followText "set-order" && (!t.plain && decide (es.size > 1)))) _ _ _
 rw [hp]
 simp only [Bool.not_true,Bool.false_and,Bool.and_false]
 refine wpAny_pure ?_
 simp only [Bool.false_eq_true,if_false]
 refine wpAny_bind (wpAny_pure ?_)
 refine wpAny_bind (wpAny_setEpoch_of ho1 rfl hf ?_)
 refine wpAny_bind (wpAny_newObj_type (wpAny_pure ⟨_,rfl, "set_iterator",_,⟨_,Heap.get?_push_size _ rfl,rfl⟩,F9.eA.lookup,?_⟩))
 have zit:(s.heap.push { cls := .type "list",data := .seq ([]:List Value).toArray }).objs.size=s.heap.objs.size + 1:=z1
 show wpAny _ A.in1 (holding [.ref (s.heap.push { cls := .type "list",data := .seq ([]:List Value).toArray }).objs.size] (Builtin.List.listLengthHint (.ref a)) >>= _) _ _ { s with heap:=(s.heap.push { cls := .type "list",data := .seq ([]:List Value).toArray }).push { cls := .type "set_iterator",data := .fields #[rawInt 0,rawInt 0,.ref a,rawInt es.size,rawInt ep] } }
 rw [zit]
 generalize hH:(s.heap.push { cls := .type "list",data := .seq ([]:List Value).toArray }).push { cls := .type "set_iterator",data := .fields #[rawInt 0,rawInt 0,.ref a,rawInt es.size,rawInt ep] }=H
 have kH:∀ b o,(s.heap.push { cls := .type "list",data := .seq ([]:List Value).toArray }).get? b=some o->H.get? b=some o:=fun b o e=>by rw [<- hH]; exact Heap.get?_push_of_some _ e
 have zH:H.objs.size=s.heap.objs.size + 2:=by rw [<- hH,Heap.size_push,z1]
 have hit:gM H (s.heap.objs.size + 1) a 0 0 es.size ep:=by
  unfold gM
  rw [<- hH, <- z1]
  exact Heap.get?_push_size _ rfl
 have hT2:Shared.TypeIs { s with heap:=H } (.ref a) "set" := ⟨_,kH _ _ ho1,rfl⟩
 refine wpAny_bind (wpAny_holding ?_)
 unfold Builtin.List.listLengthHint
 refine wpAny_bind (wpAny_specialOf hT2 F.slot_set_len.lookup ?_)
 dsimp only
 rw [show splitId "set.__len__" = some ("set", "__len__") by kernel_rfl]
 dsimp only
 refine wpAny_bind (wpAny_isInstance hT2 sub_set_self ?_)
 simp only [Bool.not_true,Bool.false_eq_true,if_false]
 show wpAny _ _ (typeOf (.ref a) >>= _) _ _ _
 refine wpAny_bind (wpAny_typeOf hT2 ?_)
 refine wpAny_pure ?_
 show wpAny _ A.in1 (rule "list.extend.makes-room" >>= fun _=>Builtin.List.listTouch (.ref s.heap.objs.size) >>= fun _ =>
  again (.builtin "list.extend.loop" ⟨[.ref s.heap.objs.size,.ref (s.heap.objs.size + 1),.ref s.heap.objs.size],[]⟩)) _ _ _
 refine wpAny_bind (wpAny_rule ?_)
 have hS₁:H.get? s.heap.objs.size=some { cls := .type "list",data := .seq ([]:List Value).toArray }:=kH _ _ (Heap.get?_push_size _ rfl)
 refine wpAny_bind ?_
 show wpAny _ A.in1 (updateSeq s.heap.objs.size (·.push .none) >>= fun _=>updateSeq s.heap.objs.size (·.pop)) _ _ _
 refine wpAny_bind (wpAny_updateSeq (s:={ s with heap:=H }) hS₁ rfl ?_)
 have hS₂:=Heap.get?_update_self (Obj.mapSeq (·.push Value.none)) hS₁ rfl
 refine wpAny_updateSeq hS₂ rfl ?_
 have hS₃:=Heap.get?_update_self (Obj.mapSeq (·.pop)) hS₂ rfl
 have oth:∀ b o,b ≠ s.heap.objs.size->H.get? b=some o->((H.update s.heap.objs.size (Obj.mapSeq (·.push Value.none))).update s.heap.objs.size (Obj.mapSeq (·.pop))).get? b=some o :=
  fun b o hb e=>(Heap.get?_update_other _ _ (Ne.symm hb)).trans ((Heap.get?_update_other _ _ (Ne.symm hb)).trans e)
 refine wpAny_pure ⟨plainId_quiet F.plain_extend_loop _,ng (it:=s.heap.objs.size + 1) (a:=a) (es:=es) (ep:=ep) (s:=s) hh (Nat.ne_of_gt (Nat.lt_succ_of_lt hlt)) (Nat.ne_of_lt (Nat.lt_succ_self _)) hSa hz es.size 0 _ _ _ rfl (Nat.zero_le _)
  ⟨t,0,oth a _ (Ne.symm hSa) (kH _ _ ho1),T,hl,hp,fun _=>oy T.rise,oth _ _ (Nat.ne_of_gt (Nat.lt_succ_self _)) hit⟩ hS₃ rfl fun h' acc' c' kk hS' ha => ?_⟩
 show wpAny _ A (load s.heap.objs.size >>= _) _ _ { s with heap:=h' }
 refine wpAny_bind (wpAny_load hS' ?_)
 have kf:∀ b o,s.heap.get? b=some o->h'.get? b=some o:=fun b o e=>by
  have:=Heap.lt_size e
  exact kk b o (Nat.ne_of_lt this) (Nat.ne_of_lt (Nat.lt_succ_of_lt this)) (oth b o (Nat.ne_of_lt this) (kH b o (Heap.get?_push_of_some _ e)))
 refine wpAny_pure ?_
 rw [ha]
 exact h h' _ (ki w a es ep) kf (Nat.le_of_lt (Heap.lt_size hS'))
end
open PySem PySem.SetTable PyProof.Rows Srt
def Kd.sub {prog:Program} {w:World} {κ : Type} (kd:Kd prog w κ) (M:Value->Prop):Kd prog w κ where
 El:=fun h v k=>kd.El h v k/\M v
 hash:=kd.hash
 room:=kd.room
 keeps:=fun x t=>⟨kd.keeps x.1 t,x.2⟩
 inj:=fun x y=>kd.inj x.1 y.1
 add:=by
  intro A E s a es v k Q hr I els hv hz hin hnew
  refine kd.add hr I (fun e he => ?_) hv.1 hz (fun x tk htk=>hin ?_ tk htk) fun x h' es' tk htk sb I' pm=>hnew ?_ h' es' tk htk sb I' pm
  ·obtain ⟨k',a1,a2,a3⟩:=els e he; exact ⟨k',a1,a2⟩
  ·obtain ⟨e,he,y⟩:=x
   obtain ⟨k',a1,a2,a3⟩:=els e he
   exact ⟨e,he,y,a3⟩
  ·rintro ⟨e,he,y,_⟩; exact x ⟨e,he,y⟩
section
variable {prog:Program} {w:World} {A:Around} {E:Value->Shared->Prop} {s:Shared} {O:KeyOrd} {key:Value->O.α}
theorem oH {a:Addr} {es:Array (Int × Value)} {Q:Value->Shared->Prop} (hh:A.handled=none) (I:cO w s.heap a es) (hz:es.size < 300) (C:∀ vs:List Value,vs.Perm (es.toList.map (·.2))->il prog w s vs O key)
  (h:∀ (h':Heap) (p:Addr) (out:List Value) (n:Nat),(∀ b o,s.heap.get? b=some o->h'.get? b=some o)->s.heap.objs.size<=p->h'.get? p=some (seqObj "list" out.toArray n)->out.Perm (es.toList.map (·.2))->out.Pairwise (fun x y=>O.kle (key x) (key y))->Q (.ref p) { s with heap:=h' }) :
  wpAny (model prog w) A (call (.builtin "sorted") [.ref a]) Q E s:=by
 refine Calls.call_function_entry kind_sorted plain_sorted entry_sorted (args_sorted1 _) ?_
 unfold Builtin.«sorted»
 refine wpAny_bind (m:=checkCount "sorted" 1 1 _) (wpAny_pure ?_)
 refine wpAny_bind (nh (by simpa using hh) I hz fun h1 vs pv k1 z1 => ?_)
 have hz':vs.length<=sizeLine:=by
  rw [pv.length_eq,List.length_map,Array.length_toList]
  have:300<=sizeLine:=by rw [sizeLine_eq]; omega
  omega
 refine wpAny_bind (wpAny_newList ?_ hz')
 have hoL:(h1.push (seqObj "list" vs.toArray 0)).get? h1.objs.size=some (seqObj "list" vs.toArray 0):=Heap.get?_push_size _ rfl
 have kL:∀ b o,s.heap.get? b=some o->(h1.push (seqObj "list" vs.toArray 0)).get? b=some o:=fun b o e=>Heap.get?_push_of_some _ (k1 b o e)
 refine wpAny_bind (wpAny_holding (wpAny_call_entry slot_list_sort ⟨_,hoL,rfl⟩ entry_list_sort (fF (key:=key) (O:=O) hoL hz' (fun h2 h6 k6 => ?_) fun out pm ps=>⟨_,rfl,?_⟩) (args_list_sort _)))
 ·exact (C vs pv).ok h2 _ h6 fun b o e=>k6 b o (Nat.ne_of_lt (Nat.lt_of_lt_of_le (Heap.lt_size e) z1)) (kL b o e)
 ·obtain ⟨n,en⟩:=sortedHeap_at (out:=out.toArray) hoL
  refine wpAny_pure ⟨_,rfl,h _ _ out n (fun b o e => ?_) z1 en (pm.trans pv) ps⟩
  have lt:=Nat.lt_of_lt_of_le (Heap.lt_size e) z1
  rw [sortedHeap_old (Nat.ne_of_lt lt) (by rw [size_push']; exact Nat.lt_succ_of_lt lt)]
  exact kL b o e
end
end STab
namespace L2
open PySem PySem.Spec PyProof.Rows
section
variable {X:Cx}
def dD (w:World) (a:Addr) (ys:List V):HO := .ext fun h=>∃ es,STab.cO w h a es/\Vals ys (es.toList.map (·.2))
theorem pP {prog:Program} {w:World} {H:Hp} {h:Heap} {a:Addr} {ys:List V} {es:Array (Int × Value)} (I:STab.cO w h a es) (r:Vals ys (es.toList.map (·.2))):bB prog w (upd H a (dD w a ys)) h a (dD w a ys):=by
 refine ⟨⟨es,I,r⟩,?_,fun h1 h2 ⟨es',I',r'⟩ k=>⟨es',I'.at k,r'⟩⟩
 obtain ⟨ep,t,ho,_⟩:=I
 exact ⟨_,ho⟩
theorem ni:∀ {ns:List Int} {xs:List Value} {prog:Program} {w:World},IntsAre xs ns->ItemsAre (intKind prog w) ns xs
 | _,_,_,_,.nil => .nil
 | _,_,_,_,.cons n t r => .cons (intKind_is _ _ _ _) (ni r)
theorem Inv.tk {pins:List (Addr × Obj)} {σ:St} {H:Hp} {s:Shared} (I:Inv X pins σ H s) {b:Addr} {ns:List Int} (h:SqT X.K H b (ns.map V.int)):STab.TK X.prog X.w s.heap ns b:=by
 obtain ⟨its,r,⟨o,e,c,n,d⟩,_⟩:=I.tuple h
 exact ⟨o,_,n,e,c,d,ni (by simpa using cA r)⟩
theorem pull {α β : Type} {f : α -> β} {ts:List α}:∀ {l:List β},(∀ v ∈ l,∃ t ∈ ts,v=f t)->∃ us:List α,l=us.map f/\∀ t ∈ us,t ∈ ts
 | [],_=>⟨[],rfl,fun t h=>by cases h⟩
 | v :: l,h=>by
  obtain ⟨t,ht,e⟩:=h v List.mem_cons_self
  obtain ⟨us,e2,m⟩:=pull (l:=l) fun v' hv=>h v' (List.mem_cons_of_mem _ hv)
  refine ⟨t :: us,by rw [List.map_cons, <- e, <- e2],fun t' ht' => ?_⟩
  rcases List.mem_cons.mp ht' with rfl | h'
  ·exact ht
  ·exact m _ h'
theorem qR (hh:X.A.handled=none) (hu:X.A.units + 64 < cLine):bJ X (.type "set") (fun xs H Q=>∃ (p:Addr) (ts:List (Addr × List Int)),xs=[.ref p]/\(SqL X.K H p (ts.map fun t => .ref t.1)\/SqT X.K H p (ts.map fun t => .ref t.1))/\(∀ t ∈ ts,SqT X.K H t.1 (t.2.map V.int))/\ts.length < 300 ∧
  ∀ (a:Addr) (us:List (Addr × List Int)),H a=none->(∀ t ∈ us,t ∈ ts)->(us.map (·.2)).Nodup->(∀ t ∈ ts,t.2 ∈ us.map (·.2))->us.length<=ts.length->Q (.ref a) (upd H a (dD X.w a (us.map fun t => .ref t.1)))):=by
 intro pins s σ H xs vs Q I r h
 obtain ⟨p,ts,rfl,hs,ht,hl,q⟩:=h
 obtain ⟨u,rfl,ru⟩:=vals1 r
 cases (show u=Value.ref p from ru)
 have goal:∀ (items:Array Value),items.toList=(ts.map fun t=>Value.ref t.1)->∀ (h':Heap) (es:Array (Int × Value)) (tk:Nat),s.toks<=tk->STab.cO X.w h' s.heap.objs.size es->STab.Good ((STab.ie X.prog X.w).sub (· ∈ items.toList)) h' es (ts.map (·.2)) →
   (∀ b o,s.heap.get? b=some o->h'.get? b=some o)->EP X pins σ Q (.ref s.heap.objs.size) { s with heap:=h',toks:=tk }:=by
  intro items ei h' es tk _ S G k
  obtain ⟨us,eu,mu⟩:=pull (f:=fun t:Addr × List Int=>Value.ref t.1) (ts:=ts) (l:=es.toList.map (·.2)) (fun v hv=>by
   obtain ⟨e,he,rfl⟩:=List.mem_map.mp hv
   obtain ⟨_,_,_,_,m⟩:=G.el e (Array.mem_toList_iff.mp he)
   rw [ei] at m
   obtain ⟨t,ht',e'⟩:=List.mem_map.mp m
   exact ⟨t,ht',e'.symm⟩)
  have tk':∀ t ∈ us,STab.TK X.prog X.w h' t.2 t.1:=fun t m=>(I.tk (ht t (mu t m))).keep fun b o _ e=>k b o e
  have elu:∀ t ∈ us,((STab.ie X.prog X.w).sub (· ∈ items.toList)).El h' (.ref t.1) t.2:=fun t m=>⟨⟨t.1,rfl,tk' t m⟩,by
   rw [ei]; exact List.mem_map.mpr ⟨t,mu t m,rfl⟩⟩
  have nd:(us.map (·.2)).Nodup:=by
   have d:=G.dis
   have d2:(es.toList.map (·.2)).Pairwise (fun v v'=>∀ k,((STab.ie X.prog X.w).sub (· ∈ items.toList)).El h' v k->¬ ((STab.ie X.prog X.w).sub (· ∈ items.toList)).El h' v' k):=by
    rw [List.pairwise_map]; exact d
   rw [eu,List.pairwise_map] at d2
   unfold List.Nodup
   rw [List.pairwise_map]
   refine d2.imp_of_mem fun {t t'} m m' x e=>x t.2 (elu t m) ?_
   have:=elu t' m'
   rw [<- e] at this
   exact this
  have cov:∀ t ∈ ts,t.2 ∈ us.map (·.2):=fun t m=>by
   obtain ⟨e,he,x,_⟩:=G.all t.2 (List.mem_map.mpr ⟨t,m,rfl⟩)
   have:e.2 ∈ us.map fun t=>Value.ref t.1:=by rw [<- eu]; exact List.mem_map.mpr ⟨e,Array.mem_toList_iff.mpr he,rfl⟩
   obtain ⟨u,hu',e'⟩:=List.mem_map.mp this
   obtain ⟨b,eb,x⟩:=x
   rw [<- e'] at eb
   injection eb with eb
   subst eb
   exact List.mem_map.mpr ⟨u,hu',(tk' u hu').inj x⟩
  have hlen:us.length<=ts.length:=by
   have:=G.len
   rw [List.length_map] at this
   have e2:=congrArg List.length eu
   rw [List.length_map,List.length_map,Array.length_toList] at e2
   omega
  refine ⟨.ref s.heap.objs.size,_,I.laid k (Nat.le_refl _) (pP (ys:=us.map fun t=>V.ref t.1) S (by rw [eu]; exact fq)),rfl,q _ us (I.hok.fresh (Nat.le_refl _)) mu nd cov hlen⟩
 have rm:((STab.ie X.prog X.w).sub (fun v=>True)).room X.A.in1.in1.in1:=by show X.A.units + 1 + 1 + 1 < cLine; omega
 have itm:∀ (its:List Value),its=(ts.map fun t=>Value.ref t.1)->∀ (i:Nat) (v:Value),its.toArray[i]? = some v->∃ q,(ts.map (·.2))[i]? = some q/\((STab.ie X.prog X.w).sub (· ∈ its.toArray.toList)).El s.heap v q:=by
  intro its ei i v hv
  rw [List.getElem?_toArray,ei,List.getElem?_map] at hv
  cases ht':ts[i]? with
  | none=>rw [ht'] at hv; cases hv
  | some t =>
   rw [ht'] at hv
   cases hv
   have m:=List.mem_of_getElem? ht'
   refine ⟨t.2,by rw [List.getElem?_map,ht']; rfl,⟨t.1,rfl,I.tk (ht t m)⟩,?_⟩
   show Value.ref t.1 ∈ its
   rw [ei]
   exact List.mem_map.mpr ⟨t,m,rfl⟩
 rcases hs with hs | hs
 ·obtain ⟨its,rv,⟨o,n,e,c,dn,d⟩,z⟩:=I.list hs
  have ei:=dP rv
  have lz:its.length=ts.length:=by rw [ei,List.length_map]
  refine STab.call_set_list (kd:=(STab.ie X.prog X.w).sub (· ∈ its.toArray.toList)) (items:=its.toArray) (ks:=ts.map (·.2)) hh rm ⟨o,e,c,n,d⟩ (by simp [lz]) (fun i v hv => ?_) (by simpa [lz] using hl) (goal its.toArray (by simpa using ei))
  exact itm its ei i v hv
 ·obtain ⟨its,rv,⟨o,e,c,n,d⟩,z⟩:=I.tuple hs
  have ei:=dP rv
  have lz:its.length=ts.length:=by rw [ei,List.length_map]
  refine STab.eK (kd:=(STab.ie X.prog X.w).sub (· ∈ its.toArray.toList)) (items:=its.toArray) (ks:=ts.map (·.2)) hh rm ⟨o,e,c,n,d⟩ (by simp [lz]) (fun i v hv => ?_) (by simpa [lz] using hl) (goal its.toArray (by simpa using ei))
  exact itm its ei i v hv
theorem qS (hh:X.A.handled=none):bJ X (.type "set") (fun xs H Q=>∃ (p:Addr) (ns:List Int),xs=[.ref p]/\(SqL X.K H p (ns.map V.int)\/SqT X.K H p (ns.map V.int))/\ns.length < 300 ∧
  ∀ (a:Addr) (us:List Int),H a=none->(∀ k,k ∈ us ↔ k ∈ ns)->us.Nodup->us.length<=ns.length->Q (.ref a) (upd H a (dD X.w a (us.map V.int)))):=by
 intro pins s σ H xs vs Q I r h
 obtain ⟨p,ns,rfl,hs,hl,q⟩:=h
 obtain ⟨u,rfl,ru⟩:=vals1 r
 cases (show u=Value.ref p from ru)
 have goal:∀ (h':Heap) (es:Array (Int × Value)) (tk:Nat),s.toks<=tk->STab.cO X.w h' s.heap.objs.size es->STab.Good (STab.pL X.prog X.w) h' es ns →
   (∀ b o,s.heap.get? b=some o->h'.get? b=some o)->EP X pins σ Q (.ref s.heap.objs.size) { s with heap:=h',toks:=tk }:=by
  intro h' es tk _ S G k
  have sh:∀ v ∈ es.toList.map (·.2),∃ k t,v=Value.int k t:=fun v hv=>by
   obtain ⟨e,he,rfl⟩:=List.mem_map.mp hv
   obtain ⟨k',_,_,t,e'⟩:=G.el e (Array.mem_toList_iff.mp he)
   exact ⟨k',t,e'⟩
  have ru:=gm (gJ sh)
  have mem:∀ k,k ∈ (es.toList.map (·.2)).map Srt.intOf ↔ k ∈ ns:=fun k=>by
   constructor
   ·intro m
    obtain ⟨v,hv,rfl⟩:=List.mem_map.mp m
    obtain ⟨e,he,rfl⟩:=List.mem_map.mp hv
    obtain ⟨k',mk,_,t,e'⟩:=G.el e (Array.mem_toList_iff.mp he)
    rw [e']; exact mk
   ·intro m
    obtain ⟨e,he,t,e'⟩:=G.all k m
    exact List.mem_map.mpr ⟨e.2,List.mem_map.mpr ⟨e,Array.mem_toList_iff.mpr he,rfl⟩,by rw [e']; rfl⟩
  have nd:((es.toList.map (·.2)).map Srt.intOf).Nodup:=by
   unfold List.Nodup
   rw [List.pairwise_map,List.pairwise_map]
   refine G.dis.imp_of_mem fun {e e'} m m' x y => ?_
   obtain ⟨k1,_,_,t1,e1⟩:=G.el e (Array.mem_toList_iff.mp m)
   obtain ⟨k2,_,_,t2,e2⟩:=G.el e' (Array.mem_toList_iff.mp m')
   rw [e1,e2] at y
   have y':k1=k2:=y
   subst y'
   exact x k1 ⟨t1,e1⟩ ⟨t2,e2⟩
  refine ⟨.ref s.heap.objs.size,_,I.laid k (Nat.le_refl _) (pP S ru),rfl,q _ _ (I.hok.fresh (Nat.le_refl _)) mem nd (by rw [List.length_map,List.length_map,Array.length_toList]; exact G.len)⟩
 have itm:∀ (its:List Value),Vals (ns.map V.int) its->∀ (i:Nat) (v:Value),its.toArray[i]? = some v->∃ q,ns[i]? = some q/\(STab.pL X.prog X.w).El s.heap v q:=by
  intro its rv i v hv
  have hI:=cA rv
  obtain ⟨t,e⟩:=IntsAre.int_at hI i v (by rw [List.getElem?_toArray] at hv; exact hv)
  have hlt:i < ns.length:=by
   have:=hI.length
   rw [List.getElem?_toArray] at hv
   have:=(List.getElem?_eq_some_iff.mp hv).1
   omega
  refine ⟨ns.getD i 0,?_,t,e⟩
  rw [List.getD_eq_getElem?_getD,List.getElem?_eq_getElem hlt]
  rfl
 rcases hs with hs | hs
 ·obtain ⟨its,rv,⟨o,n,e,c,dn,d⟩,z⟩:=I.list hs
  have lz:its.length=ns.length:=by have:=rv.length; rw [List.length_map] at this; exact this.symm
  exact STab.call_set_list (kd:=STab.pL X.prog X.w) (items:=its.toArray) (ks:=ns) hh trivial ⟨o,e,c,n,d⟩ (by simp [lz]) (itm its rv) (by simpa [lz] using hl) goal
 ·obtain ⟨its,rv,⟨o,e,c,n,d⟩,z⟩:=I.tuple hs
  have lz:its.length=ns.length:=by have:=rv.length; rw [List.length_map] at this; exact this.symm
  exact STab.eK (kd:=STab.pL X.prog X.w) (items:=its.toArray) (ks:=ns) hh trivial ⟨o,e,c,n,d⟩ (by simp [lz]) (itm its rv) (by simpa [lz] using hl) goal
theorem Inv.dD {pins:List (Addr × Obj)} {σ:St} {H:Hp} {s:Shared} (I:Inv X pins σ H s) {a:Addr} {ys:List V} (h:H a=some (dD X.w a ys)):∃ es,STab.cO X.w s.heap a es/\Vals ys (es.toList.map (·.2)):=by
 exact (I.hok a _ h).1
theorem jF (hh:X.A.handled=none):bJ X (.builtin "sorted") (fun xs H Q=>∃ (a:Addr) (ts:List (Addr × List Int)),xs=[.ref a]/\H a=some (dD X.w a (ts.map fun t => .ref t.1))/\(∀ t ∈ ts,SqT X.K H t.1 (t.2.map V.int)/\t.2 ≠ [])/\ts.length < 300 ∧
  ∀ (l:Addr) (out:List (Addr × List Int)),H l=none->out.Perm ts->out.Pairwise (fun a b=>HT.lexLt b.2 a.2=false)->Q (.ref l) (upd H l (.lst (out.map fun t => .ref t.1)))):=by
 intro pins s σ H xs us Q I r h
 obtain ⟨a,ts,rfl,hs,ht,hl,q⟩:=h
 obtain ⟨u,rfl,ru⟩:=vals1 r
 cases (show u=Value.ref a from ru)
 obtain ⟨es,S,rv⟩:=I.dD hs
 have ei:=dP rv
 have lz:es.size=ts.length:=by have:=rv.length; simp at this; omega
 have tup:∀ t ∈ ts,Srt.da s.heap (Value.ref t.1) t.2:=fun t hm=>by
  obtain ⟨jts,jr,⟨jo,je,jc,jn,jd⟩,_⟩:=I.tuple (ht t hm).1
  exact ⟨t.1,jo,_,jn,rfl,je,jc,jd,by simpa using cA jr⟩
 have hv:∀ v ∈ es.toList.map (·.2),∃ ns,Srt.da s.heap v ns/\ns ≠ []:=fun v hv=>by
  rw [ei] at hv
  obtain ⟨t,hm,rfl⟩:=List.mem_map.mp hv
  exact ⟨t.2,tup t hm,(ht t hm).2⟩
 refine STab.oH (O:=Srt.lexOrd) (key:=Srt.cG s.heap) hh S (by omega) (fun vs pv=>Srt.gk fun v hm=>hv v (pv.mem_iff.mp hm)) fun h' l out m k hl' el pm ps => ?_
 rw [ei] at pm
 obtain ⟨out',pm',rfl⟩:=iM pm
 have z:ts.length<=sizeLine:=by have:300<=sizeLine:=(by rw [sizeLine_eq]; omega); omega
 refine ⟨.ref l,_,I.newList k hl' el fq (by rw [List.length_map,pm'.length_eq]; exact z),rfl,q l _ (I.hok.fresh hl') pm' ?_⟩
 refine (List.pairwise_map.mp ps).imp_of_mem fun {a b} ha hb le => ?_
 have le':HT.lexLt (Srt.cG s.heap (Value.ref b.1)) (Srt.cG s.heap (Value.ref a.1))=false:=le
 rw [(tup a (pm'.mem_iff.mp ha)).ints,(tup b (pm'.mem_iff.mp hb)).ints] at le'
 exact le'
end
open PySem PySem.Spec PyProof.Rows
section
variable {X:Cx} {w:World}
theorem iR (hw:X.w=w) (hh:X.A.handled=none) (hu:X.A.units + 64 < cLine):bJ X (.type "set") (fun xs H Q=>∃ (p:Addr) (ts:List (Addr × List Int)),xs=[.ref p]/\(SqL X.K H p (ts.map fun t => .ref t.1)\/SqT X.K H p (ts.map fun t => .ref t.1))/\(∀ t ∈ ts,SqT X.K H t.1 (t.2.map V.int))/\ts.length < 300 ∧
  ∀ (a:Addr) (us:List (Addr × List Int)),H a=none->(∀ t ∈ us,t ∈ ts)->(us.map (·.2)).Nodup->(∀ t ∈ ts,t.2 ∈ us.map (·.2))->us.length<=ts.length->Q (.ref a) (upd H a (dD w a (us.map fun t => .ref t.1)))):=by
 subst hw
 exact qR hh hu
theorem oI (hw:X.w=w) (hh:X.A.handled=none):bJ X (.type "set") (fun xs H Q=>∃ (p:Addr) (ns:List Int),xs=[.ref p]/\(SqL X.K H p (ns.map V.int)\/SqT X.K H p (ns.map V.int))/\ns.length < 300 ∧
  ∀ (a:Addr) (us:List Int),H a=none->(∀ k,k ∈ us ↔ k ∈ ns)->us.Nodup->us.length<=ns.length->Q (.ref a) (upd H a (dD w a (us.map V.int)))):=by
 subst hw
 exact qS hh
theorem eO (hw:X.w=w) (hh:X.A.handled=none):bJ X (.builtin "sorted") (fun xs H Q=>∃ (a:Addr) (ts:List (Addr × List Int)),xs=[.ref a]/\H a=some (dD w a (ts.map fun t => .ref t.1))/\(∀ t ∈ ts,SqT X.K H t.1 (t.2.map V.int)/\t.2 ≠ [])/\ts.length < 300 ∧
  ∀ (l:Addr) (out:List (Addr × List Int)),H l=none->out.Perm ts->out.Pairwise (fun a b=>HT.lexLt b.2 a.2=false)->Q (.ref l) (upd H l (.lst (out.map fun t => .ref t.1)))):=by
 subst hw
 exact jF hh
end
open PySem PySem.Spec PyProof.Rows
section
variable {X:Cx}
def tBMT (r:V->List V->Hp->VK->Prop) (to:TE) (t:TA):TE:=fun σ H Q=>to σ H fun x H1=>(∃ p xs,x = .ref p/\H1 p=some (.tup xs))/\t σ H1 fun xs H2=>r x xs H2 Q
theorem oJ {o e:Expr} {es:List Expr} {to:TE} {t:TA} {name:Str} {apos cpos:Pos} {id:String} {r:V->List V->Hp->VK->Prop} (slot:Slot "tuple" name id) (hty:typeOf (.builtin id)=pure (.type "method_descriptor")) (hm:MtR X id r) (ho:PE X o to) (ha:PA X (e :: es) t)
  (hbase:attributeBase o name X.env (eval o X.env)=eval o X.env:=by rfl)
  (hfew:((backTo cpos (starEach (e :: es) X.env)).all (fun x => !x.1) && (backToKw cpos (keywordEach [] X.env)).all (fun x=>x.1.isSome)
   && decide ((e :: es).length + ([]:List Keyword).length + (if ([]:List Keyword).isEmpty then 0 else 1) < 30))=true:=by rfl)
  (hline:(apos.endLine == cpos.line)=true:=by rfl) (hs:starEach (e :: es) X.env=(false,eval e X.env) :: starEach es X.env:=by rfl) (hplain:(backTo cpos (starEach es X.env)).any (·.1)=false:=by rfl) :
  PE X (.Call (.Attribute o name apos) (e :: es) [] cpos) (tBMT r to t):=by
 intro pins s σ H Q I h
 refine wpAny_Call_method_late hbase hfew hline rfl (thn (ho pins s σ H _ I h) fun v s1 ⟨x,H1,I1,r1,ty,q1⟩ => ?_)
 obtain ⟨p,xs,rfl,hp⟩:=ty
 cases (show v=Value.ref p from r1)
 obtain ⟨_,its,_,ob,e1,⟨c1,d1⟩,n,s1'⟩:=(show bB X.prog X.w H1 s1.heap p (.tup xs) from I1.hok p _ hp)
 refine ⟨"tuple",id,PySem.F.plainAttrs_tuple,slot,hty,⟨ob,e1,c1⟩,fun a e=>by cases e; exact ⟨ob,e1,d1⟩,?_⟩
 have hA:=ha cpos pins s1 σ H1 _ I1 q1
 rw [hs] at hA ⊢
 refine Calls.callWith_builtin (by show (false || (backTo cpos (starEach es X.env)).any (·.1))=false; rw [hplain] <;> rfl) (Calls.evalArgs_plain ?_)
 exact thn hA fun us s2 ⟨vs,H2,I2,r2,q2⟩=>hm pins s2 σ H2 (.ref p) vs _ us Q I2 rfl r2 q2
theorem qT {A:Around} {s:Shared} {k:Int} {t:Tok} {its:List Value} {ns:List Int} (hi:IntsAre its ns):∀ y,y ∈ its.toArray->SeqAt.EqAt A s y (.int k t) (isInt k y):=fun y hy =>
 (eq_isInt k t hi y (by simpa using hy)).at _ _
theorem kj:∀ {ns:List Int} {xs:List Value} {prog:Program} {w:World},IntsAre xs ns->ItemsAre (intKind prog w) ns xs
 | _,_,_,_,.nil => .nil
 | _,_,_,_,.cons n t r => .cons (intKind_is _ _ _ _) (kj r)
theorem Inv.tkA {pins:List (Addr × Obj)} {σ:St} {H:Hp} {s:Shared} (I:Inv X pins σ H s) {b:Addr} {ns:List Int} (h:SqT X.K H b (ns.map V.int)) (prog:Program) (w:World):IsTupleKey (intKind prog w) s.heap ns b:=by
 obtain ⟨its,r,⟨o,e,c,n,d⟩,_⟩:=I.tuple h
 exact ⟨o,_,n,e,c,d,kj (by simpa using intsAre_of r)⟩
theorem Inv.eqT {pins:List (Addr × Obj)} {σ:St} {H:Hp} {s:Shared} (I:Inv X pins σ H s) {A:Around} (hu:A.units < cLine) {a b:Addr} {ns ms:List Int} (h1:SqT X.K H a (ns.map V.int)) (h2:SqT X.K H b (ms.map V.int)):SeqAt.EqAt A s (.ref a) (.ref b) (decide (ns=ms)) :=
 fun prog w E Q q=>wpAny_eqBool_tuple hu (I.tkA h1 prog w) (I.tkA h2 prog w) q
theorem iS:∀ {ps:List (Addr × List Int)} {us:List Value},Vals (ps.map fun x=>V.ref x.1) us->us=ps.map fun x=>Value.ref x.1
 | [],_,r=>by cases r; rfl
 | p :: ps,_,r=>by
  cases r with
  | cons h t=>rw [List.map_cons, <- iS t,show _=Value.ref p.1 from h]
noncomputable def lJ (ts:List (Addr × List Int)) (m:List Int):Value->Bool:=fun v=>decide (∃ t ∈ ts,v = .ref t.1/\t.2=m)
theorem ko {pins:List (Addr × Obj)} {σ:St} {H:Hp} {s:Shared} (I:Inv X pins σ H s) {ts:List (Addr × List Int)} (ht:∀ t ∈ ts,SqT X.K H t.1 (t.2.map V.int)) {m:List Int} {t:Addr × List Int} (hm:t ∈ ts):lJ ts m (.ref t.1)=decide (t.2=m):=by
 unfold lJ
 by_cases e:t.2=m
 ·rw [decide_eq_true e,decide_eq_true ⟨t,hm,rfl,e⟩]
 ·rw [decide_eq_false e,decide_eq_false]
  rintro ⟨t',m',e1,e2⟩
  injection e1 with e1
  have:=I.jL (ht t hm) (by rw [e1]; exact ht t' m')
  have inj:Function.Injective V.int:=fun a b h=>by injection h
  have:t.2=t'.2:=(List.map_inj_right (fun x y h=>inj h)).mp this
  exact e (this.trans e2)
theorem iT {pins:List (Addr × Obj)} {σ:St} {H:Hp} {s:Shared} (I:Inv X pins σ H s) {ts:List (Addr × List Int)} (ht:∀ t ∈ ts,SqT X.K H t.1 (t.2.map V.int)) {m:List Int}:∀ us:List (Addr × List Int),(∀ t ∈ us,t ∈ ts)->(us.map fun t=>Value.ref t.1).countP (lJ ts m)=(us.map (·.2)).count m
 | [],_=>rfl
 | u :: us,h=>by
  rw [List.map_cons,List.map_cons,List.countP_cons,List.count_cons,iT I ht us (fun t hm=>h t (List.mem_cons_of_mem _ hm)),ko I ht (h u List.mem_cons_self)]
  by_cases e:u.2=m
  ·rw [decide_eq_true e,e]; simp
  ·rw [decide_eq_false e]; simp [e]
theorem iU (hu:X.A.units + 8 < cLine):MtR X "tuple.count" (fun x vs H Q=>∃ (p b:Addr) (ts:List (Addr × List Int)) (m:List Int),x = .ref p/\vs=[.ref b]/\H p=some (.tup (ts.map fun t => .ref t.1))/\(∀ t ∈ ts,H t.1=some (.tup (t.2.map V.int)))/\H b=some (.tup (m.map V.int))/\Q (.int ((ts.map (·.2)).count m:Nat)) H):=by
 intro pins s σ H x vs v us Q I rx rv h
 obtain ⟨p,b,ts,m,rfl,rfl,hp,ht,hb,q⟩:=h
 cases rx
 obtain ⟨u,rfl,ru⟩:=vals1 rv
 cases (show u=Value.ref b from ru)
 have ht':∀ t ∈ ts,SqT X.K H t.1 (t.2.map V.int):=fun t hm=>SqT.of (ht t hm)
 obtain ⟨z,its,r,ob,e1,⟨c1,d1⟩,n,s1⟩:=(show bB X.prog X.w H s.heap p (.tup _) from I.hok p _ hp)
 have ei:=iS r
 obtain ⟨cls,dd,data,sl⟩:=ob
 simp only at c1 s1
 subst c1 s1
 refine call_meets PySem.F.slot_tuple_count ⟨_,e1,rfl⟩ PySem.F.entry_tuple_count (PySem.F.args_tuple_count_2 _ _) (SeqAt.tuple_countAt p its.toArray n dd sl (.ref b) (lJ ts m)) ⟨e1,fun y hy => ?_,?_⟩
 ·have hy':y ∈ its:=by simpa using hy
  rw [ei] at hy'
  obtain ⟨t,hm,rfl⟩:=List.mem_map.mp hy'
  rw [ko I ht' hm]
  exact I.eqT (by show X.A.units + 1 < cLine; omega) (ht' t hm) (SqT.of hb)
 ·rw [show its.toArray.toList=its from rfl,ei,iT I ht' ts (fun t h=>h)]
  exact ⟨.int _,H,I.tok _,⟨_,rfl⟩,q⟩
theorem eP:∀ {its:List Value} {ns:List Int},IntsAre its ns->∃ xs:List (Int × Tok),its=xs.map (fun p=>Value.int p.1 p.2)/\xs.map (·.1)=ns
 | _,_,.nil=>⟨[],rfl,rfl⟩
 | _,_,.cons n t r=>by
  obtain ⟨xs,e1,e2⟩:=eP r
  exact ⟨(n,t) :: xs,by rw [List.map_cons, <- e1],by rw [List.map_cons,e2]⟩
end
end L2
namespace HT
open PySem PySem.Spec PyProof.Rows
section
variable {prog:Program} {w:World} {A:Around} {E:Value->Shared->Prop} {s:Shared}
theorem fC {t sl:Addr} {items:Array Value} {vl vu:Value} {lo hi:Option Int} {Q:Value->Shared->Prop} (ht:IsTup s.heap t items) (hs:s.heap.IsSliceOf sl vl vu .none) (pl:IsPart vl lo) (pu:IsPart vu hi)
  (hw:sIx items.size 0 lo=0/\sIx items.size items.size hi=items.size) (h:Q (.ref t) s):wpAny (model prog w) A (getItem (.ref t) (.ref sl)) Q E s:=by
 obtain ⟨os,hos,hcs,hds⟩:=id hs
 have hTs:s.TypeIs (.ref sl) "slice" := ⟨os,hos,hcs⟩
 unfold getItem
 try with_reducible refine wpAny_holding ?_
 first | refine wpAny_bind (wpAny_pure ?_) | skip
 refine wpAny_bind (wpAny_sequenceKey ht.typeIs (by decide) ?_)
 refine wpAny_bind (wpAny_callSpecial?_slot (name:=Str.ofString "__getitem__") ht.typeIs PyProof.Rows.slot_tuple_getitem
  (wpAny_call_entry PyProof.Rows.slot_tuple_getitem ht.typeIs entry_tuple_getitem ?_ (args_tuple_getitem _ _)))
 show wpAny _ _ (Builtin.Tuple.tupleItemsOf (.ref t) >>= _) _ _ s
 refine wpAny_bind (tupleItemsOf_ ht ?_)
 refine wpAny_bind (wpAny_typeOf hTs ?_)
 rw [if_pos (by decide)]
 refine wpAny_bind (dO hs pl pu ?_)
 show wpAny _ _ (if (((sIx items.size 0 lo:Nat):Int) == 0 && (1:Int) == 1 && (sIx items.size items.size hi - sIx items.size 0 lo) == items.size)=true then _ else _) _ _ s
 rw [hw.1,hw.2,if_pos (by simp)]
 unfold Builtin.Tuple.tupleIsExact
 refine wpAny_bind (wpAny_bind (wpAny_typeOf ht.typeIs (wpAny_pure ?_)))
 rw [if_pos (by decide)]
 exact wpAny_bind (wpAny_rule (wpAny_pure ⟨_,rfl,wpAny_pure h⟩))
end
end HT
namespace L2
open PySem PySem.Spec PyProof.Rows
section
variable {X:Cx}
theorem va:SlR X (fun x lo hi H Q=>∃ a xs,x = .ref a/\SqT X.K H a xs/\((HT.sIx xs.length 0 lo=0/\HT.sIx xs.length xs.length hi=xs.length)->Q (.ref a) H) ∧
  (¬ (HT.sIx xs.length 0 lo=0/\HT.sIx xs.length xs.length hi=xs.length)->∀ p,H p=none->Q (.ref p) (upd H p (.tup (eG xs lo hi))))):=by
 intro pins s σ H x v vl vu lo hi sl Q I rx hs pl pu h
 obtain ⟨a,xs,rfl,hx,q1,q2⟩:=h
 by_cases hw:HT.sIx xs.length 0 lo=0/\HT.sIx xs.length xs.length hi=xs.length
 ·cases rx
  obtain ⟨its,r,ht,hz⟩:=I.tuple hx
  have hlen:its.toArray.size=xs.length:=by rw [List.size_toArray]; exact r.length.symm
  refine ⟨"tuple",_,PyProof.Rows.slot_tuple_getitem.lookup,ht.typeIs,?_⟩
  exact HT.fC ht hs pl pu (by rw [hlen]; exact hw) ⟨.ref a,H,I,rfl,q1 hw⟩
 ·exact wC pins s σ H _ v vl vu lo hi sl Q I rx hs pl pu ⟨a,xs,rfl,hx,hw,q2 hw⟩
end
section
variable {prog:Program} {w:World} {A:Around} {E:Value->Shared->Prop} {s:Shared}
end
section
variable {X:Cx}
end
open PySem PySem.Spec PyProof.Rows
section
variable {κ : Type} [DecidableEq κ]
def dE (kvs:List (κ × V)) (k : κ):Option V:=(kvs.find? fun kv=>decide (kv.1=k)).map (·.2)
def putK (kvs:List (κ × V)) (k : κ) (v:V):List (κ × V) :=
 if (kvs.any fun kv=>decide (kv.1=k))=true then kvs.map (fun kv=>if kv.1=k then (kv.1,v) else kv) else kvs ++ [(k,v)]
theorem gq {p : κ × V} {r:List (κ × V)} {k : κ} (e:p.1=k):dE (p :: r) k=some p.2:=by simp [dE,List.find?_cons,e]
theorem gr {p : κ × V} {r:List (κ × V)} {k : κ} (e:¬ p.1=k):dE (p :: r) k=dE r k:=by simp [dE,List.find?_cons,e]
theorem iV (k : κ):∀ kvs:List (κ × V),(kvs.any fun kv=>decide (kv.1=k))=(dE kvs k).isSome
 | []=>rfl
 | p :: r=>by
  rw [List.any_cons]
  by_cases e:p.1=k
  ·simp only [gq e,decide_eq_true e,Bool.true_or,Option.isSome_some]
  ·rw [gr e,decide_eq_false e,Bool.false_or]; exact iV k r
theorem eQ (kvs:List (κ × V)) (k : κ) (v:V):(putK kvs k v).length<=kvs.length + 1:=by
 unfold putK
 split
 ·rw [List.length_map]; omega
 ·rw [List.length_append,List.length_cons,List.length_nil]; omega
theorem sT {kvs:List (κ × V)} {k : κ} (v:V) (h:dE kvs k=none):putK kvs k v=kvs ++ [(k,v)]:=by
 unfold putK
 rw [iV,h]
 exact if_neg (by decide)
theorem gG.gN {o:Option V} {u:Option Value} (r:gG o u):o.isSome=u.isSome:=by
 cases o with
 | none=>cases u with
  | none=>rfl
  | some _=>exact (show False from r).elim
 | some _=>cases u with
  | none=>exact (show False from r).elim
  | some _=>rfl
theorem gG.getD {o:Option V} {u:Option Value} {d:V} {d':Value} (r:gG o u) (rd:RelV d d'):RelV (o.getD d) (u.getD d'):=by
 cases o with
 | none=>cases u with
  | none=>exact rd
  | some _=>exact (show False from r).elim
 | some _=>cases u with
  | none=>exact (show False from r).elim
  | some _=>exact r
theorem KV.val {kvs:List (κ × V)} {vs:List (κ × Value)} (r:KV kvs vs) (k : κ):gG (dE kvs k) (valueAt vs k):=by
 unfold KV at r
 induction r with
 | nil=>exact True.intro
 | @cons p q ps qs h t ih =>
  obtain ⟨h1,h2⟩:=h
  by_cases e:p.1=k
  ·have e':q.1=k:=h1.symm.trans e
   have b:valueAt (q :: qs) k=some q.2:=by simp [valueAt,List.find?_cons,e']
   rw [gq e,b]; exact h2
  ·have e':¬ q.1=k:=fun z=>e (h1.trans z)
   have b:valueAt (q :: qs) k=valueAt qs k:=by simp [valueAt,List.find?_cons,e']
   rw [gr e,b]; exact ih
theorem KV.any {kvs:List (κ × V)} {vs:List (κ × Value)} (r:KV kvs vs) (k : κ):(kvs.any fun kv=>decide (kv.1=k))=vs.any fun kv=>decide (kv.1=k):=by
 unfold KV at r
 induction r with
 | nil=>rfl
 | cons h t ih=>rw [List.any_cons,List.any_cons,ih,h.1]
theorem KV.w9 {kvs:List (κ × V)} {vs:List (κ × Value)} (r:KV kvs vs) (k : κ) {y:V} {u:Value} (ry:RelV y u) :
  KV (kvs.map fun kv=>if kv.1=k then (kv.1,y) else kv) (vs.map fun kv=>if kv.1=k then (kv.1,u) else kv):=by
 unfold KV at r ⊢
 induction r with
 | nil=>exact .nil
 | @cons p q ps qs h t ih =>
  rw [List.map_cons,List.map_cons]
  refine .cons ?_ ih
  obtain ⟨h1,h2⟩:=h
  by_cases e:p.1=k
  ·rw [if_pos e,if_pos (h1.symm.trans e)]; exact ⟨h1,ry⟩
  ·rw [if_neg e,if_neg (fun z=>e (h1.trans z))]; exact ⟨h1,h2⟩
theorem KV.put {kvs:List (κ × V)} {vs:List (κ × Value)} (r:KV kvs vs) (k : κ) {y:V} {u:Value} (ry:RelV y u):KV (putK kvs k y) (stored vs k u):=by
 unfold putK stored
 rw [r.any k]
 by_cases e:(vs.any fun kv=>decide (kv.1=k))=true
 ·rw [if_pos e,if_pos e]; exact r.w9 k ry
 ·rw [if_neg e,if_neg e]; exact Paired.snoc r ⟨rfl,ry⟩
theorem KV.length {kvs:List (κ × V)} {vs:List (κ × Value)} (r:KV kvs vs):kvs.length=vs.length:=Paired.length r
end
theorem kq {P:Program} {w:World} {k:Key} {u:Value} (r:RelV (kV k) u):(bD P w).is k u=true:=by
 cases k with
 | inl i=>obtain ⟨t,e⟩:=(show ∃ t,u=Value.int i t from r); subst e; exact mf P w i t
 | inr x=>obtain ⟨t,e⟩:=(show ∃ t,u=Value.str x t from r); subst e; exact mh P w x t
theorem kr {P:Program} {w:World}:∀ {ks:List Key} {us:List Value},Vals (ks.map kV) us->ItemsAre (bD P w) ks us
 | [],_,r=>by rw [List.map_nil] at r; cases r; exact .nil
 | k :: ks,_,r=>by
  rw [List.map_cons] at r
  cases r with
  | cons h t=>exact .cons (kq h) (kr t)
abbrev KT (H:Hp):List (List Key × V)->List (List Key × Addr × Value)->Prop:=Paired fun p q=>p.1=q.1/\H q.2.1=some (.tup (p.1.map kV))/\RelV p.2 q.2.2
theorem KT.val {H:Hp} {kvs:List (List Key × V)} {xs:List (List Key × Addr × Value)} (r:KT H kvs xs) (k:List Key):gG (dE kvs k) ((atKey xs k).map (·.2)):=by
 induction r with
 | nil=>exact True.intro
 | @cons p q ps qs h t ih =>
  obtain ⟨h1,_,h2⟩:=h
  by_cases e:p.1=k
  ·have e':q.1=k:=h1.symm.trans e
   have b:atKey (q :: qs) k=some q.2:=by simp [atKey,List.find?_cons,e']
   rw [gq e,b]; exact h2
  ·have e':¬ q.1=k:=fun z=>e (h1.trans z)
   have b:atKey (q :: qs) k=atKey qs k:=by simp [atKey,List.find?_cons,e']
   rw [gr e,b]; exact ih
theorem KT.w9 {H:Hp} {kvs:List (List Key × V)} {xs:List (List Key × Addr × Value)} (r:KT H kvs xs) (k:List Key) {y:V} {u:Value} (ry:RelV y u) :
  KT H (kvs.map fun kv=>if kv.1=k then (kv.1,y) else kv) (xs.map (putAt k u)):=by
 induction r with
 | nil=>exact .nil
 | @cons p q ps qs h t ih =>
  rw [List.map_cons,List.map_cons]
  refine .cons ?_ ih
  obtain ⟨h1,h2,h3⟩:=h
  unfold putAt
  by_cases e:p.1=k
  ·rw [if_pos e,if_pos (h1.symm.trans e)]; exact ⟨h1,h2,ry⟩
  ·rw [if_neg e,if_neg (fun z=>e (h1.trans z))]; exact ⟨h1,h2,h3⟩
theorem KT.put {H:Hp} {kvs:List (List Key × V)} {xs:List (List Key × Addr × Value)} (r:KT H kvs xs) (k:List Key) {b:Addr} {y:V} {u:Value} (hb:H b=some (.tup (k.map kV))) (ry:RelV y u) :
  KT H (putK kvs k y) (storedH xs k b u):=by
 have e:(kvs.any fun kv=>decide (kv.1=k))=(atKey xs k).isSome:=by
  rw [iV,(r.val k).gN,Option.isSome_map]
 unfold putK storedH
 rw [e]
 by_cases q:(atKey xs k).isSome=true
 ·rw [if_pos q,if_pos q]; exact r.w9 k ry
 ·rw [if_neg q,if_neg q]; exact Paired.snoc r ⟨rfl,hb,ry⟩
theorem KT.keeps {H H':Hp} {kvs:List (List Key × V)} {xs:List (List Key × Addr × Value)} (r:KT H kvs xs) (ht:∀ b ys,H b=some (.tup ys)->H' b=some (.tup ys)):KT H' kvs xs :=
 Paired.v7 r fun _ _ z=>⟨z.1,ht _ _ z.2.1,z.2.2⟩
section
variable {P:Program} {w:World} {H:Hp} {h:Heap} {a:Addr}
theorem vO {u:HO} (ok:HOk P w H h) (e:Rd H a u):bB P w H h a u:=e.ok ok
theorem ku {kvs:List (Key × V)} (ok:HOk P w H h) (e:Rd H a (.dK kvs)):kvs.length<=sizeLine/\(a == sysModules)=false/\∃ vs,KV kvs vs/\h.DictOf (bD P w) a vs :=
 show bB P w H h a (.dK kvs) from vO ok e
theorem vP {kvs:List (Key × V)} (ok:HOk P w H h) (e:H a=some (.dK kvs)):kvs.length<=sizeLine/\(a == sysModules)=false/\∃ vs,KV kvs vs/\h.DictOf (bD P w) a vs:=ku ok (.inl e)
theorem iW {ks:List Key} (ok:HOk P w H h) (e:H a=some (.tup (ks.map kV))):(tupleKind (bD P w)).is h ks a:=by
 obtain ⟨_,its,r,o,h1,h2,n,h3⟩:=(show bB P w H h a (.tup (ks.map kV)) from ok a _ e)
 exact ⟨o,its.toArray,n,h1,h2.1,h3,by simpa using kr r⟩
theorem kz {kvs:List (List Key × V)} (ok:HOk P w H h) (e:Rd H a (.dT kvs)):kvs.length<=sizeLine/\(a == sysModules)=false ∧
  ∃ xs,KT H kvs xs/\h.DictOfH (tupleKind (bD P w)) a xs:=by
 obtain ⟨z,y,xs,r,o,es,ep,h1,h2,h3,h4,h5⟩:=(show bB P w H h a (.dT kvs) from vO ok e)
 refine ⟨z,y,xs,r,o,es,ep,h1,h2,h3,h4,fun x hx => ?_,h5⟩
 have all:∀ {l:List (List Key × V)} {m:List (List Key × Addr × Value)},KT H l m->∀ x ∈ m,(tupleKind (bD P w)).is h x.1 x.2.1:=by
  intro l m q
  induction q with
  | nil=>intro x hx; exact nomatch hx
  | @cons p q ps qs hq t ih =>
   intro x hx
   rcases List.mem_cons.mp hx with e | hx
   ·subst e
    exact iW ok (by rw [<- hq.1]; exact hq.2.1)
   ·exact ih x hx
 exact all r x hx
theorem yf {kvs:List (List Key × V)} (ok:HOk P w H h) (e:H a=some (.dT kvs)):kvs.length<=sizeLine/\(a == sysModules)=false ∧
  ∃ xs,KT H kvs xs/\h.DictOfH (tupleKind (bD P w)) a xs:=kz ok (.inl e)
end
def eR (H:Hp) (a:Addr) (y:V) (r:Option V):Prop :=
 (∃ kvs k,Rd H a (.dK kvs)/\y=kV k/\r=dE kvs k)\/∃ kvs k b,Rd H a (.dT kvs)/\y = .ref b/\H b=some (.tup (k.map kV))/\r=dE kvs k
def lK (H:Hp) (a:Addr) (y v:V) (H':Hp):Prop :=
 (∃ kvs k,H a=some (.dK kvs)/\y=kV k/\kvs.length < sizeLine/\H'=upd H a (.dK (putK kvs k v))) ∨
 ∃ kvs k b,H a=some (.dT kvs)/\y = .ref b/\H b=some (.tup (k.map kV))/\kvs.length < sizeLine/\H'=upd H a (.dT (putK kvs k v))
theorem eR.k {H:Hp} {a:Addr} {kvs:List (Key × V)} {k:Key} (e:H a=some (.dK kvs)):eR H a (kV k) (dE kvs k) := .inl ⟨kvs,k,.inl e,rfl,rfl⟩
theorem lK.k {H:Hp} {a:Addr} {kvs:List (Key × V)} {k:Key} {v:V} (e:H a=some (.dK kvs)) (hl:kvs.length < sizeLine):lK H a (kV k) v (upd H a (.dK (putK kvs k v))) := .inl ⟨kvs,k,e,rfl,hl,rfl⟩
section
variable {X:Cx} {pins:List (Addr × Obj)} {σ:St} {H:Hp} {s:Shared} {a:Addr} {y v:V} {u r:Value} {o:Option V} {A:Around} {E:Value->Shared->Prop}
theorem Inv.big (I:Inv X pins σ H s):sysModules < s.heap.objs.size:=by
 have h:mainGlobals < s.heap.objs.size:=(I.mod.glob.keeps I.bk).lt
 exact Nat.lt_trans (by decide) h
theorem qU {Q:Value->Shared->Prop} (hu:A.units + 1 < cLine) (I:Inv X pins σ H s) (g:eR H a y (some v)) (ry:RelV y u) (h:∀ w' s',Inv X pins σ H s'->RelV v w'->Q w' s') :
  wpAny (model X.prog X.w) A (getItem (.ref a) u) Q E s:=by
 rcases g with ⟨kvs,k,e,ey,l⟩ | ⟨kvs,k,b,e,ey,eb,l⟩
 ·subst ey
  obtain ⟨z,hd,vs,rel,dd⟩:=ku I.hok e
  obtain ⟨w',hw,rw'⟩:=gG.some_of (v:=v) (o:=valueAt vs k) (by rw [l]; exact rel.val k)
  exact wpAny_getItem_of (kq ry) dd.mapOf hw (h w' _ (I.tok _) rw')
 ·subst ey
  cases (show u=Value.ref b from ry)
  obtain ⟨z,hd,xs,rel,dd⟩:=kz I.hok e
  obtain ⟨w',hw,rw'⟩:=gG.some_of (v:=v) (o:=(atKey xs k).map (·.2)) (by rw [l]; exact rel.val k)
  obtain ⟨p,hp,hp2⟩:=Option.map_eq_some_iff.mp hw
  refine wpAny_getItem_heap (tupleKind_room_in1 hu) (iW I.hok eb) dd hp ?_
  rw [hp2]
  exact h w' _ (I.tok _) rw'
theorem vb {Q:Value->Shared->Prop} (hu:A.units + 1 < cLine) (I:Inv X pins σ H s) (g:eR H a y o) (ry:RelV y u) (h:∀ s',Inv X pins σ H s'->Q (.bool (!o.isSome)) s') :
  wpAny (model X.prog X.w) A (compareOp .NotIn u (.ref a)) Q E s:=by
 rcases g with ⟨kvs,k,e,ey,l⟩ | ⟨kvs,k,b,e,ey,eb,l⟩
 ·subst ey
  obtain ⟨z,hd,vs,rel,dd⟩:=ku I.hok e
  refine wpAny_notIn_of (kq ry) hd dd.mapOf ?_
  rw [<- (rel.val k).gN, <- l]
  exact h _ (I.tok _)
 ·subst ey
  cases (show u=Value.ref b from ry)
  obtain ⟨z,hd,xs,rel,dd⟩:=kz I.hok e
  refine wpAny_notIn_heap (tupleKind_room_in1 hu) (iW I.hok eb) hd dd ?_
  have q:=(rel.val k).gN
  rw [Option.isSome_map] at q
  rw [<- q, <- l]
  exact h _ (I.tok _)
theorem lM {h':Heap} {t':Nat} {ob:HO} (I:Inv X pins σ H s) (mu:Mut (H a)) (hs:Heap.SameBut a s.heap h') (he:∃ q,h'.get? a=some q) (new:bB X.prog X.w (upd H a ob) h' a ob) :
  Inv X pins σ (upd H a ob) { s with heap:=h',toks:=t' } :=
 I.write (x:=a) (e:=a) mu (.inl rfl) (fun b q hb z=>(hs.2 b hb).trans z) he new
theorem sU {P:Program} {w:World} {H':Hp} {h':Heap} {kvs:List (Key × V)} {vs:List (Key × Value)} (z:kvs.length<=sizeLine) (hd:(a == sysModules)=false) (rel:KV kvs vs) (dd:h'.DictOf (bD P w) a vs) :
  bB P w H' h' a (.dK kvs):=⟨z,hd,vs,rel,dd⟩
theorem qV {H':Hp} {Q:Unit->Shared->Prop} (hu:A.units + 1 < cLine) (I:Inv X pins σ H s) (g:lK H a y v H') (ry:RelV y u) (rv:RelV v r) (h:∀ s',Inv X pins σ H' s'->Q () s') :
  wpAny (model X.prog X.w) A (setItem (.ref a) u r) Q E s:=by
 rcases g with ⟨kvs,k,e,ey,l,eH⟩ | ⟨kvs,k,b,e,ey,eb,l,eH⟩
 ·subst ey eH
  obtain ⟨z,hd,vs,rel,dd⟩:=vP I.hok e
  have hz:vs.length<=sizeLine:=by rw [<- rel.length]; exact z
  have hl:(putK kvs k v).length<=sizeLine:=by have:=eQ kvs k v; omega
  refine wpAny_setItem_pairs (hsz:=hz) (kq ry) dd fun h' dd' hs=>h _ ?_
  have he:∃ q,h'.get? a=some q:=let ⟨q,_,_,hq,_⟩:=dd'; ⟨q,hq⟩
  exact lM I (by rw [e]; exact True.intro) hs he (sU hl hd (rel.put k rv) dd')
 ·subst ey eH
  cases (show u=Value.ref b from ry)
  obtain ⟨z,hd,xs,rel,dd⟩:=yf I.hok e
  have hz:xs.length<=sizeLine:=by rw [<- Paired.length rel]; exact z
  have hl:(putK kvs k v).length<=sizeLine:=by have:=eQ kvs k v; omega
  refine wpAny_setItem_heap (hsz:=hz) (tupleKind_room_in1 hu) (iW I.hok eb) dd fun h' dd' hs=>h _ ?_
  obtain ⟨q,es,ep,hq,h2,h3,h4,_,h5⟩:=dd'
  refine lM I (by rw [e]; exact True.intro) hs ⟨q,hq⟩ ⟨hl,hd,_,(rel.put k eb rv).keeps fun c ys ec => ?_,q,es,ep,hq,h2,h3,h4,h5⟩
  rw [aD (fT ec e (fun z=>nomatch z))]
  exact ec
end
section
variable {X:Cx} {pins:List (Addr × Obj)} {σ:St} {H:Hp} {s:Shared} {a:Addr} {kvs:List (Key × V)} {k:Key} {u:Value} {A:Around} {E:Value->Shared->Prop}
end
def yg (i:Expr):Prop:=∀ ov iv,subscripted i false ov iv=operate [ov,iv] (getItem ov iv)
theorem vc {prog:Program} {w:World} {A:Around} {E:Value->Shared->Prop} {s:Shared} {env:Env} {value slice:Expr} {pos:Pos} {T id:String} {Q:Value->Shared->Prop}
  (hl:typeLookup (.type T) "__getitem__" = pure (some (.builtin id))) (hs:yg slice)
  (h:wpAny (model prog w) A (eval value env) (fun o s₁=>wpAny (model prog w) A (eval slice env) (fun i s₂=>s₂.TypeIs o T/\wpAny (model prog w) A (getItem o i) Q E s₂) E s₁) E s) :
  wpAny (model prog w) A (eval (.Subscript value slice pos) env) Q E s:=by
 refine Subscript_ (wpAny_mono h (fun o s₁ h₁=>wpAny_mono h₁ (fun i s₂ h₂ => ?_) fun _ _ x=>x) fun _ _ x=>x)
 obtain ⟨hT,h₂⟩:=h₂
 unfold subscriptTail
 refine wpAny_bind ?_
 rw [getitemInPython_of_ne hT.not_modules]
 refine wpAny_bind (wpAny_specialOf hT hl ?_)
 have fin:wpAny (model prog w) A (subscripted slice false o i) (fun r s₃=>wpAny (model prog w) A (letTemporaryGo value o r >>= fun _=>pure r) Q E s₃) E s₂:=by
  rw [hs o i]
  exact wpAny_operating (wpAny_mono h₂ (fun r s₃ h₃=>wpAny_bind (wpAny_letTemporaryGo (wpAny_pure h₃))) fun _ _ x=>x)
 first
  | exact wpAny_pure (wpAny_bind fin)
  | exact wpAny_bind (wpAny_pure (wpAny_bind fin))
  | exact wpAny_bind fin
theorem nj {X:Cx} {pins:List (Addr × Obj)} {σ:St} {H:Hp} {s:Shared} {a:Addr} {y:V} {o:Option V} (I:Inv X pins σ H s) (g:eR H a y o):s.TypeIs (.ref a) "dict" := by
 rcases g with ⟨kvs,k,e,_,_⟩ | ⟨kvs,k,b,e,_,_,_⟩
 ·obtain ⟨_,_,vs,_,dd⟩:=ku I.hok e
  exact dd.typeIs
 ·obtain ⟨_,_,xs,_,dd⟩:=kz I.hok e
  exact dd.typeIs
def yh (td ty:TE):TE:=fun σ H Q=>td σ H fun x H1=>ty σ H1 fun y H2=>∃ a v,x = .ref a/\eR H2 a y (some v)/\Q v H2
def vd (ty td:TE):TE:=fun σ H Q=>ty σ H fun y H1=>td σ H1 fun x H2=>∃ a o,x = .ref a/\eR H2 a y o/\Q (.bl (!o.isSome)) H2
def yi (td ty tv:TE):TS:=fun D σ H=>tv σ H fun v H1=>td σ H1 fun x H2=>ty σ H2 fun y H3=>∃ a H4,x = .ref a/\lK H3 a y v H4/\D.nx σ H4
section
variable {X:Cx} {o i e value:Expr} {pos pos' tpos:Pos} {td ty tv:TE}
theorem pQ (hu:X.A.units + 1 < cLine) (ho:PE X o td) (hi:PE X i ty) (hs:yg i):PE X (.Subscript o i pos) (yh td ty):=by
 intro pins s σ H Q I h
 refine vc PySem.F.slot_dict_getitem.lookup hs (thn (ho pins s σ H _ I h) fun u s1 ⟨x,H1,I1,rx,q1⟩=>thn (hi pins s1 σ H1 _ I1 q1) fun iv s2 ⟨y,H2,I2,ry,a,v,ex,g,q2⟩ => ?_)
 subst ex
 obtain rfl:u=Value.ref a:=rx
 exact ⟨nj I2 g,qU hu I2 g ry fun w' s3 I3 rw'=>⟨v,H2,I3,rw',q2⟩⟩
theorem fw (hu:X.A.units + 1 < cLine) (hi:PE X i ty) (ho:PE X o td):PC X .NotIn i o (vd ty td):=by
 intro pins s σ H Q I h
 refine thn (hi pins s σ H _ I h) fun iv s1 ⟨y,H1,I1,ry,q1⟩=>thn (ho pins s1 σ H1 _ I1 q1) fun u s2 ⟨x,H2,I2,rx,a,ov,ex,g,q2⟩ => ?_
 subst ex
 obtain rfl:u=Value.ref a:=rx
 exact vb hu I2 g ry fun s3 I3=>⟨.bl (!ov.isSome),H2,I3,rfl,q2⟩
theorem lN (hu:X.A.units + 1 < cLine) (ho:PE X o td) (hi:PE X i ty) (hv:PE X value tv) (hs:swapsWith value (some (.Subscript o i pos')) pos.line X.env=pure false) :
  PS X (.Assign [.Subscript o i pos'] value pos) (yi td ty tv):=by
 intro pins s σ H D I h
 refine wpAny_Assign_Subscript (thn (hv pins s σ H _ I h) fun r s1 ⟨v,H1,I1,rv,q1⟩=>thn (ho pins s1 σ H1 _ I1 q1) fun u s2 ⟨x,H2,I2,rx,q2⟩=>thn (hi pins s2 σ H2 _ I2 q2) fun iv s3 ⟨y,H3,I3,ry,a,H4,ex,g,q3⟩ => ?_) hs
 subst ex
 obtain rfl:u=Value.ref a:=rx
 exact qV hu I3 g ry rv fun s4 I4=>⟨σ,H4,I4,q3⟩
end
theorem nk {P:Program} {w:World} {H:Hp} (h:Heap) (hb:sysModules < h.objs.size):bB P w H (h.push { cls := .type "dict",data := .dict #[] }) h.objs.size (.dK []) :=
 ⟨Nat.zero_le _,beq_eq_false_iff_ne.mpr (Ne.symm (Nat.ne_of_lt hb)),[],.nil,Heap.DictOf.new h⟩
def xc:TE:=fun _ H Q=>∀ p,H p=none->Q (.ref p) (upd H p (.dK []))
section
variable {X:Cx} {pos:Pos}
theorem sV:PE X (.Dict [] [] pos) xc:=fun pins s σ H Q I h =>
 wpAny_Dict_empty ⟨.ref s.heap.objs.size,_,I.laid (a:=s.heap.objs.size) (o := .dK []) (t':=s.toks) (fun _ _ q=>Heap.get?_push_of_some _ q) (Nat.le_refl _) (nk s.heap I.big),rfl,h _ (I.hok.fresh (Nat.le_refl _))⟩
end
def oK:List (TE × TE)->St->Hp->(List (V × V)->Hp->Prop)->Prop
 | [],_,H,Q=>Q [] H
 | (tk,tv) :: r,σ,H,Q=>tk σ H fun x H1=>tv σ H1 fun y H2=>oK r σ H2 fun ps H3=>Q ((x,y) :: ps) H3
abbrev VV:List (V × V)->List (Value × Value)->Prop:=Paired fun p q=>RelV p.1 q.1/\RelV p.2 q.2
def PPs (X:Cx) (pos:Pos) (keys:List (Option Expr)) (values:List Expr) (trs:List (TE × TE)):Prop :=
 ∀ (pins:List (Addr × Obj)) (s:Shared) (σ:St) (H:Hp) (Q:List (V × V)->Hp->Prop),Inv X pins σ H s->oK trs σ H Q →
  wpAny (model X.prog X.w) X.A (evalPairs (pairTrees keys values X.env pos)) (fun vs s'=>∃ ps H',Inv X pins σ H' s'/\VV ps vs/\Q ps H') X.xe s
theorem ve {X:Cx} {pos:Pos}:PPs X pos [] [] []:=fun pins s σ H Q I h=>pairTrees_nil_walk ⟨[],H,I,.nil,h⟩
theorem sW {X:Cx} {pos:Pos} {k v:Expr} {ks:List (Option Expr)} {vs:List Expr} {tk tv:TE} {trs:List (TE × TE)} (hk:PE X k tk) (hv:PE X v tv) (hr:PPs X pos ks vs trs) :
  PPs X pos (some k :: ks) (v :: vs) ((tk,tv) :: trs):=fun pins s σ H Q I h =>
 pairTrees_cons_walk (thn (hk pins s σ H _ I h) fun u s1 ⟨x,H1,I1,rx,q1⟩=>thn (hv pins s1 σ H1 _ I1 q1) fun w2 s2 ⟨y,H2,I2,ry,q2⟩ =>
  thn (hr pins s2 σ H2 _ I2 q2) fun ws s3 ⟨ps,H3,I3,rel,q3⟩=>⟨(x,y) :: ps,H3,I3,.cons ⟨rx,ry⟩ rel,q3⟩)
def eU (kvs more:List (Key × V)):List (Key × V):=more.foldl (fun acc kv=>putK acc kv.1 kv.2) kvs
theorem KV.merge:∀ {more:List (Key × V)} {rs:List (Key × Value)} {kvs:List (Key × V)} {vs:List (Key × Value)},KV more rs->KV kvs vs->KV (eU kvs more) (merged vs rs):=by
 intro more rs kvs vs r
 unfold KV at r
 induction r generalizing kvs vs with
 | nil=>intro q; exact q
 | @cons p q ps qs h t ih =>
  intro r0
  have e:KV (putK kvs p.1 p.2) (stored vs q.1 q.2):=by
   have:=r0.put p.1 h.2
   rw [<- h.1]; exact this
  exact ih e
theorem fH:∀ (more kvs:List (Key × V)),(eU kvs more).length<=kvs.length + more.length
 | [],kvs=>by show kvs.length<=kvs.length + 0; omega
 | p :: r,kvs=>by
  have h1:=fH r (putK kvs p.1 p.2)
  have h2:=eQ kvs p.1 p.2
  show (eU (putK kvs p.1 p.2) r).length<=_
  rw [List.length_cons]; omega
theorem iX {P:Program} {w:World}:∀ {kvs:List (Key × V)} {ws:List (Value × Value)},VV (kvs.map fun kv=>(kV kv.1,kv.2)) ws->∃ rs,Carries (bD P w) ws rs/\KV kvs rs
 | [],_,r=>by rw [List.map_nil] at r; cases r; exact ⟨[],True.intro,.nil⟩
 | p :: kvs,_,r=>by
  rw [List.map_cons] at r
  cases r with
  | @cons a b as bs h t =>
   obtain ⟨rs,c,q⟩:=iX (P:=P) (w:=w) t
   obtain ⟨b1,b2⟩:=b
   exact ⟨(p.1,b2) :: rs,⟨kq h.1,rfl,c⟩,.cons ⟨rfl,h.2⟩ q⟩
def yj (trs:List (TE × TE)):TE:=fun σ H Q=>∀ p,H p=none->oK trs σ (upd H p (.dK [])) fun ps H2=>H2 p=some (.dK [])/\∃ kvs:List (Key × V),ps=kvs.map (fun kv=>(kV kv.1,kv.2))/\kvs.length<=15/\Q (.ref p) (upd H2 p (.dK (eU [] kvs)))
theorem vf {X:Cx} {pos:Pos} {keys:List (Option Expr)} {values:List Expr} {trs:List (TE × TE)} (h:PPs X pos keys values trs) (hall:keys.all (·.isSome)=true) (hl:keys.length=values.length) (h0:keys ≠ [])
  (h15:keys.length<=15):PE X (.Dict keys values pos) (yj trs):=by
 intro pins s σ H Q I q
 have hn:=I.hok.fresh (Nat.le_refl s.heap.objs.size)
 have I1:=I.laid (a:=s.heap.objs.size) (o := .dK []) (h':=s.heap.push { cls := .type "dict",data := .dict #[] }) (t':=s.toks) (fun _ _ q=>Heap.get?_push_of_some _ q) (Nat.le_refl _) (nk s.heap I.big)
 refine wpAny_Dict_walk (knd:=bD X.prog X.w) hall hl h0 h15 (thn (h pins _ σ _ _ I1 (q _ hn)) fun ws s2 ⟨ps,H2,I2,rel,e,kvs,ep,lk,q2⟩ => ?_)
 subst ep
 obtain ⟨rs,c,rk⟩:=iX (P:=X.prog) (w:=X.w) rel
 obtain ⟨z,hd,vs0,r0,dd⟩:=vP I2.hok e
 cases r0
 refine ⟨rs,c,dd,fun h' dd' hs=>⟨.ref s.heap.objs.size,_,?_,rfl,q2⟩⟩
 have hz:(eU [] kvs).length<=sizeLine:=by
  have h1:=fH kvs []
  rw [List.length_nil] at h1
  rw [sizeLine_eq]; omega
 have he:∃ q,h'.get? s.heap.objs.size=some q:=let ⟨q,_,_,hq,_⟩:=dd'; ⟨q,hq⟩
 exact lM I2 (by rw [e]; exact True.intro) hs he (sU hz hd (rk.merge .nil) dd')
structure M2 (X:Cx) (o:Expr) (m:Str) (apos:Pos) (e f:Expr) (cpos:Pos):Prop where
 base:attributeBase o m X.env (eval o X.env)=eval o X.env
 few:((backTo cpos (starEach [e,f] X.env)).all (fun x => !x.1) && (backToKw cpos (keywordEach [] X.env)).all (fun x=>x.1.isSome)
  && decide (([e,f]:List Expr).length + ([]:List Keyword).length + (if ([]:List Keyword).isEmpty then 0 else 1) < 30))=true
 line:(apos.endLine == cpos.line)=true
 trees:backTo cpos (starEach [e,f] X.env)=[(false,eval e X.env),(false,eval f X.env)]
def IsD (H:Hp) (a:Addr):Prop:=(∃ kvs,Rd H a (.dK kvs))\/∃ kvs,Rd H a (.dT kvs)
theorem xf {X:Cx} {pins:List (Addr × Obj)} {σ:St} {H:Hp} {s:Shared} {a:Addr} (I:Inv X pins σ H s) (d:IsD H a) :
  s.TypeIs (.ref a) "dict" /\ (∀ b,Value.ref a = .ref b->∃ ob,s.heap.get? b=some ob/\ob.dict=none)/\(a == sysModules)=false:=by
 rcases d with ⟨kvs,e⟩ | ⟨kvs,e⟩
 ·obtain ⟨_,hd,vs,_,dd⟩:=ku I.hok e
  refine ⟨dd.typeIs,fun b q => ?_,hd⟩
  cases q
  obtain ⟨ob,_,_,h1,h2,_⟩:=dd
  exact ⟨ob,h1,h2.2.1⟩
 ·obtain ⟨_,hd,xs,_,dd⟩:=kz I.hok e
  refine ⟨dd.typeIs,fun b q => ?_,hd⟩
  cases q
  obtain ⟨ob,_,_,h1,h2,_⟩:=dd
  exact ⟨ob,h1,h2.2.1⟩
section
variable {X:Cx} {pins:List (Addr × Obj)} {σ:St} {H:Hp} {s:Shared} {a:Addr} {y d:V} {u r:Value} {o:Option V} {A:Around} {E:Value->Shared->Prop}
theorem xg {Q:Value->Shared->Prop} (hu:A.units + 1 < cLine) (I:Inv X pins σ H s) (g:eR H a y o) (ry:RelV y u) (rd:RelV d r) (h:∀ w' s',Inv X pins σ H s'->RelV (o.getD d) w'->Q w' s') :
  wpAny (model X.prog X.w) A (call (.builtin "dict.get") [.ref a,u,r]) Q E s:=by
 rcases g with ⟨kvs,k,e,ey,l⟩ | ⟨kvs,k,b,e,ey,eb,l⟩
 ·subst ey
  obtain ⟨z,hd,vs,rel,dd⟩:=ku I.hok e
  refine call_meetsIn PySem.F.slot_dict_get dd.typeIs PySem.F.entry_dict_get (PySem.F.args_dict_get_3 _ _ _) (meets_dict_get_default (bD X.prog X.w) a (kq ry) hd r) ⟨_,dd.mapOf,h _ _ (I.tok _) ?_⟩
  rw [l]
  exact (rel.val k).getD rd
 ·subst ey
  cases (show u=Value.ref b from ry)
  obtain ⟨z,hd,xs,rel,dd⟩:=kz I.hok e
  refine call_meetsIn PySem.F.slot_dict_get dd.typeIs PySem.F.entry_dict_get (PySem.F.args_dict_get_3 _ _ _) (meetsH_dict_get_default (tupleKind (bD X.prog X.w)) a b hd r) ⟨tupleKind_room_in1 hu,k,xs,iW I.hok eb,dd,h _ _ (I.tok _) ?_⟩
  rw [l]
  exact (rel.val k).getD rd
end
def xh (td ty tx:TE):TE:=fun σ H Q=>td σ H fun x H1=>∃ a,x = .ref a/\IsD H1 a/\ty σ H1 fun y H2=>tx σ H2 fun z H3=>∃ o,eR H3 a y o/\Q (o.getD z) H3
section
variable {X:Cx} {o e f:Expr} {apos cpos:Pos} {td ty tx:TE}
theorem sZ (hu:X.A.units + 1 < cLine) (ho:PE X o td) (he:PE X e ty) (hf:PE X f tx) (m:M2 X o "get" apos e f cpos):PE X (.Call (.Attribute o "get" apos) [e,f] [] cpos) (xh td ty tx):=by
 intro pins s σ H Q I h
 refine wpAny_Call_method m.base m.few m.line PySem.F.plainAttrs_dict PySem.F.slot_dict_get PySem.F.type_dict_get (thn (ho pins s σ H _ I h) fun u s1 ⟨x,H1,I1,rx,a,ex,d,q1⟩ => ?_)
 subst ex
 obtain rfl:u=Value.ref a:=rx
 obtain ⟨t1,t2,_⟩:=xf I1 d
 refine ⟨t1,t2,?_⟩
 rw [m.trees]
 refine Calls.callWith_builtin rfl (Calls.evalArgs_plain (Calls.spliced_cons (thn (he pins s1 σ H1 _ I1 q1) fun iv s2 ⟨y,H2,I2,ry,q2⟩ =>
  Calls.spliced_cons (thn (hf pins s2 σ H2 _ I2 q2) fun fv s3 ⟨z,H3,I3,rz,ov,g,q3⟩=>Calls.spliced_nil ?_))))
 exact xg hu I3 g ry rz fun w' s4 I4 rw'=>⟨_,H3,I4,rw',q3⟩
end
section
variable {X:Cx} {pins:List (Addr × Obj)} {σ:St} {H:Hp} {s:Shared} {a:Addr} {kvs:List (Key × V)} {A:Around} {E:Value->Shared->Prop}
end
section
variable {X:Cx} {pins:List (Addr × Obj)} {σ:St} {H:Hp} {s:Shared} {a:Addr} {y:V} {u:Value} {A:Around} {E:Value->Shared->Prop}
end
open PySem PySem.Spec PyProof.Rows
section
variable {X:Cx}
end
section
variable {κ : Type} [DecidableEq κ]
end
end L2
namespace SDct
open PySem PyProof.Rows Srt
section
variable {prog:Program} {w:World} {K:Type} [DecidableEq K] {knd:KeyKind prog w K} {A:Around} {E:Value->Shared->Prop} {s:Shared}
end
end SDct
namespace L2
open PySem PySem.Spec PyProof.Rows Srt
section
variable {X:Cx}
end
end L2
namespace HT
open PySem PySem.Spec PyProof.Rows
section
variable {prog:Program} {w:World} {A:Around} {E:Value->Shared->Prop} {s:Shared} {l:Addr} {xs:Array (Int × Tok)}
theorem kA {items:Array Value} {Q:Value->Shared->Prop} (hl:s.heap.IsTuple l items)
  (h:∀ s₂:Shared,s₂={ s with heap:=s.heap.push { cls := .type "tuple_iterator",data := .fields #[.ref l,.int 0 0] } } →
   (s₂.heap.IsTupleIter s.heap.objs.size l 0/\s₂.heap.IsTuple l items)->(∀ b ∈ [s.heap.objs.size,l],b < s₂.heap.objs.size)->l ≠ s.heap.objs.size->Q (.ref s.heap.objs.size) s₂) :
  wpAny (model prog w) A (pyIter (.ref l)) Q E s:=by
 have hlt:l < s.heap.objs.size:=by obtain ⟨_,e,_⟩:=hl; exact Heap.lt_size e
 refine wpAny_pyIter_tuple hl (h _ rfl ⟨⟨_,Heap.get?_push_size _ rfl,rfl,rfl⟩,?_⟩ (fun b hb => ?_) (Nat.ne_of_lt hlt))
 ·obtain ⟨o,e,c,d⟩:=hl
  exact ⟨o,Heap.get?_push_of_some _ e,c,d⟩
 show b < (s.heap.push _).objs.size
 rw [Heap.size_push]
 rcases List.mem_cons.mp hb with rfl | hb
 ·exact Nat.lt_succ_self _
 ·rcases List.mem_cons.mp hb with rfl | hb
  ·exact Nat.lt_succ_of_lt hlt
  ·cases hb
theorem kB {h':Heap} (hk:∀ b o,b ∉ [s.heap.objs.size]->(s.heap.push { cls := .type "tuple_iterator",data := .fields #[.ref l,.int 0 0] }).get? b=some o->h'.get? b=some o) :
  ∀ b o,s.heap.get? b=some o->h'.get? b=some o:=fun b o e=>by
 refine hk b o (fun hm => ?_) (Heap.get?_push_of_some _ e)
 rcases List.mem_cons.mp hm with e1 | hm
 ·exact absurd (e1 ▸ Heap.lt_size e) (Nat.lt_irrefl _)
 ·cases hm
theorem vg {Q:Value->Shared->Prop} (hh:A.handled=none) (hl:s.heap.IsTuple l (intItems xs)) (hne:0 < xs.size)
  (h:∀ v h' tk,(intItems xs)[argBest (fun i j=>decide (numAt xs i > numAt xs j)) (xs.size - 1)]? = some v->(∀ b o,s.heap.get? b=some o->h'.get? b=some o)->Q v { s with heap:=h',toks:=tk }) :
  wpAny (model prog w) A (call (.builtin "max") [.ref l]) Q E s:=by
 refine call_max_walk (kA hl fun s₂ e st hfp hlI => ?_)
 subst e
 refine ⟨_,_,_,_,_,_,_,rfl,Walks.tuple (A:=A.in1) hh _ l hlI (intItems xs),st,hfp,by simpa [intItems] using hne,CmpOf.ints_gt (numAt xs) (fun _ _=>intItems_at),fun v h' tk hP hk => ?_⟩
 exact h v h' tk (by simpa [intItems] using hP) (kB hk)
theorem vh {Q:Value->Shared->Prop} (hh:A.handled=none) (hl:s.heap.IsTuple l (intItems xs)) (hne:0 < xs.size)
  (h:∀ v h' tk,(intItems xs)[argBest (fun i j=>decide (numAt xs i < numAt xs j)) (xs.size - 1)]? = some v->(∀ b o,s.heap.get? b=some o->h'.get? b=some o)->Q v { s with heap:=h',toks:=tk }) :
  wpAny (model prog w) A (call (.builtin "min") [.ref l]) Q E s:=by
 refine call_min_walk (kA hl fun s₂ e st hfp hlI => ?_)
 subst e
 refine ⟨_,_,_,_,_,_,_,rfl,Walks.tuple (A:=A.in1) hh _ l hlI (intItems xs),st,hfp,by simpa [intItems] using hne,CmpOf.ints_lt (numAt xs) (fun _ _=>intItems_at),fun v h' tk hP hk => ?_⟩
 exact h v h' tk (by simpa [intItems] using hP) (kB hk)
end
end HT
namespace L2
open PySem PyProof.Rows
section
variable {X:Cx} {K:PySem.W.Frag}
theorem ii2 {i j:Int} {t1 t2:Tok}:intItems #[(i,t1),(j,t2)] = #[Value.int i t1,Value.int j t2]:=by simp [intItems]
theorem qW (hc:X.calm=true) (hk:X.K=K:=by rfl):bJ X (.builtin "min") (fun xs H Q=>∃ (p:Addr) (i j:Int),xs=[.ref p]/\SqT K H p [.int i,.int j]/\Q (.int (if j < i then j else i)) H):=by
 subst hk
 intro pins s σ H xs us Q I r h
 obtain ⟨p,i,j,rfl,hq,q⟩:=h
 obtain ⟨u,rfl,ru⟩:=vals1 r
 cases (show u=Value.ref p from ru)
 obtain ⟨its,rv,ht,_⟩:=I.tuple hq
 obtain ⟨x,y,rfl,⟨t1,rfl⟩,⟨t2,rfl⟩⟩:=vals2 rv
 refine HT.vh (I.ok.hd hc) (xs := #[(i,t1),(j,t2)]) (by rw [ii2]; exact ht) (by simp) fun v h' tk hv k => ?_
 have ev:∃ t,v = .int (if j < i then j else i) t:=by
  have hb:argBest (fun a b=>decide (numAt #[(i,t1),(j,t2)] a < numAt #[(i,t1),(j,t2)] b)) (#[(i,t1),(j,t2)].size - 1)=if j < i then 1 else 0:=by
   show (if decide (j < i)=true then 1 else 0)=_
   by_cases h:j < i
   ·rw [decide_eq_true h,if_pos h,if_pos rfl]
   ·rw [decide_eq_false h,if_neg h,if_neg Bool.false_ne_true]
  rw [hb,ii2] at hv
  by_cases h:j < i
  ·rw [if_pos h] at hv ⊢
   exact ⟨t2,(Option.some.inj (show some (Value.int j t2)=some v from hv)).symm⟩
  ·rw [if_neg h] at hv ⊢
   exact ⟨t1,(Option.some.inj (show some (Value.int i t1)=some v from hv)).symm⟩
 obtain ⟨t,rfl⟩:=ev
 exact ⟨.int _,H,I.kept k,⟨_,rfl⟩,q⟩
theorem qX (hc:X.calm=true) (hk:X.K=K:=by rfl):bJ X (.builtin "max") (fun xs H Q=>∃ (p:Addr) (i j:Int),xs=[.ref p]/\SqT K H p [.int i,.int j]/\Q (.int (if j > i then j else i)) H):=by
 subst hk
 intro pins s σ H xs us Q I r h
 obtain ⟨p,i,j,rfl,hq,q⟩:=h
 obtain ⟨u,rfl,ru⟩:=vals1 r
 cases (show u=Value.ref p from ru)
 obtain ⟨its,rv,ht,_⟩:=I.tuple hq
 obtain ⟨x,y,rfl,⟨t1,rfl⟩,⟨t2,rfl⟩⟩:=vals2 rv
 refine HT.vg (I.ok.hd hc) (xs := #[(i,t1),(j,t2)]) (by rw [ii2]; exact ht) (by simp) fun v h' tk hv k => ?_
 have ev:∃ t,v = .int (if j > i then j else i) t:=by
  have hb:argBest (fun a b=>decide (numAt #[(i,t1),(j,t2)] a > numAt #[(i,t1),(j,t2)] b)) (#[(i,t1),(j,t2)].size - 1)=if j > i then 1 else 0:=by
   show (if decide (j > i)=true then 1 else 0)=_
   by_cases h:j > i
   ·rw [decide_eq_true h,if_pos h,if_pos rfl]
   ·rw [decide_eq_false h,if_neg h,if_neg Bool.false_ne_true]
  rw [hb,ii2] at hv
  by_cases h:j > i
  ·rw [if_pos h] at hv ⊢
   exact ⟨t2,(Option.some.inj (show some (Value.int j t2)=some v from hv)).symm⟩
  ·rw [if_neg h] at hv ⊢
   exact ⟨t1,(Option.some.inj (show some (Value.int i t1)=some v from hv)).symm⟩
 obtain ⟨t,rfl⟩:=ev
 exact ⟨.int _,H,I.kept k,⟨_,rfl⟩,q⟩
end
open PySem PyProof.Rows
section
variable {X:Cx}
end
end L2
namespace HT
open PySem PySem.Spec PyProof.Rows
section
variable {prog:Program} {w:World} {A:Around} {R:Result->Shared->Prop} {I:Addr} {fp wr:List Addr} {n:Nat} {P:Nat->Value->Prop} {St:Nat->Heap->Prop} {kw:List (Str × Value)}
end
section
variable {prog:Program} {w:World} {A:Around} {E:Value->Shared->Prop} {s:Shared} {l:Addr} {xs:Array (Int × Tok)}
end
end HT
namespace L2
open PySem PyProof.Rows
def tf (X:Cx) (f:Value) (ks:List Str) (r:List V->List V->Hp->VK->Prop):Prop :=
 ∀ (pins:List (Addr × Obj)) (s:Shared) (σ:St) (H:Hp) (xs:List V) (us:List Value) (zs:List V) (ws:List Value) (Q:VK),Inv X pins σ H s->Vals xs us->Vals zs ws->r xs zs H Q →
  wpAny (model X.prog X.w) X.A (call f us (ks.zip ws)) (EP X pins σ Q) X.xe s
section
variable {X:Cx} {x:Str} {id:String} {e:Expr} {es:List Expr} {kws:List Keyword} {p pos:Pos} {t tk:TA} {ks:List Str} {r:List V->List V->Hp->VK->Prop}
theorem qY (hc:tf X (.builtin id) ks r) (hg:Gl X x) (hm:X.mg x=none) (hv:bootBuiltins x=some (.builtin id)) (ha:PA X (e :: es) t) (hkw:PK X kws tk) (hn:x ≠ "__name__" := by decide) (hdb:(x == ("__debug__" : Str))=false:=by decide)
  (hks:(backToKw pos (keywordEach kws X.env)).filterMap (·.1)=ks:=by rfl)
  (he:backTo pos (starEach (e :: es) X.env)=(false,eval e X.env) :: backTo pos (starEach es X.env):=by rfl)
  (hplain:(backTo pos (starEach (e :: es) X.env)).any (·.1)=false:=by rfl)
  (hall:(backToKw pos (keywordEach kws X.env)).all (·.1.isSome)=true:=by rfl)
  (hkn:(backToKw pos (keywordEach kws X.env)).any (·.1.isNone)=false:=by rfl) :
  PE X (.Call (.Name x p) (e :: es) kws pos) (fun σ H Q=>t σ H fun vs H1=>tk σ H1 fun zs H2=>r vs zs H2 Q):=by
 intro pins s σ H Q I h
 refine wpAny_Call_Name_kw (cI I hg hm hv ?_ hn hdb)
 refine PyProof.Rows.callWith_kw (thn (ha pos pins s σ H _ I h) fun us s1 ⟨vs,H1,I1,r1,q1⟩ => ?_) he hplain hall hkn
 refine thn (hkw pos pins s1 σ H1 _ I1 q1) fun ws s2 ⟨zs,H2,I2,rz,q2⟩ => ?_
 rw [hks]
 exact hc pins s2 σ H2 vs us zs ws Q I2 r1 rz q2
end
open PySem PyProof.Rows
section
variable {X:Cx}
theorem ti {ns:List Int} {j:Nat} (h:j < ns.length):ns.getD j 0 ∈ ns:=by
 rw [List.getD_eq_getElem?_getD,List.getElem?_eq_getElem h]
 exact List.getElem_mem h
theorem tj {ns:List Int} {a:Int} (h:a ∈ ns):∃ j,j < ns.length/\ns.getD j 0=a:=by
 obtain ⟨j,hj,e⟩:=List.getElem_of_mem h
 exact ⟨j,hj,by rw [List.getD_eq_getElem?_getD,List.getElem?_eq_getElem hj]; exact e⟩
end
open PySem PyProof.Rows
section
variable {X:Cx}
def nq (ns ms:List Int) (j:Nat):Bool:=ns.getD j 0 == ms.getD j 0
theorem qZ {ns ms:List Int} (h:ns.length=ms.length):((List.range ns.length).all fun j=>nq ns ms j)=decide (ns=ms):=by
 rw [Bool.eq_iff_iff,decide_eq_true_iff,List.all_eq_true]
 constructor
 ·intro hh
  refine List.ext_getElem h fun j h1 h2 => ?_
  have:=hh j (List.mem_range.mpr h1)
  unfold nq at this
  rw [List.getD_eq_getElem?_getD,List.getD_eq_getElem?_getD,List.getElem?_eq_getElem h1,List.getElem?_eq_getElem h2] at this
  exact of_decide_eq_true (by simpa using this)
 ·rintro rfl j _
  exact beq_self_eq_true _
theorem kD {ns ms:List Int}:((List.range (min ns.length ms.length)).all (nq ns ms) && ns.length == ms.length)=decide (ns=ms):=by
 by_cases h:ns.length=ms.length
 ·rw [<- h,Nat.min_self,show (ns.length == ns.length)=true from beq_self_eq_true _,Bool.and_true]
  exact qZ h
 ·have ne:ns ≠ ms:=fun z=>h (by rw [z])
  rw [decide_eq_false ne,show (ns.length == ms.length)=false from by simpa using h,Bool.and_false]
theorem lO {ns:List Int} {us:List Value} (r:Vals (ns.map V.int) us) {j:Nat} (h:j < us.toArray.size):∃ t,us.toArray[j] = .int (ns.getD j 0) t:=by
 have l:=r.length
 rw [List.length_map] at l
 rw [List.size_toArray] at h
 have e1:(ns.map V.int)[j]? = some (.int (ns.getD j 0)):=by
  rw [List.getElem?_map,List.getD_eq_getElem?_getD,List.getElem?_eq_getElem (by omega)]
  rfl
 obtain ⟨u,g1,q1⟩:=r.get e1
 have f1:us.toArray[j]=u:=by simp [List.getElem?_eq_some_iff] at g1; obtain ⟨_,g⟩:=g1; simpa using g
 rw [f1]
 exact q1
theorem op_eqTI {k:Nat} (hr:di k X.A):OpR X (compareOp .Eq) (fun x y H Q=>∃ (a b:Addr) (ns ms:List Int),x = .ref a/\y = .ref b/\SqT X.K H a (ns.map V.int)/\SqT X.K H b (ms.map V.int)/\Q (.bl (decide (ns=ms))) H):=by
 intro pins s σ H x y v u Q I rx ry h
 obtain ⟨a,b,ns,ms,rfl,rfl,h1,h2,q⟩:=h
 cases (show v=Value.ref a from rx)
 cases (show u=Value.ref b from ry)
 obtain ⟨its,r1,p1,_⟩:=I.tuple h1
 obtain ⟨its2,r2,p2,_⟩:=I.tuple h2
 have l1:=r1.length
 have l2:=r2.length
 rw [List.length_map] at l1 l2
 have hu:=hr.un
 have hu1:X.A.units < cLine:=by omega
 have R:=SeqAt.RcAt.tuples (A:=X.A) (e:=nq ns ms) (show s.heap.IsTuple a its.toArray from p1) (show s.heap.IsTuple b its2.toArray from p2) hu1 (by
  intro j h1 h2
  obtain ⟨t1,g1⟩:=lO r1 h1
  obtain ⟨t2,g2⟩:=lO r2 h2
  rw [g1,g2]
  exact SeqAt.EqAt.int_int _ t1 _ t2)
 rw [List.size_toArray,List.size_toArray, <- l1, <- l2,kD] at R
 exact R _ _ _ _ ⟨.bl _,H,I,rfl,q⟩
theorem vi {k:Nat} (hr:di k X.A):OpR X (compareOp .NotEq) (fun x y H Q=>∃ (a b:Addr) (ns ms:List Int),x = .ref a/\y = .ref b/\SqT X.K H a (ns.map V.int)/\SqT X.K H b (ms.map V.int)/\Q (.bl (!decide (ns=ms))) H):=by
 intro pins s σ H x y v u Q I rx ry h
 obtain ⟨a,b,ns,ms,rfl,rfl,h1,h2,q⟩:=h
 cases (show v=Value.ref a from rx)
 cases (show u=Value.ref b from ry)
 obtain ⟨its,r1,p1,_⟩:=I.tuple h1
 obtain ⟨its2,r2,p2,_⟩:=I.tuple h2
 have l1:=r1.length
 have l2:=r2.length
 rw [List.length_map] at l1 l2
 have hu:=hr.un
 have hu1:X.A.units < cLine:=by omega
 have R:=SeqAt.RcNeAt.tuples (A:=X.A) (e:=nq ns ms) (show s.heap.IsTuple a its.toArray from p1) (show s.heap.IsTuple b its2.toArray from p2) hu1 (by
  intro j h1 h2
  obtain ⟨t1,g1⟩:=lO r1 h1
  obtain ⟨t2,g2⟩:=lO r2 h2
  rw [g1,g2]
  exact SeqAt.EqAt.int_int _ t1 _ t2)
 rw [List.size_toArray,List.size_toArray, <- l1, <- l2,kD] at R
 exact R _ _ _ _ ⟨.bl _,H,I,rfl,q⟩
end
section
variable {P:Program} {w:World} {K:PySem.W.Frag} {mg:Str->Option Value} {base:Heap}
end
end L2
namespace L2.Rev
open PySem
open Sem (wp)
section
variable {prog:Program} {w:World} {A:Around} {E:Value->Shared->Prop} {s:Shared}
theorem oM:typeLookup (.type "list_reverseiterator") "__len__" = pure none:=by rw [typeLookup_type,builtinLookup_eq_fast]; kernel_rfl
theorem gs:typeLookup (.type "list_reverseiterator") "__length_hint__" = pure (some (.builtin "list_reverseiterator.__length_hint__")):=by rw [typeLookup_type,builtinLookup_eq_fast]; kernel_rfl
theorem tm {I l:Addr} {i:Int} {Q:Bool->Shared->Prop} (hit:s.heap.IsRevIter I l i) (h:Q false s):wpAny (model prog w) A (Builtin.List.listLengthHint (.ref I)) Q E s:=by
 unfold Builtin.List.listLengthHint
 refine wpAny_bind (wpAny_specialOf hit.typeIs oM ?_)
 wp_delta
 refine wpAny_bind (wpAny_specialOf hit.typeIs gs ?_)
 generalize hid:("list_reverseiterator.__length_hint__" : String)=id0
 wp_delta
 rw [show splitId id0=some ("list_reverseiterator", "__length_hint__") from by subst hid; decide +kernel]
 subst hid
 refine wpAny_bind (wpAny_isInstance (T := "list_reverseiterator") (b:=true) hit.typeIs (by rw [isSubtype_type]; kernel_rfl) ?_)
 refine wpAny_ite_split (fun hab=>absurd hab (by decide)) (fun _ => ?_)
 refine wpAny_ite_split (fun _ => ?_) (fun hab=>absurd (by decide +kernel) hab)
 refine wpAny_ite_split (fun hab=>absurd hab (by decide +kernel)) (fun _ => ?_)
 exact wpAny_pure h
theorem oN {R:Result->Shared->Prop} {I l:Addr} {items:Array Value} (hh:A.handled=none) (hit:s.heap.IsRevIter I l ((items.size:Int) - 1)) (hl:s.heap.IsList l items) (hne:l ≠ I) (hlen:items.size<=2 ^ 24)
  (S:Addr) (hSI:S ≠ I) (hSl:S ≠ l) (res:Value) (c₀:Nat) (hS:s.heap.get? S=some { cls := .type "list",data := .seq #[] c₀ })
  (hR:∀ h' tk acc' c',(∀ b o,b ≠ S->b ≠ I->s.heap.get? b=some o->h'.get? b=some o)->h'.get? S=some { cls := .type "list",dict:=none,data := .seq acc' c',slots := #[] } →
   ItemsOf (fun i v=>items[items.size - 1 - i]? = some v) acc' items.size->R (.ok (.ret res)) { s with heap:=h',toks:=tk }) :
  wpAny (model prog w) A.in1 (Builtin.List.listExtendWith (.ref S) (.ref I) res)
   (fun fin s'=>match fin with | .done f=>R (.ok f) s' | .again c'=>c'.quiet=true/\codeAny (model prog w) A c' R s') (fun e s'=>R (.error e) s') s:=by
 have hSf:S ∉ [I,l]:=fun hm=>by
  rcases List.mem_cons.mp hm with e | hm
  ·exact hSI e
  ·exact hSl (List.mem_singleton.mp hm)
 have W:=(Walks.listRev (prog:=prog) (w:=w) (A:=A.in1) hh I l hne items).toS
 unfold Builtin.List.listExtendWith
 refine wpAny_bind (wpAny_typeOf (T := "list_reverseiterator") hit.typeIs ?_)
 have h1:Builtin.List.listSameRef (.ref S) (.ref I)=false:=by simp [Builtin.List.listSameRef,hSI]
 have h2:(Value.type "list_reverseiterator" == Value.type "list")=false:=by decide +kernel
 have h3:(Value.type "list_reverseiterator" == Value.type "tuple")=false:=by decide +kernel
 simp only [h1,h2,h3,Bool.or_false,Bool.false_eq_true,if_false]
 refine wpAny_bind (wpAny_pyIter_revIter hit ?_)
 refine wpAny_bind (wpAny_holding (tm hit ?_))
 refine wpAny_ite_split (fun hab=>absurd hab (by decide +kernel)) (fun _=>wpAny_pure ⟨plainId_quiet F.plain_extend_loop _,?_⟩)
 refine codeAny_extend_loopS W (by rw [sizeLine_eq]; omega) S hSf res items.size 0 _ #[] c₀ rfl (Nat.zero_le _) ⟨Nat.zero_le _,by simpa using hit,hl⟩ hS (ItemsOf.nil _) fun s' acc' c' hm hS' hacc => ?_
 rw [Moved.eq_with hm]
 refine hR s'.heap s'.toks acc' c' (fun b o hb hbI e=>hm.heap b o (fun hmem => ?_) e) hS' hacc
 rcases List.mem_cons.mp hmem with e' | hmem
 ·exact hb e'
 ·exact hbI (List.mem_singleton.mp hmem)
theorem tq {R:Result->Shared->Prop} {I l:Addr} {items:Array Value} (hh:A.handled=none) (hit:s.heap.IsRevIter I l ((items.size:Int) - 1)) (hl:s.heap.IsList l items) (hne:l ≠ I) (hlen:items.size<=2 ^ 24)
    (S:Addr) (hSI:S ≠ I) (hSl:S ≠ l) (hS:s.heap.get? S=some { cls := .type "list",data := .seq #[] })
    (hR:∀ h' tk acc' c',(∀ b o,b ≠ S->b ≠ I->s.heap.get? b=some o->h'.get? b=some o)->h'.get? S=some { cls := .type "list",dict:=none,data := .seq acc' c',slots := #[] } →
      ItemsOf (fun i v=>items[items.size - 1 - i]? = some v) acc' items.size->R (.ok (.ret .none)) { s with heap:=h',toks:=tk }) :
    wpAny (model prog w) A.in1 (Builtin.«list.__init__» ⟨[.ref S,.ref I],[]⟩)
      (fun fin s'=>match fin with | .done f=>R (.ok f) s' | .again c'=>c'.quiet=true/\codeAny (model prog w) A c' R s') (fun e s'=>R (.error e) s') s:=by
  show wpAny _ _ (do let old ← Builtin.List.listItems (.ref S); Builtin.List.listUpdate (.ref S) (fun _ => #[]); letGo old.toList.reverse; Builtin.List.listExtendWith (.ref S) (.ref I) .none) _ _ s
  refine wpAny_bind ?_
  unfold Builtin.List.listItems
  refine wpAny_bind (wpAny_seqItems hS rfl (wpAny_pure ?_))
  show wpAny _ _ (updateSeq S (fun _ => #[]) >>= fun _=>letGo (#[]:Array Value).toList.reverse >>= fun _=>Builtin.List.listExtendWith (.ref S) (.ref I) .none) _ _ s
  refine wpAny_bind (wpAny_updateSeq hS rfl ?_)
  have hS₂:=Heap.get?_update_self (Obj.mapSeq (fun _=>(#[]:Array Value))) hS rfl
  have oth:∀ b o,b ≠ S->s.heap.get? b=some o->(s.heap.update S (Obj.mapSeq (fun _=>(#[]:Array Value)))).get? b=some o :=
    fun b o hb e=>(Heap.get?_update_other _ _ (Ne.symm hb)).trans e
  refine wpAny_bind (wpAny_letGo ?_)
  refine oN hh (hit.at fun o e=>oth I o (Ne.symm hSI) e) (hl.at fun o e=>oth l o (Ne.symm hSl) e) hne hlen S hSI hSl .none _ hS₂ fun h' tk acc' c' hk hS' hacc => ?_
  exact hR h' tk acc' c' (fun b o hb hbI e=>hk b o hb hbI (oth b o hb e)) hS' hacc
theorem tD {Q:Value->Shared->Prop} {I l:Addr} {items:Array Value} (hh:A.handled=none) (hit:s.heap.IsRevIter I l ((items.size:Int) - 1)) (hl:s.heap.IsList l items) (hne:l ≠ I) (hlen:items.size<=2 ^ 24)
  (hQ:∀ h' tk acc' c',(∀ b o,b ≠ I->s.heap.get? b=some o->h'.get? b=some o) →
   h'.get? s.heap.objs.size=some { cls := .type "list",dict:=none,data := .seq acc' c',slots := #[] }->ItemsOf (fun i v=>items[items.size - 1 - i]? = some v) acc' items.size->Q (.ref s.heap.objs.size) { s with heap:=h',toks:=tk }) :
  wpAny (model prog w) A (call (.type "list") [.ref I]) Q E s:=by
 refine callType_codes (Q₁:=fun obj s₁=>obj = .ref s.heap.objs.size/\s₁={ s with heap:=s.heap.push { cls := .type "list",data := .seq #[] } }) F.called_list (F.typeCall_list_1 _) F.entry_list_init
  (code_list_new _ ⟨rfl,rfl⟩) fun obj s₁ h₁ => ?_
 obtain ⟨rfl,rfl⟩:=h₁
 have hS:(s.heap.push { cls := .type "list",data := .seq #[] }).get? s.heap.objs.size=some { cls := .type "list",data := .seq #[] }:=Heap.get?_push_size _ rfl
 obtain ⟨oi,hoi,_⟩:=id hit
 obtain ⟨ol,hol,_⟩:=id hl
 refine ⟨⟨_,hS,rfl⟩,F.args_list_init_2 _ _,tq (A:=A.in1) hh (hit.at fun o e=>Heap.get?_push_of_some _ e) (hl.at fun o e=>Heap.get?_push_of_some _ e) hne hlen _ (Ne.symm (Nat.ne_of_lt (Heap.lt_size hoi))) (Ne.symm (Nat.ne_of_lt (Heap.lt_size hol))) hS fun h' tk acc' c' hk hS' hacc => ?_⟩
 exact ⟨rfl,hQ h' tk acc' c' (fun b o hbI e=>hk b o (Nat.ne_of_lt (Heap.lt_size e)) hbI (Heap.get?_push_of_some _ e)) hS' hacc⟩
end
end L2.Rev
namespace L2
open PySem PySem.Spec PyProof.Rows
section
variable {X:Cx}
theorem eV:bootBuiltins "reversed" = some (.type "reversed"):=by decide +kernel
theorem tE:bootBuiltins "list" = some (.type "list"):=by decide +kernel
theorem iY:∀ {xs:List V} {us:List Value},Vals xs us->Vals xs.reverse us.reverse
 | [],[],_ => .nil
 | x :: xs,u :: us,.cons h t=>by
  rw [List.reverse_cons,List.reverse_cons]
  exact (iY t).append (.cons h .nil)
def tF (K:PySem.W.Frag) (te:TE):TE:=fun σ H Q=>te σ H fun x H1=>∃ l xs,x = .ref l/\SqL K H1 l xs/\xs.length<=1000/\∀ p,H1 p=none->Q (.ref p) (upd H1 p (.lst xs.reverse))
theorem oO {e:Expr} {te:TE} {p1 p2 pos1 pos2:Pos} (hh:X.A.handled=none) (hg1:Gl X "list") (hm1:X.mg "list" = none) (hg2:Gl X "reversed") (hm2:X.mg "reversed" = none) (he:PE X e te)
  (hs1:starEach [Expr.Call (.Name "reversed" p2) [e] [] pos2] X.env=(false,eval (.Call (.Name "reversed" p2) [e] [] pos2) X.env) :: starEach [] X.env:=by rfl) (hp1:(backTo pos1 (starEach [] X.env)).any (·.1)=false:=by rfl)
  (hs2:starEach [e] X.env=(false,eval e X.env) :: starEach [] X.env:=by rfl) (hp2:(backTo pos2 (starEach [] X.env)).any (·.1)=false:=by rfl) :
  PE X (.Call (.Name "list" p1) [.Call (.Name "reversed" p2) [e] [] pos2] [] pos1) (tF X.K te):=by
 intro pins s σ H Q I h
 refine wpAny_Call_Name_kw (cI I hg1 hm1 tE ?_ (by decide) (by decide))
 refine PyProof.Rows.callWith_type1 ?_ hs1 hp1
 rw [hs1]
 show wpAny _ _ (spliced ((false,eval (.Call (.Name "reversed" p2) [e] [] pos2) X.env) :: backTo pos1 (starEach [] X.env))) _ _ s
 refine Calls.spliced_cons ?_
 refine wpAny_Call_Name_kw (cI I hg2 hm2 eV ?_ (by decide) (by decide))
 refine PyProof.Rows.callWith_type1 (thn ((aa he af hs2) pos2 pins s σ H (fun vs H1=>match vs with | [x]=>∃ l xs,x = .ref l/\SqL X.K H1 l xs/\xs.length<=1000/\∀ p,H1 p=none->Q (.ref p) (upd H1 p (.lst xs.reverse)) | _=>False) I ?_) fun us s1 ⟨vs,H1,I1,r1,q1⟩ => ?_) hs2 hp2
 ·exact h
 ·match vs,q1 with
  | [x],q1 =>
  obtain ⟨l,xs,rfl,hx,h1000,q⟩:=q1
  obtain ⟨u,rfl,ru⟩:=vals1 r1
  cases (show u=Value.ref l from ru)
  obtain ⟨its,r,hl,hz⟩:=I1.list hx
  have hL:s1.heap.IsList l its.toArray:=hl.isList
  refine call_reversed_list hL ?_
  refine Calls.spliced_nil ?_
  have ll:=r.length
  obtain ⟨ol,hol,_⟩:=id hL
  refine Rev.tD hh (I:=s1.heap.objs.size) (l:=l) (items:=its.toArray) ⟨_,Heap.get?_push_size _ rfl,rfl,rfl⟩ (hL.at fun o e=>Heap.get?_push_of_some _ e) (Nat.ne_of_lt (Heap.lt_size hol)) (by rw [List.size_toArray]; omega) fun h' tk acc' c' k e' it => ?_
  have ea:acc'.toList=its.reverse:=by
   refine List.ext_getElem? fun j => ?_
   rw [Array.getElem?_toList]
   have h1:acc'.size=its.length:=by rw [it.1,List.size_toArray]
   by_cases hj:j < its.length
   ·obtain ⟨v,hv⟩:∃ v,acc'[j]? = some v:=⟨acc'[j]'(by omega),Array.getElem?_eq_getElem _⟩
    have:=it.2 j v hv
    dsimp only at this
    rw [List.getElem?_toArray,List.size_toArray] at this
    rw [hv,List.getElem?_reverse hj,this]
   ·rw [Array.getElem?_eq_none (by omega),List.getElem?_eq_none (by rw [List.length_reverse]; omega)]
  have rv:=iY r
  rw [<- ea] at rv
  have L1:(s1.heap.push (revObj l (((its.toArray).size:Int) - 1))).objs.size=s1.heap.objs.size + 1:=by
   simp [Heap.push]
  refine ⟨.ref (s1.heap.push (revObj l (((its.toArray).size:Int) - 1))).objs.size,_,I1.laid (o := .lst xs.reverse) (fun b u eb=>k b u (Nat.ne_of_lt (Heap.lt_size eb)) (Heap.get?_push_of_some _ eb)) (by rw [L1]; omega) ⟨by rw [List.length_reverse]; exact hz,acc'.toList,c',rv,by simpa using e'⟩,rfl,q _ (I1.hok.fresh (by rw [L1]; omega))⟩
end
end L2
namespace L2.Rem
open PySem PySem.SeqAt PySem.MeetsSeq
open AutoSeq1 (wpAny_loadPart')
end L2.Rem
namespace L2
open PySem PySem.Spec PyProof.Rows
section
variable {X:Cx}
end
open PySem PySem.Spec PyProof.Rows
section
variable {X:Cx}
end
open PySem PySem.Spec PyProof.Rows
section
variable {X:Cx}
theorem nv:bJ X (.builtin "len") (fun xs H Q=>∃ (a:Addr) (ys:List V),xs=[.ref a]/\H a=some (dD X.w a ys)/\ys.length < 1000/\Q (.int ys.length) H):=by
 intro pins s σ H xs us Q I r h
 obtain ⟨a,ys,rfl,ha,hl,q⟩:=h
 obtain ⟨u,rfl,ru⟩:=vals1 r
 cases (show u=Value.ref a from ru)
 obtain ⟨⟨es,⟨ep,t,ho,T,_⟩,rv⟩,_⟩:=(show bB X.prog X.w H s.heap a (dD X.w a ys) from I.hok a _ ha)
 have l:=rv.length
 have l2:es.size=ys.length:=by simpa using l.symm
 refine call_len_set ho ⟨rfl,rfl,rfl⟩ rfl (by have:=T.fits; rwa [Array.size_map] at this) (by omega) ?_
 rw [l2]
 exact ⟨.int ys.length,H,I.tok _,⟨_,rfl⟩,q⟩
end
open PySem PySem.Spec PyProof.Rows
section
variable {X:Cx}
end
open PySem PySem.Spec PyProof.Rows
open PySem PySem.Spec PyProof.Rows
def pR:Stmt->List Stmt
 | .For _ _ body _ _=>body
 | _=>[]
theorem iZ {ns:List Int} {i:Nat} {x:V} (e:(ns.map V.int)[i]? = some x):∃ u,ns[i]? = some u/\x = .int u:=by
 rw [List.getElem?_map] at e
 cases z:ns[i]? with
 | none=>rw [z] at e; cases e
 | some tt=>rw [z] at e; exact ⟨tt,rfl,(Option.some.inj e).symm⟩
variable {X:Cx}
open PySem PySem.Spec PyProof.Rows
section
variable {X:Cx}
theorem tG {k:Int}:∀ {ns:List Int} {m:Nat} (h:m < ns.length),m < ns.idxOf k->ns[m] ≠ k
 | [],m,h,_=>absurd h (Nat.not_lt_zero _)
 | n :: ns,0,_,l=>by
  intro z
  have e:(n :: ns)[0]=n:=rfl
  rw [e] at z
  subst z
  simp at l
 | n :: ns,m + 1,h,l=>by
  have h':m < ns.length:=Nat.lt_of_succ_lt_succ h
  show ns[m] ≠ k
  refine tG h' ?_
  by_cases e:n=k
  ·subst e; simp at l
  ·rw [List.idxOf_cons,show (n == k)=false by simpa using e] at l
   simp at l
   exact l
def pS (K:PySem.W.Frag):R2:=fun x y H Q=>∃ a b xs ys,x = .ref a/\y = .ref b/\SqT K H a xs/\SqT K H b ys/\xs.length + ys.length<=sizeLine/\(xs=[]->Q (.ref b) H)/\(ys=[]->Q (.ref a) H)/\(xs ≠ []->ys ≠ []->∀ p,H p=none->Q (.ref p) (upd H p (.tup (xs ++ ys))))
theorem tH:OpR X (binaryOp .Add) (pS X.K):=by
 intro pins s σ H x y v u Q I rx ry h
 obtain ⟨a,b,xs,ys,rfl,rfl,ha,hb,hz,q1,q2,q3⟩:=h
 by_cases hx:xs=[]
 ·cases rx
  cases ry
  obtain ⟨its,r1,p1,_⟩:=I.tuple ha
  obtain ⟨its2,r2,p2,_⟩:=I.tuple hb
  obtain ⟨⟨c1,d1,da1,s1⟩,o1,k1,n1,g1⟩:=id p1
  obtain ⟨⟨c2,d2,da2,s2⟩,o2,k2,n2,g2⟩:=id p2
  simp only at k1 g1 k2 g2
  subst k1 g1 k2 g2
  have e0:its=[]:=r1.ik.mpr hx
  exact concat_meets ⟨_,o1,rfl⟩ ⟨_,o2,rfl⟩ noFill_tuple_add seq_tuple_add PySem.F.slot_tuple_add PySem.F.entry_tuple_add (PySem.F.args_tuple_add_2 _ _)
   (tuple_addW0 a b its.toArray its2.toArray n1 n2 d1 d2 s1 s2 (by simp [e0])) ⟨o1,o2,⟨.ref b,H,I,rfl,q1 hx⟩⟩
 ·exact uB pins s σ H _ _ v u Q I rx ry ⟨a,b,xs,ys,rfl,rfl,ha,hb,hx,hz,q2,fun hy=>q3 hx hy⟩
theorem pS.one {K:PySem.W.Frag} {H:Hp} {Q:VK} {a b:Addr} {xs ys:List V} (ha:H a=some (.tup xs)) (hb:H b=some (.tup ys)) (hz:xs.length + ys.length<=sizeLine) (q:∀ p H',aA H H'->H' p=some (.tup (xs ++ ys))->Q (.ref p) H'):pS K (.ref a) (.ref b) H Q:=by
 refine ⟨a,b,xs,ys,rfl,rfl,SqT.of ha,SqT.of hb,hz,fun z => ?_,fun z => ?_,fun _ _ p hp=>q p _ (ae hp _) ag⟩
 ·subst z; exact q b H (aA.refl _) hb
 ·subst z; exact q a H (aA.refl _) (by rw [List.append_nil]; exact ha)
end
open PySem PySem.Spec PyProof.Rows
section
variable {prog:Program} {w:World} {A:Around} {E:Value->Shared->Prop} {s:Shared}
end
end L2
namespace Srt
open PySem PyProof.Rows
section
variable {prog:Program} {w:World} {A:Around} {E:Value->Shared->Prop} {s:Shared}
end
end Srt
namespace L2
open PySem PySem.Spec PyProof.Rows
section
variable {X:Cx}
end
open PySem PySem.Spec PyProof.Rows
open PySem PySem.Spec PyProof.Rows
section
variable {X:Cx}
end
open PySem PySem.Spec PyProof.Rows
section
variable {X:Cx}
end
end L2
namespace SDct
open PySem PyProof.Rows Srt
section
variable {prog:Program} {w:World} {A:Around} {E:Value->Shared->Prop} {s:Shared} {T:String} {r d:Addr} {n:Nat} {P:Nat->Value->Prop} {OK:Heap->Prop}
end
end SDct
namespace L2
open PySem PySem.Spec PyProof.Rows Srt
section
variable {X:Cx}
end
open PySem PySem.Spec PyProof.Rows
section
variable {X:Cx}
end
open PySem PySem.Spec PyProof.Rows
section
variable {X:Cx}
end
end L2
namespace L2.RvT
open PySem PyProof.Rows
open Sem (wp)
theorem gO:Manifest.owners.lookup (String.ofList ['d', 'e', 's', 'r', 'e', 'v', 'e', 'r'].reverse)=some Manifest.sig_reversed:=by kernel_rfl
theorem slot_next:Slot "reversed" "__next__" "reversed.__next__" :=
 .of (owner := "reversed") (n := "__next__") (by rw [typeLookup_type,builtinLookup_eq_fast]; kernel_rfl) (by decide +kernel) (by decide +kernel) (by decide +kernel)
  (by first | exact .inl (by decide +kernel) | exact .inr (by decide +kernel)) (by rw [isSubtype_type]; kernel_rfl)
theorem entry_next:entryFor table "reversed.__next__" = some Builtin.«reversed.__next__» := entryFor_of_tree (by kernel_rfl)
theorem args_next (a:Value):argsOk "reversed.__next__" ⟨[a],[]⟩:=by
 unfold argsOk; rw [signature?_of (id := "reversed.__next__") (n:=['_', '_', 't', 'x', 'e', 'n', '_', '_']) (o:=['d', 'e', 's', 'r', 'e', 'v', 'e', 'r']) (by kernel_rfl) gO]; kernel_rfl
theorem kE:Slot "reversed" "__iter__" "reversed.__iter__" :=
 .of (owner := "reversed") (n := "__iter__") (by rw [typeLookup_type,builtinLookup_eq_fast]; kernel_rfl) (by decide +kernel) (by decide +kernel) (by decide +kernel)
  (by first | exact .inl (by decide +kernel) | exact .inr (by decide +kernel)) (by rw [isSubtype_type]; kernel_rfl)
theorem ra (a:Value):argsOk "reversed.__iter__" ⟨[a],[]⟩:=by
 unfold argsOk; rw [signature?_of (id := "reversed.__iter__") (n:=['_', '_', 'r', 'e', 't', 'i', '_', '_']) (o:=['d', 'e', 's', 'r', 'e', 'v', 'e', 'r']) (by kernel_rfl) gO]; kernel_rfl
theorem oP:entryFor table "reversed.__iter__" = some Builtin.«dict_keyiterator.__iter__» :=
 entryFor_alias (id' := "dict_keyiterator.__iter__") (by kernel_rfl) (by first | rfl | decide +kernel | (unfold String.splitOn; simp +decide [String.splitOnAux])) (by decide +kernel) (by kernel_rfl)
theorem xk:typeLookup (.type "tuple") "__reversed__" = pure none:=by rw [typeLookup_type,builtinLookup_eq_fast]; kernel_rfl
theorem oM:typeLookup (.type "reversed") "__len__" = pure none:=by rw [typeLookup_type,builtinLookup_eq_fast]; kernel_rfl
theorem gs:typeLookup (.type "reversed") "__length_hint__" = pure (some (.builtin "reversed.__length_hint__")):=by rw [typeLookup_type,builtinLookup_eq_fast]; kernel_rfl
theorem sub_self:isSubtype (.type "reversed") (.type "reversed")=pure true:=by rw [isSubtype_type]; kernel_rfl
theorem tI:isSubtype (.type "tuple") (.type "dict")=pure false:=by rw [isSubtype_type]; kernel_rfl
theorem rb:Slot "reversed" "__init__" "object.__init__" :=
 .of (owner := "object") (n := "__init__") (by rw [typeLookup_type,builtinLookup_eq_fast]; kernel_rfl) (by decide +kernel) (by decide +kernel) (by decide +kernel)
  (by first | exact .inl (by decide +kernel) | exact .inr (by decide +kernel)) (by rw [isSubtype_type]; kernel_rfl)
theorem called:TypeCalled "reversed" "reversed.__new__" "object.__init__" :=
 ⟨by decide +kernel,by decide +kernel,⟨_,_,PySem.F.mro_reversed⟩,madeBy_type PySem.F.mro_reversed PySem.F.lookup_reversed_new (by decide +kernel),by decide +kernel,by rw [isSubtype_type]; kernel_rfl,rb⟩
def rvO (t:Addr) (i:Int):Obj:={ cls := .type "reversed",data := .fields #[.ref t,rawInt i] }
def fD (h:Heap) (a t:Addr) (i:Int):Prop:=∃ o,h.get? a=some o/\o.cls = .type "reversed" /\ o.data = .fields #[.ref t,rawInt i]
section
variable {prog:Program} {w:World} {A:Around} {E:Value->Shared->Prop} {s:Shared}
theorem fD.typeIs {a t:Addr} {i:Int} (x:fD s.heap a t i):s.TypeIs (.ref a) "reversed" := let ⟨o,ho,hc,_⟩:=x; ⟨o,ho,hc⟩
theorem fD.at {h h':Heap} {a t:Addr} {i:Int} (x:fD h a t i) (e:∀ o,h.get? a=some o->h'.get? a=some o):fD h' a t i:=let ⟨o,ho,r⟩:=x; ⟨o,e _ ho,r⟩
theorem nz {h h':Heap} {a:Addr} {its:Array Value} (x:IsTup h a its) (e:∀ o,h.get? a=some o->h'.get? a=some o):IsTup h' a its:=let ⟨o,ho,r⟩:=x; ⟨o,e _ ho,r⟩
theorem rf (t:Addr) (its:Array Value) (hz:(its.size:Int) < 2 ^ 63) :
  Meets (Builtin.«reversed.__new__» ⟨[.type "reversed",.ref t],[]⟩) (fun _ R s=>IsTup s.heap t its/\R (.ok (.ret (.ref s.heap.objs.size))) { s with heap:=s.heap.push (rvO t ((its.size:Int) - 1)),toks:=s.toks + 1 + 1 }) :=
 .of_wp fun prog w A R s h=>by
  obtain ⟨ht,h⟩:=h
  unfold Builtin.«reversed.__new__»
  refine wpAny_bind (wpAny_of_eq (newClass_reversed _) ?_)
  try dsimp only
  refine wpAny_bind (wpAny_of_eq (a:=()) (by first | rfl | kernel_rfl) ?_)
  refine wpAny_bind (wpAny_of_eq (a:=()) (by first | rfl | kernel_rfl) ?_)
  try dsimp only
  refine wpAny_bind (wpAny_specialOf ht.typeIs xk ?_)
  try dsimp only
  refine wpAny_bind ?_
  show wpAny _ _ (isInstance (.ref t) (.type "dict") >>= _) _ _ s
  refine wpAny_bind (wpAny_isInstance (T := "tuple") (b:=false) ht.typeIs tI ?_)
  refine wpAny_ite_split (fun hab=>absurd hab (by decide)) (fun _ => ?_)
  refine wpAny_bind (wpAny_specialOf ht.typeIs PyProof.Rows.slot_tuple_getitem.lookup ?_)
  refine wpAny_ite_split (fun _=>wpAny_pure ?_) (fun hab=>absurd (by decide +kernel) hab)
  refine wpAny_ite_split (fun hab=>absurd hab (by decide)) (fun _ => ?_)
  refine wpAny_bind (len_tuple ht hz ?_)
  refine wpAny_bind (wpAny_of_eq (a:=some (its.size:Int)) rfl ?_)
  refine wpAny_bind ?_
  show wpAny _ _ (newObj (.type "reversed") (.fields #[.ref t,rawInt ((its.size:Int) - 1)])) _ _ _
  exact wpAny_newObj_type (wpAny_pure ⟨_,rfl,h⟩)
theorem tJ {t:Addr} {its:Array Value} {Q:Value->Shared->Prop} (ht:IsTup s.heap t its) (hz:(its.size:Int) < 2 ^ 63)
  (h:Q (.ref s.heap.objs.size) { s with heap:=s.heap.push (rvO t ((its.size:Int) - 1)),toks:=s.toks + 1 + 1 }):wpAny (model prog w) A (call (.type "reversed") [.ref t]) Q E s:=by
 refine callType_new called (by decide) (PySem.F.typeCall_reversed_1 _) (PySem.F.newCall_reversed_1 _) (fun obj=>PySem.F.args_object_init_2 obj _) PySem.F.entry_reversed_new (rf t its hz) ⟨ht,?_⟩
 exact ⟨⟨_,Heap.get?_push_size _ rfl,rfl⟩,h⟩
theorem next_item {I t:Addr} {i:Nat} {its:Array Value} {x:Value} {Q:Option Value->Shared->Prop} (hit:fD s.heap I t (i:Int)) (ht:IsTup s.heap t its) (hx:its[i]? = some x) (hi:(i:Int) < 2 ^ 63)
  (hQ:∀ h' tk,fD h' I t ((i:Int) - 1)->Heap.SameBut I s.heap h'->Q (some x) { s with heap:=h',toks:=tk }):wpAny (model prog w) A (pyNext (.ref I)) Q E s:=by
 obtain ⟨o,ho,hc,hd⟩:=id hit
 unfold pyNext
 refine wpAny_bind (wpAny_attempt (wpAny_callSpecial?_slot (name:=Str.ofString "__next__") hit.typeIs slot_next (wpAny_call_entry slot_next hit.typeIs entry_next ?_ (args_next _))))
 unfold Builtin.«reversed.__next__»
 refine wpAny_bind (wpAny_of_eq (a:=(Value.ref I,[])) rfl ?_)
 try dsimp only
 refine wpAny_bind (wpAny_field ho hd (x := .ref t) rfl ?_)
 refine wpAny_bind (wpAny_field ho hd (x:=rawInt (i:Int)) rfl ?_)
 show wpAny _ _ (if (i:Int) < 0 then _ else _) _ _ s
 rw [if_neg (by omega)]
 show wpAny _ _ (specialOf (.ref t) "__getitem__" >>= _) _ _ s
 refine wpAny_bind (wpAny_specialOf ht.typeIs PyProof.Rows.slot_tuple_getitem.lookup ?_)
 refine wpAny_ite_split (fun hab=>absurd hab (by decide)) (fun _ => ?_)
 refine wpAny_bind (wpAny_mkInt ?_)
 refine wpAny_bind (wpAny_attempt ?_)
 refine PyProof.Rows.getItem_tuple (j:=i) ht (by omega) hi (seqIndex_of (by omega) (by have:=(Array.getElem?_eq_some_iff.mp hx).1; omega)) hx ?_
 refine wpAny_bind (wpAny_field ho hd (x:=rawInt (i:Int)) rfl ?_)
 show wpAny _ _ (setField (.ref I) 1 (rawInt ((i:Int) - 1)) >>= fun _=>ret x) _ _ _
 refine wpAny_bind (wpAny_setField ho hd (by simp) ?_)
 refine wpAny_pure ⟨x,rfl,wpAny_pure (hQ _ _ ?_ (Heap.SameBut.update ..))⟩
 exact ⟨_,Heap.get?_update_self _ ho (Obj.isFreed_of_fields (Obj.data_mapFields hd _)),(Obj.cls_mapFields ..).trans hc,by rw [Obj.data_mapFields hd]; simp⟩
theorem next_end {I t:Addr} {Q:Option Value->Shared->Prop} (hh:A.handled=none) (hit:fD s.heap I t (-1))
  (hQ:∀ h',Heap.ExtBut I s.heap h'->Q none { s with heap:=h' }):wpAny (model prog w) A (pyNext (.ref I)) Q E s:=by
 obtain ⟨o,ho,hc,hd⟩:=id hit
 unfold pyNext
 refine wpAny_bind (wpAny_attempt (wpAny_callSpecial?_slot (name:=Str.ofString "__next__") hit.typeIs slot_next (wpAny_call_entry slot_next hit.typeIs entry_next ?_ (args_next _))))
 unfold Builtin.«reversed.__next__»
 refine wpAny_bind (wpAny_of_eq (a:=(Value.ref I,[])) rfl ?_)
 try dsimp only
 refine wpAny_bind (wpAny_field ho hd (x := .ref t) rfl ?_)
 refine wpAny_bind (wpAny_field ho hd (x:=rawInt (-1)) rfl ?_)
 show wpAny _ _ (if (-1:Int) < 0 then _ else _) _ _ s
 rw [if_pos (by decide)]
 refine wpAny_bind (wpAny_rule ?_)
 refine wpAny_bind ?_
 show wpAny _ _ (setField (.ref I) 1 (rawInt (-1)) >>= fun _=>setField (.ref I) 0 .none) _ _ s
 refine wpAny_bind (wpAny_setField ho hd (by simp) ?_)
 have h1:=Heap.get?_update_self (Obj.mapFields fun fs=>fs.setIfInBounds 1 (rawInt (-1))) ho (Obj.isFreed_of_fields (Obj.data_mapFields hd _))
 refine wpAny_setField h1 (Obj.data_mapFields hd _) (by simp) ?_
 refine wpAny_bind ?_
 show wpAny _ _ (newExc (.type "StopIteration") [] >>= _) _ _ _
 refine wpAny_bind ?_
 simp only [newExc,newTuple]
 refine wpAny_bind (wpAny_newObj_type ?_ (by size_fits))
 refine wpAny_bind (m:=firstArgMember _ _) (wpAny_of_eq (a:=Value.none) (by first | rfl | (simp only [firstArgMember]; rfl)) ?_)
 refine wpAny_newObj_type ?_ (by size_fits)
 simp only [raiseNew]
 refine wpAny_bind (wpAny_handled ?_)
 first | rw [show A.in1.handled=none from hh] | rw [hh]
 refine wpAny_bind (wpAny_pure (wpAny_throw ?_))
 refine wpAny_bind (wpAny_isInstance (T := "StopIteration") (b:=true) ⟨_,Heap.get?_push_size _ rfl,rfl⟩ isSubtype_stop ?_)
 refine wpAny_pure (hQ _ ?_)
 refine Heap.ExtBut.push (Heap.ExtBut.push (fun b o hb eo => ?_) _) _
 exact (Heap.get?_update_other _ _ (Ne.symm hb)).trans ((Heap.get?_update_other _ _ (Ne.symm hb)).trans eo)
theorem pW {I t:Addr} {i:Int} {Q:Value->Shared->Prop} (hit:fD s.heap I t i) (h:Q (.ref I) s):wpAny (model prog w) A (pyIter (.ref I)) Q E s:=by
 refine wpAny_pyIter_slot hit.typeIs kE (wpAny_call_entry kE hit.typeIs oP ?_ (ra _))
 show wpAny _ _ (ret (.ref I)) _ _ s
 exact wpAny_pure ⟨_,rfl, "reversed",_,hit.typeIs,slot_next.lookup,h⟩
theorem kF:Slot "reversed" "__length_hint__" "reversed.__length_hint__" :=
 .of (owner := "reversed") (n := "__length_hint__") gs (by decide +kernel) (by decide +kernel) (by decide +kernel)
  (by first | exact .inl (by decide +kernel) | exact .inr (by decide +kernel)) sub_self
theorem oQ:entryFor table "reversed.__length_hint__" = some Builtin.«reversed.__length_hint__» := entryFor_of_tree (by kernel_rfl)
theorem rh (a:Value):argsOk "reversed.__length_hint__" ⟨[a],[]⟩:=by
 unfold argsOk; rw [signature?_of (id := "reversed.__length_hint__") (n:=['_', '_', 't', 'n', 'i', 'h', '_', 'h', 't', 'g', 'n', 'e', 'l', '_', '_']) (o:=['d', 'e', 's', 'r', 'e', 'v', 'e', 'r']) (by kernel_rfl) gO]; kernel_rfl
theorem ri {I t:Addr} {its:Array Value} {Q:Value->Shared->Prop} (hit:fD s.heap I t ((its.size:Int) - 1)) (ht:IsTup s.heap t its) (hz:(its.size:Int) < 2 ^ 63)
  (h:∀ u tk,Q (.int its.size u) { s with toks:=tk }):wpAny (model prog w) A (call (.builtin "reversed.__length_hint__") [.ref I]) Q E s:=by
 obtain ⟨o,ho,hc,hd⟩:=id hit
 refine wpAny_call_entry kF hit.typeIs oQ ?_ (rh _)
 unfold Builtin.«reversed.__length_hint__»
 refine wpAny_bind (wpAny_of_eq (a:=Value.ref I) rfl ?_)
 refine wpAny_bind (wpAny_field ho hd (x := .ref t) rfl ?_)
 refine wpAny_ite_split (fun hab=>absurd hab (show ¬ (false=true) from Bool.false_ne_true)) (fun _ => ?_)
 refine wpAny_bind (len_tuple ht hz ?_)
 refine wpAny_bind (wpAny_of_eq (a:=some (its.size:Int)) rfl ?_)
 refine wpAny_bind (wpAny_field ho hd (x:=rawInt ((its.size:Int) - 1)) rfl ?_)
 show wpAny _ _ (if (its.size:Int) < ((its.size:Int) - 1) + 1 then _ else retInt (((its.size:Int) - 1) + 1)) _ _ _
 rw [if_neg (by omega),show ((its.size:Int) - 1) + 1=its.size by omega]
 exact wpAny_bind (wpAny_mkInt (wpAny_pure ⟨_,rfl,h _ _⟩))
theorem vj {I t:Addr} {its:Array Value} {Q:Bool->Shared->Prop} (hit:fD s.heap I t ((its.size:Int) - 1)) (ht:IsTup s.heap t its) (hz:its.size<=2 ^ 24) (h:∀ b tk,Q b { s with toks:=tk }):wpAny (model prog w) A (Builtin.List.listLengthHint (.ref I)) Q E s:=by
 unfold Builtin.List.listLengthHint
 refine wpAny_bind (wpAny_specialOf hit.typeIs oM ?_)
 wp_delta
 refine wpAny_bind (wpAny_specialOf hit.typeIs gs ?_)
 generalize hid:("reversed.__length_hint__" : String)=id0
 wp_delta
 rw [show splitId id0=some ("reversed", "__length_hint__") from by subst hid; decide +kernel]
 subst hid
 refine wpAny_bind (wpAny_isInstance (T := "reversed") (b:=true) hit.typeIs sub_self ?_)
 refine wpAny_ite_split (fun hab=>absurd hab (by decide)) (fun _ => ?_)
 refine wpAny_ite_split (fun hab=>absurd hab (by decide +kernel)) (fun _ => ?_)
 refine wpAny_bind (wpAny_rule ?_)
 refine wpAny_bind (wpAny_of_eq (kF.bind _) ?_)
 refine wpAny_bind (wpAny_attempt (ri hit ht (by omega) fun u tk => ?_))
 show wpAny _ A (asInt? (.int (its.size:Int) u) >>= _) Q E _
 have ea:asInt? (Value.int (its.size:Int) u)=pure (some (its.size:Int)):=rfl
 rw [ea,pure_bind]
 generalize hn:(its.size:Int)=n
 dsimp only
 refine wpAny_ite_split (fun hab=>absurd hab ?_) (fun _ => ?_)
 ·unfold Builtin.List.listFitsIndex; simp; omega
 refine wpAny_ite_split (fun hab=>absurd hab (by omega)) (fun _ => ?_)
 refine wpAny_ite_split (fun hab=>absurd hab ?_) (fun _ => ?_)
 ·rw [L2.iF (by rw [sizeLine_eq]; omega)]; exact Bool.false_ne_true
 exact wpAny_pure (h _ _)
end
theorem walk {prog:Program} {w:World} {A:Around} (hh:A.handled=none) (I t:Addr) (hne:t ≠ I) (its:Array Value) (hz:(its.size:Int) < 2 ^ 63) :
  Walks prog w A I [I,t] [I] its.size (fun i v=>its[its.size - 1 - i]? = some v) (fun i h=>i<=its.size/\fD h I t ((its.size:Int) - 1 - (i:Int))/\IsTup h t its) where
 sub:=fun b hb=>by simp at hb; simp [hb]
 frame:=fun _ _ _ x hk=>⟨x.1,x.2.1.at fun o e=>hk I (by simp) o e,nz x.2.2 fun o e=>hk t (by simp) o e⟩
 item:=fun i s Q E hi x hQ=>by
  have e:(its.size:Int) - 1 - (i:Int)=((its.size - 1 - i:Nat):Int):=by omega
  have hit:=x.2.1
  rw [e] at hit
  have hx:its[its.size - 1 - i]? = some (its[its.size - 1 - i]'(by omega)):=Array.getElem?_eq_getElem (by omega)
  refine next_item hit x.2.2 hx (by omega) fun h' tk hit' hs' => ?_
  have e2:((its.size - 1 - i:Nat):Int) - 1=(its.size:Int) - 1 - ((i + 1:Nat):Int):=by omega
  rw [e2] at hit'
  exact hQ _ h' tk hx ⟨hi,hit',nz x.2.2 fun o eo=>(hs'.2 t hne).trans eo⟩ fun b o hb eo=>hs'.extBut b o (fun h=>hb (by simp [h])) eo
 done:=fun s Q E x hQ=>by
  have e:(its.size:Int) - 1 - (its.size:Int) = -1:=by omega
  have hit:=x.2.1
  rw [e] at hit
  exact next_end hh hit fun h' he'=>hQ h' s.toks fun b o hb eo=>he' b o (fun h=>hb (by simp [h])) eo
 self:=fun _ _ _ _ x hQ=>pW x.2.1 hQ
section
variable {prog:Program} {w:World} {A:Around} {E:Value->Shared->Prop} {s:Shared}
theorem rj {R:Result->Shared->Prop} {I t:Addr} {items:Array Value} (hh:A.handled=none) (hit:fD s.heap I t ((items.size:Int) - 1)) (hl:IsTup s.heap t items) (hne:t ≠ I) (hlen:items.size<=2 ^ 24)
  (S:Addr) (hSI:S ≠ I) (hSl:S ≠ t) (res:Value) (c₀:Nat) (hS:s.heap.get? S=some { cls := .type "list",data := .seq #[] c₀ })
  (hR:∀ h' tk acc' c',(∀ b o,b ≠ S->b ≠ I->s.heap.get? b=some o->h'.get? b=some o)->h'.get? S=some { cls := .type "list",dict:=none,data := .seq acc' c',slots := #[] } →
   ItemsOf (fun i v=>items[items.size - 1 - i]? = some v) acc' items.size->R (.ok (.ret res)) { s with heap:=h',toks:=tk }) :
  wpAny (model prog w) A.in1 (Builtin.List.listExtendWith (.ref S) (.ref I) res)
   (fun fin s'=>match fin with | .done f=>R (.ok f) s' | .again c'=>c'.quiet=true/\codeAny (model prog w) A c' R s') (fun e s'=>R (.error e) s') s:=by
 have hSf:S ∉ [I,t]:=fun hm=>by
  rcases List.mem_cons.mp hm with e | hm
  ·exact hSI e
  ·exact hSl (List.mem_singleton.mp hm)
 have W:=(walk (prog:=prog) (w:=w) (A:=A.in1) hh I t hne items (by omega)).toS
 unfold Builtin.List.listExtendWith
 refine wpAny_bind (wpAny_typeOf (T := "reversed") hit.typeIs ?_)
 have h1:Builtin.List.listSameRef (.ref S) (.ref I)=false:=by simp [Builtin.List.listSameRef,hSI]
 have h2:(Value.type "reversed" == Value.type "list")=false:=by decide +kernel
 have h3:(Value.type "reversed" == Value.type "tuple")=false:=by decide +kernel
 simp only [h1,h2,h3,Bool.or_false,Bool.false_eq_true,if_false]
 refine wpAny_bind (pW hit ?_)
 refine wpAny_bind (wpAny_holding (vj hit hl hlen fun b tk => ?_))
 refine wpAny_ite_split (fun _ => ?_) (fun _=>wpAny_pure ⟨plainId_quiet PySem.F.plain_extend_loop _,?_⟩)
 ·refine wpAny_bind (wpAny_rule ?_)
  refine wpAny_bind ?_
  show wpAny _ A.in1 (updateSeq S (·.push .none) >>= fun _=>updateSeq S (·.pop)) _ _ _
  refine wpAny_bind (wpAny_updateSeq hS rfl ?_)
  have hS₂:=Heap.get?_update_self (Obj.mapSeq (·.push Value.none)) hS rfl
  refine wpAny_updateSeq (hz:=by seq_fits) hS₂ rfl ?_
  have hS₃:=Heap.get?_update_self (Obj.mapSeq (·.pop)) hS₂ rfl
  have oth:∀ b o,b ≠ S->s.heap.get? b=some o->((s.heap.update S (Obj.mapSeq (·.push Value.none))).update S (Obj.mapSeq (·.pop))).get? b=some o :=
   fun b o hb e=>(Heap.get?_update_other _ _ (Ne.symm hb)).trans ((Heap.get?_update_other _ _ (Ne.symm hb)).trans e)
  refine wpAny_pure ⟨plainId_quiet PySem.F.plain_extend_loop _,codeAny_extend_loopS W (by rw [sizeLine_eq]; omega) S hSf res items.size 0 _ _ _ rfl (Nat.zero_le _) ⟨Nat.zero_le _,by simpa using hit.at fun o e=>oth I o (Ne.symm hSI) e,nz hl fun o e=>oth t o (Ne.symm hSl) e⟩ hS₃ (ItemsOf.nil _) fun s' acc' c' hm hS' hacc => ?_⟩
  rw [Moved.eq_with hm]
  refine hR s'.heap s'.toks acc' c' (fun b o hb hbI e=>hm.heap b o (fun hmem => ?_) (oth b o hb e)) hS' hacc
  rcases List.mem_cons.mp hmem with e' | hmem
  ·exact hb e'
  ·exact hbI (List.mem_singleton.mp hmem)
 refine codeAny_extend_loopS W (by rw [sizeLine_eq]; omega) S hSf res items.size 0 _ #[] c₀ rfl (Nat.zero_le _) ⟨Nat.zero_le _,by simpa using hit,hl⟩ hS (ItemsOf.nil _) fun s' acc' c' hm hS' hacc => ?_
 rw [Moved.eq_with hm]
 refine hR s'.heap s'.toks acc' c' (fun b o hb hbI e=>hm.heap b o (fun hmem => ?_) e) hS' hacc
 rcases List.mem_cons.mp hmem with e' | hmem
 ·exact hb e'
 ·exact hbI (List.mem_singleton.mp hmem)
theorem oR {R:List Value->Shared->Prop} {I t:Addr} {items:Array Value} (hh:A.handled=none) (hit:fD s.heap I t ((items.size:Int) - 1)) (hl:IsTup s.heap t items) (hne:t ≠ I) (hlen:items.size<=2 ^ 24)
    (h:∀ (h1:Heap) (tk:Nat) (vs:List Value),vs=items.toList.reverse->(∀ b o,b ≠ I->s.heap.get? b=some o->h1.get? b=some o)->R vs { s with heap:=h1,toks:=tk }) :
    wpAny (model prog w) A (collect (.ref I)) R E s:=by
  obtain ⟨oi,hoi,_⟩:=id hit
  obtain ⟨ol,hol,_⟩:=id hl
  unfold collect
  refine wpAny_bind (wpAny_runValue (codeAny_builtin PySem.F.entry_proto_collect ?_))
  rw [Around.under_plainId PySem.F.plain_proto_collect _]
  show wpAny _ A.in1 (newList [] >>= fun l=>again (.builtin "list.__iadd__" ⟨[l,.ref I],[]⟩)) _ _ s
  refine wpAny_bind (wpAny_newObj_type ?_)
  refine wpAny_pure ⟨plainId_quiet PySem.F.plain_list_iadd _,codeAny_builtin PySem.F.entry_list_iadd ?_⟩
  rw [Around.under_plainId PySem.F.plain_list_iadd _]
  show wpAny _ A.in1 (Builtin.List.listExtendWith (.ref s.heap.objs.size) (.ref I) (.ref s.heap.objs.size)) _ _ { s with heap:=s.heap.push { cls := .type "list",data := .seq ([]:List Value).toArray } }
  have hS0:(s.heap.push { cls := .type "list",data := .seq ([]:List Value).toArray }).get? s.heap.objs.size=some { cls := .type "list",data := .seq #[] 0 }:=Heap.get?_push_size _ rfl
  refine rj (A:=A) (R:=fun res s'=>match res with
      | .ok (.ret v)=>wpAny (model prog w) A (match v with | .ref a=>(do match (← load a).data with | .seq xs _=>pure xs.toList | _=>unsupported "internal:collect") | _=>unsupported "internal:collect") R E s'
      | .ok _=>False
      | .error e=>E e s') (s:={ s with heap:=s.heap.push { cls := .type "list",data := .seq ([]:List Value).toArray } }) hh (hit.at fun o e=>Heap.get?_push_of_some _ e) (nz hl fun o e=>Heap.get?_push_of_some _ e) hne hlen s.heap.objs.size (Ne.symm (Nat.ne_of_lt (Heap.lt_size hoi))) (Ne.symm (Nat.ne_of_lt (Heap.lt_size hol))) (.ref s.heap.objs.size) 0 hS0 fun h' tk acc' c' kk hS' it => ?_
  show wpAny _ A (load s.heap.objs.size >>= _) _ _ { s with heap:=h',toks:=tk }
  refine wpAny_bind (wpAny_load hS' ?_)
  refine wpAny_pure (h h' tk acc'.toList ?_ fun b o hb e=>kk b o (Nat.ne_of_lt (Heap.lt_size e)) hb (Heap.get?_push_of_some _ e))
  refine List.ext_getElem? fun j => ?_
  rw [Array.getElem?_toList]
  have h1:acc'.size=items.toList.length:=it.1
  by_cases hj:j < items.toList.length
  · obtain ⟨v,hv⟩:∃ v,acc'[j]? = some v:=⟨acc'[j]'(by omega),Array.getElem?_eq_getElem _⟩
    have:=it.2 j v hv
    dsimp only at this
    rw [<- Array.getElem?_toList] at this
    rw [hv,List.getElem?_reverse hj, <- this]
    rfl
  · rw [Array.getElem?_eq_none (by omega),List.getElem?_eq_none (by rw [List.length_reverse]; omega)]
theorem ij (I t:Addr) (items:Array Value) (hne:t ≠ I) (hn:items.size<=1000) :
  Meets (Builtin.«tuple.__new__» ⟨[.type "tuple",.ref I],[]⟩)
   (fun A R s=>A.handled=none/\fD s.heap I t ((items.size:Int) - 1)/\IsTup s.heap t items/\∀ (h':Heap) (tk:Nat),(∀ b o',b ≠ I->s.heap.get? b=some o'->h'.get? b=some o')->R (.ok (.ret (.ref h'.objs.size))) { s with heap:=h'.push { cls := .type "tuple",data := .seq items.toList.reverse.toArray },toks:=tk }) :=
 .of_wp fun prog w A R s h=>by
  obtain ⟨hp,g,d,tk,os⟩:=s; obtain ⟨hh,hr,ht,h⟩:=h
  have hsub:=sub_tuple_self
  have hinit:=init_tuple_lookup
  have hmh:=madeHere_tuple
  have hT:Shared.TypeIs ⟨hp,g,d,tk,os⟩ (.ref I) "reversed" := fD.typeIs (s:=⟨hp,g,d,tk,os⟩) hr
  wp_walk using wpAny_typeOf hT,oR (by simpa using hh) hr ht hne (by omega)
  rintro h' tk' vs rfl hk
  show wpAny _ _ (Builtin.Tuple.tupleExact items.toList.reverse.toArray >>= fun v=>ret v) _ _ _
  unfold Builtin.Tuple.tupleExact
  refine wpAny_bind (wpAny_newObj_type ?_ (by show items.toList.reverse.toArray.size<=sizeLine; rw [List.size_toArray,List.length_reverse,Array.length_toList]; exact small hn))
  exact wpAny_pure ⟨_,rfl,h h' tk' hk⟩
end
end L2.RvT
namespace L2
open PySem PySem.Spec PyProof.Rows
section
variable {X:Cx}
theorem rn:bootBuiltins "tuple" = some (.type "tuple"):=by decide +kernel
def vk (K:PySem.W.Frag) (te:TE):TE:=fun σ H Q=>te σ H fun x H1=>∃ l xs,x = .ref l/\SqT K H1 l xs/\xs.length<=1000/\∀ p,H1 p=none->Q (.ref p) (upd H1 p (.tup xs.reverse))
theorem rp {e:Expr} {te:TE} {p1 p2 pos1 pos2:Pos} (hh:X.A.handled=none) (hg1:Gl X "tuple") (hm1:X.mg "tuple" = none) (hg2:Gl X "reversed") (hm2:X.mg "reversed" = none) (he:PE X e te)
  (hs1:starEach [Expr.Call (.Name "reversed" p2) [e] [] pos2] X.env=(false,eval (.Call (.Name "reversed" p2) [e] [] pos2) X.env) :: starEach [] X.env:=by rfl) (hp1:(backTo pos1 (starEach [] X.env)).any (·.1)=false:=by rfl)
  (hs2:starEach [e] X.env=(false,eval e X.env) :: starEach [] X.env:=by rfl) (hp2:(backTo pos2 (starEach [] X.env)).any (·.1)=false:=by rfl) :
  PE X (.Call (.Name "tuple" p1) [.Call (.Name "reversed" p2) [e] [] pos2] [] pos1) (vk X.K te):=by
 intro pins s σ H Q I h
 refine wpAny_Call_Name_kw (cI I hg1 hm1 rn ?_ (by decide) (by decide))
 refine PyProof.Rows.callWith_type1 ?_ hs1 hp1
 rw [hs1]
 show wpAny _ _ (spliced ((false,eval (.Call (.Name "reversed" p2) [e] [] pos2) X.env) :: backTo pos1 (starEach [] X.env))) _ _ s
 refine Calls.spliced_cons ?_
 refine wpAny_Call_Name_kw (cI I hg2 hm2 eV ?_ (by decide) (by decide))
 refine PyProof.Rows.callWith_type1 (thn ((aa he af hs2) pos2 pins s σ H (fun vs H1=>match vs with | [x]=>∃ l xs,x = .ref l/\SqT X.K H1 l xs/\xs.length<=1000/\∀ p,H1 p=none->Q (.ref p) (upd H1 p (.tup xs.reverse)) | _=>False) I ?_) fun us s1 ⟨vs,H1,I1,r1,q1⟩ => ?_) hs2 hp2
 ·exact h
 ·match vs,q1 with
  | [x],q1 =>
  obtain ⟨t,xs,rfl,hx,h1000,q⟩:=q1
  obtain ⟨u,rfl,ru⟩:=vals1 r1
  cases (show u=Value.ref t from ru)
  obtain ⟨its,r,ht,hz⟩:=I1.tuple hx
  have ll:=r.length
  have lz:its.toArray.size=xs.length:=by rw [List.size_toArray]; exact ll.symm
  refine RvT.tJ ht (by rw [lz]; omega) ?_
  refine Calls.spliced_nil ?_
  obtain ⟨ot,hot,_⟩:=id ht
  refine callType_new PySem.F.called_tuple (by decide) (PySem.F.typeCall_tuple_1 _) (PySem.F.newCall_tuple_1 _) (fun obj=>PySem.F.args_object_init_2 obj _) PySem.F.entry_tuple_new
   (RvT.ij s1.heap.objs.size t its.toArray (Nat.ne_of_lt (Heap.lt_size hot)) (by rw [lz]; exact h1000)) ⟨by simpa using hh,⟨_,Heap.get?_push_size _ rfl,rfl,rfl⟩,RvT.nz ht (fun o e=>Heap.get?_push_of_some _ e),fun h' tk k=>⟨⟨_,Heap.get?_push_size _ rfl,rfl⟩,?_⟩⟩
  have I2:Inv X pins σ H1 { s1 with heap:=h',toks:=tk }:=I1.kept fun b o e=>k b o (Nat.ne_of_lt (Heap.lt_size e)) (Heap.get?_push_of_some _ e)
  exact ⟨.ref h'.objs.size,_,I2.laid (o := .tup xs.reverse) (fun b ob q=>Heap.get?_push_of_some _ q) (Nat.le_refl _) ⟨by rw [List.length_reverse]; exact small h1000,its.reverse,iY r,dB.new _ _⟩,rfl,q _ (I2.hok.fresh (Nat.le_refl _))⟩
theorem dy:SlR X (fun x lo hi H Q=>∃ a xs,x = .ref a/\H a=some (.tup xs)/\∀ p2 H2,aA H H2->H2 p2=some (.tup (eG xs lo hi))->Q (.ref p2) H2):=by
 intro pins s σ H x v vl vu lo hi sl Q I rx hs pl pu h
 obtain ⟨a,xs,rfl,ep,key⟩:=h
 refine va pins s σ H _ v vl vu lo hi sl Q I rx hs pl pu ⟨a,xs,rfl,SqT.of ep,fun z=>key a H (aA.refl _) ?_,fun _ p2 hp2=>key p2 _ (ae hp2 _) ag⟩
 unfold eG
 rw [z.1,z.2,List.drop_zero,Nat.sub_zero,List.take_length]
 exact ep
theorem i4:OpR X (binaryOp .Add) (fun x y H Q=>∃ a b xs ys,x = .ref a/\y = .ref b/\H a=some (.tup xs)/\H b=some (.tup ys)/\xs.length + ys.length<=sizeLine/\∀ p H',aA H H'->H' p=some (.tup (xs ++ ys))->Q (.ref p) H'):=by
 intro pins s σ H x y v u Q I rx ry h
 obtain ⟨a,b,xs,ys,rfl,rfl,ha,hb,hz,q⟩:=h
 exact tH pins s σ H _ _ v u Q I rx ry (pS.one ha hb hz q)
end
end L2
namespace L2.MnT
open PySem PyProof.Rows
section
variable {prog:Program} {w:World} {A:Around} {E:Value->Shared->Prop} {I:Addr} {fp wr:List Addr} {n:Nat} {P:Nat->Value->Prop} {St:Nat->Heap->Prop}
def Cmp (prog:Program) (w:World) (A:Around) (P:Nat->Value->Prop) (St:Nat->Heap->Prop) (bt:Nat->Nat->Bool):Prop :=
 ∀ k i j x y (s:Shared) (Q E:Value->Shared->Prop),St k s.heap->P i x->P j y->Q (.bool (bt i j)) s->wpAny (model prog w) A (richCompare .Lt x y) Q E s
abbrev Bag (S:Addr) (xs:Array Value) (c:Nat) (h:Heap):Prop:=h.get? S=some { cls := .type "list",dict:=none,data := .seq xs c,slots := #[] }
abbrev Kept (wr:List Addr) (S:Addr) (h h':Heap):Prop:=∀ b o,b ∉ wr->b ≠ S->h.get? b=some o->h'.get? b=some o
theorem loop {R:Result->Shared->Prop} (W:Walks prog w A.in1 I fp wr n P St) {bt:Nat->Nat->Bool} (C:Cmp prog w A.in1 P St bt) {S:Addr} (nS:S ∉ fp):∀ (d j:Nat) (s:Shared) (best:Value) (c:Nat),n=j + 1 + d->St (j + 1) s.heap->P (argBest bt j) best->Bag S #[best,best] c s.heap →
  (∀ v h' tk,P (argBest bt (n - 1)) v->Kept wr S s.heap h'->R (.ok (.ret v)) { s with heap:=h',toks:=tk })->codeAny (model prog w) A (.builtin "min.loop" ⟨[.ref I,.none,.ref S],[]⟩) R s:=by
 have nw:S ∉ wr:=fun h=>nS (W.sub _ h)
 have nm:(toString "min" ++ toString ".loop" : String) = "min.loop" := by decide
 intro d
 induction d with
 | zero =>
  intro j s best c hn st pb bg hR
  have e:j + 1=n:=by omega
  rw [e] at st
  refine codeAny_builtin PySem.F.entry_min_loop ?_
  rw [Around.under_plainId PySem.F.plain_min_loop _]
  show wpAny _ _ (seqItems? (.ref S) >>= _) _ _ s
  refine wpAny_bind (wpAny_seqItems bg rfl ?_)
  show wpAny _ _ (tryCatch (pyNext (.ref I)) _ >>= _) _ _ s
  refine wpAny_bind (wpAny_tryCatch (W.done s _ _ st fun h1 tk kp => ?_))
  show wpAny _ _ (updateSeq S (fun _ => #[]) >>= _) _ _ _
  refine wpAny_bind ?_
  refine wpAny_updateSeq (kp S _ nw bg) rfl (wpAny_bind (wpAny_letGo (wpAny_pure (hR best _ tk (by rw [<- e]; exact pb) ?_))))
  exact fun b o nb ns eb=>(Heap.get?_update_other _ _ (Ne.symm ns)).trans (kp b o nb eb)
 | succ d ih =>
  intro j s best c hn st pb bg hR
  refine codeAny_builtin PySem.F.entry_min_loop ?_
  rw [Around.under_plainId PySem.F.plain_min_loop _]
  show wpAny _ _ (seqItems? (.ref S) >>= _) _ _ s
  refine wpAny_bind (wpAny_seqItems bg rfl ?_)
  show wpAny _ _ (tryCatch (pyNext (.ref I)) _ >>= _) _ _ s
  refine wpAny_bind (wpAny_tryCatch (W.item (j + 1) s _ _ (by omega) st fun v h1 tk pv st1 kp => ?_))
  have bg1:=kp S _ nw bg
  show wpAny _ _ (tryCatch (holding [v,v] (richCompare .Lt v best >>= _)) _ >>= _) _ _ _
  refine wpAny_bind (wpAny_tryCatch (wpAny_holding (wpAny_bind (C (j + 1 + 1) (j + 1) (argBest bt j) v best _ _ _ st1 pv pb ?_))))
  refine wpAny_bind (wpAny_holding (wpAny_truthy_bool ?_))
  refine wpAny_bind (wpAny_letGo (wpAny_pure ?_))
  by_cases hb:bt (j + 1) (argBest bt j)=true
  ·have ea:argBest bt (j + 1)=j + 1:=by simp only [argBest,hb,if_true]
   rw [hb]
   simp only [if_true]
   refine wpAny_bind ?_
   refine wpAny_updateSeq bg1 rfl (wpAny_bind (wpAny_letGo ?_))
   rw [nm]
   refine wpAny_pure ⟨plainId_quiet PySem.F.plain_min_loop _,ih (j + 1) _ v _ (by omega) (W.frame _ _ _ st1 fun b fb o eb => ?_) (by rw [ea]; exact pv) (Heap.get?_update_self _ bg1 rfl) fun v2 h2 tk2 p2 k2=>hR v2 h2 tk2 p2 fun b o nb ns eb=>k2 b o nb ns ?_⟩
   ·exact (Heap.get?_update_other _ _ (fun z:S=b=>nS (z ▸ fb))).trans eb
   ·exact (Heap.get?_update_other _ _ (Ne.symm ns)).trans (kp b o nb eb)
  ·have ea:argBest bt (j + 1)=argBest bt j:=by simp only [argBest,hb]; rfl
   rw [Bool.eq_false_iff.mpr hb]
   simp only [Bool.false_eq_true,if_false]
   refine wpAny_bind (wpAny_letGo ?_)
   rw [nm]
   exact wpAny_pure ⟨plainId_quiet PySem.F.plain_min_loop _,ih (j + 1) _ best c (by omega) st1 (by rw [ea]; exact pb) bg1 fun v2 h2 tk2 p2 k2=>hR v2 h2 tk2 p2 fun b o nb ns eb=>k2 b o nb ns (kp b o nb eb)⟩
theorem first {R:Result->Shared->Prop} (W:Walks prog w A.in1 I fp wr n P St) {bt:Nat->Nat->Bool} (C:Cmp prog w A.in1 P St bt) {S:Addr} (nS:S ∉ fp) (hn:0 < n) {s:Shared} {c:Nat} (st:St 0 s.heap) (bg:Bag S #[] c s.heap)
  (hR:∀ v h' tk,P (argBest bt (n - 1)) v->Kept wr S s.heap h'->R (.ok (.ret v)) { s with heap:=h',toks:=tk }):codeAny (model prog w) A (.builtin "min.loop" ⟨[.ref I,.none,.ref S],[]⟩) R s:=by
 have nw:S ∉ wr:=fun h=>nS (W.sub _ h)
 have nm:(toString "min" ++ toString ".loop" : String) = "min.loop" := by decide
 refine codeAny_builtin PySem.F.entry_min_loop ?_
 rw [Around.under_plainId PySem.F.plain_min_loop _]
 show wpAny _ _ (seqItems? (.ref S) >>= _) _ _ s
 refine wpAny_bind (wpAny_seqItems bg rfl ?_)
 show wpAny _ _ (tryCatch (pyNext (.ref I)) _ >>= _) _ _ s
 refine wpAny_bind (wpAny_tryCatch (W.item 0 s _ _ hn st fun v h1 tk pv st1 kp => ?_))
 have bg1:=kp S _ nw bg
 show wpAny _ _ (updateSeq S (fun _ => #[v,v]) >>= _) _ _ _
 refine wpAny_bind ?_
 refine wpAny_updateSeq bg1 rfl ?_
 rw [nm]
 refine wpAny_pure ⟨plainId_quiet PySem.F.plain_min_loop _,loop W C nS (n - 1) 0 _ v _ (by omega) (W.frame _ _ _ st1 fun b fb o eb => ?_) pv (Heap.get?_update_self _ bg1 rfl) fun v2 h2 tk2 p2 k2=>hR v2 h2 tk2 p2 fun b o nb ns eb=>k2 b o nb ns ?_⟩
 ·exact (Heap.get?_update_other _ _ (fun z:S=b=>nS (z ▸ fb))).trans eb
 ·exact (Heap.get?_update_other _ _ (Ne.symm ns)).trans (kp b o nb eb)
def Goes (prog:Program) (w:World) (A:Around) (Q:Value->Shared->Prop) (it:Value) (s:Shared):Prop:=∃ I fp wr n P St bt,it = .ref I/\Walks prog w A.in1 I fp wr n P St/\St 0 s.heap/\(∀ b ∈ fp,b < s.heap.objs.size)/\0 < n/\Cmp prog w A.in1 P St bt ∧
 ∀ v h' tk,P (argBest bt (n - 1)) v->(∀ b o,b ∉ wr->s.heap.get? b=some o->h'.get? b=some o)->Q v { s with heap:=h',toks:=tk }
theorem yk {s:Shared} {x:Value} {Q:Value->Shared->Prop} (h:wpAny (model prog w) A.in1 (pyIter x) (Goes prog w A Q) E s):wpAny (model prog w) A (call (.builtin "min") [x]) Q E s:=by
 have nm:(toString "min" ++ toString ".loop" : String) = "min.loop" := by decide
 refine call_function_tree PySem.F.kind_min PySem.F.plain_min PySem.F.entry_min (PySem.F.args_min1 _) ?_
 show wpAny _ _ (Builtin.Builtins.bindParams "min" ["key", "default"] 0 ⟨[],[]⟩ >>= _) _ _ s
 refine wpAny_bind (wpAny_of_eq (a:=[none,none]) rfl ?_)
 refine wpAny_bind (wpAny_pure ?_)
 refine wpAny_bind (wpAny_mono h (fun it s2 g => ?_) fun _ _ e=>e)
 obtain ⟨I,fp,wr,n,P,St,bt,rfl,W,st,hf,hn,C,hq⟩:=g
 refine wpAny_bind (wpAny_newObj_type ?_)
 rw [nm]
 refine wpAny_pure ⟨plainId_quiet PySem.F.plain_min_loop _,first W C (S:=s2.heap.objs.size) (fun hm=>Nat.lt_irrefl _ (hf _ hm)) hn (W.frame _ _ _ st fun b _ o e=>Heap.get?_push_of_some _ e) (Heap.get?_push_size _ rfl) fun v h' tk pv kp => ?_⟩
 exact hq v h' tk pv fun b o nb e=>kp b o nb (Nat.ne_of_lt (Heap.lt_size e)) (Heap.get?_push_of_some _ e)
theorem call2 {s:Shared} {a b:Value} {Q:Value->Shared->Prop} (h:wpAny (model prog w) A.in1 (pyIter (.ref s.heap.objs.size)) (Goes prog w A Q) E { s with heap:=s.heap.push { cls := .type "tuple",data := .seq #[a,b] } }):wpAny (model prog w) A (call (.builtin "min") [a,b]) Q E s:=by
 have nm:(toString "min" ++ toString ".loop" : String) = "min.loop" := by decide
 refine call_function_tree PySem.F.kind_min PySem.F.plain_min PySem.F.entry_min (PySem.F.args_min2 _ _) ?_
 show wpAny _ _ (Builtin.Builtins.bindParams "min" ["key", "default"] 0 ⟨[],[]⟩ >>= _) _ _ s
 refine wpAny_bind (wpAny_of_eq (a:=[none,none]) rfl ?_)
 show wpAny _ _ (newTuple [a,b] >>= _) _ _ s
 refine wpAny_bind (wpAny_newObj_type ?_)
 refine wpAny_bind (wpAny_mono h (fun it s2 g => ?_) fun _ _ e=>e)
 obtain ⟨I,fp,wr,n,P,St,bt,rfl,W,st,hf,hn,C,hq⟩:=g
 refine wpAny_bind (wpAny_newObj_type ?_)
 rw [nm]
 refine wpAny_pure ⟨plainId_quiet PySem.F.plain_min_loop _,first W C (S:=s2.heap.objs.size) (fun hm=>Nat.lt_irrefl _ (hf _ hm)) hn (W.frame _ _ _ st fun b _ o e=>Heap.get?_push_of_some _ e) (Heap.get?_push_size _ rfl) fun v h' tk pv kp => ?_⟩
 exact hq v h' tk pv fun b o nb e=>kp b o nb (Nat.ne_of_lt (Heap.lt_size e)) (Heap.get?_push_of_some _ e)
def TI (h:Heap) (t:Addr × List Int):Prop:=∃ its:Array Value,IsTup h t.1 its/\IntsAre its.toList t.2
theorem TI.at {h h':Heap} {t:Addr × List Int} (x:TI h t) (e:∀ o,h.get? t.1=some o->h'.get? t.1=some o):TI h' t:=let ⟨its,⟨o,ho,r⟩,y⟩:=x; ⟨its,⟨o,e o ho,r⟩,y⟩
theorem more (W:Walks prog w A I fp wr n P St) (ts:List (Addr × List Int)) (nw:∀ t ∈ ts,t.1 ∉ wr):Walks prog w A I (fp ++ ts.map (·.1)) wr n P (fun i h=>St i h/\∀ t ∈ ts,TI h t) where
 sub:=fun b hb=>List.mem_append.mpr (.inl (W.sub b hb))
 frame:=fun i h h' x hk=>⟨W.frame i h h' x.1 fun b hb o e=>hk b (List.mem_append.mpr (.inl hb)) o e,fun t ht=>(x.2 t ht).at (hk t.1 (List.mem_append.mpr (.inr (List.mem_map_of_mem (f:=(·.1)) ht))))⟩
 item:=fun i s Q E hi x hQ=>W.item i s Q E hi x.1 fun v h' tk pv st' kp=>hQ v h' tk pv ⟨st',fun t ht=>(x.2 t ht).at fun o=>kp t.1 o (nw t ht)⟩ kp
 done:=fun s Q E x hQ=>W.done s Q E x.1 hQ
 self:=fun i s Q E x hQ=>W.self i s Q E x.1 hQ
theorem cmp (ts:List (Addr × List Int)) (hu:A.units < cLine) (hP:∀ i v,P i v->∃ t,ts[i]? = some t/\v = .ref t.1):Cmp prog w A P (fun i h=>St i h/\∀ t ∈ ts,TI h t) (fun i j=>HT.lexLt (ts.getD i (0,[])).2 (ts.getD j (0,[])).2):=by
 intro k i j x y s Q E st hx hy h
 obtain ⟨t,et,rfl⟩:=hP i x hx
 obtain ⟨u,eu,rfl⟩:=hP j y hy
 obtain ⟨i1,p1,a1⟩:=st.2 t (List.mem_of_getElem? et)
 obtain ⟨i2,p2,a2⟩:=st.2 u (List.mem_of_getElem? eu)
 dsimp only at h
 rw [List.getD_eq_getElem?_getD,List.getD_eq_getElem?_getD,et,eu] at h
 exact HT.oe p1 p2 a1 a2 hu h
theorem best (g:Nat->List Int):∀ k,(argBest (fun i j=>HT.lexLt (g i) (g j)) k<=k)/\∀ j,j<=k->HT.lexLt (g j) (g (argBest (fun i j=>HT.lexLt (g i) (g j)) k))=false
 | 0=>⟨Nat.le_refl _,fun j hj=>by rw [Nat.le_zero.mp hj]; exact Srt.lex_irrefl _⟩
 | k + 1=>by
  obtain ⟨l,ih⟩:=best g k
  by_cases hb:HT.lexLt (g (k + 1)) (g (argBest (fun i j=>HT.lexLt (g i) (g j)) k))=true
  ·have ea:argBest (fun i j=>HT.lexLt (g i) (g j)) (k + 1)=k + 1:=by simp only [argBest,hb,if_true]
   rw [ea]
   refine ⟨Nat.le_refl _,fun j hj => ?_⟩
   by_cases e:j=k + 1
   ·rw [e]; exact Srt.lex_irrefl _
   ·refine Bool.eq_false_iff.mpr fun z => ?_
    have:=ih j (by omega)
    rw [Srt.lex_trans _ _ _ z hb] at this
    cases this
  ·have ea:argBest (fun i j=>HT.lexLt (g i) (g j)) (k + 1)=argBest (fun i j=>HT.lexLt (g i) (g j)) k:=by simp only [argBest,hb]; rfl
   rw [ea]
   refine ⟨by omega,fun j hj => ?_⟩
   by_cases e:j=k + 1
   ·rw [e]; exact Bool.eq_false_iff.mpr hb
   ·exact ih j (by omega)
end
end L2.MnT
namespace L2
open PySem PySem.Spec PyProof.Rows
section
variable {X:Cx}
theorem oS (hc:X.calm=true) (hu:X.A.units + 8 < cLine):bJ X (.builtin "min") (fun xs H Q=>∃ (p:Addr) (ts:List (Addr × List Int)),xs=[.ref p]/\SqL X.K H p (ts.map fun t => .ref t.1)/\(∀ t ∈ ts,SqT X.K H t.1 (t.2.map V.int))/\ts ≠ []/\∀ t ∈ ts,(∀ u ∈ ts,HT.lexLt u.2 t.2=false)->Q (.ref t.1) H):=by
 intro pins s σ H xs us Q I r h
 obtain ⟨p,ts,rfl,hS,hT,hne,q⟩:=h
 obtain ⟨u,rfl,ru⟩:=vals1 r
 cases (show u=Value.ref p from ru)
 obtain ⟨its,r1,p1,_⟩:=I.list hS
 have hl:s.heap.IsList p its.toArray:=p1.isList
 have ll:=r1.length
 rw [List.length_map] at ll
 have hp:0 < ts.length:=List.length_pos_iff.mpr hne
 have TIs:∀ t ∈ ts,MnT.TI s.heap t:=fun t ht=>by
  obtain ⟨i2,r2,p2,_⟩:=I.tuple (hT t ht)
  exact ⟨_,p2,intsAre_of r2⟩
 have hlt:∀ t ∈ ts,t.1 < s.heap.objs.size:=fun t ht=>by
  obtain ⟨_,⟨o,ho,_⟩,_⟩:=TIs t ht
  exact Heap.lt_size ho
 have hpl:p < s.heap.objs.size:=by obtain ⟨_,e,_⟩:=hl; exact Heap.lt_size e
 have at_:∀ (i:Nat) (v:Value),its.toArray[i]? = some v->∃ t:Addr × List Int,ts[i]? = some t/\v=Value.ref t.1:=fun i v hv=>by
  rw [List.getElem?_toArray] at hv
  have hi:i < ts.length:=by rw [ll]; exact (List.getElem?_eq_some_iff.mp hv).1
  have e1:(ts.map fun t=>V.ref t.1)[i]? = some (.ref ts[i].1):=by rw [List.getElem?_map,List.getElem?_eq_getElem hi]; rfl
  obtain ⟨w',ew,rw'⟩:=r1.get e1
  rw [ew] at hv
  exact ⟨ts[i],List.getElem?_eq_getElem hi,(Option.some.inj hv).symm.trans rw'⟩
 refine MnT.yk (wpAny_pyIter_list hl ?_)
 refine ⟨s.heap.objs.size,_,_,its.toArray.size,_,_,_,rfl,MnT.more (Walks.list (A:=X.A.in1) (I.ok.hd hc) s.heap.objs.size p (Nat.ne_of_lt hpl) its.toArray) ts (fun t ht hm => ?_),⟨⟨⟨_,Heap.get?_push_size _ rfl,rfl,rfl⟩,hl.push _⟩,fun t ht=>(TIs t ht).at fun o e=>Heap.get?_push_of_some _ e⟩,fun b hb => ?_,by rw [List.size_toArray]; omega,MnT.cmp ts ?_ at_,fun v h' tk pv kp => ?_⟩
 ·have:=hlt t ht
  rw [List.mem_singleton.mp hm] at this
  exact Nat.lt_irrefl _ this
 ·show b < (s.heap.push _).objs.size
  rw [Heap.size_push]
  rcases List.mem_append.mp hb with hb | hb
  ·rcases List.mem_cons.mp hb with rfl | hb
   ·exact Nat.lt_succ_self _
   ·rw [List.mem_singleton.mp hb]; exact Nat.lt_succ_of_lt hpl
  ·obtain ⟨t,ht,rfl⟩:=List.mem_map.mp hb
   exact Nat.lt_succ_of_lt (hlt t ht)
 ·show X.A.units + _ < cLine
  omega
 ·obtain ⟨t,et,rfl⟩:=at_ _ v pv
  obtain ⟨b1,b2⟩:=MnT.best (fun i=>(ts.getD i (0,[])).2) (its.toArray.size - 1)
  have kept:∀ b o,s.heap.get? b=some o->h'.get? b=some o:=fun b o e=>kp b o (fun hm=>by
   have:=Heap.lt_size e
   rw [List.mem_singleton.mp hm] at this
   exact Nat.lt_irrefl _ this) (Heap.get?_push_of_some _ e)
  refine ⟨.ref t.1,H,I.kept kept,rfl,q t (List.mem_of_getElem? et) fun u hu' => ?_⟩
  obtain ⟨j,hj,eu⟩:=List.getElem_of_mem hu'
  have:=b2 j (by rw [List.size_toArray]; omega)
  rw [List.getD_eq_getElem?_getD,List.getD_eq_getElem?_getD,et,List.getElem?_eq_getElem hj,eu] at this
  exact this
theorem oT (hc:X.calm=true) (hu:X.A.units + 8 < cLine):bJ X (.builtin "min") (fun xs H Q=>∃ (a b:Addr) (ns ms:List Int),xs=[.ref a,.ref b]/\SqT X.K H a (ns.map V.int)/\SqT X.K H b (ms.map V.int)/\(HT.lexLt ms ns=true->Q (.ref b) H)/\(HT.lexLt ms ns=false->Q (.ref a) H)):=by
 intro pins s σ H xs us Q I r h
 obtain ⟨a,b,ns,ms,rfl,ha,hb,q1,q2⟩:=h
 obtain ⟨u,v,rfl,ru,rv⟩:=vals2 r
 cases (show u=Value.ref a from ru)
 cases (show v=Value.ref b from rv)
 have TIs:∀ t ∈ [(a,ns),(b,ms)],MnT.TI s.heap t:=fun t ht=>by
  rcases List.mem_cons.mp ht with rfl | ht
  ·obtain ⟨i2,r2,p2,_⟩:=I.tuple ha
   exact ⟨_,p2,intsAre_of r2⟩
  ·rw [List.mem_singleton.mp ht]
   obtain ⟨i2,r2,p2,_⟩:=I.tuple hb
   exact ⟨_,p2,intsAre_of r2⟩
 have hlt:∀ t ∈ [(a,ns),(b,ms)],t.1 < s.heap.objs.size:=fun t ht=>by
  obtain ⟨_,⟨o,ho,_⟩,_⟩:=TIs t ht
  exact Heap.lt_size ho
 have hT:(s.heap.push { cls := .type "tuple",data := .seq #[.ref a,.ref b] }).IsTuple s.heap.objs.size #[.ref a,.ref b]:=⟨_,Heap.get?_push_size _ rfl,rfl,0,rfl⟩
 have hz:(s.heap.push { cls := .type "tuple",data := .seq #[.ref a,.ref b] }).objs.size=s.heap.objs.size + 1:=Heap.size_push ..
 have at_:∀ (i:Nat) (v:Value),(#[.ref a,.ref b]:Array Value)[i]? = some v->∃ t:Addr × List Int,[(a,ns),(b,ms)][i]? = some t/\v=Value.ref t.1:=fun i v hv=>by
  match i,hv with
  | 0,hv=>exact ⟨_,rfl,(Option.some.inj hv).symm⟩
  | 1,hv=>exact ⟨_,rfl,(Option.some.inj hv).symm⟩
  | i + 2,hv=>simp at hv
 refine MnT.call2 (wpAny_pyIter_tuple hT ?_)
 refine ⟨_,_,_,_,_,_,_,rfl,MnT.more (Walks.tuple (A:=X.A.in1) (I.ok.hd hc) _ s.heap.objs.size (by rw [hz]; exact Nat.ne_of_lt (Nat.lt_succ_self _)) #[.ref a,.ref b]) [(a,ns),(b,ms)] (fun t ht hm => ?_),⟨⟨⟨_,Heap.get?_push_size _ rfl,rfl,rfl⟩,hT.push _⟩,fun t ht=>(TIs t ht).at fun o e=>Heap.get?_push_of_some _ (Heap.get?_push_of_some _ e)⟩,fun c hc' => ?_,Nat.zero_lt_two,MnT.cmp [(a,ns),(b,ms)] ?_ at_,fun v h' tk pv kp => ?_⟩
 ·have:=hlt t ht
  rw [List.mem_singleton.mp hm,hz] at this
  exact Nat.lt_irrefl _ (Nat.lt_of_succ_lt this)
 ·show c < ((s.heap.push _).push _).objs.size
  rw [Heap.size_push,hz]
  rcases List.mem_append.mp hc' with hc' | hc'
  ·rcases List.mem_cons.mp hc' with rfl | hc'
   ·rw [hz]; exact Nat.lt_succ_self _
   ·rw [List.mem_singleton.mp hc']; exact Nat.lt_succ_of_lt (Nat.lt_succ_self _)
  ·obtain ⟨t,ht,rfl⟩:=List.mem_map.mp hc'
   exact Nat.lt_succ_of_lt (Nat.lt_succ_of_lt (hlt t ht))
 ·show X.A.units + _ < cLine
  omega
 ·have kept:∀ b o,s.heap.get? b=some o->h'.get? b=some o:=fun b o e=>kp b o (fun hm=>by
   have:=Heap.lt_size e
   rw [List.mem_singleton.mp hm,hz] at this
   exact Nat.lt_irrefl _ (Nat.lt_of_succ_lt this)) (Heap.get?_push_of_some _ (Heap.get?_push_of_some _ e))
  by_cases z:HT.lexLt ms ns=true
  ·have e:argBest (fun i j=>HT.lexLt ([(a,ns),(b,ms)].getD i (0,[])).2 ([(a,ns),(b,ms)].getD j (0,[])).2) 1=1:=by
    show (if HT.lexLt ms ns=true then 1 else 0)=1
    rw [if_pos z]
   rw [show (#[Value.ref a,Value.ref b]:Array Value).size - 1=1 from rfl,e] at pv
   have pv:=(Option.some.inj pv).symm
   exact ⟨.ref b,H,I.kept kept,pv,q1 z⟩
  ·have e:argBest (fun i j=>HT.lexLt ([(a,ns),(b,ms)].getD i (0,[])).2 ([(a,ns),(b,ms)].getD j (0,[])).2) 1=0:=by
    show (if HT.lexLt ms ns=true then 1 else 0)=0
    rw [if_neg z]
   rw [show (#[Value.ref a,Value.ref b]:Array Value).size - 1=1 from rfl,e] at pv
   have pv:=(Option.some.inj pv).symm
   exact ⟨.ref a,H,I.kept kept,pv,q2 (Bool.eq_false_iff.mpr z)⟩
end
open PySem PySem.Spec PyProof.Rows
section
variable {X:Cx}
theorem oU (hc:X.calm=true):bJ X (.builtin "min") (fun xs H Q=>∃ (a:Addr) (ns:List Int),xs=[.ref a]/\SqT X.K H a (ns.map V.int)/\ns ≠ []/\∀ M:Int,M ∈ ns->(∀ b ∈ ns,M<=b)->Q (.int M) H):=by
 intro pins s σ H xs us Q I r h
 obtain ⟨a,ns,rfl,hS,hne,q⟩:=h
 obtain ⟨u,rfl,ru⟩:=vals1 r
 cases (show u=Value.ref a from ru)
 obtain ⟨its,r1,p1,_⟩:=I.tuple hS
 obtain ⟨ps,e2,e3⟩:=eP (intsAre_of r1)
 have ei:its.toArray=intItems ps.toArray:=by rw [e2]; simp [intItems]
 have hT:s.heap.IsTuple a (intItems ps.toArray):=by
  obtain ⟨o,ho,hc',n,hd⟩:=p1
  exact ⟨o,ho,hc',n,by rw [<- ei]; exact hd⟩
 have hz:ps.toArray.size=ns.length:=by rw [List.size_toArray, <- e3,List.length_map]
 have hp:0 < ns.length:=List.length_pos_iff.mpr hne
 have ht:ps.toArray.toList.map (·.1)=ns:=e3
 have hal:a < s.heap.objs.size:=by obtain ⟨o,ho,_⟩:=p1; exact Heap.lt_size ho
 refine call_min_walk (wpAny_pyIter_tuple hT ?_)
 refine ⟨_,[_,a],[_],_,_,_,_,rfl,Walks.tuple (A:=X.A.in1) (I.ok.hd hc) _ a (Nat.ne_of_lt hal) (intItems ps.toArray),⟨⟨_,Heap.get?_push_size _ rfl,rfl,rfl⟩,hT.push _⟩,fun c hc' => ?_,by simp only [intItems,Array.size_map]; omega,CmpOf.ints_lt (numAt ps.toArray) (fun _ _=>intItems_at),fun v h' tk hv hk => ?_⟩
 ·show c < (s.heap.push _).objs.size
  rw [Heap.size_push]
  rcases List.mem_cons.mp hc' with rfl | hc'
  ·exact Nat.lt_succ_self _
  ·rw [List.mem_singleton.mp hc']; exact Nat.lt_succ_of_lt hal
 ·have k:∀ b o,s.heap.get? b=some o->h'.get? b=some o:=fun b o e=>hk b o (fun hm=>by
   have:=Heap.lt_size e
   rw [List.mem_singleton.mp hm] at this
   exact Nat.lt_irrefl _ this) (Heap.get?_push_of_some _ e)
  have hsz:(intItems ps.toArray).size=ns.length:=by simp only [intItems,Array.size_map]; exact hz
  rw [hsz] at hv
  obtain ⟨t,rfl⟩:=intItems_at hv
  obtain ⟨h1,h2⟩:=argBest_lt (numAt ps.toArray) (ns.length - 1)
  refine ⟨.int _,H,I.kept k,⟨_,rfl⟩,q _ ?_ fun b hb => ?_⟩
  ·rw [numAt_eq,ht]; exact ti (by omega)
  ·obtain ⟨j,hj,rfl⟩:=tj hb
   have:=h2 j (by omega)
   rw [numAt_eq,numAt_eq,ht] at this
   rw [numAt_eq,ht]
   exact this
end
open PySem PySem.Spec PyProof.Rows SeqAt
theorem jG (l:Addr) (items:Array Value) (n:Nat) (dd:Option Addr) (sl:Array (Option Value)) (x:Value) (e:Value->Bool) (j:Nat) (hj:j < items.size) (hit:e items[j]=true) (hno:∀ m (hm:m < items.size),m < j->e items[m]=false) :
  Meets (Builtin.«tuple.index» ⟨[.ref l,x],[]⟩)
   (fun A R s=>s.heap.get? l=some { cls := .type "tuple",dict:=dd,data := .seq items n,slots:=sl }/\(∀ y,y ∈ items->EqAt A.in1 s y x (e y))/\R (.ok (.ret (.int j s.toks))) { s with toks:=s.toks + 1 }) :=
 .of_wp fun prog w A R s h=>by
  obtain ⟨hl,he,h⟩:=h
  unfold Builtin.«tuple.index»
  refine wpAny_bind (wpAny_of_eq (a:=(Value.ref l,[x])) rfl ?_)
  refine wpAny_bind (PyProof.Rows.tupleItemsOf_ (⟨_,hl,rfl,_,rfl⟩:IsTup s.heap l items) ?_)
  dsimp only
  refine wpAny_bind (wpAny_pure (wpAny_bind (wpAny_pure ?_)))
  rw [Nat.min_self,Std.Legacy.Range.forIn_eq_forIn_range']
  refine wpAny_bind (wpAny_forIn_list _ (fun rest b s'=>s'=s/\b=(none,())/\∃ i,rest=List.range' i (items.size - i)/\i<=j) _ ?_ ?_ _ _ ⟨rfl,rfl,0,?_,Nat.zero_le _⟩)
  ·rintro k rest b s' ⟨rfl,rfl,i,er,hi⟩
   rw [show items.size - i=(items.size - (i + 1)) + 1 by omega,List.range'_succ] at er
   injection er with e1 e2
   subst e1
   have hk:k < items.size:=by omega
   rw [Array.getElem?_eq_getElem hk]
   refine wpAny_bind (he _ (Array.getElem_mem hk) prog w _ _ ?_)
   by_cases z:k=j
   ·subst z
    rw [hit]
    refine wpAny_bind (wpAny_bind (wpAny_mkInt (wpAny_pure (wpAny_pure ?_))))
    exact wpAny_pure ⟨_,rfl,h⟩
   ·rw [hno k hk (by omega)]
    exact wpAny_pure ⟨rfl,rfl,k + 1,e2,by omega⟩
  ·rintro b s' ⟨rfl,rfl,i,er,hi⟩
   rw [show items.size - i=(items.size - (i + 1)) + 1 by omega,List.range'_succ] at er
   cases er
  ·simp [Std.Legacy.Range.size]
section
variable {X:Cx}
theorem rq:MtR X "tuple.index" (fun x vs H Q=>∃ (p:Addr) (ns:List Int) (k:Int),x = .ref p/\vs=[.int k]/\H p=some (.tup (ns.map V.int))/\k ∈ ns/\Q (.int (ns.idxOf k:Nat)) H):=by
 intro pins s σ H x vs v us Q I rx rv h
 obtain ⟨p,ns,k,rfl,rfl,hp,hk,q⟩:=h
 cases rx
 obtain ⟨u,rfl,⟨t,rfl⟩⟩:=vals1 rv
 obtain ⟨z,its,r,ob,e1,⟨c1,d1⟩,n,s1⟩:=(show bB X.prog X.w H s.heap p (.tup _) from I.hok p _ hp)
 have hi:IntsAre its ns:=intsAre_of r
 have hlen:=hi.length
 have hj:ns.idxOf k < ns.length:=List.idxOf_lt_length_iff.mpr hk
 obtain ⟨cls,dd,data,sl⟩:=ob
 simp only at c1 s1
 subst c1 s1
 refine call_meets PySem.F.slot_tuple_index ⟨_,e1,rfl⟩ PySem.F.entry_tuple_index (PySem.F.args_tuple_index_2 _ _) (jG p its.toArray n dd sl (.int k t) (isInt k) (ns.idxOf k) (by simpa [hlen] using hj) ?_ ?_) ⟨e1,fun y hy=>qT hi y hy,⟨.int _,H,I.tok _,⟨_,rfl⟩,q⟩⟩
 ·show isInt k its[ns.idxOf k]=true
  rw [isInt_at k hi _ (by omega) hj]; simpa using List.getElem_idxOf hj
 ·intro j hjs hlt
  show isInt k its[j]=false
  rw [isInt_at k hi j (by simpa using hjs) (by omega)]
  simpa using tG (by omega) hlt
end
end L2
namespace L2.MnT
open PySem PyProof.Rows
section
variable {prog:Program} {w:World} {A:Around} {E:Value->Shared->Prop} {I:Addr} {fp wr:List Addr} {n:Nat} {P:Nat->Value->Prop} {St:Nat->Heap->Prop}
abbrev dR (ts:List (Addr × List Int)):Nat->Nat->Bool:=fun i j=>decide ((ts.getD i (0,[])).2.length < (ts.getD j (0,[])).2.length)
theorem tK {s:Shared} {t:Addr × List Int} {Q:Value->Shared->Prop} (x:TI s.heap t) (hz:t.2.length < 2 ^ 63) (h:∀ u tk,Q (.int t.2.length u) { s with toks:=tk }):wpAny (model prog w) A (call (.builtin "len") [.ref t.1]) Q E s:=by
 obtain ⟨its,ht,hi⟩:=x
 have e:its.size=t.2.length:=by rw [<- hi.length,Array.length_toList]
 refine len_tuple ht (by rw [e]; omega) ?_
 rw [e]
 exact h _ _
theorem yo {R:Result->Shared->Prop} {ts:List (Addr × List Int)} {kw:List (Str × Value)} (W:Walks prog w A.in1 I fp wr n P St) (hI:∀ k h,St k h->∀ t ∈ ts,TI h t) (hP:∀ i v,P i v->∃ t,ts[i]? = some t/\v = .ref t.1) (hz:∀ t ∈ ts,t.2.length < 2 ^ 63) {S:Addr} (nS:S ∉ fp):∀ (d j:Nat) (s:Shared) (t:Addr × List Int) (tk c:Nat),n=j + 1 + d->St (j + 1) s.heap->ts[argBest (dR ts) j]? = some t->Bag S #[.ref t.1,.int t.2.length tk] c s.heap →
  (∀ t h' tk,ts[argBest (dR ts) (n - 1)]? = some t->Kept wr S s.heap h'->R (.ok (.ret (.ref t.1))) { s with heap:=h',toks:=tk })->codeAny (model prog w) A (.builtin "min.loop" ⟨[.ref I,.builtin "len",.ref S],kw⟩) R s:=by
 have nw:S ∉ wr:=fun h=>nS (W.sub _ h)
 have nm:(toString "min" ++ toString ".loop" : String) = "min.loop" := by decide
 intro d
 induction d with
 | zero =>
  intro j s t tk c hn st et bg hR
  have e:j + 1=n:=by omega
  rw [e] at st
  refine codeAny_builtin PySem.F.entry_min_loop ?_
  rw [Around.under_plainId PySem.F.plain_min_loop _]
  show wpAny _ _ (seqItems? (.ref S) >>= _) _ _ s
  refine wpAny_bind (wpAny_seqItems bg rfl ?_)
  show wpAny _ _ (tryCatch (pyNext (.ref I)) _ >>= _) _ _ s
  refine wpAny_bind (wpAny_tryCatch (W.done s _ _ st fun h1 tk kp => ?_))
  show wpAny _ _ (updateSeq S (fun _ => #[]) >>= _) _ _ _
  refine wpAny_bind ?_
  refine wpAny_updateSeq (kp S _ nw bg) rfl (wpAny_bind (wpAny_letGo (wpAny_pure (hR t _ tk (by rw [<- e]; exact et) ?_))))
  exact fun b o nb ns eb=>(Heap.get?_update_other _ _ (Ne.symm ns)).trans (kp b o nb eb)
 | succ d ih =>
  intro j s t tk c hn st et bg hR
  refine codeAny_builtin PySem.F.entry_min_loop ?_
  rw [Around.under_plainId PySem.F.plain_min_loop _]
  show wpAny _ _ (seqItems? (.ref S) >>= _) _ _ s
  refine wpAny_bind (wpAny_seqItems bg rfl ?_)
  show wpAny _ _ (tryCatch (pyNext (.ref I)) _ >>= _) _ _ s
  refine wpAny_bind (wpAny_tryCatch (W.item (j + 1) s _ _ (by omega) st fun v h1 tk1 pv st1 kp => ?_))
  obtain ⟨u,eu,rfl⟩:=hP _ _ pv
  have bg1:=kp S _ nw bg
  show wpAny _ _ (tryCatch (holding [Value.ref u.1] (call (.builtin "len") [.ref u.1])) _ >>= _) _ _ _
  refine wpAny_bind (wpAny_tryCatch (wpAny_holding (tK (hI _ _ st1 u (List.mem_of_getElem? eu)) (hz u (List.mem_of_getElem? eu)) fun tu tk2 => ?_)))
  show wpAny _ _ (tryCatch (holding [Value.ref u.1,.int u.2.length tu] (richCompare .Lt (.int u.2.length tu) (.int t.2.length tk) >>= _)) _ >>= _) _ _ _
  refine wpAny_bind (wpAny_tryCatch (wpAny_holding (wpAny_bind (richCompare_gives (op := .Lt) (typeIs_int _ _ tu) (typeIs_int _ _ tk) PySem.F.slot_int_lt PySem.F.entry_int_lt (PySem.F.args_int_lt_2 _ _) (gives_int_lt _ _ tu tk) (fun x=>nomatch x) ?_))))
  refine wpAny_bind (wpAny_holding (wpAny_truthy_bool ?_))
  refine wpAny_bind (wpAny_letGo (wpAny_pure ?_))
  have eb':dR ts (j + 1) (argBest (dR ts) j)=decide (u.2.length < t.2.length):=by
   show decide _=_
   rw [List.getD_eq_getElem?_getD,List.getD_eq_getElem?_getD,eu,et]; rfl
  by_cases hb:u.2.length < t.2.length
  ·have ea:argBest (dR ts) (j + 1)=j + 1:=by
    show (if dR ts (j + 1) (argBest (dR ts) j)=true then _ else _)=_
    rw [eb',if_pos (decide_eq_true hb)]
   rw [show decide ((u.2.length:Int) < (t.2.length:Int))=true from decide_eq_true (by omega)]
   simp only [if_true]
   refine wpAny_bind ?_
   refine wpAny_updateSeq bg1 rfl (wpAny_bind (wpAny_letGo ?_))
   rw [nm]
   refine wpAny_pure ⟨plainId_quiet PySem.F.plain_min_loop _,ih (j + 1) _ u tu _ (by omega) (W.frame _ _ _ st1 fun b fb o eb => ?_) (by rw [ea]; exact eu) (Heap.get?_update_self _ bg1 rfl) fun v2 h2 tk2 p2 k2=>hR v2 h2 tk2 p2 fun b o nb ns eb=>k2 b o nb ns ?_⟩
   ·exact (Heap.get?_update_other _ _ (fun z:S=b=>nS (z ▸ fb))).trans eb
   ·exact (Heap.get?_update_other _ _ (Ne.symm ns)).trans (kp b o nb eb)
  ·have ea:argBest (dR ts) (j + 1)=argBest (dR ts) j:=by
    show (if dR ts (j + 1) (argBest (dR ts) j)=true then _ else _)=_
    rw [eb',if_neg (by simpa using hb)]
   rw [show decide ((u.2.length:Int) < (t.2.length:Int))=false from decide_eq_false (by omega)]
   simp only [Bool.false_eq_true,if_false]
   refine wpAny_bind (wpAny_letGo ?_)
   rw [nm]
   exact wpAny_pure ⟨plainId_quiet PySem.F.plain_min_loop _,ih (j + 1) _ t tk c (by omega) st1 (by rw [ea]; exact et) bg1 fun v2 h2 tk2 p2 k2=>hR v2 h2 tk2 p2 fun b o nb ns eb=>k2 b o nb ns (kp b o nb eb)⟩
theorem xo {R:Result->Shared->Prop} {ts:List (Addr × List Int)} {kn:Str} {d:Value} (W:Walks prog w A.in1 I fp wr n P St) (hI:∀ k h,St k h->∀ t ∈ ts,TI h t) (hP:∀ i v,P i v->∃ t,ts[i]? = some t/\v = .ref t.1) (hz:∀ t ∈ ts,t.2.length < 2 ^ 63) {S:Addr} (nS:S ∉ fp) {s:Shared} {c:Nat} (st:St 0 s.heap) (bg:Bag S #[] c s.heap)
  (hR:∀ v h' tk,((0 < n/\∃ t,ts[argBest (dR ts) (n - 1)]? = some t/\v = .ref t.1)\/(n=0/\v=d))->Kept wr S s.heap h'->R (.ok (.ret v)) { s with heap:=h',toks:=tk }):codeAny (model prog w) A (.builtin "min.loop" ⟨[.ref I,.builtin "len",.ref S],[(kn,d)]⟩) R s:=by
 have nw:S ∉ wr:=fun h=>nS (W.sub _ h)
 have nm:(toString "min" ++ toString ".loop" : String) = "min.loop" := by decide
 refine codeAny_builtin PySem.F.entry_min_loop ?_
 rw [Around.under_plainId PySem.F.plain_min_loop _]
 show wpAny _ _ (seqItems? (.ref S) >>= _) _ _ s
 refine wpAny_bind (wpAny_seqItems bg rfl ?_)
 show wpAny _ _ (tryCatch (pyNext (.ref I)) _ >>= _) _ _ s
 by_cases hn:n=0
 ·subst hn
  refine wpAny_bind (wpAny_tryCatch (W.done s _ _ st fun h1 tk kp => ?_))
  exact wpAny_bind (wpAny_rule (wpAny_pure (hR d h1 tk (.inr ⟨rfl,rfl⟩) fun b o nb _ eb=>kp b o nb eb)))
 refine wpAny_bind (wpAny_tryCatch (W.item 0 s _ _ (by omega) st fun v h1 tk pv st1 kp => ?_))
 obtain ⟨u,eu,rfl⟩:=hP _ _ pv
 have bg1:=kp S _ nw bg
 show wpAny _ _ (tryCatch (holding [Value.ref u.1] (call (.builtin "len") [.ref u.1])) _ >>= _) _ _ _
 refine wpAny_bind (wpAny_tryCatch (wpAny_holding (tK (hI _ _ st1 u (List.mem_of_getElem? eu)) (hz u (List.mem_of_getElem? eu)) fun tu tk2 => ?_)))
 show wpAny _ _ (updateSeq S (fun _ => #[.ref u.1,.int u.2.length tu]) >>= _) _ _ _
 refine wpAny_bind ?_
 refine wpAny_updateSeq bg1 rfl ?_
 rw [nm]
 refine wpAny_pure ⟨plainId_quiet PySem.F.plain_min_loop _,yo W hI hP hz nS (n - 1) 0 _ u tu _ (by omega) (W.frame _ _ _ st1 fun b fb o eb => ?_) eu (Heap.get?_update_self _ bg1 rfl) fun t2 h2 tk2 p2 k2=>hR _ h2 tk2 (.inl ⟨by omega,t2,p2,rfl⟩) fun b o nb ns eb=>k2 b o nb ns ?_⟩
 ·exact (Heap.get?_update_other _ _ (fun z:S=b=>nS (z ▸ fb))).trans eb
 ·exact (Heap.get?_update_other _ _ (Ne.symm ns)).trans (kp b o nb eb)
theorem rA (a f d:Value):argsOk "min" ⟨[a],[("key",f),("default",d)]⟩:=by unfold argsOk; kernel_rfl
theorem yp {s:Shared} {l:Addr} {its:Array Value} {ts:List (Addr × List Int)} {d:Value} {Q:Value->Shared->Prop} (hh:A.handled=none) (hl:s.heap.IsList l its) (hT:∀ t ∈ ts,TI s.heap t) (hP:∀ (i:Nat) (v:Value),its[i]? = some v->∃ t,ts[i]? = some t/\v = .ref t.1) (hz:∀ t ∈ ts,t.2.length < 2 ^ 63)
  (h:∀ v h' tk,((0 < its.size/\∃ t,ts[argBest (dR ts) (its.size - 1)]? = some t/\v = .ref t.1)\/(its.size=0/\v=d))->(∀ b o,s.heap.get? b=some o->h'.get? b=some o)->Q v { s with heap:=h',toks:=tk }) :
  wpAny (model prog w) A (call (.builtin "min") [.ref l] [("key",.builtin "len"),("default",d)]) Q E s:=by
 have nm:(toString "min" ++ toString ".loop" : String) = "min.loop" := by decide
 have hlt:∀ t ∈ ts,t.1 < s.heap.objs.size:=fun t ht=>by
  obtain ⟨_,⟨o,ho,_⟩,_⟩:=hT t ht
  exact Heap.lt_size ho
 have hpl:l < s.heap.objs.size:=by obtain ⟨_,e,_⟩:=hl; exact Heap.lt_size e
 refine wpAny_call (codeAny_call_builtin PySem.F.plain_min PySem.F.entry_min ?_)
 have hg:wpAny (model prog w) A.in1 (Builtin.«min» ⟨[.ref l],[("key",.builtin "len"),("default",d)]⟩) (fun fin s'=>match fin with
   | .done f=>(match (Except.ok f:Result) with | .ok (.ret v)=>Q v s' | .ok _=>False | .error e=>E e s')
   | .again c'=>c'.quiet=true/\codeAny (model prog w) A c' (fun r s'=>match r with | .ok (.ret v)=>Q v s' | .ok _=>False | .error e=>E e s') s') E s:=by
  show wpAny _ A.in1 (Builtin.Builtins.bindParams "min" ["key", "default"] 0 ⟨[],[("key",.builtin "len"),("default",d)]⟩ >>= _) _ _ s
  refine wpAny_bind (wpAny_of_eq (a:=[some (.builtin "len"),some d]) rfl ?_)
  refine wpAny_bind (wpAny_pure ?_)
  refine wpAny_bind (wpAny_pyIter_list hl ?_)
  refine wpAny_bind (wpAny_newObj_type ?_)
  have W:=more (Walks.list (prog:=prog) (w:=w) (A:=A.in1) hh s.heap.objs.size l (Nat.ne_of_lt hpl) its) ts (fun t ht hm=>by
   have:=hlt t ht
   rw [List.mem_singleton.mp hm] at this
   exact Nat.lt_irrefl _ this)
  rw [nm]
  refine wpAny_pure ⟨plainId_quiet PySem.F.plain_min_loop _,xo W (fun k h x=>x.2) hP hz ?_ ⟨⟨⟨_,Heap.get?_push_of_some _ (Heap.get?_push_size _ rfl),rfl,rfl⟩,(hl.push _).push _⟩,fun t ht=>(hT t ht).at fun o e=>Heap.get?_push_of_some _ (Heap.get?_push_of_some _ e)⟩ (Heap.get?_push_size _ rfl) fun v h' tk hv kp => ?_⟩
  ·intro hm
   rw [Heap.size_push] at hm
   rcases List.mem_append.mp hm with hm | hm
   ·rcases List.mem_cons.mp hm with e | hm
    ·exact Nat.succ_ne_self _ e
    ·have:=List.mem_singleton.mp hm
     rw [<- this] at hpl
     exact Nat.lt_irrefl _ (Nat.lt_of_succ_lt hpl)
   ·obtain ⟨t,ht,e⟩:=List.mem_map.mp hm
    have:=hlt t ht
    rw [e] at this
    exact Nat.lt_irrefl _ (Nat.lt_of_succ_lt this)
  ·refine h v h' tk hv fun b o e=>kp b o (fun hm => ?_) (fun z => ?_) (Heap.get?_push_of_some _ (Heap.get?_push_of_some _ e))
   ·have:=Heap.lt_size e
    rw [List.mem_singleton.mp hm] at this
    exact Nat.lt_irrefl _ this
   ·have:=Heap.lt_size e
    rw [z,Heap.size_push] at this
    exact Nat.lt_irrefl _ (Nat.lt_of_succ_lt this)
 simp only [checkBuiltinCall,PySem.F.kind_min]
 cases hsig:Manifest.signature? "min" with
 | none=>exact wpAny_pure hg
 | some sig =>
  have ha':Bind.checkArgs "min" sig ⟨[.ref l],[("key",.builtin "len"),("default",d)]⟩=pure ():=by simpa only [argsOk,hsig] using rA (.ref l) (.builtin "len") d
  simp only [ha']
  exact wpAny_pure hg
end
end L2.MnT
namespace L2
open PySem PySem.Spec PyProof.Rows
theorem MnT.vQ (g:Nat->Nat):∀ k,∀ j,j<=k->g (argBest (fun i j=>decide (g i < g j)) k)<=g j
 | 0,j,hj=>by rw [Nat.le_zero.mp hj]; exact Nat.le_refl _
 | k + 1,j,hj=>by
  have ih:=MnT.vQ g k
  by_cases hb:g (k + 1) < g (argBest (fun i j=>decide (g i < g j)) k)
  ·have ea:argBest (fun i j=>decide (g i < g j)) (k + 1)=k + 1:=by simp only [argBest,decide_eq_true hb,if_true]
   rw [ea]
   by_cases e:j=k + 1
   ·rw [e]; exact Nat.le_refl _
   ·have:=ih j (by omega); omega
  ·have ea:argBest (fun i j=>decide (g i < g j)) (k + 1)=argBest (fun i j=>decide (g i < g j)) k:=by simp only [argBest,decide_eq_false hb]; rfl
   rw [ea]
   by_cases e:j=k + 1
   ·rw [e]; omega
   ·exact ih j (by omega)
section
variable {X:Cx}
def vm (K:PySem.W.Frag) (te:TE):TE:=fun σ H Q=>te σ H fun x H1=>∃ (p:Addr) (ts:List (Addr × List Int)),[x]=[.ref p]/\SqL K H1 p (ts.map fun t => .ref t.1)/\(∀ t ∈ ts,SqT K H1 t.1 (t.2.map V.int))/\(ts=[]->Q .non H1)/\∀ t ∈ ts,(∀ u ∈ ts,t.2.length<=u.2.length)->Q (.ref t.1) H1
theorem rB {e:Expr} {te:TE} {j:Nat} {p p2 p3 pos kpos kpos2:Pos} (hc:X.calm=true) (hg:Gl X "min") (hm:X.mg "min" = none) (hg2:Gl X "len") (hm2:X.mg "len" = none) (hv:bootBuiltins "min" = some (.builtin "min")) (he:PE X e te)
    (hs:starEach (e :: []) X.env=(false,eval e X.env) :: starEach [] X.env:=by rfl)
    (ha:backTo pos (starEach (e :: []) X.env)=(false,eval e X.env) :: backTo pos (starEach [] X.env):=by rfl)
    (hplain:(backTo pos (starEach (e :: []) X.env)).any (·.1)=false:=by rfl) :
    PE X (.Call (.Name "min" p) [e] [⟨some "key",.Name "len" p2,kpos⟩,⟨some "default",.Constant .none j p3,kpos2⟩] pos) (vm X.K te):=by
  intro pins s σ H Q I h
  refine wpAny_Call_Name_kw (cI I hg hm hv ?_)
  refine PyProof.Rows.callWith_kw (thn ((aa he af hs) pos pins s σ H (fun vs H1=>∃ (p:Addr) (ts:List (Addr × List Int)),vs=[.ref p]/\SqL X.K H1 p (ts.map fun t:Addr × List Int=>V.ref t.1)/\(∀ t ∈ ts,SqT X.K H1 t.1 (t.2.map V.int))/\(ts=[]->Q .non H1)/\∀ t ∈ ts,(∀ u ∈ ts,t.2.length<=u.2.length)->Q (.ref t.1) H1) I h) fun us s1 ⟨vs,H1,I1,r1,q1⟩ => ?_) ha hplain rfl rfl
  show wpAny _ _ (evalAll ((do let v ← eval (.Name "len" p2) X.env; standAt pos; pure v) :: (do let v ← eval (.Constant .none j p3) X.env; standAt pos; pure v) :: [])) _ _ s1
  refine wpAny_evalAll_cons (wpAny_bind (cI I1 hg2 hm2 PySem.boot_len (wpAny_bind (wpAny_standAt (wpAny_pure ?_)))))
  refine wpAny_evalAll_cons (wpAny_bind (Constant_none (wpAny_bind (wpAny_standAt (wpAny_pure (wpAny_evalAll_nil ?_))))))
  show wpAny _ _ (call (.builtin "min") us [("key",.builtin "len"),("default",.none)]) _ _ s1
  obtain ⟨a,ts,rfl,hq,ht,q0,q⟩:=q1
  obtain ⟨u,rfl,ru⟩:=vals1 r1
  cases (show u=Value.ref a from ru)
  obtain ⟨its,rv,p1,_⟩:=I1.list hq
  have ll:=rv.length
  rw [List.length_map] at ll
  refine MnT.yp (ts:=ts) (I1.ok.hd hc) p1.isList (fun t h' => ?_) (fun i v hv => ?_) (fun t h' => ?_) fun v h' tk hv k => ?_
  · obtain ⟨i2,r2,p2,_⟩:=I1.tuple (ht t h')
    exact ⟨_,p2,intsAre_of r2⟩
  · rw [List.getElem?_toArray] at hv
    have hi:i < ts.length:=by rw [ll]; exact (List.getElem?_eq_some_iff.mp hv).1
    have e1:(ts.map fun t=>V.ref t.1)[i]? = some (.ref ts[i].1):=by rw [List.getElem?_map,List.getElem?_eq_getElem hi]; rfl
    obtain ⟨w',ew,rw'⟩:=rv.get e1
    rw [ew] at hv
    exact ⟨ts[i],List.getElem?_eq_getElem hi,(Option.some.inj hv).symm.trans rw'⟩
  · obtain ⟨i2,r2,p2,z2⟩:=I1.tuple (ht t h')
    rw [List.length_map,sizeLine_eq] at z2
    omega
  · rw [List.size_toArray, <- ll] at hv
    rcases hv with ⟨hn,t,et,rfl⟩ | ⟨hn,rfl⟩
    · refine ⟨.ref t.1,H1,I1.kept k,rfl,q t (List.mem_of_getElem? et) fun u hu => ?_⟩
      obtain ⟨i,hi,eu⟩:=List.getElem_of_mem hu
      have:=MnT.vQ (fun i=>(ts.getD i (0,[])).2.length) (ts.length - 1) i (by omega)
      rw [List.getD_eq_getElem?_getD,List.getD_eq_getElem?_getD,et,List.getElem?_eq_getElem hi,eu] at this
      exact this
    · exact ⟨.non,H1,I1.kept k,rfl,q0 (List.length_eq_zero_iff.mp hn)⟩
end
open PySem PySem.Spec PyProof.Rows
section
variable {X:Cx}
theorem gu {K:PySem.W.Frag} (h:X.K=K:=by rfl):bJ X (.builtin "isinstance") (fun xs H Q=>∃ x T t b,xs=[x,.ty T]/\fW K H x t/\PySem.W.kitOne K t (.type T)=some b/\Q (.bl b) H):=by subst h; exact ia
end
open PySem PySem.Spec PyProof.Rows
section
variable {X:Cx}
end
end L2
namespace HT
open PySem PySem.Spec PyProof.Rows
section
variable {prog:Program} {w:World} {A:Around} {R:Result->Shared->Prop} {I:Addr} {fp wr:List Addr} {n:Nat} {P:Nat->Value->Prop} {St:Nat->Heap->Prop} {kw:List (Str × Value)}
theorem lP:(toString "min" ++ toString ".loop" : String) = "min.loop" := by decide
theorem lQ (W:Walks prog w A.in1 I fp wr n P St) (bt:Nat->Nat->Bool) (hc:CmpOf prog w A.in1 .Lt P bt) (S:Addr) (hS0:S ∉ fp) :
  ∀ (k j:Nat) (s:Shared) (b:Value) (c:Nat),n - (j + 1)=k->j + 1<=n->St (j + 1) s.heap->P (argBest bt j) b →
  s.heap.get? S=some { cls := .type "list",dict:=none,data := .seq #[b,b] c,slots := #[] } →
  (∀ v h' tk,P (argBest bt (n - 1)) v->(∀ a o,a ∉ wr->a ≠ S->s.heap.get? a=some o->h'.get? a=some o)->R (.ok (.ret v)) { s with heap:=h',toks:=tk }) →
  codeAny (model prog w) A (.builtin "min.loop" ⟨[.ref I,.none,.ref S],kw⟩) R s
 | 0,j,s,b,c,hk,hj,hst,hb,hS,hR=>by
  have hin:j + 1=n:=by omega
  refine codeAny_builtin F.entry_min_loop ?_
  rw [Around.under_plainId F.plain_min_loop _]
  show wpAny _ A.in1 (seqItems? (.ref S) >>= _) _ _ s
  refine wpAny_bind (wpAny_seqItems hS rfl ?_)
  show wpAny _ A.in1 (tryCatch (pyNext (.ref I)) _ >>= _) _ _ s
  refine wpAny_bind (wpAny_tryCatch (W.done s _ _ (hin ▸ hst) fun h' tk hk' => ?_))
  have hS':=hk' S _ (fun h=>hS0 (W.sub _ h)) hS
  show wpAny _ A.in1 (updateSeq S (fun _ => #[]) >>= _) _ _ _
  refine wpAny_bind (wpAny_updateSeq hS' rfl (wpAny_bind (wpAny_letGo (wpAny_pure ?_))))
  exact hR b _ tk (by rw [<- hin]; exact hb) fun a o haw haS e=>(Heap.get?_update_other _ _ (Ne.symm haS)).trans (hk' a o haw e)
 | k + 1,j,s,b,c,hk,hj,hst,hb,hS,hR=>by
  have hlt:j + 1 < n:=by omega
  refine codeAny_builtin F.entry_min_loop ?_
  rw [Around.under_plainId F.plain_min_loop _]
  show wpAny _ A.in1 (seqItems? (.ref S) >>= _) _ _ s
  refine wpAny_bind (wpAny_seqItems hS rfl ?_)
  show wpAny _ A.in1 (tryCatch (pyNext (.ref I)) _ >>= _) _ _ s
  refine wpAny_bind (wpAny_tryCatch (W.item (j + 1) s _ _ hlt hst fun v h' tk hv hst' hk' => ?_))
  have hS':=hk' S _ (fun h=>hS0 (W.sub _ h)) hS
  show wpAny _ A.in1 (tryCatch (holding [v,v] (richCompare .Lt v b >>= _)) _ >>= _) _ _ _
  refine wpAny_bind (wpAny_tryCatch (wpAny_holding (wpAny_bind (hc (j + 1) (argBest bt j) v b _ _ _ hv hb ?_))))
  refine wpAny_bind (wpAny_holding (wpAny_truthy_bool ?_))
  refine wpAny_bind (wpAny_letGo (wpAny_pure ?_))
  cases hq:bt (j + 1) (argBest bt j) with
  | true =>
   simp only [if_true]
   refine wpAny_bind (wpAny_updateSeq hS' rfl (wpAny_bind (wpAny_letGo ?_)))
   rw [lP]
   refine wpAny_pure ⟨plainId_quiet F.plain_min_loop _,lQ W bt hc S hS0 k (j + 1) _ v _ (by omega) hlt (W.frame _ _ _ hst' fun a haf o e => ?_) (by simp only [argBest,hq,if_true]; exact hv) (Heap.get?_update_self _ hS' rfl) fun v' h2 tk2 hv' hk2 => ?_⟩
   ·exact (Heap.get?_update_other _ _ (fun h:S=a=>hS0 (by rw [h]; exact haf))).trans e
   ·exact hR v' h2 tk2 hv' fun a o haw haS e=>hk2 a o haw haS ((Heap.get?_update_other _ _ (Ne.symm haS)).trans (hk' a o haw e))
  | false =>
   simp only [Bool.false_eq_true,if_false]
   refine wpAny_bind (wpAny_letGo ?_)
   rw [lP]
   refine wpAny_pure ⟨plainId_quiet F.plain_min_loop _,lQ W bt hc S hS0 k (j + 1) _ b c (by omega) hlt hst' (by simp only [argBest,hq,Bool.false_eq_true,if_false]; exact hb) hS' fun v' h2 tk2 hv' hk2 => ?_⟩
   exact hR v' h2 tk2 hv' fun a o haw haS e=>hk2 a o haw haS (hk' a o haw e)
theorem vn (W:Walks prog w A.in1 I fp wr n P St) (bt:Nat->Nat->Bool) (hc:CmpOf prog w A.in1 .Lt P bt) (S:Addr) (hS0:S ∉ fp) {nm:Str} {d:Value} {s:Shared} {c:Nat} (hst:St 0 s.heap)
  (hS:s.heap.get? S=some { cls := .type "list",dict:=none,data := .seq #[] c,slots := #[] })
  (hR:∀ v h' tk,((0 < n/\P (argBest bt (n - 1)) v)\/(n=0/\v=d))->(∀ a o,a ∉ wr->a ≠ S->s.heap.get? a=some o->h'.get? a=some o)->R (.ok (.ret v)) { s with heap:=h',toks:=tk }) :
  codeAny (model prog w) A (.builtin "min.loop" ⟨[.ref I,.none,.ref S],[(nm,d)]⟩) R s:=by
 refine codeAny_builtin F.entry_min_loop ?_
 rw [Around.under_plainId F.plain_min_loop _]
 show wpAny _ A.in1 (seqItems? (.ref S) >>= _) _ _ s
 refine wpAny_bind (wpAny_seqItems hS rfl ?_)
 show wpAny _ A.in1 (tryCatch (pyNext (.ref I)) _ >>= _) _ _ s
 by_cases hn:0 < n
 ·refine wpAny_bind (wpAny_tryCatch (W.item 0 s _ _ hn hst fun v h' tk hv hst' hk' => ?_))
  have hS':=hk' S _ (fun h=>hS0 (W.sub _ h)) hS
  show wpAny _ A.in1 (updateSeq S (fun _ => #[v,v]) >>= _) _ _ _
  refine wpAny_bind (wpAny_updateSeq hS' rfl ?_)
  rw [lP]
  refine wpAny_pure ⟨plainId_quiet F.plain_min_loop _,lQ W bt hc S hS0 _ 0 _ v _ rfl hn (W.frame _ _ _ hst' fun a haf o e => ?_) hv (Heap.get?_update_self _ hS' rfl) fun v' h2 tk2 hv' hk2 => ?_⟩
  ·exact (Heap.get?_update_other _ _ (fun h:S=a=>hS0 (by rw [h]; exact haf))).trans e
  ·exact hR v' h2 tk2 (.inl ⟨hn,hv'⟩) fun a o haw haS e=>hk2 a o haw haS ((Heap.get?_update_other _ _ (Ne.symm haS)).trans (hk' a o haw e))
 ·have h0:n=0:=by omega
  refine wpAny_bind (wpAny_tryCatch (W.done s _ _ (h0.symm ▸ hst) fun h' tk hk' => ?_))
  show wpAny _ A.in1 (rule _ >>= _) _ _ _
  refine wpAny_bind (wpAny_rule (wpAny_pure ?_))
  exact hR d h' tk (.inr ⟨h0,rfl⟩) fun a o haw haS e=>hk' a o haw e
end
section
variable {prog:Program} {w:World} {A:Around} {E:Value->Shared->Prop} {s:Shared} {l:Addr} {xs:Array (Int × Tok)}
theorem oV (a d:Value):argsOk "min" ⟨[a],[("default",d)]⟩:=by unfold argsOk; kernel_rfl
theorem rC {Q:Value->Shared->Prop} {d:Value} (hh:A.handled=none) (hl:s.heap.IsList l (intItems xs))
  (h:∀ v h' tk,((0 < xs.size/\(intItems xs)[argBest (fun i j=>decide (numAt xs i < numAt xs j)) (xs.size - 1)]? = some v)\/(xs.size=0/\v=d))->(∀ b o,s.heap.get? b=some o->h'.get? b=some o)->Q v { s with heap:=h',toks:=tk }) :
  wpAny (model prog w) A (call (.builtin "min") [.ref l] [("default",d)]) Q E s:=by
 refine wpAny_call (codeAny_call_builtin F.plain_min F.entry_min ?_)
 have hg:wpAny (model prog w) A.in1 (Builtin.«min» ⟨[.ref l],[("default",d)]⟩) (fun fin s'=>match fin with
   | .done f=>(match (Except.ok f:Result) with | .ok (.ret v)=>Q v s' | .ok _=>False | .error e=>E e s')
   | .again c'=>c'.quiet=true/\codeAny (model prog w) A c' (fun r s'=>match r with | .ok (.ret v)=>Q v s' | .ok _=>False | .error e=>E e s') s') E s:=by
  show wpAny _ A.in1 (Builtin.Builtins.bindParams "min" ["key", "default"] 0 ⟨[],[("default",d)]⟩ >>= _) _ _ s
  refine wpAny_bind (wpAny_of_eq (show Builtin.Builtins.bindParams "min" ["key", "default"] 0 ⟨[],[("default",d)]⟩=pure [none,some d] from rfl) ?_)
  refine wpAny_bind (wpAny_pure ?_)
  refine wpAny_bind (iter_intList hl fun s₂ e st hfp hlI => ?_)
  refine wpAny_bind (wpAny_newObj_type ?_)
  have W:=Walks.list (prog:=prog) (w:=w) (A:=A.in1) hh s.heap.objs.size l hlI (intItems xs)
  have hSf:s₂.heap.objs.size ∉ [s.heap.objs.size,l]:=fun hm=>Nat.lt_irrefl _ (hfp _ hm)
  rw [lP]
  refine wpAny_pure ⟨plainId_quiet F.plain_min_loop _,vn W _ (CmpOf.ints_lt (numAt xs) (fun _ _=>intItems_at)) s₂.heap.objs.size hSf (W.frame _ _ _ st fun b _ o e=>Heap.get?_push_of_some _ e) (Heap.get?_push_size _ rfl) fun v h' tk hP hk => ?_⟩
  subst e
  have ez:(intItems xs).size=xs.size:=by simp [intItems]
  rw [ez] at hP
  exact h v h' tk hP (old_kept fun b o hb e=>hk b o hb (Nat.ne_of_lt (Heap.lt_size e)) (Heap.get?_push_of_some _ e))
 simp only [checkBuiltinCall,F.kind_min]
 cases hsig:Manifest.signature? "min" with
 | none=>exact wpAny_pure hg
 | some sig =>
  have ha':Bind.checkArgs "min" sig ⟨[.ref l],[("default",d)]⟩=pure ():=by simpa only [argsOk,hsig] using oV (.ref l) d
  simp only [ha']
  exact wpAny_pure hg
end
end HT
namespace L2
open PySem PyProof.Rows
section
variable {X:Cx}
theorem rD (hc:X.calm=true):tf X (.builtin "min") ["default"] (fun xs zs H Q=>∃ (a:Addr) (ns:List Int) (d:Int),xs=[.ref a]/\zs=[.int d]/\SqL X.K H a (ns.map V.int)/\∀ M:Int,((ns=[]/\M=d)\/(M ∈ ns/\∀ b ∈ ns,M<=b))->Q (.int M) H):=by
 intro pins s σ H xs us zs ws Q I r rz h
 obtain ⟨a,ns,d,rfl,rfl,hS,q⟩:=h
 obtain ⟨u,rfl,ru⟩:=vals1 r
 cases (show u=Value.ref a from ru)
 obtain ⟨v,rfl,td,rfl⟩:=vals1 rz
 obtain ⟨its,r1,p1,_⟩:=I.list hS
 obtain ⟨ps,e2,e3⟩:=eP (intsAre_of r1)
 have ei:its.toArray=intItems ps.toArray:=by rw [e2]; simp [intItems]
 have hl:s.heap.IsList a (intItems ps.toArray):=by rw [<- ei]; exact p1.isList
 show wpAny _ _ (call (.builtin "min") [.ref a] [("default",.int d td)]) _ _ s
 refine HT.rC (I.ok.hd hc) hl fun v h' tk hv k => ?_
 have hz:ps.toArray.size=ns.length:=by rw [List.size_toArray, <- e3,List.length_map]
 have ht:ps.toArray.toList.map (·.1)=ns:=e3
 rw [hz] at hv
 rcases hv with ⟨hn,hv⟩ | ⟨hn,rfl⟩
 ·obtain ⟨t,rfl⟩:=intItems_at hv
  obtain ⟨h1,h2⟩:=argBest_lt (numAt ps.toArray) (ns.length - 1)
  refine ⟨.int _,H,I.kept k,⟨_,rfl⟩,q _ (.inr ⟨?_,fun b hb => ?_⟩)⟩
  ·rw [numAt_eq,ht]; exact ti (by omega)
  ·obtain ⟨j,hj,rfl⟩:=tj hb
   have:=h2 j (by omega)
   rw [numAt_eq,numAt_eq,ht] at this
   rw [numAt_eq,ht]
   exact this
 ·have:ns=[]:=List.length_eq_zero_iff.mp hn
  exact ⟨.int d,H,I.kept k,⟨_,rfl⟩,q d (.inl ⟨this,rfl⟩)⟩
end
end L2
set_option maxHeartbeats 800000
namespace K09
open PySem L2
def top (i:Nat):Stmt:=PySem.Challenge.pw_ringfell_k09_least_ring.main.body.getD i (.Pass ⟨0,0,0,0⟩)
abbrev i5:Stmt:=top 1
abbrev de:Stmt:=top 2
abbrev df:Stmt:=top 3
abbrev cP:Stmt:=top 5
abbrev cq:Stmt:=top 6
abbrev cE:Stmt:=top 7
abbrev cu:Stmt:=top 8
abbrev cv:Stmt:=top 9
abbrev cF:Stmt:=top 10
abbrev i6:Stmt:=top 12
abbrev i7:Stmt:=top 13
abbrev nA:Stmt:=top 14
abbrev i8:Stmt:=top 15
abbrev fz:Stmt:=top 16
abbrev dS:Stmt:=top 17
abbrev gP:Stmt:=top 18
abbrev dU:Stmt:=top 19
abbrev i9:Stmt:=top 20
abbrev dg:Stmt:=top 21
abbrev gQ:Stmt:=top 22
structure Blt (mg:Str->Option Value):Prop where
 b_all:mg "all" = none
 b_bool:mg "bool" = none
 b_divmod:mg "divmod" = none
 b_int:mg "int" = none
 b_isinstance:mg "isinstance" = none
 b_len:mg "len" = none
 b_list:mg "list" = none
 b_max:mg "max" = none
 b_min:mg "min" = none
 b_range:mg "range" = none
 b_reversed:mg "reversed" = none
 b_set:mg "set" = none
 b_sorted:mg "sorted" = none
 b_tuple:mg "tuple" = none
theorem tL:bootBuiltins "all" = some (.builtin "all"):=by decide +kernel
theorem vo:bootBuiltins "bool" = some (.type "bool"):=by decide +kernel
theorem aI:bootBuiltins "divmod" = some (.builtin "divmod"):=by decide +kernel
theorem oW:bootBuiltins "int" = some (.type "int"):=by decide +kernel
theorem dF:bootBuiltins "isinstance" = some (.builtin "isinstance"):=by decide +kernel
theorem dG:bootBuiltins "len" = some (.builtin "len"):=by decide +kernel
theorem pX:bootBuiltins "list" = some (.type "list"):=by decide +kernel
theorem gR:bootBuiltins "max" = some (.builtin "max"):=by decide +kernel
theorem dH:bootBuiltins "min" = some (.builtin "min"):=by decide +kernel
theorem eV:bootBuiltins "reversed" = some (.type "reversed"):=by decide +kernel
theorem tM:bootBuiltins "set" = some (.type "set"):=by decide +kernel
theorem cQ:bootBuiltins "sorted" = some (.builtin "sorted"):=by decide +kernel
theorem dh:bootBuiltins "tuple" = some (.type "tuple"):=by decide +kernel
theorem hu8 {A:Around} {k:Nat} (hr:di k A):A.units + 8 < cLine:=Nat.lt_of_le_of_lt (Nat.add_le_add_left (by decide:8<=64) _) hr.units
abbrev vR:Stmt:=i6
abbrev vS:Stmt:=i7
abbrev nB:Stmt:=nA
abbrev tN:Stmt:=i8
abbrev tO:Stmt:=de
abbrev yq:Stmt:=i5
abbrev tP:Stmt:=df
structure Wb (H:Hp) (r:Addr) (m:Int) (ts:List (Addr × List Int)):Prop where
 at':∃ t,H r=some (.tup [.int m,.ref t])/\H t=some (.tup (ts.map fun u => .ref u.1))
 tup:∀ u ∈ ts,H u.1=some (.tup (u.2.map V.int))
 pr:∀ u ∈ ts,∃ a b:Int,u.2=[a,b]/\0<=a/\a<=b/\b < m
 len:ts.length<=200
theorem Wb.tp {H H':Hp} {r:Addr} {m:Int} {ts:List (Addr × List Int)} (h:Wb H r m ts) (t:Tp H H'):Wb H' r m ts :=
 let ⟨p,e1,e2⟩:=h.at'
 ⟨⟨p,t _ _ e1,t _ _ e2⟩,fun u hu=>t _ _ (h.tup u hu),h.pr,h.len⟩
theorem Wb.same {H H':Hp} {r:Addr} {m:Int} {ts:List (Addr × List Int)} (h:Wb H r m ts) (s:aA H H'):Wb H' r m ts:=h.tp s.tp
theorem item {ts:List (Addr × List Int)} {i:Nat} {x:V} (e:(ts.map fun t:Addr × List Int=>V.ref t.1)[i]? = some x):∃ u,ts[i]? = some u/\x = .ref u.1:=by
 rw [List.getElem?_map] at e
 cases z:ts[i]? with
 | none=>rw [z] at e; cases e
 | some tt=>rw [z] at e; exact ⟨tt,rfl,(Option.some.inj e).symm⟩
theorem yr {ts:List (Addr × Int × Int)} {i:Nat} {x:V} (e:(ts.map fun t:Addr × Int × Int=>V.ref t.1)[i]? = some x):∃ u,ts[i]? = some u/\x = .ref u.1:=by
 rw [List.getElem?_map] at e
 cases z:ts[i]? with
 | none=>rw [z] at e; cases e
 | some tt=>rw [z] at e; exact ⟨tt,rfl,(Option.some.inj e).symm⟩
theorem take_snoc {α β : Type} {f : α -> β} {l:List α} {i:Nat} {x : α} (e:l[i]? = some x):(l.take (i + 1)).map f=(l.take i).map f ++ [f x]:=by
 rw [List.take_add_one,e,List.map_append]; rfl
structure bS (H:Hp) (l:Addr) (many:Int) (ts:List (Addr × Int × Int)):Prop where
 at':H l=some (.lst (ts.map fun t => .ref t.1))
 tup:∀ t ∈ ts,H t.1=some (.tup [.int t.2.1,.int t.2.2])
 bnd:∀ t ∈ ts,0<=t.2.1/\t.2.1 < many/\0<=t.2.2/\t.2.2 < many
theorem bS.same {H H':Hp} {l:Addr} {many:Int} {ts:List (Addr × Int × Int)} (h:bS H l many ts) (s:aA H H'):bS H' l many ts:=⟨s _ _ h.at',fun t m=>s _ _ (h.tup t m),h.bnd⟩
theorem bS.put {H H':Hp} {l:Addr} {many:Int} {ts us:List (Addr × Int × Int)} (h:bS H' l many ts) (tu:∀ t ∈ us,H' t.1=some (.tup [.int t.2.1,.int t.2.2])) (b:∀ t ∈ us,0<=t.2.1/\t.2.1 < many/\0<=t.2.2/\t.2.2 < many) :
  bS (upd H' l (.lst (us.map fun t => .ref t.1))) l many us:=by
 refine ⟨ag,fun t ht => ?_,b⟩
 rw [aD (fT (tu t ht) h.at' (by intro z; cases z))]
 exact tu t ht
theorem aA.bZ {H H':Hp} {l:Addr} (s:aA H H') (hl:H l=none) (o:HO):aA H (upd H' l o):=fun b u e=>by
 rw [aD (aB e hl)]; exact s _ _ e
def key (t:Addr × Int × Int):List Int:=nrm t.2.1 t.2.2
def oX (H:Hp) (ys:List V) (us:List (Addr × List Int)):Prop:=ys=us.map (fun u => .ref u.1)/\∀ u ∈ us,H u.1=some (.tup (u.2.map V.int))
theorem oX.add {H:Hp} {ys:List V} {us:List (Addr × List Int)} (h:oX H ys us) {t:Addr} (ht:H t=none) (ns:List Int):oX (upd H t (.tup (ns.map V.int))) (ys ++ [.ref t]) (us ++ [(t,ns)]):=by
 refine ⟨by rw [h.1,List.map_append]; rfl,fun u hu => ?_⟩
 rcases List.mem_append.mp hu with z | z
 ·rw [aD (aB (h.2 u z) ht)]
  exact h.2 u z
 ·have e:u=(t,ns):=by simpa using z
  rw [e]
  exact ag
theorem oX.same {H H':Hp} {ys:List V} {us:List (Addr × List Int)} (h:oX H ys us) (s:aA H H'):oX H' ys us:=⟨h.1,fun u hu=>s _ _ (h.2 u hu)⟩
theorem xp {a b m:Int} (h:0<=a/\a < m/\0<=b/\b < m):∃ x y:Int,nrm a b=[x,y]/\0<=x/\x<=y/\y < m:=by
 refine ⟨mnI a b,mxI a b,rfl,?_,?_,?_⟩ <;> (try unfold mnI) <;> (try unfold mxI) <;> (repeat' split) <;> omega
theorem dmN {n j:Int} (h:0<=n) (hj:0 < j):0<=n / j/\0<=n % j/\n % j < j:=⟨Int.ediv_nonneg h (by omega),Int.emod_nonneg _ (by omega),Int.emod_lt_of_pos _ hj⟩
@[irreducible] def ja (K:PySem.W.Frag):Sp:=fun vs H Q _=>∃ (a:Addr) (ns:List Int) (k:Int),vs=[.ref a,.int k]/\SqL K H a (ns.map V.int)/\0<=k/\∀ c:Int,Q (.int c) H
theorem fL {K:PySem.W.Frag} {vs:List V} {H:Hp} {Q:VK} {E:XK}:ja K vs H Q E ↔ ∃ (a:Addr) (ns:List Int) (k:Int),vs=[.ref a,.int k]/\SqL K H a (ns.map V.int)/\0<=k/\∀ c:Int,Q (.int c) H:=by
 delta ja
 exact Iff.rfl
abbrev pZ:Sp:=fun vs H Q _=>∃ c s:Int,vs=[.int c,.int s]/\0<=s/\s<=1000/\∀ n:Int,0<=n->Q (.int n) H
@[irreducible] def jb:Sp:=pZ
theorem fM {vs:List V} {H:Hp} {Q:VK} {E:XK}:jb vs H Q E ↔ pZ vs H Q E:=by
 delta jb
 exact Iff.rfl
section
variable {P:Program} {w:World} {K:PySem.W.Frag} {mg:Str->Option Value} {base:Heap} {f:Addr} {fd:FuncData}
theorem xq:aW ["script", "k"] ["script", "k"] (au vR):=⟨rfl,rfl,rfl,by decide +kernel,rfl,by decide +kernel,by decide +kernel⟩
theorem xr (F:Fun K "_law_cell" "_law_cell" vR f fd) (B:Blt mg):cy P w K mg base CX0 1 f fd ["script", "k"] (ja K):=by
 refine F.ok xq (fun vs H Q E h => ?_) (fun cdv A outer s H vs Q E hr h => ?_)
 ·obtain ⟨c,k,k',rfl,_⟩:=fL.mp h
  rfl
 obtain ⟨a,ns,k,rfl,hS,k0,q⟩:=fL.mp h
 refine ⟨_,ah (bQ (aJ mv (pv 1) (ak aX rfl B.b_len PySem.boot_len (aa (pv 0) af)) (aR _)) (av (aU (aQ cj (pv 0) (pv 1) (fun _ _=>rfl)))) ba)
  (av (aU ai)),?_⟩
 refine ⟨_,rfl,_,rfl,a,_,rfl,.inl hS,_,_,rfl,rfl,_,rfl,gc (fun c => ?_) fun _=>q 0⟩
 have c':k < ((ns.map V.int).length:Int):=of_decide_eq_true c
 rw [List.length_map] at c'
 obtain ⟨n,rfl⟩:∃ n:Nat,k=n:=⟨k.toNat,by omega⟩
 exact ⟨_,rfl,_,rfl,a,_,_,.int (ns[n]'(by omega)),rfl,rfl,hS,cM (by rw [List.getElem?_map,List.getElem?_eq_getElem (by omega)]; rfl),q _⟩
theorem fN:aW ["cell", "salt", "one", "number", "j"] ["cell", "salt"] (au vS):=⟨rfl,rfl,rfl,by decide +kernel,rfl,by decide +kernel,by decide +kernel⟩
theorem xt (F:Fun K "_law_deal" "_law_deal" vS f fd) (B:Blt mg):cy P w K mg base CX0 1 f fd ["cell", "salt"] jb:=by
 refine F.ok fN (fun vs H Q E h => ?_) (fun cdv A outer s H vs Q E hr h => ?_)
 ·obtain ⟨c,k,rfl,_⟩:=fM.mp h
  rfl
 obtain ⟨c,salt,rfl,s0,s1,q⟩:=fM.mp h
 refine ⟨_,ah (bQ (aJ rW (pv 0) (aE rT ai ai) (aR _)) (av (aU (aE cC (pv 0) (aE rT ai ai)))) ba)
  (ah (aL (i:=2) fN.nd rfl (Or.inl rfl) (aE cV (pv 0) ai))
  (ah (aL (i:=3) fN.nd rfl (Or.inl rfl) ai)
  (ah (cx PassesOwn.never rfl (bI rfl B.b_range (aa ai af)) (aj (i:=4) fN.nd rfl (Or.inl rfl))
   (ah (aL (i:=2) fN.nd rfl (Or.inl rfl) (aE cV (aE cU (aE bT (aE bT (aE bT (pv 2) (aE cU (aE cU ai (pv 4)) (pv 4))) (aE cU ai (pv 1))) ai) ai) ai))
   (ah (aL (i:=2) fN.nd rfl (Or.inl rfl) (aE cV (aE cU (pv 2) (pv 2)) ai))
   (av (aL (i:=3) fN.nd rfl (Or.inl rfl) (aE bT (aE cU (pv 3) ai) (aE o9 (aE cV (aE cU (pv 2) ai) ai) ai)))))))
  (av (aU (pv 3)))))),?_⟩
 refine ⟨_,rfl,_,_,rfl,rfl,⟨by decide,by decide,by decide⟩,_,_,rfl,rfl,_,rfl,?_⟩
 refine gc (fun c1 => ?_) (fun c1 => ?_)
 ·have c':(10:Int) ^ (18:Int).toNat<=c:=of_decide_eq_true c1
  exact ⟨_,rfl,_,_,rfl,rfl,⟨by decide,by decide,by decide⟩,_,_,rfl,rfl,q _ (by omega)⟩
 ·refine ⟨_,rfl,_,_,rfl,rfl,(by show (0:Int) < _; decide),_,rfl,by decide,by decide,bV (fun k σ H'=>(∃ (o g:Int) (lv:Option V),0<=g/\σ=[some (.int c),some (.int salt),some (.int o),some (.int g),lv])/\H'=H) ⟨⟨_,0,none,by decide,rfl⟩,rfl⟩ ?_ ?_⟩
  ·rintro k σ H' hk ⟨⟨o,g,lv,hg,rfl⟩,rfl⟩
   have hk':k < 24:=hk
   refine ⟨_,rfl,_,rfl,_,_,rfl,rfl,.inl ⟨by decide,by decide⟩,_,rfl,_,_,rfl,rfl,.inl ⟨by omega,by omega⟩,_,_,rfl,rfl,_,rfl,_,_,rfl,rfl,.inl ⟨by decide,by decide⟩,_,_,rfl,rfl,_,_,rfl,rfl,_,_,rfl,rfl,.inr ⟨by decide,by decide⟩,_,_,rfl,rfl,(by show (0:Int) < _; decide),?_⟩
   generalize ((o + 15 * (0 + (k:Int)) * (0 + (k:Int)) + 31 * salt + 11) * 48271)=z1
   have b1:=Int.emod_nonneg z1 (b:=2147483647) (by decide)
   have b2:=Int.emod_lt_of_pos z1 (b:=2147483647) (by decide)
   refine ⟨_,rfl,_,rfl,_,_,rfl,rfl,.inl ⟨by omega,by omega⟩,_,_,rfl,rfl,(by show (0:Int) < _; decide),?_⟩
   refine ⟨_,rfl,_,_,rfl,rfl,.inr ⟨by decide,by decide⟩,_,rfl,_,_,rfl,rfl,.inr ⟨by decide,by decide⟩,_,_,rfl,rfl,(by show (0:Int) < _; decide),_,_,rfl,rfl,⟨by decide,by decide⟩,_,_,rfl,rfl,⟨_,_,_,?_,rfl⟩,rfl⟩
   generalize (z1 % 2147483647 * (z1 % 2147483647) % 2147483629 * 69621)=z2
   have a1:0<=g * 998244353:=Int.mul_nonneg hg (by decide)
   have a2:0<=z2 % 2147483587 / 7:=Int.ediv_nonneg (Int.emod_nonneg z2 (by decide)) (by decide)
   omega
  ·rintro σ H' ⟨⟨o,g,lv,hg,rfl⟩,rfl⟩
   exact ⟨_,rfl,q g hg⟩
end
open PySem L2
theorem cR {X:Cx} {body:List Stmt} {D0:Ends} {σ0:St} {H0:Hp} (sts:List Stmt) (M:St->Hp->Prop) (h:∃ t2,PSs X sts t2/\∀ σ H,M σ H->t2 D0 σ H)
  (g:∀ t2,PSs X sts t2->(∀ σ H,M σ H->t2 D0 σ H)->∃ t,PSs X body t/\t D0 σ0 H0):∃ t,PSs X body t/\t D0 σ0 H0:=by
 obtain ⟨t2,p2,m2⟩:=h
 exact g t2 p2 m2
def T3 (H:Hp) (ys:List V) (us:List (Addr × Int × Int)):Prop:=ys=us.map (fun u => .ref u.1)/\∀ u ∈ us,H u.1=some (.tup [.int u.2.1,.int u.2.2])
theorem T3.add {H:Hp} {ys:List V} {us:List (Addr × Int × Int)} (h:T3 H ys us) {t:Addr} (ht:H t=none) (a b:Int):T3 (upd H t (.tup [.int a,.int b])) (ys ++ [.ref t]) (us ++ [(t,a,b)]):=by
 refine ⟨by rw [h.1,List.map_append]; rfl,fun u hu => ?_⟩
 rcases List.mem_append.mp hu with z | z
 ·rw [aD (aB (h.2 u z) ht)]
  exact h.2 u z
 ·have e:u=(t,a,b):=by simpa using z
  rw [e]
  exact ag
theorem T3.xu {H:Hp} {ys:List V} {us:List (Addr × Int × Int)} {m:Int} (h:T3 H ys us) {l:Addr} (hl:H l=none) (b:∀ t ∈ us,0<=t.2.1/\t.2.1 < m/\0<=t.2.2/\t.2.2 < m):bS (upd H l (.lst ys)) l m us:=by
 refine ⟨by rw [ag,h.1],fun u hu => ?_,b⟩
 rw [aD (aB (h.2 u hu) hl)]
 exact h.2 u hu
theorem gv {m a b:Int} {t:Addr} {us:List (Addr × Int × Int)} (h:∀ t ∈ us,0<=t.2.1/\t.2.1 < m/\0<=t.2.2/\t.2.2 < m) (hab:0<=a/\a < m/\0<=b/\b < m):∀ x ∈ us ++ [(t,a,b)],0<=x.2.1/\x.2.1 < m/\0<=x.2.2/\x.2.2 < m:=fun x hx=>by
 rcases List.mem_append.mp hx with z | z
 ·exact h x z
 ·rw [List.mem_singleton] at z; subst z; exact hab
theorem bS.push {H0 H:Hp} {l:Addr} {m:Int} {ts:List (Addr × Int × Int)} (h:bS H l m ts) {t:Addr} (ht:H t=none) {a b:Int} (hab:0<=a/\a < m/\0<=b/\b < m) :
  bS (upd (upd H t (.tup [.int a,.int b])) l (.lst ((ts.map fun t => .ref t.1) ++ [.ref t]))) l m (ts ++ [(t,a,b)]):=by
 have nt:∀ {c:Addr} {xs:List V},H c=some (.tup xs)->c ≠ l:=fun e=>fT e h.at' (by intro z; cases z)
 have ntl:t ≠ l:=Ne.symm (aB h.at' ht)
 refine ⟨by rw [ag,List.map_append]; rfl,fun u hu => ?_,gv h.bnd hab⟩
 rcases List.mem_append.mp hu with z | z
 ·rw [aD (nt (h.tup u z)),aD (aB (h.tup u z) ht)]; exact h.tup u z
 ·rw [List.mem_singleton] at z; subst z
  rw [aD ntl]; exact ag
theorem p8 {α : Type} (x : α):∀ k:Nat,(List.replicate k [x]).flatten=List.replicate k x
 | 0=>rfl
 | k + 1=>by rw [List.replicate_succ,List.flatten_cons,p8 x k,List.replicate_succ]; rfl
abbrev p9:Sp:=fun vs H Q _=>∃ n most:Int,vs=[.int n,.int most]/\0<=n/\0<=most/\most<=30/\∀ (p b:Addr) (n' m:Int) (ts:List (Addr × List Int)) (H':Hp),aA H H'->H' p=some (.tup [.ref b,.int n'])->Wb H' b m ts->0<=m->m<=most->0<=n'->Q (.ref p) H'
@[irreducible] def jf:Sp:=p9
theorem fO {vs:List V} {H:Hp} {Q:VK} {E:XK}:jf vs H Q E ↔ p9 vs H Q E:=by
 delta jf
 exact Iff.rfl
def MT (H:Hp) (most:Int) (k:Nat) (σ:St) (H':Hp):Prop:=∃ (n m wy c t:Int) (l:Addr) (ts:List (Addr × Int × Int)) (c7 c8 c9 c10 c11:Option V),
 σ=[some (.int n),some (.int most),some (.int m),some (.int wy),some (.int c),some (.int t),some (.ref l),c7,c8,c9,c10,c11]/\0<=n/\0<=m/\m<=most/\0<=c/\c<=60/\aA H H'/\H l=none/\bS H' l m ts/\ts.length<=k
section
variable {P:Program} {w:World} {K:PySem.W.Frag} {mg:Str->Option Value} {base:Heap} {f:Addr} {fd:FuncData}
theorem ndPM:(["place", "many"]:List Str).Nodup:=by decide +kernel
theorem vT:(["one", "other", "many"]:List Str).Nodup:=by decide +kernel
theorem ndP:(["pair"]:List Str).Nodup:=by decide +kernel
theorem bz:aW ["number", "most", "many", "way", "count", "turn", "ties", "place", "other", "k", "one", "again"] ["number", "most"] (au nB):=⟨rfl,rfl,rfl,by decide +kernel,rfl,by decide +kernel,by decide +kernel⟩
theorem xv (F:Fun K "_law_web" "_law_web" nB f fd) (B:Blt mg):cy P w K mg base CX0 1 f fd ["number", "most"] jf:=by
 refine F.ok bz (fun vs H Q E h => ?_) (fun cdv A outer s H vs Q E hr h => ?_)
 ·obtain ⟨c,k,rfl,_⟩:=fO.mp h
  rfl
 obtain ⟨n,most,rfl,n0,h0,h1,q⟩:=fO.mp h
 refine cR ((aH nB).drop 9) (MT H most 200) ?hT fun tT pT mT => ?gT
 case hT =>
  refine ⟨_,av (aU (bO (aa (bO (aa (pv 2) (aa (bj bC rfl B.b_tuple PySem.Pv.boot_tuple (aa (ak d8 rfl B.b_sorted cQ (aa
   (dr ["pair"] [none] rfl (cw (pv 6)) rfl (fun _ _ _ _ _=>aj (i:=0) ndP rfl (Or.inl rfl)) (fun _ _ _ _ _=>cX)
    (fun _ _ _ _ _=>bO (aa (ak (qW (K:=K) rfl) rfl B.b_min dH (aa (pv 0) af)) (aa (ak (qX (K:=K) rfl) rfl B.b_max gR (aa (pv 0) af)) af)))) af)) af)) af))) (aa (pv 0) af)))),?_⟩
  rintro σ H8 ⟨n,m,wy,c,t,l,ts,c7,c8,c9,c10,c11,rfl,n0,m0,m1,_,_,s8,hl,tA,lt⟩
  refine ⟨_,rfl,_,rfl,l,rfl,⟨_,SqL.of tA.at'⟩,cZ (xs:=ts.map fun t => .ref t.1) (fun i ys H'=>aA H8 H'/\∃ us,oX H' ys us/\us.map (·.2)=(ts.take i).map key) ⟨aA.refl _,[],⟨rfl,fun u hu=>by cases hu⟩,rfl⟩ (by rw [List.length_map]; exact small (by omega)) (fun i ys H'' _ z=>SqL.of (z.1 _ _ tA.at')) ?_ ?_⟩
  ·rintro i x ys H' hx hy ⟨s',us,tu,eu⟩ R1 R0 r1 r0
   obtain ⟨tt,ht,rfl⟩:=yr hx
   have e2:=s' _ _ (tA.tup tt (List.mem_of_getElem? ht))
   refine cB ⟨_,rfl,_,_,_,rfl,SqT.of e2,_,rfl,_,_,_,rfl,SqT.of e2,(by show 2<=sizeLine; decide),fun tn htn=>r1 _ _ ⟨s'.trans (ae htn _),us ++ [(tn,key tt)],tu.add htn _,?_⟩⟩
   rw [List.map_append,eu,List.take_add_one,ht,List.map_append]
   rfl
  rintro ys H9 hy ⟨s9,us,tu,eu⟩ L hL
  have eu':us.map (·.2)=ts.map key:=by rw [eu,List.length_map,List.take_of_length_le (Nat.le_refl _)]
  have s10:=s9.trans (ae hL (.lst ys))
  have tu10:=tu.same (ae hL (.lst ys))
  have ey:=tu.1
  have keys:∀ u ∈ us,∃ x y:Int,u.2=[x,y]/\0<=x/\x<=y/\y < m:=fun u hu=>by
   have:u.2 ∈ ts.map key:=by rw [<- eu']; exact List.mem_map_of_mem hu
   obtain ⟨t,ht,e⟩:=List.mem_map.mp this
   rw [<- e]
   exact xp (tA.bnd t ht)
  have nn:∀ u ∈ us,u.2 ≠ []:=fun u hu z=>by
   obtain ⟨a,b,e,_⟩:=keys u hu
   rw [z] at e
   cases e
  refine ⟨L,us,rfl,.inl (SqL.of (by rw [ag,ey])),fun u hu=>⟨SqT.of (tu10.2 u hu),nn u hu⟩,fun L2 out hL2 po ps => ?_⟩
  have s11:=s10.trans (ae hL2 (.lst (out.map fun t => .ref t.1)))
  have tu11:=tu10.same (ae hL2 (.lst (out.map fun t => .ref t.1)))
  refine ⟨L2,_,rfl,.inl ⟨SqL.of ag,fun l3 hl3 => ?_⟩⟩
  have s12:=s11.trans (ae hl3 (.tup (out.map fun t => .ref t.1)))
  have tu12:=tu11.same (ae hl3 (.tup (out.map fun t => .ref t.1)))
  refine ⟨(by show 2<=sizeLine; decide),fun b hb=>⟨_,rfl,(by show 2<=sizeLine; decide),fun p hp => ?_⟩⟩
  have sb:=ae hb (.tup [.int m,.ref l3])
  have sp:=ae hp (.tup [.ref b,.int n])
  have lu:us.length=ts.length:=by have:=congrArg List.length eu'; rwa [List.length_map,List.length_map] at this
  refine q p b n m out _ (s8.trans (s12.trans (sb.trans sp))) ag ⟨⟨l3,sp _ _ ag,sp _ _ (sb _ _ ag)⟩,fun u hu=>sp _ _ (sb _ _ (tu12.2 u (po.mem_iff.mp hu))),fun u hu=>keys u (po.mem_iff.mp hu),?_⟩ m0 m1 n0
  rw [po.length_eq]; omega
 refine cR ((aH nB).drop 7) (MT H most 30) ?hU fun tU pU mU => ?gU
 case hU =>
  refine ⟨_,ah (cx PassesOwn.never rfl (bI rfl B.b_range (aa (aE cU (pv 4) (bj jO rfl B.b_int oW (aa (kZ vH (pv 2) ai (aR _)) af))) af)) (aj (i:=9) bz.nd rfl (Or.inl rfl))
    (ah (bo (ak az rfl B.b_divmod aI (aa (pv 0) (aa (pv 2) af))) (bh rfl (aq (aj (i:=0) bz.nd rfl (Or.inl rfl)) (aq (aj (i:=10) bz.nd rfl (Or.inl rfl)) aK))))
    (ah (bo (ak az rfl B.b_divmod aI (aa (pv 0) (aa (pv 2) af))) (bh rfl (aq (aj (i:=0) bz.nd rfl (Or.inl rfl)) (aq (aj (i:=8) bz.nd rfl (Or.inl rfl)) aK))))
    (ah (bo (ak az rfl B.b_divmod aI (aa (pv 0) (aa ai af))) (bh rfl (aq (aj (i:=0) bz.nd rfl (Or.inl rfl)) (aq (aj (i:=11) bz.nd rfl (Or.inl rfl)) aK))))
    (av (bN (cW PySem.F.plainAttrs_list PySem.F.slot_list_extend PySem.F.type_list_extend jU (pv 6) (aa (aE wI (bY (aa (bO (aa (pv 10) (aa (pv 8) af))) af)) (aE bT ai (bj jO rfl B.b_int oW (aa (kZ eF (pv 11) ai (aR _)) af)))) af))))))))
   (ah (bQ (aJ eF (pv 5) ai (aR _)) (av (cY (i:=6) ["one", "other", "many"] [none,none,some 2] rfl bz.nd rfl rfl (cw (pv 6)) rfl (fun _ _ _ _ _=>mO (K:=K) (i:=0) (j:=1) vT rfl rfl (Or.inl rfl) (Or.inl rfl)) (fun _ _ _ _ _=>cX)
     (fun _ _ _ _ _=>bO (aa (aE cC (aE cC (pv 2) ai) (pv 0)) (aa (aE cC (aE cC (pv 2) ai) (pv 1)) af))))) ba) pT),?_⟩
  rintro σ H2 ⟨n,m,wy,c,t,l,ts,c7,c8,c9,c10,c11,rfl,n0,m0,m1,cc0,cc1,s2,hl,tA,lt⟩
  have hN:∃ N:Int,c * (if decide (0 < m)=true then 1 else 0)=N/\0<=N/\N<=c/\(0 < N->0 < m):=by
   by_cases h:0 < m
   ·exact ⟨c,by rw [if_pos (decide_eq_true h)]; omega,cc0,by omega,fun _=>h⟩
   ·exact ⟨0,by rw [if_neg (by simpa using h)]; omega,by omega,by omega,fun z=>by omega⟩
  obtain ⟨N,eN,N0,N1,Nm⟩:=hN
  refine ⟨_,rfl,_,rfl,_,_,rfl,rfl,.inr ⟨_,rfl,_,_,rfl,rfl,.inl ⟨by omega,by omega⟩,N,by rw [<- eN],by omega,by omega,?_⟩⟩
  refine bV (fun i σ H'=>(∃ (n:Int) (c8 c9 c10 c11:Option V),0<=n/\σ=[some (.int n),some (.int most),some (.int m),some (.int wy),some (.int c),some (.int t),some (.ref l),c7,c8,c9,c10,c11])/\aA H H'/\∃ ts,bS H' l m ts/\ts.length<=30 + 2 * i) ⟨⟨_,_,_,_,_,n0,rfl⟩,s2,ts,tA,by omega⟩ ?_ ?_
  ·rintro i σ H3 hi ⟨⟨n,c8,c9,c10,c11,n0,rfl⟩,s3,ts,tA,lt⟩
   have hi':(i:Int) < N:=by omega
   have mp:0 < m:=Nm (by omega)
   obtain ⟨q0,x0,x1⟩:=dmN n0 mp
   refine ⟨_,rfl,_,rfl,n,m,rfl,⟨mp,by omega⟩,fun p hp=>⟨p,_,rfl,SqT.of ag,rfl,_,_,rfl,_,_,rfl,rfl,?_⟩⟩
   have tA1:=tA.same (ae hp (.tup [.int (n / m),.int (n % m)]))
   have s4:=s3.trans (ae hp (.tup [.int (n / m),.int (n % m)]))
   generalize upd H3 p (.tup [.int (n / m),.int (n % m)])=H4 at tA1 s4
   generalize n / m=n1 at q0
   generalize n % m=x at x0 x1
   obtain ⟨q1,y0,y1⟩:=dmN q0 mp
   refine ⟨_,rfl,_,rfl,n1,m,rfl,⟨mp,by omega⟩,fun p hp=>⟨p,_,rfl,SqT.of ag,rfl,_,_,rfl,_,_,rfl,rfl,?_⟩⟩
   have tA2:=tA1.same (ae hp (.tup [.int (n1 / m),.int (n1 % m)]))
   have s5:=s4.trans (ae hp (.tup [.int (n1 / m),.int (n1 % m)]))
   generalize upd H4 p (.tup [.int (n1 / m),.int (n1 % m)])=H5 at tA2 s5
   generalize n1 / m=n2 at q1
   generalize n1 % m=y at y0 y1
   obtain ⟨q2,z0,z1⟩:=dmN (j:=8) q1 (by decide)
   refine ⟨_,rfl,n2,8,rfl,⟨by decide,by decide⟩,fun p hp=>⟨p,_,rfl,SqT.of ag,rfl,_,_,rfl,_,_,rfl,rfl,?_⟩⟩
   have tA3:=tA2.same (ae hp (.tup [.int (n2 / 8),.int (n2 % 8)]))
   have s6:=s5.trans (ae hp (.tup [.int (n2 / 8),.int (n2 % 8)]))
   generalize upd H5 p (.tup [.int (n2 / 8),.int (n2 % 8)])=H6 at tA3 s6
   generalize n2 / 8=n3 at q2
   generalize n2 % 8=z at z0 z1
   refine ⟨_,rfl,.inl ⟨rfl,_,SqL.of tA3.at'⟩,_,rfl,_,rfl,(by show 2<=sizeLine; decide),fun t1 ht1=>⟨(by show 1<=sizeLine; decide),fun b1 hb1 => ?_⟩⟩
   have hk:∃ k:Nat,(1 + (if decide (V.int z=V.int 0)=true then 1 else 0):Int)=(k:Int)/\1<=k/\k<=2:=by
    by_cases h:V.int z=V.int 0
    ·exact ⟨2,by rw [if_pos (decide_eq_true h)]; rfl,by omega,by omega⟩
    ·exact ⟨1,by rw [if_neg (by simpa using h)]; rfl,by omega,by omega⟩
   obtain ⟨k,ek,k1,k2⟩:=hk
   refine ⟨_,rfl,rfl,.inr ⟨_,rfl,_,_,rfl,rfl,b1,(k:Int),[.ref t1],rfl,by rw [<- ek],ag,by omega,by omega,?_,fun b2 hb2 => ?_⟩⟩
   ·show 1 * (k:Int).toNat<=sizeLine
    exact small (by omega)
   have g1:=ae ht1 (.tup [.int x,.int y])
   have g2:=ae hb1 (.lst [.ref t1])
   have g3:=ae hb2 (.lst (List.replicate (k:Int).toNat [V.ref t1]).flatten)
   have tA6:=((tA3.same g1).same g2).same g3
   have et:upd (upd (upd H6 t1 (.tup [.int x,.int y])) b1 (.lst [.ref t1])) b2 (.lst (List.replicate (k:Int).toNat [V.ref t1]).flatten) t1=some (.tup [.int x,.int y]):=g3 _ _ (g2 _ _ ag)
   have eb2:upd (upd (upd H6 t1 (.tup [.int x,.int y])) b1 (.lst [.ref t1])) b2 (.lst (List.replicate (k:Int).toNat [V.ref t1]).flatten) b2=some (.lst (((List.replicate k (t1,x,y))).map fun u=>V.ref u.1)):=by
    rw [ag,Int.toNat_natCast]
    rw [p8,List.map_replicate]
   have s9:=s6.trans (g1.trans (g2.trans g3))
   generalize upd (upd (upd H6 t1 (.tup [.int x,.int y])) b1 (.lst [.ref t1])) b2 (.lst (List.replicate (k:Int).toNat [V.ref t1]).flatten)=H9 at tA6 et eb2 s9
   refine ⟨l,b2,_,_,rfl,rfl,tA6.at',eb2,?_,⟨_,_,_,_,_,q2,rfl⟩,aA.bZ s9 hl _,ts ++ List.replicate k (t1,x,y),?_,?_⟩
   ·rw [List.length_map,List.length_map,List.length_replicate]; exact small (by omega)
   ·rw [<- List.map_append]
    refine tA6.put (H:=H) (fun u hu => ?_) fun u hu => ?_
    ·rcases List.mem_append.mp hu with h | h
     ·exact tA6.tup u h
     ·rw [List.eq_of_mem_replicate h]; exact et
    ·rcases List.mem_append.mp hu with h | h
     ·exact tA6.bnd u h
     ·rw [List.eq_of_mem_replicate h]; exact ⟨x0,x1,y0,y1⟩
   ·rw [List.length_append,List.length_replicate]; omega
  ·rintro σ H3 ⟨⟨n,c8,c9,c10,c11,n0,rfl⟩,s3,ts,tA,lt⟩
   have lt':ts.length<=150:=by omega
   refine ⟨_,rfl,rfl,_,rfl,gc (fun _ => ?_) fun _=>mT _ _ ⟨n,m,wy,c,t,l,ts,_,_,_,_,_,rfl,n0,m0,m1,cc0,cc1,s3,hl,tA,by omega⟩⟩
   have em:(ts.map fun t=>(t.1,V.int t.2.1,V.int t.2.2)).map (fun t=>V.ref t.1)=ts.map fun t=>V.ref t.1:=by rw [List.map_map]; rfl
   refine ⟨_,rfl,l,rfl,⟨_,SqL.of tA.at'⟩,iI (ts:=ts.map fun t=>(t.1,V.int t.2.1,V.int t.2.2)) (fun i ys H'=>aA H3 H'/\∃ us,T3 H' ys us/\us.length=i/\∀ t ∈ us,0<=t.2.1/\t.2.1 < m/\0<=t.2.2/\t.2.2 < m) (by decide) ⟨aA.refl _,[],⟨rfl,fun u hu=>by cases hu⟩,rfl,fun u hu=>by cases hu⟩ (by rw [List.length_map]; exact small (by omega)) ?_ ?_ ?_⟩
   ·rintro i ys H' _ ⟨s',_⟩
    rw [em]
    refine ⟨SqL.of (s' _ _ tA.at'),fun t ht => ?_⟩
    obtain ⟨tt,htt,rfl⟩:=List.mem_map.mp ht
    exact SqT.of (s' _ _ (tA.tup tt htt))
   ·rintro i t ys H' ht hy ⟨s',us,tu,lu,bu⟩ R1 R0 r1 r0
    rw [List.getElem?_map] at ht
    cases hi:ts[i]? with
    | none=>rw [hi] at ht; cases ht
    | some tt =>
    rw [hi] at ht
    have ht':=Option.some.inj ht
    subst ht'
    have bb:=tA.bnd tt (List.mem_of_getElem? hi)
    refine cB ⟨_,rfl,_,_,rfl,rfl,_,rfl,_,_,rfl,rfl,_,rfl,_,_,rfl,rfl,_,rfl,_,_,rfl,rfl,(by show 2<=sizeLine; decide),fun tn htn=>r1 _ _ ⟨s'.trans (ae htn _),us ++ [(tn,m - 1 - tt.2.1,m - 1 - tt.2.2)],tu.add htn _ _,by rw [List.length_append,lu]; rfl,gv bu (by omega)⟩⟩
   ·rintro ys H9 hy ⟨s9,us,tu,lu,bu⟩ L hL
    rw [List.length_map] at lu
    exact mT _ _ ⟨n,m,wy,c,t,L,us,_,_,_,_,_,rfl,n0,m0,m1,cc0,cc1,s3.trans (s9.trans (ae hL _)),(s3.trans s9).free hL,tu.xu hL bu,by omega⟩
 refine cR ((aH nB).drop 6) (MT H most 30) ?hV fun tV pV mV => ?gV
 case hV =>
  refine ⟨_,ah (bQ (aJ eF (pv 3) ai (aR _)) (ah (cY (i:=6) ["place", "many"] [none,some 2] rfl bz.nd rfl rfl (bI rfl B.b_range (aa (pv 2) af)) rfl (fun _ _ _ _ _=>aj (i:=0) ndPM rfl (Or.inl rfl)) (fun _ _ _ _ _=>cX)
    (fun _ _ _ _ _=>bO (aa (pv 0) (aa (aE cV (aE bT (pv 0) ai) (pv 1)) af))))
   (av (aL (i:=4) bz.nd rfl (Or.inl rfl) (aE cV (pv 4) ai)))) ba) pU,?_⟩
  rintro σ H2 ⟨n,m,wy,c,t,l,ts,c7,c8,c9,c10,c11,rfl,n0,m0,m1,cc0,cc1,s2,hl,tA,lt⟩
  refine ⟨_,rfl,rfl,_,rfl,gc (fun _ => ?_) fun _=>mU _ _ ⟨n,m,wy,c,t,l,ts,_,_,_,_,_,rfl,n0,m0,m1,cc0,cc1,s2,hl,tA,lt⟩⟩
  refine ⟨_,rfl,m,rfl,by omega,by omega,dt (fun i ys H'=>aA H2 H'/\∃ us,T3 H' ys us/\us.length=i/\∀ t ∈ us,0<=t.2.1/\t.2.1 < m/\0<=t.2.2/\t.2.2 < m) ⟨aA.refl _,[],⟨rfl,fun u hu=>by cases hu⟩,rfl,fun u hu=>by cases hu⟩ (small (by omega)) ?_ ?_⟩
  ·rintro i ys H' hi hy ⟨s',us,tu,lu,bu⟩ R1 R0 r1 r0
   have mp:0 < m:=by omega
   have b1:=Int.emod_nonneg (0 + (i:Int) + 1) (b:=m) (by omega)
   have b2:=Int.emod_lt_of_pos (0 + (i:Int) + 1) mp
   exact cB ⟨_,rfl,_,rfl,_,_,rfl,rfl,_,rfl,_,_,rfl,rfl,mp,(by show 2<=sizeLine; decide),fun tn htn=>r1 _ _ ⟨s'.trans (ae htn _),us ++ [(tn,0 + (i:Int),(0 + (i:Int) + 1) % m)],tu.add htn _ _,by rw [List.length_append,lu]; rfl,gv bu (by omega)⟩⟩
  ·rintro ys H9 hy ⟨s9,us,tu,lu,bu⟩ L hL
   have z0:=Int.emod_nonneg c (b:=5) (by decide)
   have z1:=Int.emod_lt_of_pos c (b:=5) (by decide)
   exact ⟨_,rfl,_,_,rfl,rfl,(by show (0:Int) < 5; decide),mU _ _ ⟨n,m,wy,c % 5,t,L,us,_,_,_,_,_,rfl,n0,m0,m1,z0,by omega,s2.trans (s9.trans (ae hL _)),(s2.trans s9).free hL,tu.xu hL bu,by omega⟩⟩
 refine ⟨_,ah (bo (ak az rfl B.b_divmod aI (aa (pv 0) (aa (aE bT (pv 1) ai) af))) (bh rfl (aq (aj (i:=0) bz.nd rfl (Or.inl rfl)) (aq (aj (i:=2) bz.nd rfl (Or.inr rfl)) aK))))
  (ah (bo (ak az rfl B.b_divmod aI (aa (pv 0) (aa ai af))) (bh rfl (aq (aj (i:=0) bz.nd rfl (Or.inl rfl)) (aq (aj (i:=3) bz.nd rfl (Or.inl rfl)) aK))))
  (ah (bo (ak az rfl B.b_divmod aI (aa (pv 0) (aa (aE bT (aE cU ai (pv 1)) ai) af))) (bh rfl (aq (aj (i:=0) bz.nd rfl (Or.inl rfl)) (aq (aj (i:=4) bz.nd rfl (Or.inl rfl)) aK))))
  (ah (bo (ak az rfl B.b_divmod aI (aa (pv 0) (aa ai af))) (bh rfl (aq (aj (i:=0) bz.nd rfl (Or.inl rfl)) (aq (aj (i:=5) bz.nd rfl (Or.inl rfl)) aK))))
  (ah (aL (i:=6) bz.nd rfl (Or.inl rfl) (bY af))
  (ah (bQ (aJ mv (pv 3) ai (aR _))
   (ah (cx PassesOwn.never rfl (jM rfl B.b_range (aa ai (aa (pv 2) af))) (aj (i:=7) bz.nd rfl (Or.inl rfl))
    (ah (bo (ak az rfl B.b_divmod aI (aa (pv 0) (aa (pv 7) af))) (bh rfl (aq (aj (i:=0) bz.nd rfl (Or.inl rfl)) (aq (aj (i:=8) bz.nd rfl (Or.inl rfl)) aK))))
    (av (bN (cW PySem.F.plainAttrs_list PySem.F.slot_list_append PySem.F.type_list_append bK (pv 6) (aa (bO (aa (pv 8) (aa (pv 7) af))) af))))))
   (av (aL (i:=4) bz.nd rfl (Or.inl rfl) (aE cV (pv 4) ai)))) ba) pV))))),?_⟩
 obtain ⟨q0,x0,x1⟩:=dmN n0 (show 0 < most + 1 by omega)
 refine ⟨_,rfl,_,rfl,_,_,rfl,rfl,n,most + 1,rfl,⟨by omega,by omega⟩,fun p hp=>⟨p,_,rfl,SqT.of ag,rfl,_,_,rfl,_,_,rfl,rfl,?_⟩⟩
 have s1:=ae hp (.tup [.int (n / (most + 1)),.int (n % (most + 1))])
 generalize upd H p (.tup [.int (n / (most + 1)),.int (n % (most + 1))])=H1 at s1
 generalize n / (most + 1)=n1 at q0
 generalize n % (most + 1)=m at x0 x1
 obtain ⟨q1,y0,y1⟩:=dmN (j:=6) q0 (by decide)
 refine ⟨_,rfl,n1,6,rfl,⟨by decide,by decide⟩,fun p hp=>⟨p,_,rfl,SqT.of ag,rfl,_,_,rfl,_,_,rfl,rfl,?_⟩⟩
 have s2:=s1.trans (ae hp (.tup [.int (n1 / 6),.int (n1 % 6)]))
 generalize upd H1 p (.tup [.int (n1 / 6),.int (n1 % 6)])=H2 at s2
 generalize n1 / 6=n2 at q1
 generalize n1 % 6=wy at y0 y1
 obtain ⟨q2,z0,z1⟩:=dmN q1 (show 0 < 2 * most + 1 by omega)
 refine ⟨_,rfl,_,rfl,_,_,rfl,rfl,.inl ⟨by decide,by decide⟩,_,_,rfl,rfl,n2,2 * most + 1,rfl,⟨by omega,by omega⟩,fun p hp=>⟨p,_,rfl,SqT.of ag,rfl,_,_,rfl,_,_,rfl,rfl,?_⟩⟩
 have s3:=s2.trans (ae hp (.tup [.int (n2 / (2 * most + 1)),.int (n2 % (2 * most + 1))]))
 generalize upd H2 p (.tup [.int (n2 / (2 * most + 1)),.int (n2 % (2 * most + 1))])=H3 at s3
 generalize n2 / (2 * most + 1)=n3 at q2
 generalize n2 % (2 * most + 1)=c at z0 z1
 obtain ⟨q3,u0,u1⟩:=dmN (j:=2) q2 (by decide)
 refine ⟨_,rfl,n3,2,rfl,⟨by decide,by decide⟩,fun p hp=>⟨p,_,rfl,SqT.of ag,rfl,_,_,rfl,_,_,rfl,rfl,?_⟩⟩
 have s4:=s3.trans (ae hp (.tup [.int (n3 / 2),.int (n3 % 2)]))
 generalize upd H3 p (.tup [.int (n3 / 2),.int (n3 % 2)])=H4 at s4
 generalize n3 / 2=n4 at q3
 generalize n3 % 2=t at u0 u1
 refine ⟨(by show 0<=sizeLine; decide),fun l hl4 => ?_⟩
 have hl:=s4.free hl4
 have s5:=s4.trans (ae hl4 (.lst []))
 have tA:bS (upd H4 l (.lst [])) l m []:=⟨ag,fun t z=>(by cases z),fun t z=>(by cases z)⟩
 generalize upd H4 l (.lst [])=H5 at s5 tA
 refine ⟨_,rfl,_,_,rfl,rfl,_,rfl,gc (fun _ => ?_) fun _=>mV _ _ ⟨n4,m,wy,c,t,l,[],_,_,_,_,_,rfl,q3,x0,by omega,z0,by omega,s5,hl,tA,by simp⟩⟩
 refine ⟨_,rfl,1,_,rfl,⟨by decide,by decide,by omega,by omega⟩,bV (fun j σ H4=>(∃ (n:Int) (c7 c8:Option V),0<=n/\σ=[some (.int n),some (.int most),some (.int m),some (.int wy),some (.int c),some (.int t),some (.ref l),c7,c8,none,none,none])/\aA H H4/\∃ us,bS H4 l m us/\us.length=j) ⟨⟨_,_,_,q3,rfl⟩,s5,[],tA,rfl⟩ ?_ ?_⟩
 ·rintro j σ H6 hj ⟨⟨n,c7,c8,n0,rfl⟩,s6,us,tA6,lu⟩
  have hj':1 + (j:Int) < m:=by omega
  obtain ⟨q5,v0,v1⟩:=dmN n0 (show 0 < 1 + (j:Int) by omega)
  refine ⟨_,rfl,_,rfl,n,1 + (j:Int),rfl,⟨by omega,by omega⟩,fun p hp=>⟨p,_,rfl,SqT.of ag,rfl,_,_,rfl,_,_,rfl,rfl,?_⟩⟩
  have s7:=s6.trans (ae hp (.tup [.int (n / (1 + (j:Int))),.int (n % (1 + (j:Int)))]))
  have tA7:=tA6.same (ae hp (.tup [.int (n / (1 + (j:Int))),.int (n % (1 + (j:Int)))]))
  generalize upd H6 p (.tup [.int (n / (1 + (j:Int))),.int (n % (1 + (j:Int)))])=H7 at s7 tA7
  generalize n / (1 + (j:Int))=n5 at q5
  generalize n % (1 + (j:Int))=o at v0 v1
  refine ⟨_,rfl,.inl ⟨rfl,_,SqL.of tA7.at'⟩,_,rfl,_,rfl,(by show 2<=sizeLine; decide),fun tt htt => ?_⟩
  exact ⟨l,_,_,rfl,rfl,(ae htt _) _ _ tA7.at',(by rw [List.length_map]; exact bW (by omega)),⟨_,_,_,q5,rfl⟩,aA.bZ (s7.trans (ae htt _)) hl _,us ++ [(tt,o,1 + (j:Int))],tA7.push (H0:=H) htt (by omega),by rw [List.length_append,lu]; rfl⟩
 ·rintro σ H6 ⟨⟨n,c7,c8,n0,rfl⟩,s6,us,tA6,lu⟩
  have w0:=Int.emod_nonneg c (b:=4) (by decide)
  have w1:=Int.emod_lt_of_pos c (b:=4) (by decide)
  exact ⟨_,rfl,_,_,rfl,rfl,(by show (0:Int) < 4; decide),mV _ _ ⟨n,m,wy,c % 4,t,l,us,_,_,_,_,_,rfl,n0,x0,by omega,w0,by omega,s6,hl,tA6,by omega⟩⟩
end
open PySem L2
def TO (H:Hp) (l:Addr) (m:Int) (ts:List (Addr × Int × Int)):Prop:=bS H l m ts/\∀ t ∈ ts,t.2.1<=t.2.2
theorem TO.same {H H':Hp} {l:Addr} {m:Int} {ts:List (Addr × Int × Int)} (h:TO H l m ts) (s:aA H H'):TO H' l m ts:=⟨h.1.same s,h.2⟩
theorem TO.push {H:Hp} {l:Addr} {m:Int} {ts:List (Addr × Int × Int)} (h:TO H l m ts) {t:Addr} (ht:H t=none) {a b:Int} (hab:0<=a/\a<=b/\b < m) :
  TO (upd (upd H t (.tup [.int a,.int b])) l (.lst ((ts.map fun t => .ref t.1) ++ [.ref t]))) l m (ts ++ [(t,a,b)]):=by
 refine ⟨h.1.push (H0:=H) ht (by omega),fun x hx => ?_⟩
 rcases List.mem_append.mp hx with z | z
 ·exact h.2 x z
 ·rw [List.mem_singleton] at z; subst z; exact hab.2.1
theorem dW {α β : Type} (g : α -> β):∀ (l:List α) (n:Nat),(l.map g).eraseIdx n=(l.eraseIdx n).map g
 | [],_=>rfl
 | _ :: _,0=>rfl
 | x :: l,n + 1=>by
  show g x :: (l.map g).eraseIdx n=g x :: (l.eraseIdx n).map g
  rw [dW g l n]
theorem TO.erase {H:Hp} {l:Addr} {m:Int} {ts:List (Addr × Int × Int)} (h:TO H l m ts) (k:Nat):TO (upd H l (.lst ((ts.map fun t=>V.ref t.1).eraseIdx k))) l m (ts.eraseIdx k):=by
 rw [dW]
 exact ⟨h.1.put (H:=H) (fun t ht=>h.1.tup t (List.mem_of_mem_eraseIdx ht)) fun t ht=>h.1.bnd t (List.mem_of_mem_eraseIdx ht),fun t ht=>h.2 t (List.mem_of_mem_eraseIdx ht)⟩
def rw3 (t:Addr × Int × Int):Addr × List Int:=(t.1,[t.2.1,t.2.2])
theorem qa (ts:List (Addr × Int × Int)):(ts.map rw3).map (fun u=>V.ref u.1)=ts.map fun t=>V.ref t.1:=by rw [List.map_map]; rfl
theorem TO.row {H:Hp} {l:Addr} {m:Int} {ts:List (Addr × Int × Int)} (h:TO H l m ts):∀ u ∈ ts.map rw3,H u.1=some (.tup (u.2.map V.int))/\∃ a b:Int,u.2=[a,b]/\0<=a/\a<=b/\b < m:=fun u hu=>by
 obtain ⟨t,ht,rfl⟩:=List.mem_map.mp hu
 exact ⟨h.1.tup t ht,t.2.1,t.2.2,rfl,(h.1.bnd t ht).1,h.2 t ht,(h.1.bnd t ht).2.2.2⟩
abbrev qb:Sp:=fun vs H Q _=>∃ n:Int,vs=[.int n]/\0<=n/\∀ (p b:Addr) (n' m:Int) (ts:List (Addr × List Int)) (H':Hp),aA H H'->H' p=some (.tup [.ref b,.int n'])->Wb H' b m ts->0<=m->m<=40->0<=n'->Q (.ref p) H'
@[irreducible] def jg:Sp:=qb
theorem fP {vs:List V} {H:Hp} {Q:VK} {E:XK}:jg vs H Q E ↔ qb vs H Q E:=by
 delta jg
 exact Iff.rfl
def MW (H:Hp) (σ:St) (H':Hp):Prop:=∃ (n m:Int) (l:Addr) (ts:List (Addr × Int × Int)) (c2 c4 c5 c6 c7 c8 c9 c10 c11:Option V),
 σ=[some (.int n),some (.int m),c2,some (.ref l),c4,c5,c6,c7,c8,c9,c10,c11]/\0<=n/\0<=m/\m<=40/\aA H H'/\H l=none/\TO H' l m ts/\ts.length<=200
theorem yt {d:Int} (h0:0<=d) (h1:d < 3):∃ e:Int,0 < e/\e<=40/\atI [V.int 2,.int 5,.int 40] d=some (.int e):=by
 have hd:d=0\/d=1\/d=2:=by omega
 rcases hd with e | e | e <;> subst e
 ·exact ⟨2,by decide,by decide,rfl⟩
 ·exact ⟨5,by decide,by decide,rfl⟩
 ·exact ⟨40,by decide,by decide,rfl⟩
section
variable {P:Program} {w:World} {K:PySem.W.Frag} {mg:Str->Option Value} {base:Heap} {f:Addr} {fd:FuncData}
theorem bq:aW ["number", "many", "near", "ties", "place", "other", "gone", "k", "at", "count", "one", "turn"] ["number"] (au tN):=⟨rfl,rfl,rfl,by decide +kernel,rfl,by decide +kernel,by decide +kernel⟩
theorem xw (F:Fun K "_law_wide" "_law_wide" tN f fd) (B:Blt mg):cy P w K mg base CX0 1 f fd ["number"] jg:=by
 refine F.ok bq (fun vs H Q E h => ?_) (fun cdv A outer s H vs Q E hr h => ?_)
 ·obtain ⟨c,rfl,_⟩:=fP.mp h
  rfl
 obtain ⟨n,rfl,n0,q⟩:=fP.mp h
 refine cR ((aH tN).drop 11) (MW H) ?hT fun tT pT mT => ?gT
 case hT =>
  refine ⟨_,av (aU (bO (aa (bO (aa (pv 1) (aa (bj bC rfl B.b_tuple PySem.Pv.boot_tuple (aa (ak d8 rfl B.b_sorted cQ (aa (pv 3) af)) af)) af))) (aa (pv 0) af)))),?_⟩
  rintro σ H8 ⟨n,m,l,ts,c2,c4,c5,c6,c7,c8,c9,c10,c11,rfl,n0,m0,m1,s8,hl,tA,lt⟩
  have row:=tA.row
  refine ⟨_,rfl,_,rfl,l,ts.map rw3,rfl,.inl (SqL.of (by rw [qa]; exact tA.1.at')),fun u hu=>⟨SqT.of (row u hu).1,fun z => ?_⟩,fun L2 out hL2 po ps=>⟨L2,_,rfl,.inl ⟨SqL.of ag,fun l3 hl3=>⟨(by show 2<=sizeLine; decide),fun b hb=>⟨_,rfl,(by show 2<=sizeLine; decide),fun p hp => ?_⟩⟩⟩⟩⟩
  ·obtain ⟨_,x,y,e,_⟩:=row u hu
   rw [z] at e; cases e
  have s12:=(ae hL2 (.lst (out.map fun t => .ref t.1))).trans (ae hl3 (.tup (out.map fun t => .ref t.1)))
  have sb:=ae hb (.tup [.int m,.ref l3])
  have sp:=ae hp (.tup [.ref b,.int n])
  refine q p b n m out _ (s8.trans (s12.trans (sb.trans sp))) ag ⟨⟨l3,sp _ _ ag,sp _ _ (sb _ _ ag)⟩,fun u hu=>sp _ _ (sb _ _ (s12 _ _ (row u (po.mem_iff.mp hu)).1)),fun u hu=>(row u (po.mem_iff.mp hu)).2,?_⟩ m0 m1 n0
  rw [po.length_eq,List.length_map]; exact lt
 refine ⟨_,ah (bo (ak az rfl B.b_divmod aI (aa (pv 0) (aa ai af))) (bh rfl (aq (aj (i:=0) bq.nd rfl (Or.inl rfl)) (aq (aj (i:=1) bq.nd rfl (Or.inr rfl)) aK))))
  (ah (aL (i:=1) bq.nd rfl (Or.inr rfl) (aE bT (pv 1) ai))
  (ah (bo (ak az rfl B.b_divmod aI (aa (pv 0) (aa ai af))) (bh rfl (aq (aj (i:=0) bq.nd rfl (Or.inl rfl)) (aq (aj (i:=2) bq.nd rfl (Or.inl rfl)) aK))))
  (ah (aL (i:=3) bq.nd rfl (Or.inl rfl) (bY af))
  (ah (cx PassesOwn.never rfl (jM rfl B.b_range (aa ai (aa (pv 1) af))) (aj (i:=4) bq.nd rfl (Or.inl rfl))
   (ah (bo (ak az rfl B.b_divmod aI (aa (pv 0) (aa (aQ cj (bY (aa ai (aa ai (aa ai af)))) (pv 2) (fun _ _=>rfl)) af))) (bh rfl (aq (aj (i:=0) bq.nd rfl (Or.inl rfl)) (aq (aj (i:=5) bq.nd rfl (Or.inl rfl)) aK))))
   (av (bN (cW PySem.F.plainAttrs_list PySem.F.slot_list_append PySem.F.type_list_append bK (pv 3) (aa (bO (aa (ak (dM rfl) rfl B.b_max gR (aa ai (aa (aE cC (aE cC (pv 4) ai) (pv 5)) af))) (aa (pv 4) af))) af))))))
  (ah (bo (ak az rfl B.b_divmod aI (aa (pv 0) (aa ai af))) (bh rfl (aq (aj (i:=0) bq.nd rfl (Or.inl rfl)) (aq (aj (i:=6) bq.nd rfl (Or.inl rfl)) aK))))
  (ah (cx PassesOwn.never rfl (bI rfl B.b_range (aa (pv 6) af)) (aj (i:=7) bq.nd rfl (Or.inl rfl))
   (ah (bo (ak az rfl B.b_divmod aI (aa (pv 0) (aa (ak aX rfl B.b_len PySem.boot_len (aa (pv 3) af)) af))) (bh rfl (aq (aj (i:=0) bq.nd rfl (Or.inl rfl)) (aq (aj (i:=8) bq.nd rfl (Or.inl rfl)) aK))))
   (av (bN (cW PySem.F.plainAttrs_list PySem.F.slot_list_pop PySem.F.type_list_pop mz (pv 3) (aa (pv 8) af))))))
  (ah (bo (ak az rfl B.b_divmod aI (aa (pv 0) (aa ai af))) (bh rfl (aq (aj (i:=0) bq.nd rfl (Or.inl rfl)) (aq (aj (i:=9) bq.nd rfl (Or.inl rfl)) aK))))
  (ah (cx PassesOwn.never rfl (bI rfl B.b_range (aa (pv 9) af)) (aj (i:=7) bq.nd rfl (Or.inl rfl))
   (ah (bo (ak az rfl B.b_divmod aI (aa (pv 0) (aa (pv 1) af))) (bh rfl (aq (aj (i:=0) bq.nd rfl (Or.inl rfl)) (aq (aj (i:=10) bq.nd rfl (Or.inl rfl)) aK))))
   (ah (bo (ak az rfl B.b_divmod aI (aa (pv 0) (aa (pv 1) af))) (bh rfl (aq (aj (i:=0) bq.nd rfl (Or.inl rfl)) (aq (aj (i:=5) bq.nd rfl (Or.inl rfl)) aK))))
   (av (bN (cW PySem.F.plainAttrs_list PySem.F.slot_list_append PySem.F.type_list_append bK (pv 3) (aa (bO (aa (ak (fg rfl) rfl B.b_min dH (aa (pv 10) (aa (pv 5) af))) (aa (ak (dM rfl) rfl B.b_max gR (aa (pv 10) (aa (pv 5) af))) af))) af)))))))
  (ah (bo (ak az rfl B.b_divmod aI (aa (pv 0) (aa ai af))) (bh rfl (aq (aj (i:=0) bq.nd rfl (Or.inl rfl)) (aq (aj (i:=11) bq.nd rfl (Or.inl rfl)) aK))))
  (ah (bQ (aJ eF (pv 11) ai (aR _)) (av (cY (i:=3) ["one", "other", "many"] [none,none,some 1] rfl bq.nd rfl rfl (cw (pv 3)) rfl (fun _ _ _ _ _=>mO (K:=K) (i:=0) (j:=1) vT rfl rfl (Or.inl rfl) (Or.inl rfl)) (fun _ _ _ _ _=>cX)
    (fun _ _ _ _ _=>bO (aa (aE cC (aE cC (pv 2) ai) (pv 1)) (aa (aE cC (aE cC (pv 2) ai) (pv 0)) af))))) ba)
   pT)))))))))),?_⟩
 obtain ⟨q0,x0,x1⟩:=dmN (j:=11) n0 (by decide)
 refine ⟨_,rfl,n,11,rfl,⟨by decide,by decide⟩,fun p hp=>⟨p,_,rfl,SqT.of ag,rfl,_,_,rfl,_,_,rfl,rfl,?_⟩⟩
 have s1:=ae hp (.tup [.int (n / 11),.int (n % 11)])
 generalize upd H p (.tup [.int (n / 11),.int (n % 11)])=H1 at s1
 generalize n / 11=n1 at q0
 generalize n % 11=m' at x0 x1
 refine ⟨_,rfl,_,_,rfl,rfl,?_⟩
 dsimp only
 have m30:30<=m' + 30:=by omega
 have m40:m' + 30<=40:=by omega
 generalize m' + 30=m at m30 m40
 obtain ⟨q1,y0,y1⟩:=dmN (j:=3) q0 (by decide)
 refine ⟨_,rfl,n1,3,rfl,⟨by decide,by decide⟩,fun p hp=>⟨p,_,rfl,SqT.of ag,rfl,_,_,rfl,_,_,rfl,rfl,?_⟩⟩
 have s2:=s1.trans (ae hp (.tup [.int (n1 / 3),.int (n1 % 3)]))
 generalize upd H1 p (.tup [.int (n1 / 3),.int (n1 % 3)])=H2 at s2
 generalize n1 / 3=n2 at q1
 generalize n1 % 3=nr at y0 y1
 obtain ⟨e,e0,e1,ee⟩:=yt y0 y1
 refine ⟨(by show 0<=sizeLine; decide),fun l hl4 => ?_⟩
 have hl:=s2.free hl4
 have s5:=s2.trans (ae hl4 (.lst []))
 have tA:TO (upd H2 l (.lst [])) l m []:=⟨⟨ag,fun t z=>(by cases z),fun t z=>(by cases z)⟩,fun t z=>(by cases z)⟩
 generalize upd H2 l (.lst [])=H5 at s5 tA
 refine ⟨_,rfl,1,_,rfl,⟨by decide,by decide,by omega,by omega⟩,bV (fun j σ H4=>(∃ (n:Int) (c4 c5:Option V),0<=n/\σ=[some (.int n),some (.int m),some (.int nr),some (.ref l),c4,c5,none,none,none,none,none,none])/\aA H H4/\∃ us,TO H4 l m us/\us.length=j) ⟨⟨_,_,_,q1,rfl⟩,s5,[],tA,rfl⟩ ?_ ?_⟩
 ·rintro j σ H6 hj ⟨⟨n,c4,c5,n0,rfl⟩,s6,us,tA6,lu⟩
  have hj':1 + (j:Int) < m:=by omega
  obtain ⟨q5,v0,v1⟩:=dmN n0 e0
  refine ⟨_,rfl,(by show 3<=sizeLine; decide),fun b hb=>⟨_,rfl,b,_,nr,_,rfl,rfl,SqL.of ag,ee,n,e,rfl,⟨e0,by omega⟩,fun p hp=>⟨p,_,rfl,SqT.of ag,rfl,_,_,rfl,_,_,rfl,rfl,?_⟩⟩⟩
  have g:=(ae hb (.lst [.int 2,.int 5,.int 40])).trans (ae hp (.tup [.int (n / e),.int (n % e)]))
  have s7:=s6.trans g
  have tA7:=tA6.same g
  generalize upd (upd H6 b (.lst [.int 2,.int 5,.int 40])) p (.tup [.int (n / e),.int (n % e)])=H7 at s7 tA7
  generalize n / e=n5 at q5
  generalize n % e=o at v0 v1
  refine ⟨_,rfl,.inl ⟨rfl,_,SqL.of tA7.1.at'⟩,_,rfl,_,_,rfl,rfl,_,rfl,_,_,rfl,rfl,_,_,rfl,_,rfl,(by show 2<=sizeLine; decide),fun tt htt => ?_⟩
  exact ⟨l,_,_,rfl,rfl,(ae htt _) _ _ tA7.1.at',(by rw [List.length_map]; exact bW (by omega)),⟨_,_,_,q5,rfl⟩,aA.bZ (s7.trans (ae htt _)) hl _,us ++ [(tt,_,1 + (j:Int))],tA7.push htt (by split <;> omega),by rw [List.length_append,lu]; rfl⟩
 rintro σ H6 ⟨⟨n,c4,c5,n0,rfl⟩,s6,us,tA6,lu⟩
 obtain ⟨q6,y0,y1⟩:=dmN (j:=4) n0 (by decide)
 refine ⟨_,rfl,n,4,rfl,⟨by decide,by decide⟩,fun p hp=>⟨p,_,rfl,SqT.of ag,rfl,_,_,rfl,_,_,rfl,rfl,?_⟩⟩
 have s7:=s6.trans (ae hp (.tup [.int (n / 4),.int (n % 4)]))
 have tA7:=tA6.same (ae hp (.tup [.int (n / 4),.int (n % 4)]))
 generalize upd H6 p (.tup [.int (n / 4),.int (n % 4)])=H7 at s7 tA7
 generalize n / 4=n6 at q6
 generalize n % 4=g at y0 y1
 refine ⟨_,rfl,g,rfl,by omega,by omega,bV (fun j σ H4=>(∃ (n:Int) (c7 c8:Option V),0<=n/\σ=[some (.int n),some (.int m),some (.int nr),some (.ref l),c4,c5,some (.int g),c7,c8,none,none,none])/\aA H H4/\∃ us,TO H4 l m us/\us.length + j=(m - 1).toNat) ⟨⟨_,_,_,q6,rfl⟩,s7,us,tA7,by omega⟩ ?_ ?_⟩
 ·rintro j σ H8 hj ⟨⟨n,c7,c8,n0,rfl⟩,s8,us,tA8,lu⟩
  have lp:0 < us.length:=by omega
  obtain ⟨q8,v0,v1⟩:=dmN n0 (show (0:Int) < ((us.map fun t=>V.ref t.1).length:Int) by rw [List.length_map]; omega)
  refine ⟨_,rfl,_,rfl,l,_,rfl,.inl (SqL.of tA8.1.at'),n,_,rfl,⟨by rw [List.length_map]; omega,by rw [List.length_map]; omega⟩,fun p hp=>⟨p,_,rfl,SqT.of ag,rfl,_,_,rfl,_,_,rfl,rfl,?_⟩⟩
  have g9:=ae hp (.tup [.int (n / ((us.map fun t=>V.ref t.1).length:Int)),.int (n % ((us.map fun t=>V.ref t.1).length:Int))])
  have s9:=s8.trans g9
  have tA9:=tA8.same g9
  generalize upd H8 p (.tup [.int (n / ((us.map fun t=>V.ref t.1).length:Int)),.int (n % ((us.map fun t=>V.ref t.1).length:Int))])=H9 at s9 tA9
  generalize n / ((us.map fun t=>V.ref t.1).length:Int)=n8 at q8
  generalize n % ((us.map fun t=>V.ref t.1).length:Int)=at' at v0 v1
  rw [List.length_map] at v1
  obtain ⟨pn,rfl⟩:∃ k:Nat,at'=k:=⟨at'.toNat,by omega⟩
  have ep:us[pn]? = some us[pn]:=List.getElem?_eq_getElem (by omega)
  refine ⟨_,rfl,.inl ⟨rfl,_,SqL.of tA9.1.at'⟩,_,rfl,l,_,(pn:Int),pn,.ref us[pn].1,rfl,rfl,tA9.1.at',by omega,by omega,?_,by rw [List.getElem?_map,ep]; rfl,⟨_,_,_,q8,rfl⟩,aA.bZ s9 hl _,us.eraseIdx pn,tA9.erase pn,?_⟩
  ·have:=PySem.StrLaws.seqIndex_nonneg (i:=(pn:Int)) (n:=(us.map fun u=>V.ref u.1).length) (by omega) (by rw [List.length_map]; omega)
   simpa using this
  ·rw [List.length_eraseIdx,if_pos (by omega)]; omega
 rintro σ H8 ⟨⟨n,c7,c8,n0,rfl⟩,s8,us,tA8,lu⟩
 have lu':us.length<=39:=by omega
 obtain ⟨q9,y0,y1⟩:=dmN (j:=6) n0 (by decide)
 refine ⟨_,rfl,n,6,rfl,⟨by decide,by decide⟩,fun p hp=>⟨p,_,rfl,SqT.of ag,rfl,_,_,rfl,_,_,rfl,rfl,?_⟩⟩
 have s9:=s8.trans (ae hp (.tup [.int (n / 6),.int (n % 6)]))
 have tA9:=tA8.same (ae hp (.tup [.int (n / 6),.int (n % 6)]))
 generalize upd H8 p (.tup [.int (n / 6),.int (n % 6)])=H9 at s9 tA9
 generalize n / 6=n9 at q9
 generalize n % 6=ct at y0 y1
 refine ⟨_,rfl,ct,rfl,by omega,by omega,bV (fun j σ H4=>(∃ (n:Int) (c5 c7 c10:Option V),0<=n/\σ=[some (.int n),some (.int m),some (.int nr),some (.ref l),c4,c5,some (.int g),c7,c8,some (.int ct),c10,none])/\aA H H4/\∃ us,TO H4 l m us/\us.length<=39 + j) ⟨⟨_,_,_,_,q9,rfl⟩,s9,us,tA9,by omega⟩ ?_ ?_⟩
 ·rintro j σ H10 hj ⟨⟨n,c5,c7,c10,n0,rfl⟩,s10,us,tA10,lu⟩
  have mp:0 < m:=by omega
  obtain ⟨q0,x0,x1⟩:=dmN n0 mp
  refine ⟨_,rfl,_,rfl,n,m,rfl,⟨mp,by omega⟩,fun p hp=>⟨p,_,rfl,SqT.of ag,rfl,_,_,rfl,_,_,rfl,rfl,?_⟩⟩
  have tA1:=tA10.same (ae hp (.tup [.int (n / m),.int (n % m)]))
  have s4:=s10.trans (ae hp (.tup [.int (n / m),.int (n % m)]))
  generalize upd H10 p (.tup [.int (n / m),.int (n % m)])=H4 at tA1 s4
  generalize n / m=n1 at q0
  generalize n % m=x at x0 x1
  obtain ⟨q1,y0,y1⟩:=dmN q0 mp
  refine ⟨_,rfl,_,rfl,n1,m,rfl,⟨mp,by omega⟩,fun p hp=>⟨p,_,rfl,SqT.of ag,rfl,_,_,rfl,_,_,rfl,rfl,?_⟩⟩
  have tA2:=tA1.same (ae hp (.tup [.int (n1 / m),.int (n1 % m)]))
  have s5:=s4.trans (ae hp (.tup [.int (n1 / m),.int (n1 % m)]))
  generalize upd H4 p (.tup [.int (n1 / m),.int (n1 % m)])=H5 at tA2 s5
  generalize n1 / m=n2 at q1
  generalize n1 % m=y at y0 y1
  refine ⟨_,rfl,.inl ⟨rfl,_,SqL.of tA2.1.at'⟩,_,rfl,_,rfl,_,_,rfl,_,rfl,_,rfl,_,_,rfl,(by show 2<=sizeLine; decide),fun tt htt => ?_⟩
  refine ⟨l,_,_,rfl,rfl,(ae htt _) _ _ tA2.1.at',(by rw [List.length_map]; exact bW (by omega)),⟨_,_,_,_,q1,rfl⟩,aA.bZ (s5.trans (ae htt _)) hl _,us ++ [(tt,_,_)],tA2.push htt ⟨?_,?_,?_⟩,by rw [List.length_append]; show us.length + 1<=_; omega⟩
  ·split <;> omega
  ·split <;> split <;> omega
  ·split <;> omega
 rintro σ H10 ⟨⟨n,c5,c7,c10,n0,rfl⟩,s10,us,tA10,lu⟩
 obtain ⟨q9,y0,y1⟩:=dmN (j:=2) n0 (by decide)
 refine ⟨_,rfl,n,2,rfl,⟨by decide,by decide⟩,fun p hp=>⟨p,_,rfl,SqT.of ag,rfl,_,_,rfl,_,_,rfl,rfl,?_⟩⟩
 have s11:=s10.trans (ae hp (.tup [.int (n / 2),.int (n % 2)]))
 have tA11:=tA10.same (ae hp (.tup [.int (n / 2),.int (n % 2)]))
 generalize upd H10 p (.tup [.int (n / 2),.int (n % 2)])=H11 at s11 tA11
 generalize n / 2=n10 at q9
 generalize n % 2=tu at y0 y1
 refine ⟨_,rfl,rfl,_,rfl,gc (fun _ => ?_) fun _=>mT _ _ ⟨n10,m,l,us,_,_,_,_,_,_,_,_,_,rfl,q9,by omega,m40,s11,hl,tA11,by omega⟩⟩
 have em:(us.map fun t=>(t.1,V.int t.2.1,V.int t.2.2)).map (fun t=>V.ref t.1)=us.map fun t=>V.ref t.1:=by rw [List.map_map]; rfl
 refine ⟨_,rfl,l,rfl,⟨_,SqL.of tA11.1.at'⟩,iI (ts:=us.map fun t=>(t.1,V.int t.2.1,V.int t.2.2)) (fun i ys H'=>aA H11 H'/\∃ vs,T3 H' ys vs/\vs.length=i/\(∀ t ∈ vs,0<=t.2.1/\t.2.1 < m/\0<=t.2.2/\t.2.2 < m)/\∀ t ∈ vs,t.2.1<=t.2.2) (by decide) ⟨aA.refl _,[],⟨rfl,fun u hu=>by cases hu⟩,rfl,(fun u hu=>by cases hu),fun u hu=>by cases hu⟩ (by rw [List.length_map]; exact small (by omega)) ?_ ?_ ?_⟩
 ·rintro i ys H' _ ⟨s',_⟩
  rw [em]
  refine ⟨SqL.of (s' _ _ tA11.1.at'),fun t ht => ?_⟩
  obtain ⟨tt,htt,rfl⟩:=List.mem_map.mp ht
  exact SqT.of (s' _ _ (tA11.1.tup tt htt))
 ·rintro i t ys H' ht hy ⟨s',vs,tv,lv,bv,ov⟩ R1 R0 r1 r0
  rw [List.getElem?_map] at ht
  cases hi:us[i]? with
  | none=>rw [hi] at ht; cases ht
  | some tt =>
  rw [hi] at ht
  have ht':=Option.some.inj ht
  subst ht'
  have bb:=tA11.1.bnd tt (List.mem_of_getElem? hi)
  have oo:=tA11.2 tt (List.mem_of_getElem? hi)
  refine cB ⟨_,rfl,_,_,rfl,rfl,_,rfl,_,_,rfl,rfl,_,rfl,_,_,rfl,rfl,_,rfl,_,_,rfl,rfl,(by show 2<=sizeLine; decide),fun tn htn=>r1 _ _ ⟨s'.trans (ae htn _),vs ++ [(tn,m - 1 - tt.2.2,m - 1 - tt.2.1)],tv.add htn _ _,by rw [List.length_append,lv]; rfl,gv bv (by omega),fun x hx => ?_⟩⟩
  rcases List.mem_append.mp hx with z | z
  ·exact ov x z
  ·rw [List.mem_singleton] at z; subst z
   show m - 1 - tt.2.2<=m - 1 - tt.2.1
   omega
 ·rintro ys H12 hy ⟨s12,vs,tv,lv,bv,ov⟩ L hL
  rw [List.length_map] at lv
  exact mT _ _ ⟨n10,m,L,vs,_,_,_,_,_,_,_,_,_,rfl,q9,by omega,m40,s11.trans (s12.trans (ae hL _)),(s11.trans s12).free hL,⟨tv.xu hL bv,ov⟩,by omega⟩
end
open PySem L2
def both (ps:List Int) (p:List Int):Bool:=decide (p.getD 0 0 ∈ ps) && decide (p.getD 1 0 ∈ ps)
theorem rE (ps:List Int):(ps.map V.int).all fY=true:=by
 rw [List.all_map,List.all_eq_true]
 intro x _
 rfl
theorem nC (k:Int):∀ ps:List Int,inV (.int k) (ps.map V.int)=decide (k ∈ ps)
 | []=>by simp [inV]
 | p :: ps=>by
  have ih:=nC k ps
  unfold inV at ih ⊢
  rw [List.map_cons,List.any_cons,ih]
  have e:eqV (.int p) (.int k)=(p == k):=rfl
  rw [e]
  by_cases h:p=k
  ·subst h; simp
  ·rw [beq_eq_false_iff_ne.mpr h,Bool.false_or]
   apply decide_eq_decide.mpr
   rw [List.mem_cons]
   exact ⟨.inr,fun x=>x.elim (fun y=>absurd y.symm h) id⟩
section
variable {P:Program} {w:World} {K:PySem.W.Frag} {mg:Str->Option Value} {base:Heap} {f:Addr} {fd:FuncData}
end
def nb1 (p:List Int) (k:Int):List Int:=if p.getD 0 0=p.getD 1 0 then [] else if p.getD 0 0=k then [p.getD 1 0] else if p.getD 1 0=k then [p.getD 0 0] else []
theorem lR {a b k x:Int}:x ∈ nb1 [a,b] k ↔ a ≠ b/\((a=k/\x=b)\/(b=k/\x=a)):=by
 show x ∈ (if a=b then [] else if a=k then [b] else if b=k then [a] else []) ↔ _
 by_cases h1:a=b
 ·rw [if_pos h1]; simp [h1]
 ·rw [if_neg h1]
  by_cases h2:a=k
  ·rw [if_pos h2,List.mem_singleton]
   exact ⟨fun e=>⟨h1,.inl ⟨h2,e⟩⟩,fun ⟨_,h⟩=>h.elim (fun z=>z.2) fun z=>absurd (h2.trans z.1.symm) h1⟩
  ·rw [if_neg h2]
   by_cases h3:b=k
   ·rw [if_pos h3,List.mem_singleton]
    exact ⟨fun e=>⟨h1,.inr ⟨h3,e⟩⟩,fun ⟨_,h⟩=>h.elim (fun z=>absurd z.1 h2) fun z=>z.2⟩
   ·rw [if_neg h3]
    exact ⟨fun h=>(by cases h),fun ⟨_,h⟩=>h.elim (fun z=>absurd z.1 h2) fun z=>absurd z.1 h3⟩
def nbs (ns:List (List Int)) (k:Int):List Int:=ns.flatMap fun p=>nb1 p k
theorem iq {ns:List (List Int)} {k x:Int}:x ∈ nbs ns k ↔ ∃ p ∈ ns,x ∈ nb1 p k:=List.mem_flatMap
theorem kG {k:Int}:∀ {ns:List (List Int)},ns.Nodup->(∀ p ∈ ns,∃ a b:Int,p=[a,b]/\a<=b)->(nbs ns k).Nodup
 | [],_,_=>by simp [nbs]
 | p :: ns,nd,h=>by
  obtain ⟨np,nd'⟩:=List.nodup_cons.mp nd
  have ih:=kG (k:=k) nd' fun q hq=>h q (List.mem_cons_of_mem _ hq)
  show (nb1 p k ++ nbs ns k).Nodup
  rw [List.nodup_append]
  refine ⟨?_,ih,fun x hx y hy e => ?_⟩
  ·unfold nb1; (repeat' split) <;> simp
  ·subst e
   obtain ⟨a,b,rfl,ab⟩:=h p List.mem_cons_self
   obtain ⟨q,hq,hy⟩:=iq.mp hy
   obtain ⟨c,d,rfl,cd⟩:=h q (List.mem_cons_of_mem _ hq)
   rw [lR] at hx hy
   apply np
   obtain ⟨n1,hx⟩:=hx
   obtain ⟨n2,hy⟩:=hy
   have:a=c/\b=d:=by
    rcases hx with ⟨h1,h2⟩ | ⟨h1,h2⟩ <;> rcases hy with ⟨h3,h4⟩ | ⟨h3,h4⟩ <;> omega
   rw [this.1,this.2]
   exact hq
theorem jh {o:List Int} (h:o.Pairwise (· <= ·)) (nd:o.Nodup):o.Pairwise (· < ·):=by
 have:o.Pairwise (fun a b=>a<=b/\a ≠ b):=List.Pairwise.and h nd
 exact this.imp fun {a b} z=>by omega
structure Rows (H2 H':Hp) (as:List Addr) (vs:List (List Int)):Prop where
 len:vs.length=as.length
 row:∀ (j:Nat) a v,as[j]? = some a->vs[j]? = some v->H' a=some (.lst (v.map V.int))
 stay:∀ b u,b ∉ as->H2 b=some u->H' b=some u
theorem Rows.push {H2 H':Hp} {as:List Addr} {vs:List (List Int)} (R:Rows H2 H' as vs) (nd:as.Nodup) {j:Nat} {a:Addr} {v:List Int} (ea:as[j]? = some a) (ev:vs[j]? = some v) (x:Int) :
  Rows H2 (upd H' a (.lst ((v.map V.int) ++ [V.int x]))) as (vs.set j (v ++ [x])):=by
 have hj:j < vs.length:=(List.getElem?_eq_some_iff.mp ev).1
 refine ⟨by rw [List.length_set]; exact R.len,fun i b u eb eu => ?_,fun b u hb e => ?_⟩
 ·by_cases h:i=j
  ·subst h
   rw [ea] at eb; cases eb
   rw [List.getElem?_set_self hj] at eu; cases eu
   rw [ag,List.map_append]; rfl
  ·rw [List.getElem?_set_ne (Ne.symm h)] at eu
   have ne:b ≠ a:=fun z=>by
    subst z
    have hi:i < as.length:=(List.getElem?_eq_some_iff.mp eb).1
    exact h ((List.getElem?_inj hi nd).mp (eb.trans ea.symm))
   rw [aD ne]
   exact R.row i b u eb eu
 ·have ne:b ≠ a:=fun z=>hb (z ▸ List.mem_of_getElem? ea)
  rw [aD ne]
  exact R.stay b u hb e
def xx (vs:List (List Int)) (m:Nat) (ns:List (List Int)):Prop:=vs.length=m/\∀ (j:Nat) v,vs[j]? = some v->v=nbs ns (j:Int)
theorem qc (k:Int):∀ ns:List (List Int),(nbs ns k).length<=ns.length
 | []=>by simp [nbs]
 | p :: ns=>by
  show (nb1 p k ++ nbs ns k).length<=_
  have:=qc k ns
  have h1:(nb1 p k).length<=1:=by unfold nb1; (repeat' split) <;> simp
  rw [List.length_append,List.length_cons]
  omega
theorem nD (ns:List (List Int)) (p:List Int) (k:Int):nbs (ns ++ [p]) k=nbs ns k ++ nb1 p k:=by unfold nbs; simp
abbrev nE:Sp:=fun vs H Q _=>∃ (r:Addr) (m:Int) (ts:List (Addr × List Int)),vs=[.ref r]/\Wb H r m ts/\0<=m/\m<=1000/\∀ (l:Addr) (H':Hp) (os:List (Addr × List Int)),aA H H'->H' l=some (.lst (os.map fun u => .ref u.1))->os.length=m.toNat->(∀ u ∈ os,H' u.1=some (.lst (u.2.map V.int))) →
 (∀ (j:Nat) u,os[j]? = some u->u.2.Pairwise (· < ·)/\∀ x,x ∈ u.2 ↔ x ∈ nbs (ts.map (·.2)) (j:Int))->Q (.ref l) H'
@[irreducible] def gw:Sp:=nE
theorem eW {vs:List V} {H:Hp} {Q:VK} {E:XK}:gw vs H Q E ↔ nE vs H Q E:=by
 delta gw
 exact Iff.rfl
theorem jH {X:Cx} {K:PySem.W.Frag} (h:X.K=K:=by rfl):bJ X (.builtin "sorted") (fun xs H Q=>∃ (p:Addr) (ns:List Int),xs=[.ref p]/\(SqL K H p (ns.map V.int)\/SqT K H p (ns.map V.int))/\∀ (l:Addr) (out:List Int),H l=none->out.Perm ns->out.Pairwise (· <= ·)->Q (.ref l) (upd H l (.lst (out.map V.int)))):=by
 subst h; exact lB
section
variable {P:Program} {w:World} {K:PySem.W.Frag} {mg:Str->Option Value} {base:Heap} {f:Addr} {fd:FuncData}
theorem ndPl:(["place"]:List Str).Nodup:=by decide +kernel
theorem ndRo:(["row"]:List Str).Nodup:=by decide +kernel
theorem lS:aW ["web", "near", "tie"] ["web"] (au tO):=⟨rfl,rfl,rfl,by decide +kernel,rfl,by decide +kernel,by decide +kernel⟩
theorem vp (F:Fun K "near_lists" "near_lists" tO f fd) (mr:mg "range" = none) (mst:mg "set" = none) (mso:mg "sorted" = none):cy P w K mg base CX0 1 f fd ["web"] gw:=by
 refine F.ok lS (fun vs H Q E h => ?_) (fun cdv A outer s H vs Q E hr h => ?_)
 ·obtain ⟨a,b,c,rfl,_⟩:=eW.mp h
  rfl
 obtain ⟨r,m,ts,rfl,W,m0,m1,q⟩:=eW.mp h
 obtain ⟨t,e1,e2⟩:=W.at'
 refine ⟨_,ah (cY (i:=1) ["place"] [none] rfl lS.nd rfl rfl (bI rfl mr (aa (aQ aV (pv 0) ai (fun _ _=>rfl)) af)) rfl (fun _ _ _ _ _=>aj (i:=0) ndPl rfl (Or.inl rfl)) (fun _ _ _ _ _=>cX) (fun _ _ _ _ _=>bY af))
  (ah (cx PassesOwn.never rfl (cw (ak (eO (w:=w) rfl hr.hd) rfl mso cQ (aa (bj (iR (w:=w) rfl hr.hd hr.units) rfl mst PySem.Pv.boot_set (aa (aQ aV (pv 0) ai (fun _ _=>rfl)) af)) af))) (aj (i:=2) lS.nd rfl (Or.inl rfl))
   (av (bQ (aJ mq (aQ aV (pv 2) ai (fun _ _=>rfl)) (aQ aV (pv 2) ai (fun _ _=>rfl)) (aR _))
    (ah (bN (cW PySem.F.plainAttrs_list PySem.F.slot_list_append PySem.F.type_list_append bK (aQ cj (pv 1) (aQ aV (pv 2) ai (fun _ _=>rfl)) (fun _ _=>rfl)) (aa (aQ aV (pv 2) ai (fun _ _=>rfl)) af)))
    (av (bN (cW PySem.F.plainAttrs_list PySem.F.slot_list_append PySem.F.type_list_append bK (aQ cj (pv 1) (aQ aV (pv 2) ai (fun _ _=>rfl)) (fun _ _=>rfl)) (aa (aQ aV (pv 2) ai (fun _ _=>rfl)) af))))) ba)))
  (av (aU (dr ["row"] [none] rfl (cw (pv 1)) rfl (fun _ _ _ _ _=>aj (i:=0) ndRo rfl (Or.inl rfl)) (fun _ _ _ _ _=>cX) (fun _ _ _ _ _=>ak (jH (K:=K)) rfl mso cQ (aa (pv 0) af)))))),?_⟩
 refine ⟨_,rfl,r,_,0,_,rfl,rfl,SqT.of e1,rfl,m,rfl,by omega,by omega,dt (lo:=0) (n:=m.toNat) (fun i ys H'=>aA H H'/\∃ as:List Addr,ys=as.map V.ref/\as.length=i/\as.Nodup/\∀ a ∈ as,H a=none/\H' a=some (.lst [])) ⟨aA.refl _,[],rfl,rfl,List.nodup_nil,fun a ha=>by cases ha⟩ (small (by omega)) ?_ ?_⟩
 ·rintro i ys H3 hi hy ⟨s3,as,rfl,la,nd,ha⟩ R1 R0 r1 r0
  refine cB ⟨(by show 0<=sizeLine; decide),fun p hp=>r1 _ _ ⟨s3.trans (ae hp _),as ++ [p],by rw [List.map_append]; rfl,by rw [List.length_append,la]; rfl,?_,fun a m' => ?_⟩⟩
  ·rw [List.nodup_append]
   refine ⟨nd,List.nodup_cons.mpr ⟨by simp,List.nodup_nil⟩,fun x hx y hy e => ?_⟩
   rw [List.mem_singleton] at hy
   subst hy; subst e
   rw [(ha x hx).2] at hp; cases hp
  ·rcases List.mem_append.mp m' with z | z
   ·exact ⟨(ha a z).1,(ae hp _) _ _ (ha a z).2⟩
   ·rw [List.mem_singleton] at z
    subst z
    refine ⟨?_,ag⟩
    cases e:H a with
    | none=>rfl
    | some o=>rw [s3 _ _ e] at hp; cases hp
 rintro ys H3 hy ⟨s3,as,rfl,la,nd,ha⟩ l hl
 have s1:=s3.trans (ae hl (.lst (as.map V.ref)))
 have nl:l ∉ as:=fun z=>by rw [(ha l z).2] at hl; cases hl
 have ha1:∀ a ∈ as,upd H3 l (.lst (as.map V.ref)) a=some (.lst []):=fun a z=>(ae hl _) _ _ (ha a z).2
 have hl1:upd H3 l (.lst (as.map V.ref)) l=some (.lst (as.map V.ref)):=ag
 generalize upd H3 l (.lst (as.map V.ref))=H1 at s1 ha1 hl1
 have tsl:=W.len
 refine ⟨_,rfl,r,_,1,_,rfl,rfl,SqT.of (s1 _ _ e1),rfl,t,ts,rfl,.inr (SqT.of (s1 _ _ e2)),fun u hu=>SqT.of (s1 _ _ (W.tup u hu)),by omega,fun a us hna mu ndu cov hlu => ?_⟩
 have sa:=ae hna (dD w a (us.map fun t => .ref t.1))
 refine ⟨a,us,rfl,ag,fun u hu=>⟨SqT.of (sa _ _ (s1 _ _ (W.tup u (mu u hu)))),fun z => ?_⟩,by omega,fun l2 out hl2 pm ps => ?_⟩
 ·obtain ⟨x,y,e,_⟩:=W.pr u (mu u hu)
  rw [z] at e; cases e
 have s2':=sa.trans (ae hl2 (.lst (out.map fun t => .ref t.1)))
 have s2:=s1.trans s2'
 have nl2:l2 ∉ as:=fun z=>by rw [sa _ _ (ha1 l2 z)] at hl2; cases hl2
 have h2l2:upd (upd H1 a (dD w a (us.map fun t => .ref t.1))) l2 (.lst (out.map fun t => .ref t.1)) l2=some (.lst (out.map fun t => .ref t.1)):=ag
 generalize upd (upd H1 a (dD w a (us.map fun t => .ref t.1))) l2 (.lst (out.map fun t => .ref t.1))=H2 at s2 s2' h2l2
 have old:∀ {b:Addr} {o:HO},H b=some o->b ∉ as:=fun {b o} e z=>by rw [(ha b z).1] at e; cases e
 refine ⟨l2,rfl,⟨_,SqL.of h2l2⟩,fV (xs:=out.map fun u => .ref u.1) (fun i σ H'=>(∃ c,σ=[some (.ref r),some (.ref l),c])/\∃ vs,Rows H2 H' as vs/\xx vs m.toNat ((out.take i).map (·.2))) ⟨⟨_,rfl⟩,List.replicate m.toNat [],⟨by rw [List.length_replicate,la],fun j b v eb ev => ?_,fun b u _ e=>e⟩,List.length_replicate ..,fun j v ev => ?_⟩ (fun i σ H' _ z => ?_) ?_ ?_⟩
 ·rw [List.getElem?_replicate] at ev
  split at ev
  ·cases ev
   exact s2' _ _ (ha1 b (List.mem_of_getElem? eb))
  ·cases ev
 ·rw [List.getElem?_replicate] at ev
  split at ev
  ·cases ev; rfl
  ·cases ev
 ·obtain ⟨_,vs,R,_⟩:=z
  exact SqL.of (R.stay l2 _ nl2 h2l2)
 ·rintro i x σ H' hx ⟨⟨c,rfl⟩,vs,R,lv,RO⟩
  obtain ⟨u,eu,rfl⟩:=item hx
  have mts:=mu u (pm.mem_iff.mp (List.mem_of_getElem? eu))
  obtain ⟨x,y,e3,x0,xy,ym⟩:=W.pr u mts
  have hu0:=W.tup u mts
  have hu':H' u.1=some (.tup [.int x,.int y]):=by
   rw [e3] at hu0
   exact R.stay _ _ (old hu0) (s2 _ _ hu0)
  have tk:(out.take (i + 1)).map (·.2)=(out.take i).map (·.2) ++ [[x,y]]:=by rw [take_snoc (f:=fun u:Addr × List Int=>u.2) eu,e3]
  obtain ⟨xn,rfl⟩:∃ n:Nat,x=n:=⟨x.toNat,by omega⟩
  obtain ⟨yn,rfl⟩:∃ n:Nat,y=n:=⟨y.toNat,by omega⟩
  have hlst:=R.stay l _ nl (s2' _ _ hl1)
  have axn:as[xn]? = some as[xn]:=List.getElem?_eq_getElem (by omega)
  have ayn:as[yn]? = some as[yn]:=List.getElem?_eq_getElem (by omega)
  have vxn:vs[xn]? = some vs[xn]:=List.getElem?_eq_getElem (by omega)
  have vyn:vs[yn]? = some vs[yn]:=List.getElem?_eq_getElem (by omega)
  have at1:atI (as.map V.ref) (xn:Int)=some (.ref as[xn]):=cM (by rw [List.getElem?_map,axn]; rfl)
  have at2:atI (as.map V.ref) (yn:Int)=some (.ref as[yn]):=cM (by rw [List.getElem?_map,ayn]; rfl)
  have ll:∀ (j:Nat) v,vs[j]? = some v->v.length<=200:=fun j v ev=>by
   rw [RO j v ev]
   refine Nat.le_trans (qc _ _) ?_
   rw [List.length_map,List.length_take]
   have:=pm.length_eq
   omega
  refine ⟨_,rfl,u.1,_,0,_,rfl,rfl,SqT.of hu',rfl,_,rfl,u.1,_,1,_,rfl,rfl,SqT.of hu',rfl,rfl,_,rfl,?_⟩
  by_cases hxy:xn=yn
  ·subst hxy
   refine pC rfl ⟨⟨_,rfl⟩,vs,R,lv,fun j v ev => ?_⟩
   have nil:nb1 [(xn:Int),(xn:Int)] j=[]:=by unfold nb1; simp
   rw [tk,nD,nil,List.append_nil]
   exact RO j v ev
  ·have hd:decide (V.int (xn:Int)=V.int (yn:Int))=false:=decide_eq_false fun z=>hxy (by injection z with z; omega)
   rw [hd]
   have rowx:=R.row xn _ _ axn vxn
   have R1:=R.push nd axn vxn (yn:Int)
   have vyn':(vs.set xn (vs[xn] ++ [(yn:Int)]))[yn]? = some vs[yn]:=by rw [List.getElem?_set_ne hxy]; exact vyn
   have rowy:=R1.row yn _ _ ayn vyn'
   have R2:=R1.push nd ayn vyn' (xn:Int)
   have hu2:=R1.stay _ _ (old hu0) (s2 _ _ hu0)
   rw [e3] at hu2
   have hlst2:=R1.stay l _ nl (s2' _ _ hl1)
   refine cB ⟨_,rfl,_,rfl,u.1,_,0,_,rfl,rfl,SqT.of hu',rfl,l,_,(xn:Int),_,rfl,rfl,SqL.of hlst,at1,.inl ⟨rfl,_,SqL.of rowx⟩,_,rfl,u.1,_,1,_,rfl,rfl,SqT.of hu',rfl,as[xn],_,_,rfl,rfl,rowx,(by rw [List.length_map]; exact bW (by have:=ll _ _ vxn; omega)),?_⟩
   refine ⟨_,rfl,_,rfl,u.1,_,1,_,rfl,rfl,SqT.of hu2,rfl,l,_,(yn:Int),_,rfl,rfl,SqL.of hlst2,at2,.inl ⟨rfl,_,SqL.of rowy⟩,_,rfl,u.1,_,0,_,rfl,rfl,SqT.of hu2,rfl,as[yn],_,_,rfl,rfl,rowy,(by rw [List.length_map]; exact bW (by have:=ll _ _ vyn; omega)),?_⟩
   refine ⟨⟨_,rfl⟩,_,R2,by rw [List.length_set,List.length_set]; exact lv,fun j v ev => ?_⟩
   rw [tk,nD]
   by_cases jy:yn=j
   ·subst jy
    rw [List.getElem?_set_self (by rw [List.length_set]; omega)] at ev
    cases ev
    have e4:nb1 [(xn:Int),(yn:Int)] yn=[(xn:Int)]:=by
     show (if (xn:Int)=yn then [] else if (xn:Int)=yn then [(yn:Int)] else if (yn:Int)=yn then [(xn:Int)] else [])=_
     rw [if_neg (by omega),if_neg (by omega),if_pos rfl]
    rw [e4, <- RO yn _ vyn]
   ·rw [List.getElem?_set_ne jy] at ev
    by_cases jx:xn=j
    ·subst jx
     rw [List.getElem?_set_self (by omega)] at ev
     cases ev
     have e4:nb1 [(xn:Int),(yn:Int)] xn=[(yn:Int)]:=by
      show (if (xn:Int)=yn then [] else if (xn:Int)=xn then [(yn:Int)] else if (yn:Int)=xn then [(xn:Int)] else [])=_
      rw [if_neg (by omega),if_pos rfl]
     rw [e4, <- RO xn _ vxn]
    ·rw [List.getElem?_set_ne jx] at ev
     have e4:nb1 [(xn:Int),(yn:Int)] j=[]:=by
      show (if (xn:Int)=yn then [] else if (xn:Int)=j then [(yn:Int)] else if (yn:Int)=j then [(xn:Int)] else [])=_
      rw [if_neg (by omega),if_neg (by omega),if_neg (by omega)]
     rw [e4,List.append_nil]
     exact RO j v ev
 ·rintro σ H' ⟨⟨c,rfl⟩,vs,R,lv,RO⟩
  have hlst:=R.stay l _ nl (s2' _ _ hl1)
  rw [List.length_map,List.take_of_length_le (Nat.le_refl _)] at RO
  have sH':aA H H':=fun b o e=>R.stay b o (old e) (s2 _ _ e)
  have kns:(out.map (·.2)).Nodup:=((pm.map (·.2)).nodup_iff).mpr ndu
  have mns:∀ x,x ∈ out.map (·.2) ↔ x ∈ ts.map (·.2):=fun x=>by
   rw [(pm.map (·.2)).mem_iff]
   constructor
   ·intro hx
    obtain ⟨u,hu,rfl⟩:=List.mem_map.mp hx
    exact List.mem_map.mpr ⟨u,mu u hu,rfl⟩
   ·intro hx
    obtain ⟨u,hu,rfl⟩:=List.mem_map.mp hx
    exact cov u hu
  have pns:∀ p ∈ out.map (·.2),∃ a b:Int,p=[a,b]/\a<=b:=fun p hp=>by
   obtain ⟨u,hu,rfl⟩:=List.mem_map.mp ((mns p).mp hp)
   obtain ⟨a,b,e,_,ab,_⟩:=W.pr u hu
   exact ⟨a,b,e,ab⟩
  have nbm:∀ k x,x ∈ nbs (out.map (·.2)) k ↔ x ∈ nbs (ts.map (·.2)) k:=fun k x=>by
   rw [iq,iq]
   exact ⟨fun ⟨p,hp,z⟩=>⟨p,(mns p).mp hp,z⟩,fun ⟨p,hp,z⟩=>⟨p,(mns p).mpr hp,z⟩⟩
  refine ⟨_,rfl,l,rfl,⟨_,SqL.of hlst⟩,cZ (xs:=as.map V.ref) (fun i ys H5=>aA H' H5/\∃ os:List (Addr × List Int),ys=(os.map fun u=>V.ref u.1)/\os.length=i/\(∀ u ∈ os,H5 u.1=some (.lst (u.2.map V.int)))/\∀ (j:Nat) u v,os[j]? = some u->vs[j]? = some v->u.2.Perm v/\u.2.Pairwise (· <= ·)) ⟨aA.refl _,[],rfl,rfl,fun u hu=>(by cases hu),fun j u v eu=>by simp at eu⟩ (by rw [List.length_map]; exact small (by omega)) (fun i ys H5 _ z=>SqL.of (z.1 _ _ hlst)) ?_ ?_⟩
  ·rintro i x ys H5 hx hy ⟨s5,os,rfl,lo,ho,po⟩ R1 R0 r1 r0
   rw [List.getElem?_map] at hx
   cases ea:as[i]? with
   | none=>rw [ea] at hx; cases hx
   | some a5 =>
    rw [ea] at hx
    cases hx
    have hi:i < as.length:=(List.getElem?_eq_some_iff.mp ea).1
    have ev:vs[i]? = some vs[i]:=List.getElem?_eq_getElem (by omega)
    have rowa:=s5 _ _ (R.row i _ _ ea ev)
    refine cB ⟨_,rfl,a5,vs[i],rfl,.inl (SqL.of rowa),fun l5 o5 hl5 pm5 ps5=>r1 _ _ ⟨s5.trans (ae hl5 _),os ++ [(l5,o5)],by rw [List.map_append]; rfl,by rw [List.length_append,lo]; rfl,fun u hu => ?_,fun j u v eu ev' => ?_⟩⟩
    ·rcases List.mem_append.mp hu with z | z
     ·exact (ae hl5 _) _ _ (ho u z)
     ·rw [List.mem_singleton] at z; subst z; exact ag
    ·by_cases hj:j < os.length
     ·rw [List.getElem?_append_left hj] at eu
      exact po j u v eu ev'
     ·have hj2:j=i:=by
       have:=(List.getElem?_eq_some_iff.mp eu).1
       rw [List.length_append,List.length_singleton] at this
       omega
      subst hj2
      rw [List.getElem?_append_right (by omega),show j - os.length=0 by omega] at eu
      cases eu
      rw [ev] at ev'; cases ev'
      exact ⟨pm5,ps5⟩
  ·rintro ys H5 hy ⟨s5,os,rfl,lo,ho,po⟩ l5 hl5
   rw [List.length_map] at lo
   have s6:=ae hl5 (.lst (os.map fun u=>V.ref u.1))
   refine q l5 _ os (sH'.trans (s5.trans s6)) ag (by omega) (fun u hu=>s6 _ _ (ho u hu)) fun j u eu => ?_
   have hj:j < os.length:=(List.getElem?_eq_some_iff.mp eu).1
   have ev:vs[j]? = some vs[j]:=List.getElem?_eq_getElem (by omega)
   obtain ⟨p1,p2⟩:=po j u _ eu ev
   have e5:=RO j _ ev
   rw [e5] at p1
   refine ⟨jh p2 (p1.nodup_iff.mpr (kG kns pns)),fun x => ?_⟩
   rw [p1.mem_iff]
   exact nbm _ _
end
def Adj (ns:List (List Int)) (u v:Int):Prop:=v ∈ nbs ns u
def Ok (m:Nat) (ns:List (List Int)):Prop:=∀ p ∈ ns,∃ a b:Int,p=[a,b]/\0<=a/\a<=b/\b < m
theorem ir {m:Nat} {ns:List (List Int)} (O:Ok m ns) {u v:Int}:Adj ns u v ↔ ∃ a b:Int,[a,b] ∈ ns/\a ≠ b/\((a=u/\v=b)\/(b=u/\v=a)):=by
 unfold Adj
 rw [iq]
 constructor
 ·rintro ⟨p,hp,h⟩
  obtain ⟨a,b,rfl,_⟩:=O p hp
  exact ⟨a,b,hp,lR.mp h⟩
 ·rintro ⟨a,b,hp,h⟩
  exact ⟨[a,b],hp,lR.mpr h⟩
theorem nF {m:Nat} {ns:List (List Int)} (O:Ok m ns) {u v:Int} (h:Adj ns u v):Adj ns v u:=by
 rw [ir O] at *
 obtain ⟨a,b,hp,ne,h⟩:=h
 refine ⟨a,b,hp,ne,?_⟩
 rcases h with ⟨h1,h2⟩ | ⟨h1,h2⟩
 ·exact .inr ⟨h2.symm,h1.symm⟩
 ·exact .inl ⟨h2.symm,h1.symm⟩
theorem vq {m:Nat} {ns:List (List Int)} (O:Ok m ns) {u v:Int} (h:Adj ns u v):(0<=u/\u < m)/\0<=v/\v < m:=by
 rw [ir O] at h
 obtain ⟨a,b,hp,ne,h⟩:=h
 obtain ⟨a',b',e,h1,h2,h3⟩:=O _ hp
 injection e with e1 e2
 injection e2 with e2 _
 subst e1; subst e2
 rcases h with ⟨h4,h5⟩ | ⟨h4,h5⟩ <;> subst h4 <;> subst h5 <;> omega
def rgI (m:Nat):List Int:=(List.range m).map fun i:Nat=>(i:Int)
theorem vt {m:Nat} {v:Int}:v ∈ rgI m ↔ 0<=v/\v < m:=by
 unfold rgI
 rw [List.mem_map]
 constructor
 ·rintro ⟨i,hi,rfl⟩
  rw [List.mem_range] at hi
  omega
 ·intro h
  exact ⟨v.toNat,List.mem_range.mpr (by omega),by omega⟩
theorem dX {R:List Int} {m:Nat} (nd:R.Nodup) (h:∀ v ∈ R,0<=v/\v < m):R.length<=m:=by
 have:=List.Nodup.length_le_of_subset nd (l₂:=rgI m) fun v hv=>vt.mpr (h v hv)
 unfold rgI at this
 rw [List.length_map,List.length_range] at this
 exact this
theorem ji {R:List Int} {v:Int} (nd:R.Nodup) (h:v ∉ R):(R ++ [v]).Nodup:=by
 rw [List.nodup_append]
 exact ⟨nd,List.nodup_cons.mpr ⟨by simp,List.nodup_nil⟩,fun x hx y hy e=>h (by rw [List.mem_singleton] at hy; subst hy; subst e; exact hx)⟩
structure gS (H:Hp) (n:Addr) (m:Nat) (ns:List (List Int)) (os:List (Addr × List Int)):Prop where
 at':H n=some (.lst (os.map fun u => .ref u.1))
 len:os.length=m
 row:∀ u ∈ os,H u.1=some (.lst (u.2.map V.int))
 is:∀ (j:Nat) u,os[j]? = some u->∀ x,x ∈ u.2 ↔ x ∈ nbs ns (j:Int)
theorem gS.same {H H':Hp} {n:Addr} {m:Nat} {ns:List (List Int)} {os:List (Addr × List Int)} (h:gS H n m ns os) (s:aA H H'):gS H' n m ns os:=⟨s _ _ h.at',h.len,fun u hu=>s _ _ (h.row u hu),h.is⟩
def tQ (H:Hp) (d:Addr):Nat:=match H d with | some (.dK kvs)=>kvs.length | _=>0
def vv (H:Hp) (y:Addr):Nat:=match H y with | some (.lst xs)=>xs.length | _=>0
open PySem L2
section
variable {P:Program} {w:World} {K:PySem.W.Frag} {mg:Str->Option Value} {base:Heap} {f T:Addr} {fd:FuncData}
def tR:Sp:=fun vs H Q _=>∃ a b:Int,vs=[.int a,.int b]/\∀ t,H t=none->Q (.ref t) (upd H t (.tup ((nrm a b).map V.int)))
theorem yu:aW ["one", "other"] ["one", "other"] (au yq):=⟨rfl,rfl,rfl,by decide +kernel,rfl,by decide +kernel,by decide +kernel⟩
theorem yv (F:Fun K "tie_of" "tie_of" yq f fd) (mx:mg "max" = none) (mn:mg "min" = none):cy P w K mg base CX0 1 f fd ["one", "other"] tR:=by
 refine F.ok yu (fun vs H Q E h => ?_) (fun cdv A outer s H vs Q E hr h => ?_)
 ·obtain ⟨a,b,rfl,_⟩:=h
  rfl
 obtain ⟨a,b,rfl,q⟩:=h
 refine ⟨_,av (aU (bO (aa (ak (fg rfl) rfl mn dH (aa (pv 0) (aa (pv 1) af))) (aa (ak (dM rfl) rfl mx gR (aa (pv 0) (aa (pv 1) af))) af)))),?_⟩
 exact ⟨_,rfl,_,rfl,_,_,rfl,_,rfl,_,rfl,_,_,rfl,(by show 2<=sizeLine; decide),fun t ht=>q t ht⟩
abbrev nG:Sp:=fun vs H Q _=>∃ (r:Addr) (m a b:Int) (ts:List (Addr × List Int)),vs=[.ref r,.int a,.int b]/\Wb H r m ts/\∀ H',aA H H'->Q (.int ((ts.map (·.2)).count (nrm a b):Nat)) H'
@[irreducible] def dz:Sp:=nG
theorem bU {vs:List V} {H:Hp} {Q:VK} {E:XK}:dz vs H Q E ↔ nG vs H Q E:=by
 delta dz
 exact Iff.rfl
theorem vw:aW ["web", "one", "other"] ["web", "one", "other"] (au tP):=⟨rfl,rfl,rfl,by decide +kernel,rfl,by decide +kernel,by decide +kernel⟩
theorem vx (F:Fun K "tied_times" "tied_times" tP f fd) (cT:Cal P w K mg base 1 "tie_of" ["one", "other"] tR):cy P w K mg base CX0 2 f fd ["web", "one", "other"] dz:=by
 refine F.ok vw (fun vs H Q E h => ?_) (fun cdv A outer s H vs Q E hr h => ?_)
 ·obtain ⟨a,b,c,d,e,rfl,_⟩:=bU.mp h
  rfl
 obtain ⟨r,m,a,b,ts,rfl,W,q⟩:=bU.mp h
 obtain ⟨t,e1,e2⟩:=W.at'
 refine ⟨_,av (aU (oJ PySem.F.slot_tuple_count PySem.F.type_tuple_count (iU (hu8 hr)) (aQ aV (pv 0) ai (fun _ _=>rfl)) (aa (bM cT hr (by decide) rfl (aa (pv 1) (aa (pv 2) af))) af))),?_⟩
 refine ⟨_,rfl,r,_,1,_,rfl,rfl,SqT.of e1,rfl,⟨_,_,rfl,e2⟩,_,rfl,_,rfl,a,b,rfl,fun x hx => ?_⟩
 have s1:=ae hx (.tup ((nrm a b).map V.int))
 exact ⟨t,x,ts,nrm a b,rfl,rfl,s1 _ _ e2,fun u hu=>s1 _ _ (W.tup u hu),ag,q _ s1⟩
end
open PySem L2
inductive Wk (R:Int->Int->Prop) (s:Int):Nat->Int->Prop
 | z:Wk R s 0 s
 | st {n:Nat} {p o:Int}:Wk R s n p->R p o->Wk R s (n + 1) o
def Dst (R:Int->Int->Prop) (s:Int) (n:Nat) (v:Int):Prop:=Wk R s n v/\∀ k,k < n->¬ Wk R s k v
theorem Dst.uniq {R:Int->Int->Prop} {s:Int} {a b:Nat} {v:Int} (h1:Dst R s a v) (h2:Dst R s b v):a=b:=by
 rcases Nat.lt_trichotomy a b with h | h | h
 ·exact absurd h1.1 (h2.2 a h)
 ·exact h
 ·exact absurd h2.1 (h1.2 b h)
theorem Wk.zero {R:Int->Int->Prop} {s v:Int} (h:Wk R s 0 v):v=s:=by cases h; rfl
def stp (ns:List (List Int)) (s g p o:Int):Prop:=Adj ns p o/\(p ≠ s\/o ≠ g)
theorem Wk.rng {m:Nat} {ns:List (List Int)} (O:Ok m ns) {s g:Int} (hs:0<=s/\s < m) {n:Nat} {v:Int} (h:Wk (stp ns s g) s n v):0<=v/\v < m:=by
 cases h with
 | z=>exact hs
 | st _ r=>exact (vq O r.1).2
def mp (C:List (Int × V)):List (Key × V):=C.map fun e=>(Sum.inl e.1,e.2)
theorem jj (v:Int):∀ C:List (Int × V),(v ∉ C.map (·.1)/\dE (mp C) (Sum.inl v)=none)\/∃ x,(v,x) ∈ C/\dE (mp C) (Sum.inl v)=some x
 | [] => .inl ⟨by simp,rfl⟩
 | e :: C=>by
  by_cases h:e.1=v
  ·refine .inr ⟨e.2,by rw [<- h]; exact List.mem_cons_self,?_⟩
   show dE ((Sum.inl e.1,e.2) :: mp C) (Sum.inl v)=some e.2
   rw [gq (by rw [h])]
  ·have en:dE (mp (e :: C)) (Sum.inl v)=dE (mp C) (Sum.inl v):=by
    show dE ((Sum.inl e.1,e.2) :: mp C) (Sum.inl v)=_
    rw [gr (fun z=>h (by injection z))]
   rw [en]
   rcases jj v C with ⟨h1,h2⟩ | ⟨x,h1,h2⟩
   ·exact .inl ⟨by rw [List.map_cons,List.mem_cons]; exact fun z=>z.elim (fun y=>h y.symm) h1,h2⟩
   ·exact .inr ⟨x,List.mem_cons_of_mem _ h1,h2⟩
theorem qd (v:Int) (C:List (Int × V)):(dE (mp C) (Sum.inl v)).isSome=decide (v ∈ C.map (·.1)):=by
 rcases jj v C with ⟨h1,h2⟩ | ⟨x,h1,h2⟩
 ·rw [h2,decide_eq_false h1]; rfl
 ·rw [h2,decide_eq_true (List.mem_map_of_mem (f:=(·.1)) h1)]; rfl
theorem tS {v:Int} {C:List (Int × V)} (h:v ∈ C.map (·.1)):∃ x,(v,x) ∈ C/\dE (mp C) (Sum.inl v)=some x:=by
 rcases jj v C with ⟨h1,_⟩ | z
 ·exact absurd h h1
 ·exact z
theorem tW {v:Int} {C:List (Int × V)} (h:v ∉ C.map (·.1)) (x:V):putK (mp C) (Sum.inl v) x=mp (C ++ [(v,x)]):=by
 rcases jj v C with ⟨_,h2⟩ | ⟨x,h1,_⟩
 ·rw [sT _ h2]; unfold mp; rw [List.map_append]; rfl
 ·exact absurd (List.mem_map_of_mem (f:=(·.1)) h1) h
theorem lT (C:List (Int × V)):(mp C).length=C.length:=List.length_map _
structure Rnd (ns:List (List Int)) (s g:Int) (d:Nat) (C:List (Int × V)) (Y F:List Int):Prop where
 nd:(C.map (·.1)).Nodup
 ent:∀ e ∈ C,(e.1=s/\e.2 = .non)\/∃ (p:Int) (n:Nat),e.2 = .int p/\Dst (stp ns s g) s n p/\Dst (stp ns s g) s (n + 1) e.1/\stp ns s g p e.1
 key:∀ v,v ∈ C.map (·.1) ↔ (∃ n,n<=d/\Wk (stp ns s g) s n v)\/v ∈ F
 rdy:∀ v,v ∈ Y ↔ Dst (stp ns s g) s d v
 fur:∀ v ∈ F,Dst (stp ns s g) s (d + 1) v
theorem Rnd.start (ns:List (List Int)) (s g:Int):Rnd ns s g 0 [(s,.non)] [s] []:=by
 refine ⟨List.nodup_cons.mpr ⟨by simp,List.nodup_nil⟩,fun e he => ?_,fun v => ?_,fun v => ?_,fun v h=>by cases h⟩
 ·rw [List.mem_singleton] at he; subst he; exact .inl ⟨rfl,rfl⟩
 ·show v ∈ [s] ↔ _
  rw [List.mem_singleton]
  refine ⟨fun h => .inl ⟨0,Nat.le_refl _,h ▸ .z⟩,fun h => ?_⟩
  rcases h with ⟨n,h1,h2⟩ | h
  ·cases Nat.le_zero.mp h1; exact h2.zero
  ·cases h
 ·rw [List.mem_singleton]
  exact ⟨fun h=>⟨h ▸ .z,fun k hk=>absurd hk (Nat.not_lt_zero _)⟩,fun h=>h.1.zero⟩
theorem Rnd.add {ns:List (List Int)} {s g:Int} {d:Nat} {C:List (Int × V)} {Y F:List Int} (h:Rnd ns s g d C Y F) {p o:Int} (hp:p ∈ Y) (ha:stp ns s g p o) (hn:o ∉ C.map (·.1)):Rnd ns s g d (C ++ [(o,.int p)]) Y (F ++ [o]):=by
 have dp:=(h.rdy p).mp hp
 have dw:Dst (stp ns s g) s (d + 1) o:=⟨.st dp.1 ha,fun k hk w=>hn ((h.key o).mpr (.inl ⟨k,Nat.le_of_lt_succ hk,w⟩))⟩
 refine ⟨?_,fun e he => ?_,fun v => ?_,h.rdy,fun v hv => ?_⟩
 ·rw [List.map_append]; exact ji h.nd hn
 ·rcases List.mem_append.mp he with z | z
  ·exact h.ent e z
  ·rw [List.mem_singleton] at z; subst z
   exact .inr ⟨p,d,rfl,dp,dw,ha⟩
 ·rw [List.map_append,List.mem_append,h.key,List.mem_append]
  exact or_assoc
 ·rcases List.mem_append.mp hv with z | z
  ·exact h.fur v z
  ·rw [List.mem_singleton] at z; subst z; exact dw
theorem Rnd.next {ns:List (List Int)} {s g:Int} {d:Nat} {C:List (Int × V)} {Y F:List Int} (h:Rnd ns s g d C Y F) (cl:∀ p ∈ Y,∀ o,stp ns s g p o->o ∈ C.map (·.1)):Rnd ns s g (d + 1) C F []:=by
 have lo:∀ v,Wk (stp ns s g) s (d + 1) v->v ∈ C.map (·.1):=fun v w=>by
  cases w with
  | st w1 r =>
   rename_i p
   by_cases z:∃ k,k < d/\Wk (stp ns s g) s k p
   ·obtain ⟨k,hk,wk⟩:=z
    exact (h.key v).mpr (.inl ⟨k + 1,hk,.st wk r⟩)
   ·exact cl p ((h.rdy p).mpr ⟨w1,fun k hk wk=>z ⟨k,hk,wk⟩⟩) v r
 refine ⟨h.nd,h.ent,fun v=>⟨fun hv => ?_,fun hv => ?_⟩,fun v=>⟨h.fur v,fun dv => ?_⟩,fun v hv=>by cases hv⟩
 ·rcases (h.key v).mp hv with ⟨n,hn,w⟩ | z
  ·exact .inl ⟨n,Nat.le_succ_of_le hn,w⟩
  ·exact .inl ⟨d + 1,Nat.le_refl _,(h.fur v z).1⟩
 ·rcases hv with ⟨n,hn,w⟩ | z
  ·rcases Nat.lt_or_ge d n with c | c
   ·have:n=d + 1:=by omega
    subst this; exact lo v w
   ·exact (h.key v).mpr (.inl ⟨n,c,w⟩)
  ·cases z
 ·rcases (h.key v).mp (lo v dv.1) with ⟨n,hn,w⟩ | z
  ·exact absurd w (dv.2 n (Nat.lt_succ_of_le hn))
  ·exact z
theorem Rnd.stop {ns:List (List Int)} {s g:Int} {d:Nat} {C:List (Int × V)} (h:Rnd ns s g d C [] []) {k:Nat} {v:Int} (w:Wk (stp ns s g) s k v):v ∈ C.map (·.1):=by
 refine (h.key v).mpr (.inl ?_)
 induction w with
 | z=>exact ⟨0,Nat.zero_le _,.z⟩
 | st w1 r ih =>
  rename_i n p o
  obtain ⟨n,hn,wn⟩:=ih
  by_cases z:∃ k,k < d/\Wk (stp ns s g) s k p
  ·obtain ⟨k,hk,wk⟩:=z
   exact ⟨k + 1,hk,.st wk r⟩
  ·have:n=d:=by
    rcases Nat.lt_or_ge n d with c | c
    ·exact absurd ⟨n,c,wn⟩ z
    ·omega
   subst this
   have:=(h.rdy p).mpr ⟨wn,fun k hk wk=>z ⟨k,hk,wk⟩⟩
   cases this
theorem Rnd.dst {ns:List (List Int)} {s g:Int} {d:Nat} {C:List (Int × V)} {Y:List Int} (h:Rnd ns s g d C Y []) {v:Int} (hv:v ∈ C.map (·.1)):∃ n,n<=d/\Dst (stp ns s g) s n v:=by
 obtain ⟨e,he,rfl⟩:=List.mem_map.mp hv
 rcases h.ent e he with ⟨h1,_⟩ | ⟨p,n,_,_,h3,_⟩
 ·exact ⟨0,Nat.zero_le _,h1 ▸ .z,fun k hk=>absurd hk (Nat.not_lt_zero _)⟩
 ·rcases (h.key e.1).mp hv with ⟨k,hk,w⟩ | z
  ·refine ⟨n + 1,?_,h3⟩
   rcases Nat.lt_or_ge d (n + 1) with c | c
   ·exact absurd w (h3.2 k (by omega))
   ·exact c
  ·cases z
structure Trl (ns:List (List Int)) (s g:Int) (N:Nat) (Z:List Int):Prop where
 hd:Z[0]? = some g
 dst:∀ i x,Z[i]? = some x->i<=N/\Dst (stp ns s g) s (N - i) x
 ch:∀ i x y,Z[i]? = some x->Z[i + 1]? = some y->stp ns s g y x
theorem Trl.start {ns:List (List Int)} {s g:Int} {N:Nat} (h:Dst (stp ns s g) s N g):Trl ns s g N [g]:=by
 refine ⟨rfl,fun i x e => ?_,fun i x y _ e=>by simp at e⟩
 cases i with
 | zero=>cases e; exact ⟨Nat.zero_le _,h⟩
 | succ i=>simp at e
theorem Trl.add {ns:List (List Int)} {s g:Int} {N n:Nat} {W:List Int} {p q:Int} (h:Trl ns s g N (W ++ [p])) (hn:n + 1 + W.length=N) (dq:Dst (stp ns s g) s n q) (hs:stp ns s g q p):Trl ns s g N (W ++ [p] ++ [q]):=by
 have lz:(W ++ [p]).length=W.length + 1:=by simp
 refine ⟨?_,fun i x e => ?_,fun i x y e1 e2 => ?_⟩
 ·rw [List.getElem?_append_left (by omega)]; exact h.hd
 ·rcases Nat.lt_or_ge i (W.length + 1) with c | c
  ·rw [List.getElem?_append_left (by omega)] at e; exact h.dst i x e
  ·rw [List.getElem?_append_right (by omega),lz] at e
   have:i - (W.length + 1)=0:=by
    rcases Nat.eq_zero_or_pos (i - (W.length + 1)) with z | z
    ·exact z
    ·rw [List.getElem?_eq_none (by simp; omega)] at e; cases e
   rw [this] at e; cases e
   refine ⟨by omega,?_⟩
   rw [show N - i=n by omega]; exact dq
 ·rcases Nat.lt_or_ge (i + 1) (W.length + 1) with c | c
  ·rw [List.getElem?_append_left (by omega)] at e1 e2; exact h.ch i x y e1 e2
  ·rw [List.getElem?_append_right (by omega),lz] at e2
   have:i + 1 - (W.length + 1)=0:=by
    rcases Nat.eq_zero_or_pos (i + 1 - (W.length + 1)) with z | z
    ·exact z
    ·rw [List.getElem?_eq_none (by simp; omega)] at e2; cases e2
   rw [this] at e2; cases e2
   rw [List.getElem?_append_left (by omega),List.getElem?_append_right (by omega),show i - W.length=0 by omega] at e1
   cases e1; exact hs
def Way (ns:List (List Int)) (s g:Int) (N:Nat) (Z:List Int):Prop:=Trl ns s g N Z/\Z.length=N + 1
def chn (P:Int->Int->Prop):List Int->Prop
 | a :: b :: t=>P a b/\chn P (b :: t)
 | _=>True
theorem lU {P:Int->Int->Prop}:∀ (l:List Int) (a:Int) (r:List Int),chn P (l ++ a :: r) ↔ chn P (l ++ [a])/\chn P (a :: r)
 | [],a,r=>⟨fun h=>⟨trivial,h⟩,fun h=>h.2⟩
 | [x],a,r=>⟨fun h=>⟨⟨h.1,trivial⟩,h.2⟩,fun h=>⟨h.1.1,h.2⟩⟩
 | x :: y :: l,a,r=>by
  have ih:=lU (P:=P) (y :: l) a r
  exact ⟨fun h=>⟨⟨h.1,(ih.mp h.2).1⟩,(ih.mp h.2).2⟩,fun h=>⟨h.1.1,ih.mpr ⟨h.1.2,h.2⟩⟩⟩
theorem qe {P:Int->Int->Prop}:∀ {Z:List Int},(∀ (i:Nat) x y,Z[i]? = some x->Z[i + 1]? = some y->P x y)->chn P Z
 | [],_=>trivial
 | [_],_=>trivial
 | a :: b :: t,h=>⟨h 0 a b rfl rfl,qe fun i x y e1 e2=>h (i + 1) x y e1 e2⟩
theorem qf {P:Int->Int->Prop}:∀ {Z:List Int},chn P Z->∀ (i:Nat) x y,Z[i]? = some x->Z[i + 1]? = some y->P x y
 | [],_,_,_,_,e,_=>by simp at e
 | [_],_,i,_,_,_,e=>by simp at e
 | a :: b :: t,h,0,x,y,e1,e2=>by cases e1; cases e2; exact h.1
 | a :: b :: t,h,i + 1,x,y,e1,e2=>qf h.2 i x y e1 e2
theorem qg {P:Int->Int->Prop} (sy:∀ a b,P a b->P b a):∀ {Z:List Int},chn P Z->chn P Z.reverse
 | [],_=>trivial
 | [_],_=>trivial
 | a :: b :: t,h=>by
  rw [List.reverse_cons,List.reverse_cons,List.append_assoc]
  show chn P (t.reverse ++ b :: [a])
  rw [lU]
  have:=qg sy h.2
  rw [List.reverse_cons] at this
  exact ⟨this,sy _ _ h.1,trivial⟩
def Td (ns:List (List Int)) (x y:Int):Prop:=nrm x y ∈ ns
theorem Td.symm {ns:List (List Int)} (x y:Int) (h:Td ns x y):Td ns y x:=by unfold Td at *; rw [cc]; exact h
theorem bA {a b:Int} (h:a<=b):nrm a b=[a,b]:=by
 unfold nrm mnI mxI
 by_cases c:a=b
 ·subst c; simp
 ·rw [if_neg (by omega),if_pos (by omega)]
theorem gW {m:Nat} {ns:List (List Int)} (O:Ok m ns) {u v:Int}:Adj ns u v ↔ u ≠ v/\Td ns u v:=by
 rw [ir O]
 unfold Td
 constructor
 ·rintro ⟨a,b,hp,ne,h⟩
  obtain ⟨_,_,e,_,ab,_⟩:=O _ hp
  cases e
  rcases h with ⟨rfl,rfl⟩ | ⟨rfl,rfl⟩
  ·exact ⟨ne,by rw [bA ab]; exact hp⟩
  ·exact ⟨Ne.symm ne,by rw [cc,bA ab]; exact hp⟩
 ·rintro ⟨ne,h⟩
  rcases Int.le_total u v with c | c
  ·rw [bA c] at h; exact ⟨u,v,h,ne,.inl ⟨rfl,rfl⟩⟩
  ·rw [cc,bA c] at h; exact ⟨v,u,h,Ne.symm ne,.inr ⟨rfl,rfl⟩⟩
structure Ring (m:Nat) (ns:List (List Int)) (Z:List Int):Prop where
 ne:Z ≠ []
 nd:Z.Nodup
 rng:∀ v ∈ Z,0<=v/\v < m
 ch:chn (Td ns) (Z ++ Z.take 1)
 two:∀ x y,Z=[x,y]->2<=ns.count (nrm x y)
theorem Ring.rot {m:Nat} {ns:List (List Int)} {u v:List Int} (h:Ring m ns (u ++ v)):Ring m ns (v ++ u):=by
 cases u with
 | nil=>rw [List.append_nil]; exact h
 | cons a u =>
  cases v with
  | nil=>rw [List.append_nil] at h; exact h
  | cons b v =>
   have pm:((b :: v) ++ (a :: u)).Perm ((a :: u) ++ (b :: v)):=List.perm_append_comm
   refine ⟨by simp,pm.nodup_iff.mpr h.nd,fun x hx=>h.rng x (pm.mem_iff.mp hx),?_,fun x y e => ?_⟩
   ·have c:=h.ch
    rw [show (a :: u) ++ (b :: v) ++ ((a :: u) ++ (b :: v)).take 1=(a :: u) ++ b :: (v ++ [a]) by simp] at c
    rw [show (b :: v) ++ (a :: u) ++ ((b :: v) ++ (a :: u)).take 1=(b :: v) ++ a :: (u ++ [b]) by simp]
    rw [lU] at c ⊢
    exact ⟨c.2,c.1⟩
   ·have:v=[]:=by
     cases v with
     | nil=>rfl
     | cons c v=>simp at e
    subst this
    have:u=[]:=by
     cases u with
     | nil=>rfl
     | cons c u=>simp at e
    subst this
    simp at e
    obtain ⟨rfl,rfl⟩:=e
    rw [cc]
    exact h.two _ _ rfl
theorem Ring.turn {m:Nat} {ns:List (List Int)} {a:Int} {t:List Int} (h:Ring m ns (a :: t)):Ring m ns (a :: t.reverse):=by
 have pm:(a :: t.reverse).Perm (a :: t):=(List.reverse_perm t).cons a
 refine ⟨by simp,pm.nodup_iff.mpr h.nd,fun x hx=>h.rng x (pm.mem_iff.mp hx),?_,fun x y e => ?_⟩
 ·have c:=qg (Td.symm (ns:=ns)) h.ch
  rw [show ((a :: t) ++ (a :: t).take 1).reverse=(a :: t.reverse) ++ (a :: t.reverse).take 1 by simp] at c
  exact c
 ·injection e with e1 e2
  have:t=[y]:=by
   have:=congrArg List.reverse e2
   rwa [List.reverse_reverse] at this
  subst this; subst e1
  exact h.two _ _ rfl
theorem Trl.inj {ns:List (List Int)} {s g:Int} {N:Nat} {Z:List Int} (h:Trl ns s g N Z):Z.Nodup:=by
 refine List.pairwise_iff_getElem.mpr fun i j hi hj hij e => ?_
 have a:=h.dst i Z[i] (List.getElem?_eq_getElem hi)
 have b:=h.dst j Z[j] (List.getElem?_eq_getElem hj)
 rw [<- e] at b
 have:=a.2.uniq b.2
 omega
theorem Trl.rng {m:Nat} {ns:List (List Int)} (O:Ok m ns) {s g:Int} (hs:0<=s/\s < m) {N:Nat} {Z:List Int} (h:Trl ns s g N Z):∀ v ∈ Z,0<=v/\v < m:=fun v hv=>by
 obtain ⟨i,e⟩:=List.mem_iff_getElem?.mp hv
 exact (h.dst i v e).2.1.rng O hs
theorem Way.last {ns:List (List Int)} {s g:Int} {N:Nat} {Z:List Int} (h:Way ns s g N Z):Z[N]? = some s:=by
 obtain ⟨x,ex⟩:∃ x,Z[N]? = some x:=⟨_,List.getElem?_eq_getElem (by have:=h.2; omega)⟩
 have a:=(h.1.dst N x ex).2
 rw [Nat.sub_self] at a
 rw [ex,a.1.zero]
theorem Way.two {ns:List (List Int)} {s g:Int} (ne:s ≠ g) {N:Nat} {Z:List Int} (h:Way ns s g N Z):2<=N:=by
 rcases N with _ | _ | N
 ·have a:=(h.1.dst 0 g h.1.hd).2
  exact absurd a.1.zero.symm ne
 ·have:=h.1.ch 0 g s h.1.hd h.last
  exact absurd this.2 (by simp)
 ·omega
theorem Way.ring {m:Nat} {ns:List (List Int)} (O:Ok m ns) {s g:Int} (ne:s ≠ g) (hs:0<=s/\s < m) (td:Td ns s g) {N:Nat} {Z:List Int} (h:Way ns s g N Z):Ring m ns Z:=by
 have h2:=h.two ne
 have lz:=h.2
 refine ⟨fun z=>by rw [z] at lz; simp at lz,h.1.inj,h.1.rng O hs,?_,fun x y e=>by rw [e] at lz; simp at lz; omega⟩
 ·have t1:Z.take 1=[g]:=by
   have:=h.1.hd
   cases Z with
   | nil=>cases this
   | cons a t=>cases this; rfl
  rw [t1]
  refine qe fun i x y e1 e2 => ?_
  rcases Nat.lt_or_ge (i + 1) Z.length with c | c
  ·rw [List.getElem?_append_left (by omega)] at e1 e2
   exact Td.symm _ _ ((gW O).mp (h.1.ch i x y e1 e2).1).2
  ·rw [List.getElem?_append_right (by omega)] at e2
   have:i + 1 - Z.length=0:=by
    rcases Nat.eq_zero_or_pos (i + 1 - Z.length) with z | z
    ·exact z
    ·rw [List.getElem?_eq_none (by simp; omega)] at e2; cases e2
   rw [this] at e2; cases e2
   rw [List.getElem?_append_left (by omega),show i=N by omega,h.last] at e1
   cases e1; exact td
def rot (ns:List Int) (k:Nat):List Int:=ns.drop k ++ ns.take k
def turn (ns:List Int):List Int:=ns.take 1 ++ (ns.drop 1).reverse
def gX (a b:List Int):List Int:=if HT.lexLt b a=true then b else a
def frm (ns:List Int) (M:Int):List Int:=gX (rot ns (ns.idxOf M)) (turn (rot ns (ns.idxOf M)))
theorem lV (xs:List V) {k:Nat} (h:k<=xs.length):eG xs none (some (k:Int))=xs.take k:=by
 unfold eG HT.sIx
 simp only [show ¬ ((k:Int) < 0) by omega,if_false,Int.toNat_natCast,Nat.sub_zero,List.drop_zero,show min k xs.length=k by omega]
theorem gY (xs:List V) {k:Nat} (h:k<=xs.length):eG xs (some (k:Int)) none=xs.drop k:=by
 unfold eG HT.sIx
 simp only [show ¬ ((k:Int) < 0) by omega,if_false,Int.toNat_natCast,show min k xs.length=k by omega]
 exact List.take_of_length_le (by rw [List.length_drop]; exact Nat.le_refl _)
abbrev qh:Sp:=fun vs H Q _=>∃ (p:Addr) (ns:List Int),vs=[.ref p]/\H p=some (.tup (ns.map V.int))/\ns ≠ []/\ns.length<=500/\∀ (z:Addr) (H':Hp) (M:Int),aA H H'->M ∈ ns->(∀ b ∈ ns,M<=b)->H' z=some (.tup ((frm ns M).map V.int))->Q (.ref z) H'
@[irreducible] def jk:Sp:=qh
theorem fQ {vs:List V} {H:Hp} {Q:VK} {E:XK}:jk vs H Q E ↔ qh vs H Q E:=by
 delta jk
 exact Iff.rfl
section
variable {P:Program} {w:World} {K:PySem.W.Frag} {mg:Str->Option Value} {base:Heap} {f T:Addr} {fd:FuncData}
theorem fR:aW ["ring", "at", "onward"] ["ring"] (au cP):=⟨rfl,rfl,rfl,by decide +kernel,rfl,by decide +kernel,by decide +kernel⟩
theorem oY (F:Fun K "ring_form" "ring_form" cP f fd) (B:Blt mg):cy P w K mg base CX0 1 f fd ["ring"] jk:=by
 refine F.ok fR (fun vs H Q E h => ?_) (fun cdv A outer s H vs Q E hr h => ?_)
 ·obtain ⟨_,_,rfl,_⟩:=fQ.mp h
  rfl
 obtain ⟨p,ns,rfl,ep,ne,l5,q⟩:=fQ.mp h
 refine ⟨_,(@ah _ _ _ _ _ (@aL _ _ 1 _ _ _ _ fR.nd rfl (Or.inl rfl) (oJ PySem.F.slot_tuple_index PySem.F.type_tuple_index rq (pv 0) (@aa _ _ _ _ _ (ak (oU rfl) rfl B.b_min dH (@aa _ _ _ _ _ (pv 0) af rfl)) af rfl)) rfl (by first | exact .inl rfl | exact .inr rfl | assumption))
  (@ah _ _ _ _ _ (@aL _ _ 2 _ _ _ _ fR.nd rfl (Or.inl rfl) (@aE _ _ _ _ _ _ _ _ i4 (bj bC rfl B.b_tuple dh (@aa _ _ _ _ _ (cb dy (pv 0) (cz (pv 1)) cK) af rfl)) (bj bC rfl B.b_tuple dh (@aa _ _ _ _ _ (cb dy (pv 0) cK (cz (pv 1))) af rfl))) rfl (by first | exact .inl rfl | exact .inr rfl | assumption))
  (@av _ _ _ (@aU _ _ _ _ (ak (oT rfl (hu8 hr)) rfl B.b_min dH (@aa _ _ _ _ _ (pv 2) (@aa _ _ _ _ _ (@aE _ _ _ _ _ _ _ _ i4 (cb dy (pv 2) cK (cz ai)) (rp hr.hd rfl B.b_tuple rfl B.b_reversed (cb dy (pv 2) (cz ai) cK))) af rfl) rfl)))))),?_⟩
 have lm:(ns.map V.int).length=ns.length:=List.length_map _
 refine ⟨_,rfl,⟨p,_,rfl,ep⟩,_,rfl,p,ns,rfl,SqT.of ep,ne,fun M hM mn=>⟨p,ns,M,rfl,rfl,ep,hM,?_⟩⟩
 have hk:ns.idxOf M<=ns.length:=Nat.le_of_lt (List.idxOf_lt_length_iff.mpr hM)
 have q:=fun z H'=>q z H' M
 unfold frm rot at q
 generalize ns.idxOf M=k at hk q
 refine ⟨_,rfl,_,rfl,_,rfl,p,_,rfl,ep,fun p1 H1 s1 e1=>⟨p1,_,rfl,.inr ⟨SqT.of e1,?_⟩⟩⟩
 rw [gY _ (by rw [lm]; exact hk), <- List.map_drop] at e1
 refine ⟨_,rfl,_,rfl,_,rfl,p,_,rfl,s1 _ _ ep,fun p2 H2 s2 e2=>⟨p2,_,rfl,.inr ⟨SqT.of e2,?_⟩⟩⟩
 rw [lV _ (by rw [lm]; exact hk), <- List.map_take] at e2
 refine ⟨p1,p2,_,_,rfl,rfl,s2 _ _ e1,e2,by rw [List.length_map,List.length_map,List.length_drop,List.length_take]; exact small (by omega),fun p3 H3 s3 e3 => ?_⟩
 rw [<- List.map_append] at e3
 have lo:(ns.drop k ++ ns.take k).length=ns.length:=by rw [List.length_append,List.length_drop,List.length_take]; omega
 generalize ns.drop k ++ ns.take k=os at e3 lo q
 have lom:(os.map V.int).length=os.length:=List.length_map _
 have po:=List.length_pos_iff.mpr ne
 refine ⟨_,rfl,_,rfl,1,rfl,p3,_,rfl,e3,fun p4 H4 s4 e4 => ?_⟩
 rw [show eG (os.map V.int) none (some 1)=(os.map V.int).take 1 from lV (k:=1) _ (by rw [lom]; omega), <- List.map_take] at e4
 refine ⟨_,rfl,1,rfl,p3,_,rfl,s4 _ _ e3,fun p5 H5 s5 e5 => ?_⟩
 rw [show eG (os.map V.int) (some 1) none=(os.map V.int).drop 1 from gY (k:=1) _ (by rw [lom]; omega), <- List.map_drop] at e5
 refine ⟨p5,_,rfl,SqT.of e5,by rw [List.length_map,List.length_drop]; omega,fun p6 hp6 => ?_⟩
 rw [<- List.map_reverse]
 have g6:=ae hp6 (.tup ((os.drop 1).reverse.map V.int))
 have ep6:upd H5 p6 (.tup ((os.drop 1).reverse.map V.int)) p6=some (.tup ((os.drop 1).reverse.map V.int)):=ag
 generalize upd H5 p6 (.tup ((os.drop 1).reverse.map V.int))=H6 at g6 ep6
 refine ⟨p4,p6,_,_,rfl,rfl,g6 _ _ (s5 _ _ e4),ep6,by rw [List.length_map,List.length_map,List.length_take,List.length_reverse,List.length_drop]; exact small (by omega),fun p7 H7 s7 e7 => ?_⟩
 rw [<- List.map_append] at e7
 have s47:=s4.trans (s5.trans (g6.trans s7))
 have sA:=s1.trans (s2.trans (s3.trans s47))
 refine ⟨p3,p7,os,_,rfl,SqT.of (s47 _ _ e3),SqT.of e7,fun z=>q p7 H7 sA hM mn ?_,fun z=>q p3 H7 sA hM mn ?_⟩
 ·rw [show gX os (turn os)=turn os by unfold gX; exact if_pos z]
  exact e7
 ·rw [show gX os (turn os)=os by unfold gX; exact if_neg (by show ¬ HT.lexLt (turn os) os=true; unfold turn; rw [z]; exact Bool.false_ne_true)]
  exact s47 _ _ e3
end
open PySem L2
def yl (σ:St) (H:Hp):Nat:=match σ with
 | _ :: _ :: _ :: _ :: some (.ref y) :: _=>match H y with
  | some (.lst (_ :: _))=>1
  | _=>0
 | _=>0
theorem vU {c0 c1 c2 c3:Option V} {y:Addr} {r:St} {H:Hp} {xs:List V} (e:H y=some (.lst xs)):yl (c0 :: c1 :: c2 :: c3 :: some (.ref y) :: r) H=if xs=[] then 0 else 1:=by
 unfold yl
 dsimp only
 rw [e]
 cases xs with
 | nil=>rfl
 | cons a t=>rfl
theorem jm {n:Nat} (h:n<=5000):n < sizeLine:=Nat.lt_of_le_of_lt h (by decide)
theorem iZ {ms:List Int} {i:Nat} {x:V} (e:(ms.map V.int)[i]? = some x):∃ n,ms[i]? = some n/\x = .int n:=by
 rw [List.getElem?_map] at e
 cases z:ms[i]? with
 | none=>rw [z] at e; cases e
 | some n=>rw [z] at e; exact ⟨n,rfl,(Option.some.inj e).symm⟩
theorem qi {H:Hp} {d:Addr} {kvs:List (Key × V)} (e:H d=some (.dK kvs)):tQ H d=kvs.length:=by unfold tQ; rw [e]
theorem qj {H:Hp} {d:Addr} {xs:List V} (e:H d=some (.lst xs)):vv H d=xs.length:=by unfold vv; rw [e]
theorem fA {l:List Int} {i:Nat} {x v:Int} (e:l[i]? = some x) (h:v ∈ l.take (i + 1)):v ∈ l.take i\/v=x:=by
 rw [List.take_add_one,e] at h
 rcases List.mem_append.mp h with z | z
 ·exact .inl z
 ·exact .inr (by simpa using z)
abbrev tX:Sp:=fun vs H Q _=>∃ (n:Addr) (m:Nat) (ns:List (List Int)) (os:List (Addr × List Int)) (s g:Int),vs=[.ref n,.int s,.int g]/\gS H n m ns os/\Ok m ns/\m<=400/\(0<=s/\s < m)/\s ≠ g/\(∀ H',aA H H'->(∀ k,¬ Wk (stp ns s g) s k g)->Q .non H')/\∀ (z:Addr) (H':Hp) (N:Nat) (Z:List Int),aA H H'->H' z=some (.tup (Z.map V.int))->Way ns s g N Z->Q (.ref z) H'
@[irreducible] def nH:Sp:=tX
theorem gZ {vs:List V} {H:Hp} {Q:VK} {E:XK}:nH vs H Q E ↔ tX vs H Q E:=by
 delta nH
 exact Iff.rfl
section
variable {P:Program} {w:World} {K:PySem.W.Frag} {mg:Str->Option Value} {base:Heap} {f T:Addr} {fd:FuncData}
theorem bH:aW ["near", "start", "goal", "came", "ready", "further", "place", "other", "way"] ["near", "start", "goal"] (au cq):=⟨rfl,rfl,rfl,by decide +kernel,rfl,by decide +kernel,by decide +kernel⟩
theorem oZ (F:Fun K "way_about" "way_about" cq f fd) (B:Blt mg):cy P w K mg base CX0 1 f fd ["near", "start", "goal"] nH:=by
 refine F.ok bH (fun vs H Q E h => ?_) (fun cdv A outer s H vs Q E hr h => ?_)
 ·obtain ⟨_,_,_,_,_,_,rfl,_⟩:=gZ.mp h
  rfl
 obtain ⟨n,m,ns,os,sa,gb,rfl,N,O,m4,hs,nsg,q0,q1⟩:=gZ.mp h
 have hu:(jw CX0 P w K mg base ["near", "start", "goal", "came", "ready", "further", "place", "other", "way"] "way_about" (au cq) f cdv A outer s H E).nox.A.units + 1 < cLine:=vK hr
 have kl:∀ {d:Nat} {C:List (Int × V)} {Y F:List Int},Rnd ns sa gb d C Y F->C.length<=m:=fun {d C Y F} I=>by
  have:=dX I.nd (m:=m) fun v hv=>by
   rcases (I.key v).mp hv with ⟨k,_,wk⟩ | z
   ·exact wk.rng O hs
   ·exact (I.fur v z).1.rng O hs
  rwa [List.length_map] at this
 refine cR ((aH cq).drop 3) (fun σ H'=>∃ (c5 c6 c7:Option V) (dd y:Addr) (d:Nat) (C:List (Int × V)) (Y:List Int),σ=[some (.ref n),some (.int sa),some (.int gb),some (.ref dd),some (.ref y),c5,c6,c7,none]/\H dd=none/\aA H H'/\H' dd=some (.dK (mp C))/\H' y=some (.lst (Y.map V.int))/\Rnd ns sa gb d C Y []/\(Y=[]\/gb ∈ C.map (·.1))) ?hT fun tT pT mT => ?gT
 case hT =>
  refine ⟨_,(@ah _ _ _ _ _ (@bQ _ _ _ _ _ _ _ _ (kR (fw hu (pv 2) (pv 3))) (@av _ _ _ (@aU _ _ _ _ fJ)) ba)
  (@ah _ _ _ _ _ (@aL _ _ 8 _ _ _ _ bH.nd rfl (Or.inl rfl) (@bY _ _ _ _ af) rfl (by first | exact .inl rfl | exact .inr rfl | assumption))
  (@ah _ _ _ _ _ (@aL _ _ 6 _ _ _ _ bH.nd rfl (Or.inl rfl) (pv 2) rfl (by first | exact .inl rfl | exact .inr rfl | assumption))
  (@ah _ _ _ _ _ (iy PassesOwn.never (aJ kY (pv 6) fJ (aR _))
   (@ah _ _ _ _ _ (bN (cW PySem.F.plainAttrs_list PySem.F.slot_list_append PySem.F.type_list_append bK (pv 8) (@aa _ _ _ _ _ (pv 6) af rfl)))
   (@av _ _ _ (@aL _ _ 6 _ _ _ _ bH.nd rfl (Or.inl rfl) (pQ hu (pv 3) (pv 6) (fun _ _=>rfl)) rfl (by first | exact .inl rfl | exact .inr rfl | assumption)))))
  (@av _ _ _ (@aU _ _ _ _ (bj bC rfl B.b_tuple dh (@aa _ _ _ _ _ (pv 8) af rfl)))))))),?_⟩
  rintro σ H' ⟨c5,c6,c7,dd,y,d,C,Y,rfl,hdd,s',ed,ey,I,h2⟩
  refine ⟨_,rfl,_,rfl,dd,_,rfl,eR.k (k:=Sum.inl gb) ed,_,rfl,?_⟩
  rw [qd]
  by_cases hg:gb ∈ C.map (·.1)
  ·rw [decide_eq_true hg]
   refine dj ⟨(by show 0<=sizeLine; decide),fun wy hwy => ?_⟩
   have g2:=ae hwy (.lst [])
   have ew:upd H' wy (.lst []) wy=some (.lst (([]:List Int).map V.int)):=ag
   have ed2:=g2 _ _ ed
   have hw0:=s'.free hwy
   have ndw:dd ≠ wy:=aB ed hwy
   have s2:=s'.trans g2
   generalize upd H' wy (.lst [])=H2 at g2 ew ed2 s2
   obtain ⟨NN,hN,dN⟩:=I.dst hg
   refine ⟨_,rfl,?_⟩
   refine iz (fun σ H'=>∃ (x:V) (W Z:List Int),σ=[some (.ref n),some (.int sa),some (.int gb),some (.ref dd),some (.ref y),c5,some x,c7,some (.ref wy)]/\aA H H'/\H' dd=some (.dK (mp C))/\H' wy=some (.lst (W.map V.int))/\Trl ns sa gb NN Z/\((∃ (p:Int) (k:Nat),x = .int p/\Z=W ++ [p]/\Dst (stp ns sa gb) sa k p/\k + W.length=NN)\/(x = .non/\Z=W/\Z.length=NN + 1)))
    (fun σ H'=>NN + 1 - vv H' wy) ⟨_,[],[gb],rfl,s2,ed2,ew,Trl.start dN,.inl ⟨gb,NN,rfl,rfl,dN,rfl⟩⟩ ?_ ?_
   ·rintro σ H3 ⟨x,W,Z,rfl,s3,ed3,ew3,tr,cs⟩
    have yw:=qj ew3
    rw [List.length_map] at yw
    rcases cs with ⟨p,k,rfl,rfl,dp,kW⟩ | ⟨rfl,rfl,lZ⟩
    ·refine ⟨_,rfl,rfl,_,rfl,cB ?_⟩
     refine ⟨_,rfl,.inl ⟨rfl,_,SqL.of ew3⟩,_,rfl,wy,_,_,rfl,rfl,ew3,by rw [List.length_map]; exact bW (by have:=dX tr.inj (tr.rng O hs); rw [List.length_append] at this; omega),?_⟩
     have ew4:upd H3 wy (.lst (W.map V.int ++ [.int p])) wy=some (.lst ((W ++ [p]).map V.int)):=by rw [ag,List.map_append]; rfl
     have ed4:upd H3 wy (.lst (W.map V.int ++ [.int p])) dd=some (.dK (mp C)):=by rw [aD ndw]; exact ed3
     have s4:=aA.bZ s3 hw0 (.lst (W.map V.int ++ [.int p]))
     generalize upd H3 wy (.lst (W.map V.int ++ [.int p]))=H4 at ew4 ed4 s4
     have y4:=qj ew4
     rw [List.length_map,List.length_append] at y4
     have y4':vv H4 wy=W.length + 1:=y4
     obtain ⟨x,hx,ex⟩:=tS ((I.key p).mpr (.inl ⟨k,by omega,dp.1⟩))
     refine ⟨_,rfl,_,rfl,dd,x,rfl,?_,⟨x,W ++ [p],?_⟩,by rw [yw,y4']; omega⟩
     ·have:=eR.k (k:=Sum.inl p) ed4
      rw [ex] at this
      exact this
     rcases I.ent _ hx with ⟨e1,e2⟩ | ⟨p',k',e2,d1,d2,st⟩
     ·have k0:k=0:=dp.uniq (b:=0) (by rw [show p=sa from e1]; exact ⟨.z,fun j hj=>absurd hj (Nat.not_lt_zero _)⟩)
      refine ⟨W ++ [p],rfl,s4,ed4,ew4,tr,.inr ⟨e2,rfl,by rw [List.length_append]; show W.length + 1=_; omega⟩⟩
     ·have kk:k=k' + 1:=dp.uniq d2
      refine ⟨W ++ [p] ++ [p'],rfl,s4,ed4,ew4,tr.add (by omega) d1 st,.inl ⟨p',k',e2,rfl,d1,by rw [List.length_append]; show k' + (W.length + 1)=_; omega⟩⟩
    ·refine ⟨_,rfl,rfl,_,rfl,dj ?_⟩
     refine ⟨_,rfl,wy,_,rfl,.inl ⟨SqL.of ew3,fun z hz=>q1 z _ NN Z (s3.trans (ae hz _)) ag ⟨tr,lZ⟩⟩⟩
   ·rintro σ H Q Q' h ⟨v,e,k,c,t,q⟩; exact ⟨v,e,k,c,t,h _ _ q⟩
  ·rw [decide_eq_false hg]
   have hY:Y=[]:=h2.resolve_right hg
   subst hY
   exact cB (q0 H' s' fun k wk=>hg (I.stop wk))
 case gT =>
 refine ⟨_,(@ah _ _ _ _ _ (@aL _ _ 3 _ _ _ _ bH.nd rfl (Or.inl rfl) (vf (sW (pv 1) fJ ve) rfl rfl (by simp) (by decide)) rfl (by first | exact .inl rfl | exact .inr rfl | assumption))
  (@ah _ _ _ _ _ (@aL _ _ 4 _ _ _ _ bH.nd rfl (Or.inl rfl) (@bY _ _ _ _ (@aa _ _ _ _ _ (pv 1) af rfl)) rfl (by first | exact .inl rfl | exact .inr rfl | assumption))
  (@ah _ _ _ _ _ (iy PassesOwn.never (PW.pt (rO (rY (pv 4) (fun _=>rfl)) (o8 (kR (fw hu (pv 2) (pv 3))))))
   (@ah _ _ _ _ _ (@aL _ _ 5 _ _ _ _ bH.nd rfl (Or.inl rfl) (@bY _ _ _ _ af) rfl (by first | exact .inl rfl | exact .inr rfl | assumption))
   (@ah _ _ _ _ _ (@cx _ _ _ _ _ _ _ _ PassesOwn.never rfl (@cw _ _ _ _ (pv 4)) (aj (i:=6) bH.nd rfl (Or.inl rfl))
    (@av _ _ _ (@cx _ _ _ _ _ _ _ _ PassesOwn.never rfl (@cw _ _ _ _ (@aQ _ _ _ _ _ _ _ cj (pv 0) (pv 6) (fun _ _=>rfl))) (aj (i:=7) bH.nd rfl (Or.inl rfl))
     (@av _ _ _ (@bQ _ _ _ _ _ _ _ _ (PW.pt (rO (kR (fw hu (pv 7) (pv 3))) (o8 (PW.pt (jK (aJ mq (pv 6) (pv 1) (aR _)) (kT (aJ mq (pv 7) (pv 2) (aR _)))))))) (@ah _ _ _ _ _ (lN hu (pv 3) (pv 7) (pv 6) rfl)
      (@av _ _ _ (bN (cW PySem.F.plainAttrs_list PySem.F.slot_list_append PySem.F.type_list_append bK (pv 5) (@aa _ _ _ _ _ (pv 7) af rfl))))) ba)) (fun _=>rfl))) (fun _=>rfl))
   (@av _ _ _ (@aL _ _ 4 _ _ _ _ bH.nd rfl (Or.inl rfl) (pv 5) rfl (by first | exact .inl rfl | exact .inr rfl | assumption))))))
  pT))),?_⟩
 refine fun dd hdd=>⟨_,rfl,ag,[(Sum.inl sa,.non)],rfl,(by show 1<=15; decide),?_⟩
 have e1d:upd (upd H dd (.dK [])) dd (.dK (eU [] [(Sum.inl sa,V.non)])) dd=some (.dK (mp [(sa,.non)])):=ag
 have s1:aA H (upd (upd H dd (.dK [])) dd (.dK (eU [] [(Sum.inl sa,V.non)]))):=fun b o e=>by
  rw [aD (aB e hdd),aD (aB e hdd)]; exact e
 generalize upd (upd H dd (.dK [])) dd (.dK (eU [] [(Sum.inl sa,V.non)]))=H1 at e1d s1
 refine ⟨_,rfl,(by show 1<=sizeLine; decide),fun y hy => ?_⟩
 have g2:=ae hy (.lst [.int sa])
 have e2y:upd H1 y (.lst [.int sa]) y=some (.lst (([sa]:List Int).map V.int)):=ag
 have e2d:=g2 _ _ e1d
 have s2:=s1.trans g2
 generalize upd H1 y (.lst [.int sa])=H2 at g2 e2y e2d s2
 refine iz (fun σ H'=>∃ (c5 c6 c7:Option V) (y:Addr) (d:Nat) (C:List (Int × V)) (Y:List Int),σ=[some (.ref n),some (.int sa),some (.int gb),some (.ref dd),some (.ref y),c5,c6,c7,none]/\aA H H'/\H' dd=some (.dK (mp C))/\H' y=some (.lst (Y.map V.int))/\Rnd ns sa gb d C Y [])
  (fun σ H'=>2 * (m - tQ H' dd) + yl σ H') ⟨_,_,_,y,0,_,_,rfl,s2,e2d,e2y,Rnd.start ns sa gb⟩ ?_ ?_
 ·rintro σ H' ⟨c5,c6,c7,y,d,C,Y,rfl,s',ed,ey,I⟩
  refine ⟨_,rfl, !(Y.map V.int).isEmpty,.inl ⟨_,SqL.of ey,rfl⟩,?_⟩
  by_cases hY:Y=[]
  ·have fin:=mT _ _ ⟨c5,c6,c7,dd,y,d,C,Y,rfl,hdd,s',ed,ey,I,.inl hY⟩
   subst hY
   exact dj fin
  rw [show (!(Y.map V.int).isEmpty)=true by cases Y with | nil=>exact absurd rfl hY | cons a t=>rfl]
  refine cB ⟨_,rfl,_,rfl,dd,_,rfl,eR.k (k:=Sum.inl gb) ed,_,rfl,?_⟩
  rw [qd]
  by_cases hg:gb ∈ C.map (·.1)
  ·rw [decide_eq_true hg]
   exact dj (mT _ _ ⟨c5,c6,c7,dd,y,d,C,Y,rfl,hdd,s',ed,ey,I,.inr hg⟩)
  rw [decide_eq_false hg]
  refine cB ⟨(by show 0<=sizeLine; decide),fun fu hfu => ?_⟩
  have hf0:=s'.free hfu
  have g3:=ae hfu (.lst [])
  have ef:upd H' fu (.lst []) fu=some (.lst (([]:List Int).map V.int)):=ag
  have ed3:=g3 _ _ ed
  have ey3:=g3 _ _ ey
  have ndf:dd ≠ fu:=aB ed hfu
  have nyf:y ≠ fu:=aB ey hfu
  have s3:=s'.trans g3
  have nyd:y ≠ dd:=fT ey ed (by intro z; cases z)
  have mu0:2 * (m - tQ H' dd) + yl [some (.ref n),some (.int sa),some (.int gb),some (.ref dd),some (.ref y),c5,c6,c7,none] H'=2 * (m - C.length) + 1:=by
   rw [qi ed,lT,vU ey,if_neg (by simpa using hY)]
  rw [mu0]
  generalize upd H' fu (.lst [])=H3 at g3 ef ed3 ey3 s3
  have kC:=kl I
  refine ⟨_,rfl,y,rfl,⟨_,SqL.of ey3⟩,fV (xs:=Y.map V.int) (fun i σ H4=>∃ (c6 c7:Option V) (C4:List (Int × V)) (F4:List Int),σ=[some (.ref n),some (.int sa),some (.int gb),some (.ref dd),some (.ref y),some (.ref fu),c6,c7,none]/\aA H H4/\H4 dd=some (.dK (mp C4))/\H4 y=some (.lst (Y.map V.int))/\H4 fu=some (.lst (F4.map V.int))/\Rnd ns sa gb d C4 Y F4/\C4.length=C.length + F4.length/\∀ p ∈ Y.take i,∀ o,stp ns sa gb p o->o ∈ C4.map (·.1))
   ⟨_,_,C,[],rfl,s3,ed3,ey3,ef,I,rfl,fun p hp=>by simp at hp⟩ (fun i σ H4 _ z => ?_) ?_ ?_⟩
  ·obtain ⟨_,_,_,_,_,_,_,e,_⟩:=z
   exact SqL.of e
  ·rintro i x σ H4 hx ⟨c6,c7,C4,F4,rfl,s4,ed4,ey4,ef4,I4,l4,cl4⟩
   obtain ⟨p,ep,rfl⟩:=iZ hx
   have pY:=List.mem_of_getElem? ep
   have pr:=((I4.rdy p).mp pY).1.rng O hs
   obtain ⟨pn,rfl⟩:∃ k:Nat,p=k:=⟨p.toNat,by omega⟩
   have N4:=N.same s4
   have pl:pn < os.length:=by rw [N.len]; omega
   obtain ⟨uu,eu⟩:∃ u,os[pn]? = some u:=⟨_,List.getElem?_eq_getElem pl⟩
   have rowu:=N4.row _ (List.mem_of_getElem? eu)
   have isu:=N.is pn _ eu
   refine ⟨_,rfl,_,rfl,n,_,(pn:Int),_,rfl,rfl,SqL.of N4.at',cM (by rw [List.getElem?_map,eu]; rfl),uu.1,rfl,⟨_,SqL.of rowu⟩,fV (xs:=uu.2.map V.int)
    (fun j σ H5=>∃ (c7:Option V) (C5:List (Int × V)) (F5:List Int),σ=[some (.ref n),some (.int sa),some (.int gb),some (.ref dd),some (.ref y),some (.ref fu),some (.int pn),c7,none]/\aA H H5/\H5 dd=some (.dK (mp C5))/\H5 y=some (.lst (Y.map V.int))/\H5 fu=some (.lst (F5.map V.int))/\Rnd ns sa gb d C5 Y F5/\C5.length=C.length + F5.length/\(∀ p ∈ Y.take i,∀ o,stp ns sa gb p o->o ∈ C5.map (·.1))/\∀ o ∈ uu.2.take j,stp ns sa gb pn o->o ∈ C5.map (·.1))
    ⟨_,C4,F4,rfl,s4,ed4,ey4,ef4,I4,l4,cl4,fun o ho=>by simp at ho⟩ (fun j σ H5 _ z => ?_) ?_ ?_⟩
   ·obtain ⟨_,_,_,_,s5,_⟩:=z
    exact SqL.of ((N.same s5).row _ (List.mem_of_getElem? eu))
   ·rintro j x σ H5 hx ⟨c7,C5,F5,rfl,s5,ed5,ey5,ef5,I5,l5,cl5,tk5⟩
    obtain ⟨o,eo,rfl⟩:=iZ hx
    have ao:Adj ns pn o:=(isu o).mp (List.mem_of_getElem? eo)
    refine ⟨_,rfl,_,rfl,dd,_,rfl,eR.k (k:=Sum.inl o) ed5,_,rfl,?_⟩
    rw [qd]
    by_cases ho:o ∈ C5.map (·.1)
    ·rw [decide_eq_true ho]
     refine dj (dj ⟨_,C5,F5,rfl,s5,ed5,ey5,ef5,I5,l5,cl5,fun o' h' st => ?_⟩)
     rcases fA eo h' with z | z
     ·exact tk5 o' z st
     ·rw [z]; exact ho
    rw [decide_eq_false ho]
    have k5:=kl I5
    have hd:lK H5 dd (.int o) (.int pn) (upd H5 dd (.dK (putK (mp C5) (Sum.inl o) (.int pn)))):=lK.k (k:=Sum.inl o) ed5 (by rw [lT]; exact jm (by omega))
    rw [tW ho] at hd
    have ed6:upd H5 dd (.dK (mp (C5 ++ [(o,.int pn)]))) dd=some (.dK (mp (C5 ++ [(o,.int pn)]))):=ag
    have ef6:upd H5 dd (.dK (mp (C5 ++ [(o,.int pn)]))) fu=some (.lst (F5.map V.int)):=by rw [aD (Ne.symm ndf)]; exact ef5
    have ey6:upd H5 dd (.dK (mp (C5 ++ [(o,.int pn)]))) y=some (.lst (Y.map V.int)):=by rw [aD nyd]; exact ey5
    have s6:=aA.bZ s5 hdd (.dK (mp (C5 ++ [(o,.int pn)])))
    generalize upd H5 dd (.dK (mp (C5 ++ [(o,.int pn)])))=H6 at hd ed6 ef6 ey6 s6
    have fin:stp ns sa gb pn o->∃ (c7:Option V) (C5:List (Int × V)) (F5':List Int),[some (.ref n),some (.int sa),some (.int gb),some (.ref dd),some (.ref y),some (.ref fu),some (.int pn),some (.int o),none]=[some (.ref n),some (.int sa),some (.int gb),some (.ref dd),some (.ref y),some (.ref fu),some (.int pn),c7,none]/\aA H (upd H6 fu (.lst (F5.map V.int ++ [.int o])))/\(upd H6 fu (.lst (F5.map V.int ++ [.int o]))) dd=some (.dK (mp C5))/\(upd H6 fu (.lst (F5.map V.int ++ [.int o]))) y=some (.lst (Y.map V.int))/\(upd H6 fu (.lst (F5.map V.int ++ [.int o]))) fu=some (.lst (F5'.map V.int))/\Rnd ns sa gb d C5 Y F5'/\C5.length=C.length + F5'.length/\(∀ p ∈ Y.take i,∀ o,stp ns sa gb p o->o ∈ C5.map (·.1))/\∀ o ∈ uu.2.take (j + 1),stp ns sa gb pn o->o ∈ C5.map (·.1):=fun st=>by
     refine ⟨_,C5 ++ [(o,.int pn)],F5 ++ [o],rfl,aA.bZ s6 hf0 _,by rw [aD ndf]; exact ed6,by rw [aD nyf]; exact ey6,by rw [ag,List.map_append]; rfl,I5.add pY st ho,by rw [List.length_append,List.length_append,l5]; rfl,fun p' hp' o' st' => ?_,fun o' h' st' => ?_⟩
     ·rw [List.map_append]; exact List.mem_append_left _ (cl5 p' hp' o' st')
     ·rw [List.map_append]
      rcases fA eo h' with z | z
      ·exact List.mem_append_left _ (tk5 o' z st')
      ·rw [z]; exact List.mem_append_right _ (by simp)
    have lf:F5.length<=400:=by omega
    refine cB ⟨_,rfl,_,rfl,rfl,_,rfl,gc (fun z => ?_) fun z=>⟨_,rfl,_,rfl,rfl,_,rfl,gc (fun z2 => ?_) fun z2 => ?_⟩⟩
    ·have h1:(pn:Int) ≠ sa:=by simpa using z
     exact cB ⟨_,rfl,_,rfl,_,rfl,dd,_,rfl,hd,_,rfl,.inl ⟨rfl,_,SqL.of ef6⟩,_,rfl,fu,_,_,rfl,rfl,ef6,by rw [List.length_map]; exact jm (by omega),fin ⟨ao,.inl h1⟩⟩
    ·have h1:o ≠ gb:=by simpa using z2
     exact ⟨_,rfl,_,rfl,_,rfl,dd,_,rfl,hd,_,rfl,.inl ⟨rfl,_,SqL.of ef6⟩,_,rfl,fu,_,_,rfl,rfl,ef6,by rw [List.length_map]; exact jm (by omega),fin ⟨ao,.inr h1⟩⟩
    ·refine ⟨_,C5,F5,rfl,s5,ed5,ey5,ef5,I5,l5,cl5,fun o' h' st => ?_⟩
     rcases fA eo h' with y' | y'
     ·exact tk5 o' y' st
     ·subst y'
      have h1:(pn:Int)=sa:=by simpa using z
      have h2:o'=gb:=by simpa using z2
      exact absurd st.2 (by simp [h1,h2])
   ·rintro σ H5 ⟨c7,C5,F5,rfl,s5,ed5,ey5,ef5,I5,l5,cl5,tk5⟩
    rw [List.length_map,List.take_of_length_le (Nat.le_refl _)] at tk5
    refine ⟨_,_,C5,F5,rfl,s5,ed5,ey5,ef5,I5,l5,fun p' hp' o st => ?_⟩
    rcases fA ep hp' with z | z
    ·exact cl5 p' z o st
    ·subst z
     exact tk5 o ((isu o).mpr st.1) st
  ·rintro σ H4 ⟨c6,c7,C4,F4,rfl,s4,ed4,ey4,ef4,I4,l4,cl4⟩
   rw [List.length_map,List.take_of_length_le (Nat.le_refl _)] at cl4
   have I5:=I4.next cl4
   have k4:=kl I4
   refine ⟨_,rfl,⟨_,_,_,fu,d + 1,C4,F4,rfl,s4,ed4,ef4,I5⟩,?_⟩
   show 2 * (m - tQ H4 dd) + yl [some (.ref n),some (.int sa),some (.int gb),some (.ref dd),some (.ref fu),some (.ref fu),c6,c7,none] H4 < _
   rw [qi ed4,lT,vU ef4]
   by_cases hF:F4=[]
   ·subst hF; rw [if_pos (show List.map V.int []=[] from rfl),l4]; show 2 * (m - (C.length + 0)) + 0 < _; omega
   ·rw [if_neg (by simpa using hF),l4]
    have:=List.length_pos_iff.mpr hF
    omega
 ·rintro σ H Q Q' h ⟨v,e,k,t,q⟩
  refine ⟨v,e,k,t,?_⟩
  cases k with
  | false=>exact h _ _ q
  | true =>
   obtain ⟨v,e,v2,e2,a,o,e3,g,c,e4,q⟩:=q
   exact ⟨v,e,v2,e2,a,o,e3,g,c,e4,h _ _ q⟩
end
open PySem L2
def gx (ns:List (List Int)) (a b:Int):Prop:=a ≠ b/\ns.count [a,b] < 2/\∀ k,¬ Wk (stp ns a b) a k b
def Al (ns:List (List Int)) (a b:Int) (Z:List Int):Prop:=(a=b/\Z=[a])\/(a ≠ b/\2<=ns.count [a,b]/\Z=[a,b])\/(a ≠ b/\ns.count [a,b] < 2/\∃ N,Way ns a b N Z)
theorem kI {H:Hp} {r:Addr} {m:Nat} {ts:List (Addr × List Int)} (W:Wb H r m ts):Ok m (ts.map (·.2)):=fun p hp=>by
 obtain ⟨u,hu,rfl⟩:=List.mem_map.mp hp
 exact W.pr u hu
theorem Al.ring {m:Nat} {ns:List (List Int)} (O:Ok m ns) {a b:Int} (hp:[a,b] ∈ ns) {Z:List Int} (h:Al ns a b Z):Ring m ns Z:=by
 obtain ⟨_,_,e,a0,ab,bm⟩:=O _ hp
 cases e
 rcases h with ⟨rfl,rfl⟩ | ⟨ne,c2,rfl⟩ | ⟨ne,c2,N,w⟩
 ·refine ⟨by simp,by simp,fun v hv => ?_,?_,fun x y e=>by simp at e⟩
  ·rw [List.mem_singleton] at hv; subst hv; exact ⟨a0,bm⟩
  ·show nrm a a ∈ ns/\True
   rw [bA ab]; exact ⟨hp,trivial⟩
 ·refine ⟨by simp,by simp [ne],fun v hv => ?_,?_,fun x y e => ?_⟩
  ·rcases List.mem_cons.mp hv with z | z
   ·subst z; exact ⟨a0,by omega⟩
   ·rw [List.mem_singleton] at z; subst z; exact ⟨by omega,bm⟩
  ·show nrm a b ∈ ns/\nrm b a ∈ ns/\True
   rw [cc b a,bA ab]; exact ⟨hp,hp,trivial⟩
  ·cases e; rw [bA ab]; exact c2
 ·exact w.ring O ne ⟨a0,by omega⟩ (by unfold Td; rw [bA ab]; exact hp)
abbrev nI:Sp:=fun vs H Q _=>∃ (r n t:Addr) (m:Nat) (ts os:List (Addr × List Int)) (a b:Int),vs=[.ref r,.ref n,.ref t]/\Wb H r m ts/\gS H n m (ts.map (·.2)) os/\m<=400/\H t=some (.tup [.int a,.int b])/\[a,b] ∈ ts.map (·.2)/\(∀ H',aA H H'->gx (ts.map (·.2)) a b->Q .non H')/\∀ (z:Addr) (H':Hp) (Z:List Int),aA H H'->H' z=some (.tup (Z.map V.int))->Al (ts.map (·.2)) a b Z->Q (.ref z) H'
@[irreducible] def gy:Sp:=nI
theorem eX {vs:List V} {H:Hp} {Q:VK} {E:XK}:gy vs H Q E ↔ nI vs H Q E:=by
 delta gy
 exact Iff.rfl
section
variable {P:Program} {w:World} {K:PySem.W.Frag} {mg:Str->Option Value} {base:Heap} {f T:Addr} {fd:FuncData}
theorem nJ:aW ["web", "near", "tie"] ["web", "near", "tie"] (au cE):=⟨rfl,rfl,rfl,by decide +kernel,rfl,by decide +kernel,by decide +kernel⟩
theorem nK (F:Fun K "ring_along" "ring_along" cE f fd) (B:Blt mg) (cWayAbout:Cal P w K mg base 1 "way_about" ["near", "start", "goal"] nH) (cTiedTimes:Cal P w K mg base 2 "tied_times" ["web", "one", "other"] dz):cy P w K mg base CX0 3 f fd ["web", "near", "tie"] gy:=by
 refine F.ok nJ (fun vs H Q E h => ?_) (fun cdv A outer s H vs Q E hr h => ?_)
 ·obtain ⟨_,_,_,_,_,_,_,_,rfl,_⟩:=eX.mp h
  rfl
 obtain ⟨r,n,t,m,ts,os,a,b,rfl,W,N,m4,et,hp,q0,q1⟩:=eX.mp h
 refine ⟨_,(@ah _ _ _ _ _ (@bQ _ _ _ _ _ _ _ _ (aJ eF (@aQ _ _ _ _ _ _ _ aV (pv 2) ai (fun _ _=>rfl)) (@aQ _ _ _ _ _ _ _ aV (pv 2) ai (fun _ _=>rfl)) (aR _)) (@av _ _ _ (@aU _ _ _ _ (@bO _ _ _ _ _ (@aa _ _ _ _ _ (@aQ _ _ _ _ _ _ _ aV (pv 2) ai (fun _ _=>rfl)) af rfl)))) ba)
  (@ah _ _ _ _ _ (@bQ _ _ _ _ _ _ _ _ (aJ rW (bM cTiedTimes hr (by decide) rfl (@aa _ _ _ _ _ (pv 0) (@aa _ _ _ _ _ (@aQ _ _ _ _ _ _ _ aV (pv 2) ai (fun _ _=>rfl)) (@aa _ _ _ _ _ (@aQ _ _ _ _ _ _ _ aV (pv 2) ai (fun _ _=>rfl)) af rfl) rfl) rfl)) ai (aR _)) (@av _ _ _ (@aU _ _ _ _ (pv 2))) ba)
  (@av _ _ _ (@aU _ _ _ _ (bM cWayAbout hr (by decide) rfl (@aa _ _ _ _ _ (pv 1) (@aa _ _ _ _ _ (@aQ _ _ _ _ _ _ _ aV (pv 2) ai (fun _ _=>rfl)) (@aa _ _ _ _ _ (@aQ _ _ _ _ _ _ _ aV (pv 2) ai (fun _ _=>rfl)) af rfl) rfl) rfl)))))),?_⟩
 have O:=kI W
 obtain ⟨_,_,e,a0,ab,bm⟩:=O _ hp
 cases e
 refine ⟨_,rfl,t,_,0,_,rfl,rfl,SqT.of et,rfl,_,rfl,t,_,1,_,rfl,rfl,SqT.of et,rfl,rfl,_,rfl,gc (fun z => ?_) fun z => ?_⟩
 ·have eq:a=b:=by simpa using z
  exact ⟨_,rfl,t,_,0,_,rfl,rfl,SqT.of et,rfl,(by show 1<=sizeLine; decide),fun z hz=>q1 z _ [a] (ae hz _) ag (.inl ⟨eq,rfl⟩)⟩
 have ne:a ≠ b:=by simpa using z
 refine ⟨_,rfl,_,rfl,t,_,0,_,rfl,rfl,SqT.of et,rfl,_,rfl,t,_,1,_,rfl,rfl,SqT.of et,rfl,bU.mpr ⟨r,m,a,b,ts,rfl,W,fun H1 s1 => ?_⟩⟩
 rw [bA ab]
 refine ⟨_,_,rfl,rfl,_,rfl,gc (fun z => ?_) fun z => ?_⟩
 ·have c2:2<=(ts.map (·.2)).count [a,b]:=by have z':=of_decide_eq_true z; omega
  exact ⟨_,rfl,q1 t H1 [a,b] s1 (s1 _ _ et) (.inr (.inl ⟨ne,c2,rfl⟩))⟩
 have c2:(ts.map (·.2)).count [a,b] < 2:=by have z':=of_decide_eq_false (eq_false_of_ne_true z); omega
 refine ⟨_,rfl,_,rfl,t,_,0,_,rfl,rfl,SqT.of (s1 _ _ et),rfl,_,rfl,t,_,1,_,rfl,rfl,SqT.of (s1 _ _ et),rfl,gZ.mpr ⟨n,m,_,os,a,b,rfl,N.same s1,O,m4,⟨a0,by omega⟩,ne,fun H2 s2 no=>q0 H2 (s1.trans s2) ⟨ne,c2,no⟩,fun z H2 NN Z s2 ez w=>q1 z H2 Z (s1.trans s2) ez (.inr (.inr ⟨ne,c2,NN,w⟩))⟩⟩
end
def enc:Option (Addr × List Int)->V
 | none => .non
 | some u => .ref u.1
def keep (ws:List (Option (Addr × List Int))):List (Addr × List Int):=ws.filterMap id
theorem gz {ws:List (Option (Addr × List Int))} {u:Addr × List Int}:u ∈ keep ws ↔ some u ∈ ws:=by
 unfold keep
 rw [List.mem_filterMap]
 exact ⟨fun ⟨a,h,e⟩=>by rw [<- show a=some u from e]; exact h,fun h=>⟨some u,h,rfl⟩⟩
abbrev nL:Sp:=fun vs H Q _=>∃ (l:Addr) (ws:List (Option (Addr × List Int))),vs=[.ref l]/\H l=some (.lst (ws.map enc))/\(∀ u,some u ∈ ws->H u.1=some (.tup (u.2.map V.int)))/\ws.length<=1000/\(∀ H',aA H H'->(∀ x ∈ ws,x=none)->Q .non H')/\∀ (u:Addr × List Int) (H':Hp),aA H H'->some u ∈ ws->(∀ v,some v ∈ ws->u.2.length<=v.2.length)->Q (.ref u.1) H'
@[irreducible] def gC:Sp:=nL
theorem eY {vs:List V} {H:Hp} {Q:VK} {E:XK}:gC vs H Q E ↔ nL vs H Q E:=by
 delta gC
 exact Iff.rfl
section
variable {P:Program} {w:World} {K:PySem.W.Frag} {mg:Str->Option Value} {base:Heap} {f T:Addr} {fd:FuncData}
theorem lW:aW ["ways"] ["ways"] (au cu):=⟨rfl,rfl,rfl,by decide +kernel,rfl,by decide +kernel,by decide +kernel⟩
theorem hE:(["way"]:List Str).Nodup:=by decide +kernel
theorem lX (F:Fun K "shortest_of" "shortest_of" cu f fd) (B:Blt mg):cy P w K mg base CX0 1 f fd ["ways"] gC:=by
 refine F.ok lW (fun vs H Q E h => ?_) (fun cdv A outer s H vs Q E hr h => ?_)
 ·obtain ⟨_,_,rfl,_⟩:=eY.mp h
  rfl
 obtain ⟨l,ws,rfl,el,tu,l9,q0,q1⟩:=eY.mp h
 refine ⟨_,(@av _ _ _ (@aU _ _ _ _ (rB rfl rfl B.b_min rfl B.b_len dH (dr ["way"] [none] rfl (@cw _ _ _ _ (pv 0)) rfl (fun _ _ _ _ _=>(aj (i:=0) hE rfl (Or.inl rfl))) (fun _ _ _ _ _=>(sg (aJ kY (pv 0) fJ (aR _)))) (fun _ _ _ _ _=>(pv 0)))))),?_⟩
 refine ⟨_,rfl,l,rfl,⟨_,SqL.of el⟩,cZ (xs:=ws.map enc) (fun i ys H'=>H'=H/\ys=(keep (ws.take i)).map fun u => .ref u.1) ⟨rfl,rfl⟩ (by rw [List.length_map]; exact small l9) (fun i ys H' _ z=>by rw [z.1]; exact SqL.of el) ?_ ?_⟩
 ·rintro i x ys H3 hx hy ⟨eH,rfl⟩ R1 R0 r1 r0
  rw [List.getElem?_map] at hx
  cases z:ws[i]? with
  | none=>rw [z] at hx; cases hx
  | some o =>
   rw [z] at hx
   have hx:enc o=x:=Option.some.inj hx
   subst hx
   cases o with
   | none =>
    refine ⟨_,rfl,rfl,_,rfl,dj (r0 _ ⟨eH,?_⟩)⟩
    unfold keep
    rw [List.take_add_one,z,List.filterMap_append]
    show _=((ws.take i).filterMap id ++ []).map _
    rw [List.append_nil]
   | some u =>
    refine ⟨_,rfl,rfl,_,rfl,cB ⟨_,rfl,r1 _ _ ⟨eH,?_⟩⟩⟩
    unfold keep
    rw [List.take_add_one,z,List.filterMap_append,List.map_append]; rfl
 ·rintro ys H3 hy ⟨eH,rfl⟩ l2 hl2
  rw [eH] at hl2 ⊢
  rw [List.length_map,List.take_of_length_le (Nat.le_refl _)]
  have g2:=ae hl2 (.lst ((keep ws).map fun u => .ref u.1))
  refine ⟨l2,keep ws,rfl,SqL.of ag,fun t ht=>SqT.of (g2 _ _ (tu t (gz.mp ht))),fun z=>q0 _ g2 fun x hx => ?_,fun t ht mn=>q1 t _ g2 (gz.mp ht) fun v hv=>mn v (gz.mpr hv)⟩
  cases x with
  | none=>rfl
  | some u =>
   have:=gz.mpr hx
   rw [z] at this; cases this
end
open PySem L2
def xA (ns:List (List Int)) (p:List Int) (o:Option (Addr × List Int)):Prop:=∀ a b:Int,p=[a,b]->(o=none/\gx ns a b)\/∃ u,o=some u/\Al ns a b u.2
abbrev tY:Sp:=fun vs H Q _=>∃ (r t:Addr) (m:Nat) (ts us:List (Addr × List Int)),vs=[.ref r,.ref t]/\Wb H r m ts/\m<=400/\(H t=some (.lst (us.map fun u => .ref u.1))\/H t=some (.tup (us.map fun u => .ref u.1)))/\(∀ u ∈ us,u ∈ ts)/\us.length<=200/\(∀ H',aA H H'->(∀ u ∈ us,∀ a b,u.2=[a,b]->gx (ts.map (·.2)) a b)->Q .non H')/\∀ (z:Addr) (H':Hp) (Z:List Int) (M:Int),aA H H'->H' z=some (.tup ((frm Z M).map V.int))->M ∈ Z->(∀ b ∈ Z,M<=b)->(∃ u ∈ us,∃ a b,u.2=[a,b]/\Al (ts.map (·.2)) a b Z)->(∀ u ∈ us,∀ a b,u.2=[a,b]->gx (ts.map (·.2)) a b\/∃ Z',Al (ts.map (·.2)) a b Z'/\Z.length<=Z'.length)->Q (.ref z) H'
@[irreducible] def nM:Sp:=tY
theorem hJ {vs:List V} {H:Hp} {Q:VK} {E:XK}:nM vs H Q E ↔ tY vs H Q E:=by
 delta nM
 exact Iff.rfl
section
variable {P:Program} {w:World} {K:PySem.W.Frag} {mg:Str->Option Value} {base:Heap} {f T:Addr} {fd:FuncData}
theorem eB:aW ["web", "ties", "near", "least"] ["web", "ties"] (au cv):=⟨rfl,rfl,rfl,by decide +kernel,rfl,by decide +kernel,by decide +kernel⟩
theorem dk:(["tie", "web", "near"]:List Str).Nodup:=by decide +kernel
theorem lY (F:Fun K "least_along" "least_along" cv f fd) (B:Blt mg) (cNearLists:Cal P w K mg base 1 "near_lists" ["web"] gw) (cShortestOf:Cal P w K mg base 1 "shortest_of" ["ways"] gC) (cRingForm:Cal P w K mg base 1 "ring_form" ["ring"] jk) (cRingAlong:Cal P w K mg base 3 "ring_along" ["web", "near", "tie"] gy):cy P w K mg base CX0 4 f fd ["web", "ties"] nM:=by
 refine F.ok eB (fun vs H Q E h => ?_) (fun cdv A outer s H vs Q E hr h => ?_)
 ·obtain ⟨_,_,_,_,_,rfl,_⟩:=hJ.mp h
  rfl
 obtain ⟨r,t,m,ts,us,rfl,W,m4,ht,hin,l2,q0,q1⟩:=hJ.mp h
 refine ⟨_,(@ah _ _ _ _ _ (@aL _ _ 2 _ _ _ _ eB.nd rfl (Or.inr rfl) (bM cNearLists hr (by decide) rfl (@aa _ _ _ _ _ (pv 0) af rfl)) rfl (by first | exact .inl rfl | exact .inr rfl | assumption))
  (@ah _ _ _ _ _ (@aL _ _ 3 _ _ _ _ eB.nd rfl (Or.inl rfl) (bM cShortestOf hr (by decide) rfl (@aa _ _ _ _ _ (dr ["tie", "web", "near"] [none,some 0,some 2] rfl (@cw _ _ _ _ (ak (eO (w:=w) rfl hr.hd) rfl B.b_sorted cQ (@aa _ _ _ _ _ (bj (iR (w:=w) rfl hr.hd hr.units) rfl B.b_set tM (@aa _ _ _ _ _ (pv 1) af rfl)) af rfl))) rfl (fun _ _ _ _ _=>(aj (i:=0) dk rfl (Or.inl rfl))) (fun _ _ _ _ _=>cX) (fun _ _ _ _ _=>(bM cRingAlong hr (by decide) rfl (@aa _ _ _ _ _ (pv 1) (@aa _ _ _ _ _ (pv 2) (@aa _ _ _ _ _ (pv 0) af rfl) rfl) rfl)))) af rfl)) rfl (by first | exact .inl rfl | exact .inr rfl | assumption))
  (@ah _ _ _ _ _ (@bQ _ _ _ _ _ _ _ _ (aJ wq (pv 3) fJ (aR _)) (@av _ _ _ (@aU _ _ _ _ fJ)) ba)
  (@av _ _ _ (@aU _ _ _ _ (bM cRingForm hr (by decide) rfl (@aa _ _ _ _ _ (pv 3) af rfl))))))),?_⟩
 have O:=kI W
 refine ⟨_,rfl,eW.mpr ⟨r,m,ts,rfl,W,by omega,by omega,fun n H1 os s1 en lo ro iso => ?_⟩⟩
 have NA:gS H1 n m (ts.map (·.2)) os:=⟨en,by rw [lo]; omega,ro,fun j u e=>(iso j u e).2⟩
 have tu1:∀ u ∈ us,H1 u.1=some (.tup (u.2.map V.int)):=fun u hu=>s1 _ _ (W.tup u (hin u hu))
 refine ⟨_,rfl,t,us,rfl,ht.elim (fun z => .inl (SqL.of (s1 _ _ z))) (fun z => .inr (SqT.of (s1 _ _ z))),fun u hu=>SqT.of (tu1 u hu),by omega,fun a ss hna mu ndu cov hlu => ?_⟩
 have ga:=ae hna (dD w a (ss.map fun t => .ref t.1))
 refine ⟨a,ss,rfl,ag,fun u hu=>⟨SqT.of (ga _ _ (tu1 u (mu u hu))),fun z => ?_⟩,by omega,fun l out hl pm ps => ?_⟩
 ·obtain ⟨x,y,e,_⟩:=W.pr u (hin u (mu u hu))
  rw [z] at e; cases e
 have gl:=ga.trans (ae hl (.lst (out.map fun t => .ref t.1)))
 have el:upd (upd H1 a (dD w a (ss.map fun t => .ref t.1))) l (.lst (out.map fun t => .ref t.1)) l=some (.lst (out.map fun t => .ref t.1)):=ag
 generalize upd (upd H1 a (dD w a (ss.map fun t => .ref t.1))) l (.lst (out.map fun t => .ref t.1))=H2 at gl el
 have s2:=s1.trans gl
 have lo2:out.length<=200:=by rw [pm.length_eq]; omega
 have oin:∀ u ∈ out,u ∈ us:=fun u hu=>mu u (pm.mem_iff.mp hu)
 refine ⟨l,rfl,⟨_,SqL.of el⟩,cZ (xs:=out.map fun u => .ref u.1) (fun i ys H'=>aA H2 H'/\∃ ws:List (Option (Addr × List Int)),ys=ws.map enc/\ws.length=i/\(∀ u,some u ∈ ws->H' u.1=some (.tup (u.2.map V.int)))/\∀ (k:Nat) u o,out[k]? = some u->ws[k]? = some o->xA (ts.map (·.2)) u.2 o) ⟨aA.refl _,[],rfl,rfl,fun u h=>by (cases h),fun k u o _ e=>by simp at e⟩ (by rw [List.length_map]; exact small (by omega)) (fun i ys H' _ z=>SqL.of (z.1 _ _ el)) ?_ ?_⟩
 ·rintro i x ys H3 hx hy ⟨s3,ws,rfl,lw,tw,tl⟩ R1 R0 r1 r0
  obtain ⟨u,eu,rfl⟩:=item hx
  have uin:=hin u (oin u (List.mem_of_getElem? eu))
  obtain ⟨x,y,exy,_⟩:=W.pr u uin
  have s23:=s2.trans s3
  have eu3:H3 u.1=some (.tup [.int x,.int y]):=by rw [s23 _ _ (W.tup u uin),exy]; rfl
  have up:∀ (o:Option (Addr × List Int)) (H4:Hp),aA H3 H4->(∀ v,o=some v->H4 v.1=some (.tup (v.2.map V.int)))->xA (ts.map (·.2)) u.2 o->R1 (enc o) H4:=fun o H4 s4 ho hT=>by
   refine r1 _ _ ⟨s3.trans s4,ws ++ [o],by rw [List.map_append]; rfl,by rw [List.length_append,lw]; rfl,fun v hv => ?_,fun k v p e1 e2 => ?_⟩
   ·rcases List.mem_append.mp hv with z | z
    ·exact s4 _ _ (tw v z)
    ·rw [List.mem_singleton] at z; exact ho v z.symm
   ·rcases Nat.lt_or_ge k i with c | c
    ·rw [List.getElem?_append_left (by omega)] at e2; exact tl k v p e1 e2
    ·rw [List.getElem?_append_right (by omega)] at e2
     have:k - ws.length=0:=by
      rcases Nat.eq_zero_or_pos (k - ws.length) with z | z
      ·exact z
      ·rw [List.getElem?_eq_none (by simp; omega)] at e2; cases e2
     rw [this] at e2; cases e2
     rw [show k=i by omega,eu] at e1; cases e1
     exact hT
  refine cB ⟨_,rfl,_,rfl,_,rfl,eX.mpr ⟨r,n,u.1,m,ts,os,x,y,rfl,W.same s23,NA.same (gl.trans s3),m4,eu3,by rw [<- exy]; exact List.mem_map_of_mem (f:=(·.2)) uin,fun H4 s4 no=>up none H4 s4 (fun v e=>by cases e) fun a b e => ?_,fun z H4 Z s4 ez al=>up (some (z,Z)) H4 s4 (fun v e=>by cases e; exact ez) fun a b e => ?_⟩⟩
  ·rw [exy] at e; cases e; exact .inl ⟨rfl,no⟩
  ·rw [exy] at e; cases e; exact .inr ⟨_,rfl,al⟩
 ·rintro ys H3 hy ⟨s3,ws,rfl,lw,tw,tl⟩ l3 hl3
  rw [List.length_map] at lw
  have g4:=ae hl3 (.lst (ws.map enc))
  have el4:upd H3 l3 (.lst (ws.map enc)) l3=some (.lst (ws.map enc)):=ag
  generalize upd H3 l3 (.lst (ws.map enc))=H4 at g4 el4
  have s4:=s2.trans (s3.trans g4)
  have tell:∀ u ∈ us,∃ o ∈ ws,xA (ts.map (·.2)) u.2 o:=fun u hu=>by
   obtain ⟨v,hv,ev⟩:=List.mem_map.mp (cov u hu)
   obtain ⟨k,ek⟩:=List.mem_iff_getElem?.mp (pm.mem_iff.mpr hv)
   have kl:=(List.getElem?_eq_some_iff.mp ek).1
   have ew:ws[k]? = some (ws[k]'(by omega)):=List.getElem?_eq_getElem (by omega)
   exact ⟨_,List.mem_of_getElem? ew,ev ▸ tl k v _ ek ew⟩
  refine eY.mpr ⟨l3,ws,rfl,el4,fun u hu=>g4 _ _ (tw u hu),by omega,fun H5 s5 no => ?_,fun u H5 s5 hu mn => ?_⟩
  ·refine ⟨_,rfl,rfl,_,rfl,cB (q0 H5 (s4.trans s5) fun u hu a b e => ?_)⟩
   obtain ⟨o,ho,hT⟩:=tell u hu
   rw [no o ho] at hT
   rcases hT a b e with ⟨_,z⟩ | ⟨v,e2,_⟩
   ·exact z
   ·cases e2
  ·refine ⟨_,rfl,rfl,_,rfl,dj ?_⟩
   obtain ⟨k,ek⟩:=List.mem_iff_getElem?.mp hu
   have kl:=(List.getElem?_eq_some_iff.mp ek).1
   have ev:out[k]? = some (out[k]'(by omega)):=List.getElem?_eq_getElem (by omega)
   have vin:=oin _ (List.mem_of_getElem? ev)
   obtain ⟨x,y,exy,_⟩:=W.pr _ (hin _ vin)
   rcases tl k _ _ ev ek x y exy with ⟨e,_⟩ | ⟨v,e,al⟩
   ·cases e
   cases e
   have rg:=al.ring O (by rw [<- exy]; exact List.mem_map_of_mem (f:=(·.2)) (hin _ vin))
   refine ⟨_,rfl,fQ.mpr ⟨u.1,u.2,rfl,s5 _ _ (g4 _ _ (tw u hu)),rg.ne,?_,fun z H6 M s6 hM mM ez=>q1 z H6 u.2 M (s4.trans (s5.trans s6)) ez hM mM ⟨_,vin,x,y,exy,al⟩ fun v hv a b e => ?_⟩⟩
   ·have:=dX rg.nd rg.rng; omega
   ·obtain ⟨o,ho,hT⟩:=tell v hv
    rcases hT a b e with ⟨_,z⟩ | ⟨p,e2,al'⟩
    ·exact .inl z
    ·subst e2; exact .inr ⟨p.2,al',mn p ho⟩
end
abbrev nN:Sp:=fun vs H Q _=>∃ (r:Addr) (m:Nat) (ts:List (Addr × List Int)),vs=[.ref r]/\Wb H r m ts/\m<=400/\(∀ H',aA H H'->(∀ a b,[a,b] ∈ ts.map (·.2)->gx (ts.map (·.2)) a b)->Q .non H')/\∀ (z:Addr) (H':Hp) (Z:List Int) (M:Int),aA H H'->H' z=some (.tup ((frm Z M).map V.int))->M ∈ Z->(∀ b ∈ Z,M<=b)->(∃ a b,[a,b] ∈ ts.map (·.2)/\Al (ts.map (·.2)) a b Z)->(∀ a b,[a,b] ∈ ts.map (·.2)->gx (ts.map (·.2)) a b\/∃ Z',Al (ts.map (·.2)) a b Z'/\Z.length<=Z'.length)->Q (.ref z) H'
@[irreducible] def gD:Sp:=nN
theorem eZ {vs:List V} {H:Hp} {Q:VK} {E:XK}:gD vs H Q E ↔ nN vs H Q E:=by
 delta gD
 exact Iff.rfl
section
variable {P:Program} {w:World} {K:PySem.W.Frag} {mg:Str->Option Value} {base:Heap} {f T:Addr} {fd:FuncData}
theorem nO:aW ["web"] ["web"] (au cF):=⟨rfl,rfl,rfl,by decide +kernel,rfl,by decide +kernel,by decide +kernel⟩
theorem nP (F:Fun K "least_ring" "least_ring" cF f fd) (B:Blt mg) (cLeastAlong:Cal P w K mg base 4 "least_along" ["web", "ties"] nM):cy P w K mg base CX0 5 f fd ["web"] gD:=by
 refine F.ok nO (fun vs H Q E h => ?_) (fun cdv A outer s H vs Q E hr h => ?_)
 ·obtain ⟨_,_,_,rfl,_⟩:=eZ.mp h
  rfl
 obtain ⟨r,m,ts,rfl,W,m4,q0,q1⟩:=eZ.mp h
 refine ⟨_,(@av _ _ _ (@aU _ _ _ _ (bM cLeastAlong hr (by decide) rfl (@aa _ _ _ _ _ (pv 0) (@aa _ _ _ _ _ (@aQ _ _ _ _ _ _ _ aV (pv 0) ai (fun _ _=>rfl)) af rfl) rfl)))),?_⟩
 obtain ⟨t,e1,e2⟩:=W.at'
 refine ⟨_,rfl,_,rfl,r,_,1,_,rfl,rfl,SqT.of e1,rfl,hJ.mpr ⟨r,t,m,ts,ts,rfl,W,m4,.inr e2,fun u hu=>hu,W.len,fun H' s no=>q0 H' s fun a b h => ?_,fun z H' Z M s ez hM mM hx hn=>q1 z H' Z M s ez hM mM ?_ fun a b h => ?_⟩⟩
 ·obtain ⟨u,hu,e⟩:=List.mem_map.mp h
  exact no u hu a b e
 ·obtain ⟨u,hu,a,b,e,al⟩:=hx
  exact ⟨a,b,by rw [<- e]; exact List.mem_map_of_mem (f:=(·.2)) hu,al⟩
 ·obtain ⟨u,hu,e⟩:=List.mem_map.mp h
  exact hn u hu a b e
end
open PySem L2
structure xB (Z:List Int):Prop where
 ne:Z ≠ []
 nd:Z.Nodup
 mn:∀ b ∈ Z,Z.getD 0 0<=b
 lx:HT.lexLt (turn Z) Z=false
theorem fB (a:Int) (t:List Int):turn (a :: t)=a :: t.reverse:=rfl
theorem jq {Z:List Int} {k:Nat} {c:Int} (e:Z[k]? = some c):rot Z k=c :: (Z.drop (k + 1) ++ Z.take k):=by
 obtain ⟨h,e⟩:=List.getElem?_eq_some_iff.mp e
 unfold rot
 rw [List.drop_eq_getElem_cons h,e]; rfl
theorem tZ {Z:List Int} {M:Int} (h:M ∈ Z):Z[Z.idxOf M]? = some M:=by
 rw [List.getElem?_eq_getElem (List.idxOf_lt_length_iff.mpr h),List.getElem_idxOf]
theorem hW {Z:List Int} {M:Int} (h:M ∈ Z):∃ t,rot Z (Z.idxOf M)=M :: t/\((frm Z M=M :: t/\HT.lexLt (M :: t.reverse) (M :: t)=false)\/(frm Z M=M :: t.reverse/\HT.lexLt (M :: t.reverse) (M :: t)=true)):=by
 refine ⟨_,jq (tZ h),?_⟩
 unfold frm
 rw [jq (tZ h),fB]
 generalize Z.drop (Z.idxOf M + 1) ++ Z.take (Z.idxOf M)=t
 unfold gX
 cases c:HT.lexLt (M :: t.reverse) (M :: t) with
 | true=>exact .inr ⟨if_pos rfl,rfl⟩
 | false=>exact .inl ⟨if_neg Bool.false_ne_true,rfl⟩
theorem js (Z:List Int) (k:Nat):(rot Z k).Perm Z:=by
 unfold rot
 exact List.perm_append_comm.trans (by rw [List.take_append_drop])
theorem nQ {Z:List Int} {M:Int} (h:M ∈ Z):(frm Z M).Perm Z:=by
 obtain ⟨t,e,⟨z,_⟩ | ⟨z,_⟩⟩:=hW h
 ·rw [z, <- e]; exact js _ _
 ·rw [z]; exact ((List.reverse_perm t).cons M).trans (e ▸ js Z _)
theorem t5 {a b:List Int} (h:HT.lexLt a b=true):HT.lexLt b a=false:=by
 cases c:HT.lexLt b a with
 | false=>rfl
 | true=>have:=Srt.lex_trans _ _ _ h c; rw [Srt.lex_irrefl] at this; cases this
theorem t6 {Z:List Int} {M:Int} (nd:Z.Nodup) (h:M ∈ Z) (mn:∀ b ∈ Z,M<=b):xB (frm Z M):=by
 have pm:=nQ h
 obtain ⟨t,e,⟨z,c⟩ | ⟨z,c⟩⟩:=hW h
 ·refine ⟨by rw [z]; simp,pm.nodup_iff.mpr nd,fun b hb => ?_,?_⟩
  ·rw [z] at hb ⊢; exact mn b (pm.mem_iff.mp (z ▸ hb))
  ·rw [z,fB]; exact c
 ·refine ⟨by rw [z]; simp,pm.nodup_iff.mpr nd,fun b hb => ?_,?_⟩
  ·rw [z] at hb ⊢; exact mn b (pm.mem_iff.mp (z ▸ hb))
  ·rw [z,fB,List.reverse_reverse]; exact t5 c
theorem Ring.frm {m:Nat} {ns:List (List Int)} {Z:List Int} {M:Int} (h:Ring m ns Z) (hM:M ∈ Z):Ring m ns (frm Z M):=by
 have hr:Ring m ns (_root_.K09.rot Z (Z.idxOf M)):=by
  show Ring m ns (Z.drop (Z.idxOf M) ++ Z.take (Z.idxOf M))
  exact Ring.rot (by rw [List.take_append_drop]; exact h)
 obtain ⟨t,e,⟨z,_⟩ | ⟨z,_⟩⟩:=hW hM
 ·rw [z, <- e]; exact hr
 ·rw [e] at hr; rw [z]; exact hr.turn
def alt (Z:List Int) (k:Nat):List (List Int):=(List.range k).flatMap fun j=>[rot Z j,turn (rot Z j)]
theorem nR (Z:List Int) (k:Nat):alt Z (k + 1)=alt Z k ++ [rot Z k,turn (rot Z k)]:=by
 unfold alt
 rw [List.range_succ,List.flatMap_append]
 simp
theorem ma (Z:List Int):∀ k,(alt Z k).length=2 * k
 | 0=>rfl
 | k + 1=>by rw [nR,List.length_append,ma Z k]; show _ + 2=_; omega
theorem jt (Z:List Int):rot Z 0=Z:=by unfold rot; simp
theorem t7 {Z p:List Int} (C:xB Z) (hp:p ∈ alt Z Z.length) (h:∀ q ∈ alt Z Z.length,HT.lexLt q p=false):p=Z:=by
 have pos:=List.length_pos_iff.mpr C.ne
 have hz:Z ∈ alt Z Z.length:=List.mem_flatMap.mpr ⟨0,List.mem_range.mpr pos,by rw [jt]; simp⟩
 obtain ⟨j,hj,hp⟩:=List.mem_flatMap.mp hp
 rw [List.mem_range] at hj
 have ec:Z[j]? = some Z[j]:=List.getElem?_eq_getElem hj
 have hh:=h Z hz
 have j0:∀ t,p=Z[j] :: t->j=0:=fun t e=>by
  have e0:Z=Z[0] :: Z.drop 1:=by
   have:=List.drop_eq_getElem_cons pos
   rwa [List.drop_zero] at this
  have le:Z[0]<=Z[j]:=by
   have:=C.mn Z[j] (List.getElem_mem hj)
   rwa [List.getD_eq_getElem?_getD,List.getElem?_eq_getElem pos] at this
  have:Z[0]=Z[j]:=by
   rw [e] at hh
   generalize Z[j]=c at hh le
   rw [e0,HT.cD] at hh
   by_cases d:Z[0]=c
   ·exact d
   ·rw [if_neg d] at hh
    have:=of_decide_eq_false hh
    omega
  exact ((List.getElem_inj C.nd).mp this).symm
 rcases List.mem_cons.mp hp with z | z
 ·rw [z,j0 _ (z.trans (jq ec)),jt]
 ·rw [List.mem_singleton] at z
  have:j=0:=j0 _ (z.trans (by rw [jq ec,fB]))
  subst this
  rw [jt] at z
  subst z
  exact Srt.fk _ _ C.lx hh
theorem Ring.next {m:Nat} {ns:List (List Int)} {Z:List Int} (h:Ring m ns Z) {k:Nat} {y:Int} (e:Z[k]? = some y):∃ x,atI (Z.map V.int) ((k:Int) - 1)=some (.int x)/\Td ns x y:=by
 have hk:=(List.getElem?_eq_some_iff.mp e).1
 have c:=qf h.ch
 cases k with
 | zero =>
  have t1:Z.take 1=[y]:=by
   cases Z with
   | nil=>cases e
   | cons a t=>cases e; rfl
  have el:Z[Z.length - 1]? = some (Z[Z.length - 1]'(by omega)):=List.getElem?_eq_getElem (by omega)
  refine ⟨Z[Z.length - 1]'(by omega),?_,c (Z.length - 1) _ _ (by rw [List.getElem?_append_left (by omega)]; exact el) (by rw [t1,List.getElem?_append_right (by omega),show Z.length - 1 + 1 - Z.length=0 by omega]; rfl)⟩
  unfold atI ixN
  rw [List.length_map]
  simp
  rw [if_pos (by omega)]
  simp only [Option.bind_some]
  rw [show (-1 + (Z.length:Int)).toNat=Z.length - 1 by omega,el]; rfl
 | succ k =>
  have el:Z[k]? = some (Z[k]'(by omega)):=List.getElem?_eq_getElem (by omega)
  refine ⟨Z[k]'(by omega),?_,c k _ _ (by rw [List.getElem?_append_left (by omega)]; exact el) (by rw [List.getElem?_append_left (by omega)]; exact e)⟩
  rw [show ((k + 1:Nat):Int) - 1=(k:Int) by omega]
  exact cM (by rw [List.getElem?_map,el]; rfl)
theorem Ring.few {m:Nat} {ns:List (List Int)} {Z:List Int} (h:Ring m ns Z) (h3:Z.length < 3):∃ x y,atI (Z.map V.int) 0=some (.int x)/\atI (Z.map V.int) (-1)=some (.int y)/\Z.length<=ns.count (nrm x y):=by
 match Z,h,h3 with
 | [],h,_=>exact absurd rfl h.ne
 | [a],h,_ =>
  refine ⟨a,a,rfl,rfl,?_⟩
  have:nrm a a ∈ ns/\True:=h.ch
  exact List.one_le_count_iff.mpr this.1
 | [a,b],h,_=>exact ⟨a,b,rfl,rfl,h.two a b rfl⟩
 | a :: b :: c :: t,_,h3=>simp at h3; omega
def rF (p:Int) (t:List Int):Bool:=decide (p=t.getD 0 0) || decide (p=t.getD 1 0)
def oth (p:Int) (t:List Int):Int:=t.getD 0 0 + t.getD 1 0 - p
theorem qk (p o:Int):oth p (nrm p o)=o:=by
 unfold oth nrm mnI mxI
 show (if o < p then o else p) + (if o > p then o else p) - p=o
 split <;> split <;> omega
theorem nT (p o:Int):rF p (nrm p o)=true:=by
 unfold rF nrm mnI mxI
 show (decide (p=if o < p then o else p) || decide (p=if o > p then o else p))=true
 by_cases h:o < p
 ·rw [if_neg (show ¬ o > p by omega)]; simp
 ·rw [if_neg h]; simp
theorem fI {α β : Type} {f : α -> β}:∀ {l:List α},(l.map f).Nodup->∀ {x y : α},x ∈ l->y ∈ l->f x=f y->x=y
 | [],_,_,_,h,_,_=>by cases h
 | a :: l,nd,x,y,hx,hy,e=>by
  rw [List.map_cons,List.nodup_cons] at nd
  rcases List.mem_cons.mp hx with z | z <;> rcases List.mem_cons.mp hy with z' | z'
  ·rw [z,z']
  ·subst z; exact absurd (e ▸ List.mem_map_of_mem z') nd.1
  ·subst z'; exact absurd (e ▸ List.mem_map_of_mem z) nd.1
  ·exact fI nd.2 z z' e
def cJ (ns:List (List Int)) (a b:Int) (L:Nat):Prop:=(a=b/\L=1)\/(a ≠ b/\2<=ns.count [a,b]/\L=2)\/(a ≠ b/\ns.count [a,b] < 2/\∃ N,Dst (stp ns a b) a N b/\L=N + 1)
theorem Al.len {ns:List (List Int)} {a b:Int} {Z:List Int} (h:Al ns a b Z):cJ ns a b Z.length:=by
 rcases h with ⟨e,rfl⟩ | ⟨ne,c2,rfl⟩ | ⟨ne,c2,N,w⟩
 ·exact .inl ⟨e,rfl⟩
 ·exact .inr (.inl ⟨ne,c2,rfl⟩)
 ·have:=(w.1.dst 0 b w.1.hd).2
  exact .inr (.inr ⟨ne,c2,N,this,w.2⟩)
theorem cJ.uniq {ns:List (List Int)} {a b:Int} {L L':Nat} (h:cJ ns a b L) (h':cJ ns a b L'):L=L':=by
 rcases h with ⟨e,rfl⟩ | ⟨ne,c2,rfl⟩ | ⟨ne,c2,N,d,rfl⟩ <;> rcases h' with ⟨e',rfl⟩ | ⟨ne',c2',rfl⟩ | ⟨ne',c2',N',d',rfl⟩
 ·rfl
 ·exact absurd e ne'
 ·exact absurd e ne'
 ·exact absurd e' ne
 ·rfl
 ·omega
 ·exact absurd e' ne
 ·omega
 ·rw [d.uniq d']
theorem cJ.pos {ns:List (List Int)} {a b:Int} {L:Nat} (h:cJ ns a b L):0 < L:=by
 rcases h with ⟨e,rfl⟩ | ⟨ne,c2,rfl⟩ | ⟨ne,c2,N,d,rfl⟩ <;> omega
theorem gx.not {ns:List (List Int)} {a b:Int} (h:gx ns a b) {L:Nat} (h':cJ ns a b L):False:=by
 rcases h' with ⟨e,rfl⟩ | ⟨ne,c2,rfl⟩ | ⟨ne,c2,N,d,rfl⟩
 ·exact h.1 e
 ·have:=h.2.1; omega
 ·exact h.2.2 N d.1
def gE (ns:List (List Int)) (L:Nat):Prop:=(∃ a b,[a,b] ∈ ns/\cJ ns a b L)/\∀ a b L',[a,b] ∈ ns->cJ ns a b L'->L<=L'
theorem gE.uniq {ns:List (List Int)} {L L':Nat} (h:gE ns L) (h':gE ns L'):L=L':=by
 obtain ⟨⟨a,b,m,l⟩,h2⟩:=h
 obtain ⟨⟨a',b',m',l'⟩,h2'⟩:=h'
 exact Nat.le_antisymm (h2 _ _ _ m' l') (h2' _ _ _ m l)
structure Bq (R:Int->Int->Prop) (a:Int) (k d:Nat) (C:List (Int × Nat)):Prop where
 nd:(C.map (·.1)).Nodup
 ds:∀ e ∈ C,Dst R a e.2 e.1
 mono:C.Pairwise (fun x y=>x.2<=y.2)
 top:∀ e ∈ C,e.2<=d + 1
 low:∀ j v,j<=d->Wk R a j v->v ∈ C.map (·.1)
 cls:∀ (i:Nat) e,i < k->C[i]? = some e->∀ o,R e.1 o->o ∈ C.map (·.1)
theorem Bq.start (R:Int->Int->Prop) (a:Int):Bq R a 0 0 [(a,0)]:=by
 refine ⟨by simp,fun e he => ?_,by simp,fun e he => ?_,fun j v hj w => ?_,fun i e hi=>absurd hi (Nat.not_lt_zero _)⟩
 ·rw [List.mem_singleton] at he; subst he; exact ⟨.z,fun k hk=>absurd hk (Nat.not_lt_zero _)⟩
 ·rw [List.mem_singleton] at he; subst he; exact Nat.zero_le _
 ·cases Nat.le_zero.mp hj; rw [w.zero]; simp
theorem Bq.add {R:Int->Int->Prop} {a:Int} {k d:Nat} {C:List (Int × Nat)} (h:Bq R a k d C) {p o:Int} (hk:k < C.length) (hp:(p,d) ∈ C) (r:R p o) (hn:o ∉ C.map (·.1)):Bq R a k d (C ++ [(o,d + 1)]):=by
 have dp:=h.ds _ hp
 have up:∀ v,v ∈ C.map (·.1)->v ∈ (C ++ [(o,d + 1)]).map (·.1):=fun v hv=>by rw [List.map_append]; exact List.mem_append_left _ hv
 refine ⟨by rw [List.map_append]; exact ji h.nd hn,fun e he => ?_,?_,fun e he => ?_,fun j v hj w=>up _ (h.low j v hj w),fun i e hi ei o' r' => ?_⟩
 ·rcases List.mem_append.mp he with z | z
  ·exact h.ds e z
  ·rw [List.mem_singleton] at z; subst z
   exact ⟨.st dp.1 r,fun j hj w=>hn (h.low j o (Nat.le_of_lt_succ hj) w)⟩
 ·rw [List.pairwise_append]
  refine ⟨h.mono,by simp,fun x hx y hy => ?_⟩
  rw [List.mem_singleton] at hy; subst hy
  exact h.top x hx
 ·rcases List.mem_append.mp he with z | z
  ·exact h.top e z
  ·rw [List.mem_singleton] at z; subst z; exact Nat.le_refl _
 ·rcases Nat.lt_or_ge i C.length with c | c
  ·rw [List.getElem?_append_left c] at ei
   exact up _ (h.cls i e hi ei o' r')
  ·omega
theorem Bq.next {R:Int->Int->Prop} {a:Int} {k d d':Nat} {C:List (Int × Nat)} (h:Bq R a k d C) {p p':Int} (hk:C[k]? = some (p,d)) (cl:∀ o,R p o->o ∈ C.map (·.1)) (hk':C[k + 1]? = some (p',d')):Bq R a (k + 1) d' C:=by
 have l1:=(List.getElem?_eq_some_iff.mp hk).1
 have l2:=(List.getElem?_eq_some_iff.mp hk').1
 have g1:C[k]=(p,d):=(List.getElem?_eq_some_iff.mp hk).2
 have g2:C[k + 1]=(p',d'):=(List.getElem?_eq_some_iff.mp hk').2
 have mono:=List.pairwise_iff_getElem.mp h.mono
 have le:d<=d':=by have:=mono k (k + 1) l1 l2 (by omega); rw [g1,g2] at this; exact this
 have tp:d'<=d + 1:=h.top _ (List.mem_of_getElem? hk')
 have cls:∀ (i:Nat) e,i < k + 1->C[i]? = some e->∀ o,R e.1 o->o ∈ C.map (·.1):=fun i e hi ei o r=>by
  rcases Nat.lt_or_ge i k with c | c
  ·exact h.cls i e c ei o r
  ·have:i=k:=by omega
   subst this
   rw [hk] at ei; cases ei
   exact cl o r
 refine ⟨h.nd,h.ds,h.mono,fun e he=>Nat.le_trans (h.top e he) (by omega),fun j v hj w => ?_,cls⟩
 rcases Nat.lt_or_ge d j with c | c
 ·have ej:j=d + 1:=by omega
  subst ej
  cases w with
  | st w1 r =>
   rename_i q
   obtain ⟨e,he,e1⟩:=List.mem_map.mp (h.low d q (Nat.le_refl _) w1)
   obtain ⟨i,hi⟩:=List.mem_iff_getElem?.mp he
   have hi':=(List.getElem?_eq_some_iff.mp hi).1
   have gi:C[i]=e:=(List.getElem?_eq_some_iff.mp hi).2
   have dq:=h.ds e he
   have:e.2<=d:=by
    rcases Nat.lt_or_ge d e.2 with z | z
    ·exact absurd (e1 ▸ w1) (dq.2 d z)
    ·exact z
   refine cls i e ?_ hi v (by rw [e1]; exact r)
   rcases Nat.lt_or_ge i (k + 1) with z | z
   ·exact z
   ·have:d'<=e.2:=by
     rcases Nat.lt_or_ge (k + 1) i with y | y
     ·have:=mono (k + 1) i l2 hi' y; rw [g2,gi] at this; exact this
     ·have:i=k + 1:=by omega
      subst this
      rw [hk'] at hi; cases hi; exact Nat.le_refl _
    omega
 ·exact h.low j v c w
theorem Bq.all {R:Int->Int->Prop} {a:Int} {k d:Nat} {C:List (Int × Nat)} (h:Bq R a k d C) (hk:C.length<=k) {n:Nat} {v:Int} (w:Wk R a n v):v ∈ C.map (·.1):=by
 induction w with
 | z=>exact h.low 0 a (Nat.zero_le _) .z
 | st _ r ih =>
  obtain ⟨e,he,e1⟩:=List.mem_map.mp ih
  obtain ⟨q,hq⟩:=List.mem_iff_getElem?.mp he
  have hq':=(List.getElem?_eq_some_iff.mp hq).1
  exact h.cls q e (by omega) hq _ (by rw [e1]; exact r)
def Rt (ns:List (List Int)) (p o:Int):Prop:=∃ x y:Int,[x,y] ∈ ns/\(p=x\/p=y)/\o=x + y - p
theorem Rt.rng {m:Nat} {ns:List (List Int)} (O:Ok m ns) {p o:Int} (h:Rt ns p o):0<=o/\o < m:=by
 obtain ⟨x,y,hx,hp,rfl⟩:=h
 obtain ⟨_,_,e,a0,ab,bm⟩:=O _ hx
 cases e
 rcases hp with z | z <;> subst z <;> omega
theorem Rt.iff {m:Nat} {ns:List (List Int)} (O:Ok m ns) {p o:Int}:Rt ns p o ↔ nrm p o ∈ ns:=by
 constructor
 ·rintro ⟨x,y,hx,hp,rfl⟩
  obtain ⟨_,_,e,a0,ab,bm⟩:=O _ hx
  cases e
  rcases hp with z | z
  ·subst z; rw [show p + y - p=y by omega,bA ab]; exact hx
  ·subst z; rw [show x + p - p=x by omega,cc,bA ab]; exact hx
 ·intro h
  rcases Int.le_total p o with c | c
  ·rw [bA c] at h; exact ⟨p,o,h,.inl rfl,by omega⟩
  ·rw [cc,bA c] at h; exact ⟨o,p,h,.inr rfl,by omega⟩
theorem Wk.rngT {m:Nat} {ns:List (List Int)} (O:Ok m ns) {a:Int} (ha:0<=a/\a < m) {n:Nat} {v:Int} (w:Wk (Rt ns) a n v):0<=v/\v < m:=by
 cases w with
 | z=>exact ha
 | st _ r=>exact r.rng O
theorem xC {R S:Int->Int->Prop} {a:Int} (h1:∀ n v,Wk R a n v->∃ n',n'<=n/\Wk S a n' v) (h2:∀ n v,Wk S a n v->∃ n',n'<=n/\Wk R a n' v) {n:Nat} {v:Int} (d:Dst R a n v):Dst S a n v:=by
 obtain ⟨n',le,w⟩:=h1 n v d.1
 have ge:∀ k,Wk S a k v->n<=k:=fun k wk=>by
  obtain ⟨k',le',wr⟩:=h2 k v wk
  rcases Nat.lt_or_ge k' n with z | z
  ·exact absurd wr (d.2 k' z)
  ·omega
 have:n'=n:=Nat.le_antisymm le (ge n' w)
 subst this
 exact ⟨w,fun k hk wk=>by have:=ge k wk; omega⟩
theorem count_erase {ns:List (List Int)} {k:Nat} {t:List Int} (e:ns[k]? = some t) (u:List Int):(ns.eraseIdx k).count u + (if u=t then 1 else 0)=ns.count u:=by
 induction ns generalizing k with
 | nil=>simp at e
 | cons s ns ih =>
  cases k with
  | zero =>
   have:s=t:=by simpa using e
   subst this
   rw [List.eraseIdx_zero,List.tail_cons,List.count_cons]
   by_cases c:u=s
   ·subst c; simp
   ·rw [if_neg c,if_neg (by simpa using Ne.symm c)]
  | succ k =>
   have:=ih (k:=k) (by simpa using e)
   rw [List.eraseIdx_cons_succ,List.count_cons,List.count_cons]
   omega
theorem mem_erase_iff {ns:List (List Int)} {k:Nat} {t:List Int} (e:ns[k]? = some t) (u:List Int):u ∈ ns.eraseIdx k ↔ (u=t/\2<=ns.count t)\/(u ≠ t/\u ∈ ns):=by
 have h:=count_erase e u
 rw [<- List.count_pos_iff, <- List.count_pos_iff]
 by_cases c:u=t
 ·subst c; rw [if_pos rfl] at h
  constructor
  ·intro z; exact .inl ⟨rfl,by omega⟩
  ·rintro (⟨_,z⟩ | ⟨z,_⟩)
   ·omega
   ·exact absurd rfl z
 ·rw [if_neg c,Nat.add_zero] at h
  rw [h]
  exact ⟨fun z => .inr ⟨c,z⟩,fun z=>z.elim (fun y=>absurd y.1 c) fun y=>y.2⟩
theorem t8 {m:Nat} {ns:List (List Int)} (O:Ok m ns) {k:Nat} {a b:Int} (e:ns[k]? = some [a,b]) (ne:a ≠ b) {N:Nat} (d:Dst (Rt (ns.eraseIdx k)) a N b):cJ ns a b (N + 1):=by
 have O':Ok m (ns.eraseIdx k):=fun t ht=>O t (List.mem_of_mem_eraseIdx ht)
 have hab:=List.mem_of_getElem? e
 obtain ⟨_,_,ee,a0,ab,bm⟩:=O _ hab
 cases ee
 by_cases c:2<=ns.count [a,b]
 ·have r:Rt (ns.eraseIdx k) a b:=(Rt.iff O').mpr (by rw [bA ab]; exact (mem_erase_iff e _).mpr (.inl ⟨rfl,c⟩))
  have d1:Dst (Rt (ns.eraseIdx k)) a 1 b:=⟨.st .z r,fun j hj w=>by
   have:j=0:=by omega
   subst this
   exact ne w.zero.symm⟩
  rw [d.uniq d1]
  exact .inr (.inl ⟨ne,c,rfl⟩)
 ·have key:∀ {p o:Int},Rt (ns.eraseIdx k) p o ↔ nrm p o ∈ ns/\nrm p o ≠ [a,b]:=fun {p o}=>by
   rw [Rt.iff O',mem_erase_iff e]
   exact ⟨fun z=>z.elim (fun y=>absurd y.2 c) fun y=>⟨y.2,y.1⟩,fun z => .inr ⟨z.2,z.1⟩⟩
  have h1:∀ n v,Wk (Rt (ns.eraseIdx k)) a n v->∃ n',n'<=n/\Wk (stp ns a b) a n' v:=fun n v w=>by
   induction w with
   | z=>exact ⟨0,Nat.le_refl _,.z⟩
   | st w1 r ih =>
    rename_i n p o
    obtain ⟨n',le,w'⟩:=ih
    obtain ⟨h1,h2⟩:=key.mp r
    by_cases c:p=o
    ·subst c; exact ⟨n',by omega,w'⟩
    ·refine ⟨n' + 1,by omega,.st w' ⟨(gW O).mpr ⟨c,h1⟩,?_⟩⟩
     by_cases c2:p=a
     ·right; intro c3; subst c2; subst c3; exact h2 (bA ab)
     ·exact .inl c2
  have h2:∀ n v,Wk (stp ns a b) a n v->∃ n',n'<=n/\Wk (Rt (ns.eraseIdx k)) a n' v:=fun n v w=>by
   induction w with
   | z=>exact ⟨0,Nat.le_refl _,.z⟩
   | st w1 r ih =>
    rename_i n p o
    obtain ⟨n',le,w'⟩:=ih
    by_cases c2:o=a
    ·subst c2; exact ⟨0,Nat.zero_le _,.z⟩
    ·refine ⟨n' + 1,by omega,.st w' (key.mpr ⟨((gW O).mp r.1).2,fun c3 => ?_⟩)⟩
     have e1:oth p (nrm p o)=o:=qk p o
     have hh:rF p (nrm p o)=true:=nT p o
     rw [c3] at e1 hh
     unfold rF at hh
     unfold oth at e1
     simp at hh
     have e1':a + b - p=o:=e1
     rcases hh with z | z
     ·subst z
      exact r.2.elim (fun y=>y rfl) fun y=>y (by omega)
     ·subst z
      exact c2 (by omega)
  exact .inr (.inr ⟨ne,by omega,N,xC h1 h2 d,rfl⟩)
theorem t9 {m:Nat} {ns:List (List Int)} (O:Ok m ns) {k:Nat} {a b:Int} (e:ns[k]? = some [a,b]) (ne:a ≠ b) (no:∀ n,¬ Wk (Rt (ns.eraseIdx k)) a n b):gx ns a b:=by
 have O':Ok m (ns.eraseIdx k):=fun t ht=>O t (List.mem_of_mem_eraseIdx ht)
 have hab:=List.mem_of_getElem? e
 obtain ⟨_,_,ee,a0,ab,bm⟩:=O _ hab
 cases ee
 have c:¬ 2<=ns.count [a,b]:=fun c=>no 1 (.st .z ((Rt.iff O').mpr (by rw [bA ab]; exact (mem_erase_iff e _).mpr (.inl ⟨rfl,c⟩))))
 refine ⟨ne,by omega,fun n w => ?_⟩
 have:∀ n v,Wk (stp ns a b) a n v->∃ n',Wk (Rt (ns.eraseIdx k)) a n' v:=fun n v w=>by
  induction w with
  | z=>exact ⟨0,.z⟩
  | st w1 r ih =>
   rename_i n p o
   obtain ⟨n',w'⟩:=ih
   by_cases c2:o=a
   ·subst c2; exact ⟨0,.z⟩
   ·refine ⟨n' + 1,.st w' ((Rt.iff O').mpr ((mem_erase_iff e _).mpr (.inr ⟨fun c3 => ?_,((gW O).mp r.1).2⟩)))⟩
    have e1:oth p (nrm p o)=o:=qk p o
    have hh:rF p (nrm p o)=true:=nT p o
    rw [c3] at e1 hh
    unfold rF at hh
    unfold oth at e1
    simp at hh
    have e1':a + b - p=o:=e1
    rcases hh with z | z
    ·subst z
     exact r.2.elim (fun y=>y rfl) fun y=>y (by omega)
    ·subst z
     exact c2 (by omega)
 obtain ⟨n',w'⟩:=this n b w
 exact no n' w'
open PySem L2
section
variable {P:Program} {w:World} {K:PySem.W.Frag} {mg:Str->Option Value} {base:Heap} {f T:Addr} {fd:FuncData}
theorem uc:aW ["web", "one", "other"] ["web", "one", "other"] (au fz):=⟨rfl,rfl,rfl,by decide +kernel,rfl,by decide +kernel,by decide +kernel⟩
theorem ud (F:Fun K "_law_times" "_law_times" fz f fd) (B:Blt mg):cy P w K mg base CX0 1 f fd ["web", "one", "other"] dz:=by
 refine F.ok uc (fun vs H Q E h => ?_) (fun cdv A outer s H vs Q E hr h => ?_)
 ·obtain ⟨_,_,_,_,_,rfl,_⟩:=bU.mp h
  rfl
 obtain ⟨r,m,a,b,ts,rfl,W,q⟩:=bU.mp h
 refine ⟨_,(@av _ _ _ (@aU _ _ _ _ (oJ PySem.F.slot_tuple_count PySem.F.type_tuple_count (iU (hu8 hr)) (@aQ _ _ _ _ _ _ _ aV (pv 0) ai (fun _ _=>rfl)) (@aa _ _ _ _ _ (@bO _ _ _ _ _ (@aa _ _ _ _ _ (ak (fg rfl) rfl B.b_min dH (@aa _ _ _ _ _ (pv 1) (@aa _ _ _ _ _ (pv 2) af rfl) rfl)) (@aa _ _ _ _ _ (ak (dM rfl) rfl B.b_max gR (@aa _ _ _ _ _ (pv 1) (@aa _ _ _ _ _ (pv 2) af rfl) rfl)) af rfl) rfl)) af rfl)))),?_⟩
 obtain ⟨t,e1,e2⟩:=W.at'
 refine ⟨_,rfl,r,_,1,_,rfl,rfl,SqT.of e1,rfl,⟨_,_,rfl,e2⟩,_,rfl,_,rfl,_,_,rfl,_,rfl,_,rfl,_,_,rfl,(by show 2<=sizeLine; decide),fun x hx => ?_⟩
 have s1:=ae hx (.tup ((nrm a b).map V.int))
 exact ⟨t,x,ts,nrm a b,rfl,rfl,s1 _ _ e2,fun u hu=>s1 _ _ (W.tup u hu),ag,q _ s1⟩
end
abbrev ue:Sp:=fun vs H Q _=>∃ (r p:Addr) (m:Nat) (ts:List (Addr × List Int)) (Z:List Int),vs=[.ref r,.ref p]/\Wb H r m ts/\m<=200/\H p=some (.tup (Z.map V.int))/\Ring m (ts.map (·.2)) Z/\∀ H',aA H H'->Q (.bl true) H'
@[irreducible] def nU:Sp:=ue
theorem hX {vs:List V} {H:Hp} {Q:VK} {E:XK}:nU vs H Q E ↔ ue vs H Q E:=by
 delta nU
 exact Iff.rfl
theorem rG:∀ {us ns:List Int},us.Nodup->ns.Nodup->(∀ k,k ∈ us ↔ k ∈ ns)->us.length=ns.length:=fun h1 h2 h=>Nat.le_antisymm (List.Nodup.length_le_of_subset h1 fun x hx=>(h x).mp hx) (List.Nodup.length_le_of_subset h2 fun x hx=>(h x).mpr hx)
section
variable {P:Program} {w:World} {K:PySem.W.Frag} {mg:Str->Option Value} {base:Heap} {f T:Addr} {fd:FuncData}
theorem kJ:aW ["web", "ring", "k"] ["web", "ring"] (au dS):=⟨rfl,rfl,rfl,by decide +kernel,rfl,by decide +kernel,by decide +kernel⟩
theorem fE:(["place", "web"]:List Str).Nodup:=by decide +kernel
theorem rH (F:Fun K "_law_is_ring" "_law_is_ring" dS f fd) (B:Blt mg) (cLTimes:Cal P w K mg base 1 "_law_times" ["web", "one", "other"] dz):cy P w K mg base CX0 2 f fd ["web", "ring"] nU:=by
 refine F.ok kJ (fun vs H Q E h => ?_) (fun cdv A outer s H vs Q E hr h => ?_)
 ·obtain ⟨_,_,_,_,_,rfl,_⟩:=hX.mp h
  rfl
 obtain ⟨r,p,m,ts,Z,rfl,W,m2,ep,R,q⟩:=hX.mp h
 refine ⟨_,(@ah _ _ _ _ _ (@bQ _ _ _ _ _ _ _ _ (PW.pt (jK (aJ eF (ak aX rfl B.b_len dG (@aa _ _ _ _ _ (pv 1) af rfl)) ai (aR _)) (jK (aJ mq (ak nv rfl B.b_len dG (@aa _ _ _ _ _ (bj (oI (w:=w) rfl hr.hd) rfl B.b_set tM (@aa _ _ _ _ _ (pv 1) af rfl)) af rfl)) (ak aX rfl B.b_len dG (@aa _ _ _ _ _ (pv 1) af rfl)) (aR _)) (kT (kU (kS (ak (mF rfl) rfl B.b_all tL (@aa _ _ _ _ _ (dr ["place", "web"] [none,some 0] rfl (@nZ _ _ _ _ (pv 1)) rfl (fun _ _ _ _ _=>(aj (i:=0) fE rfl (Or.inl rfl))) (fun _ _ _ _ _=>cX) (fun _ _ _ _ _=>(rX xU mv ai (pv 0) (@aQ _ _ _ _ _ _ _ (uJ (K:=K)) (pv 1) ai (fun _ _=>rfl))))) af rfl)))))))) (@av _ _ _ (@aU _ _ _ _ o7)) ba)
  (@ah _ _ _ _ _ (@bQ _ _ _ _ _ _ _ _ (aJ mv (ak aX rfl B.b_len dG (@aa _ _ _ _ _ (pv 1) af rfl)) ai (aR _)) (@av _ _ _ (@aU _ _ _ _ (kZ rW (bM cLTimes hr (by decide) rfl (@aa _ _ _ _ _ (pv 0) (@aa _ _ _ _ _ (@aQ _ _ _ _ _ _ _ aV (pv 1) ai (fun _ _=>rfl)) (@aa _ _ _ _ _ (@aQ _ _ _ _ _ _ _ aV (pv 1) (xR wo ai) (fun _ _=>rfl)) af rfl) rfl) rfl)) (ak aX rfl B.b_len dG (@aa _ _ _ _ _ (pv 1) af rfl)) (aR _)))) ba)
  (@ah _ _ _ _ _ (@cx _ _ _ _ _ _ _ _ PassesOwn.never rfl (bI rfl B.b_range (@aa _ _ _ _ _ (ak aX rfl B.b_len dG (@aa _ _ _ _ _ (pv 1) af rfl)) af rfl)) (aj (i:=2) kJ.nd rfl (Or.inl rfl))
   (@av _ _ _ (@bQ _ _ _ _ _ _ _ _ (aJ eF (bM cLTimes hr (by decide) rfl (@aa _ _ _ _ _ (pv 0) (@aa _ _ _ _ _ (@aQ _ _ _ _ _ _ _ aV (pv 1) (@aE _ _ _ _ _ _ _ _ cC (pv 2) ai) (fun _ _=>rfl)) (@aa _ _ _ _ _ (@aQ _ _ _ _ _ _ _ aV (pv 1) (pv 2) (fun _ _=>rfl)) af rfl) rfl) rfl)) ai (aR _)) (@av _ _ _ (@aU _ _ _ _ o7)) ba)) (fun _=>rfl))
  (@av _ _ _ (@aU _ _ _ _ o7))))),?_⟩
 obtain ⟨t,e1,e2⟩:=W.at'
 have lz:(Z.map V.int).length=Z.length:=List.length_map _
 have pos:=List.length_pos_iff.mpr R.ne
 have l2:=dX R.nd R.rng
 refine ⟨_,rfl,p,_,rfl,.inr (SqT.of ep),rfl,_,rfl,?_⟩
 rw [lz,decide_eq_false (by intro z; injection z with z; omega)]
 refine dj ⟨_,rfl,p,Z,rfl,.inr (SqT.of ep),by omega,fun a us ha mu nu lu => ?_⟩
 have ga:=ae ha (dD w a (us.map V.int))
 have lus:=rG nu R.nd mu
 refine ⟨a,us.map V.int,rfl,ag,by rw [List.length_map]; omega,?_⟩
 generalize upd H a (dD w a (us.map V.int))=H1 at ga
 refine ⟨_,rfl,p,_,rfl,.inr (SqT.of (ga _ _ ep)),rfl,_,rfl,?_⟩
 rw [lz,List.length_map,lus]
 refine pC rfl ?_
 have ep1:=ga _ _ ep
 have W1:=W.same ga
 refine ⟨_,rfl,p,rfl,⟨_,SqT.of ep1⟩,jW (xs:=Z.map V.int) (fun i ys H'=>H'=H1/\ys=((Z.take i).map fun _=>true).map V.bl) ⟨rfl,rfl⟩ (by rw [List.length_map]; exact small (by omega)) (fun i ys H' _ z=>by rw [z.1]; exact SqT.of ep1) ?_ ?_⟩
 ·rintro i x ys H3 hx hy ⟨eH,rfl⟩ R1 R0 r1 r0
  obtain ⟨v,ev,rfl⟩:=iZ hx
  obtain ⟨v0,v1⟩:=R.rng v (List.mem_of_getElem? ev)
  refine cB ⟨_,rfl,_,_,rfl,rfl,_,rfl,?_⟩
  rw [decide_eq_true v0]
  refine cB ⟨_,rfl,r,_,0,_,rfl,rfl,SqT.of (by rw [eH]; exact ga _ _ e1),rfl,_,_,rfl,rfl,?_⟩
  dsimp only
  rw [decide_eq_true v1]
  refine r1 _ _ ⟨eH,?_⟩
  rw [take_snoc (f:=fun _:Int=>true) ev,List.map_append]; rfl
 rintro ys H3 hy ⟨eH,rfl⟩ l hl
 rw [eH] at hl ⊢
 rw [List.length_map,List.take_of_length_le (Nat.le_refl _)]
 have g4:=ae hl (.lst ((Z.map fun _=>true).map V.bl))
 refine ⟨l,_,rfl,SqL.of ag,_,rfl,?_⟩
 rw [show (Z.map fun _=>true).all id=true by simp]
 refine dj ?_
 generalize upd H1 l (.lst ((Z.map fun _=>true).map V.bl))=H4 at g4
 have ep4:=g4 _ _ ep1
 have W4:=W1.same g4
 have s4:=ga.trans g4
 refine ⟨_,rfl,p,_,rfl,.inr (SqT.of ep4),_,_,rfl,rfl,_,rfl,?_⟩
 rw [lz]
 by_cases h3:Z.length < 3
 ·rw [decide_eq_true (show (Z.length:Int) < 3 by omega)]
  obtain ⟨x,y,ax,ay,hc⟩:=R.few h3
  refine cB ⟨_,rfl,_,rfl,p,_,0,_,rfl,rfl,SqT.of ep4,ax,_,rfl,1,rfl,p,_,(-1:Int),_,rfl,rfl,SqT.of ep4,ay,bU.mpr ⟨r,m,x,y,ts,rfl,W4,fun H5 s5 => ?_⟩⟩
  refine ⟨_,rfl,p,_,rfl,.inr (SqT.of (s5 _ _ ep4)),_,_,rfl,rfl,?_⟩
  have:=q _ (s4.trans s5)
  rw [<- decide_eq_true (show (((ts.map (·.2)).count (nrm x y):Nat):Int) ≥ (((Z.map V.int).length:Nat):Int) by rw [lz]; omega)] at this
  exact this
 ·rw [decide_eq_false (show ¬ (Z.length:Int) < 3 by omega)]
  refine dj ⟨_,rfl,p,_,rfl,.inr (SqT.of ep4),_,rfl,by omega,by omega,?_⟩
  rw [lz]
  refine bV (n:=Z.length) (fun k σ H'=>(∃ c2,σ=[some (.ref r),some (.ref p),c2])/\aA H4 H') ⟨⟨_,rfl⟩,aA.refl _⟩ ?_ ?_
  ·rintro k σ H5 hk ⟨⟨c2,rfl⟩,s5⟩
   have ey:Z[k]? = some (Z[k]'hk):=List.getElem?_eq_getElem hk
   obtain ⟨x,ax,td⟩:=R.next ey
   have ep5:=s5 _ _ ep4
   have e0:(0:Int) + (k:Int) - 1=(k:Int) - 1:=by omega
   refine ⟨_,rfl,_,rfl,_,rfl,_,_,rfl,rfl,p,_,_,_,rfl,rfl,SqT.of ep5,by rw [e0]; exact ax,_,rfl,_,rfl,p,_,_,_,rfl,rfl,SqT.of ep5,by rw [Int.zero_add]; exact cM (by rw [List.getElem?_map,ey]; rfl),bU.mpr ⟨r,m,_,_,ts,rfl,W4.same s5,fun H6 s6 => ?_⟩⟩
   refine ⟨rfl,_,rfl,?_⟩
   rw [decide_eq_false (by intro z; injection z with z; have:=List.count_pos_iff.mpr (show nrm x (Z[k]'hk) ∈ ts.map (·.2) from td); omega)]
   exact dj ⟨⟨_,rfl⟩,s5.trans s6⟩
  ·rintro σ H5 ⟨⟨c2,rfl⟩,s5⟩
   exact q _ (s4.trans s5)
end
abbrev nV:Sp:=fun vs H Q _=>∃ (p:Addr) (Z:List Int),vs=[.ref p]/\H p=some (.tup (Z.map V.int))/\xB Z/\Z.length<=200/\∀ (z:Addr) (H':Hp),aA H H'->H' z=some (.tup (Z.map V.int))->Q (.ref z) H'
@[irreducible] def gF:Sp:=nV
theorem fc {vs:List V} {H:Hp} {Q:VK} {E:XK}:gF vs H Q E ↔ nV vs H Q E:=by
 delta gF
 exact Iff.rfl
def TT (H:Hp) (us:List (Addr × List Int)):Prop:=∀ u ∈ us,H u.1=some (.tup (u.2.map V.int))
theorem TT.same {H H':Hp} {us:List (Addr × List Int)} (h:TT H us) (s:aA H H'):TT H' us:=fun u hu=>s _ _ (h u hu)
theorem TT.snoc {H:Hp} {us:List (Addr × List Int)} (h:TT H us) {a:Addr} {Z:List Int} (e:H a=some (.tup (Z.map V.int))):TT H (us ++ [(a,Z)]):=fun u hu=>by
 rcases List.mem_append.mp hu with z | z
 ·exact h u z
 ·rw [List.mem_singleton] at z; subst z; exact e
theorem TT.put {H:Hp} {us:List (Addr × List Int)} (h:TT H us) {l:Addr} {xs ys:List V} (e:H l=some (.lst xs)):TT (upd H l (.lst ys)) us:=fun u hu=>by
 rw [aD (fT (h u hu) e (by intro z; cases z))]; exact h u hu
theorem vy (Z:List Int) (k:Nat):(rot Z k).length=Z.length:=(js Z k).length_eq
section
variable {P:Program} {w:World} {K:PySem.W.Frag} {mg:Str->Option Value} {base:Heap} {f T:Addr} {fd:FuncData}
theorem iu:aW ["ring", "some", "k", "turned"] ["ring"] (au gP):=⟨rfl,rfl,rfl,by decide +kernel,rfl,by decide +kernel,by decide +kernel⟩
theorem vz (F:Fun K "_law_form" "_law_form" gP f fd) (B:Blt mg):cy P w K mg base CX0 1 f fd ["ring"] gF:=by
 refine F.ok iu (fun vs H Q E h => ?_) (fun cdv A outer s H vs Q E hr h => ?_)
 ·obtain ⟨_,_,rfl,_⟩:=fc.mp h
  rfl
 obtain ⟨p,Z,rfl,ep,C,l2,q⟩:=fc.mp h
 refine ⟨_,(@ah _ _ _ _ _ (@aL _ _ 1 _ _ _ _ iu.nd rfl (Or.inl rfl) (@bY _ _ _ _ af) rfl (by first | exact .inl rfl | exact .inr rfl | assumption))
  (@ah _ _ _ _ _ (@cx _ _ _ _ _ _ _ _ PassesOwn.never rfl (bI rfl B.b_range (@aa _ _ _ _ _ (ak aX rfl B.b_len dG (@aa _ _ _ _ _ (pv 0) af rfl)) af rfl)) (aj (i:=2) iu.nd rfl (Or.inl rfl))
   (@ah _ _ _ _ _ (@aL _ _ 3 _ _ _ _ iu.nd rfl (Or.inl rfl) (@aE _ _ _ _ _ _ _ _ ly (bj fZ rfl B.b_list pX (@aa _ _ _ _ _ (cb dy (pv 0) (cz (pv 2)) cK) af rfl)) (bj fZ rfl B.b_list pX (@aa _ _ _ _ _ (cb dy (pv 0) cK (cz (pv 2))) af rfl))) rfl (by first | exact .inl rfl | exact .inr rfl | assumption))
   (@ah _ _ _ _ _ (bN (cW PySem.F.plainAttrs_list PySem.F.slot_list_append PySem.F.type_list_append bK (pv 1) (@aa _ _ _ _ _ (bj bC rfl B.b_tuple dh (@aa _ _ _ _ _ (pv 3) af rfl)) af rfl)))
   (@av _ _ _ (bN (cW PySem.F.plainAttrs_list PySem.F.slot_list_append PySem.F.type_list_append bK (pv 1) (@aa _ _ _ _ _ (bj bC rfl B.b_tuple dh (@aa _ _ _ _ _ (@aE _ _ _ _ _ _ _ _ ly (@bY _ _ _ _ (@aa _ _ _ _ _ (@aQ _ _ _ _ _ _ _ cj (pv 3) ai (fun _ _=>rfl)) af rfl)) (oO hr.hd rfl B.b_list rfl B.b_reversed (cb pz (pv 3) (cz ai) cK))) af rfl)) af rfl)))))) (fun _=>rfl))
  (@av _ _ _ (@aU _ _ _ _ (ak (oS rfl (hu8 hr)) rfl B.b_min dH (@aa _ _ _ _ _ (pv 1) af rfl)))))),?_⟩
 have lz:(Z.map V.int).length=Z.length:=List.length_map _
 refine ⟨(by show 0<=sizeLine; decide),fun l hl => ?_⟩
 have g1:=ae hl (.lst [])
 have el:upd H l (.lst []) l=some (.lst (([]:List (Addr × List Int)).map fun u => .ref u.1)):=ag
 have ep1:=g1 _ _ ep
 generalize upd H l (.lst [])=H1 at g1 el ep1
 refine ⟨_,rfl,p,_,rfl,.inr (SqT.of ep1),_,rfl,by omega,by omega,?_⟩
 rw [lz]
 refine bV (n:=Z.length) (fun k σ H'=>(∃ c2 c3,σ=[some (.ref p),some (.ref l),c2,c3])/\aA H H'/\∃ us,H' l=some (.lst (us.map fun u => .ref u.1))/\TT H' us/\us.map (·.2)=alt Z k) ⟨⟨_,_,rfl⟩,g1,[],el,fun u h=>(by cases h),rfl⟩ ?_ ?_
 ·rintro k σ H2 hk ⟨⟨c2,c3,rfl⟩,s2,us,el2,tu,eu⟩
  have ep2:=s2 _ _ ep
  refine ⟨_,rfl,_,rfl,_,rfl,p,_,rfl,ep2,fun p1 H3 s3 e3=>⟨p1,_,rfl,.inr (SqT.of e3),fun a1 ha1 => ?_⟩⟩
  rw [Int.zero_add,gY _ (by rw [lz]; omega), <- List.map_drop] at e3
  have g3:=ae ha1 (.lst ((Z.drop k).map V.int))
  have ea1:upd H3 a1 (.lst ((Z.drop k).map V.int)) a1=some (.lst ((Z.drop k).map V.int)):=ag
  rw [Int.zero_add,gY _ (by rw [lz]; omega), <- List.map_drop]
  have s23:=s3.trans g3
  generalize upd H3 a1 (.lst ((Z.drop k).map V.int))=H4 at g3 ea1 s23
  refine ⟨_,rfl,_,rfl,_,rfl,p,_,rfl,s23 _ _ ep2,fun p2 H5 s5 e5=>⟨p2,_,rfl,.inr (SqT.of e5),fun a2 ha2 => ?_⟩⟩
  rw [lV _ (by rw [lz]; omega), <- List.map_take]
  have g5:=ae ha2 (.lst ((Z.take k).map V.int))
  have ea2:upd H5 a2 (.lst ((Z.take k).map V.int)) a2=some (.lst ((Z.take k).map V.int)):=ag
  have s25:=s23.trans (s5.trans g5)
  have ea1':=g5 _ _ (s5 _ _ ea1)
  generalize upd H5 a2 (.lst ((Z.take k).map V.int))=H6 at g5 ea2 s25 ea1'
  have lr:(rot Z k).length=Z.length:=vy Z k
  refine ⟨a1,a2,_,_,rfl,rfl,SqL.of ea1',SqL.of ea2,by rw [List.length_map,List.length_map,List.length_drop,List.length_take]; exact small (by omega),fun tu1 htu => ?_⟩
  rw [<- List.map_append,show Z.drop k ++ Z.take k=rot Z k from rfl]
  have g7:=ae htu (.lst ((rot Z k).map V.int))
  have etu:upd H6 tu1 (.lst ((rot Z k).map V.int)) tu1=some (.lst ((rot Z k).map V.int)):=ag
  have s27:=s25.trans g7
  generalize upd H6 tu1 (.lst ((rot Z k).map V.int))=H7 at g7 etu s27
  have el7:=s27 _ _ el2
  have hl7:H l=none:=hl
  refine ⟨_,rfl,.inl ⟨rfl,_,SqL.of el7⟩,_,rfl,tu1,_,rfl,.inl ⟨SqL.of etu,fun t1 ht1 => ?_⟩⟩
  have g8:=ae ht1 (.tup ((rot Z k).map V.int))
  have et1:upd H7 t1 (.tup ((rot Z k).map V.int)) t1=some (.tup ((rot Z k).map V.int)):=ag
  have s28:=s27.trans g8
  have el8:=g8 _ _ el7
  have etu8:=g8 _ _ etu
  generalize upd H7 t1 (.tup ((rot Z k).map V.int))=H8 at g8 et1 s28 el8 etu8
  have lus:us.length=2 * k:=by rw [<- ma Z k, <- eu,List.length_map]
  refine ⟨l,_,_,rfl,rfl,el8,by rw [List.length_map]; exact bW (by omega),?_⟩
  have tu8:TT (upd H8 l (.lst (us.map (fun u=>V.ref u.1) ++ [.ref t1]))) (us ++ [(t1,rot Z k)]):=((tu.same s28).snoc et1).put el8
  have el9:upd H8 l (.lst (us.map (fun u=>V.ref u.1) ++ [.ref t1])) l=some (.lst ((us ++ [(t1,rot Z k)]).map fun u => .ref u.1)):=by rw [ag,List.map_append]; rfl
  have s9:=aA.bZ (s2.trans s28) hl7 (.lst (us.map (fun u=>V.ref u.1) ++ [.ref t1]))
  have etu9:upd H8 l (.lst (us.map (fun u=>V.ref u.1) ++ [.ref t1])) tu1=some (.lst ((rot Z k).map V.int)):=by rw [aD (Ne.symm (aB (s25 _ _ el2) htu))]; exact etu8
  generalize upd H8 l (.lst (us.map (fun u=>V.ref u.1) ++ [.ref t1]))=H9 at tu8 el9 s9 etu9
  have er:=jq (List.getElem?_eq_getElem hk)
  generalize Z.drop (k + 1) ++ Z.take k=rest at er
  rw [er] at etu9 lr
  have lrest:rest.length + 1=Z.length:=lr
  refine ⟨_,rfl,.inl ⟨rfl,_,SqL.of el9⟩,_,rfl,tu1,_,0,.int Z[k],rfl,rfl,SqL.of etu9,cM (j:=0) rfl,(by show 1<=sizeLine; decide),fun b1 hb1 => ?_⟩
  have g10:=ae hb1 (.lst [.int Z[k]])
  have eb1:upd H9 b1 (.lst [.int Z[k]]) b1=some (.lst [.int Z[k]]):=ag
  have etu10:=g10 _ _ etu9
  generalize upd H9 b1 (.lst [.int Z[k]])=H10 at g10 eb1 etu10
  refine ⟨_,rfl,1,rfl,tu1,_,rfl,SqL.of etu10,fun b2 hb2 => ?_⟩
  rw [show eG ((Z[k] :: rest).map V.int) (some 1) none=((Z[k] :: rest).map V.int).drop 1 from gY (k:=1) _ (by simp), <- List.map_drop,show (Z[k] :: rest).drop 1=rest from rfl]
  have g11:=ae hb2 (.lst (rest.map V.int))
  have eb2:upd H10 b2 (.lst (rest.map V.int)) b2=some (.lst (rest.map V.int)):=ag
  have eb1':=g11 _ _ eb1
  generalize upd H10 b2 (.lst (rest.map V.int))=H11 at g11 eb2 eb1'
  refine ⟨b2,_,rfl,SqL.of eb2,by rw [List.length_map]; omega,fun b3 hb3 => ?_⟩
  rw [<- List.map_reverse]
  have g12:=ae hb3 (.lst (rest.reverse.map V.int))
  have eb3:upd H11 b3 (.lst (rest.reverse.map V.int)) b3=some (.lst (rest.reverse.map V.int)):=ag
  have eb1'':=g12 _ _ eb1'
  generalize upd H11 b3 (.lst (rest.reverse.map V.int))=H12 at g12 eb3 eb1''
  refine ⟨b1,b3,_,_,rfl,rfl,SqL.of eb1'',SqL.of eb3,by rw [List.length_map,List.length_reverse]; exact small (by show 1 + _<=_; omega),fun b4 hb4 => ?_⟩
  rw [show ([V.int Z[k]] ++ rest.reverse.map V.int:List V)=(turn (rot Z k)).map V.int by rw [er]; rfl]
  have g13:=ae hb4 (.lst ((turn (rot Z k)).map V.int))
  have eb4:upd H12 b4 (.lst ((turn (rot Z k)).map V.int)) b4=some (.lst ((turn (rot Z k)).map V.int)):=ag
  generalize upd H12 b4 (.lst ((turn (rot Z k)).map V.int))=H13 at g13 eb4
  refine ⟨b4,_,rfl,.inl ⟨SqL.of eb4,fun t2 ht2 => ?_⟩⟩
  have g14:=ae ht2 (.tup ((turn (rot Z k)).map V.int))
  have et2:upd H13 t2 (.tup ((turn (rot Z k)).map V.int)) t2=some (.tup ((turn (rot Z k)).map V.int)):=ag
  have s14:=g10.trans (g11.trans (g12.trans (g13.trans g14)))
  generalize upd H13 t2 (.tup ((turn (rot Z k)).map V.int))=H14 at g14 et2 s14
  have el14:=s14 _ _ el9
  refine ⟨l,_,_,rfl,rfl,el14,by rw [List.length_map,List.length_append]; exact bW (by show _ + 1<=_; omega),⟨_,_,rfl⟩,aA.bZ (s9.trans s14) hl7 _,us ++ [(t1,rot Z k)] ++ [(t2,turn (rot Z k))],by rw [ag,List.map_append,List.map_append,List.map_append]; rfl,((tu8.same s14).snoc et2).put el14,?_⟩
  rw [List.map_append,List.map_append,eu,nR,List.append_assoc]; rfl
 ·rintro σ H2 ⟨⟨c2,c3,rfl⟩,s2,us,el2,tu,eu⟩
  have lus:us.length=2 * Z.length:=by rw [<- ma Z Z.length, <- eu,List.length_map]
  refine ⟨_,rfl,l,us,rfl,SqL.of el2,fun u hu=>SqT.of (tu u hu),fun z => ?_,fun u hu mn => ?_⟩
  ·have:=List.length_pos_iff.mpr C.ne
   rw [z] at lus; simp at lus; omega
  ·have:u.2=Z:=t7 C (by rw [<- eu]; exact List.mem_map_of_mem (f:=(·.2)) hu) fun q hq=>by
    rw [<- eu] at hq
    obtain ⟨v,hv,rfl⟩:=List.mem_map.mp hq
    exact mn v hv
   exact q u.1 H2 s2 (by rw [<- this]; exact tu u hu)
end
abbrev kK:Sp:=fun vs H Q _=>∃ (p:Addr) (Z:List Int),vs=[.ref p]/\H p=some (.tup (Z.map V.int))/\Z.length<=500/\∀ H',aA H H'->Q (.bl true) H'
@[irreducible] def fe:Sp:=kK
theorem eC {vs:List V} {H:Hp} {Q:VK} {E:XK}:fe vs H Q E ↔ kK vs H Q E:=by
 delta fe
 exact Iff.rfl
section
variable {P:Program} {w:World} {K:PySem.W.Frag} {mg:Str->Option Value} {base:Heap} {f T:Addr} {fd:FuncData}
theorem rJ:aW ["found"] ["found"] (au dU):=⟨rfl,rfl,rfl,by decide +kernel,rfl,by decide +kernel,by decide +kernel⟩
theorem jI:(["one"]:List Str).Nodup:=by decide +kernel
theorem rK (F:Fun K "_law_wholes" "_law_wholes" dU f fd) (B:Blt mg):cy P w K mg base CX0 1 f fd ["found"] fe:=by
 refine F.ok rJ (fun vs H Q E h => ?_) (fun cdv A outer s H vs Q E hr h => ?_)
 ·obtain ⟨_,_,rfl,_⟩:=eC.mp h
  rfl
 obtain ⟨p,Z,rfl,ep,l2,q⟩:=eC.mp h
 refine ⟨_,(@av _ _ _ (@aU _ _ _ _ (ak (mF rfl) rfl B.b_all tL (@aa _ _ _ _ _ (dr ["one"] [none] rfl (@nZ _ _ _ _ (pv 0)) rfl (fun _ _ _ _ _=>(aj (i:=0) jI rfl (Or.inl rfl))) (fun _ _ _ _ _=>cX) (fun _ _ _ _ _=>(wb (ak (gu (K:=K)) rfl B.b_isinstance dF (@aa _ _ _ _ _ (pv 0) (@aa _ _ _ _ _ (kQ (v := .ty "int") rfl B.b_int oW rfl) af rfl) rfl)) (wa (wc (ak (gu (K:=K)) rfl B.b_isinstance dF (@aa _ _ _ _ _ (pv 0) (@aa _ _ _ _ _ (kQ (v := .ty "bool") rfl B.b_bool vo rfl) af rfl) rfl))))))) af rfl)))),?_⟩
 refine ⟨_,rfl,p,rfl,⟨_,SqT.of ep⟩,jW (xs:=Z.map V.int) (fun i ys H'=>H'=H/\ys=((Z.take i).map fun _=>true).map V.bl) ⟨rfl,rfl⟩ (by rw [List.length_map]; exact small (by omega)) (fun i ys H' _ z=>by rw [z.1]; exact SqT.of ep) ?_ ?_⟩
 ·rintro i x ys H3 hx hy ⟨eH,rfl⟩ R1 R0 r1 r0
  obtain ⟨v,ev,rfl⟩:=iZ hx
  refine cB ⟨_,rfl,.int v, "int",_,true,rfl,.int v,rfl,_,rfl,cB ⟨_,rfl,.int v, "bool",_,false,rfl,.int v,rfl,_,rfl,r1 _ _ ⟨eH,?_⟩⟩⟩
  rw [take_snoc (f:=fun _:Int=>true) ev,List.map_append]; rfl
 rintro ys H3 hy ⟨eH,rfl⟩ l hl
 rw [eH] at hl ⊢
 rw [List.length_map,List.take_of_length_le (Nat.le_refl _)]
 have g4:=ae hl (.lst ((Z.map fun _=>true).map V.bl))
 refine ⟨l,_,rfl,SqL.of ag,?_⟩
 rw [show (Z.map fun _=>true).all id=true by simp]
 exact q _ g4
end
open PySem L2
theorem Bq.shut {R:Int->Int->Prop} {a:Int} {k d:Nat} {C:List (Int × Nat)} (h:Bq R a k d C) {p:Int} (hk:C[k]? = some (p,d)) (cl:∀ o,R p o->o ∈ C.map (·.1)):Bq R a (k + 1) d C :=
 ⟨h.nd,h.ds,h.mono,h.top,h.low,fun i e hi ei o r=>by
  rcases Nat.lt_or_ge i k with c | c
  ·exact h.cls i e c ei o r
  ·have:i=k:=by omega
   subst this
   rw [hk] at ei; cases ei
   exact cl o r⟩
def sn (C:List (Int × Nat)):List (Int × V):=C.map fun e=>(e.1,V.int ((e.2:Int) + 1))
theorem iw (C:List (Int × Nat)):(sn C).map (·.1)=C.map (·.1):=by unfold sn; rw [List.map_map]; rfl
theorem vA (C:List (Int × Nat)) (v:Int) (d:Nat):sn (C ++ [(v,d)])=sn C ++ [(v,V.int ((d:Int) + 1))]:=by unfold sn; rw [List.map_append]; rfl
theorem uf {C:List (Int × Nat)} {v:Int} {x:V} (h:(v,x) ∈ sn C):∃ d:Nat,(v,d) ∈ C/\x = .int ((d:Int) + 1):=by
 unfold sn at h
 obtain ⟨e,he,z⟩:=List.mem_map.mp h
 cases z
 exact ⟨e.2,he,rfl⟩
theorem xD {C:List (Int × Nat)} (nd:(C.map (·.1)).Nodup) {v:Int} {d:Nat} (h:(v,d) ∈ C):dE (mp (sn C)) (Sum.inl v)=some (.int ((d:Int) + 1)):=by
 obtain ⟨x,hx,e⟩:=tS (v:=v) (C:=sn C) (by rw [iw]; exact List.mem_map_of_mem (f:=(·.1)) h)
 obtain ⟨d',hd,rfl⟩:=uf hx
 have:=fI nd hd h rfl
 cases this
 exact e
def kOf:St->Nat
 | [_,_,_,_,_,_,_,some (.int k),_,_]=>k.toNat
 | _=>0
abbrev ql:Sp:=fun vs H Q _=>∃ (r:Addr) (m k:Nat) (ts:List (Addr × List Int)),vs=[.ref r,.int k]/\Wb H r m ts/\m<=200/\k < ts.length/\∀ (H':Hp) (L:Nat),aA H H'->(∀ a b,(ts.map (·.2))[k]? = some [a,b]->(L=0/\gx (ts.map (·.2)) a b)\/cJ (ts.map (·.2)) a b L)->Q (.int (L:Int)) H'
@[irreducible] def ju:Sp:=ql
theorem fS {vs:List V} {H:Hp} {Q:VK} {E:XK}:ju vs H Q E ↔ ql vs H Q E:=by
 delta ju
 exact Iff.rfl
section
variable {P:Program} {w:World} {K:PySem.W.Frag} {mg:Str->Option Value} {base:Heap} {f T:Addr} {fd:FuncData}
theorem dI:aW ["web", "at", "one", "other", "reach", "seen", "ties", "k", "pair", "there"] ["web", "at"] (au i9):=⟨rfl,rfl,rfl,by decide +kernel,rfl,by decide +kernel,by decide +kernel⟩
theorem xE (F:Fun K "_law_way" "_law_way" i9 f fd) (B:Blt mg):cy P w K mg base CX0 1 f fd ["web", "at"] ju:=by
 refine F.ok dI (fun vs H Q E h => ?_) (fun cdv A outer s H vs Q E hr h => ?_)
 ·obtain ⟨_,_,_,_,rfl,_⟩:=fS.mp h
  rfl
 obtain ⟨r,m,k,ts,rfl,W,m2,hk,q⟩:=fS.mp h
 have hu:(jw CX0 P w K mg base ["web", "at", "one", "other", "reach", "seen", "ties", "k", "pair", "there"] "_law_way" (au i9) f cdv A outer s H E).nox.A.units + 1 < cLine:=vK hr
 refine ⟨_,(@ah _ _ _ _ _ (@bo _ _ _ _ _ _ (@aQ _ _ _ _ _ _ _ aV (@aQ _ _ _ _ _ _ _ aV (pv 0) ai (fun _ _=>rfl)) (pv 1) (fun _ _=>rfl)) (bh rfl (aq (aj (i:=2) dI.nd rfl (Or.inl rfl)) (aq (aj (i:=3) dI.nd rfl (Or.inl rfl)) aK))) rfl rfl rfl)
  (@ah _ _ _ _ _ (@aL _ _ 4 _ _ _ _ dI.nd rfl (Or.inl rfl) (@bY _ _ _ _ (@aa _ _ _ _ _ (pv 2) af rfl)) rfl (by first | exact .inl rfl | exact .inr rfl | assumption))
  (@ah _ _ _ _ _ (@aL _ _ 5 _ _ _ _ dI.nd rfl (Or.inl rfl) sV rfl (by first | exact .inl rfl | exact .inr rfl | assumption))
  (@ah _ _ _ _ _ (lN hu (pv 5) (pv 2) ai rfl)
  (@ah _ _ _ _ _ (@aL _ _ 6 _ _ _ _ dI.nd rfl (Or.inl rfl) (@aE _ _ _ _ _ _ _ _ i4 (cb dy (@aQ _ _ _ _ _ _ _ aV (pv 0) ai (fun _ _=>rfl)) cK (cz (pv 1))) (cb dy (@aQ _ _ _ _ _ _ _ aV (pv 0) ai (fun _ _=>rfl)) (cz (@aE _ _ _ _ _ _ _ _ bT (pv 1) ai)) cK)) rfl (by first | exact .inl rfl | exact .inr rfl | assumption))
  (@ah _ _ _ _ _ (@bQ _ _ _ _ _ _ _ _ (aJ eF (pv 2) (pv 3) (aR _)) (@av _ _ _ (@aU _ _ _ _ ai)) ba)
  (@ah _ _ _ _ _ (@aL _ _ 7 _ _ _ _ dI.nd rfl (Or.inl rfl) ai rfl (by first | exact .inl rfl | exact .inr rfl | assumption))
  (@ah _ _ _ _ _ (iy PassesOwn.never (aJ mv (pv 7) (ak aX rfl B.b_len dG (@aa _ _ _ _ _ (pv 4) af rfl)) (aR _))
   (@ah _ _ _ _ _ (@cx _ _ _ _ _ _ _ _ PassesOwn.never rfl (@nZ _ _ _ _ (pv 6)) (aj (i:=8) dI.nd rfl (Or.inl rfl))
    (@av _ _ _ (@bQ _ _ _ _ _ _ _ _ (aJ qy (@aQ _ _ _ _ _ _ _ cj (pv 4) (pv 7) (fun _ _=>rfl)) (pv 8) rfl) (@ah _ _ _ _ _ (@aL _ _ 9 _ _ _ _ dI.nd rfl (Or.inl rfl) (@aE _ _ _ _ _ _ _ _ cC (@aE _ _ _ _ _ _ _ _ bT (@aQ _ _ _ _ _ _ _ aV (pv 8) ai (fun _ _=>rfl)) (@aQ _ _ _ _ _ _ _ aV (pv 8) ai (fun _ _=>rfl))) (@aQ _ _ _ _ _ _ _ cj (pv 4) (pv 7) (fun _ _=>rfl))) rfl (by first | exact .inl rfl | exact .inr rfl | assumption))
     (@av _ _ _ (@bQ _ _ _ _ _ _ _ _ (kR (fw hu (pv 9) (pv 5))) (@ah _ _ _ _ _ (lN hu (pv 5) (pv 9) (@aE _ _ _ _ _ _ _ _ bT (pQ hu (pv 5) (@aQ _ _ _ _ _ _ _ cj (pv 4) (pv 7) (fun _ _=>rfl)) (fun _ _=>rfl)) ai) rfl)
      (@av _ _ _ (bN (cW PySem.F.plainAttrs_list PySem.F.slot_list_append PySem.F.type_list_append bK (pv 4) (@aa _ _ _ _ _ (pv 9) af rfl))))) ba))) ba)) (fun _=>rfl))
   (@av _ _ _ (@aL _ _ 7 _ _ _ _ dI.nd rfl (Or.inl rfl) (@aE _ _ _ _ _ _ _ _ bT (pv 7) ai) rfl (by first | exact .inl rfl | exact .inr rfl | assumption)))))
  (@av _ _ _ (@aU _ _ _ _ (sZ hu (pv 5) (pv 3) ai ⟨rfl,rfl,rfl,rfl⟩))))))))))),?_⟩
 obtain ⟨t,e1,e2⟩:=W.at'
 have O:=kI W
 obtain ⟨u0,eu0⟩:∃ u,ts[k]? = some u:=⟨_,List.getElem?_eq_getElem hk⟩
 obtain ⟨a,b,ab2,a0,ab,bm⟩:=W.pr u0 (List.mem_of_getElem? eu0)
 have hu0:=W.tup u0 (List.mem_of_getElem? eu0)
 rw [ab2] at hu0
 have ens:(ts.map (·.2))[k]? = some [a,b]:=by rw [List.getElem?_map,eu0, <- ab2]; rfl
 have fin:∀ (H':Hp) (L:Nat),aA H H'->(L=0/\gx (ts.map (·.2)) a b)\/cJ (ts.map (·.2)) a b L->Q (.int (L:Int)) H':=fun H' L s h=>q H' L s fun a' b' e=>by
  rw [ens] at e; cases e; exact h
 refine ⟨_,rfl,r,_,1,_,rfl,rfl,SqT.of e1,rfl,_,rfl,t,_,(k:Int),_,rfl,rfl,SqT.of e2,cM (by rw [List.getElem?_map,eu0]; rfl),u0.1,_,rfl,SqT.of hu0,rfl,_,_,rfl,_,_,rfl,rfl,_,rfl,(by show 1<=sizeLine; decide),fun rl hrl => ?_⟩
 have g1:=ae hrl (.lst [.int a])
 have erl:upd H rl (.lst [.int a]) rl=some (.lst (([(a,0)]:List (Int × Nat)).map fun e=>V.int e.1)):=ag
 generalize upd H rl (.lst [.int a])=H1 at g1 erl
 refine fun dd hdd => ?_
 have g2:=ae hdd (.dK [])
 have edd:upd H1 dd (.dK []) dd=some (.dK []):=ag
 have erl2:=g2 _ _ erl
 have ndr:rl ≠ dd:=aB erl hdd
 have hd0:=g1.free hdd
 generalize upd H1 dd (.dK [])=H2 at g2 edd erl2
 refine ⟨_,rfl,_,rfl,dd,_,rfl,lK.k (k:=Sum.inl a) edd (by decide),?_⟩
 rw [show putK ([]:List (Key × V)) (Sum.inl a) (.int 1)=mp (sn [(a,0)]) from rfl]
 have edd3:upd H2 dd (.dK (mp (sn [(a,0)]))) dd=some (.dK (mp (sn [(a,0)]))):=ag
 have erl3:upd H2 dd (.dK (mp (sn [(a,0)]))) rl=some (.lst (([(a,0)]:List (Int × Nat)).map fun e=>V.int e.1)):=by rw [aD ndr]; exact erl2
 have s3:=aA.bZ (g1.trans g2) hd0 (.dK (mp (sn [(a,0)])))
 generalize upd H2 dd (.dK (mp (sn [(a,0)])))=H3 at edd3 erl3 s3
 have lt:(ts.map fun u=>V.ref u.1).length=ts.length:=List.length_map _
 have l2:=W.len
 refine ⟨_,rfl,r,_,1,_,rfl,rfl,SqT.of (s3 _ _ e1),rfl,_,rfl,_,rfl,t,_,rfl,s3 _ _ e2,fun p1 H4 s4 e4 => ?_⟩
 rw [lV _ (by rw [lt]; omega), <- List.map_take] at e4
 refine ⟨_,rfl,r,_,1,_,rfl,rfl,SqT.of (s4 _ _ (s3 _ _ e1)),rfl,_,rfl,_,_,rfl,rfl,_,rfl,t,_,rfl,s4 _ _ (s3 _ _ e2),fun p2 H5 s5 e5 => ?_⟩
 rw [show ((k:Int) + 1)=((k + 1:Nat):Int) by omega,gY _ (by rw [lt]; omega), <- List.map_drop] at e5
 refine ⟨p1,p2,_,_,rfl,rfl,s5 _ _ e4,e5,by rw [List.length_map,List.length_map,List.length_take,List.length_drop]; exact small (by omega),fun tp H6 s6 e6 => ?_⟩
 rw [<- List.map_append, <- List.eraseIdx_eq_take_drop_succ] at e6
 have s46:=s4.trans (s5.trans s6)
 have s06:=s3.trans s46
 have edd6:=s46 _ _ edd3
 have erl6:=s46 _ _ erl3
 have eus:(ts.eraseIdx k).map (·.2)=(ts.map (·.2)).eraseIdx k:=(dW _ _ _).symm
 refine ⟨_,rfl,_,rfl,rfl,_,rfl,gc (fun z => ?_) fun z => ?_⟩
 ·have eq:a=b:=by simpa using z
  exact fin H6 1 s06 (.inr (.inl ⟨eq,rfl⟩))
 have ne:a ≠ b:=by simpa using z
 have hus:∀ u ∈ ts.eraseIdx k,∃ x y:Int,u.2=[x,y]/\H u.1=some (.tup [.int x,.int y])/\[x,y] ∈ (ts.map (·.2)).eraseIdx k:=fun u hu=>by
  obtain ⟨x,y,e,h⟩:=W.pr u (List.mem_of_mem_eraseIdx hu)
  have:=W.tup u (List.mem_of_mem_eraseIdx hu)
  rw [e] at this
  refine ⟨x,y,e,this,?_⟩
  rw [<- eus, <- e]; exact List.mem_map_of_mem (f:=(·.2)) hu
 generalize hU:ts.eraseIdx k=us at e6 hus eus
 generalize hN:(ts.map (·.2)).eraseIdx k=ns' at eus hus
 have O':Ok m ns':=fun t ht=>O t (List.mem_of_mem_eraseIdx (hN ▸ ht))
 have kl:∀ {k d:Nat} {C:List (Int × Nat)},Bq (Rt ns') a k d C->C.length<=m:=fun {k d C} I=>by
  have:=dX I.nd (m:=m) fun v hv=>by
   obtain ⟨e,he,rfl⟩:=List.mem_map.mp hv
   exact (I.ds e he).1.rngT O' ⟨a0,by omega⟩
  rwa [List.length_map] at this
 have lus:us.length<=200:=by rw [<- hU,List.length_eraseIdx]; split <;> omega
 refine iz (fun σ H'=>∃ (c8 c9:Option V) (j d:Nat) (C:List (Int × Nat)),σ=[some (.ref r),some (.int k),some (.int a),some (.int b),some (.ref rl),some (.ref dd),some (.ref tp),some (.int j),c8,c9]/\aA H H'/\H' tp=some (.tup (us.map fun u => .ref u.1))/\H' rl=some (.lst (C.map fun e=>V.int e.1))/\H' dd=some (.dK (mp (sn C)))/\Bq (Rt ns') a j d C/\(j < C.length->∃ p,C[j]? = some (p,d))/\j<=C.length)
  (fun σ _=>m + 1 - kOf σ) ⟨none,none,0,0,[(a,0)],rfl,s06,e6,erl6,edd6,Bq.start _ _,fun _=>⟨a,rfl⟩,by simp⟩ ?_ ?_
 ·rintro σ H7 ⟨c8,c9,j,d,C,rfl,s7,e7,er,ed,I,hp,jC⟩
  have kC:=kl I
  refine ⟨_,rfl,_,rfl,rl,_,rfl,.inl (SqL.of er),_,_,rfl,rfl,_,rfl,?_⟩
  rw [List.length_map]
  by_cases hj:j < C.length
  ·rw [decide_eq_true (show (j:Int) < (C.length:Int) by omega)]
   obtain ⟨p,ep⟩:=hp hj
   refine cB ⟨_,rfl,tp,rfl,⟨_,SqT.of e7⟩,uq (xs:=us.map fun u => .ref u.1) (fun i σ H8=>∃ (c8 c9:Option V) (C8:List (Int × Nat)),σ=[some (.ref r),some (.int k),some (.int a),some (.int b),some (.ref rl),some (.ref dd),some (.ref tp),some (.int j),c8,c9]/\aA H H8/\H8 tp=some (.tup (us.map fun u => .ref u.1))/\H8 rl=some (.lst (C8.map fun e=>V.int e.1))/\H8 dd=some (.dK (mp (sn C8)))/\Bq (Rt ns') a j d C8/\C8[j]? = some (p,d)/\∀ u ∈ us.take i,∀ x y,u.2=[x,y]->p=x\/p=y->x + y - p ∈ C8.map (·.1))
    ⟨_,_,C,rfl,s7,e7,er,ed,I,ep,fun u hu=>by simp at hu⟩ (fun i σ H8 _ z => ?_) ?_ ?_⟩
   ·obtain ⟨_,_,_,_,_,e,_⟩:=z
    exact SqT.of e
   ·rintro i x σ H8 hx ⟨c8,c9,C8,rfl,s8,e8,er8,ed8,I8,ep8,cl8⟩
    obtain ⟨u,eu,rfl⟩:=item hx
    have uin:=List.mem_of_getElem? eu
    obtain ⟨x,y,exy,hu,hin⟩:=hus u uin
    have hu8:=s8 _ _ hu
    have atp:atI (C8.map fun e=>V.int e.1) (j:Int)=some (.int p):=cM (by rw [List.getElem?_map,ep8]; rfl)
    have step:∀ {C9:List (Int × Nat)},(∀ v,v ∈ C8.map (·.1)->v ∈ C9.map (·.1))->(p=x\/p=y->x + y - p ∈ C9.map (·.1))->∀ u ∈ us.take (i + 1),∀ x y,u.2=[x,y]->p=x\/p=y->x + y - p ∈ C9.map (·.1):=fun {C9} up h u' hu' x' y' e' h'=>by
     rw [List.take_add_one,eu] at hu'
     rcases List.mem_append.mp hu' with z | z
     ·exact up _ (cl8 u' z x' y' e' h')
     ·have:u'=u:=by simpa using z
      subst this
      rw [exy] at e'; cases e'; exact h h'
    refine ⟨_,rfl,_,rfl,rl,_,(j:Int),_,rfl,rfl,SqL.of er8,atp,_,rfl,u.1,_,rfl,.inr (SqT.of hu8),rfl,rE [x,y],_,rfl,?_⟩
    show if (if false=true then _ else inV (.int p) ([x,y].map V.int))=true then _ else _
    rw [if_neg Bool.false_ne_true,nC]
    by_cases c:p ∈ [x,y]
    ·rw [decide_eq_true c]
     have c':p=x\/p=y:=by simpa using c
     refine cB ⟨_,rfl,u.1,_,0,_,rfl,rfl,SqT.of hu8,rfl,_,rfl,u.1,_,1,_,rfl,rfl,SqT.of hu8,rfl,_,_,rfl,rfl,_,rfl,_,rfl,rl,_,(j:Int),_,rfl,rfl,SqL.of er8,atp,_,_,rfl,rfl,?_⟩
     refine ⟨_,rfl,_,rfl,dd,_,rfl,eR.k (k:=Sum.inl (x + y - p)) ed8,_,rfl,?_⟩
     rw [qd,iw]
     by_cases ho:x + y - p ∈ C8.map (·.1)
     ·rw [decide_eq_true ho]
      exact dj ⟨_,_,C8,rfl,s8,e8,er8,ed8,I8,ep8,step (fun v h=>h) fun _=>ho⟩
     rw [decide_eq_false ho]
     have pin:=List.mem_of_getElem? ep8
     have l8:=kl I8
     have jl:=(List.getElem?_eq_some_iff.mp ep8).1
     have hgp:eR H8 dd (.int p) (some (.int ((d:Int) + 1))):=by
      have:=eR.k (k:=Sum.inl p) ed8
      rw [xD I8.nd pin] at this
      exact this
     have hd:lK H8 dd (.int (x + y - p)) (.int ((d:Int) + 1 + 1)) (upd H8 dd (.dK (putK (mp (sn C8)) (Sum.inl (x + y - p)) (.int ((d:Int) + 1 + 1))))):=lK.k (k:=Sum.inl (x + y - p)) ed8 (by rw [lT]; unfold sn; rw [List.length_map]; exact jm (by omega))
     rw [tW (by rw [iw]; exact ho),show ((d:Int) + 1 + 1)=(((d + 1:Nat):Int) + 1) by omega, <- vA] at hd
     refine cB ⟨_,rfl,_,rfl,_,rfl,rl,_,(j:Int),_,rfl,rfl,SqL.of er8,atp,dd,_,rfl,hgp,_,_,rfl,rfl,_,rfl,_,rfl,dd,_,rfl,(show ((d:Int) + 1 + 1)=(((d + 1:Nat):Int) + 1) by omega) ▸ hd,?_⟩
     have ed9:upd H8 dd (.dK (mp (sn (C8 ++ [(x + y - p,d + 1)])))) dd=some (.dK (mp (sn (C8 ++ [(x + y - p,d + 1)])))):=ag
     have er9:upd H8 dd (.dK (mp (sn (C8 ++ [(x + y - p,d + 1)])))) rl=some (.lst (C8.map fun e=>V.int e.1)):=by rw [aD (fT er8 ed8 (by intro z; cases z))]; exact er8
     have e9:upd H8 dd (.dK (mp (sn (C8 ++ [(x + y - p,d + 1)])))) tp=some (.tup (us.map fun u => .ref u.1)):=by rw [aD (fT e8 ed8 (by intro z; cases z))]; exact e8
     have s9:=aA.bZ s8 hd0 (.dK (mp (sn (C8 ++ [(x + y - p,d + 1)]))))
     generalize upd H8 dd (.dK (mp (sn (C8 ++ [(x + y - p,d + 1)]))))=H9 at ed9 er9 e9 s9
     refine ⟨_,rfl,.inl ⟨rfl,_,SqL.of er9⟩,_,rfl,rl,_,_,rfl,rfl,er9,by rw [List.length_map]; exact jm (by omega),?_⟩
     refine ⟨_,_,C8 ++ [(x + y - p,d + 1)],rfl,aA.bZ s9 hrl _,by rw [aD (fT e9 er9 (by intro z; cases z))]; exact e9,by rw [ag,List.map_append]; rfl,by rw [aD (fT ed9 er9 (by intro z; cases z))]; exact ed9,I8.add jl pin ⟨x,y,hin,c',rfl⟩ ho,by rw [List.getElem?_append_left jl]; exact ep8,step (fun v h=>by rw [List.map_append]; exact List.mem_append_left _ h) fun _=>by rw [List.map_append]; exact List.mem_append_right _ (by simp)⟩
    ·rw [decide_eq_false c]
     exact dj ⟨_,_,C8,rfl,s8,e8,er8,ed8,I8,ep8,step (fun v h=>h) fun h=>absurd (by simpa using h) c⟩
   ·rintro σ H8 ⟨c8,c9,C8,rfl,s8,e8,er8,ed8,I8,ep8,cl8⟩
    rw [List.length_map,List.take_of_length_le (Nat.le_refl _)] at cl8
    have jl:=(List.getElem?_eq_some_iff.mp ep8).1
    have l8:=kl I8
    have cl:∀ o,Rt ns' p o->o ∈ C8.map (·.1):=fun o ⟨x,y,hin,hp,e⟩=>by
     rw [<- eus] at hin
     obtain ⟨u,hu,e2⟩:=List.mem_map.mp hin
     rw [e]; exact cl8 u hu x y e2 hp
    refine ⟨_,rfl,_,_,rfl,rfl,?_,?_⟩
    ·by_cases h2:j + 1 < C8.length
     ·obtain ⟨⟨p',d'⟩,e'⟩:∃ e,C8[j + 1]? = some e:=⟨_,List.getElem?_eq_getElem h2⟩
      exact ⟨_,_,j + 1,d',C8,rfl,s8,e8,er8,ed8,I8.next ep8 cl e',fun _=>⟨p',e'⟩,by omega⟩
     ·exact ⟨_,_,j + 1,d,C8,rfl,s8,e8,er8,ed8,I8.shut ep8 cl,fun h=>absurd h h2,by omega⟩
    ·show m + 1 - ((j:Int) + 1).toNat < m + 1 - (j:Int).toNat
     omega
  ·rw [decide_eq_false (show ¬ (j:Int) < (C.length:Int) by omega)]
   refine dj ⟨_,rfl,dd,rfl,.inl ⟨_,.inl ed⟩,_,rfl,_,eR.k (k:=Sum.inl b) ed,?_⟩
   rcases jj b (sn C) with ⟨h1,h2⟩ | ⟨x,h1,h2⟩
   ·rw [h2]
    rw [iw] at h1
    exact fin H7 0 s7 (.inl ⟨rfl,t9 O ens ne fun n w=>h1 (I.all (by omega) (hN ▸ w))⟩)
   ·rw [h2]
    obtain ⟨d',hd',rfl⟩:=uf h1
    have:=fin H7 (d' + 1) s7 (.inr (t8 O ens ne (hN ▸ I.ds _ hd')))
    rw [show (((d' + 1:Nat)):Int)=(d':Int) + 1 by omega] at this
    exact this
 ·rintro σ H Q Q' h hc
  obtain ⟨v,e,v2,e2,p,ys,e3,hs,i,j',e4,e5,c,e6,qq⟩:=hc
  exact ⟨v,e,v2,e2,p,ys,e3,hs,i,j',e4,e5,c,e6,h _ _ qq⟩
end
open PySem L2
def hl (s:Int) (p:Nat):List (Int × Int):=(List.range 10).map fun k:Nat=>((p:Int),20 + ((p:Int) + s * (k:Int)) % 20)
def hb (s:Int) (j:Nat):List (Int × Int):=(List.range j).flatMap (hl s)
theorem vB (s:Int) (j:Nat):hb s (j + 1)=hb s j ++ hl s j:=by unfold hb; rw [List.range_succ,List.flatMap_append]; simp
def two (q:Int × Int):List Int:=[q.1,q.2]
def HB (s:Int):List (List Int):=(hb s 20).map two
theorem o3 {s:Int} {t:List Int}:t ∈ HB s ↔ ∃ p k:Nat,p < 20/\k < 10/\t=[(p:Int),20 + ((p:Int) + s * (k:Int)) % 20]:=by
 unfold HB hb hl
 constructor
 ·intro h
  obtain ⟨q,hq,rfl⟩:=List.mem_map.mp h
  obtain ⟨p,hp,hq⟩:=List.mem_flatMap.mp hq
  obtain ⟨k,hk,rfl⟩:=List.mem_map.mp hq
  exact ⟨p,k,List.mem_range.mp hp,List.mem_range.mp hk,rfl⟩
 ·rintro ⟨p,k,hp,hk,rfl⟩
  exact List.mem_map.mpr ⟨_,List.mem_flatMap.mpr ⟨p,List.mem_range.mpr hp,List.mem_map.mpr ⟨k,List.mem_range.mpr hk,rfl⟩⟩,rfl⟩
theorem ug {s:Int} {x y:Int} (h:[x,y] ∈ HB s):0<=x/\x < 20/\20<=y/\y < 40:=by
 obtain ⟨p,k,hp,hk,e⟩:=o3.mp h
 cases e
 omega
def sOf (n:Nat):Int:=[1,3,7,9].getD n 0
theorem vV:∀ n,n < 4->(HB (sOf n)).Nodup:=by decide +kernel
theorem yx {ns:List (List Int)} (nd:ns.Nodup) (lp:∀ a,[a,a] ∉ ns) {a b:Int} {L:Nat} (h:[a,b] ∈ ns) (al:cJ ns a b L):∃ N,Dst (stp ns a b) a N b/\L=N + 1/\2<=N/\a ≠ b/\ns.count [a,b] < 2:=by
 rcases al with ⟨e,rfl⟩ | ⟨ne,c2,rfl⟩ | ⟨ne,c2,N,d,rfl⟩
 ·subst e; exact absurd h (lp a)
 ·have:=List.nodup_iff_count.mp nd [a,b]; omega
 ·refine ⟨N,d,rfl,?_,ne,c2⟩
  rcases N with _ | _ | N
  ·exact absurd d.1.zero.symm ne
  ·cases d.1 with
   | st w r =>
    have:=w.zero
    subst this
    exact absurd r.2 (by simp)
  ·omega
theorem uh {m:Nat} {ns:List (List Int)} (O:Ok m ns) (hb:∀ x y,[x,y] ∈ ns->x < 20/\20<=y) {p o:Int} (h:Adj ns p o):p < 20 ↔ 20<=o:=by
 obtain ⟨a,b,hab,ne,hx⟩:=(ir O).mp h
 have:=hb a b hab
 rcases hx with ⟨rfl,rfl⟩ | ⟨rfl,rfl⟩ <;> omega
theorem vC {ns:List (List Int)} (O:Ok 40 ns) {n:Nat} (hn:n < 4) (pm:ns.Perm (HB (sOf n))):gE ns 4:=by
 have nd:ns.Nodup:=pm.nodup_iff.mpr (vV n hn)
 have bp:∀ x y,[x,y] ∈ ns->x < 20/\20<=y:=fun x y h=>by
  have:=ug (pm.mem_iff.mp h); omega
 have lp:∀ a,[a,a] ∉ ns:=fun a h=>by have:=bp a a h; omega
 have no2:∀ {a b:Int},[a,b] ∈ ns->¬ Wk (stp ns a b) a 2 b:=fun {a b} h w=>by
  cases w with
  | st w r =>
   cases w with
   | st w r' =>
    have:=w.zero
    subst this
    have h1:=uh O bp r.1
    have h2:=uh O bp r'.1
    have:=bp _ _ h
    omega
 refine ⟨?_,fun a b L h al => ?_⟩
 ·have s4:sOf n=1\/sOf n=3\/sOf n=7\/sOf n=9:=by
   have:∀ n,n < 4->sOf n=1\/sOf n=3\/sOf n=7\/sOf n=9:=by decide
   exact this n hn
  have mem:∀ (p k:Nat),p < 20->k < 10->[(p:Int),20 + ((p:Int) + sOf n * (k:Int)) % 20] ∈ ns:=fun p k hp hk=>pm.mem_iff.mpr (o3.mpr ⟨p,k,hp,hk,rfl⟩)
  generalize sOf n=s at s4 mem
  obtain ⟨sn,rfl⟩:∃ k:Nat,s=k:=⟨s.toNat,by omega⟩
  have t1:[(0:Int),20 + sn] ∈ ns:=by have:=mem 0 1 (by decide) (by decide); rwa [show (20:Int) + (((0:Nat):Int) + sn * ((1:Nat):Int)) % 20=20 + sn by omega] at this
  have t2:[(0:Int),20 + 2 * sn] ∈ ns:=by have:=mem 0 2 (by decide) (by decide); rwa [show (20:Int) + (((0:Nat):Int) + sn * ((2:Nat):Int)) % 20=20 + 2 * sn by omega] at this
  have t3:[(sn:Int),20 + 2 * sn] ∈ ns:=by have:=mem sn 1 (by omega) (by decide); rwa [show (20:Int) + ((sn:Int) + sn * ((1:Nat):Int)) % 20=20 + 2 * sn by omega] at this
  have t4:[(sn:Int),20 + sn] ∈ ns:=by have:=mem sn 0 (by omega) (by decide); rwa [show (20:Int) + ((sn:Int) + sn * ((0:Nat):Int)) % 20=20 + sn by omega] at this
  have td:∀ {x y:Int},[x,y] ∈ ns->Adj ns x y/\Adj ns y x:=fun {x y} h=>by
   have:=bp x y h
   have a1:Adj ns x y:=(gW O).mpr ⟨by omega,by unfold Td; rw [bA (by omega)]; exact h⟩
   exact ⟨a1,nF O a1⟩
  refine ⟨0,20 + sn,t1,.inr (.inr ⟨by omega,by have:=List.nodup_iff_count.mp nd [0,20 + (sn:Int)]; omega,3,⟨?_,fun k hk w => ?_⟩,rfl⟩)⟩
  ·exact .st (.st (.st .z ⟨(td t2).1,.inr (by omega)⟩) ⟨(td t3).2,.inl (by omega)⟩) ⟨(td t4).1,.inl (by omega)⟩
  ·rcases (show k=0\/k=1\/k=2 by omega) with z | z | z
   ·subst z; have:=w.zero; omega
   ·subst z
    cases w with
    | st w r =>
     have:=w.zero
     subst this
     exact absurd r.2 (by simp)
   ·subst z; exact no2 t1 w
 ·obtain ⟨N,d,rfl,h2,ne,c2⟩:=yx nd lp h al
  rcases Nat.lt_or_ge N 3 with z | z
  ·have:N=2:=by omega
   subst this
   exact absurd d.1 (no2 h)
  ·omega
def inb (s p j:Nat):Bool:=(List.range 10).any fun k=>(p + s * k) % 20 == j
def chk (s one d:Nat):Bool:=(List.range 20).any fun j=>inb s one j && inb s ((one + s * (1 + d)) % 20) j && !((one == one / 10) && (j == (one / 10 + s * (one % 10)) % 20)) && !(((one + s * (1 + d)) % 20 == one / 10) && (j == (one / 10 + s * (one % 10)) % 20)) && !((one + s * (1 + d)) % 20 == one)
theorem vD:∀ s ∈ [1,3,7,9],∀ one,one < 20->∀ d,d < 5->chk s one d=true:=by decide +kernel
theorem yy:∀ n,n < 4->∀ one,one < 20->(HB (sOf n))[one]? = some [((one / 10:Nat):Int),20 + (((one / 10:Nat):Int) + sOf n * ((one % 10:Nat):Int)) % 20]:=by decide +kernel
theorem vE {ns:List (List Int)} (O:Ok 40 ns) {n one d:Nat} (hn:n < 4) (h1:one < 20) (hd:d < 5) (pm:ns.Perm ((HB (sOf n)).eraseIdx one ++ [nrm (one:Int) (((one:Int) + sOf n * (1 + (d:Int))) % 20)])):gE ns 3:=by
 have ndH:=vV n hn
 have eo:=yy n hn one h1
 obtain ⟨sN,hs,es⟩:∃ k:Nat,k ∈ [1,3,7,9]/\sOf n=(k:Int):=by
  have:∀ n,n < 4->∃ k:Nat,k ∈ [1,3,7,9]/\sOf n=(k:Int):=fun n hn=>by
   rcases (show n=0\/n=1\/n=2\/n=3 by omega) with z | z | z | z <;> subst z
   ·exact ⟨1,by simp,rfl⟩
   ·exact ⟨3,by simp,rfl⟩
   ·exact ⟨7,by simp,rfl⟩
   ·exact ⟨9,by simp,rfl⟩
  exact this n hn
 have ck:=vD sN hs one h1 d hd
 have mH:∀ {p j:Nat},p < 20->inb sN p j=true->[(p:Int),20 + (j:Int)] ∈ HB (sOf n):=fun {p j} hp h=>by
  obtain ⟨k,hk,e⟩:=List.any_eq_true.mp h
  refine o3.mpr ⟨p,k,hp,List.mem_range.mp hk,?_⟩
  have e':(p + sN * k) % 20=j:=by simpa using e
  rw [es, <- e']
  congr 2
 have bip:∀ {x y},[x,y] ∈ (HB (sOf n)).eraseIdx one->x < 20/\20<=y:=fun h=>by
  have:=ug (List.mem_of_mem_eraseIdx h); omega
 obtain ⟨j,hj,c⟩:=List.any_eq_true.mp ck
 obtain ⟨⟨⟨⟨c1,c2⟩,c3⟩,c4⟩,c5⟩:(((inb sN one j=true/\inb sN ((one + sN * (1 + d)) % 20) j=true)/\¬ (one=one / 10/\j=(one / 10 + sN * (one % 10)) % 20))/\¬ ((one + sN * (1 + d)) % 20=one / 10/\j=(one / 10 + sN * (one % 10)) % 20))/\¬ (one + sN * (1 + d)) % 20=one:=by
  have c':(((inb sN one j=true/\inb sN ((one + sN * (1 + d)) % 20) j=true)/\(¬one=one / 10\/¬j=(one / 10 + sN * (one % 10)) % 20))/\(¬(one + sN * (1 + d)) % 20=one / 10\/¬j=(one / 10 + sN * (one % 10)) % 20))/\¬(one + sN * (1 + d)) % 20=one:=by simpa [Bool.and_eq_true] using c
  exact ⟨⟨⟨c'.1.1.1,fun z=>c'.1.1.2.elim (fun y=>y z.1) fun y=>y z.2⟩,fun z=>c'.1.2.elim (fun y=>y z.1) fun y=>y z.2⟩,c'.2⟩
 have eOth:(((one:Int) + sOf n * (1 + (d:Int))) % 20)=(((one + sN * (1 + d)) % 20:Nat):Int):=by rw [es]; simp
 rw [eOth] at pm
 have ho:(one + sN * (1 + d)) % 20 < 20:=Nat.mod_lt _ (by decide)
 generalize (one + sN * (1 + d)) % 20=oth at pm c2 c4 c5 ho
 have pop:∀ p:Nat,¬ (p=one / 10/\j=(one / 10 + sN * (one % 10)) % 20)->[(p:Int),20 + (j:Int)] ≠ [((one / 10:Nat):Int),20 + (((one / 10:Nat):Int) + sOf n * ((one % 10:Nat):Int)) % 20]:=fun p h e=>by
  rw [es] at e
  injection e with e1 e2
  injection e2 with e2 _
  refine h ⟨by omega,?_⟩
  have:((j:Nat):Int)=(((one / 10 + sN * (one % 10)) % 20:Nat):Int):=by
   rw [Int.natCast_emod,Int.natCast_add,Int.natCast_mul]
   omega
  exact Int.ofNat_inj.mp this
 have i1:[(one:Int),20 + (j:Int)] ∈ ns:=pm.mem_iff.mpr (List.mem_append_left _ ((mem_erase_iff eo _).mpr (.inr ⟨pop one c3,mH h1 c1⟩)))
 have i2:[(oth:Int),20 + (j:Int)] ∈ ns:=pm.mem_iff.mpr (List.mem_append_left _ ((mem_erase_iff eo _).mpr (.inr ⟨pop oth c4,mH ho c2⟩)))
 have i3:nrm (one:Int) oth ∈ ns:=pm.mem_iff.mpr (List.mem_append_right _ (by simp))
 have nd:ns.Nodup:=by
  rw [pm.nodup_iff,List.nodup_append]
  refine ⟨List.Nodup.sublist (List.eraseIdx_sublist _ _) ndH,by simp,fun x hx y hy e => ?_⟩
  rw [List.mem_singleton] at hy
  subst e; subst hy
  rcases Int.le_total (one:Int) oth with z | z
  ·rw [bA z] at hx; have:=bip hx; omega
  ·rw [cc,bA z] at hx; have:=bip hx; omega
 have lp:∀ a,[a,a] ∉ ns:=fun a h=>by
  rcases List.mem_append.mp (pm.mem_iff.mp h) with z | z
  ·have:=bip z; omega
  ·rw [List.mem_singleton] at z
   rcases Int.le_total (one:Int) oth with y | y
   ·rw [bA y] at z; injection z with z1 z2; injection z2 with z2 _; omega
   ·rw [cc,bA y] at z; injection z with z1 z2; injection z2 with z2 _; omega
 have adj:∀ {x:Nat},[(x:Int),20 + (j:Int)] ∈ ns->x < 20->Adj ns x (20 + j):=fun {x} h hx=>(gW O).mpr ⟨by omega,by unfold Td; rw [bA (by omega)]; exact h⟩
 have mk:∀ {x y:Nat},x < 20->y < 20->x ≠ y->(x:Int)<=y->[(x:Int),20 + (j:Int)] ∈ ns->[(y:Int),20 + (j:Int)] ∈ ns->[(x:Int),(y:Int)] ∈ ns->cJ ns x y 3:=fun {x y} hx hy ne le j1 j2 j3=>by
  refine .inr (.inr ⟨by omega,by have:=List.nodup_iff_count.mp nd [(x:Int),(y:Int)]; omega,2,⟨.st (.st .z ⟨adj j1 hx,.inr (by omega)⟩) ⟨nF O (adj j2 hy),.inl (by omega)⟩,fun k hk w => ?_⟩,rfl⟩)
  rcases (show k=0\/k=1 by omega) with z | z
  ·subst z; have:=w.zero; omega
  ·subst z
   cases w with
   | st w r =>
    have:=w.zero
    subst this
    exact absurd r.2 (by simp)
 refine ⟨?_,fun a b L h al => ?_⟩
 ·rcases Int.le_total (one:Int) oth with z | z
  ·rw [bA z] at i3
   exact ⟨one,oth,i3,mk h1 ho (by omega) z i1 i2 i3⟩
  ·rw [cc,bA z] at i3
   exact ⟨oth,one,i3,mk ho h1 (by omega) z i2 i1 i3⟩
 ·obtain ⟨N,d,rfl,h2,ne,c2⟩:=yx nd lp h al
  omega
theorem bS.ext {H:Hp} {l b:Addr} {m:Int} {ts vs:List (Addr × Int × Int)} {ys:List V} (h:bS H l m ts) (T:T3 H ys vs) (hb:H b=none) (bv:∀ t ∈ vs,0<=t.2.1/\t.2.1 < m/\0<=t.2.2/\t.2.2 < m) :
  bS (upd (upd H b (.lst ys)) l (.lst ((ts.map fun t => .ref t.1) ++ ys))) l m (ts ++ vs):=by
 have s:=ae hb (.lst ys)
 rw [T.1, <- List.map_append]
 refine (h.same (ae hb (.lst (vs.map fun u=>V.ref u.1)))).put (H:=H) (fun t ht => ?_) fun t ht => ?_
 ·rcases List.mem_append.mp ht with z | z
  ·exact (ae hb _) _ _ (h.tup t z)
  ·exact (ae hb _) _ _ (T.2 t z)
 ·rcases List.mem_append.mp ht with z | z
  ·exact h.bnd t z
  ·exact bv t z
abbrev kM:Sp:=fun vs H Q _=>∃ n:Int,vs=[.int n]/\0<=n/\∀ (p b:Addr) (due:Nat) (ts:List (Addr × List Int)) (H':Hp),aA H H'->H' p=some (.tup [.ref b,.int (due:Int)])->Wb H' b (40:Nat) ts->gE (ts.map (·.2)) due->Q (.ref p) H'
@[irreducible] def ff:Sp:=kM
theorem eD {vs:List V} {H:Hp} {Q:VK} {E:XK}:ff vs H Q E ↔ kM vs H Q E:=by
 delta ff
 exact Iff.rfl
theorem ui {d:Nat} (h:d < 4):atI [V.int 1,.int 3,.int 7,.int 9] (d:Int)=some (.int (sOf d)):=by
 rcases (show d=0\/d=1\/d=2\/d=3 by omega) with z | z | z | z <;> subst z <;> rfl
theorem vF {d:Nat} (h:d < 4):1<=sOf d/\sOf d<=9:=by
 rcases (show d=0\/d=1\/d=2\/d=3 by omega) with z | z | z | z <;> subst z <;> decide
theorem vG (s:Int) (p k:Nat):((List.range (k + 1)).map fun k:Nat=>((p:Int),20 + ((p:Int) + s * (k:Int)) % 20))=((List.range k).map fun k:Nat=>((p:Int),20 + ((p:Int) + s * (k:Int)) % 20)) ++ [((p:Int),20 + ((p:Int) + s * (k:Int)) % 20)]:=by
 rw [List.range_succ,List.map_append]; rfl
theorem T3.yz {H H':Hp} {ys:List V} {us:List (Addr × Int × Int)} (h:T3 H ys us) (s:aA H H'):T3 H' ys us:=⟨h.1,fun u hu=>s _ _ (h.2 u hu)⟩
section
variable {P:Program} {w:World} {K:PySem.W.Frag} {mg:Str->Option Value} {base:Heap} {f T:Addr} {fd:FuncData}
theorem bE:aW ["number", "step", "within", "one", "by", "ties", "place", "other"] ["number"] (au dg):=⟨rfl,rfl,rfl,by decide +kernel,rfl,by decide +kernel,by decide +kernel⟩
theorem eE:(["k", "place", "step"]:List Str).Nodup:=by decide +kernel
theorem rL (F:Fun K "_law_halves" "_law_halves" dg f fd) (B:Blt mg):cy P w K mg base CX0 1 f fd ["number"] ff:=by
 refine F.ok bE (fun vs H Q E h => ?_) (fun cdv A outer s H vs Q E hr h => ?_)
 ·obtain ⟨_,rfl,_⟩:=eD.mp h
  rfl
 obtain ⟨n,rfl,n0,q⟩:=eD.mp h
 refine cR ((aH dg).drop 7) (fun σ H'=>∃ (v0 v1 v3 v4 wi:Int) (l:Addr) (us:List (Addr × Int × Int)) (due:Nat) (c6 c7:Option V),σ=[some (.int v0),some (.int v1),some (.int wi),some (.int v3),some (.int v4),some (.ref l),c6,c7]/\aA H H'/\TO H' l 40 us/\us.length<=200/\atI [V.int 4,V.int 3] wi=some (.int (due:Int))/\∀ ns,Ok 40 ns->ns.Perm ((us.map (·.2)).map two)->gE ns due) ?hT fun tT pT mT => ?gT
 case hT =>
  refine ⟨_,(@av _ _ _ (@aU _ _ _ _ (@bO _ _ _ _ _ (@aa _ _ _ _ _ (@bO _ _ _ _ _ (@aa _ _ _ _ _ ai (@aa _ _ _ _ _ (bj bC rfl B.b_tuple dh (@aa _ _ _ _ _ (ak d8 rfl B.b_sorted cQ (@aa _ _ _ _ _ (pv 5) af rfl)) af rfl)) af rfl) rfl)) (@aa _ _ _ _ _ (@aQ _ _ _ _ _ _ _ cj (@bY _ _ _ _ (@aa _ _ _ _ _ ai (@aa _ _ _ _ _ ai af rfl) rfl)) (pv 2) (fun _ _=>rfl)) af rfl) rfl)))),?_⟩
  rintro σ H' ⟨v0,v1,v3,v4,wi,l,us,due,c6,c7,rfl,s',tA,l2,ad,hL⟩
  refine ⟨_,rfl,l,us.map rw3,rfl,.inl (SqL.of (by rw [qa]; exact tA.1.at')),fun u hu=>⟨SqT.of (tA.row u hu).1,fun z => ?_⟩,fun L2 out hL2 po ps => ?_⟩
  ·obtain ⟨_,x,y,e,_⟩:=tA.row u hu
   rw [z] at e; cases e
  have g1:=ae hL2 (.lst (out.map fun t => .ref t.1))
  refine ⟨L2,_,rfl,.inl ⟨SqL.of ag,fun l3 hl3 => ?_⟩⟩
  have g2:=ae hl3 (.tup (out.map fun t => .ref t.1))
  refine ⟨(by show 2<=sizeLine; decide),fun b hb => ?_⟩
  have g3:=ae hb (.tup [.int 40,.ref l3])
  have e3:upd (upd (upd H' L2 (.lst (out.map fun t => .ref t.1))) l3 (.tup (out.map fun t => .ref t.1))) b (.tup [.int 40,.ref l3]) b=some (.tup [.int 40,.ref l3]):=ag
  have el3:upd (upd (upd H' L2 (.lst (out.map fun t => .ref t.1))) l3 (.tup (out.map fun t => .ref t.1))) b (.tup [.int 40,.ref l3]) l3=some (.tup (out.map fun t => .ref t.1)):=g3 _ _ ag
  have s3:=g1.trans (g2.trans g3)
  generalize upd (upd (upd H' L2 (.lst (out.map fun t => .ref t.1))) l3 (.tup (out.map fun t => .ref t.1))) b (.tup [.int 40,.ref l3])=H3 at e3 el3 s3
  refine ⟨(by show 2<=sizeLine; decide),fun l4 hl4 => ?_⟩
  have g4:=ae hl4 (.lst [.int 4,.int 3])
  have el4:upd H3 l4 (.lst [.int 4,.int 3]) l4=some (.lst [.int 4,.int 3]):=ag
  generalize upd H3 l4 (.lst [.int 4,.int 3])=H4 at g4 el4
  refine ⟨_,rfl,l4,_,wi,_,rfl,rfl,SqL.of el4,ad,(by show 2<=sizeLine; decide),fun p hp => ?_⟩
  have g5:=ae hp (.tup [.ref b,.int (due:Int)])
  have s5:=s3.trans (g4.trans g5)
  have Wf:Wb (upd H4 p (.tup [.ref b,.int (due:Int)])) b (40:Nat) out:=⟨⟨l3,g5 _ _ (g4 _ _ e3),g5 _ _ (g4 _ _ el3)⟩,fun u hu=>s5 _ _ (tA.row u (po.mem_iff.mp hu)).1,fun u hu=>(tA.row u (po.mem_iff.mp hu)).2,by rw [po.length_eq,List.length_map]; exact l2⟩
  refine q p b due out _ (s'.trans s5) ag Wf (hL _ (kI Wf) ?_)
  have:=po.map (fun u:Addr × List Int=>u.2)
  rw [List.map_map] at this
  rw [List.map_map]
  exact this
 case gT =>
 refine ⟨_,(@ah _ _ _ _ _ (@bo _ _ _ _ _ _ (ak az rfl B.b_divmod aI (@aa _ _ _ _ _ (pv 0) (@aa _ _ _ _ _ ai af rfl) rfl)) (bh rfl (aq (aj (i:=0) bE.nd rfl (Or.inl rfl)) (aq (aj (i:=1) bE.nd rfl (Or.inr rfl)) aK))) rfl rfl rfl)
  (@ah _ _ _ _ _ (@bo _ _ _ _ _ _ (ak az rfl B.b_divmod aI (@aa _ _ _ _ _ (pv 0) (@aa _ _ _ _ _ ai af rfl) rfl)) (bh rfl (aq (aj (i:=0) bE.nd rfl (Or.inl rfl)) (aq (aj (i:=2) bE.nd rfl (Or.inl rfl)) aK))) rfl rfl rfl)
  (@ah _ _ _ _ _ (@bo _ _ _ _ _ _ (ak az rfl B.b_divmod aI (@aa _ _ _ _ _ (pv 0) (@aa _ _ _ _ _ ai af rfl) rfl)) (bh rfl (aq (aj (i:=0) bE.nd rfl (Or.inl rfl)) (aq (aj (i:=3) bE.nd rfl (Or.inl rfl)) aK))) rfl rfl rfl)
  (@ah _ _ _ _ _ (@bo _ _ _ _ _ _ (ak az rfl B.b_divmod aI (@aa _ _ _ _ _ (pv 0) (@aa _ _ _ _ _ ai af rfl) rfl)) (bh rfl (aq (aj (i:=0) bE.nd rfl (Or.inl rfl)) (aq (aj (i:=4) bE.nd rfl (Or.inl rfl)) aK))) rfl rfl rfl)
  (@ah _ _ _ _ _ (@aL _ _ 5 _ _ _ _ bE.nd rfl (Or.inl rfl) (@bY _ _ _ _ af) rfl (by first | exact .inl rfl | exact .inr rfl | assumption))
  (@ah _ _ _ _ _ (@cx _ _ _ _ _ _ _ _ PassesOwn.never rfl (bI rfl B.b_range (@aa _ _ _ _ _ ai af rfl)) (aj (i:=6) bE.nd rfl (Or.inr rfl))
   (@av _ _ _ (bN (cW PySem.F.plainAttrs_list PySem.F.slot_list_extend PySem.F.type_list_extend jU (pv 5) (@aa _ _ _ _ _ (dr ["k", "place", "step"] [none,some 6,some 1] rfl (bI rfl B.b_range (@aa _ _ _ _ _ ai af rfl)) rfl (fun _ _ _ _ _=>(aj (i:=0) eE rfl (Or.inl rfl))) (fun _ _ _ _ _=>cX) (fun _ _ _ _ _=>(@bO _ _ _ _ _ (@aa _ _ _ _ _ (pv 1) (@aa _ _ _ _ _ (@aE _ _ _ _ _ _ _ _ bT ai (@aE _ _ _ _ _ _ _ _ cV (@aE _ _ _ _ _ _ _ _ bT (pv 1) (@aE _ _ _ _ _ _ _ _ cU (@aQ _ _ _ _ _ _ _ (sk (K:=K)) (@bY _ _ _ _ (@aa _ _ _ _ _ ai (@aa _ _ _ _ _ ai (@aa _ _ _ _ _ ai (@aa _ _ _ _ _ ai af rfl) rfl) rfl) rfl)) (pv 2) (fun _ _=>rfl)) (pv 0))) ai)) af rfl) rfl)))) af rfl)))) (fun _=>rfl))
  (@ah _ _ _ _ _ (@bQ _ _ _ _ _ _ _ _ (aJ eF (pv 2) ai (aR _)) (@ah _ _ _ _ _ (bN (cW PySem.F.plainAttrs_list PySem.F.slot_list_pop PySem.F.type_list_pop mz (pv 5) (@aa _ _ _ _ _ (pv 3) af rfl)))
   (@ah _ _ _ _ _ (@aL _ _ 7 _ _ _ _ bE.nd rfl (Or.inl rfl) (@aE _ _ _ _ _ _ _ _ cV (@aE _ _ _ _ _ _ _ _ bT (pv 3) (@aE _ _ _ _ _ _ _ _ cU (@aQ _ _ _ _ _ _ _ cj (@bY _ _ _ _ (@aa _ _ _ _ _ ai (@aa _ _ _ _ _ ai (@aa _ _ _ _ _ ai (@aa _ _ _ _ _ ai af rfl) rfl) rfl) rfl)) (pv 1) (fun _ _=>rfl)) (@aE _ _ _ _ _ _ _ _ bT ai (@aE _ _ _ _ _ _ _ _ cV (pv 4) ai)))) ai) rfl (by first | exact .inl rfl | exact .inr rfl | assumption))
   (@av _ _ _ (bN (cW PySem.F.plainAttrs_list PySem.F.slot_list_append PySem.F.type_list_append bK (pv 5) (@aa _ _ _ _ _ (@bO _ _ _ _ _ (@aa _ _ _ _ _ (ak (fg rfl) rfl B.b_min dH (@aa _ _ _ _ _ (pv 3) (@aa _ _ _ _ _ (pv 7) af rfl) rfl)) (@aa _ _ _ _ _ (ak (dM rfl) rfl B.b_max gR (@aa _ _ _ _ _ (pv 3) (@aa _ _ _ _ _ (pv 7) af rfl) rfl)) af rfl) rfl)) af rfl)))))) ba)
  pT))))))),?_⟩
 obtain ⟨q1,x1,y1⟩:=dmN (j:=4) n0 (by decide)
 refine ⟨_,rfl,n,4,rfl,⟨by decide,by decide⟩,fun p hp=>⟨p,_,rfl,SqT.of ag,rfl,_,_,rfl,_,_,rfl,rfl,?_⟩⟩
 have s1:=ae hp (.tup [.int (n / 4),.int (n % 4)])
 generalize upd H p (.tup [.int (n / 4),.int (n % 4)])=H1 at s1
 generalize n / 4=n1 at q1
 generalize n % 4=v1 at x1 y1
 obtain ⟨q2,x2,y2⟩:=dmN (j:=2) q1 (by decide)
 refine ⟨_,rfl,n1,2,rfl,⟨by decide,by decide⟩,fun p hp=>⟨p,_,rfl,SqT.of ag,rfl,_,_,rfl,_,_,rfl,rfl,?_⟩⟩
 have s2:=s1.trans (ae hp (.tup [.int (n1 / 2),.int (n1 % 2)]))
 generalize upd H1 p (.tup [.int (n1 / 2),.int (n1 % 2)])=H2 at s2
 generalize n1 / 2=n2 at q2
 generalize n1 % 2=v2 at x2 y2
 obtain ⟨q3,x3,y3⟩:=dmN (j:=20) q2 (by decide)
 refine ⟨_,rfl,n2,20,rfl,⟨by decide,by decide⟩,fun p hp=>⟨p,_,rfl,SqT.of ag,rfl,_,_,rfl,_,_,rfl,rfl,?_⟩⟩
 have s3:=s2.trans (ae hp (.tup [.int (n2 / 20),.int (n2 % 20)]))
 generalize upd H2 p (.tup [.int (n2 / 20),.int (n2 % 20)])=H3 at s3
 generalize n2 / 20=n3 at q3
 generalize n2 % 20=v3 at x3 y3
 obtain ⟨q4,x4,y4⟩:=dmN (j:=9) q3 (by decide)
 refine ⟨_,rfl,n3,9,rfl,⟨by decide,by decide⟩,fun p hp=>⟨p,_,rfl,SqT.of ag,rfl,_,_,rfl,_,_,rfl,rfl,?_⟩⟩
 have s4:=s3.trans (ae hp (.tup [.int (n3 / 9),.int (n3 % 9)]))
 generalize upd H3 p (.tup [.int (n3 / 9),.int (n3 % 9)])=H4 at s4
 generalize n3 / 9=n4 at q4
 generalize n3 % 9=v4 at x4 y4
 obtain ⟨st,rfl⟩:∃ k:Nat,v1=k:=⟨v1.toNat,by omega⟩
 have st4:st < 4:=by omega
 obtain ⟨sr0,sr1⟩:=vF st4
 refine ⟨(by show 0<=sizeLine; decide),fun l hl5 => ?_⟩
 have hl:=s4.free hl5
 have s5:=s4.trans (ae hl5 (.lst []))
 have tA:TO (upd H4 l (.lst [])) l 40 []:=⟨⟨ag,fun t z=>(by cases z),fun t z=>(by cases z)⟩,fun t z=>(by cases z)⟩
 generalize upd H4 l (.lst [])=H5 at s5 tA
 refine ⟨20,rfl,by decide,by decide,bV (fun i σ H'=>(∃ (c6:Option V),σ=[some (.int n4),some (.int st),some (.int v2),some (.int v3),some (.int v4),some (.ref l),c6,none])/\aA H H'/\∃ us,TO H' l 40 us/\us.map (·.2)=hb (sOf st) i/\us.length=10 * i) ⟨⟨_,rfl⟩,s5,[],tA,rfl,rfl⟩ ?_ ?_⟩
 ·rintro i σ H6 hi ⟨⟨c6,rfl⟩,s6,us,tA6,eu,lu⟩
  have hi':i < 20:=hi
  refine ⟨_,rfl,.inl ⟨rfl,_,SqL.of tA6.1.at'⟩,10,rfl,by decide,by decide,dt (fun k ys H'=>aA H6 H'/\∃ vs,T3 H' ys vs/\vs.map (·.2)=(List.range k).map (fun k:Nat=>((i:Int),20 + ((i:Int) + sOf st * (k:Int)) % 20))) ⟨aA.refl _,[],⟨rfl,fun u hu=>by cases hu⟩,rfl⟩ (by decide) ?_ ?_⟩
  ·rintro k ys H' hk hy ⟨s',vs,tv,ev⟩ R1 R0 r1 r0
   refine cB ⟨_,rfl,_,rfl,(by show 4<=sizeLine; decide),fun l4 hl4 => ?_⟩
   have g4:=ae hl4 (.lst [.int 1,.int 3,.int 7,.int 9])
   have el4:upd H' l4 (.lst [.int 1,.int 3,.int 7,.int 9]) l4=some (.lst [.int 1,.int 3,.int 7,.int 9]):=ag
   generalize upd H' l4 (.lst [.int 1,.int 3,.int 7,.int 9])=H7 at g4 el4
   refine ⟨_,rfl,l4,_,(st:Int),_,rfl,rfl,SqL.of el4,ui st4,_,rfl,_,_,rfl,rfl,.inl ⟨by omega,by omega⟩,_,_,rfl,rfl,_,_,rfl,rfl,(by show (0:Int) < 20; decide),_,_,rfl,rfl,(by show 2<=sizeLine; decide),fun tn htn=>r1 _ _ ⟨s'.trans (g4.trans (ae htn _)),vs ++ [(tn,0 + (i:Int),20 + (0 + (i:Int) + sOf st * (0 + (k:Int))) % 20)],(tv.yz g4).add htn _ _,?_⟩⟩
   rw [List.map_append,ev,vG]
   rw [show (0:Int) + (i:Int)=(i:Int) by omega,show (0:Int) + (k:Int)=(k:Int) by omega]; rfl
  ·rintro ys H7 hy ⟨s7,vs,tv,ev⟩ b hb
   have tA7:=tA6.same s7
   have lv:vs.length=10:=by have:=congrArg List.length ev; rwa [List.length_map,List.length_map,List.length_range] at this
   have bv:∀ t ∈ vs,0<=t.2.1/\t.2.1<=t.2.2/\t.2.2 < 40:=fun t ht=>by
    have:t.2 ∈ vs.map (·.2):=List.mem_map_of_mem ht
    rw [ev] at this
    obtain ⟨k,_,e⟩:=List.mem_map.mp this
    rw [<- e]
    show 0<=(i:Int)/\(i:Int)<=20 + ((i:Int) + sOf st * (k:Int)) % 20/\20 + ((i:Int) + sOf st * (k:Int)) % 20 < 40
    have:=Int.emod_nonneg ((i:Int) + sOf st * (k:Int)) (b:=20) (by decide)
    have:=Int.emod_lt_of_pos ((i:Int) + sOf st * (k:Int)) (b:=20) (by decide)
    omega
   refine ⟨l,b,_,_,rfl,rfl,(ae hb _) _ _ tA7.1.at',ag,?_,⟨_,rfl⟩,aA.bZ ((s6.trans s7).trans (ae hb _)) hl _,us ++ vs,⟨tA7.1.ext tv hb (fun t ht=>by have:=bv t ht; omega),fun x hx => ?_⟩,by rw [List.map_append,eu,ev,vB]; rfl,by rw [List.length_append,lu,lv]; omega⟩
   ·rw [tv.1,List.length_map,List.length_map]; exact small (by omega)
   ·rcases List.mem_append.mp hx with z | z
    ·exact tA7.2 x z
    ·exact (bv x z).2.1
 ·rintro σ H6 ⟨⟨c6,rfl⟩,s6,us,tA6,eu,lu⟩
  have lu':us.length=200:=lu
  have eu':us.map (·.2)=hb (sOf st) 20:=eu
  refine ⟨_,rfl,rfl,_,rfl,gc (fun z => ?_) fun z => ?_⟩
  ·have w1:v2=1:=by simpa using z
   obtain ⟨on,rfl⟩:∃ k:Nat,v3=k:=⟨v3.toNat,by omega⟩
   have ep:us[on]? = some us[on]:=List.getElem?_eq_getElem (by omega)
   have se:=PySem.StrLaws.seqIndex_nonneg (i:=(on:Int)) (n:=(us.map fun u=>V.ref u.1).length) (by omega) (by rw [List.length_map]; omega)
   refine ⟨_,rfl,.inl ⟨rfl,_,SqL.of tA6.1.at'⟩,_,rfl,l,_,(on:Int),on,.ref us[on].1,rfl,rfl,tA6.1.at',by omega,by omega,by simpa using se,by rw [List.getElem?_map,ep]; rfl,?_⟩
   have tA7:=tA6.erase on
   have s7:=aA.bZ s6 hl (.lst ((us.map fun t=>V.ref t.1).eraseIdx on))
   generalize upd H6 l (.lst ((us.map fun t=>V.ref t.1).eraseIdx on))=H7 at tA7 s7
   refine ⟨_,rfl,(by show 4<=sizeLine; decide),fun l4 hl4 => ?_⟩
   have g8:=ae hl4 (.lst [.int 1,.int 3,.int 7,.int 9])
   have el4:upd H7 l4 (.lst [.int 1,.int 3,.int 7,.int 9]) l4=some (.lst [.int 1,.int 3,.int 7,.int 9]):=ag
   generalize upd H7 l4 (.lst [.int 1,.int 3,.int 7,.int 9])=H8 at g8 el4
   have tA8:=tA7.same g8
   have s8:=s7.trans g8
   have d0:=Int.emod_nonneg v4 (b:=5) (by decide)
   have d1:=Int.emod_lt_of_pos v4 (b:=5) (by decide)
   refine ⟨_,rfl,l4,_,(st:Int),_,rfl,rfl,SqL.of el4,ui st4,_,rfl,_,_,rfl,rfl,(by show (0:Int) < 5; decide),_,_,rfl,rfl,_,_,rfl,rfl,.inl ⟨by omega,by omega⟩,_,_,rfl,rfl,_,_,rfl,rfl,(by show (0:Int) < 20; decide),?_⟩
   obtain ⟨d,ed⟩:∃ k:Nat,v4 % 5=k:=⟨(v4 % 5).toNat,by omega⟩
   rw [ed]
   have o0:=Int.emod_nonneg ((on:Int) + sOf st * (1 + (d:Int))) (b:=20) (by decide)
   have o1:=Int.emod_lt_of_pos ((on:Int) + sOf st * (1 + (d:Int))) (b:=20) (by decide)
   have H1:=fun ns O pm=>vE (ns:=ns) O (n:=st) (one:=on) (d:=d) st4 (by omega) (by omega) pm
   refine ⟨_,rfl,.inl ⟨rfl,_,SqL.of tA8.1.at'⟩,_,rfl,_,rfl,_,_,rfl,_,rfl,_,rfl,_,_,rfl,(by show 2<=sizeLine; decide),fun tt htt => ?_⟩
   have mnmx:0<=mnI on (((on:Int) + sOf st * (1 + (d:Int))) % 20)/\mnI on (((on:Int) + sOf st * (1 + (d:Int))) % 20)<=mxI on (((on:Int) + sOf st * (1 + (d:Int))) % 20)/\mxI on (((on:Int) + sOf st * (1 + (d:Int))) % 20) < 40:=by
    unfold mnI mxI
    refine ⟨?_,?_,?_⟩
    ·split <;> omega
    ·split <;> split <;> omega
    ·split <;> omega
   have le:(us.eraseIdx on).length=199:=by rw [List.length_eraseIdx,if_pos (by omega)]; omega
   have tA9:=tA8.push htt mnmx
   refine ⟨l,_,_,rfl,rfl,(ae htt _) _ _ tA8.1.at',by rw [List.length_map,le]; decide,mT _ _ ⟨_,_,_,_,_,l,_,3,_,_,rfl,aA.bZ (s8.trans (ae htt _)) hl _,tA9,by rw [List.length_append,le]; exact Nat.le_refl 200,by rw [w1]; rfl,fun ns O pm=>H1 ns O ?_⟩⟩
   rw [List.map_append,List.map_append, <- dW,eu', <- dW] at pm
   exact pm
  ·have w1:v2 ≠ 1:=by simpa using z
   have w0:v2=0:=by omega
   refine mT _ _ ⟨_,_,_,_,_,l,us,4,_,_,rfl,s6,tA6,by omega,by rw [w0]; rfl,fun ns O pm=>vC O st4 ?_⟩
   rw [eu'] at pm
   exact pm
end
open PySem L2
def nW (K:PySem.W.Frag):Sp:=fun vs H Q _=>∃ (a:Addr) (ns:List Int),vs=[.ref a]/\SqL K H a (ns.map V.int)/\ns.length<=63/\∀ H',Q (.bl true) H'
theorem kN {K:PySem.W.Frag} {vs:List V} {H:Hp} {Q:VK} {E:XK}:nW K vs H Q E ↔ ∃ (a:Addr) (ns:List Int),vs=[.ref a]/\SqL K H a (ns.map V.int)/\ns.length<=63/\∀ H',Q (.bl true) H':=Iff.rfl
def vW (ns:List (List Int)) (due:Nat):Prop:=(due=0/\∀ a b,[a,b] ∈ ns->gx ns a b)\/gE ns due
section
variable {P:Program} {w:World} {K:PySem.W.Frag} {mg:Str->Option Value} {base:Heap} {f T:Addr} {fd:FuncData}
theorem dA:aW ["script", "cell", "number", "way", "web", "ways", "due", "told"] ["script"] (au gQ):=⟨rfl,rfl,rfl,by decide +kernel,rfl,by decide +kernel,by decide +kernel⟩
theorem me:(["at", "web"]:List Str).Nodup:=by decide +kernel
theorem o4:(["long"]:List Str).Nodup:=by decide +kernel
theorem yA (F:Fun K "law" "law" gQ f fd) (B:Blt mg) (cLDeal:Cal P w K mg base 1 "_law_deal" ["cell", "salt"] jb) (cLeastRing:Cal P w K mg base 5 "least_ring" ["web"] gD) (cLCell:Cal P w K mg base 1 "_law_cell" ["script", "k"] (ja K)) (cLWide:Cal P w K mg base 1 "_law_wide" ["number"] jg) (cLWeb:Cal P w K mg base 1 "_law_web" ["number", "most"] jf) (cLWay:Cal P w K mg base 1 "_law_way" ["web", "at"] ju) (cLHalves:Cal P w K mg base 1 "_law_halves" ["number"] ff) (cLWholes:Cal P w K mg base 1 "_law_wholes" ["found"] fe) (cLIsRing:Cal P w K mg base 2 "_law_is_ring" ["web", "ring"] nU) (cLForm:Cal P w K mg base 1 "_law_form" ["ring"] gF):cy P w K mg base CX0 6 f fd ["script"] (nW K):=by
 refine F.ok dA (fun vs H Q E h => ?_) (fun cdv A outer s H vs Q E hr h => ?_)
 ·obtain ⟨_,_,rfl,_⟩:=kN.mp h
  rfl
 obtain ⟨a,nn,rfl,hS,h63,q⟩:=kN.mp h
 have TA:∃ t,PSs (jw CX0 P w K mg base ["script", "cell", "number", "way", "web", "ways", "due", "told"] "law" (au gQ) f cdv A outer s H E).nox ((pR ((aH gQ).getD 0 (.Pass ⟨0,0,0,0⟩))).drop 6) t/\∀ (D:Ends) (b:Addr) (m:Nat) (ts:List (Addr × List Int)) (due:Nat) (H':Hp) (c1 c2 c3 c5 c7:Option V),Wb H' b m ts->m<=40->vW (ts.map (·.2)) due->(∀ σ' H'',(∃ c1 c2 c3 c4 c5 c6 c7,σ'=[some (.ref a),c1,c2,c3,c4,c5,c6,c7])->aA H' H''->D.nx σ' H'')->t D [some (.ref a),c1,c2,c3,some (.ref b),c5,some (.int (due:Int)),c7] H':=by
  refine ⟨_,(@ah _ _ _ _ _ (@aL _ _ 7 _ _ _ _ dA.nd rfl (Or.inl rfl) (bM cLeastRing hr (by decide) rfl (@aa _ _ _ _ _ (pv 4) af rfl)) rfl (by first | exact .inl rfl | exact .inr rfl | assumption))
   (@av _ _ _ (@bQ _ _ _ _ _ _ _ _ (aJ eF (pv 6) ai (aR _)) (@av _ _ _ (@bQ _ _ _ _ _ _ _ _ (aJ kY (pv 7) fJ (aR _)) gH ba)) (@av _ _ _ (@bQ _ _ _ _ _ _ _ _ (PW.pt (jK (kU (kS (ak ia rfl B.b_isinstance dF (@aa _ _ _ _ _ (pv 7) (@aa _ _ _ _ _ (kQ (v := .ty "tuple") rfl B.b_tuple dh rfl) af rfl) rfl)))) (jK (kU (kS (bM cLWholes hr (by decide) rfl (@aa _ _ _ _ _ (pv 7) af rfl)))) (kT (aJ mq (ak aX rfl B.b_len dG (@aa _ _ _ _ _ (pv 7) af rfl)) (pv 6) (aR _)))))) gH (@av _ _ _ (@bQ _ _ _ _ _ _ _ _ (PW.pt (jK (kU (kS (bM cLIsRing hr (by decide) rfl (@aa _ _ _ _ _ (pv 4) (@aa _ _ _ _ _ (pv 7) af rfl) rfl)))) (kT (aJ (vi hr) (pv 7) (bM cLForm hr (by decide) rfl (@aa _ _ _ _ _ (pv 7) af rfl)) (aR _))))) gH ba))))))),?_⟩
  intro D b m ts due H' c1 c2 c3 c5 c7 W m40 du nx
  have O:=kI W
  refine ⟨_,rfl,eZ.mpr ⟨b,m,ts,rfl,W,by omega,fun H1 s1 no => ?_,fun z H1 Z M s1 ez hM mM hx hn => ?_⟩⟩
  ·have d0:due=0:=by
    rcases du with ⟨z,_⟩ | ⟨⟨x,y,hxy,al⟩,_⟩
    ·exact z
    ·exact ((no x y hxy).not al).elim
   subst d0
   exact ⟨_,rfl,rfl,_,rfl,cB ⟨_,rfl,rfl,_,rfl,dj (nx _ _ ⟨_,_,_,_,_,_,_,rfl⟩ s1)⟩⟩
  ·obtain ⟨x,y,hxy,al⟩:=hx
   have rg:=al.ring O hxy
   have dL:gE (ts.map (·.2)) Z.length:=⟨⟨x,y,hxy,al.len⟩,fun x' y' L' h' al'=>by
    rcases hn x' y' h' with no | ⟨Z',al2,le⟩
    ·exact (no.not al').elim
    ·rw [al'.uniq al2.len]; exact le⟩
   have dZ:due=Z.length:=by
    rcases du with ⟨_,no⟩ | du
    ·exact ((no x y hxy).not al.len).elim
    ·exact du.uniq dL
   have lF:(frm Z M).length=Z.length:=(nQ hM).length_eq
   have rgf:=rg.frm hM
   have cn:=t6 rg.nd hM mM
   generalize frm Z M=F at ez lF rgf cn
   have lF2:=dX rgf.nd rgf.rng
   have zp:=List.length_pos_iff.mpr rg.ne
   refine ⟨_,rfl,rfl,_,rfl,?_⟩
   rw [decide_eq_false (by intro h; injection h with h; omega)]
   refine dj ⟨_,rfl,.ref z, "tuple",_,true,rfl,.tup ez,rfl,_,rfl,dj ?_⟩
   refine ⟨_,rfl,eC.mpr ⟨z,F,rfl,ez,by omega,fun H2 s2=>⟨_,rfl,dj ?_⟩⟩⟩
   refine ⟨_,rfl,z,_,rfl,.inr (SqT.of (s2 _ _ ez)),_,rfl,rfl,_,rfl,pC (by rw [List.length_map,lF,dZ]) ?_⟩
   refine ⟨_,rfl,_,rfl,hX.mpr ⟨b,z,m,ts,F,rfl,(W.same s1).same s2,by omega,s2 _ _ ez,rgf,fun H3 s3=>⟨_,rfl,dj ?_⟩⟩⟩
   have s23:=s2.trans s3
   refine ⟨_,rfl,_,rfl,fc.mpr ⟨z,F,rfl,s23 _ _ ez,cn,by omega,fun z2 H4 s4 ez2=>⟨z,z2,F,F,rfl,rfl,SqT.of (s4 _ _ (s23 _ _ ez)),SqT.of ez2,_,rfl,pC rfl (nx _ _ ⟨_,_,_,_,_,_,_,rfl⟩ (s1.trans (s23.trans s4)))⟩⟩⟩
 obtain ⟨tA,pA,gA⟩:=TA
 have TB:∃ t,PSs (jw CX0 P w K mg base ["script", "cell", "number", "way", "web", "ways", "due", "told"] "law" (au gQ) f cdv A outer s H E).nox ((pR ((aH gQ).getD 0 (.Pass ⟨0,0,0,0⟩))).drop 3) t/\∀ (D:Ends) (b:Addr) (m:Nat) (ts:List (Addr × List Int)) (n:Int) (H':Hp) (c1 c3 c5 c6 c7:Option V),Wb H' b m ts->m<=40->0<=n->(∀ σ' H'',(∃ c1 c2 c3 c4 c5 c6 c7,σ'=[some (.ref a),c1,c2,c3,c4,c5,c6,c7])->aA H' H''->D.nx σ' H'')->t D [some (.ref a),c1,some (.int n),c3,some (.ref b),c5,c6,c7] H':=by
  refine ⟨_,(@ah _ _ _ _ _ (cY (i:=5) ["at", "web"] [none,some 4] rfl dA.nd rfl rfl (bI rfl B.b_range (@aa _ _ _ _ _ (ak aX rfl B.b_len dG (@aa _ _ _ _ _ (@aQ _ _ _ _ _ _ _ aV (pv 4) ai (fun _ _=>rfl)) af rfl)) af rfl)) rfl (fun _ _ _ _ _=>(aj (i:=0) me rfl (Or.inl rfl))) (fun _ _ _ _ _=>cX) (fun _ _ _ _ _=>(bM cLWay hr (by decide) rfl (@aa _ _ _ _ _ (pv 1) (@aa _ _ _ _ _ (pv 0) af rfl) rfl))))
   (@ah _ _ _ _ _ (@aL _ _ 6 _ _ _ _ dA.nd rfl (Or.inl rfl) (qY (rD rfl) rfl B.b_min dH (@aa _ _ _ _ _ (dr ["long"] [none] rfl (@cw _ _ _ _ (pv 5)) rfl (fun _ _ _ _ _=>(aj (i:=0) o4 rfl (Or.inl rfl))) (fun _ _ _ _ _=>(sg (aJ vH (pv 0) ai (aR _)))) (fun _ _ _ _ _=>(pv 0))) af rfl) (uy ai wA)) rfl (by first | exact .inl rfl | exact .inr rfl | assumption))
   (@ah _ _ _ _ _ (@bQ _ _ _ _ _ _ _ _ (aJ eF (@aE _ _ _ _ _ _ _ _ cV (pv 2) ai) ai (aR _)) (@av _ _ _ (@bo _ _ _ _ _ _ (bM cLHalves hr (by decide) rfl (@aa _ _ _ _ _ (@aE _ _ _ _ _ _ _ _ o9 (pv 2) ai) af rfl)) (bh rfl (aq (aj (i:=4) dA.nd rfl (Or.inr rfl)) (aq (aj (i:=6) dA.nd rfl (Or.inl rfl)) aK))) rfl rfl rfl)) ba)
   pA))),?_⟩
  intro D b m ts n H' c1 c3 c5 c6 c7 W m40 n0 nx
  obtain ⟨t,e1,e2⟩:=W.at'
  have O:=kI W
  have l2:=W.len
  refine ⟨_,rfl,b,_,1,_,rfl,rfl,SqT.of e1,rfl,t,_,rfl,.inr (SqT.of e2),_,rfl,by rw [List.length_map]; omega,by rw [List.length_map]; omega,?_⟩
  rw [List.length_map]
  refine dt (lo:=0) (n:=ts.length) (fun i ys H2=>aA H' H2/\∃ Ls:List Nat,ys=(Ls.map fun L:Nat=>(L:Int)).map V.int/\Ls.length=i/\∀ (k:Nat) L x y,Ls[k]? = some L->(ts.map (·.2))[k]? = some [x,y]->(L=0/\gx (ts.map (·.2)) x y)\/cJ (ts.map (·.2)) x y L) ⟨aA.refl _,[],rfl,rfl,fun k L x y e=>by simp at e⟩ (small (by omega)) ?_ ?_
  ·rintro i ys H2 hi hy ⟨s2,Ls,rfl,lL,hL⟩ R1 R0 r1 r0
   refine cB ⟨_,rfl,_,rfl,fS.mpr ⟨b,m,i,ts,by rw [Int.zero_add]; rfl,W.same s2,by omega,hi,fun H3 L s3 hl=>r1 _ _ ⟨s2.trans s3,Ls ++ [L],by rw [List.map_append,List.map_append]; rfl,by rw [List.length_append,lL]; rfl,fun k L' x y e1 e2 => ?_⟩⟩⟩
   rcases Nat.lt_or_ge k i with c | c
   ·rw [List.getElem?_append_left (by omega)] at e1; exact hL k L' x y e1 e2
   ·rw [List.getElem?_append_right (by omega)] at e1
    have:k - Ls.length=0:=by
     rcases Nat.eq_zero_or_pos (k - Ls.length) with z | z
     ·exact z
     ·rw [List.getElem?_eq_none (by simp; omega)] at e1; cases e1
    rw [this] at e1; cases e1
    rw [show k=i by omega] at e2
    exact hl x y e2
  ·rintro ys H2 hy ⟨s2,Ls,rfl,lL,hL⟩ wl hwl
   have g3:=ae hwl (.lst ((Ls.map fun L:Nat=>(L:Int)).map V.int))
   have ew:upd H2 wl (.lst ((Ls.map fun L:Nat=>(L:Int)).map V.int)) wl=some (.lst ((Ls.map fun L:Nat=>(L:Int)).map V.int)):=ag
   generalize upd H2 wl (.lst ((Ls.map fun L:Nat=>(L:Int)).map V.int))=H3 at g3 ew
   have s3:=s2.trans g3
   have lL2:(Ls.map fun L:Nat=>(L:Int)).length=Ls.length:=List.length_map _
   refine ⟨_,rfl,wl,rfl,⟨_,SqL.of ew⟩,cZ (xs:=(Ls.map fun L:Nat=>(L:Int)).map V.int) (fun i ys H4=>H4=H3/\ys=(((Ls.take i).filter fun L=>decide (0 < L)).map fun L:Nat=>(L:Int)).map V.int) ⟨rfl,rfl⟩ (by rw [List.length_map,lL2]; exact small (by omega)) (fun i ys H4 _ z=>by rw [z.1]; exact SqL.of ew) ?_ ?_⟩
   ·rintro i x ys H4 hx hy ⟨eH,rfl⟩ R1 R0 r1 r0
    obtain ⟨v,ev,rfl⟩:=iZ hx
    rw [List.getElem?_map] at ev
    obtain ⟨L,eL,rfl⟩:=Option.map_eq_some_iff.mp ev
    have tk:((Ls.take (i + 1)).filter fun L=>decide (0 < L))=((Ls.take i).filter fun L=>decide (0 < L)) ++ if 0 < L then [L] else []:=by
     rw [List.take_add_one,eL,List.filter_append]
     congr 1
     by_cases c:0 < L
     ·rw [if_pos c]; simp [c]
     ·rw [if_neg c]; simp [c]
    refine ⟨_,rfl,_,_,rfl,rfl,_,rfl,?_⟩
    by_cases c:0 < L
    ·rw [decide_eq_true (show (0:Int) < (L:Int) by omega)]
     exact cB ⟨_,rfl,r1 _ _ ⟨eH,by rw [tk,if_pos c,List.map_append,List.map_append]; rfl⟩⟩
    ·rw [decide_eq_false (show ¬ (0:Int) < (L:Int) by omega)]
     exact dj (r0 _ ⟨eH,by rw [tk,if_neg c,List.append_nil]⟩)
   ·rintro ys H4 hy ⟨eH,rfl⟩ fl hfl
    rw [eH] at hfl ⊢
    rw [List.length_map,lL2,List.take_of_length_le (Nat.le_refl _)]
    have g5:=ae hfl (.lst (((Ls.filter fun L=>decide (0 < L)).map fun L:Nat=>(L:Int)).map V.int))
    have ef:upd H3 fl (.lst (((Ls.filter fun L=>decide (0 < L)).map fun L:Nat=>(L:Int)).map V.int)) fl=some (.lst (((Ls.filter fun L=>decide (0 < L)).map fun L:Nat=>(L:Int)).map V.int)):=ag
    generalize upd H3 fl (.lst (((Ls.filter fun L=>decide (0 < L)).map fun L:Nat=>(L:Int)).map V.int))=H5 at g5 ef
    have s5:=s3.trans g5
    refine ⟨fl,(Ls.filter fun L=>decide (0 < L)).map fun L:Nat=>(L:Int),0,rfl,rfl,SqL.of ef,fun M hM => ?_⟩
    have at2:∀ x y,[x,y] ∈ ts.map (·.2)->∃ L ∈ Ls,(L=0/\gx (ts.map (·.2)) x y)\/cJ (ts.map (·.2)) x y L:=fun x y h=>by
     obtain ⟨k,ek⟩:=List.mem_iff_getElem?.mp h
     have hk:=(List.getElem?_eq_some_iff.mp ek).1
     rw [List.length_map] at hk
     have eL:Ls[k]? = some (Ls[k]'(by omega)):=List.getElem?_eq_getElem (by omega)
     exact ⟨_,List.mem_of_getElem? eL,hL k _ x y eL ek⟩
    obtain ⟨due,eM,hdue⟩:∃ due:Nat,M=(due:Int)/\vW (ts.map (·.2)) due:=by
     rcases hM with ⟨e,rfl⟩ | ⟨hM,mn⟩
     ·refine ⟨0,rfl,.inl ⟨rfl,fun x y h => ?_⟩⟩
      obtain ⟨L,hLs,z⟩:=at2 x y h
      rcases z with ⟨_,z⟩ | z
      ·exact z
      ·exfalso
       have:(L:Int) ∈ (Ls.filter fun L=>decide (0 < L)).map fun L:Nat=>(L:Int):=List.mem_map_of_mem (f:=fun L:Nat=>(L:Int)) (List.mem_filter.mpr ⟨hLs,decide_eq_true z.pos⟩)
       rw [e] at this; cases this
     ·obtain ⟨due,hd,e⟩:=List.mem_map.mp hM
      obtain ⟨hd,dp⟩:=List.mem_filter.mp hd
      have dp:=of_decide_eq_true dp
      refine ⟨due,e.symm,.inr ⟨?_,fun x y L' h al => ?_⟩⟩
      ·obtain ⟨k,ek⟩:=List.mem_iff_getElem?.mp hd
       have hk:=(List.getElem?_eq_some_iff.mp ek).1
       obtain ⟨u,eu⟩:∃ u,ts[k]? = some u:=⟨_,List.getElem?_eq_getElem (by omega)⟩
       obtain ⟨x,y,exy,_⟩:=W.pr u (List.mem_of_getElem? eu)
       have en:(ts.map (·.2))[k]? = some [x,y]:=by rw [List.getElem?_map,eu, <- exy]; rfl
       rcases hL k due x y ek en with ⟨z,_⟩ | z
       ·omega
       ·exact ⟨x,y,List.mem_of_getElem? en,z⟩
      ·obtain ⟨L,hLs,z⟩:=at2 x y h
       rcases z with ⟨_,z⟩ | z
       ·exact (z.not al).elim
       ·rw [al.uniq z]
        have:=mn L (List.mem_map_of_mem (f:=fun L:Nat=>(L:Int)) (List.mem_filter.mpr ⟨hLs,decide_eq_true z.pos⟩))
        omega
    subst eM
    refine ⟨_,rfl,_,_,rfl,rfl,(by show (0:Int) < 8; decide),rfl,_,rfl,gc (fun z => ?_) fun z => ?_⟩
    ·refine ⟨_,rfl,_,_,rfl,rfl,⟨by decide,by decide⟩,eD.mpr ⟨n / 8,rfl,Int.ediv_nonneg n0 (by decide),fun p b' due' ts' H6 s6 ep W6 hL6 => ?_⟩⟩
     exact ⟨p,_,rfl,SqT.of ep,rfl,_,_,rfl,_,_,rfl,rfl,gA _ b' 40 ts' due' H6 _ _ _ _ _ W6 (by omega) (.inr hL6) fun σ' H7 hσ s7=>nx σ' H7 hσ (s5.trans (s6.trans s7))⟩
    ·exact gA _ b m ts due H5 _ _ _ _ _ (W.same s5) m40 hdue fun σ' H7 hσ s7=>nx σ' H7 hσ (s5.trans s7)
 obtain ⟨tB,pB,gB⟩:=TB
 refine ⟨_,(@ah _ _ _ _ _ (@cx _ _ _ _ _ _ _ _ PassesOwn.never rfl (@cw _ _ _ _ (@aE _ _ _ _ _ _ _ _ ly (@bY _ _ _ _ (@aa _ _ _ _ _ (bM cLCell hr (by decide) rfl (@aa _ _ _ _ _ (pv 0) (@aa _ _ _ _ _ ai af rfl) rfl)) af rfl)) (cb pz (pv 0) (cz ai) (cz ai)))) (aj (i:=1) dA.nd rfl (Or.inl rfl))
   (@ah _ _ _ _ _ (@aL _ _ 2 _ _ _ _ dA.nd rfl (Or.inl rfl) (bM cLDeal hr (by decide) rfl (@aa _ _ _ _ _ (pv 1) (@aa _ _ _ _ _ ai af rfl) rfl)) rfl (by first | exact .inl rfl | exact .inr rfl | assumption))
   (@ah _ _ _ _ _ (@bo _ _ _ _ _ _ (ak az rfl B.b_divmod aI (@aa _ _ _ _ _ (pv 2) (@aa _ _ _ _ _ ai af rfl) rfl)) (bh rfl (aq (aj (i:=2) dA.nd rfl (Or.inl rfl)) (aq (aj (i:=3) dA.nd rfl (Or.inl rfl)) aK))) rfl rfl rfl)
   (@ah _ _ _ _ _ (@bQ _ _ _ _ _ _ _ _ (aJ eF (pv 3) ai (aR _)) (@av _ _ _ (@bo _ _ _ _ _ _ (bM cLWide hr (by decide) rfl (@aa _ _ _ _ _ (pv 2) af rfl)) (bh rfl (aq (aj (i:=4) dA.nd rfl (Or.inr rfl)) (aq (aj (i:=2) dA.nd rfl (Or.inl rfl)) aK))) rfl rfl rfl)) (@av _ _ _ (@bo _ _ _ _ _ _ (bM cLWeb hr (by decide) rfl (@aa _ _ _ _ _ (pv 2) (@aa _ _ _ _ _ ai af rfl) rfl)) (bh rfl (aq (aj (i:=4) dA.nd rfl (Or.inr rfl)) (aq (aj (i:=2) dA.nd rfl (Or.inl rfl)) aK))) rfl rfl rfl)))
   pB))) (fun _=>rfl))
  (@av _ _ _ (@aU _ _ _ _ o7))),?_⟩
 refine ⟨_,rfl,fL.mpr ⟨a,nn,0,rfl,hS,by decide,fun c0=>⟨(by show 1<=sizeLine; decide),fun l0 hl0 => ?_⟩⟩⟩
 have g2:=ae hl0 (.lst [.int c0])
 have el0:upd H l0 (.lst [.int c0]) l0=some (.lst [.int c0]):=ag
 generalize upd H l0 (.lst [.int c0])=H2 at g2 el0
 refine ⟨_,rfl,1,rfl,11,rfl,a,_,rfl,g2.seq hS,fun l2 hl2 => ?_⟩
 obtain ⟨cs,ecs,lcs⟩:∃ cs:List Int,eG (nn.map V.int) (some 1) (some 11)=cs.map V.int/\cs.length<=63:=by
  unfold eG
  refine ⟨(nn.drop _).take _,(by rw [List.map_take,List.map_drop]),?_⟩
  rw [List.length_take,List.length_drop]; omega
 rw [ecs]
 have g4:=ae hl2 (.lst (cs.map V.int))
 have el2:upd H2 l2 (.lst (cs.map V.int)) l2=some (.lst (cs.map V.int)):=ag
 generalize upd H2 l2 (.lst (cs.map V.int))=H4 at g4 el2
 refine ⟨l0,l2,_,_,rfl,rfl,SqL.of (g4 _ _ el0),SqL.of el2,by rw [List.length_map]; exact small (by show 1 + _<=_; omega),fun S hS => ?_⟩
 rw [show ([V.int c0] ++ cs.map V.int:List V)=(c0 :: cs).map V.int from rfl]
 have eS:upd H4 S (.lst ((c0 :: cs).map V.int)) S=some (.lst ((c0 :: cs).map V.int)):=ag
 generalize upd H4 S (.lst ((c0 :: cs).map V.int))=H5 at eS
 refine ⟨S,rfl,⟨_,SqL.of eS⟩,fV (xs:=(c0 :: cs).map V.int) (fun i σ H'=>(∃ c1 c2 c3 c4 c5 c6 c7,σ=[some (.ref a),c1,c2,c3,c4,c5,c6,c7])/\aA H5 H') ⟨⟨_,_,_,_,_,_,_,rfl⟩,aA.refl _⟩ (fun i σ H' _ z=>SqL.of (z.2 _ _ eS)) ?_ (fun σ H' _=>q _)⟩
 rintro i x σ H6 hx ⟨⟨c1,c2,c3,c4,c5,c6,c7,rfl⟩,s6⟩
 obtain ⟨cell,ec,rfl⟩:=iZ hx
 refine ⟨_,rfl,fM.mpr ⟨cell,1,rfl,by decide,by decide,fun n n0 => ?_⟩⟩
 obtain ⟨q1,x1,y1⟩:=dmN (j:=4) n0 (by decide)
 refine ⟨_,rfl,n,4,rfl,⟨by decide,by decide⟩,fun p hp=>⟨p,_,rfl,SqT.of ag,rfl,_,_,rfl,_,_,rfl,rfl,?_⟩⟩
 have s7:=s6.trans (ae hp (.tup [.int (n / 4),.int (n % 4)]))
 generalize upd H6 p (.tup [.int (n / 4),.int (n % 4)])=H7 at s7
 generalize n / 4=n1 at q1
 generalize n % 4=v1 at x1 y1
 refine ⟨_,rfl,rfl,_,rfl,gc (fun z => ?_) fun z => ?_⟩
 ·refine ⟨_,rfl,fP.mpr ⟨n1,rfl,q1,fun p b n' mI ts H8 s8 ep W mI0 m40 n'0 => ?_⟩⟩
  obtain ⟨m,rfl⟩:∃ m:Nat,mI=m:=⟨mI.toNat,by omega⟩
  exact ⟨p,_,rfl,SqT.of ep,rfl,_,_,rfl,_,_,rfl,rfl,gB _ b m ts n' H8 _ _ _ _ _ W (by omega) n'0 fun σ' H9 hσ s9=>⟨hσ,s7.trans (s8.trans s9)⟩⟩
 ·refine ⟨_,rfl,fO.mpr ⟨n1,8,rfl,q1,by decide,by decide,fun p b n' mI ts H8 s8 ep W mI0 m40 n'0 => ?_⟩⟩
  obtain ⟨m,rfl⟩:∃ m:Nat,mI=m:=⟨mI.toNat,by omega⟩
  exact ⟨p,_,rfl,SqT.of ep,rfl,_,_,rfl,_,_,rfl,rfl,gB _ b m ts n' H8 _ _ _ _ _ W (by omega) n'0 fun σ' H9 hσ s9=>⟨hσ,s7.trans (s8.trans s9)⟩⟩
end
open PySem L2
theorem all_mk {l:PySem.W.OpenLaw} {w:World} {K:PySem.W.Frag} {h:Heap} {mg:Str->Option Value} {fa:Addr} (X:K.In h) (G:h.Ns mainGlobals mg) (hfa:mg "law" = some (.ref fa))
  {f1:Addr} {od1 an1:Option Addr} {sl1:Array (Option Value)} {oc1 kV1 dc1 pm1 cd1 ct1:Value} {f2:Addr} {od2 an2:Option Addr} {sl2:Array (Option Value)} {oc2 kV2 dc2 pm2 cd2 ct2:Value} {f3:Addr} {od3 an3:Option Addr} {sl3:Array (Option Value)} {oc3 kV3 dc3 pm3 cd3 ct3:Value} {f4:Addr} {od4 an4:Option Addr} {sl4:Array (Option Value)} {oc4 kV4 dc4 pm4 cd4 ct4:Value} {f5:Addr} {od5 an5:Option Addr} {sl5:Array (Option Value)} {oc5 kV5 dc5 pm5 cd5 ct5:Value} {f6:Addr} {od6 an6:Option Addr} {sl6:Array (Option Value)} {oc6 kV6 dc6 pm6 cd6 ct6:Value} {f7:Addr} {od7 an7:Option Addr} {sl7:Array (Option Value)} {oc7 kV7 dc7 pm7 cd7 ct7:Value} {f8:Addr} {od8 an8:Option Addr} {sl8:Array (Option Value)} {oc8 kV8 dc8 pm8 cd8 ct8:Value} {f9:Addr} {od9 an9:Option Addr} {sl9:Array (Option Value)} {oc9 kV9 dc9 pm9 cd9 ct9:Value} {f10:Addr} {od10 an10:Option Addr} {sl10:Array (Option Value)} {oc10 kV10 dc10 pm10 cd10 ct10:Value} {f11:Addr} {od11 an11:Option Addr} {sl11:Array (Option Value)} {oc11 kV11 dc11 pm11 cd11 ct11:Value} {f12:Addr} {od12 an12:Option Addr} {sl12:Array (Option Value)} {oc12 kV12 dc12 pm12 cd12 ct12:Value} {f13:Addr} {od13 an13:Option Addr} {sl13:Array (Option Value)} {oc13 kV13 dc13 pm13 cd13 ct13:Value} {f14:Addr} {od14 an14:Option Addr} {sl14:Array (Option Value)} {oc14 kV14 dc14 pm14 cd14 ct14:Value} {f15:Addr} {od15 an15:Option Addr} {sl15:Array (Option Value)} {oc15 kV15 dc15 pm15 cd15 ct15:Value} {f16:Addr} {od16 an16:Option Addr} {sl16:Array (Option Value)} {oc16 kV16 dc16 pm16 cd16 ct16:Value} {f17:Addr} {od17 an17:Option Addr} {sl17:Array (Option Value)} {oc17 kV17 dc17 pm17 cd17 ct17:Value} {f18:Addr} {od18 an18:Option Addr} {sl18:Array (Option Value)} {oc18 kV18 dc18 pm18 cd18 ct18:Value} {f19:Addr} {od19 an19:Option Addr} {sl19:Array (Option Value)} {oc19 kV19 dc19 pm19 cd19 ct19:Value} {f20:Addr} {od20 an20:Option Addr} {sl20:Array (Option Value)} {oc20 kV20 dc20 pm20 cd20 ct20:Value}
  (a1:PySem.W.nsIn K mainGlobals "tie_of" = some (some (.ref f1))) (l1:K.lookup f1=some ⟨oc1,od1,.func (PySem.W.fnOf "tie_of" "tie_of" (aP i5) (aH i5) (au i5) .none kV1 dc1 pm1 an1 cd1 ct1),sl1⟩) (c1:PySem.W.codeIn K cd1 "tie_of" = true) (k1:PySem.W.keepIn K (.ref f1)=true)
  (a2:PySem.W.nsIn K mainGlobals "near_lists" = some (some (.ref f2))) (l2:K.lookup f2=some ⟨oc2,od2,.func (PySem.W.fnOf "near_lists" "near_lists" (aP de) (aH de) (au de) .none kV2 dc2 pm2 an2 cd2 ct2),sl2⟩) (c2:PySem.W.codeIn K cd2 "near_lists" = true) (k2:PySem.W.keepIn K (.ref f2)=true)
  (a3:PySem.W.nsIn K mainGlobals "tied_times" = some (some (.ref f3))) (l3:K.lookup f3=some ⟨oc3,od3,.func (PySem.W.fnOf "tied_times" "tied_times" (aP df) (aH df) (au df) .none kV3 dc3 pm3 an3 cd3 ct3),sl3⟩) (c3:PySem.W.codeIn K cd3 "tied_times" = true) (k3:PySem.W.keepIn K (.ref f3)=true)
  (a4:PySem.W.nsIn K mainGlobals "ring_form" = some (some (.ref f4))) (l4:K.lookup f4=some ⟨oc4,od4,.func (PySem.W.fnOf "ring_form" "ring_form" (aP cP) (aH cP) (au cP) .none kV4 dc4 pm4 an4 cd4 ct4),sl4⟩) (c4:PySem.W.codeIn K cd4 "ring_form" = true) (k4:PySem.W.keepIn K (.ref f4)=true)
  (a5:PySem.W.nsIn K mainGlobals "way_about" = some (some (.ref f5))) (l5:K.lookup f5=some ⟨oc5,od5,.func (PySem.W.fnOf "way_about" "way_about" (aP cq) (aH cq) (au cq) .none kV5 dc5 pm5 an5 cd5 ct5),sl5⟩) (c5:PySem.W.codeIn K cd5 "way_about" = true) (k5:PySem.W.keepIn K (.ref f5)=true)
  (a6:PySem.W.nsIn K mainGlobals "ring_along" = some (some (.ref f6))) (l6:K.lookup f6=some ⟨oc6,od6,.func (PySem.W.fnOf "ring_along" "ring_along" (aP cE) (aH cE) (au cE) .none kV6 dc6 pm6 an6 cd6 ct6),sl6⟩) (c6:PySem.W.codeIn K cd6 "ring_along" = true) (k6:PySem.W.keepIn K (.ref f6)=true)
  (a7:PySem.W.nsIn K mainGlobals "shortest_of" = some (some (.ref f7))) (l7:K.lookup f7=some ⟨oc7,od7,.func (PySem.W.fnOf "shortest_of" "shortest_of" (aP cu) (aH cu) (au cu) .none kV7 dc7 pm7 an7 cd7 ct7),sl7⟩) (c7:PySem.W.codeIn K cd7 "shortest_of" = true) (k7:PySem.W.keepIn K (.ref f7)=true)
  (a8:PySem.W.nsIn K mainGlobals "least_along" = some (some (.ref f8))) (l8:K.lookup f8=some ⟨oc8,od8,.func (PySem.W.fnOf "least_along" "least_along" (aP cv) (aH cv) (au cv) .none kV8 dc8 pm8 an8 cd8 ct8),sl8⟩) (c8:PySem.W.codeIn K cd8 "least_along" = true) (k8:PySem.W.keepIn K (.ref f8)=true)
  (a9:PySem.W.nsIn K mainGlobals "least_ring" = some (some (.ref f9))) (l9:K.lookup f9=some ⟨oc9,od9,.func (PySem.W.fnOf "least_ring" "least_ring" (aP cF) (aH cF) (au cF) .none kV9 dc9 pm9 an9 cd9 ct9),sl9⟩) (c9:PySem.W.codeIn K cd9 "least_ring" = true) (k9:PySem.W.keepIn K (.ref f9)=true)
  (a10:PySem.W.nsIn K mainGlobals "_law_cell" = some (some (.ref f10))) (l10:K.lookup f10=some ⟨oc10,od10,.func (PySem.W.fnOf "_law_cell" "_law_cell" (aP i6) (aH i6) (au i6) .none kV10 dc10 pm10 an10 cd10 ct10),sl10⟩) (c10:PySem.W.codeIn K cd10 "_law_cell" = true) (k10:PySem.W.keepIn K (.ref f10)=true)
  (a11:PySem.W.nsIn K mainGlobals "_law_deal" = some (some (.ref f11))) (l11:K.lookup f11=some ⟨oc11,od11,.func (PySem.W.fnOf "_law_deal" "_law_deal" (aP i7) (aH i7) (au i7) .none kV11 dc11 pm11 an11 cd11 ct11),sl11⟩) (c11:PySem.W.codeIn K cd11 "_law_deal" = true) (k11:PySem.W.keepIn K (.ref f11)=true)
  (a12:PySem.W.nsIn K mainGlobals "_law_web" = some (some (.ref f12))) (l12:K.lookup f12=some ⟨oc12,od12,.func (PySem.W.fnOf "_law_web" "_law_web" (aP nA) (aH nA) (au nA) .none kV12 dc12 pm12 an12 cd12 ct12),sl12⟩) (c12:PySem.W.codeIn K cd12 "_law_web" = true) (k12:PySem.W.keepIn K (.ref f12)=true)
  (a13:PySem.W.nsIn K mainGlobals "_law_wide" = some (some (.ref f13))) (l13:K.lookup f13=some ⟨oc13,od13,.func (PySem.W.fnOf "_law_wide" "_law_wide" (aP i8) (aH i8) (au i8) .none kV13 dc13 pm13 an13 cd13 ct13),sl13⟩) (c13:PySem.W.codeIn K cd13 "_law_wide" = true) (k13:PySem.W.keepIn K (.ref f13)=true)
  (a14:PySem.W.nsIn K mainGlobals "_law_times" = some (some (.ref f14))) (l14:K.lookup f14=some ⟨oc14,od14,.func (PySem.W.fnOf "_law_times" "_law_times" (aP fz) (aH fz) (au fz) .none kV14 dc14 pm14 an14 cd14 ct14),sl14⟩) (c14:PySem.W.codeIn K cd14 "_law_times" = true) (k14:PySem.W.keepIn K (.ref f14)=true)
  (a15:PySem.W.nsIn K mainGlobals "_law_is_ring" = some (some (.ref f15))) (l15:K.lookup f15=some ⟨oc15,od15,.func (PySem.W.fnOf "_law_is_ring" "_law_is_ring" (aP dS) (aH dS) (au dS) .none kV15 dc15 pm15 an15 cd15 ct15),sl15⟩) (c15:PySem.W.codeIn K cd15 "_law_is_ring" = true) (k15:PySem.W.keepIn K (.ref f15)=true)
  (a16:PySem.W.nsIn K mainGlobals "_law_form" = some (some (.ref f16))) (l16:K.lookup f16=some ⟨oc16,od16,.func (PySem.W.fnOf "_law_form" "_law_form" (aP gP) (aH gP) (au gP) .none kV16 dc16 pm16 an16 cd16 ct16),sl16⟩) (c16:PySem.W.codeIn K cd16 "_law_form" = true) (k16:PySem.W.keepIn K (.ref f16)=true)
  (a17:PySem.W.nsIn K mainGlobals "_law_wholes" = some (some (.ref f17))) (l17:K.lookup f17=some ⟨oc17,od17,.func (PySem.W.fnOf "_law_wholes" "_law_wholes" (aP dU) (aH dU) (au dU) .none kV17 dc17 pm17 an17 cd17 ct17),sl17⟩) (c17:PySem.W.codeIn K cd17 "_law_wholes" = true) (k17:PySem.W.keepIn K (.ref f17)=true)
  (a18:PySem.W.nsIn K mainGlobals "_law_way" = some (some (.ref f18))) (l18:K.lookup f18=some ⟨oc18,od18,.func (PySem.W.fnOf "_law_way" "_law_way" (aP i9) (aH i9) (au i9) .none kV18 dc18 pm18 an18 cd18 ct18),sl18⟩) (c18:PySem.W.codeIn K cd18 "_law_way" = true) (k18:PySem.W.keepIn K (.ref f18)=true)
  (a19:PySem.W.nsIn K mainGlobals "_law_halves" = some (some (.ref f19))) (l19:K.lookup f19=some ⟨oc19,od19,.func (PySem.W.fnOf "_law_halves" "_law_halves" (aP dg) (aH dg) (au dg) .none kV19 dc19 pm19 an19 cd19 ct19),sl19⟩) (c19:PySem.W.codeIn K cd19 "_law_halves" = true) (k19:PySem.W.keepIn K (.ref f19)=true)
  (a20:PySem.W.nsIn K mainGlobals "law" = some (some (.ref f20))) (l20:K.lookup f20=some ⟨oc20,od20,.func (PySem.W.fnOf "law" "law" (aP gQ) (aH gQ) (au gQ) .none kV20 dc20 pm20 an20 cd20 ct20),sl20⟩) (c20:PySem.W.codeIn K cd20 "law" = true) (k20:PySem.W.keepIn K (.ref f20)=true)
  (y_all:PySem.W.nsIn K mainGlobals "all" = some none)
  (y_bool:PySem.W.nsIn K mainGlobals "bool" = some none)
  (y_divmod:PySem.W.nsIn K mainGlobals "divmod" = some none)
  (y_int:PySem.W.nsIn K mainGlobals "int" = some none)
  (y_isinstance:PySem.W.nsIn K mainGlobals "isinstance" = some none)
  (y_len:PySem.W.nsIn K mainGlobals "len" = some none)
  (y_list:PySem.W.nsIn K mainGlobals "list" = some none)
  (y_max:PySem.W.nsIn K mainGlobals "max" = some none)
  (y_min:PySem.W.nsIn K mainGlobals "min" = some none)
  (y_range:PySem.W.nsIn K mainGlobals "range" = some none)
  (y_reversed:PySem.W.nsIn K mainGlobals "reversed" = some none)
  (y_set:PySem.W.nsIn K mainGlobals "set" = some none)
  (y_sorted:PySem.W.nsIn K mainGlobals "sorted" = some none)
  (y_tuple:PySem.W.nsIn K mainGlobals "tuple" = some none)
  : ∃ fd:FuncData,(∀ (s:Shared) (v:Value),BindsTo s fd ⟨[v],[]⟩ [("script",v)])/\∀ base:Heap,K.In base->base.Ns mainGlobals mg->cy l.prog w K mg base CX0 6 fa fd ["script"] (nW K):=by
 have e:=hfa.symm.trans (PySem.W.mg_of X G a20)
 cases e
 have F1:=bL (st:=i5) l1 c1 k1
 have m1:=PySem.W.mg_of X G a1
 have b1:=F1.binds (ps:=["one", "other"]) fun _ _ _ _ _ _ us hl=>match us,hl with | [_,_],_=>rfl
 have F2:=bL (st:=de) l2 c2 k2
 have m2:=PySem.W.mg_of X G a2
 have b2:=F2.binds (ps:=["web"]) fun _ _ _ _ _ _ us hl=>match us,hl with | [_],_=>rfl
 have F3:=bL (st:=df) l3 c3 k3
 have m3:=PySem.W.mg_of X G a3
 have b3:=F3.binds (ps:=["web", "one", "other"]) fun _ _ _ _ _ _ us hl=>match us,hl with | [_,_,_],_=>rfl
 have F4:=bL (st:=cP) l4 c4 k4
 have m4:=PySem.W.mg_of X G a4
 have b4:=F4.binds (ps:=["ring"]) fun _ _ _ _ _ _ us hl=>match us,hl with | [_],_=>rfl
 have F5:=bL (st:=cq) l5 c5 k5
 have m5:=PySem.W.mg_of X G a5
 have b5:=F5.binds (ps:=["near", "start", "goal"]) fun _ _ _ _ _ _ us hl=>match us,hl with | [_,_,_],_=>rfl
 have F6:=bL (st:=cE) l6 c6 k6
 have m6:=PySem.W.mg_of X G a6
 have b6:=F6.binds (ps:=["web", "near", "tie"]) fun _ _ _ _ _ _ us hl=>match us,hl with | [_,_,_],_=>rfl
 have F7:=bL (st:=cu) l7 c7 k7
 have m7:=PySem.W.mg_of X G a7
 have b7:=F7.binds (ps:=["ways"]) fun _ _ _ _ _ _ us hl=>match us,hl with | [_],_=>rfl
 have F8:=bL (st:=cv) l8 c8 k8
 have m8:=PySem.W.mg_of X G a8
 have b8:=F8.binds (ps:=["web", "ties"]) fun _ _ _ _ _ _ us hl=>match us,hl with | [_,_],_=>rfl
 have F9:=bL (st:=cF) l9 c9 k9
 have m9:=PySem.W.mg_of X G a9
 have b9:=F9.binds (ps:=["web"]) fun _ _ _ _ _ _ us hl=>match us,hl with | [_],_=>rfl
 have F10:=bL (st:=i6) l10 c10 k10
 have m10:=PySem.W.mg_of X G a10
 have b10:=F10.binds (ps:=["script", "k"]) fun _ _ _ _ _ _ us hl=>match us,hl with | [_,_],_=>rfl
 have F11:=bL (st:=i7) l11 c11 k11
 have m11:=PySem.W.mg_of X G a11
 have b11:=F11.binds (ps:=["cell", "salt"]) fun _ _ _ _ _ _ us hl=>match us,hl with | [_,_],_=>rfl
 have F12:=bL (st:=nA) l12 c12 k12
 have m12:=PySem.W.mg_of X G a12
 have b12:=F12.binds (ps:=["number", "most"]) fun _ _ _ _ _ _ us hl=>match us,hl with | [_,_],_=>rfl
 have F13:=bL (st:=i8) l13 c13 k13
 have m13:=PySem.W.mg_of X G a13
 have b13:=F13.binds (ps:=["number"]) fun _ _ _ _ _ _ us hl=>match us,hl with | [_],_=>rfl
 have F14:=bL (st:=fz) l14 c14 k14
 have m14:=PySem.W.mg_of X G a14
 have b14:=F14.binds (ps:=["web", "one", "other"]) fun _ _ _ _ _ _ us hl=>match us,hl with | [_,_,_],_=>rfl
 have F15:=bL (st:=dS) l15 c15 k15
 have m15:=PySem.W.mg_of X G a15
 have b15:=F15.binds (ps:=["web", "ring"]) fun _ _ _ _ _ _ us hl=>match us,hl with | [_,_],_=>rfl
 have F16:=bL (st:=gP) l16 c16 k16
 have m16:=PySem.W.mg_of X G a16
 have b16:=F16.binds (ps:=["ring"]) fun _ _ _ _ _ _ us hl=>match us,hl with | [_],_=>rfl
 have F17:=bL (st:=dU) l17 c17 k17
 have m17:=PySem.W.mg_of X G a17
 have b17:=F17.binds (ps:=["found"]) fun _ _ _ _ _ _ us hl=>match us,hl with | [_],_=>rfl
 have F18:=bL (st:=i9) l18 c18 k18
 have m18:=PySem.W.mg_of X G a18
 have b18:=F18.binds (ps:=["web", "at"]) fun _ _ _ _ _ _ us hl=>match us,hl with | [_,_],_=>rfl
 have F19:=bL (st:=dg) l19 c19 k19
 have m19:=PySem.W.mg_of X G a19
 have b19:=F19.binds (ps:=["number"]) fun _ _ _ _ _ _ us hl=>match us,hl with | [_],_=>rfl
 have F20:=bL (st:=gQ) l20 c20 k20
 have m20:=PySem.W.mg_of X G a20
 have z_all:=PySem.W.mg_none_of X G y_all
 have z_bool:=PySem.W.mg_none_of X G y_bool
 have z_divmod:=PySem.W.mg_none_of X G y_divmod
 have z_int:=PySem.W.mg_none_of X G y_int
 have z_isinstance:=PySem.W.mg_none_of X G y_isinstance
 have z_len:=PySem.W.mg_none_of X G y_len
 have z_list:=PySem.W.mg_none_of X G y_list
 have z_max:=PySem.W.mg_none_of X G y_max
 have z_min:=PySem.W.mg_none_of X G y_min
 have z_range:=PySem.W.mg_none_of X G y_range
 have z_reversed:=PySem.W.mg_none_of X G y_reversed
 have z_set:=PySem.W.mg_none_of X G y_set
 have z_sorted:=PySem.W.mg_none_of X G y_sorted
 have z_tuple:=PySem.W.mg_none_of X G y_tuple
 refine ⟨PySem.W.fnOf "law" "law" (aP gQ) (aH gQ) (au gQ) .none kV20 dc20 pm20 an20 cd20 ct20,fun s v => .of_eq rfl,fun base kb nb => ?_⟩
 have B:Blt mg:=⟨z_all,z_bool,z_divmod,z_int,z_isinstance,z_len,z_list,z_max,z_min,z_range,z_reversed,z_set,z_sorted,z_tuple⟩
 have cLDeal:Cal l.prog w K mg base 1 "_law_deal" ["cell", "salt"] jb:=⟨_,_,xt F11 B,m11,k11,b11⟩
 have cNearLists:Cal l.prog w K mg base 1 "near_lists" ["web"] gw:=⟨_,_,vp F2 z_range z_set z_sorted,m2,k2,b2⟩
 have cShortestOf:Cal l.prog w K mg base 1 "shortest_of" ["ways"] gC:=⟨_,_,lX F7 B,m7,k7,b7⟩
 have cRingForm:Cal l.prog w K mg base 1 "ring_form" ["ring"] jk:=⟨_,_,oY F4 B,m4,k4,b4⟩
 have cWayAbout:Cal l.prog w K mg base 1 "way_about" ["near", "start", "goal"] nH:=⟨_,_,oZ F5 B,m5,k5,b5⟩
 have cTieOf:Cal l.prog w K mg base 1 "tie_of" ["one", "other"] tR:=⟨_,_,yv F1 z_max z_min,m1,k1,b1⟩
 have cTiedTimes:Cal l.prog w K mg base 2 "tied_times" ["web", "one", "other"] dz:=⟨_,_,vx F3 cTieOf,m3,k3,b3⟩
 have cRingAlong:Cal l.prog w K mg base 3 "ring_along" ["web", "near", "tie"] gy:=⟨_,_,nK F6 B cWayAbout cTiedTimes,m6,k6,b6⟩
 have cLeastAlong:Cal l.prog w K mg base 4 "least_along" ["web", "ties"] nM:=⟨_,_,lY F8 B cNearLists cShortestOf cRingForm cRingAlong,m8,k8,b8⟩
 have cLeastRing:Cal l.prog w K mg base 5 "least_ring" ["web"] gD:=⟨_,_,nP F9 B cLeastAlong,m9,k9,b9⟩
 have cLCell:Cal l.prog w K mg base 1 "_law_cell" ["script", "k"] (ja K):=⟨_,_,xr F10 B,m10,k10,b10⟩
 have cLWide:Cal l.prog w K mg base 1 "_law_wide" ["number"] jg:=⟨_,_,xw F13 B,m13,k13,b13⟩
 have cLWeb:Cal l.prog w K mg base 1 "_law_web" ["number", "most"] jf:=⟨_,_,xv F12 B,m12,k12,b12⟩
 have cLWay:Cal l.prog w K mg base 1 "_law_way" ["web", "at"] ju:=⟨_,_,xE F18 B,m18,k18,b18⟩
 have cLHalves:Cal l.prog w K mg base 1 "_law_halves" ["number"] ff:=⟨_,_,rL F19 B,m19,k19,b19⟩
 have cLWholes:Cal l.prog w K mg base 1 "_law_wholes" ["found"] fe:=⟨_,_,rK F17 B,m17,k17,b17⟩
 have cLTimes:Cal l.prog w K mg base 1 "_law_times" ["web", "one", "other"] dz:=⟨_,_,ud F14 B,m14,k14,b14⟩
 have cLIsRing:Cal l.prog w K mg base 2 "_law_is_ring" ["web", "ring"] nU:=⟨_,_,rH F15 B cLTimes,m15,k15,b15⟩
 have cLForm:Cal l.prog w K mg base 1 "_law_form" ["ring"] gF:=⟨_,_,vz F16 B,m16,k16,b16⟩
 exact yA F20 B cLDeal cLeastRing cLCell cLWide cLWeb cLWay cLHalves cLWholes cLIsRing cLForm
theorem walk {l:PySem.W.OpenLaw} {q:Program} {loose:List Str} {XP:(Str->Option Value)->Heap->Prop} {YP:World->Heap->Prop} {d:DefRec} {K:Params->PySem.W.Frag} (hn:l.most=some 63) (hdf:d.params.defaults=[])
  (hY:∀ (w:World) (h:Heap),YP w h->(K w.params).In h)
  (F:∀ (w:World) (mg:Str->Option Value) (fa:Addr) (h:Heap),(K w.params).In h->h.Ns mainGlobals mg->mg d.name=some (.ref fa) →
   ∃ fd:FuncData,(∀ (s:Shared) (u:Value),BindsTo s fd ⟨[u],[]⟩ [("script",u)])/\∀ base:Heap,(K w.params).In base->base.Ns mainGlobals mg->cy l.prog w (K w.params) mg base CX0 6 fa fd ["script"] (nW (K w.params))) :
  PySem.W.WalkO q loose XP YP l.row.toRowW d [] (fun f vs=>PySem.call f vs) :=
 L2.uG (n:=63) (k:=6) (x := "script") (CX:=fun _=>CX0) (sp:=fun w=>nW (K w.params)) hn (by decide) hdf ⟨rfl,by decide,by decide⟩ hY F (fun _ _ a ns hl _ hS=>⟨a,ns,rfl,hS,hl,fun _=>rfl⟩) fun _ _ _ _ _ z=>z
end K09
def PySem.W.Fast.tw13889774304289247505:Nat:=0
def PySem.W.Fast.tw6271508683419746115:Nat:=0
def PySem.W.Fast.tw6745832210079317565:Nat:=0
def PySem.W.Fast.tw9196742293509853260:Nat:=0
def PySem.W.Fast.tw13893984279118562974:Nat:=0
def PySem.W.Fast.tw3916199609737605344:Nat:=0
def PySem.W.Fast.tw16230539890772808633:Nat:=0
def PySem.W.Fast.tw4981859765346662217:Nat:=0
def PySem.W.Fast.tw13234717517471274644:Nat:=0
def PySem.W.Fast.tw4303681571998443248:Nat:=0
def PySem.W.Fast.tw289657371806391526:Nat:=0
def PySem.W.Fast.tw17915393812870222751:Nat:=0
def PySem.W.Fast.tw8880447913748482318:Nat:=0
def PySem.W.Fast.tw5056502374492163764:Nat:=0
def PySem.W.Fast.tw954541618105040774:Nat:=0
def PySem.W.Fast.tw1650937429453085399:Nat:=0
def PySem.W.Fast.tw10370950325880033285:Nat:=0
def PySem.W.Fast.tw12692008458851725708:Nat:=0
def PySem.W.Fast.tw2085399074398811056:Nat:=0
def PySem.W.Fast.tw1586604107908251268:Nat:=0
def PySem.W.Fast.tw13123947616331540914:Nat:=0
def PySem.W.Fast.tw7477650284424445871:Nat:=0
def PySem.W.Fast.tw8744302124147646669:Nat:=0
def PySem.W.Fast.tw3286302220643956524:Nat:=0
def PySem.W.Fast.tw18332990245278518297:Nat:=0
def PySem.W.Fast.tw1998399020828087937:Nat:=0
def PySem.W.Fast.tw1140013170340304892:Nat:=0
def PySem.W.Fast.tw4882370118428217251:Nat:=0
def PySem.W.Fast.tw8108803680668822502:Nat:=0
def PySem.W.Fast.tw17459958197221477048:Nat:=0
def PySem.W.Fast.tw7521636884949261658:Nat:=0
def PySem.W.Fast.tw4680415142850049284:Nat:=0
def PySem.W.Fast.tw16458013264557888584:Nat:=0
def PySem.W.Fast.tw3891562637609051682:Nat:=0
def PySem.W.Fast.tw16946489197217969652:Nat:=0
def PySem.W.Fast.tw2849724710906113159:Nat:=0
def PySem.W.Fast.tw7918448150607130520:Nat:=0
def PySem.W.Fast.tw2483170869932855901:Nat:=0
def PySem.W.Fast.tw8325173140682204591:Nat:=0
def PySem.W.Fast.tw3611481953257591373:Nat:=0
def PySem.W.Fast.tw13512642339680327170:Nat:=0
def PySem.W.Fast.tw9861905761859332557:Nat:=0
def PySem.W.Fast.tw9070672854555574823:Nat:=0
def PySem.W.Fast.tw16263832729765295780:Nat:=0
def PySem.W.Fast.tw4592868639492779308:Nat:=0
def PySem.W.Fast.tw7971018669844164722:Nat:=0
def PySem.W.Fast.tw11850691871655952019:Nat:=0
def PySem.W.Fast.tw12736529624474426212:Nat:=0
open PySem PySem.W PyProof.Rows
set_option maxRecDepth 100000 in
set_option maxHeartbeats 0 in
theorem PySem.Challenge.cw_ringfell_k09_least_ring_holds : PySem.Challenge.rw_ringfell_k09_least_ring.Holds := by
 w_on; o_law; k_head; (case hw=>w_witness2)
 k_fill
 refine K09.walk (l:=PySem.Challenge.rw_ringfell_k09_least_ring) rfl rfl (fun w h Y=>PySem.W.kIn_of Y) ?F
 case F =>
  intro w mg fa h KX G hmg
  refine' K09.all_mk KX G hmg ?a1 ?l1 ?c1 ?k1 ?a2 ?l2 ?c2 ?k2 ?a3 ?l3 ?c3 ?k3 ?a4 ?l4 ?c4 ?k4 ?a5 ?l5 ?c5 ?k5 ?a6 ?l6 ?c6 ?k6 ?a7 ?l7 ?c7 ?k7 ?a8 ?l8 ?c8 ?k8 ?a9 ?l9 ?c9 ?k9 ?a10 ?l10 ?c10 ?k10 ?a11 ?l11 ?c11 ?k11 ?a12 ?l12 ?c12 ?k12 ?a13 ?l13 ?c13 ?k13 ?a14 ?l14 ?c14 ?k14 ?a15 ?l15 ?c15 ?k15 ?a16 ?l16 ?c16 ?k16 ?a17 ?l17 ?c17 ?k17 ?a18 ?l18 ?c18 ?k18 ?a19 ?l19 ?c19 ?k19 ?a20 ?l20 ?c20 ?k20 ?y_all ?y_bool ?y_divmod ?y_int ?y_isinstance ?y_len ?y_list ?y_max ?y_min ?y_range ?y_reversed ?y_set ?y_sorted ?y_tuple
  (case a1=>k_is)
  (case l1=>k_is)
  (case c1=>k_is)
  (case k1=>k_is)
  (case a2=>k_is)
  (case l2=>k_is)
  (case c2=>k_is)
  (case k2=>k_is)
  (case a3=>k_is)
  (case l3=>k_is)
  (case c3=>k_is)
  (case k3=>k_is)
  (case a4=>k_is)
  (case l4=>k_is)
  (case c4=>k_is)
  (case k4=>k_is)
  (case a5=>k_is)
  (case l5=>k_is)
  (case c5=>k_is)
  (case k5=>k_is)
  (case a6=>k_is)
  (case l6=>k_is)
  (case c6=>k_is)
  (case k6=>k_is)
  (case a7=>k_is)
  (case l7=>k_is)
  (case c7=>k_is)
  (case k7=>k_is)
  (case a8=>k_is)
  (case l8=>k_is)
  (case c8=>k_is)
  (case k8=>k_is)
  (case a9=>k_is)
  (case l9=>k_is)
  (case c9=>k_is)
  (case k9=>k_is)
  (case a10=>k_is)
  (case l10=>k_is)
  (case c10=>k_is)
  (case k10=>k_is)
  (case a11=>k_is)
  (case l11=>k_is)
  (case c11=>k_is)
  (case k11=>k_is)
  (case a12=>k_is)
  (case l12=>k_is)
  (case c12=>k_is)
  (case k12=>k_is)
  (case a13=>k_is)
  (case l13=>k_is)
  (case c13=>k_is)
  (case k13=>k_is)
  (case a14=>k_is)
  (case l14=>k_is)
  (case c14=>k_is)
  (case k14=>k_is)
  (case a15=>k_is)
  (case l15=>k_is)
  (case c15=>k_is)
  (case k15=>k_is)
  (case a16=>k_is)
  (case l16=>k_is)
  (case c16=>k_is)
  (case k16=>k_is)
  (case a17=>k_is)
  (case l17=>k_is)
  (case c17=>k_is)
  (case k17=>k_is)
  (case a18=>k_is)
  (case l18=>k_is)
  (case c18=>k_is)
  (case k18=>k_is)
  (case a19=>k_is)
  (case l19=>k_is)
  (case c19=>k_is)
  (case k19=>k_is)
  (case a20=>k_is)
  (case l20=>k_is)
  (case c20=>k_is)
  (case k20=>k_is)
  (case y_all=>k_is)
  (case y_bool=>k_is)
  (case y_divmod=>k_is)
  (case y_int=>k_is)
  (case y_isinstance=>k_is)
  (case y_len=>k_is)
  (case y_list=>k_is)
  (case y_max=>k_is)
  (case y_min=>k_is)
  (case y_range=>k_is)
  (case y_reversed=>k_is)
  (case y_set=>k_is)
  (case y_sorted=>k_is)
  (case y_tuple=>k_is)
